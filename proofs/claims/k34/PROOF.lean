
import PyProof.Rows.All
import Wide.All
import OpenK.AllK
import Wide.FinOn
import Lean
import PyProof.EqAt
import PyProof.EqKinds
import PyProof.TupleCall
import PyProof.NeData
import PyProof.ZipIter
import PyProof.WalksEnum
import PyProof.Rows.SetFrom
import PyProof.StrLawsTight
import PyProof.StrLawsChain
import PyProof.StrCalls2
import PyProof.ListStr
import PyProof.Rows.StrOrd
import KE.KRevIter
import PyProof.ExcInit
import PyProof.InstStoreFacts
import PyProof.ExcArgs
import PyProof.ExcAttrAll.ValueError
import PyProof.NsDelKeeps
import PyProof.RulesAs
import OpenK.KCls
import PyProof.Rows.TupAssign
import PyProof.StrLawsIn
import KE.KDictSum
import PyProof.DictWalks
import PyProof.Rows.CountFlat
import KE.KTryMore
import KE.KxWritten
import KE.KStrOpen
import KE.KSortTup
import KE.KNest
import PySem.Challenge.RW_turnleaf_k34_lines
set_option maxHeartbeats 4000000
set_option Elab.async false
set_option linter.all false
set_option maxRecDepth 100000
/-! THE HAND LAYER, for ints, bools, texts, own classes, LISTS and tuples (index, slices, in, append, pop ..), calls, loops. Paste it whole ahead of your own text; what your proof does not reach may be deleted. -/
namespace L2
open PySem PySem.Spec PyProof.Rows

/-- a key: an int or a str -/
abbrev Key := Sum Int Str
def keyIs : Key → Value → Bool
  | .inl k, v => Value.isInt k v
  | .inr x, v => Value.isStrOf x v
def keyH (w : World) : Key → Int
  | .inl k => hashInt k
  | .inr x => hashStr w x
theorem keyIs_shape : ∀ {k : Key} {v : Value}, keyIs k v = true → (∃ i t, k = Sum.inl i ∧ v = Value.int i t) ∨ (∃ x t, k = Sum.inr x ∧ v = Value.str x t)
  | .inl i, v, h => by
    obtain ⟨t, e⟩ := Value.isInt_shape (k := i) (v := v) h
    exact .inl ⟨i, t, rfl, e⟩
  | .inr x, v, h => by
    obtain ⟨t, e⟩ := Value.isStrOf_shape (x := x) (v := v) h
    exact .inr ⟨x, t, rfl, e⟩
theorem keyIs_int (i : Int) (t : Tok) : keyIs (.inl i) (.int i t) = true := by simp [keyIs, Value.isInt]
theorem keyIs_str (x : Str) (t : Tok) : keyIs (.inr x) (.str x t) = true := by simp [keyIs, Value.isStrOf]
theorem key_ll (a b : Int) : decide ((Sum.inl a : Key) = Sum.inl b) = (a == b) := by
  by_cases e : a = b
  · subst e; simp
  · have h : ¬ (Sum.inl a : Key) = Sum.inl b := fun q => e (Sum.inl.inj q)
    rw [decide_eq_false h]
    exact (beq_eq_false_iff_ne.mpr e).symm
theorem key_rr (a b : Str) : decide ((Sum.inr a : Key) = Sum.inr b) = decide (a = b) := by
  by_cases e : a = b
  · subst e; simp
  · have h : ¬ (Sum.inr a : Key) = Sum.inr b := fun q => e (Sum.inr.inj q)
    rw [decide_eq_false h, decide_eq_false e]
theorem key_lr (a : Int) (b : Str) : decide ((Sum.inl a : Key) = Sum.inr b) = false := decide_eq_false (fun q => nomatch q)
theorem key_rl (a : Str) (b : Int) : decide ((Sum.inr a : Key) = Sum.inl b) = false := decide_eq_false (fun q => nomatch q)

def mixKind (prog : Program) (w : World) : PySem.KeyKind prog w Key where
  is := keyIs
  hash := keyH w
  inj := fun v a b ha hb => by
    rcases keyIs_shape ha with ⟨i, t, rfl, rfl⟩ | ⟨x, t, rfl, rfl⟩
    · rcases keyIs_shape hb with ⟨j, u, rfl, e⟩ | ⟨y, u, rfl, e⟩
      · injection e with e1 _; rw [e1]
      · exact nomatch e
    · rcases keyIs_shape hb with ⟨j, u, rfl, e⟩ | ⟨y, u, rfl, e⟩
      · exact nomatch e
      · injection e with e1 _; rw [e1]
  byValue := fun k v h => by
    rcases keyIs_shape h with ⟨i, t, rfl, rfl⟩ | ⟨x, t, rfl, rfl⟩ <;> rfl
  pyHash := fun hv h => by
    rcases keyIs_shape hv with ⟨i, t, rfl, rfl⟩ | ⟨x, t, rfl, rfl⟩
    · exact wpAny_pyHash_int h
    · exact wpAny_pyHash_str h
  eqBool := fun hu hv h => by
    rcases keyIs_shape hu with ⟨i, t, rfl, rfl⟩ | ⟨x, t, rfl, rfl⟩
    · rcases keyIs_shape hv with ⟨j, u, rfl, rfl⟩ | ⟨y, u, rfl, rfl⟩
      · rw [key_ll] at h; exact wpAny_eqBool_int h
      · rw [key_lr] at h; exact SeqAt.EqAt.int_str i t y u _ _ _ _ h
    · rcases keyIs_shape hv with ⟨j, u, rfl, rfl⟩ | ⟨y, u, rfl, rfl⟩
      · rw [key_rl] at h; exact SeqAt.EqAt.str_int x t j u _ _ _ _ h
      · rw [key_rr] at h; exact wpAny_eqBool_str h
  «strs» := fun k x t v h => by
    rcases keyIs_shape h with ⟨i, u, rfl, e⟩ | ⟨y, u, rfl, e⟩
    · exact nomatch e
    · injection e with e1 _
      subst e1
      cases v <;> rfl

theorem mixKind_int (prog : Program) (w : World) (i : Int) (t : Tok) : (mixKind prog w).is (.inl i) (.int i t) = true := keyIs_int i t
theorem mixKind_str (prog : Program) (w : World) (x : Str) (t : Tok) : (mixKind prog w).is (.inr x) (.str x t) = true := keyIs_str x t
end L2

namespace L2
open PySem PySem.Spec PyProof.Rows

/-- a value, without the heap -/
inductive V where
  | non | bl (b : Bool) | int (i : Int) | str (x : Str) | byt (b : Array UInt8) | flt (b : UInt64) | ref (a : Addr) | ty (n : String)
  deriving DecidableEq

def RelV : V → Value → Prop
  | .non, u => u = Value.none
  | .bl b, u => u = Value.bool b
  | .int i, u => ∃ t, u = Value.int i t
  | .str x, u => ∃ t, u = Value.str x t
  | .byt b, u => ∃ t, u = Value.bytes b t
  | .flt b, u => ∃ t, u = Value.float b t
  | .ref a, u => u = Value.ref a
  | .ty n, u => u = Value.type n

abbrev Vals : List V → List Value → Prop := Paired RelV
theorem Vals.length {xs : List V} {us : List Value} (r : Vals xs us) : xs.length = us.length := Paired.length r
theorem Vals.get : ∀ {xs : List V} {us : List Value} {i : Nat} {x : V}, Vals xs us → xs[i]? = some x → ∃ u, us[i]? = some u ∧ RelV x u
  | _, _, _, _, .nil, e => by simp at e
  | _, _, 0, _, .cons r _, e => by simp at e; subst e; exact ⟨_, rfl, r⟩
  | _, _, i + 1, x, .cons _ t, e => by
    obtain ⟨u, h1, h2⟩ := Vals.get (i := i) (x := x) t (by simpa using e)
    exact ⟨u, by simpa using h1, h2⟩
theorem Vals.append : ∀ {xs ys : List V} {us ws : List Value}, Vals xs us → Vals ys ws → Vals (xs ++ ys) (us ++ ws)
  | _, _, _, _, .nil, s => s
  | _, _, _, _, .cons r t, s => .cons r (Vals.append t s)
def RelO : Option V → Option Value → Prop
  | some v, some u => RelV v u
  | none, none => True
  | _, _ => False
def KV {κ : Type} : List (κ × V) → List (κ × Value) → Prop := Paired fun (p : κ × V) (q : κ × Value) => p.1 = q.1 ∧ RelV p.2 q.2

/-- a key of a dict (00_mix): an int or a text -/
def kV : Key → V
  | .inl i => .int i
  | .inr x => .str x

/-- what stands at a tracked address -/
inductive HO where
  /-- a list -/
  | lst (xs : List V)
  /-- a tuple (never changes) -/
  | tup (xs : List V)
  /-- a dict whose keys are ints and texts; one whose keys are tuples of ints and texts (the empty one is both) -/
  | dK (kvs : List (Key × V)) | dT (kvs : List (List Key × V))
  /-- a set of ints: its members, its size -/
  | set (S : Int → Bool) (n : Nat)
  /-- an instance of the class at C, its dict at dx, its attributes -/
  | ins (C dx : Addr) (fs : List (Str × V))
  /-- the dict of the instance at x -/
  | own (x : Addr)
  /-- the dict of an exception -/
  | xd (fs : List (Str × V))
  /-- a bound method, f of x -/
  | met (f x : Addr)
  /-- a range object lo, lo + 1, .. below hi -/
  | rng (lo hi : Int)
  /-- a thing that is known to the object (the script; a dict while a loop walks it): read, never written while it is so -/
  | frz (o : Obj) (u : HO)
  /-- a code object's table -/
  | tbl (ps : Array Value)
  /-- any other thing, by what is true of its one object (a def of one's own: SetO a S n := HO.ext fun h => ..) -/
  | ext (φ : Heap → Prop)

abbrev Hp := Addr → Option HO
def upd (H : Hp) (a : Addr) (o : HO) : Hp := fun b => if b = a then some o else H b
theorem upd_same {H : Hp} {a : Addr} {o : HO} : upd H a o a = some o := by unfold upd; rw [if_pos rfl]
theorem upd_ne {H : Hp} {a b : Addr} {o : HO} (h : b ≠ a) : upd H a o b = H b := by unfold upd; rw [if_neg h]
/-- two objects of different content stand apart -/
theorem ne_of {H : Hp} {a b : Addr} {o u : HO} (h : H a = some o) (h' : H b = some u) (d : o ≠ u) : a ≠ b := by
  intro e; subst e; rw [h] at h'; exact d (Option.some.inj h')
theorem ne_of_none {H : Hp} {a b : Addr} {o : HO} (h : H a = some o) (h' : H b = none) : a ≠ b := by
  intro e; subst e; rw [h] at h'; cases h'

section
variable (P : Program) (w : World)
def ObjOk (H : Hp) (h : Heap) (a : Addr) : HO → Prop
  | .lst xs => xs.length ≤ sizeLine ∧ ∃ (its : List Value) (n : Nat), Vals xs its ∧ h.get? a = some { cls := .type "list", data := .seq its.toArray n }
  | .tup xs => xs.length ≤ sizeLine ∧ ∃ its : List Value, Vals xs its ∧ IsTup h a its.toArray
  | .dK kvs => kvs.length ≤ sizeLine ∧ (a == sysModules) = false ∧ ∃ vs, KV kvs vs ∧ h.DictOf (mixKind P w) a vs
  | .dT kvs => kvs.length ≤ sizeLine ∧ (a == sysModules) = false ∧ ∃ xs : List (List Key × Addr × Value),
      Paired (fun (p : List Key × V) (q : List Key × Addr × Value) => p.1 = q.1 ∧ H q.2.1 = some (.tup (p.1.map kV)) ∧ RelV p.2 q.2.2) kvs xs ∧
      ∃ o es ep, h.get? a = some o ∧ o.ExactDict ∧ o.data = .dict es ep ∧ es.toList = xs.map (entryOfKey (tupleKind (mixKind P w))) ∧ (xs.map (·.1)).Nodup
  | .set S n => h.SetOf (intKind P w) a S n
  | .ins C dx fs => H dx = some (.own a) ∧ fs.length ≤ 1000 ∧ dx ≠ a ∧ h.get? a = some (PySem.W.instObj C dx) ∧
      ∃ mA, h.Ns1 dx mA ∧ (∀ f, RelO (fs.lookup f) (mA f)) ∧ PySem.Within mA (fs.map (·.1))
  | .own _ => ∃ o, h.get? a = some o
  | .xd fs => ∃ mA, h.Ns1 a mA ∧ ∀ f, RelO (fs.lookup f) (mA f)
  | .rng lo hi => ∃ t u v, h.get? a = some { cls := .type "range", data := .fields #[.int lo t, .int hi u, .int 1 v] }
  | .frz o u => h.get? a = some o ∧ ObjOk H h a u
  | .tbl ps => ∃ qs : Array Value, h.get? a = some { cls := .none, data := .fields qs } ∧ TriplesOk qs.toList ∧ ∀ (p : Pos) (cv : Value), codeAmong p qs.toList = some cv → ∃ c oc u q t vs t', cv = .ref c ∧ codeAmong p ps.toList = some (.str q t) ∧ H c = some (.frz oc u) ∧ oc.data = .fields vs ∧ vs[1]? = some (.str q t')
  | .met f x => h.get? a = some (PySem.W.methodObj (.ref f) (.ref x))
  | .ext φ => φ h ∧ (∃ o, h.get? a = some o) ∧ ∀ h1 h2 : Heap, φ h1 → (∀ o, h1.get? a = some o → h2.get? a = some o) → φ h2
/-- the abstract heap is held -/
def HOk (H : Hp) (h : Heap) : Prop := ∀ a o, H a = some o → ObjOk P w H h a o
end

section
variable {P : Program} {w : World} {H H' : Hp} {h h' : Heap} {a : Addr} {o : HO}
theorem ObjOk.lt (x : ObjOk P w H h a o) : a < h.objs.size := by
  cases o with
  | lst xs => obtain ⟨_, _, _, _, e⟩ := x; exact Heap.lt_size e
  | tup xs => obtain ⟨_, _, _, p⟩ := x; exact p.lt
  | dK kvs => obtain ⟨_, _, _, _, o, _, _, e, _⟩ := x; exact Heap.lt_size e
  | dT kvs => obtain ⟨_, _, _, _, o, _, _, e, _⟩ := x; exact Heap.lt_size e
  | set S n => obtain ⟨o, _, _, _, e, _⟩ := x; exact Heap.lt_size e
  | ins C dx fs => obtain ⟨_, _, _, e, _⟩ := x; exact Heap.lt_size e
  | own y => obtain ⟨_, e⟩ := x; exact Heap.lt_size e
  | xd fs => obtain ⟨_, ⟨_, _, _, e, _⟩, _⟩ := x; exact Heap.lt_size e
  | rng lo hi => obtain ⟨_, _, _, e⟩ := x; exact Heap.lt_size e
  | frz ob u => obtain ⟨e, _⟩ := x; exact Heap.lt_size e
  | tbl ps => obtain ⟨_, e, _⟩ := x; exact Heap.lt_size e
  | met f y => exact Heap.lt_size (show h.get? a = some _ from x)
  | ext φ => obtain ⟨_, ⟨_, e⟩, _⟩ := x; exact Heap.lt_size e
theorem Paired.mapP {α β : Type} {F G : α → β → Prop} : ∀ {l₁ : List α} {l₂ : List β}, Paired F l₁ l₂ → (∀ a b, F a b → G a b) → Paired G l₁ l₂
  | _, _, .nil, _ => .nil
  | _, _, .cons r t, f => .cons (f _ _ r) (Paired.mapP t f)
/-- what an object's description leans on: its own object, its own dict, the tuples -/
theorem ObjOk.stay (x : ObjOk P w H h a o) (k : ∀ b u, (b = a ∨ H b = some (.own a)) → h.get? b = some u → h'.get? b = some u)
    (ho : ∀ b, H b = some (.own a) → H' b = some (.own a)) (ht : ∀ b xs, H b = some (.tup xs) → H' b = some (.tup xs)) (hz : ∀ b ob u, H b = some (.frz ob u) → H' b = some (.frz ob u) := by exact fun _ _ _ q => q) : ObjOk P w H' h' a o := by
  induction o with
  | lst xs => obtain ⟨z, its, n, r, e⟩ := x; exact ⟨z, its, n, r, k _ _ (.inl rfl) e⟩
  | tup xs => obtain ⟨z, its, r, ob, e, c⟩ := x; exact ⟨z, its, r, ob, k _ _ (.inl rfl) e, c⟩
  | dK kvs => obtain ⟨z, y, vs, r, ob, es, ep, e, c⟩ := x; exact ⟨z, y, vs, r, ob, es, ep, k _ _ (.inl rfl) e, c⟩
  | dT kvs =>
    obtain ⟨z, y, xs, r, ob, es, ep, e, c⟩ := x
    exact ⟨z, y, xs, Paired.mapP r fun p q z => ⟨z.1, ht _ _ z.2.1, z.2.2⟩, ob, es, ep, k _ _ (.inl rfl) e, c⟩
  | set S n => obtain ⟨ob, es, ep, t, e, c⟩ := x; exact ⟨ob, es, ep, t, k _ _ (.inl rfl) e, c⟩
  | ins C dx fs =>
    obtain ⟨d, z, ne, e, mA, ⟨od, es, ep, e2, c⟩, r⟩ := x
    exact ⟨ho _ d, z, ne, k _ _ (.inl rfl) e, mA, ⟨od, es, ep, k _ _ (.inr d) e2, c⟩, r⟩
  | own y => obtain ⟨ob, e⟩ := x; exact ⟨ob, k _ _ (.inl rfl) e⟩
  | xd fs => obtain ⟨mA, ⟨od, es, ep, e, c⟩, r⟩ := x; exact ⟨mA, ⟨od, es, ep, k _ _ (.inl rfl) e, c⟩, r⟩
  | rng lo hi => obtain ⟨t, u, v, e⟩ := x; exact ⟨t, u, v, k _ _ (.inl rfl) e⟩
  | frz ob u ih => obtain ⟨e, q⟩ := x; exact ⟨k _ _ (.inl rfl) e, ih q⟩
  | tbl ps =>
    obtain ⟨qs, e, tr, z⟩ := x
    refine ⟨qs, k _ _ (.inl rfl) e, tr, fun p cv hc => ?_⟩
    obtain ⟨c, oc, u, q, t, vs, t', e1, e2, e3, e4⟩ := z p cv hc
    exact ⟨c, oc, u, q, t, vs, t', e1, e2, hz _ _ _ e3, e4⟩
  | met f y =>
    have e : h.get? a = some (PySem.W.methodObj (.ref f) (.ref y)) := x
    show h'.get? a = some (PySem.W.methodObj (.ref f) (.ref y))
    exact k a _ (.inl rfl) e
  | ext φ => obtain ⟨p, ⟨o, e⟩, st⟩ := x; exact ⟨st _ _ p fun o q => k _ _ (.inl rfl) q, ⟨o, k _ _ (.inl rfl) e⟩, st⟩
theorem HOk.lt (x : HOk P w H h) (e : H a = some o) : a < h.objs.size := (x a o e).lt
theorem HOk.fresh (x : HOk P w H h) (e : h.objs.size ≤ a) : H a = none := by
  cases q : H a with
  | none => rfl
  | some u => exact absurd (Nat.lt_of_lt_of_le (x.lt q) e) (Nat.lt_irrefl _)
/-- every object of the heap is kept -/
theorem HOk.kept (x : HOk P w H h) (k : ∀ b u, h.get? b = some u → h'.get? b = some u) : HOk P w H h' := fun a o e =>
  (x a o e).stay (fun b u _ q => k b u q) (fun _ q => q) fun _ _ q => q
/-- a new object is laid and tracked -/
theorem HOk.laid (x : HOk P w H h) (k : ∀ b u, h.get? b = some u → h'.get? b = some u) (hp : h.objs.size ≤ a) (new : ObjOk P w (upd H a o) h' a o) : HOk P w (upd H a o) h' := fun b u e => by
  have hn := x.fresh hp
  by_cases hb : b = a
  · subst hb; rw [upd_same] at e; cases e; exact new
  · rw [upd_ne hb] at e
    exact (x b u e).stay (fun c v _ q => k c v q) (fun c q => by rw [upd_ne (ne_of_none q hn)]; exact q) (fun c xs q => by rw [upd_ne (ne_of_none q hn)]; exact q) fun c ob v q => by rw [upd_ne (ne_of_none q hn)]; exact q
end

/-- what may be read as u: it is u, or a known u -/
def Rd (H : Hp) (a : Addr) (u : HO) : Prop := H a = some u ∨ ∃ o, H a = some (.frz o u)
theorem Rd.ok {P : Program} {w : World} {H : Hp} {h : Heap} {a : Addr} {u : HO} (r : Rd H a u) (x : HOk P w H h) : ObjOk P w H h a u := by
  rcases r with r | ⟨o, r⟩
  · exact x a u r
  · obtain ⟨_, q⟩ := x a _ r
    exact q
/-- what may be written -/
def Mut : Option HO → Prop
  | some (.lst _) => True
  | some (.dK _) => True
  | some (.dT _) => True
  | some (.set _ _) => True
  | some (.ins _ _ _) => True
  | some (.ext _) => True
  | _ => False
section
variable {P : Program} {w : World} {H : Hp} {h h' : Heap} {x e : Addr} {o' : HO}
/-- the object at e is changed: x itself, or the dict of the instance x -/
theorem HOk.write (ok : HOk P w H h) (mu : Mut (H x)) (he : e = x ∨ H e = some (.own x)) (k : ∀ b u, b ≠ e → h.get? b = some u → h'.get? b = some u) (heo : ∃ u, h'.get? e = some u)
    (new : ObjOk P w (upd H x o') h' x o') : HOk P w (upd H x o') h' := fun b u q => by
  have nown : ∀ c y, H c = some (.own y) → c ≠ x := fun c y r z => by subst z; rw [r] at mu; exact mu
  have ntup : ∀ c xs, H c = some (.tup xs) → c ≠ x := fun c xs r z => by subst z; rw [r] at mu; exact mu
  by_cases hb : b = x
  · subst hb; rw [upd_same] at q; cases q; exact new
  · rw [upd_ne hb] at q
    by_cases hbe : b = e
    · have q' : H b = some (.own x) := by
        rcases he with z | z
        · exact absurd (hbe.trans z) hb
        · rw [hbe]; exact z
      rw [q] at q'; cases q'
      obtain ⟨v, hv⟩ := heo
      exact ⟨v, by rw [hbe]; exact hv⟩
    · refine (ok b u q).stay (fun c v hc r => k c v ?_ r) (fun c r => by rw [upd_ne (nown c b r)]; exact r) (fun c xs r => by rw [upd_ne (ntup c xs r)]; exact r) fun c ob v r => by rw [upd_ne (fun z => by subst z; rw [r] at mu; exact mu)]; exact r
      rcases hc with rfl | hc
      · exact hbe
      · rintro rfl
        rcases he with z | z
        · exact nown c b hc z
        · rw [hc] at z; cases z; exact hb rfl
end

/-! ### kept unless tracked; of the frames at fs (the callers') the slots may change (an exception that passes writes there); of the records at ex (iterators) nothing is said -/
structure Un (fs ex : List Addr) (H H' : Hp) (h h' : Heap) : Prop where
  keep : ∀ b o, h.get? b = some o → H b = none → b ∉ fs → b ∉ ex → h'.get? b = some o
  slot : ∀ b o, h.get? b = some o → H b = none → b ∈ fs → b ∉ ex → ∃ sl, h'.get? b = some { o with slots := sl }
  free : ∀ b o, h.get? b = some o → H b = none → b ∉ ex → H' b = none
  there : ∀ b o, h.get? b = some o → b ∉ ex → ∃ o', h'.get? b = some o'
  tups : ∀ b xs, H b = some (.tup xs) → H' b = some (.tup xs)
  frzs : ∀ b o u, H b = some (.frz o u) → H' b = some (.frz o u)
  tbls : ∀ b ps, H b = some (.tbl ps) → ∃ more, H' b = some (.tbl (ps ++ more))
section
variable {fs fs' ex ex' : List Addr} {H H1 H2 : Hp} {h h1 h2 h' : Heap} {a x e : Addr} {o : HO}
theorem Un.any (u : Un fs ex H H1 h h1) {b : Addr} {ob : Obj} (q : h.get? b = some ob) (n : H b = none) (hx : b ∉ ex) : ∃ sl, h1.get? b = some { ob with slots := sl } := by
  by_cases hb : b ∈ fs
  · exact u.slot b ob q n hb hx
  · exact ⟨ob.slots, u.keep b ob q n hb hx⟩
theorem Un.kept (k : ∀ b u, h.get? b = some u → h'.get? b = some u) : Un fs ex H H h h' :=
  ⟨fun b ob q _ _ _ => k b ob q, fun b ob q _ _ _ => ⟨ob.slots, k b ob q⟩, fun _ _ _ n _ => n, fun b ob q _ => ⟨ob, k b ob q⟩, fun _ _ q => q, fun _ _ _ q => q, fun _ ps q => ⟨#[], by rw [q]; simp⟩⟩
theorem Un.refl : Un fs ex H H h h := Un.kept fun _ _ q => q
theorem Un.laid (k : ∀ b u, h.get? b = some u → h'.get? b = some u) (hp : h.objs.size ≤ a) (hn : H a = none) : Un fs ex H (upd H a o) h h' where
  keep := fun b u q _ _ _ => k b u q
  slot := fun b u q _ _ _ => ⟨u.slots, k b u q⟩
  free := fun b u q n _ => by rw [upd_ne (Nat.ne_of_lt (Nat.lt_of_lt_of_le (Heap.lt_size q) hp))]; exact n
  there := fun b u q _ => ⟨u, k b u q⟩
  tups := fun b xs q => by rw [upd_ne (ne_of_none q hn)]; exact q
  frzs := fun b u xs q => by rw [upd_ne (ne_of_none q hn)]; exact q
  tbls := fun b ps q => ⟨#[], by rw [upd_ne (ne_of_none q hn), q]; simp⟩
theorem Un.write (mu : Mut (H x)) (he : e = x ∨ H e = some (.own x)) (k : ∀ b u, b ≠ e → h.get? b = some u → h'.get? b = some u) (heo : ∃ u, h'.get? e = some u) : Un fs ex H (upd H x o) h h' := by
  have hx : ∀ b, H b = none → b ≠ x := fun b n z => by subst z; rw [n] at mu; exact mu
  have hb : ∀ b, H b = none → b ≠ e := fun b n z => by
    subst z
    rcases he with r | r
    · exact hx b n r
    · rw [n] at r; cases r
  have hm : ∀ b u, H b = some u → ¬ Mut (some u) → b ≠ x := fun b u q nm z => by subst z; rw [q] at mu; exact nm mu
  refine ⟨fun b u q n _ _ => k b u (hb b n) q, fun b u q n _ _ => ⟨u.slots, k b u (hb b n) q⟩, fun b u q n _ => by rw [upd_ne (hx b n)]; exact n, fun b u q _ => ?_,
    fun b xs q => by rw [upd_ne (hm b _ q fun z => z)]; exact q, fun b u xs q => by rw [upd_ne (hm b _ q fun z => z)]; exact q, fun b ps q => ⟨#[], by rw [upd_ne (hm b _ q fun z => z), q]; simp⟩⟩
  by_cases hbe : b = e
  · subst hbe; exact heo
  · exact ⟨u, k b u hbe q⟩
end

/-! ### the heap without what is tracked -/
def trk (h : Heap) (H : Hp) : List Addr := (List.range h.objs.size).filter fun a => (H a).isSome
def hidT (h : Heap) (H : Hp) : Heap := PySem.W.hideAll h (trk h H)
theorem hidT_size (h : Heap) (H : Hp) : (hidT h H).objs.size = h.objs.size := PySem.W.hideAll_size _ _
theorem hidT_get {h : Heap} {H : Hp} {b : Addr} {o : Obj} (e : h.get? b = some o) (n : H b = none) : (hidT h H).get? b = some o :=
  PySem.W.hideAll_get _ e fun hm => by
    have q : (H b).isSome = true := (List.mem_filter.mp hm).2
    rw [n] at q; simp at q
theorem of_hidT {h : Heap} {H : Hp} {b : Addr} {o : Obj} (e : (hidT h H).get? b = some o) : h.get? b = some o ∧ H b = none := by
  have e' : h.get? b = some o := PySem.W.of_hideAll (trk h H) e
  refine ⟨e', ?_⟩
  cases q : H b with
  | none => rfl
  | some x =>
    have hm : b ∈ trk h H := List.mem_filter.mpr ⟨List.mem_range.mpr (Heap.lt_size e'), by simp [q]⟩
    have z : (hidT h H).get? b = none := PySem.W.hideAll_none (trk h H) hm
    rw [z] at e; cases e

/-! ### OpenK's ledger, filled with every new object but one -/
def allNews (g h : Heap) (L : Addr) : List (Addr × Obj) := (List.range h.objs.size).filterMap fun a => if a = L ∨ (g.get? a).isSome = true then none else (h.get? a).map fun o => (a, o)
def rest (g h : Heap) (L d : Addr) : List (Addr × Obj) := (allNews g h L).filter fun p => decide (p.1 ≠ d)
end L2

namespace L2
open PySem PySem.Spec PyProof.Rows

/-- the module's facts, over the base: the heap at the law's entry without what is tracked there -/
structure Mod (K : PySem.W.Frag) (mg : Str → Option Value) (base : Heap) : Prop where
  kin : K.In base
  glob : base.Ns mainGlobals mg
  blt : ∃ mb, base.Ns builtinsNs mb ∧ ∀ x : Str, x ≠ "__name__" → mb x = bootBuiltins x
  nolimit : base.NoLimit

/-- the context: a def's body (or a comprehension's block) running. base: fixed through the whole law; s₀, H₀: the entry; outer: the frames whose slots others may change (a def's callers); stack: all frames that run;
   ex: iterators that were made ahead of the entry and are walked here (a comprehension's); fn: the names whose cells were made at the entry (a def: all; a comprehension's block: its own); calm: not within an except suite; pn: pins that every state bears; xe: what is wanted of an exception that leaves the code -/
structure Cx where
  prog : Program
  w : World
  K : PySem.W.Frag
  mg : Str → Option Value
  base : Heap
  A : Around
  N : List Str
  s₀ : Shared
  H₀ : Hp
  env : Env
  outer : List Env
  stack : List Env
  ex : List Addr
  fn : Str → Bool
  calm : Bool
  pn : List (Addr × Obj)
  xe : Value → Shared → Prop
/-- the callers' frames -/
def frs (l : List Env) : List Addr := l.filterMap (·.frame)
abbrev Cx.fs (X : Cx) : List Addr := frs X.outer

def Vis (sc : Scope) (x : Str) : Prop := sc.names.lookup x = some .local ∨ sc.names.lookup x = some .cell ∨ sc.names.lookup x = some .free
def Loc (sc : Scope) (x : Str) : Prop := sc.names.lookup x = some .local ∨ sc.names.lookup x = some .cell
def Look (env : Env) (h : Heap) (m : Str → Option Value) (x : Str) (u : Value) : Prop :=
  (env.kindOf x = some .local ∧ m x = some u) ∨ ((env.kindOf x = some .cell ∨ env.kindOf x = some .free) ∧ ∃ c, env.cells.lookup x = some c ∧ h.IsCell c (some u))

structure Cx.Ok (X : Cx) : Prop where
  mod : Mod X.K X.mg X.base
  kind : X.env.scope.kind = .function
  glob : X.env.globals = mainGlobals
  blt : X.env.builtins = builtinsNs
  above : X.s₀.heap.objs.size ≤ X.env.locals
  inj : ∀ x y c, X.env.cells.lookup x = some c → X.env.cells.lookup y = some c → x = y
  has : ∀ x, (X.env.kindOf x = some .cell ∨ X.env.kindOf x = some .free) → ∃ c, X.env.cells.lookup x = some c
  cab : ∀ x c, X.fn x = true → X.env.cells.lookup x = some c → X.s₀.heap.objs.size ≤ c
  hd : X.calm = true → X.A.handled = none
  frames : X.A.frames = some X.stack
  stk : X.stack = X.outer ∨ (X.stack = X.env :: X.outer ∧ X.env.frame = some X.env.locals)
  exf : ∀ b ∈ X.ex, b ≠ X.env.locals ∧ ∀ x c, X.env.cells.lookup x = some c → c ≠ b
  bs : ∀ b o, X.base.get? b = some o → X.s₀.heap.get? b = some o ∧ X.H₀ b = none
  bsz : X.base.objs.size ≤ X.s₀.heap.objs.size
  noex : ∀ b o, X.base.get? b = some o → b ∉ X.ex
  exfs : ∀ b ∈ X.ex, b ∉ X.fs
  funs : X.s₀.heap.FunFrames X.base X.outer
  frf : ∀ b ∈ X.fs, X.H₀ b = none

structure Inv (X : Cx) (pins : List (Addr × Obj)) (σ : List (Option V)) (H : Hp) (s : Shared) : Prop where
  ok : X.Ok
  os : s.os = X.s₀.os
  bare : AllBare s.gens
  base : Un X.fs X.ex X.H₀ H X.s₀.heap s.heap
  loc : ∃ m, s.heap.Ns X.env.locals m ∧ ∀ (i : Nat) (x : Str) (v : V), X.N[i]? = some x → σ[i]? = some (some v) → Vis X.env.scope x → ∃ u, RelV v u ∧ Look X.env s.heap m x u
  cell : ∀ x c, X.env.cells.lookup x = some c → ∃ v, s.heap.IsCell c v
  free : H X.env.locals = none
  freeC : ∀ x c, X.env.cells.lookup x = some c → H c = none
  pin : ∀ p ∈ X.pn ++ pins, s.heap.get? p.1 = some p.2 ∧ H p.1 = none ∧ p.1 ≠ X.env.locals ∧ p.1 ∉ X.fs ∧ ∀ v, p.2.data ≠ .cell v
  hok : HOk X.prog X.w H s.heap
  len : σ.length = X.N.length

section
variable {X : Cx} {pins : List (Addr × Obj)} {σ : List (Option V)} {H H' : Hp} {s : Shared} {h' : Heap}

theorem Cx.Ok.nofr (ok : X.Ok) {b : Addr} {o : Obj} (e : X.base.get? b = some o) : b ∉ X.fs := fun hb => by
  have := (ok.funs.mem hb).1
  rw [e] at this; cases this
theorem Inv.bs (I : Inv X pins σ H s) : ∀ b o, X.base.get? b = some o → s.heap.get? b = some o ∧ H b = none := fun b o e =>
  ⟨I.base.keep b o (I.ok.bs b o e).1 (I.ok.bs b o e).2 (I.ok.nofr e) (I.ok.noex b o e), I.base.free b o (I.ok.bs b o e).1 (I.ok.bs b o e).2 (I.ok.noex b o e)⟩
theorem Inv.bk (I : Inv X pins σ H s) : ∀ b o, X.base.get? b = some o → s.heap.get? b = some o := fun b o e => (I.bs b o e).1
theorem Inv.mod (I : Inv X pins σ H s) : Mod X.K X.mg X.base := I.ok.mod
theorem Inv.kIn (I : Inv X pins σ H s) : X.K.In s.heap := I.ok.mod.kin.keeps I.bk
theorem Inv.nolimit (I : Inv X pins σ H s) : s.heap.NoLimit := I.ok.mod.nolimit.keeps I.bk
theorem Inv.lt (I : Inv X pins σ H s) : X.env.locals < s.heap.objs.size := let ⟨_, hn, _⟩ := I.loc; hn.lt
theorem Inv.sz (I : Inv X pins σ H s) : X.s₀.heap.objs.size ≤ s.heap.objs.size := Nat.le_trans I.ok.above (Nat.le_of_lt I.lt)
theorem Inv.nofs (I : Inv X pins σ H s) {a : Addr} (h : s.heap.objs.size ≤ a) : a ∉ X.fs := fun hb => by
  obtain ⟨_, o, ho, _⟩ := I.ok.funs.mem hb
  exact absurd (Nat.lt_of_lt_of_le (Heap.lt_size ho) (Nat.le_trans I.sz h)) (Nat.lt_irrefl _)
theorem Inv.cne (I : Inv X pins σ H s) : ∀ x c, X.env.cells.lookup x = some c → c ≠ X.env.locals := fun x c e z => by
  obtain ⟨v, o, ho, hd⟩ := I.cell x c e
  obtain ⟨m, ⟨o', es, ep, ho', hd', _⟩, _⟩ := I.loc
  rw [z, ho'] at ho; cases ho; rw [hd'] at hd; cases hd
theorem Inv.funs (I : Inv X pins σ H s) : s.heap.FunFrames X.base X.outer := by
  have all : ∀ (l : List Env), (∀ b ∈ frs l, b ∈ X.fs) → X.s₀.heap.FunFrames X.base l → s.heap.FunFrames X.base l := by
    intro l
    induction l with
    | nil => intro _ _; trivial
    | cons env r ih =>
      intro hs hl
      obtain ⟨hk, ⟨L, o, hf, hn, ho, hd⟩, hr⟩ := hl
      have hL : L ∈ X.fs := hs L (by unfold frs; rw [List.filterMap_cons, hf]; exact List.mem_cons_self)
      obtain ⟨sl, e⟩ := I.base.slot L o ho (I.ok.frf L hL) hL fun z => I.ok.exfs L z hL
      exact ⟨hk, ⟨L, _, hf, hn, e, hd⟩, ih (fun b hb => hs b (by unfold frs; rw [List.filterMap_cons, hf]; exact List.mem_cons_of_mem _ hb)) hr⟩
  exact all X.outer (fun _ hb => hb) I.ok.funs

/-- the frames that run, for a call -/
theorem Inv.stack (I : Inv X pins σ H s) : s.heap.FunFrames X.base X.stack := by
  rcases I.ok.stk with e | ⟨e, hf⟩
  · rw [e]; exact I.funs
  · rw [e]
    obtain ⟨m, hn, _⟩ := I.loc
    refine .cons (by rw [I.ok.kind]; decide) hf hn ?_ I.funs
    exact Heap.get?_none_of_le (Nat.le_trans I.ok.bsz I.ok.above)
theorem Inv.stkSub (I : Inv X pins σ H s) : ∀ b ∈ frs X.stack, b ∈ X.env.locals :: X.fs := fun b hb => by
  rcases I.ok.stk with e | ⟨e, hf⟩
  · rw [e] at hb; exact List.mem_cons_of_mem _ hb
  · rw [e] at hb
    unfold frs at hb
    rw [List.filterMap_cons, hf] at hb
    exact hb
theorem Inv.stkFree (I : Inv X pins σ H s) : ∀ b ∈ frs X.stack, H b = none := fun b hb => by
  rcases List.mem_cons.mp (I.stkSub b hb) with e | hb
  · rw [e]; exact I.free
  · obtain ⟨_, o, ho, _⟩ := I.ok.funs.mem hb
    exact I.base.free b o ho (I.ok.frf b hb) fun z => I.ok.exfs b z hb

/-- THE STEP: the untracked objects but the frame and the records at ch are kept (the callers' frames up to slots), the frame's map is kept, the new abstract heap is held -/
theorem Inv.step {g' : Array GenState} {t' : Nat} {d' : Drawn} {ch : List Addr} (I : Inv X pins σ H s)
    (hch : ∀ b ∈ ch, (b ∈ X.ex ∨ X.s₀.heap.get? b = none) ∧ b ≠ X.env.locals ∧ (∀ x c, X.env.cells.lookup x = some c → c ≠ b) ∧ ∀ p ∈ X.pn ++ pins, p.1 ≠ b)
    (keep : ∀ b o, b ≠ X.env.locals → b ∉ X.fs → b ∉ ch → s.heap.get? b = some o → H b = none → h'.get? b = some o)
    (slot : ∀ b o, b ≠ X.env.locals → b ∈ X.fs → b ∉ ch → s.heap.get? b = some o → H b = none → ∃ sl, h'.get? b = some { o with slots := sl }) (free : ∀ b o, b ∉ ch → s.heap.get? b = some o → H b = none → H' b = none)
    (there : ∀ b o, b ∉ ch → s.heap.get? b = some o → ∃ o', h'.get? b = some o')
    (tups : ∀ b xs, H b = some (.tup xs) → H' b = some (.tup xs)) (frzs : ∀ b o u, H b = some (.frz o u) → H' b = some (.frz o u)) (tbls : ∀ b ps, H b = some (.tbl ps) → ∃ more, H' b = some (.tbl (ps ++ more)))
    (ns : ∀ m, s.heap.Ns X.env.locals m → h'.Ns X.env.locals m) (hok : HOk X.prog X.w H' h') (hg : AllBare g') :
    Inv X pins σ H' { s with heap := h', gens := g', drawn := d', toks := t' } := by
  have neL : ∀ b o, X.s₀.heap.get? b = some o → b ≠ X.env.locals := fun b o e => Nat.ne_of_lt (Nat.lt_of_lt_of_le (Heap.lt_size e) I.ok.above)
  have neC : ∀ b o, X.s₀.heap.get? b = some o → b ∉ X.ex → b ∉ ch := fun b o e hx hb => by
    rcases (hch b hb).1 with z | z
    · exact hx z
    · rw [e] at z; cases z
  have cellK : ∀ x c, X.env.cells.lookup x = some c → ∀ v, s.heap.IsCell c v → h'.IsCell c v := fun x c e v ⟨o, ho, hd⟩ => by
    have nch : c ∉ ch := fun z => (hch c z).2.2.1 x c e rfl
    by_cases hc : c ∈ X.fs
    · obtain ⟨sl, q⟩ := slot c o (I.cne x c e) hc nch ho (I.freeC x c e)
      exact ⟨_, q, hd⟩
    · exact ⟨o, keep c o (I.cne x c e) hc nch ho (I.freeC x c e), hd⟩
  refine ⟨I.ok, I.os, hg, ⟨fun b o e n hb hx => ?_, fun b o e n hb hx => ?_, fun b o e n hx => ?_, fun b o e hx => ?_, fun b xs e => tups b xs (I.base.tups b xs e), fun b o xs e => frzs b o xs (I.base.frzs b o xs e), fun b ps e => ?_⟩, ?_, fun x c e => ?_, ?_, fun x c e => ?_, fun p hp => ?_, hok, I.len⟩
  · exact keep b o (neL b o e) hb (neC b o e hx) (I.base.keep b o e n hb hx) (I.base.free b o e n hx)
  · obtain ⟨sl, e1⟩ := I.base.slot b o e n hb hx
    obtain ⟨sl', e2⟩ := slot b _ (neL b o e) hb (neC b o e hx) e1 (I.base.free b o e n hx)
    exact ⟨sl', e2⟩
  · obtain ⟨o', e1⟩ := I.base.there b o e hx
    exact free b o' (neC b o e hx) e1 (I.base.free b o e n hx)
  · obtain ⟨o', e1⟩ := I.base.there b o e hx
    exact there b o' (neC b o e hx) e1
  · obtain ⟨m1, e1⟩ := I.base.tbls b ps e
    obtain ⟨m2, e2⟩ := tbls b _ e1
    exact ⟨m1 ++ m2, by rw [e2, Array.append_assoc]⟩
  · obtain ⟨m, hn, hl⟩ := I.loc
    refine ⟨m, ns m hn, fun i x v e1 e2 e3 => ?_⟩
    obtain ⟨u, r, l⟩ := hl i x v e1 e2 e3
    refine ⟨u, r, ?_⟩
    rcases l with l | ⟨k, c, e, z⟩
    · exact .inl l
    · exact .inr ⟨k, c, e, cellK x c e _ z⟩
  · obtain ⟨v, z⟩ := I.cell x c e
    exact ⟨v, cellK x c e v z⟩
  · obtain ⟨m, ⟨o, _, _, ho, _⟩, _⟩ := I.loc
    exact free _ o (fun z => (hch _ z).2.1 rfl) ho I.free
  · obtain ⟨v, o, ho, hd⟩ := I.cell x c e
    exact free c o (fun z => (hch c z).2.2.1 x c e rfl) ho (I.freeC x c e)
  · obtain ⟨e, n, ne, nf, d⟩ := I.pin p hp
    have nch : p.1 ∉ ch := fun z => (hch p.1 z).2.2.2 p hp rfl
    exact ⟨keep p.1 p.2 ne nf nch e n, free p.1 p.2 nch e n, ne, nf, d⟩
/-- .. where the frame's own object is kept too -/
theorem Inv.un {t' : Nat} (I : Inv X pins σ H s) (u : Un X.fs [] H H' s.heap h') (hok : HOk X.prog X.w H' h') : Inv X pins σ H' { s with heap := h', toks := t' } := by
  obtain ⟨m, ⟨o, es, ep, ho, r⟩, _⟩ := id I.loc
  obtain ⟨sl, hL⟩ := u.any ho I.free (by simp)
  exact I.step (g' := s.gens) (d' := s.drawn) (ch := []) (fun _ z => nomatch z) (fun b o _ hb _ e n => u.keep b o e n hb (by simp)) (fun b o _ hb _ e n => u.slot b o e n hb (by simp)) (fun b o _ e n => u.free b o e n (by simp)) (fun b o _ e => u.there b o e (by simp)) u.tups u.frzs u.tbls (fun m' hm => by
    obtain ⟨o', es', ep', ho', r'⟩ := hm
    rw [ho] at ho'; cases ho'
    exact ⟨_, es', ep', hL, r'⟩) hok I.bare
/-- behind a call (or a comprehension's block): the slots of this frame may have changed too, the records at ch may have turned -/
theorem Inv.call {g' : Array GenState} {t' : Nat} {d' : Drawn} {ch : List Addr} (I : Inv X pins σ H s) (u : Un (frs X.stack) ch H H' s.heap h') (hok : HOk X.prog X.w H' h') (hg : AllBare g')
    (hch : ∀ b ∈ ch, (b ∈ X.ex ∨ X.s₀.heap.get? b = none) ∧ b ≠ X.env.locals ∧ (∀ x c, X.env.cells.lookup x = some c → c ≠ b) ∧ ∀ p ∈ X.pn ++ pins, p.1 ≠ b) :
    Inv X pins σ H' { s with heap := h', gens := g', drawn := d', toks := t' } := by
  obtain ⟨m, ⟨o, es, ep, ho, r⟩, _⟩ := id I.loc
  obtain ⟨sl, hL⟩ := u.any ho I.free fun z => (hch _ z).2.1 rfl
  exact I.step (ch := ch) hch (fun b o hL hb hc e n => u.keep b o e n (fun z => (List.mem_cons.mp (I.stkSub b z)).elim hL hb) hc) (fun b o _ _ hc e n => u.any e n hc) (fun b o hc e n => u.free b o e n hc) (fun b o hc e => u.there b o e hc) u.tups u.frzs u.tbls (fun m' hm => by
    obtain ⟨o', es', ep', ho', r'⟩ := hm
    rw [ho] at ho'; cases ho'
    exact ⟨_, es', ep', hL, r'⟩) hok hg
/-- an untracked record of ours (an iterator) has turned -/
theorem Inv.turned {t' : Nat} {it : Addr} (I : Inv X pins σ H s) (k : ∀ b o, b ≠ it → s.heap.get? b = some o → h'.get? b = some o) (hn : H it = none) (hL : it ≠ X.env.locals)
    (h1 : it ∈ X.ex ∨ X.s₀.heap.get? it = none) (h2 : ∀ x c, X.env.cells.lookup x = some c → c ≠ it) (h3 : ∀ p ∈ X.pn ++ pins, p.1 ≠ it) : Inv X pins σ H { s with heap := h', toks := t' } := by
  have nit : ∀ b u, H b = some u → b ≠ it := fun b u e z => by rw [z, hn] at e; cases e
  refine I.step (g' := s.gens) (d' := s.drawn) (ch := [it]) (fun b hb => ?_) (fun b o _ _ hc e _ => k b o (fun z => hc (by simp [z])) e) (fun b o _ _ hc e _ => ⟨o.slots, k b o (fun z => hc (by simp [z])) e⟩) (fun _ _ _ _ n => n)
    (fun b o hc e => ⟨o, k b o (fun z => hc (by simp [z])) e⟩) (fun _ _ e => e) (fun _ _ _ e => e) (fun b ps e => ⟨#[], by rw [e]; simp⟩) (fun m hm => ?_) (fun b u e => ?_) I.bare
  · have e : b = it := by simpa using hb
    subst e
    exact ⟨h1, hL, h2, h3⟩
  · obtain ⟨o, es, ep, ho, r⟩ := hm
    exact ⟨o, es, ep, k _ o (Ne.symm hL) ho, r⟩
  · refine (I.hok b u e).stay (fun c v hc q => k c v ?_ q) (fun _ q => q) fun _ _ q => q
    rcases hc with z | z
    · rw [z]; exact nit b u e
    · exact nit c _ z
theorem Inv.tok (I : Inv X pins σ H s) (t : Nat) : Inv X pins σ H { s with toks := t } := I.un (h' := s.heap) (t' := t) Un.refl I.hok
/-- all objects kept -/
theorem Inv.kept {t' : Nat} (I : Inv X pins σ H s) (k : ∀ b u, s.heap.get? b = some u → h'.get? b = some u) : Inv X pins σ H { s with heap := h', toks := t' } := I.un (Un.kept k) (I.hok.kept k)
/-- a new object laid and tracked -/
theorem Inv.laid {a : Addr} {o : HO} {t' : Nat} (I : Inv X pins σ H s) (k : ∀ b u, s.heap.get? b = some u → h'.get? b = some u) (hp : s.heap.objs.size ≤ a) (new : ObjOk X.prog X.w (upd H a o) h' a o) :
    Inv X pins σ (upd H a o) { s with heap := h', toks := t' } := I.un (Un.laid k hp (I.hok.fresh hp)) (I.hok.laid k hp new)
/-- an object written -/
theorem Inv.write {x e : Addr} {o : HO} {t' : Nat} (I : Inv X pins σ H s) (mu : Mut (H x)) (he : e = x ∨ H e = some (.own x)) (k : ∀ b u, b ≠ e → s.heap.get? b = some u → h'.get? b = some u) (heo : ∃ u, h'.get? e = some u)
    (new : ObjOk X.prog X.w (upd H x o) h' x o) : Inv X pins σ (upd H x o) { s with heap := h', toks := t' } := I.un (Un.write mu he k heo) (I.hok.write mu he k heo new)
theorem Inv.pins_of {pins' : List (Addr × Obj)} (I : Inv X pins σ H s) (h : ∀ p ∈ pins', s.heap.get? p.1 = some p.2 ∧ H p.1 = none ∧ p.1 ≠ X.env.locals ∧ p.1 ∉ X.fs ∧ ∀ v, p.2.data ≠ .cell v) : Inv X pins' σ H s :=
  ⟨I.ok, I.os, I.bare, I.base, I.loc, I.cell, I.free, I.freeC, fun p hp => (List.mem_append.mp hp).elim (fun z => I.pin p (List.mem_append_left _ z)) (h p), I.hok, I.len⟩

theorem nodup_ix {N : List Str} (hN : N.Nodup) {i j : Nat} {x : Str} (a : N[i]? = some x) (b : N[j]? = some x) : i = j := by
  obtain ⟨h1, e1⟩ := List.getElem?_eq_some_iff.mp a
  obtain ⟨h2, e2⟩ := List.getElem?_eq_some_iff.mp b
  exact (List.getElem_inj hN).mp (e1.trans e2.symm)

/-- a name is stored; what changed -/
theorem store_ok2 {M : Model} {A : Around} {E : Value → Shared → Prop} {i : Nat} {x : Str} {v : V} {u : Value} {Q : Unit → Shared → Prop} (I : Inv X pins σ H s) (hN : X.N.Nodup) (hi : X.N[i]? = some x) (hx : Loc X.env.scope x) (r : RelV v u)
    (h : ∀ s', Inv X pins (σ.set i (some v)) H s' → (∃ a, Heap.SameBut a s.heap s'.heap ∧ (a = X.env.locals ∨ X.env.cells.lookup x = some a)) → Q () s') (hf : X.fn x = true ∨ X.env.scope.names.lookup x = some .local := by first | exact .inl rfl | exact .inr rfl | assumption) : wpAny M A (storeName X.env x u) Q E s := by
  obtain ⟨m, hn, hl⟩ := id I.loc
  have hcls : (X.env.scope.kind == .class || (X.env.scope.kind == .module && X.env.locals != X.env.globals)) = false := by rw [I.ok.kind]; rfl
  have hiσ : i < σ.length := by rw [I.len]; exact (List.getElem?_eq_some_iff.mp hi).1
  have cne := I.cne
  have tracked : ∀ {a : Addr} {h' : Heap}, (∃ o, s.heap.get? a = some o ∧ H a = none) → Heap.SameBut a s.heap h' → HOk X.prog X.w H h' := fun {a h'} ha hs b ob e => by
    obtain ⟨_, _, hfree⟩ := ha
    refine (I.hok b ob e).stay (fun c w' hc q => (hs.2 c ?_).trans q) (fun _ q => q) fun _ _ q => q
    rintro rfl
    rcases hc with rfl | hc
    · rw [hfree] at e; cases e
    · rw [hfree] at hc; cases hc
  rcases hx with hk | hk
  · refine wpAny_storeName_local hk hn (fun h' hn' hs => ?_) hcls
    obtain ⟨oL, _, _, hoL, _⟩ := id hn
    refine h _ ⟨I.ok, I.os, I.bare, ⟨fun b o e n hb hx => ?_, fun b o e n hb hx => ?_, I.base.free, fun b o e hx => ?_, I.base.tups, I.base.frzs, I.base.tbls⟩, ⟨_, hn', fun j y v' e1 e2 e3 => ?_⟩, fun y c e => ?_, I.free, I.freeC, fun p hp => ?_, tracked ⟨oL, hoL, I.free⟩ hs, by simpa using I.len⟩ ⟨_, hs, .inl rfl⟩
    · exact (hs.2 b (Nat.ne_of_lt (Nat.lt_of_lt_of_le (Heap.lt_size e) I.ok.above))).trans (I.base.keep b o e n hb hx)
    · obtain ⟨sl, e1⟩ := I.base.slot b o e n hb hx
      exact ⟨sl, (hs.2 b (Nat.ne_of_lt (Nat.lt_of_lt_of_le (Heap.lt_size e) I.ok.above))).trans e1⟩
    · obtain ⟨o', e1⟩ := I.base.there b o e hx
      exact ⟨o', (hs.2 b (Nat.ne_of_lt (Nat.lt_of_lt_of_le (Heap.lt_size e) I.ok.above))).trans e1⟩
    · by_cases hj : j = i
      · subst hj
        rw [hi] at e1; cases e1
        rw [List.getElem?_set_self hiσ] at e2
        cases e2
        exact ⟨u, r, .inl ⟨hk, by simp⟩⟩
      · rw [List.getElem?_set_ne (Ne.symm hj)] at e2
        obtain ⟨u', r', q⟩ := hl j y v' e1 e2 e3
        refine ⟨u', r', ?_⟩
        rcases q with ⟨k, e⟩ | ⟨k, c, e, z⟩
        · refine .inl ⟨k, ?_⟩
          have : y ≠ x := fun e => hj (nodup_ix hN e1 (e ▸ hi))
          simp [this, e]
        · exact .inr ⟨k, c, e, z.sameBut hs (cne y c e)⟩
    · obtain ⟨w', z⟩ := I.cell y c e
      exact ⟨w', z.sameBut hs (cne y c e)⟩
    · obtain ⟨e, n, ne, nf, d⟩ := I.pin p hp
      exact ⟨(hs.2 p.1 ne).trans e, n, ne, nf, d⟩
  · have hfn : X.fn x = true := by
      rcases hf with z | z
      · exact z
      · rw [z] at hk; cases hk
    obtain ⟨c, hc⟩ := I.ok.has x (.inl hk)
    obtain ⟨w', z⟩ := I.cell x c hc
    refine wpAny_storeName_cell I.ok.kind hk hc z (fun h' hc' hs => ?_)
    obtain ⟨oc, hoc, hocd⟩ := id z
    refine h { s with heap := h' } ⟨I.ok, I.os, I.bare, ⟨fun b o e n hb hx => ?_, fun b o e n hb hx => ?_, I.base.free, fun b o e hx => ?_, I.base.tups, I.base.frzs, I.base.tbls⟩, ⟨m, hn.sameBut hs (Ne.symm (cne x c hc)), fun j y v' e1 e2 e3 => ?_⟩, fun y c' e => ?_, I.free, I.freeC, fun p hp => ?_, tracked ⟨oc, hoc, I.freeC x c hc⟩ hs, by simpa using I.len⟩ ⟨c, hs, .inr hc⟩
    · exact (hs.2 b (Nat.ne_of_lt (Nat.lt_of_lt_of_le (Heap.lt_size e) (I.ok.cab x c hfn hc)))).trans (I.base.keep b o e n hb hx)
    · obtain ⟨sl, e1⟩ := I.base.slot b o e n hb hx
      exact ⟨sl, (hs.2 b (Nat.ne_of_lt (Nat.lt_of_lt_of_le (Heap.lt_size e) (I.ok.cab x c hfn hc)))).trans e1⟩
    · obtain ⟨o', e1⟩ := I.base.there b o e hx
      exact ⟨o', (hs.2 b (Nat.ne_of_lt (Nat.lt_of_lt_of_le (Heap.lt_size e) (I.ok.cab x c hfn hc)))).trans e1⟩
    · by_cases hj : j = i
      · subst hj
        rw [hi] at e1; cases e1
        rw [List.getElem?_set_self hiσ] at e2
        cases e2
        exact ⟨u, r, .inr ⟨.inl hk, c, hc, hc'⟩⟩
      · rw [List.getElem?_set_ne (Ne.symm hj)] at e2
        obtain ⟨u', r', q⟩ := hl j y v' e1 e2 e3
        refine ⟨u', r', ?_⟩
        rcases q with q | ⟨k, c', e, z'⟩
        · exact .inl q
        · refine .inr ⟨k, c', e, z'.sameBut hs ?_⟩
          rintro rfl
          exact hj (nodup_ix hN e1 (I.ok.inj _ _ _ e hc ▸ hi))
    · by_cases hcc : c' = c
      · subst hcc; exact ⟨_, hc'⟩
      · obtain ⟨w2, z2⟩ := I.cell y c' e
        exact ⟨w2, z2.sameBut hs hcc⟩
    · obtain ⟨e, n, ne, nf, d⟩ := I.pin p hp
      refine ⟨(hs.2 p.1 ?_).trans e, n, ne, nf, d⟩
      intro q
      rw [q, hoc] at e
      have q' : oc = p.2 := Option.some.inj e
      exact d w' (by rw [← q']; exact hocd)
theorem store_ok {M : Model} {A : Around} {E : Value → Shared → Prop} {i : Nat} {x : Str} {v : V} {u : Value} {Q : Unit → Shared → Prop} (I : Inv X pins σ H s) (hN : X.N.Nodup) (hi : X.N[i]? = some x) (hx : Loc X.env.scope x) (r : RelV v u)
    (h : ∀ s', Inv X pins (σ.set i (some v)) H s' → Q () s') (hf : X.fn x = true ∨ X.env.scope.names.lookup x = some .local := by first | exact .inl rfl | exact .inr rfl | assumption) : wpAny M A (storeName X.env x u) Q E s :=
  store_ok2 I hN hi hx r (fun s' I' _ => h s' I') hf
/-- behind a call or a block, the state as it is -/
theorem Inv.call' {s' : Shared} {ch : List Addr} (I : Inv X pins σ H s) (ho : s'.os = s.os) (u : Un (frs X.stack) ch H H' s.heap s'.heap) (hok : HOk X.prog X.w H' s'.heap) (hg : AllBare s'.gens)
    (hch : ∀ b ∈ ch, (b ∈ X.ex ∨ X.s₀.heap.get? b = none) ∧ b ≠ X.env.locals ∧ (∀ x c, X.env.cells.lookup x = some c → c ≠ b) ∧ ∀ p ∈ X.pn ++ pins, p.1 ≠ b) : Inv X pins σ H' s' := by
  obtain ⟨h', g', d', t', o'⟩ := s'
  have e : o' = s.os := ho
  subst e
  exact I.call (g' := g') (t' := t') (d' := d') u hok hg hch
end

/-! ### the judgements -/
/-- an exception: its class, its own dict's address (where it has one), the abstract heap behind it -/
abbrev XK := Value → Option Addr × Bool → Hp → Prop
abbrev St := List (Option V)
abbrev VK := V → Hp → Prop
/-- an expression's reading; a test's; an argument list's -/
abbrev TE := St → Hp → VK → Prop
abbrev TT := St → Hp → (Bool → Hp → Prop) → Prop
abbrev TA := St → Hp → (List V → Hp → Prop) → Prop
/-- what is wanted behind a statement -/
structure Ends where
  nx : St → Hp → Prop
  rt : VK
  bk : St → Hp → Prop := fun _ _ => False
  ct : St → Hp → Prop := fun _ _ => False
abbrev TS := Ends → St → Hp → Prop

def EP (X : Cx) (pins : List (Addr × Obj)) (σ : St) (Q : VK) (u : Value) (s' : Shared) : Prop := ∃ v H', Inv X pins σ H' s' ∧ RelV v u ∧ Q v H'
def TP (X : Cx) (pins : List (Addr × Obj)) (σ : St) (Q : Bool → Hp → Prop) (b : Bool) (s' : Shared) : Prop := ∃ H', Inv X pins σ H' s' ∧ Q b H'
def AP (X : Cx) (pins : List (Addr × Obj)) (σ : St) (Q : List V → Hp → Prop) (us : List Value) (s' : Shared) : Prop := ∃ vs H', Inv X pins σ H' s' ∧ Vals vs us ∧ Q vs H'
def SP (X : Cx) (pins : List (Addr × Obj)) (D : Ends) (f : Flow) (s' : Shared) : Prop :=
  match f with
  | .next => ∃ σ' H', Inv X pins σ' H' s' ∧ D.nx σ' H'
  | .brk => ∃ σ' H', Inv X pins σ' H' s' ∧ D.bk σ' H'
  | .cont => ∃ σ' H', Inv X pins σ' H' s' ∧ D.ct σ' H'
  | .ret u => ∃ v σ' H', Inv X pins σ' H' s' ∧ RelV v u ∧ D.rt v H'

def PE (X : Cx) (e : Expr) (t : TE) : Prop :=
  ∀ (pins : List (Addr × Obj)) (s : Shared) (σ : St) (H : Hp) (Q : VK), Inv X pins σ H s → t σ H Q → wpAny (model X.prog X.w) X.A (eval e X.env) (EP X pins σ Q) X.xe s
def PT (X : Cx) (e : Expr) (t : TT) : Prop :=
  ∀ (pins : List (Addr × Obj)) (s : Shared) (σ : St) (H : Hp) (Q : Bool → Hp → Prop), Inv X pins σ H s → t σ H Q → wpAny (model X.prog X.w) X.A (isTrue e X.env (eval e X.env)) (TP X pins σ Q) X.xe s
/-- a test whatever its 'whole' is (and, or) -/
def PW (X : Cx) (e : Expr) (t : TT) : Prop :=
  ∀ (whole : Sem Value) (pins : List (Addr × Obj)) (s : Shared) (σ : St) (H : Hp) (Q : Bool → Hp → Prop), Inv X pins σ H s → t σ H Q → wpAny (model X.prog X.w) X.A (isTrue e X.env whole) (TP X pins σ Q) X.xe s
theorem PW.pt {X : Cx} {e : Expr} {t : TT} (h : PW X e t) : PT X e t := h _
/-- an argument list (no star), from the left -/
def PA (X : Cx) (es : List Expr) (t : TA) : Prop :=
  ∀ (pos : Pos) (pins : List (Addr × Obj)) (s : Shared) (σ : St) (H : Hp) (Q : List V → Hp → Prop), Inv X pins σ H s → t σ H Q → wpAny (model X.prog X.w) X.A (spliced (backTo pos (starEach es X.env))) (AP X pins σ Q) X.xe s
def PS (X : Cx) (st : Stmt) (t : TS) : Prop :=
  ∀ (pins : List (Addr × Obj)) (s : Shared) (σ : St) (H : Hp) (D : Ends), Inv X pins σ H s → t D σ H → wpAny (model X.prog X.w) X.A (exec st X.env) (SP X pins D) X.xe s
def PSs (X : Cx) (st : List Stmt) (t : TS) : Prop :=
  ∀ (pins : List (Addr × Obj)) (s : Shared) (σ : St) (H : Hp) (D : Ends), Inv X pins σ H s → t D σ H → wpAny (model X.prog X.w) X.A (execs st X.env) (SP X pins D) X.xe s
/-- weaken the end -/
theorem thn {α : Type} {t : Sem α} {Q Q' : α → Shared → Prop} {M : Model} {A : Around} {E : Value → Shared → Prop} {s : Shared} (h : wpAny M A t Q E s) (hQ : ∀ a s, Q a s → Q' a s) : wpAny M A t Q' E s := wpAny_mono h hQ fun _ _ x => x
end L2

namespace L2
open PySem PySem.Spec PyProof.Rows
section
variable {X : Cx}

/-! ### names and constants -/
def tVar (i : Nat) : TE := fun σ H Q => ∃ v, σ[i]? = some (some v) ∧ Q v H
def tC (v : V) : TE := fun _ H Q => Q v H
theorem pe_var {i : Nat} {x : Str} {pos : Pos} (hN : X.N[i]? = some x) (hv : Vis X.env.scope x) (hd : (x == ("__debug__" : Str)) = false := by decide) (hcd : (x == ("__classdict__" : Str)) = false := by decide) : PE X (.Name x pos) (tVar i) := by
  intro pins s σ H Q I h
  obtain ⟨v, e, h⟩ := h
  obtain ⟨m, hn, hl⟩ := I.loc
  obtain ⟨u, r, l⟩ := hl i x v hN e hv
  have fin : EP X pins σ Q u s := ⟨v, H, I, r, h⟩
  rcases l with ⟨hk, hm⟩ | ⟨hk, c, hc, hcell⟩
  · exact wpAny_Name (wpAny_loadName_local I.ok.kind hk hn hm fin) hd
  · rcases hk with hk | hk
    · exact wpAny_Name (wpAny_loadName_cell I.ok.kind hk hc hcell fin) hd
    · exact wpAny_Name (wpAny_loadName_free I.ok.kind hk hc hcell fin hcd) hd
theorem pe_int {i j pos} : PE X (.Constant (.int i) j pos) (tC (.int i)) := fun _ _ _ H _ I h => wpAny_Constant_int ⟨.int i, H, I.tok _, ⟨_, rfl⟩, h⟩
theorem pe_bl {b j pos} : PE X (.Constant (.bool b) j pos) (tC (.bl b)) := fun _ _ _ H _ I h => Constant_bool ⟨.bl b, H, I, rfl, h⟩
theorem pe_non {j pos} : PE X (.Constant .none j pos) (tC .non) := fun _ _ _ H _ I h => Constant_none ⟨.non, H, I, rfl, h⟩
theorem pe_str {x j pos} : PE X (.Constant (.str x) j pos) (tC (.str x)) := fun _ _ _ H _ I h => Calls.Constant_str ⟨.str x, H, I.tok _, ⟨_, rfl⟩, h⟩

/-- a global name of the def -/
def Gl (X : Cx) (x : Str) : Prop := X.env.kindOf x = some .globalImplicit
theorem ld_glob {E : Value → Shared → Prop} {pins : List (Addr × Obj)} {s : Shared} {σ : St} {H : Hp} {x : Str} {u : Value} {pos : Pos} {Q : Value → Shared → Prop} (I : Inv X pins σ H s) (hg : Gl X x) (hm : X.mg x = some u) (h : Q u s)
    (hd : (x == ("__debug__" : Str)) = false := by decide) : wpAny (model X.prog X.w) X.A (eval (.Name x pos) X.env) Q E s :=
  Calls.Name_function_global I.ok.kind hg (Calls.loadGlobal_global (by rw [I.ok.glob]; exact I.mod.glob.keeps I.bk) hm h) hd
theorem ld_blt {E : Value → Shared → Prop} {pins : List (Addr × Obj)} {s : Shared} {σ : St} {H : Hp} {x : Str} {u : Value} {pos : Pos} {Q : Value → Shared → Prop} (I : Inv X pins σ H s) (hg : Gl X x) (hm : X.mg x = none) (hv : bootBuiltins x = some u) (h : Q u s)
    (hn : x ≠ "__name__" := by decide) (hd : (x == ("__debug__" : Str)) = false := by decide) : wpAny (model X.prog X.w) X.A (eval (.Name x pos) X.env) Q E s := by
  obtain ⟨mb, h1, h2⟩ := I.mod.blt
  exact Calls.Name_function_global I.ok.kind hg (Calls.loadGlobal_builtin (by rw [I.ok.glob]; exact I.mod.glob.keeps I.bk) hm (by rw [I.ok.blt]; exact h1.keeps I.bk) ((h2 x hn).trans hv) h) hd
/-- a module's constant, a class, a function, as a value -/
theorem pe_glob {x : Str} {v : V} {u : Value} {pos : Pos} (hg : Gl X x) (hm : X.mg x = some u) (r : RelV v u) (hd : (x == ("__debug__" : Str)) = false := by decide) : PE X (.Name x pos) (tC v) :=
  fun _ _ _ H _ I h => ld_glob I hg hm ⟨v, H, I, r, h⟩ hd
theorem pe_bltn {x : Str} {v : V} {u : Value} {pos : Pos} (hg : Gl X x) (hm : X.mg x = none) (hv : bootBuiltins x = some u) (r : RelV v u) (hn : x ≠ "__name__" := by decide) (hd : (x == ("__debug__" : Str)) = false := by decide) : PE X (.Name x pos) (tC v) :=
  fun _ _ _ H _ I h => ld_blt I hg hm hv ⟨v, H, I, r, h⟩ hn hd

/-! ### arithmetic -/
/-- two ints -/
def t2I (ta tb : TE) (k : Int → Int → Hp → Prop) : St → Hp → Prop := fun σ H => ta σ H fun x H1 => tb σ H1 fun y H2 => ∃ i j, x = .int i ∧ y = .int j ∧ k i j H2
def tAdd (ta tb : TE) : TE := fun σ H Q => t2I ta tb (fun i j H2 => Q (.int (i + j)) H2) σ H
def tSub (ta tb : TE) : TE := fun σ H Q => t2I ta tb (fun i j H2 => Q (.int (i - j)) H2) σ H
/-- the left factor below 2^64 -/
def tMul (ta tb : TE) : TE := fun σ H Q => t2I ta tb (fun i j H2 => (-(2 ^ 64) < i ∧ i < 2 ^ 64) ∧ Q (.int (i * j)) H2) σ H
variable {a b : Expr} {ta tb : TE} {pos : Pos}
/-! ### comparisons -/
def PC (X : Cx) (op : CmpOp) (a b : Expr) (t : TE) : Prop :=
  ∀ (pins : List (Addr × Obj)) (s : Shared) (σ : St) (H : Hp) (Q : VK), Inv X pins σ H s → t σ H Q →
    wpAny (model X.prog X.w) X.A (eval a X.env) (fun v s₁ => wpAny (model X.prog X.w) X.A (eval b X.env) (fun u s₂ => wpAny (model X.prog X.w) X.A (compareOp op v u) (EP X pins σ Q) X.xe s₂) X.xe s₁) X.xe s
def tCmp (p : Int → Int → Bool) (ta tb : TE) : TE := fun σ H Q => t2I ta tb (fun i j H2 => Q (.bl (p i j)) H2) σ H
abbrev tLt : TE → TE → TE := tCmp fun i j => decide (i < j)
abbrev tLe : TE → TE → TE := tCmp fun i j => decide (i ≤ j)
abbrev tGt : TE → TE → TE := tCmp fun i j => decide (j < i)
abbrev tGe : TE → TE → TE := tCmp fun i j => decide (j ≤ i)
abbrev tEqI : TE → TE → TE := tCmp fun i j => decide (i = j)
abbrev tNeI : TE → TE → TE := tCmp fun i j => !decide (i = j)
/-- is None -/
def tIsN (ta : TE) : TE := fun σ H Q => ta σ H fun x H1 => Q (.bl (decide (x = .non))) H1
def tNotN (ta : TE) : TE := fun σ H Q => ta σ H fun x H1 => Q (.bl (!decide (x = .non))) H1
/-- a comparison as a value, as a test -/
def tB (t : TE) : TT := fun σ H Q => t σ H fun x H1 => ∃ c, x = .bl c ∧ Q c H1
/-! ### and, or, not -/
variable {tA tB' : TT} {rest : List Expr}
def tAnd (t u : TT) : TT := fun σ H Q => t σ H fun c H1 => if c = true then u σ H1 Q else Q false H1
def tOr (t u : TT) : TT := fun σ H Q => t σ H fun c H1 => if c = true then Q true H1 else u σ H1 Q
def tNot (t : TT) : TT := fun σ H Q => t σ H fun c H1 => Q (!c) H1
theorem pw_and1 (ha : PT X a tA) : PW X (.BoolOp .And [a] pos) tA := by
  intro wh pins s σ H Q I h
  refine isTrue_and (thn (ha pins s σ H Q I h) fun c s1 e => ?_)
  cases c with
  | true => exact isTrue_and_nil e
  | false => exact e
theorem pw_or1 (ha : PT X a tA) : PW X (.BoolOp .Or [a] pos) tA := by
  intro wh pins s σ H Q I h
  refine isTrue_or (thn (ha pins s σ H Q I h) fun c s1 e => ?_)
  cases c with
  | false => exact isTrue_or_nil e
  | true => exact e
theorem pw_and (ha : PT X a tA) (hb : PW X (.BoolOp .And (b :: rest) pos) tB') : PW X (.BoolOp .And (a :: b :: rest) pos) (tAnd tA tB') := by
  intro wh pins s σ H Q I h
  refine isTrue_and (thn (ha pins s σ H _ I h) fun c s1 ⟨H1, I1, q1⟩ => ?_)
  cases c with
  | true => exact hb wh pins s1 σ H1 Q I1 q1
  | false => exact ⟨H1, I1, q1⟩
theorem pw_or (ha : PT X a tA) (hb : PW X (.BoolOp .Or (b :: rest) pos) tB') : PW X (.BoolOp .Or (a :: b :: rest) pos) (tOr tA tB') := by
  intro wh pins s σ H Q I h
  refine isTrue_or (thn (ha pins s σ H _ I h) fun c s1 ⟨H1, I1, q1⟩ => ?_)
  cases c with
  | true => exact ⟨H1, I1, q1⟩
  | false => exact hb wh pins s1 σ H1 Q I1 q1
theorem pt_not (ha : PT X a tA) : PT X (.UnaryOp .Not a pos) (tNot tA) := by
  intro pins s σ H Q I h
  exact isTrue_not (ha pins s σ H (fun c H1 => Q (!c) H1) I h)
/-- .. as values (bools) -/
def tAndV (ta tb : TE) : TE := fun σ H Q => ta σ H fun x H1 => ∃ c, x = .bl c ∧ if c = true then tb σ H1 Q else Q (.bl false) H1
def tOrV (ta tb : TE) : TE := fun σ H Q => ta σ H fun x H1 => ∃ c, x = .bl c ∧ if c = true then Q (.bl true) H1 else tb σ H1 Q
def tNotV (ta : TE) : TE := fun σ H Q => ta σ H fun x H1 => ∃ c, x = .bl c ∧ Q (.bl (!c)) H1
theorem pe_one {op} {t : TE} (h : PE X a t) : PE X (.BoolOp op [a] pos) t := fun pins s σ H Q I hw => BoolOp_one (h pins s σ H Q I hw)
theorem pe_and (ha : PE X a ta) (hb : PE X (.BoolOp .And (b :: rest) pos) tb) : PE X (.BoolOp .And (a :: b :: rest) pos) (tAndV ta tb) := by
  intro pins s σ H Q I h
  refine BoolOp_and (thn (ha pins s σ H _ I h) fun v s1 ⟨x, H1, I1, r1, q1⟩ => ?_)
  obtain ⟨c, rfl, q1⟩ := q1
  cases r1
  refine wpAny_truthy_bool ?_
  cases c with
  | true => exact hb pins s1 σ H1 Q I1 q1
  | false => exact ⟨.bl false, H1, I1, rfl, q1⟩
theorem pe_not (ha : PE X a ta) : PE X (.UnaryOp .Not a pos) (tNotV ta) := by
  intro pins s σ H Q I h
  refine UnaryOp_ (thn (ha pins s σ H _ I h) fun v s1 ⟨x, H1, I1, r1, q1⟩ => ?_)
  obtain ⟨c, rfl, q1⟩ := q1
  cases r1
  exact not_of (wpAny_truthy_bool ⟨.bl (!c), H1, I1, rfl, q1⟩)
/-- a if t else b -/
def tIf (t : TT) (ta tb : TE) : TE := fun σ H Q => t σ H fun c H1 => if c = true then ta σ H1 Q else tb σ H1 Q
theorem pe_ifExp {c : Expr} (hc : PT X c tA) (ha : PE X a ta) (hb : PE X b tb) : PE X (.IfExp c a b pos) (tIf tA ta tb) := by
  intro pins s σ H Q I h
  refine wpAny_IfExp (thn (hc pins s σ H _ I h) fun d s1 ⟨H1, I1, q1⟩ => ?_)
  cases d with
  | true => exact ha pins s1 σ H1 Q I1 q1
  | false => exact hb pins s1 σ H1 Q I1 q1
end
end L2

namespace L2
open PySem PySem.Spec PyProof.Rows

/-! ### a list, a tuple that is read: tracked, frozen, or an object of the module -/
def SqL (K : PySem.W.Frag) (H : Hp) (a : Addr) (xs : List V) : Prop :=
  Rd H a (.lst xs) ∨
    ∃ (o : Obj) (its : Array Value) (n : Nat), K.lookup a = some o ∧ o.cls = .type "list" ∧ o.dict = none ∧ o.data = .seq its n ∧ its.size ≤ sizeLine ∧ Vals xs its.toList
def SqT (K : PySem.W.Frag) (H : Hp) (a : Addr) (xs : List V) : Prop :=
  Rd H a (.tup xs) ∨
    ∃ (o : Obj) (its : Array Value) (n : Nat), K.lookup a = some o ∧ o.cls = .type "tuple" ∧ o.data = .seq its n ∧ its.size ≤ sizeLine ∧ Vals xs its.toList
def absV : Value → Option V
  | .none => some .non
  | .bool b => some (.bl b)
  | .int i _ => some (.int i)
  | .str x _ => some (.str x)
  | .bytes b _ => some (.byt b)
  | .float b _ => some (.flt b)
  | .ref a => some (.ref a)
  | .type n => some (.ty n)
  | _ => none
theorem RelV.abs {x : V} {u : Value} (r : RelV x u) : absV u = some x := by
  cases x with
  | non => cases r; rfl
  | bl _ => cases r; rfl
  | int _ => obtain ⟨t, rfl⟩ := r; rfl
  | str _ => obtain ⟨t, rfl⟩ := r; rfl
  | byt _ => obtain ⟨t, rfl⟩ := r; rfl
  | flt _ => obtain ⟨t, rfl⟩ := r; rfl
  | ref _ => cases r; rfl
  | ty _ => cases r; rfl
theorem RelV.inj {x y : V} {u : Value} (r : RelV x u) (q : RelV y u) : x = y := Option.some.inj (r.abs.symm.trans q.abs)
theorem Vals.inj : ∀ {xs ys : List V} {us : List Value}, Vals xs us → Vals ys us → xs = ys
  | _, _, _, .nil, .nil => rfl
  | _, _, _, .cons r t, .cons r' t' => by rw [r.inj r', Vals.inj t t']
section
variable {X : Cx} {pins : List (Addr × Obj)} {σ : St} {H : Hp} {s : Shared} {a : Addr} {xs ys : List V}
theorem SqL.of {K : PySem.W.Frag} (h : H a = some (.lst xs)) : SqL K H a xs := .inl (.inl h)
theorem SqT.of {K : PySem.W.Frag} (h : H a = some (.tup xs)) : SqT K H a xs := .inl (.inl h)
theorem Inv.list (I : Inv X pins σ H s) (h : SqL X.K H a xs) : ∃ its : List Value, Vals xs its ∧ PlainL s.heap a its.toArray ∧ xs.length ≤ sizeLine := by
  rcases h with h | ⟨o, its, n, hk, hc, hd, hs, hz, r⟩
  · obtain ⟨z, its, n, r, e⟩ := h.ok I.hok
    exact ⟨its, r, ⟨_, n, e, rfl, rfl, rfl⟩, z⟩
  · refine ⟨its.toList, r, ⟨o, n, I.kIn a o hk, hc, hd, by simpa using hs⟩, ?_⟩
    have e := r.length
    simp only [Array.length_toList] at e
    omega
theorem Inv.tuple (I : Inv X pins σ H s) (h : SqT X.K H a xs) : ∃ its : List Value, Vals xs its ∧ IsTup s.heap a its.toArray ∧ xs.length ≤ sizeLine := by
  rcases h with h | ⟨o, its, n, hk, hc, hs, hz, r⟩
  · obtain ⟨z, its, r, p⟩ := h.ok I.hok
    exact ⟨its, r, p, z⟩
  · refine ⟨its.toList, r, ⟨o, I.kIn a o hk, hc, n, by simpa using hs⟩, ?_⟩
    have e := r.length
    simp only [Array.length_toList] at e
    omega
theorem Inv.list_inj (I : Inv X pins σ H s) (h : SqL X.K H a xs) (h' : SqL X.K H a ys) : xs = ys := by
  obtain ⟨its, r, ⟨o, n, e, _, _, d⟩, _⟩ := I.list h
  obtain ⟨its', r', ⟨o', n', e', _, _, d'⟩, _⟩ := I.list h'
  rw [e] at e'; cases e'
  rw [d] at d'
  injection d' with d1 _
  have : its = its' := by simpa using congrArg Array.toList d1
  subst this
  exact r.inj r'
end

/-! ### another wish about exceptions -/
abbrev Cx.wish (X : Cx) (E : Value → Shared → Prop) : Cx := { X with xe := E }
/-- no exception leaves -/
abbrev Cx.nox (X : Cx) : Cx := X.wish fun _ _ => False
section
variable {X : Cx} {pins : List (Addr × Obj)} {σ : St} {H : Hp} {s : Shared} {E : Value → Shared → Prop}
end

/-! ### blocks and small statements -/
section
variable {X : Cx} {st : Stmt} {rest : List Stmt} {t u : TS} {e : Expr} {te : TE} {pos : Pos}
def tNext : TS := fun D σ H => D.nx σ H
def tSeq (t u : TS) : TS := fun D σ H => t { D with nx := u D } σ H
theorem pss_nil : PSs X [] tNext := fun _ _ σ H _ I h => wpAny_execs_nil ⟨σ, H, I, h⟩
theorem pss_cons (h1 : PS X st t) (h2 : PSs X rest u) : PSs X (st :: rest) (tSeq t u) := by
  intro pins s σ H D I h
  refine wpAny_execs_cons (thn (h1 pins s σ H { D with nx := u D } I h) fun f s1 q => ?_)
  cases f with
  | next =>
    obtain ⟨σ', H', I', q⟩ := q
    exact h2 pins s1 σ' H' D I' q
  | ret v => exact q
  | brk => exact q
  | cont => exact q
theorem pss_one (h1 : PS X st t) : PSs X [st] t := by
  intro pins s σ H D I h
  refine wpAny_execs_cons (thn (h1 pins s σ H D I h) fun f s1 q => ?_)
  cases f with
  | next => exact wpAny_execs_nil q
  | ret v => exact q
  | brk => exact q
  | cont => exact q
def tBreak : TS := fun D σ H => D.bk σ H
def tCont : TS := fun D σ H => D.ct σ H
theorem ps_continue : PS X (.Continue pos) tCont := fun _ _ σ H _ I h => wpAny_Continue ⟨σ, H, I, h⟩
/-- in a def's body nothing is shown -/
theorem Inv.quiet {pins : List (Addr × Obj)} {σ : St} {H : Hp} {s : Shared} (I : Inv X pins σ H s) : interactive X.env = false := by simp [interactive, I.ok.kind]
/-- an expression whose value is dropped -/
def tDrop (te : TE) : TS := fun D σ H => te σ H fun _ H1 => D.nx σ H1
theorem ps_expr (he : PE X e te) (hs : swapsWith e none pos.line X.env = pure false := by rfl) : PS X (.Expr e pos) (tDrop te) := by
  intro pins s σ H D I h
  exact wpAny_Expr_any (thn (he pins s σ H _ I h) fun v s1 ⟨x, H1, I1, r1, q1⟩ => ⟨σ, H1, I1, q1⟩) I.quiet hs
def tRet (te : TE) : TS := fun D σ H => te σ H D.rt
theorem ps_ret (he : PE X e te) : PS X (.Return (some e) pos) (tRet te) := by
  intro pins s σ H D I h
  exact wpAny_Return_some (thn (he pins s σ H _ I h) fun v s1 ⟨x, H1, I1, r1, q1⟩ => ⟨x, σ, H1, I1, r1, q1⟩)
def tRetN : TS := fun D _ H => D.rt .non H
def tIfS (c : TT) (t u : TS) : TS := fun D σ H => c σ H fun b H1 => if b = true then t D σ H1 else u D σ H1
theorem ps_if {c : Expr} {a b : List Stmt} {tc : TT} (hc : PT X c tc) (ha : PSs X a t) (hb : PSs X b u) : PS X (.If c a b pos) (tIfS tc t u) := by
  intro pins s σ H D I h
  refine wpAny_If (thn (hc pins s σ H _ I h) fun d s1 ⟨H1, I1, q1⟩ => ?_)
  cases d with
  | true => exact ha pins s1 σ H1 D I1 q1
  | false => exact hb pins s1 σ H1 D I1 q1
/-- code that the proof never comes to -/
def tNever : TS := fun _ _ _ => False
end

/-! ### targets -/
abbrev TG := V → St → Hp → (St → Hp → Prop) → Prop
abbrev TGs := List V → St → Hp → (St → Hp → Prop) → Prop
def PG (X : Cx) (target : Expr) (t : TG) : Prop :=
  ∀ (pins : List (Addr × Obj)) (s : Shared) (σ : St) (H : Hp) (v : V) (u : Value) (Q : St → Hp → Prop), Inv X pins σ H s → RelV v u → t v σ H Q →
    wpAny (model X.prog X.w) X.A (assign target X.env u) (fun _ s' => ∃ σ' H', Inv X pins σ' H' s' ∧ Q σ' H') X.xe s
/-- several targets, one after another -/
def PGs (X : Cx) (ts : List Expr) (t : TGs) : Prop :=
  ∀ (pins : List (Addr × Obj)) (s : Shared) (σ : St) (H : Hp) (vs : List V) (us : List Value) (Q : St → Hp → Prop), Inv X pins σ H s → Vals vs us → t vs σ H Q →
    wpAny (model X.prog X.w) X.A (assignInOrder ((assignEach ts X.env).map (·.2)) us) (fun _ s' => ∃ σ' H', Inv X pins σ' H' s' ∧ Q σ' H') X.xe s
/-- o[i] = v, by values -/
abbrev TSet := V → V → V → Hp → (Hp → Prop) → Prop
def PSet (X : Cx) (t : TSet) : Prop :=
  ∀ (pins : List (Addr × Obj)) (s : Shared) (σ : St) (H : Hp) (o i v : V) (ov iv u : Value) (Q : Hp → Prop), Inv X pins σ H s → RelV o ov → RelV i iv → RelV v u → t o i v H Q →
    wpAny (model X.prog X.w) X.A (setItem ov iv u) (fun _ s' => ∃ H', Inv X pins σ H' s' ∧ Q H') X.xe s
/-- a op= b, by values -/
abbrev TIp := V → V → Hp → VK → Prop
def PIp (X : Cx) (op : Operator) (t : TIp) : Prop :=
  ∀ (pins : List (Addr × Obj)) (s : Shared) (σ : St) (H : Hp) (x y : V) (v u : Value) (Q : VK), Inv X pins σ H s → RelV x v → RelV y u → t x y H Q →
    wpAny (model X.prog X.w) X.A (inplaceOp op v u) (EP X pins σ Q) X.xe s
section
variable {X : Cx} {pos : Pos}
def gName (i : Nat) : TG := fun v σ H Q => Q (σ.set i (some v)) H
theorem pg_name {i : Nat} {x : Str} (hN : X.N.Nodup) (hi : X.N[i]? = some x) (hx : Loc X.env.scope x) (hf : X.fn x = true ∨ X.env.scope.names.lookup x = some .local := by first | exact .inl rfl | exact .inr rfl | assumption) : PG X (.Name x pos) (gName i) := by
  intro pins s σ H v u Q I r h
  exact wpAny_assign_Name (store_ok I hN hi hx r (fun s' I' => ⟨_, H, I', h⟩) hf)
def gNil : TGs := fun vs σ H Q => vs = [] ∧ Q σ H
def gCons (t : TG) (u : TGs) : TGs := fun vs σ H Q => ∃ v r, vs = v :: r ∧ t v σ H fun σ' H' => u r σ' H' Q
theorem pgs_nil : PGs X [] gNil := by
  intro pins s σ H vs us Q I r h
  obtain ⟨e, h⟩ := h
  subst e
  cases r
  exact assignInOrder_nil ⟨σ, H, I, h⟩
theorem pgs_cons {e : Expr} {es : List Expr} {t : TG} {u : TGs} (h1 : PG X e t) (h2 : PGs X es u)
    (hs : (assignEach (e :: es) X.env).map (·.2) = assign e X.env :: (assignEach es X.env).map (·.2) := by rfl) : PGs X (e :: es) (gCons t u) := by
  intro pins s σ H vs us Q I r h
  obtain ⟨v, vr, e1, h⟩ := h
  subst e1
  cases r with
  | cons r rr =>
    rw [hs]
    refine assignInOrder_cons (thn (h1 pins s σ H _ _ _ I r h) fun _ s1 ⟨σ1, H1, I1, q1⟩ => ?_)
    exact h2 pins s1 σ1 H1 _ _ Q I1 rr q1
/-- (a, b, ..) = a tuple of that length -/
def gTup (K : PySem.W.Frag) (n : Nat) (t : TGs) : TG := fun v σ H Q => ∃ a xs, v = .ref a ∧ SqT K H a xs ∧ xs.length = n ∧ t xs σ H Q
theorem pg_tup {es : List Expr} {k : Nat} {t : TGs} {n : Nat} (hc : X.calm = true) (h : PGs X es t)
    (hn : (assignEach es X.env).length = n := by rfl) (hst : (assignEach es X.env).findIdx? (·.1) = none := by rfl) : PG X (.Tuple es k pos) (gTup X.K n t) := by
  intro pins s σ H v u Q I r hw
  obtain ⟨a, xs, e1, hq, hl, hw⟩ := hw
  subst e1
  cases r
  obtain ⟨its, rv, ht, hz⟩ := I.tuple hq
  refine assign_Tuple_tuple (I.ok.hd hc) ht (by simp [hn, ← hl, rv.length]) hst fun h' hx => ?_
  have I1 : Inv X pins σ H { s with heap := h' } := I.kept (t' := s.toks) fun b o e => hx b o (Nat.ne_of_lt (Heap.lt_size e)) e
  exact h pins _ σ H xs _ Q I1 (by simpa using rv) hw
/-- o[i] = .. -/
def gSub (to ti : TE) (t : TSet) : TG := fun v σ H Q => to σ H fun o H1 => ti σ H1 fun i H2 => t o i v H2 fun H3 => Q σ H3
/-- target = value -/
def tAsg (te : TE) (g : TG) : TS := fun D σ H => te σ H fun x H1 => g x σ H1 D.nx
/-- name = value -/
theorem ps_set {i : Nat} {x : Str} {e : Expr} {te : TE} {pos' : Pos} (hN : X.N.Nodup) (hi : X.N[i]? = some x) (hx : Loc X.env.scope x) (he : PE X e te) (hs : swapsWith e (some (.Name x pos')) pos.line X.env = pure false := by rfl) (hf : X.fn x = true ∨ X.env.scope.names.lookup x = some .local := by first | exact .inl rfl | exact .inr rfl | assumption) :
    PS X (.Assign [.Name x pos'] e pos) (tAsg te (gName i)) := by
  intro pins s σ H D I h
  refine wpAny_Assign_Name (thn (he pins s σ H _ I h) fun v s1 ⟨y, H1, I1, r1, q1⟩ => ?_) hs
  exact store_ok I1 hN hi hx r1 (fun s2 I2 => ⟨_, H1, I2, q1⟩) hf
/-- a, b = x, y with plain local names: stored from the right; the pair itself is not tracked (the opening rows as in PyProof/Rows/TupAssign.lean:23) -/
def tPar (i j : Nat) (ta : TA) : TS := fun D σ H => ta σ H fun vs H1 => ∃ v w, vs = [v, w] ∧ D.nx ((σ.set i (some v)).set j (some w)) H1
/-- name op= e -/
def tAug (i : Nat) (te : TE) (ti : TIp) : TS := fun D σ H => ∃ x, σ[i]? = some (some x) ∧ te σ H fun y H1 => ti x y H1 fun z H2 => D.nx (σ.set i (some z)) H2
/-- o[i] op= e -/
def tAugS (to ti te : TE) (tget : V → V → Hp → VK → Prop) (tip : TIp) (tset : TSet) : TS := fun D σ H => to σ H fun o H1 => ti σ H1 fun i H2 => tget o i H2 fun x H3 => te σ H3 fun y H4 => tip x y H4 fun z H5 => tset o i z H5 fun H6 => D.nx σ H6
/-- o[i], by values -/
def PGet (X : Cx) (t : V → V → Hp → VK → Prop) : Prop :=
  ∀ (pins : List (Addr × Obj)) (s : Shared) (σ : St) (H : Hp) (o i : V) (ov iv : Value) (Q : VK), Inv X pins σ H s → RelV o ov → RelV i iv → t o i H Q →
    wpAny (model X.prog X.w) X.A (getItem ov iv) (EP X pins σ Q) X.xe s
/-- ints -/
def ipI (f : Int → Int → Int) : TIp := fun x y H Q => ∃ i j, x = .int i ∧ y = .int j ∧ Q (.int (f i j)) H
end

/-! ### while -/
section
variable {X : Cx} {pos : Pos}
/-- the invariant W with its measure -/
def tWhile (c : TT) (tb : TS) : TS := fun D σ H => ∃ W : Nat → St → Hp → Prop, (∃ m, W m σ H) ∧ ∀ m σ H, W m σ H →
  c σ H fun b H1 => if b = true then ∃ N : St → Hp → Prop, (∀ σ' H', N σ' H' → ∃ m', m' < m ∧ W m' σ' H') ∧ tb { D with nx := N, ct := N, bk := D.nx } σ H1 else D.nx σ H1
end

/-! ### what a loop or a comprehension walks -/
/-- at turn i: it yields x (the heap may grow), or it stops -/
structure It where
  go : Nat → Hp → Prop
  yld : Nat → Hp → V → Hp → Prop
  stop : Nat → Hp → Prop
/-- the iterator's own objects may turn: they are not the frame's, not pinned, younger than the entry (or a comprehension's own) -/
def FpOk (X : Cx) (pins : List (Addr × Obj)) (H : Hp) (b : Addr) : Prop :=
  H b = none ∧ b ≠ X.env.locals ∧ b ∉ X.fs ∧ (b ∈ X.ex ∨ X.s₀.heap.get? b = none) ∧ (∀ x c, X.env.cells.lookup x = some c → c ≠ b) ∧ ∀ p ∈ X.pn ++ pins, p.1 ≠ b
theorem Inv.fpOk {X : Cx} {pins : List (Addr × Obj)} {σ : St} {H H' : Hp} {s : Shared} {b : Addr} (I : Inv X pins σ H s) (hb : s.heap.objs.size ≤ b) (hn : H' b = none) : FpOk X pins H' b := by
  refine ⟨hn, Nat.ne_of_gt (Nat.lt_of_lt_of_le I.lt hb), I.nofs hb, .inr (Heap.get?_none_of_le (Nat.le_trans I.sz hb)), fun x c e z => ?_, fun p hp z => ?_⟩
  · obtain ⟨v, q⟩ := I.cell x c e
    exact absurd (Nat.lt_of_lt_of_le q.lt (by rw [z]; exact hb)) (Nat.lt_irrefl _)
  · exact absurd (Nat.lt_of_lt_of_le (Heap.lt_size (I.pin p hp).1) (by rw [z]; exact hb)) (Nat.lt_irrefl _)
structure Turn (P : Program) (w : World) (K : PySem.W.Frag) (tg : Expr) (J : It) (fp : List Addr) (it : Addr) (tn : Nat → Heap → Prop) : Prop where
  mem : it ∈ fp
  obj : ∀ i h, tn i h → ∀ b ∈ fp, ∃ o, h.get? b = some o ∧ ∀ v, o.data ≠ .cell v
  keep : ∀ i h h', tn i h → (∀ b ∈ fp, ∀ o, h.get? b = some o → h'.get? b = some o) → tn i h'
  item : ∀ (X : Cx), X.prog = P → X.w = w → X.K = K → X.calm = true → ∀ (i : Nat) (pins : List (Addr × Obj)) (s : Shared) (σ : St) (H : Hp) (E : Value → Shared → Prop), Inv X pins σ H s → (∀ b ∈ fp, FpOk X pins H b) → tn i s.heap → J.go i H →
    wpAny (model P w) X.A (pyNext (.ref it)) (fun r s1 => ∃ u, r = some u ∧
      wpAny (model P w) X.A (letOwnedTupleGo tg (.ref it) u) (fun _ s2 => ∃ x H', Inv X pins σ H' s2 ∧ RelV x u ∧ J.yld i H x H' ∧ tn (i + 1) s2.heap ∧ ∀ b ∈ fp, H' b = none) E s1) E s
  done : ∀ (X : Cx), X.prog = P → X.w = w → X.K = K → X.calm = true → ∀ (i : Nat) (pins : List (Addr × Obj)) (s : Shared) (σ : St) (H : Hp) (E : Value → Shared → Prop), Inv X pins σ H s → (∀ b ∈ fp, FpOk X pins H b) → tn i s.heap → J.stop i H →
    wpAny (model P w) X.A (pyNext (.ref it)) (fun r s1 => r = none ∧ Inv X pins σ H s1) E s
  self : ∀ (A : Around) (i : Nat) (s : Shared) (Q : Value → Shared → Prop) (E : Value → Shared → Prop), tn i s.heap → Q (.ref it) s → wpAny (model P w) A (pyIter (.ref it)) Q E s
abbrev TI := St → Hp → (It → Hp → Prop) → Prop
/-- an iterator has come -/
def PIE (X : Cx) (pins : List (Addr × Obj)) (σ : St) (tg : Expr) (R : It → Hp → Prop) (itv : Value) (s2 : Shared) : Prop :=
  ∃ (it : Addr) (fp : List Addr) (tn : Nat → Heap → Prop) (J : It) (H' : Hp), itv = .ref it ∧ Inv X pins σ H' s2 ∧ Turn X.prog X.w X.K tg J fp it tn ∧ tn 0 s2.heap ∧ (∀ b ∈ fp, FpOk X pins H' b) ∧ R J H'
def PI (X : Cx) (tg iter : Expr) (wi : TI) : Prop :=
  ∀ (pins : List (Addr × Obj)) (s : Shared) (σ : St) (H : Hp) (R : It → Hp → Prop), Inv X pins σ H s → wi σ H R →
    wpAny (model X.prog X.w) X.A (eval iter X.env) (fun v s1 => wpAny (model X.prog X.w) X.A (pyIter v) (PIE X pins σ tg R) X.xe s1) X.xe s

/-- the step ahead of the store is nothing for an iterator that keeps no tuple -/
theorem go_of {M : Model} {A : Around} {E : Value → Shared → Prop} {s : Shared} {tg : Expr} {it : Addr} {u : Value} {o : Obj} {n : String} {vs : Array Value} {Q : Unit → Shared → Prop} (ho : s.heap.get? it = some o) (hc : o.cls = .type n) (hd : o.data = .fields vs)
    (hn : ["enumerate", "zip", "dict_itemiterator", "dict_reverseitemiterator", "odict_iterator", "itertools.zip_longest", "itertools.pairwise"].contains n = false) (hQ : Q () s) : wpAny M A (letOwnedTupleGo tg (.ref it) u) Q E s := by
  unfold letOwnedTupleGo
  cases tg <;> first
    | exact wpAny_pure hQ
    | (cases u <;> first
        | exact wpAny_pure hQ
        | (refine wpAny_bind (wpAny_load ho ?_)
           rw [hc, hd]
           show wpAny M A (if (["enumerate", "zip", "dict_itemiterator", "dict_reverseitemiterator", "odict_iterator", "itertools.zip_longest", "itertools.pairwise"].contains n && vs[0]? == some (rawInt _)) = true then _ else _) Q E s
           rw [if_neg (by intro h; rw [hn, Bool.false_and] at h; cases h)]
           exact wpAny_pure hQ))

/-- the list at a, as it stands at each turn (a loop may append to it) -/
def Itl (K : PySem.W.Frag) (a : Addr) : It :=
  ⟨fun i H => ∃ xs x, SqL K H a xs ∧ xs[i]? = some x, fun i H x H' => H' = H ∧ ∀ xs, SqL K H a xs → xs[i]? = some x, fun i H => ∃ xs, SqL K H a xs ∧ xs.length ≤ i⟩
def Itt (K : PySem.W.Frag) (a : Addr) : It :=
  ⟨fun i H => ∃ xs x, SqT K H a xs ∧ xs[i]? = some x, fun i H x H' => H' = H ∧ ∀ xs, SqT K H a xs → xs[i]? = some x, fun i H => ∃ xs, SqT K H a xs ∧ xs.length ≤ i⟩
/-- lo, lo + 1, .. (n of them) -/
def Itr (lo : Int) (n : Nat) : It := ⟨fun i _ => i < n, fun i H x H' => H' = H ∧ x = .int (lo + i), fun i _ => n ≤ i⟩
theorem turn_list {P : Program} {w : World} {K : PySem.W.Frag} {tg : Expr} (a it : Addr) : Turn P w K tg (Itl K a) [it] it (fun i h => h.IsListIter it a i) where
  mem := by simp
  obj := fun i h st b hb => by
    have e : b = it := by simpa using hb
    subst e
    obtain ⟨o, e, c, d⟩ := st
    exact ⟨o, e, fun v z => by rw [d] at z; cases z⟩
  keep := fun i h h' st k => st.at fun o e => k it (by simp) o e
  item := by
    intro X hP hw hK hc i pins s σ H E I hf st hg
    subst hP hw hK
    obtain ⟨xs, x, hq, hx⟩ := hg
    obtain ⟨its, rv, p, hz⟩ := I.list hq
    obtain ⟨u, hu, ru⟩ := rv.get hx
    obtain ⟨f0, f1, f2, f3, f4, f5⟩ := hf it (by simp)
    refine wpAny_pyNext_list_item st p.isList (x := u) (by simpa using hu) fun h' st' sb => ?_
    have I1 : Inv X pins σ H { s with heap := h' } := I.turned (t' := s.toks) (fun b o hb e => (sb.2 b hb).trans e) f0 f1 f3 f4 f5
    obtain ⟨o, e, c, d⟩ := id st'
    exact ⟨u, rfl, go_of (s := { s with heap := h' }) e c d (by decide) ⟨x, H, I1, ru, ⟨rfl, fun ys hy => by rw [I.list_inj hy hq]; exact hx⟩, st', fun b hb => (hf b hb).1⟩⟩
  done := by
    intro X hP hw hK hc i pins s σ H E I hf st hg
    subst hP hw hK
    obtain ⟨xs, hq, hx⟩ := hg
    obtain ⟨its, rv, p, hz⟩ := I.list hq
    obtain ⟨f0, f1, f2, f3, f4, f5⟩ := hf it (by simp)
    have hl := rv.length
    exact wpAny_pyNext_list_end (I.ok.hd hc) st p.isList (by simp; omega) fun h' eb => ⟨rfl, I.turned (t' := s.toks) (fun b o hb e => eb b o hb e) f0 f1 f3 f4 f5⟩
  self := fun _ _ _ _ _ st h => wpAny_pyIter_listiter st h
theorem turn_range {P : Program} {w : World} {K : PySem.W.Frag} {tg : Expr} (it : Addr) (lo : Int) (n : Nat) : Turn P w K tg (Itr lo n) [it] it (fun i h => IsRangeIter h it (lo + (i : Nat) * 1) ((n : Int) - (i : Nat)) 1) where
  mem := by simp
  obj := fun i h st b hb => by
    have e : b = it := by simpa using hb
    subst e
    exact ⟨_, st, fun v z => by
      have z' : Data.fields _ = Data.cell v := z
      cases z'⟩
  keep := fun i h h' st k => k it (by simp) _ st
  item := by
    intro X hP hw hK hc i pins s σ H E I hf st hg
    subst hP hw hK
    obtain ⟨f0, f1, f2, f3, f4, f5⟩ := hf it (by simp)
    have W := Walks.range (prog := X.prog) (w := X.w) (I.ok.hd hc) it lo 1 n
    refine W.item i s _ _ hg st fun v h' tk hv st' kk => ?_
    obtain ⟨t, rfl⟩ := hv
    have I1 : Inv X pins σ H { s with heap := h', toks := tk } := I.turned (fun b o hb e => kk b o (by simpa using hb) e) f0 f1 f3 f4 f5
    refine ⟨_, rfl, go_of (s := { s with heap := h', toks := tk }) (n := "range_iterator") st' rfl rfl (by decide) ⟨.int (lo + i), H, I1, ⟨t, ?_⟩, ⟨rfl, rfl⟩, st', fun b hb => (hf b hb).1⟩⟩
    rw [Int.mul_one]
  done := by
    intro X hP hw hK hc i pins s σ H E I hf st hg
    subst hP hw hK
    obtain ⟨f0, f1, f2, f3, f4, f5⟩ := hf it (by simp)
    exact wpAny_pyNext_range_end (I.ok.hd hc) st (by have : n ≤ i := hg; omega) fun h' eb => ⟨rfl, I.turned (t' := s.toks) (fun b o hb e => eb b o hb e) f0 f1 f3 f4 f5⟩
  self := fun _ _ _ _ _ st h => wpAny_pyIter_rangeiter st h
end L2

namespace L2
open PySem PySem.Spec PyProof.Rows
section
variable {X : Cx} {tg : Expr}
def iList (K : PySem.W.Frag) (tl : TE) : TI := fun σ H R => tl σ H fun x H1 => ∃ a, x = .ref a ∧ (∃ xs, SqL K H1 a xs) ∧ R (Itl K a) H1
def iTup (K : PySem.W.Frag) (tl : TE) : TI := fun σ H R => tl σ H fun x H1 => ∃ a, x = .ref a ∧ (∃ xs, SqT K H1 a xs) ∧ R (Itt K a) H1
theorem pi_list {l : Expr} {tl : TE} (hl : PE X l tl) : PI X tg l (iList X.K tl) := by
  intro pins s σ H R I h
  refine thn (hl pins s σ H _ I h) fun v s1 ⟨x, H1, I1, r1, q1⟩ => ?_
  obtain ⟨a, e, ⟨xs, hq⟩, q⟩ := q1
  subst e
  cases r1
  obtain ⟨its, rv, p, hz⟩ := I1.list hq
  refine wpAny_pyIter_list p.isList ?_
  refine ⟨s1.heap.objs.size, [s1.heap.objs.size], _, _, H1, rfl, I1.kept (t' := s1.toks) fun b o e => Heap.get?_push_of_some _ e, turn_list a _, ⟨_, Heap.get?_push_size _ rfl, rfl, rfl⟩, fun b hb => ?_, q⟩
  have e : b = s1.heap.objs.size := by simpa using hb
  subst e
  exact I1.fpOk (Nat.le_refl _) (I1.hok.fresh (Nat.le_refl _))
/-- a range object just made, walked -/
theorem range_it {pins : List (Addr × Obj)} {σ : St} {H : Hp} {s : Shared} {R : It → Hp → Prop} {E : Value → Shared → Prop} {lo hi : Int} {t u v : Tok} {tk : Nat} (I : Inv X pins σ H s) (h1 : -(2 ^ 62) ≤ lo) (h2 : lo < 2 ^ 62) (h3 : -(2 ^ 62) ≤ hi) (h4 : hi < 2 ^ 62)
    (q : R (Itr lo (hi - lo).toNat) H) : wpAny (model X.prog X.w) X.A (pyIter (.ref s.heap.objs.size)) (PIE X pins σ tg R) E { s with heap := s.heap.push { cls := .type "range", data := .fields #[.int lo t, .int hi u, .int 1 v] }, toks := tk } := by
  refine wpAny_pyIter_range (IsRange.new ..) (small_one h1 h2 h3 h4) ?_
  have I1 : Inv X pins σ H { s with heap := s.heap.push { cls := .type "range", data := .fields #[.int lo t, .int hi u, .int 1 v] }, toks := tk } := I.kept fun b o e => Heap.get?_push_of_some _ e
  refine ⟨(s.heap.push { cls := .type "range", data := .fields #[.int lo t, .int hi u, .int 1 v] }).objs.size, [(s.heap.push { cls := .type "range", data := .fields #[.int lo t, .int hi u, .int 1 v] }).objs.size], _, _, H, rfl,
    I1.kept (t' := tk) fun b o e => Heap.get?_push_of_some _ e, turn_range _ lo (hi - lo).toNat, ?_, fun b hb => ?_, q⟩
  · have e1 : lo + ((0 : Nat) : Int) * 1 = lo := by simp
    have e2 : (((hi - lo).toNat : Nat) : Int) - ((0 : Nat) : Int) = Builtin.Range.rangeSize lo hi 1 := by rw [rangeSize_one]; split <;> omega
    show IsRangeIter _ _ (lo + ((0 : Nat) : Int) * 1) ((((hi - lo).toNat : Nat) : Int) - ((0 : Nat) : Int)) 1
    rw [e1, e2]
    exact Heap.get?_push_size _ rfl
  · have e : b = (s.heap.push { cls := .type "range", data := .fields #[.int lo t, .int hi u, .int 1 v] }).objs.size := by simpa using hb
    subst e
    exact I1.fpOk (Nat.le_refl _) (I1.hok.fresh (Nat.le_refl _))
def iRng1 (ta : TA) : TI := fun σ H R => ta σ H fun vs H1 => ∃ j : Int, vs = [.int j] ∧ -(2 ^ 62) ≤ j ∧ j < 2 ^ 62 ∧ R (Itr 0 j.toNat) H1
def iRng2 (ta : TA) : TI := fun σ H R => ta σ H fun vs H1 => ∃ i j : Int, vs = [.int i, .int j] ∧ (-(2 ^ 62) ≤ i ∧ i < 2 ^ 62 ∧ -(2 ^ 62) ≤ j ∧ j < 2 ^ 62) ∧ R (Itr i (j - i).toNat) H1
theorem pi_range1 {a : Expr} {ta : TA} {p pos : Pos} (hg : Gl X "range") (hm : X.mg "range" = none) (ha : PA X [a] ta) (hs : starEach [a] X.env = [(false, eval a X.env)] := by rfl) : PI X tg (.Call (.Name "range" p) [a] [] pos) (iRng1 ta) := by
  intro pins s σ H R I h
  refine Call_ (ld_blt I hg hm boot_range (PyProof.Rows.callWith_type1 (thn (ha pos pins s σ H _ I h) fun us s1 ⟨vs, H1, I1, r1, q1⟩ => ?_) hs rfl))
  obtain ⟨j, e, q1, q2, q⟩ := q1
  subst e
  cases r1 with
  | cons r rr =>
    cases rr
    obtain ⟨t, rfl⟩ := r
    exact call_range_1 (range_it I1 (by omega) (by omega) q1 q2 (by simpa using q))
theorem pi_range2 {a b : Expr} {ta : TA} {p pos : Pos} (hg : Gl X "range") (hm : X.mg "range" = none) (ha : PA X [a, b] ta) (hs : starEach [a, b] X.env = [(false, eval a X.env), (false, eval b X.env)] := by rfl) (hs2 : starEach [b] X.env = [(false, eval b X.env)] := by rfl) :
    PI X tg (.Call (.Name "range" p) [a, b] [] pos) (iRng2 ta) := by
  intro pins s σ H R I h
  refine Call_ (ld_blt I hg hm boot_range (PyProof.Rows.callWith_type1 (thn (ha pos pins s σ H _ I h) fun us s1 ⟨vs, H1, I1, r1, q1⟩ => ?_) (by rw [hs, hs2]) (by rw [hs2]; rfl)))
  obtain ⟨i, j, e, ⟨q1, q2, q3, q4⟩, q⟩ := q1
  subst e
  cases r1 with
  | cons r rr =>
    cases rr with
    | cons r' rr =>
      cases rr
      obtain ⟨t, rfl⟩ := r
      obtain ⟨t', rfl⟩ := r'
      exact call_range_2 (range_it I1 q1 q2 q3 q4 q)

/-! ### for -/
/-- W: the invariant by the turn and a measure; N: what the body is to reach -/
def tFor (wi : TI) (g : TG) (tb : TS) : TS := fun D σ H => wi σ H fun J H1 => ∃ W : Nat → Nat → St → Hp → Prop, (∃ m, W 0 m σ H1) ∧ ∀ i m σ H, W i m σ H →
  (J.stop i H ∧ D.nx σ H) ∨ (J.go i H ∧ ∃ N : St → Hp → Prop, (∀ σ' H', N σ' H' → ∃ m', m' < m ∧ W (i + 1) m' σ' H') ∧ ∀ x H', J.yld i H x H' → g x σ H' fun σ2 H2 => tb { D with nx := N, ct := N, bk := D.nx } σ2 H2)
/-- the records at fp as they stand -/
def pinsAt (fp : List Addr) (h : Heap) : List (Addr × Obj) := fp.filterMap fun b => (h.get? b).map fun o => (b, o)
theorem mem_pinsAt {fp : List Addr} {h : Heap} {b : Addr} {o : Obj} (hb : b ∈ fp) (e : h.get? b = some o) : (b, o) ∈ pinsAt fp h := List.mem_filterMap.mpr ⟨b, hb, by rw [e]; rfl⟩
theorem of_pinsAt {fp : List Addr} {h : Heap} {p : Addr × Obj} (hp : p ∈ pinsAt fp h) : p.1 ∈ fp ∧ h.get? p.1 = some p.2 := by
  obtain ⟨b, hb, e⟩ := List.mem_filterMap.mp hp
  cases q : h.get? b with
  | none => rw [q] at e; cases e
  | some o =>
    rw [q] at e
    have e' : (b, o) = p := Option.some.inj e
    subst e'
    exact ⟨hb, q⟩
theorem Inv.pinned {pins : List (Addr × Obj)} {σ : St} {H : Hp} {s : Shared} {fp : List Addr} (I : Inv X pins σ H s) (hf : ∀ b ∈ fp, FpOk X pins H b) (ho : ∀ b ∈ fp, ∃ o, s.heap.get? b = some o ∧ ∀ v, o.data ≠ .cell v) : Inv X (pins ++ pinsAt fp s.heap) σ H s :=
  I.pins_of fun p hp => (List.mem_append.mp hp).elim (fun z => I.pin p (List.mem_append_right _ z)) fun z => by
    obtain ⟨hb, e⟩ := of_pinsAt z
    obtain ⟨f0, f1, f2, _⟩ := hf p.1 hb
    obtain ⟨o, e', d⟩ := ho p.1 hb
    rw [e] at e'; cases e'
    exact ⟨e, f0, f1, f2, d⟩
theorem Inv.unpinned {pins pl : List (Addr × Obj)} {σ : St} {H : Hp} {s : Shared} (I : Inv X (pins ++ pl) σ H s) : Inv X pins σ H s := I.pins_of fun p hp => I.pin p (List.mem_append_right _ (List.mem_append_left _ hp))
theorem ps_for {iter : Expr} {body : List Stmt} {wi : TI} {g : TG} {tb : TS} {pos : Pos} (hp : PassesOwn (model X.prog X.w) X.A X.env X.xe) (hc : X.calm = true) (hi : PI X tg iter wi) (hg : PG X tg g) (hb : PSs X body tb)
    (hs : ∀ x, foldedSetIterable iter X.env x = pure x := by intro _; rfl) : PS X (.For tg iter body [] pos) (tFor wi g tb) := by
  intro pins s σ H D I h
  refine wpAny_For (thn (hi pins s σ H _ I h) fun v s1 h1 => thn h1 fun itv s2 h2 => ?_) hs
  obtain ⟨it, fp, tn, J, H2, e, I2, T, st2, f2, W, ⟨m0, w0⟩, turn⟩ := h2
  subst e
  -- what stays true of the iterator's objects through the loop
  have stat : ∀ {H' : Hp}, (∀ b ∈ fp, H' b = none) → ∀ b ∈ fp, FpOk X pins H' b := fun hn b hb => ⟨hn b hb, (f2 b hb).2⟩
  refine codeAny_forLoop_any (fun n s' => ∃ i σ' H', Inv X pins σ' H' s' ∧ tn i s'.heap ∧ (∀ b ∈ fp, H' b = none) ∧ W i n σ' H') ?_ m0 ⟨0, σ, H2, I2, st2, fun b hb => (f2 b hb).1, w0⟩
  rintro n s3 ⟨i, σ3, H3, I3, st3, fr3, w3⟩
  rcases turn i n σ3 H3 w3 with ⟨stop, qn⟩ | ⟨go, N, hN, step⟩
  · refine wpAny_passesOwn hp (thn (T.done X rfl rfl rfl hc i pins s3 σ3 H3 X.xe I3 (stat fr3) st3 stop) fun r s4 ⟨hr, I4⟩ => ?_)
    subst hr
    exact wpAny_execs_nil ⟨σ3, H3, I4, qn⟩
  · refine wpAny_passesOwn hp (thn (T.item X rfl rfl rfl hc i pins s3 σ3 H3 X.xe I3 (stat fr3) st3 go) fun r s4 ⟨u, hr, h4⟩ => ?_)
    subst hr
    refine wpAny_passesOwn hp (thn h4 fun _ s5 ⟨x, H5, I5, r5, y5, st5, fr5⟩ => ?_)
    have I5' := I5.pinned (stat fr5) (T.obj _ _ st5)
    refine wpAny_passesOwn hp (thn (hg _ s5 σ3 H5 x u _ I5' r5 (step x H5 y5)) fun _ s6 ⟨σ6, H6, I6, q6⟩ => ?_)
    refine wpAny_passesOwn hp (thn (hb _ s6 σ6 H6 _ I6 q6) fun f s7 q7 => ?_)
    have again : ∀ {σ7 : St} {H7 : Hp}, Inv X (pins ++ pinsAt fp s5.heap) σ7 H7 s7 → N σ7 H7 → ∃ m, m < n ∧ ∃ i σ' H', Inv X pins σ' H' s7 ∧ tn i s7.heap ∧ (∀ b ∈ fp, H' b = none) ∧ W i m σ' H' := fun {σ7 H7} I7 n7 => by
      obtain ⟨m', hm, w7⟩ := hN σ7 H7 n7
      refine ⟨m', hm, i + 1, σ7, H7, I7.unpinned, T.keep _ _ _ st5 fun b hb o e => (I7.pin (b, o) (List.mem_append_right _ (List.mem_append_right _ (mem_pinsAt hb e)))).1, fun b hb => ?_, w7⟩
      obtain ⟨o, e, d⟩ := T.obj _ _ st5 b hb
      exact (I7.pin (b, o) (List.mem_append_right _ (List.mem_append_right _ (mem_pinsAt hb e)))).2.1
    cases f with
    | next => obtain ⟨σ7, H7, I7, n7⟩ := q7; exact again I7 n7
    | cont => obtain ⟨σ7, H7, I7, n7⟩ := q7; exact again I7 n7
    | brk => obtain ⟨σ7, H7, I7, q7⟩ := q7; exact ⟨σ7, H7, I7.unpinned, q7⟩
    | ret v => obtain ⟨x7, σ7, H7, I7, r7, q7⟩ := q7; exact ⟨x7, σ7, H7, I7.unpinned, r7, q7⟩
end

/-! ### the forms one uses -/
/-- over a list that the body leaves as it is -/
theorem for_list {K : PySem.W.Frag} {a : Addr} {xs : List V} {g : TG} {tb : TS} {D : Ends} {σ : St} {H : Hp} (Pv : Nat → St → Hp → Prop) (h0 : Pv 0 σ H) (hl : ∀ i σ H, i ≤ xs.length → Pv i σ H → SqL K H a xs)
    (hs : ∀ i x σ H, xs[i]? = some x → Pv i σ H → g x σ H fun σ2 H2 => tb { D with nx := Pv (i + 1), ct := Pv (i + 1), bk := D.nx } σ2 H2) (hd : ∀ σ H, Pv xs.length σ H → D.nx σ H) :
    ∃ W : Nat → Nat → St → Hp → Prop, (∃ m, W 0 m σ H) ∧ ∀ i m σ H, W i m σ H →
      ((Itl K a).stop i H ∧ D.nx σ H) ∨ ((Itl K a).go i H ∧ ∃ N : St → Hp → Prop, (∀ σ' H', N σ' H' → ∃ m', m' < m ∧ W (i + 1) m' σ' H') ∧ ∀ x H', (Itl K a).yld i H x H' → g x σ H' fun σ2 H2 => tb { D with nx := N, ct := N, bk := D.nx } σ2 H2) := by
  refine ⟨fun i m σ H => m = xs.length - i ∧ i ≤ xs.length ∧ Pv i σ H, ⟨xs.length, by simp, Nat.zero_le _, h0⟩, ?_⟩
  rintro i m σ H ⟨rfl, hi, p⟩
  have q := hl i σ H hi p
  by_cases hlt : i < xs.length
  · refine .inr ⟨⟨xs, xs[i], q, by simp [hlt]⟩, Pv (i + 1), fun σ' H' p' => ⟨xs.length - (i + 1), by omega, rfl, hlt, p'⟩, fun x H' y => ?_⟩
    obtain ⟨e, y⟩ := y
    subst e
    exact hs i x σ _ (y xs q) p
  · have e : i = xs.length := by omega
    subst e
    exact .inl ⟨⟨xs, q, Nat.le_refl _⟩, hd σ H p⟩
theorem for_range {lo : Int} {n : Nat} {g : TG} {tb : TS} {D : Ends} {σ : St} {H : Hp} (Pv : Nat → St → Hp → Prop) (h0 : Pv 0 σ H)
    (hs : ∀ i σ H, i < n → Pv i σ H → g (.int (lo + i)) σ H fun σ2 H2 => tb { D with nx := Pv (i + 1), ct := Pv (i + 1), bk := D.nx } σ2 H2) (hd : ∀ σ H, Pv n σ H → D.nx σ H) :
    ∃ W : Nat → Nat → St → Hp → Prop, (∃ m, W 0 m σ H) ∧ ∀ i m σ H, W i m σ H →
      ((Itr lo n).stop i H ∧ D.nx σ H) ∨ ((Itr lo n).go i H ∧ ∃ N : St → Hp → Prop, (∀ σ' H', N σ' H' → ∃ m', m' < m ∧ W (i + 1) m' σ' H') ∧ ∀ x H', (Itr lo n).yld i H x H' → g x σ H' fun σ2 H2 => tb { D with nx := N, ct := N, bk := D.nx } σ2 H2) := by
  refine ⟨fun i m σ H => m = n - i ∧ i ≤ n ∧ Pv i σ H, ⟨n, by simp, Nat.zero_le _, h0⟩, ?_⟩
  rintro i m σ H ⟨rfl, hi, p⟩
  by_cases hlt : i < n
  · refine .inr ⟨hlt, Pv (i + 1), fun σ' H' p' => ⟨n - (i + 1), by omega, rfl, hlt, p'⟩, fun x H' y => ?_⟩
    obtain ⟨e, y⟩ := y
    subst e y
    exact hs i σ _ hlt p
  · have e : i = n := by omega
    subst e
    exact .inl ⟨Nat.le_refl _, hd σ H p⟩
end L2

namespace L2
open PySem PySem.Spec PyProof.Rows

abbrev R2 := V → V → Hp → VK → Prop
/-- a two-place operation on values: f is binaryOp op, inplaceOp op or compareOp op -/
def OpR (X : Cx) (f : Value → Value → Sem Value) (r : R2) : Prop :=
  ∀ (pins : List (Addr × Obj)) (s : Shared) (σ : St) (H : Hp) (x y : V) (v u : Value) (Q : VK), Inv X pins σ H s → RelV x v → RelV y u → r x y H Q →
    wpAny (model X.prog X.w) X.A (f v u) (EP X pins σ Q) X.xe s
/-- a one-place operation -/
def UnR (X : Cx) (f : Value → Sem Value) (r : V → Hp → VK → Prop) : Prop :=
  ∀ (pins : List (Addr × Obj)) (s : Shared) (σ : St) (H : Hp) (x : V) (v : Value) (Q : VK), Inv X pins σ H s → RelV x v → r x H Q →
    wpAny (model X.prog X.w) X.A (f v) (EP X pins σ Q) X.xe s
/-- a call of a value that is known (a builtin, a type) with values -/
def CallR (X : Cx) (f : Value) (r : List V → Hp → VK → Prop) : Prop :=
  ∀ (pins : List (Addr × Obj)) (s : Shared) (σ : St) (H : Hp) (xs : List V) (us : List Value) (Q : VK), Inv X pins σ H s → Vals xs us → r xs H Q →
    wpAny (model X.prog X.w) X.A (call f us) (EP X pins σ Q) X.xe s
/-- a value's truth -/
def TruR (X : Cx) (r : V → Hp → (Bool → Hp → Prop) → Prop) : Prop :=
  ∀ (pins : List (Addr × Obj)) (s : Shared) (σ : St) (H : Hp) (x : V) (v : Value) (Q : Bool → Hp → Prop), Inv X pins σ H s → RelV x v → r x H Q →
    wpAny (model X.prog X.w) X.A (truthy v) (TP X pins σ Q) X.xe s

def tOp (r : R2) (ta tb : TE) : TE := fun σ H Q => ta σ H fun x H1 => tb σ H1 fun y H2 => r x y H2 Q
def tUn (r : V → Hp → VK → Prop) (ta : TE) : TE := fun σ H Q => ta σ H fun x H1 => r x H1 Q
/-- ints in, under C, and a value out -/
def rI (C : Int → Int → Prop) (g : Int → Int → V) : R2 := fun x y H Q => ∃ i j, x = .int i ∧ y = .int j ∧ C i j ∧ Q (g i j) H
def rI0 (g : Int → Int → V) : R2 := fun x y H Q => ∃ i j, x = .int i ∧ y = .int j ∧ Q (g i j) H
def rU (g : Int → V) : V → Hp → VK → Prop := fun x H Q => ∃ i, x = .int i ∧ Q (g i) H

section
variable {X : Cx} {a b c : Expr} {ta tb tc : TE} {pos : Pos}

theorem binT (ha : PE X a ta) (hb : PE X b tb) {pins : List (Addr × Obj)} {s : Shared} {σ : St} {H : Hp} {R : V → V → Hp → Prop} (I : Inv X pins σ H s)
    (h : ta σ H fun x H1 => tb σ H1 fun y H2 => R x y H2) {Q : Value → Shared → Prop} {f : Value → Value → Sem Value}
    (hf : ∀ v u s2 x y H2, Inv X pins σ H2 s2 → RelV x v → RelV y u → R x y H2 → wpAny (model X.prog X.w) X.A (f v u) Q X.xe s2) :
    wpAny (model X.prog X.w) X.A (eval a X.env) (fun v s₁ => wpAny (model X.prog X.w) X.A (eval b X.env) (fun u s₂ => wpAny (model X.prog X.w) X.A (f v u) Q X.xe s₂) X.xe s₁) X.xe s := by
  refine thn (ha pins s σ H _ I h) fun v s1 ⟨x, H1, I1, r1, q1⟩ => ?_
  refine thn (hb pins s1 σ H1 _ I1 q1) fun u s2 ⟨y, H2, I2, r2, q2⟩ => ?_
  exact hf v u s2 x y H2 I2 r1 r2 q2

theorem pe_op {op : Operator} {r : R2} (ho : OpR X (binaryOp op) r) (ha : PE X a ta) (hb : PE X b tb) : PE X (.BinOp a op b pos) (tOp r ta tb) := by
  intro pins s σ H Q I h
  exact wpAny_BinOp (binT ha hb I h fun v u s2 x y H2 I2 rx ry q => ho pins s2 σ H2 x y v u Q I2 rx ry q)
theorem pe_un {op : UnaryOp} {r : V → Hp → VK → Prop} (ho : UnR X (unaryOp op) r) (ha : PE X a ta) : PE X (.UnaryOp op a pos) (tUn r ta) := by
  intro pins s σ H Q I h
  exact UnaryOp_ (thn (ha pins s σ H _ I h) fun v s1 ⟨x, H1, I1, r1, q1⟩ => ho pins s1 σ H1 x v Q I1 r1 q1)
/-! ### ints -/
theorem opI {f : Value → Value → Sem Value} {C : Int → Int → Prop} {g : Int → Int → Int}
    (rule : ∀ (i j : Int) (t u : Tok) (s : Shared) (Q : Value → Shared → Prop) (E : Value → Shared → Prop), C i j → Q (.int (g i j) s.toks) { s with toks := s.toks + 1 } → wpAny (model X.prog X.w) X.A (f (.int i t) (.int j u)) Q E s) :
    OpR X f (rI C fun i j => .int (g i j)) := by
  intro pins s σ H x y v u Q I rx ry h
  obtain ⟨i, j, rfl, rfl, hc, q⟩ := h
  obtain ⟨t, rfl⟩ := rx
  obtain ⟨t', rfl⟩ := ry
  exact rule i j t t' s _ _ hc ⟨.int (g i j), H, I.tok _, ⟨_, rfl⟩, q⟩
theorem opI0 {f : Value → Value → Sem Value} {g : Int → Int → Int}
    (rule : ∀ (i j : Int) (t u : Tok) (s : Shared) (Q : Value → Shared → Prop) (E : Value → Shared → Prop), Q (.int (g i j) s.toks) { s with toks := s.toks + 1 } → wpAny (model X.prog X.w) X.A (f (.int i t) (.int j u)) Q E s) :
    OpR X f (rI0 fun i j => .int (g i j)) := by
  intro pins s σ H x y v u Q I rx ry h
  obtain ⟨i, j, rfl, rfl, q⟩ := h
  obtain ⟨t, rfl⟩ := rx
  obtain ⟨t', rfl⟩ := ry
  exact rule i j t t' s _ _ ⟨.int (g i j), H, I.tok _, ⟨_, rfl⟩, q⟩
theorem opB0 {f : Value → Value → Sem Value} {g : Int → Int → Bool}
    (rule : ∀ (i j : Int) (t u : Tok) (s : Shared) (Q : Value → Shared → Prop) (E : Value → Shared → Prop), Q (.bool (g i j)) s → wpAny (model X.prog X.w) X.A (f (.int i t) (.int j u)) Q E s) :
    OpR X f (rI0 fun i j => .bl (g i j)) := by
  intro pins s σ H x y v u Q I rx ry h
  obtain ⟨i, j, rfl, rfl, q⟩ := h
  obtain ⟨t, rfl⟩ := rx
  obtain ⟨t', rfl⟩ := ry
  exact rule i j t t' s _ _ ⟨.bl (g i j), H, I, rfl, q⟩

def CDiv (i j : Int) : Prop := 0 < j ∧ j < 1073741824
def CDivN (i j : Int) : Prop := j ≠ 0 ∧ j.natAbs < 1073741824
def CPow (i j : Int) : Prop := 0 ≤ j ∧ j ≤ 1000000 ∧ i.natAbs < 2 ^ 64
def CMul (i j : Int) : Prop := (-(2 ^ 64) < i ∧ i < 2 ^ 64) ∨ (-(2 ^ 64) < j ∧ j < 2 ^ 64)
theorem CMul.ok {i j : Int} (h : CMul i j) : IntMulOk i j := by
  rcases h with ⟨h1, h2⟩ | ⟨h1, h2⟩
  · exact .of_left (intBits_le_64 h1 h2)
  · exact .of_right (intBits_le_64 h1 h2)
theorem op_add : OpR X (binaryOp .Add) (rI0 fun i j => .int (i + j)) := opI0 fun _ _ _ _ _ _ _ q => add_int q
theorem op_sub : OpR X (binaryOp .Sub) (rI0 fun i j => .int (i - j)) := opI0 fun _ _ _ _ _ _ _ q => sub_int q
theorem op_mul : OpR X (binaryOp .Mult) (rI CMul fun i j => .int (i * j)) := opI fun _ _ _ _ _ _ _ hc q => mul_int q hc.ok
/-- // by a positive divisor -/
theorem op_fdiv : OpR X (binaryOp .FloorDiv) (rI CDiv fun i j => .int (i / j)) := opI fun i j _ _ _ _ _ hc q => by
  have h1 : (0 : Int) < j := hc.1
  have h2 : j < 1073741824 := hc.2
  exact floordiv_int (by omega) (by rw [Int.fdiv_eq_ediv_of_nonneg i (by omega)]; exact q) (.inl (PyProof.noPylong_small (by omega)))
/-- % by a positive divisor of any size -/
theorem op_mod : OpR X (binaryOp .Mod) (rI (fun _ j => 0 < j) fun i j => .int (i % j)) := opI fun i j _ _ _ _ _ hc q => by
  have h1 : (0 : Int) < j := hc
  exact mod_int' (by omega) (by rw [Int.fmod_eq_emod_of_nonneg i (by omega)]; exact q)
theorem op_pow : OpR X (binaryOp .Pow) (rI CPow fun i j => .int (i ^ j.toNat)) := opI fun _ _ _ _ _ _ _ hc q => pow_int_small hc.1 hc.2.1 hc.2.2 q
theorem unI {f : Value → Sem Value} {g : Int → Int}
    (rule : ∀ (i : Int) (t : Tok) (s : Shared) (Q : Value → Shared → Prop) (E : Value → Shared → Prop), Q (.int (g i) s.toks) { s with toks := s.toks + 1 } → wpAny (model X.prog X.w) X.A (f (.int i t)) Q E s) :
    UnR X f (rU fun i => .int (g i)) := by
  intro pins s σ H x v Q I rx h
  obtain ⟨i, rfl, q⟩ := h
  obtain ⟨t, rfl⟩ := rx
  exact rule i t s _ _ ⟨.int (g i), H, I.tok _, ⟨_, rfl⟩, q⟩
theorem un_neg : UnR X (unaryOp .USub) (rU fun i => .int (-i)) := unI fun _ _ _ _ _ q => neg_int q
/-! ### bools among ints: n += (a < b) -/
end

/-! ### comparisons -/
/-- the scalars that == tells apart as data does -/
def scal : V → V → Bool
  | .non, .non => true | .non, .int _ => true | .int _, .non => true | .non, .bl _ => true | .bl _, .non => true | .non, .str _ => true | .str _, .non => true
  | .int _, .int _ => true | .bl _, .bl _ => true | .str _, .str _ => true | .byt _, .byt _ => true
  | .int _, .str _ => true | .str _, .int _ => true | .bl _, .str _ => true | .str _, .bl _ => true
  | _, _ => false
def rEq : R2 := fun x y H Q => scal x y = true ∧ Q (.bl (decide (x = y))) H
def rNe : R2 := fun x y H Q => scal x y = true ∧ Q (.bl (!decide (x = y))) H

theorem dec_int {i j : Int} : decide (V.int i = V.int j) = (i == j) := by
  rw [Bool.eq_iff_iff]
  simp
theorem dec_bl {i j : Bool} : decide (V.bl i = V.bl j) = (i == j) := by
  rw [Bool.eq_iff_iff]
  simp
theorem dec_str {i j : Str} : decide (V.str i = V.str j) = (i == j) := by
  rw [Bool.eq_iff_iff]
  simp
theorem dec_byt {i j : Array UInt8} : decide (V.byt i = V.byt j) = (i.toList == j.toList) := by
  rw [Bool.eq_iff_iff]
  cases i
  cases j
  simp

section
variable {X : Cx} {a b c : Expr} {ta tb tc : TE} {pos : Pos}
theorem fin_bl {pins : List (Addr × Obj)} {σ : St} {H : Hp} {s : Shared} {Q : VK} {k k' : Bool} (I : Inv X pins σ H s) (q : Q (.bl k) H) (e : k = k') : EP X pins σ Q (.bool k') s := by
  subst e
  exact ⟨.bl k, H, I, rfl, q⟩
theorem op_eq : OpR X (compareOp .Eq) rEq := by
  intro pins s σ H x y v u Q I rx ry h
  obtain ⟨hs, q⟩ := h
  cases x with
  | non =>
    cases rx
    cases y with
    | non => cases ry; exact PySem.EqNone.eq_none_none (fin_bl I q (by simp))
    | bl j => cases ry; exact PySem.EqNone.eq_none_bool (fin_bl I q (by simp))
    | int j => obtain ⟨t', rfl⟩ := ry; exact PySem.EqNone.eq_none_int (fin_bl I q (by simp))
    | str j => obtain ⟨t', rfl⟩ := ry; exact PySem.EqNone.eq_none_str (fin_bl I q (by simp))
    | _ => exact absurd (show false = true from hs) Bool.false_ne_true
  | bl i =>
    cases rx
    cases y with
    | non => cases ry; exact PySem.EqNone.eq_bool_none (fin_bl I q (by simp))
    | bl j => cases ry; exact eq_bool (fin_bl I q dec_bl)
    | str j => obtain ⟨t', rfl⟩ := ry; exact PySem.EqMixed.eq_bool_str (fin_bl I q (by simp))
    | _ => exact absurd (show false = true from hs) Bool.false_ne_true
  | int i =>
    obtain ⟨t, rfl⟩ := rx
    cases y with
    | non => cases ry; exact PySem.EqNone.eq_int_none (fin_bl I q (by simp))
    | int j => obtain ⟨t', rfl⟩ := ry; exact eq_int (fin_bl I q dec_int)
    | str j => obtain ⟨t', rfl⟩ := ry; exact PySem.EqMixed.eq_int_str (fin_bl I q (by simp))
    | _ => exact absurd (show false = true from hs) Bool.false_ne_true
  | str i =>
    obtain ⟨t, rfl⟩ := rx
    cases y with
    | non => cases ry; exact PySem.EqNone.eq_str_none (fin_bl I q (by simp))
    | bl j => cases ry; exact PySem.EqMixed.eq_str_bool (fin_bl I q (by simp))
    | int j => obtain ⟨t', rfl⟩ := ry; exact PySem.EqMixed.eq_str_int (fin_bl I q (by simp))
    | str j => obtain ⟨t', rfl⟩ := ry; exact eq_str (fin_bl I q dec_str)
    | _ => exact absurd (show false = true from hs) Bool.false_ne_true
  | byt i =>
    obtain ⟨t, rfl⟩ := rx
    cases y with
    | byt j => obtain ⟨t', rfl⟩ := ry; exact PySem.W.eq_bytes (fin_bl I q dec_byt)
    | _ => exact absurd (show false = true from hs) Bool.false_ne_true
  | _ => cases y <;> exact absurd (show false = true from hs) Bool.false_ne_true
theorem op_ne : OpR X (compareOp .NotEq) rNe := by
  intro pins s σ H x y v u Q I rx ry h
  obtain ⟨hs, q⟩ := h
  cases x with
  | non =>
    cases rx
    cases y with
    | non => cases ry; exact PySem.EqNone.ne_none_none (fin_bl I q (by simp))
    | bl j => cases ry; exact PySem.EqNone.ne_none_bool (fin_bl I q (by simp))
    | int j => obtain ⟨t', rfl⟩ := ry; exact PySem.EqNone.ne_none_int (fin_bl I q (by simp))
    | str j => obtain ⟨t', rfl⟩ := ry; exact PySem.EqNone.ne_none_str (fin_bl I q (by simp))
    | _ => exact absurd (show false = true from hs) Bool.false_ne_true
  | bl i =>
    cases rx
    cases y with
    | non => cases ry; exact PySem.EqNone.ne_bool_none (fin_bl I q (by simp))
    | bl j => cases ry; exact ne_bool (fin_bl I q (congrArg not dec_bl))
    | str j => obtain ⟨t', rfl⟩ := ry; exact PySem.EqMixed.ne_bool_str (fin_bl I q (by simp))
    | _ => exact absurd (show false = true from hs) Bool.false_ne_true
  | int i =>
    obtain ⟨t, rfl⟩ := rx
    cases y with
    | non => cases ry; exact PySem.EqNone.ne_int_none (fin_bl I q (by simp))
    | int j => obtain ⟨t', rfl⟩ := ry; exact ne_int (fin_bl I q (congrArg not dec_int))
    | str j => obtain ⟨t', rfl⟩ := ry; exact PySem.EqMixed.ne_int_str (fin_bl I q (by simp))
    | _ => exact absurd (show false = true from hs) Bool.false_ne_true
  | str i =>
    obtain ⟨t, rfl⟩ := rx
    cases y with
    | non => cases ry; exact PySem.EqNone.ne_str_none (fin_bl I q (by simp))
    | bl j => cases ry; exact PySem.EqMixed.ne_str_bool (fin_bl I q (by simp))
    | int j => obtain ⟨t', rfl⟩ := ry; exact PySem.EqMixed.ne_str_int (fin_bl I q (by simp))
    | str j => obtain ⟨t', rfl⟩ := ry; exact ne_str (fin_bl I q (congrArg not dec_str))
    | _ => exact absurd (show false = true from hs) Bool.false_ne_true
  | byt i =>
    obtain ⟨t, rfl⟩ := rx
    cases y with
    | byt j => obtain ⟨t', rfl⟩ := ry; exact PySem.W.ne_bytes (fin_bl I q (congrArg not dec_byt))
    | _ => exact absurd (show false = true from hs) Bool.false_ne_true
  | _ => cases y <;> exact absurd (show false = true from hs) Bool.false_ne_true

theorem op_lt : OpR X (compareOp .Lt) (rI0 fun i j => .bl (decide (i < j))) := opB0 fun _ _ _ _ _ _ _ q => lt_int q
theorem op_gt : OpR X (compareOp .Gt) (rI0 fun i j => .bl (decide (j < i))) := opB0 fun _ _ _ _ _ _ _ q => gt_int q
theorem op_lt_str : OpR X (compareOp .Lt) (fun x y H Q => ∃ i j, x = .str i ∧ y = .str j ∧ Q (.bl (decide (i.cps.toList < j.cps.toList))) H) := by
  intro pins s σ H x y v u Q I rx ry h
  obtain ⟨i, j, rfl, rfl, q⟩ := h
  obtain ⟨t, rfl⟩ := rx
  obtain ⟨t', rfl⟩ := ry
  exact lt_str (fin_bl I q rfl)
/-- is None, is not None: the right side a value none -/
theorem op_isN : OpR X (compareOp .Is) (fun x y H Q => y = .non ∧ Q (.bl (decide (x = .non))) H) := by
  intro pins s σ H x y v u Q I rx ry h
  obtain ⟨rfl, q⟩ := h
  cases ry
  refine is_none_gen (fin_bl I q ?_)
  cases x <;> first
    | (cases rx; rfl)
    | (obtain ⟨t, rfl⟩ := rx; rfl)
theorem op_notN : OpR X (compareOp .IsNot) (fun x y H Q => y = .non ∧ Q (.bl (!decide (x = .non))) H) := by
  intro pins s σ H x y v u Q I rx ry h
  obtain ⟨rfl, q⟩ := h
  cases ry
  refine isnot_none_gen (fin_bl I q ?_)
  cases x <;> first
    | (cases rx; rfl)
    | (obtain ⟨t, rfl⟩ := rx; rfl)

/-- is, is not of two objects that are tracked lists or instances -/
def isObj : HO → Bool
  | .lst _ => true
  | .ins _ _ _ => true
  | _ => false
theorem nomark (b : Expr) {op : CmpOp} (h : op ≠ .In := by decide) (h2 : op ≠ .NotIn := by decide) : behindInMarks op b = false := by
  have e1 : (op == CmpOp.In) = false := by cases op <;> first | rfl | exact absurd rfl h
  have e2 : (op == CmpOp.NotIn) = false := by cases op <;> first | rfl | exact absurd rfl h2
  cases b <;> simp [behindInMarks, e1, e2]
/-- a comparison as a value; hm: nomark b, or (for in, not in) by with_unfolding_all rfl -/
theorem pe_cmpR {op : CmpOp} {r : R2} (ho : OpR X (compareOp op) r) (ha : PE X a ta) (hb : PE X b tb) (hm : behindInMarks op b = false) : PE X (.Compare a [op] [b] pos) (tOp r ta tb) := by
  intro pins s σ H Q I h
  exact wpAny_Compare1 (binT ha hb I h fun v u s2 x y H2 I2 rx ry q => ho pins s2 σ H2 x y v u Q I2 rx ry q) hm
/-- a reading of a value as a test -/
def tTest (t : TE) : TT := fun σ H Q => t σ H fun x H' => ∃ k, x = .bl k ∧ Q k H'
theorem pt_cmpR {op : CmpOp} {r : R2} (ho : OpR X (compareOp op) r) (ha : PE X a ta) (hb : PE X b tb) (hm : behindInMarks op b = false) : PT X (.Compare a [op] [b] pos) (tTest (tOp r ta tb)) := by
  intro pins s σ H Q I h
  refine wpAny_isTrue_Compare1 (thn (ha pins s σ H _ I h) fun v s1 ⟨x, H1, I1, r1, q1⟩ => thn (hb pins s1 σ H1 _ I1 q1) fun u s2 ⟨y, H2, I2, r2, q2⟩ =>
    thn (ho pins s2 σ H2 x y v u _ I2 r1 r2 q2) fun c s3 ⟨z, H3, I3, r3, k, e, q3⟩ => ?_) hm
  subst e
  cases r3
  exact wpAny_truthy_bool ⟨H3, I3, q3⟩
/-- a op1 b op2 c -/
def tChain (r r' : R2) (ta tb tc : TE) : TE := fun σ H Q => ta σ H fun x H1 => tb σ H1 fun y H2 => r x y H2 fun z H3 => ∃ k, z = .bl k ∧
  (if k = true then tc σ H3 fun w' H4 => r' y w' H4 Q else Q (.bl false) H3)
/-! ### truth -/
/-- a value's truth by the abstract heap -/
def TruV (K : PySem.W.Frag) (x : V) (H : Hp) (k : Bool) : Prop :=
  match x with
  | .non => k = false
  | .bl b => k = b
  | .int i => k = (i != 0)
  | .str y => y.length ≤ sizeLine ∧ k = ((y.length : Int) != 0)
  | .byt y => y.size ≤ sizeLine ∧ k = ((y.size : Int) != 0)
  | .ref p => (∃ xs, SqL K H p xs ∧ k = !xs.isEmpty) ∨ (∃ xs, SqT K H p xs ∧ k = !xs.isEmpty) ∨ ∃ kvs, H p = some (.dK kvs) ∧ k = !kvs.isEmpty
  | _ => False
theorem isEmpty_kv {κ : Type} {kvs : List (κ × V)} {vs : List (κ × Value)} (r : KV kvs vs) : (!vs.isEmpty) = !kvs.isEmpty := by
  cases r <;> rfl
theorem isEmpty_of {xs : List V} {its : List Value} (r : Vals xs its) : (!its.toArray.isEmpty) = !xs.isEmpty := by
  cases r <;> simp
theorem line63 : (sizeLine : Nat) < 2 ^ 63 := by rw [sizeLine_eq]; decide
theorem tru_ok : TruR X (fun x H Q => ∃ k, TruV X.K x H k ∧ Q k H) := by
  intro pins s σ H x v Q I rx h
  obtain ⟨k, e, q⟩ := h
  have hl := line63
  have hs : sizeLine = 16777216 := sizeLine_eq
  cases x with
  | non =>
    cases rx
    have e' : k = false := e
    subst e'
    exact truthy_none ⟨H, I, q⟩
  | bl b =>
    cases rx
    have e' : k = b := e
    subst e'
    exact wpAny_truthy_bool ⟨H, I, q⟩
  | int i =>
    obtain ⟨t, rfl⟩ := rx
    have e' : k = (i != 0) := e
    subst e'
    exact PySem.P.truthy_int ⟨H, I, q⟩
  | str y =>
    obtain ⟨t, rfl⟩ := rx
    obtain ⟨hy, e'⟩ : y.length ≤ sizeLine ∧ k = ((y.length : Int) != 0) := e
    subst e'
    exact PySem.P.truthy_str (by omega) ⟨H, I.tok _, q⟩
  | byt y =>
    obtain ⟨t, rfl⟩ := rx
    obtain ⟨hy, e'⟩ : y.size ≤ sizeLine ∧ k = ((y.size : Int) != 0) := e
    subst e'
    exact PySem.W.truthy_bytes (by omega) ⟨H, I.tok _, q⟩
  | ref p =>
    cases rx
    have e' : (∃ xs, SqL X.K H p xs ∧ k = !xs.isEmpty) ∨ (∃ xs, SqT X.K H p xs ∧ k = !xs.isEmpty) ∨ ∃ kvs, H p = some (.dK kvs) ∧ k = !kvs.isEmpty := e
    rcases e' with ⟨xs, hx, e'⟩ | ⟨xs, hx, e'⟩ | ⟨kvs, hx, e'⟩
    · subst e'
      obtain ⟨its, r, pl, hz⟩ := I.list hx
      have hlen := r.length
      exact wpAny_truthy_list pl.isList (by simp only [List.size_toArray]; omega) ⟨H, I.tok _, by rw [isEmpty_of r]; exact q⟩
    · subst e'
      obtain ⟨its, r, pl, hz⟩ := I.tuple hx
      have hlen := r.length
      exact truthy_tuple pl (by simp only [List.size_toArray]; omega) ⟨H, I.tok _, by rw [isEmpty_of r]; exact q⟩
    · subst e'
      obtain ⟨hz, hS, vs, r, m⟩ : kvs.length ≤ sizeLine ∧ (p == sysModules) = false ∧ ∃ vs, KV kvs vs ∧ s.heap.DictOf (mixKind X.prog X.w) p vs := I.hok p _ hx
      have hlen : kvs.length = vs.length := Paired.length r
      exact wpAny_truthy_dict hS m (by omega) ⟨H, I.tok _, by rw [isEmpty_kv r]; exact q⟩
  | _ => exact (show False from e).elim
/-- any expression whose test is its value's truth (a name, a call, a subscript, a field ..: he by fun _ => rfl) -/
theorem pt_truth (ha : PE X a ta) (he : ∀ whole, isTrue a X.env whole = (do let v ← whole; standAt a.pos; holding [v] (truthy v))) :
    PT X a (fun σ H Q => ta σ H fun x H' => ∃ k, TruV X.K x H' k ∧ Q k H') := by
  intro pins s σ H Q I h
  exact isTrue_plain (thn (ha pins s σ H _ I h) fun v s1 ⟨x, H1, I1, r1, q1⟩ => tru_ok pins s1 σ H1 x v Q I1 r1 q1) (he _)

/-! ### strs and bytes -/
theorem op_add_str : OpR X (binaryOp .Add) (fun x y H Q => ∃ i j, x = .str i ∧ y = .str j ∧ i.length + j.length ≤ sizeLine ∧ Q (.str (i ++ j)) H) := by
  intro pins s σ H x y v u Q I rx ry h
  obtain ⟨i, j, rfl, rfl, hz, q⟩ := h
  obtain ⟨t, rfl⟩ := rx
  obtain ⟨t', rfl⟩ := ry
  exact add_str (fun t' tk => ⟨.str (i ++ j), H, I.tok _, ⟨_, rfl⟩, q⟩) hz
def PlainIxT (b : Expr) : Prop := ∀ o i, subscripted b false o i = operate [o, i] (getItem o i)
/-! ### scalar builtins, by CallR -/
theorem vals1 {x : V} {us : List Value} (r : Vals [x] us) : ∃ u, us = [u] ∧ RelV x u := by
  cases r with
  | cons r1 r2 => cases r2; exact ⟨_, rfl, r1⟩
theorem vals2 {x y : V} {us : List Value} (r : Vals [x, y] us) : ∃ u w', us = [u, w'] ∧ RelV x u ∧ RelV y w' := by
  cases r with
  | cons r1 r2 =>
    cases r2 with
    | cons r3 r4 => cases r4; exact ⟨_, _, rfl, r1, r3⟩
/-- len of a str, a bytes, a list, a tuple -/
def LenV (K : PySem.W.Frag) (x : V) (H : Hp) (n : Nat) : Prop :=
  match x with
  | .str y => y.length ≤ sizeLine ∧ n = y.length
  | .byt y => y.size ≤ sizeLine ∧ n = y.size
  | .ref p => (∃ xs, SqL K H p xs ∧ n = xs.length) ∨ ∃ xs, SqT K H p xs ∧ n = xs.length
  | _ => False
end
end L2

namespace L2
open PySem PySem.Spec PyProof.Rows

/-! ### an instance, its attributes a map -/
structure ObjM (h : Heap) (x dx C : Addr) (mA : Str → Option Value) : Prop where
  obj : h.get? x = some (PySem.W.instObj C dx)
  ns : h.Ns1 dx mA
  ne : dx ≠ x

theorem lookIn_ns {h : Heap} {dx : Addr} {mA : Str → Option Value} (n : h.Ns1 dx mA) : ∃ od, h.get? dx = some od ∧ ∀ name, PySem.W.lookIn name od = some (mA name) := by
  obtain ⟨o, es, ep, ho, hd, hk, _, hm⟩ := n
  refine ⟨o, ho, fun name => ?_⟩
  have e := hm name
  unfold nsFind findBy at e
  rw [← Array.find?_toList] at e
  unfold PySem.W.lookIn
  rw [hd]
  dsimp only
  split
  · rename_i y q
    rw [q] at e
    exact congrArg some e
  · rename_i q
    rw [q] at e
    have a : es.toList.any (·.refKey) = false := by
      rw [List.any_eq_false]
      intro y hy
      obtain ⟨z, t, hkey⟩ := hk y (Array.mem_toList_iff.mp hy)
      simp [DictEntry.refKey, hkey]
    have a' : ¬ es.toList.any (·.refKey) = true := by rw [a]; exact Bool.false_ne_true
    rw [if_neg a']
    exact congrArg some e

theorem ObjM.look {h : Heap} {x dx C : Addr} {mA : Str → Option Value} (I : ObjM h x dx C mA) : ∃ od, PySem.W.InstAt h x (PySem.W.instObj C dx) C (some od) ∧ ∀ name, PySem.W.lookIn name od = some (mA name) :=
  let ⟨od, ho, hl⟩ := lookIn_ns I.ns
  ⟨od, ⟨I.obj, rfl, rfl, ho⟩, hl⟩

section
variable {prog : Program} {w : World} {A : Around} {E : Value → Shared → Prop} {s : Shared} {K : PySem.W.Frag} {x dx C f : Addr} {mA : Str → Option Value} {name : Str} {v : Value}

end

/-! ### the attributes as a list of pairs -/
def putF (f : Str) (v : V) : List (Str × V) → List (Str × V)
  | [] => [(f, v)]
  | (g, x) :: r => if g = f then (g, v) :: r else (g, x) :: putF f v r
section
variable {P : Program} {w : World} {H H' : Hp} {h h' : Heap} {a C dx : Addr} {fs fs' : List (Str × V)}
theorem ins_get (hok : HOk P w H h) (e : H a = some (.ins C dx fs)) : ∃ mA, ObjM h a dx C mA ∧ (∀ f, RelO (fs.lookup f) (mA f)) ∧ PySem.Within mA (fs.map (·.1)) ∧ fs.length ≤ 1000 ∧ H dx = some (.own a) := by
  obtain ⟨d, z, ne, ob, mA, n, r, q⟩ := (show ObjOk P w H h a (.ins C dx fs) from hok a _ e)
  exact ⟨mA, ⟨ob, n, ne⟩, r, q, z, d⟩
end

/-! ### what of the text a class must have -/
structure Cls (K : PySem.W.Frag) (C : Addr) : Prop where
  pg : PySem.W.plainGet K C Str.empty = true
  hd : PySem.W.hasDictIn K C = true
  po : PySem.W.plainOver K C = true
  sa : PySem.W.findIn K (.ref C) "__setattr__" = some (some (.builtin "object.__setattr__"))
theorem Cls.get {K : PySem.W.Frag} {C : Addr} (c : Cls K C) (f : Str) : PySem.W.plainGet K C f = true := c.pg
/-- no class of it has the name -/
def NoAttr (K : PySem.W.Frag) (C : Addr) (f : Str) : Prop := PySem.W.findIn K (.ref C) f = some none
/-- a constant of the class -/
structure Con (K : PySem.W.Frag) (C : Addr) (f : Str) (v : V) (u : Value) : Prop where
  at_ : PySem.W.findIn K (.ref C) f = some (some u)
  rel : RelV v u
  get : PySem.W.specialIn K u "__get__" = some none
  cp : PySem.W.copiedNames.contains f = false
/-- a method: a plain def of the class or of one above it -/
structure Meth (K : PySem.W.Frag) (C : Addr) (m : Str) (f : Addr) : Prop where
  at_ : PySem.W.findIn K (.ref C) m = some (some (.ref f))
  fn : PySem.W.isFn K (.ref f) = true
  kp : PySem.W.keepIn K (.ref f) = true

section
variable {X : Cx} {pins : List (Addr × Obj)} {σ : St} {H : Hp} {s : Shared} {a C dx : Addr} {fs : List (Str × V)} {f : Str} {v : V} {A : Around} {E : Value → Shared → Prop}

end

/-! ### readings and rules -/
/-- e.f, an attribute of the instance -/
def tFld (K : PySem.W.Frag) (ta : TE) (f : Str) : TE := fun σ H Q => ta σ H fun x H1 => ∃ a C dx fs v, x = .ref a ∧ H1 a = some (.ins C dx fs) ∧ Cls K C ∧ NoAttr K C f ∧ fs.lookup f = some v ∧ Q v H1
/-- e.f, a constant of the class -/
def tCon (K : PySem.W.Frag) (ta : TE) (f : Str) : TE := fun σ H Q => ta σ H fun x H1 => ∃ a C dx fs v u, x = .ref a ∧ H1 a = some (.ins C dx fs) ∧ Cls K C ∧ Con K C f v u ∧ fs.lookup f = none ∧ Q v H1
/-- e.f = value -/
def sFld (K : PySem.W.Frag) (ta tv : TE) (f : Str) : TS := fun D σ H => tv σ H fun y H1 => ta σ H1 fun x H2 => ∃ a C dx fs, x = .ref a ∧ H2 a = some (.ins C dx fs) ∧ Cls K C ∧ NoAttr K C f ∧ fs.length < 1000 ∧
  D.nx σ (upd H2 a (.ins C dx (putF f y fs)))
/-- an augmented operator on two values -/
def InOp (X : Cx) (op : Operator) (rd : V → V → Hp → VK → Prop) : Prop :=
  ∀ (pins : List (Addr × Obj)) (s : Shared) (σ : St) (H : Hp) (x y : V) (u v : Value) (Q : VK), Inv X pins σ H s → RelV x u → RelV y v → rd x y H Q → wpAny (model X.prog X.w) X.A (inplaceOp op u v) (EP X pins σ Q) X.xe s
/-- e.f op= value -/
def sFldAug (K : PySem.W.Frag) (ta tv : TE) (rd : V → V → Hp → VK → Prop) (f : Str) : TS := fun D σ H => ta σ H fun x H1 => ∃ a C dx fs v, x = .ref a ∧ H1 a = some (.ins C dx fs) ∧ Cls K C ∧ NoAttr K C f ∧ fs.lookup f = some v ∧
  tv σ H1 fun y H2 => rd v y H2 fun z H3 => ∃ dx' fs', H3 a = some (.ins C dx' fs') ∧ fs'.length < 1000 ∧ D.nx σ (upd H3 a (.ins C dx' (putF f z fs')))

section
variable {X : Cx} {o e value : Expr} {f : Str} {pos pos' tpos : Pos} {ta tv : TE}
def rAdd : V → V → Hp → VK → Prop := fun x y H Q => ∃ i j, x = .int i ∧ y = .int j ∧ Q (.int (i + j)) H
def rSub : V → V → Hp → VK → Prop := fun x y H Q => ∃ i j, x = .int i ∧ y = .int j ∧ Q (.int (i - j)) H
end

/-! ### isinstance -/
section
variable {X : Cx} {pins : List (Addr × Obj)} {σ : St} {H : Hp} {s : Shared} {A : Around} {E : Value → Shared → Prop} {Q : Value → Shared → Prop} {c : Value} {b : Bool}
/-- the type of a value, as the fragment's deciders take it; for an instance its class -/
inductive TyOf (K : PySem.W.Frag) (H : Hp) : V → Value → Prop where
  | non : TyOf K H .non (.type "NoneType")
  | bl (x : Bool) : TyOf K H (.bl x) (.type "bool")
  | int (i : Int) : TyOf K H (.int i) (.type "int")
  | str (x : Str) : TyOf K H (.str x) (.type "str")
  | flt (x : UInt64) : TyOf K H (.flt x) (.type "float")
  | lst {a : Addr} {xs : List V} (e : H a = some (.lst xs)) : TyOf K H (.ref a) (.type "list")
  | frz {a : Addr} {o : Obj} {xs : List V} (e : H a = some (.frz o (.lst xs))) : TyOf K H (.ref a) (.type "list")
  | tup {a : Addr} {xs : List V} (e : H a = some (.tup xs)) : TyOf K H (.ref a) (.type "tuple")
  | dK {a : Addr} {kvs : List (Key × V)} (e : H a = some (.dK kvs)) : TyOf K H (.ref a) (.type "dict")
  | dT {a : Addr} {kvs : List (List Key × V)} (e : H a = some (.dT kvs)) : TyOf K H (.ref a) (.type "dict")
  | ins {a C dx : Addr} {fs : List (Str × V)} (e : H a = some (.ins C dx fs)) (cl : Cls K C) (ha : PySem.W.findIn K (.ref C) "__class__" = some (some (.builtin "object.__class__")))
      (hn : PySem.W.specialIn K (.builtin "object.__class__") "__get__" = some (some (.builtin "getset_descriptor.__get__"))) (htk : PySem.W.takesIn K (.builtin "object.__class__") = some true)
      (hm : PySem.W.mroIn K C (.type "object") = some true) : TyOf K H (.ref a) (.ref C)
/-- isinstance(x, c) for one class c, a built-in or an own one: kitOne's answer -/
theorem isinst_ok {x : V} {u t : Value} (I : Inv X pins σ H s) (rx : RelV x u) (ty : TyOf X.K H x t) (e : PySem.W.kitOne X.K t c = some b) (h : ∀ tk, Q (.bool b) { s with toks := tk }) :
    wpAny (model X.prog X.w) A (call (.builtin "isinstance") [u, c]) Q E s := by
  cases ty with
  | non => cases (show u = Value.none from rx); exact PySem.W.kia_one PySem.W.kitx_none I.kIn True.intro e (fun z => nomatch z) h
  | bl y => cases (show u = Value.bool y from rx); exact PySem.W.kia_one PySem.W.kitx_bool I.kIn True.intro e (fun z => nomatch z) h
  | int i => obtain ⟨t, q⟩ := (show ∃ t, u = Value.int i t from rx); cases q; exact PySem.W.kia_one PySem.W.kitx_int I.kIn True.intro e (fun z => nomatch z) h
  | str y => obtain ⟨t, q⟩ := (show ∃ t, u = Value.str y t from rx); cases q; exact PySem.W.kia_one PySem.W.kitx_str I.kIn True.intro e (fun z => nomatch z) h
  | flt y => obtain ⟨t, q⟩ := (show ∃ t, u = Value.float y t from rx); cases q; exact PySem.W.kia_one PySem.W.kitx_float I.kIn True.intro e (fun z => nomatch z) h
  | @lst a xs ea =>
    cases (show u = Value.ref a from rx)
    obtain ⟨_, _, n, _, h1⟩ := (show ObjOk X.prog X.w H s.heap a (.lst xs) from I.hok a _ ea)
    exact PySem.W.kia_one PySem.W.kitx_list I.kIn ⟨_, h1, rfl⟩ e (fun z => nomatch z) h
  | @frz a ob xs ea =>
    cases (show u = Value.ref a from rx)
    obtain ⟨_, _, _, n, _, h1⟩ := (show ObjOk X.prog X.w H s.heap a (.frz ob (.lst xs)) from I.hok a _ ea)
    exact PySem.W.kia_one PySem.W.kitx_list I.kIn ⟨_, h1, rfl⟩ e (fun z => nomatch z) h
  | @tup a xs ea =>
    cases (show u = Value.ref a from rx)
    obtain ⟨_, _, _, p⟩ := (show ObjOk X.prog X.w H s.heap a (.tup xs) from I.hok a _ ea)
    obtain ⟨o, h1, h2, _⟩ := p
    exact PySem.W.kia_one PySem.W.kitx_tuple I.kIn ⟨o, h1, h2⟩ e (fun z => nomatch z) h
  | @dK a kvs ea =>
    cases (show u = Value.ref a from rx)
    obtain ⟨_, _, vs, _, p⟩ := (show ObjOk X.prog X.w H s.heap a (.dK kvs) from I.hok a _ ea)
    obtain ⟨o, es, ep, h1, h2, _⟩ := p
    exact PySem.W.kia_one PySem.W.kitx_dict I.kIn ⟨o, h1, h2.1⟩ e (fun z => nomatch z) h
  | @dT a kvs ea =>
    cases (show u = Value.ref a from rx)
    obtain ⟨_, _, xs, _, o, es, ep, h1, h2, _⟩ := (show ObjOk X.prog X.w H s.heap a (.dT kvs) from I.hok a _ ea)
    exact PySem.W.kia_one PySem.W.kitx_dict I.kIn ⟨o, h1, h2.1⟩ e (fun z => nomatch z) h
  | @ins a C dx fs ea cl ha hn htk hm =>
    cases (show u = Value.ref a from rx)
    obtain ⟨mA, O, _⟩ := ins_get I.hok ea
    obtain ⟨od, J, _⟩ := O.look
    exact PySem.W.kia_one (PySem.W.kitx_own (cl.get _) cl.hd ha hn htk hm) I.kIn J e (fun z => nomatch z) h
end
end L2

namespace L2
open PySem PySem.Spec PyProof.Rows

/-! ### room -/
structure Room (cc : Bool) (k : Nat) (A : Around) : Prop where
  hd : cc = true → A.handled = none
  dp : A.depth + 3 * k + 5 < recursionLimit
  un : A.units + 16 * k + 200 < cLine
theorem Room.mono {j k : Nat} {A : Around} (r : Room cc k A) (h : j ≤ k) : Room cc j A := ⟨r.hd, by have := r.dp; omega, by have := r.un; omega⟩
theorem Room.deeper {k : Nat} {A : Around} (r : Room cc (k + 1) A) (env : Env) : Room cc k (A.deeper env) :=
  ⟨r.hd, by have := r.dp; show A.depth + 1 + 3 * k + 5 < _; omega, by have := r.un; show A.units + 3 + 16 * k + 200 < _; omega⟩
theorem Room.in1 {k : Nat} {A : Around} (r : Room cc (k + 1) A) : Room cc k A.in1 :=
  ⟨r.hd, by have := r.dp; show A.depth + 3 * k + 5 < _; omega, by have := r.un; show A.units + 1 + 16 * k + 200 < _; omega⟩
theorem Room.depth {k : Nat} {A : Around} (r : Room cc k A) : A.depth < recursionLimit := by have := r.dp; omega
theorem Room.units {k : Nat} {A : Around} (r : Room cc k A) : A.units + 64 < cLine := by have := r.un; omega
theorem Room.units0 {k : Nat} {A : Around} (r : Room cc k A) : A.units < cLine := by have := r.un; omega

/-! ### argument lists and displays -/
def tNil : TA := fun _ H Q => Q [] H
def tCons (ta : TE) (tr : TA) : TA := fun σ H Q => ta σ H fun x H1 => tr σ H1 fun xs H2 => Q (x :: xs) H2
section
variable {X : Cx} {e : Expr} {es : List Expr} {te : TE} {t : TA} {pos : Pos}
theorem pa_nil : PA X [] tNil := fun _ _ _ _ H Q I h => Calls.spliced_nil ⟨[], H, I, .nil, h⟩
theorem pa_cons (ha : PE X e te) (hr : PA X es t) (hs : starEach (e :: es) X.env = (false, eval e X.env) :: starEach es X.env := by rfl) : PA X (e :: es) (tCons te t) := by
  intro pos pins s σ H Q I h
  rw [hs]
  show wpAny _ _ (spliced ((false, eval e X.env) :: backTo pos (starEach es X.env))) _ _ s
  refine Calls.spliced_cons (thn (ha pins s σ H _ I h) fun u s1 ⟨x, H1, I1, r1, q1⟩ => ?_)
  exact thn (hr pos pins s1 σ H1 _ I1 q1) fun us s2 ⟨xs, H2, I2, r2, q2⟩ => ⟨x :: xs, H2, I2, .cons r1 r2, q2⟩

/-- a tuple, a list of written items -/
def tTup (t : TA) : TE := fun σ H Q => t σ H fun xs H1 => xs.length ≤ sizeLine ∧ ∀ p, H1 p = none → Q (.ref p) (upd H1 p (.tup xs))
def tLst (t : TA) : TE := fun σ H Q => t σ H fun xs H1 => xs.length ≤ sizeLine ∧ ∀ p, H1 p = none → Q (.ref p) (upd H1 p (.lst xs))
theorem pe_tup {x1} (h : PA X es t) : PE X (.Tuple es x1 pos) (tTup t) := by
  intro pins s σ H Q I hq
  refine wpAny_Tuple_spliced (thn (h pos pins s σ H _ I hq) fun us s1 ⟨xs, H1, I1, r, z, q⟩ => ⟨by rw [← r.length]; exact z, ?_⟩)
  have hf : H1 s1.heap.objs.size = none := I1.hok.fresh (Nat.le_refl _)
  refine ⟨.ref s1.heap.objs.size, upd H1 s1.heap.objs.size (.tup xs), I1.laid (t' := s1.toks) (fun b u e => Heap.get?_push_of_some _ e) (Nat.le_refl _) ?_, rfl, q _ hf⟩
  exact ⟨z, us, r, ⟨_, Heap.get?_push_size _ rfl, rfl, _, rfl⟩⟩
theorem pe_lst (h : PA X es t) : PE X (.List es pos) (tLst t) := by
  intro pins s σ H Q I hq
  refine wpAny_List_spliced (thn (h pos pins s σ H _ I hq) fun us s1 ⟨xs, H1, I1, r, z, q⟩ => ⟨by rw [← r.length]; exact z, ?_⟩)
  have hf : H1 s1.heap.objs.size = none := I1.hok.fresh (Nat.le_refl _)
  refine ⟨.ref s1.heap.objs.size, upd H1 s1.heap.objs.size (.lst xs), I1.laid (t' := s1.toks) (fun b u e => Heap.get?_push_of_some _ e) (Nat.le_refl _) ?_, rfl, q _ hf⟩
  exact ⟨z, us, 0, r, Heap.get?_push_size _ rfl⟩
end

/-! ### what a def promises -/
/-- a def's promise: the bound arguments in the parameters' order, the heap, the wanted end, the wanted exception -/
abbrev Sp := List V → Hp → VK → XK → Prop
/-- how an exception lies behind a call (file 08 gives it): the callers' frames, abstract heap and state ahead of the call, the wish, the exception, the state -/
abbrev CXT := List Env → Hp → Shared → XK → Value → Shared → Prop

/-- the state at a call -/
structure Env0 (P : Program) (w : World) (K : PySem.W.Frag) (mg : Str → Option Value) (base : Heap) (A : Around) (outer : List Env) (s : Shared) (H : Hp) : Prop where
  frames : A.frames = some outer
  mod : Mod K mg base
  bs : ∀ b o, base.get? b = some o → s.heap.get? b = some o ∧ H b = none
  bsz : base.objs.size ≤ s.heap.objs.size
  funs : s.heap.FunFrames base outer
  frf : ∀ b ∈ frs outer, H b = none
  hok : HOk P w H s.heap
  bare : AllBare s.gens
/-- a call's end -/
def CE (outer : List Env) (P : Program) (w : World) (H : Hp) (s : Shared) (Q : VK) (u : Value) (s' : Shared) : Prop :=
  ∃ v H', s'.os = s.os ∧ AllBare s'.gens ∧ Un (frs outer) [] H H' s.heap s'.heap ∧ HOk P w H' s'.heap ∧ RelV v u ∧ Q v H'
def CR (CX : CXT) (outer : List Env) (P : Program) (w : World) (H : Hp) (s : Shared) (Q : VK) (E : XK) (r : Result) (s' : Shared) : Prop :=
  match r with
  | .ok (.ret u) => CE outer P w H s Q u s'
  | .ok _ => False
  | .error e => CX outer H s E e s'
structure FnOk (P : Program) (w : World) (K : PySem.W.Frag) (mg : Str → Option Value) (base : Heap) (CX : CXT) (cc : Bool) (k : Nat) (f : Addr) (fd : FuncData) (ps : List Str) (sp : Sp) : Prop where
  len : ∀ vs H Q E, sp vs H Q E → vs.length = ps.length
  run : ∀ (A : Around) (outer : List Env) (s : Shared) (H : Hp) (args : Args) (us : List Value) (vs : List V) (Q : VK) (E : XK), Room cc k A → Env0 P w K mg base A outer s H → BindsTo s fd args (ps.zip us) → Vals vs us → sp vs H Q E →
    codeAny (model P w) A (.call (.ref f) args) (CR CX outer P w H s Q E) s
section
variable {X : Cx} {pins : List (Addr × Obj)} {σ : St} {H : Hp} {s s' : Shared}
/-- from a body: what a callee wants -/
theorem Inv.env0 (I : Inv X pins σ H s) : Env0 X.prog X.w X.K X.mg X.base X.A X.stack s H :=
  ⟨I.ok.frames, I.ok.mod, I.bs, Nat.le_trans I.ok.bsz I.sz, I.stack, I.stkFree, I.hok, I.bare⟩
/-- behind a call -/
theorem Inv.after {Q : VK} {u : Value} (I : Inv X pins σ H s) (h : CE X.stack X.prog X.w H s Q u s') : EP X pins σ Q u s' := by
  obtain ⟨v, H', os, bare, un, hok, r, q⟩ := h
  obtain ⟨hh, g, d, t, os'⟩ := s'
  obtain rfl : os' = s.os := os
  exact ⟨v, H', I.call (h' := hh) (g' := g) (d' := d) (t' := t) (ch := []) un hok bare (fun b z => absurd z (by simp)), r, q⟩
end

/-! ### calls -/
/-- f(..): the written arguments, then the defaults dvs; E: what is wanted of an exception -/
def tCall (sp : Sp) (dvs : List V) (E : XK) (t : TA) : TE := fun σ H Q => t σ H fun vs H1 => sp (vs ++ dvs) H1 Q E
/-- o.m(..) of an instance of the class at C -/
def tMeth (C : Addr) (m : Str) (sp : Sp) (dvs : List V) (E : XK) (ta : TE) (t : TA) : TE := fun σ H Q => ta σ H fun x H1 => ∃ a dx fs, x = .ref a ∧ H1 a = some (.ins C dx fs) ∧ fs.lookup m = none ∧
  t σ H1 fun vs H2 => sp (x :: (vs ++ dvs)) H2 Q E
/-- C(..): a new instance and its dict, then __init__ -/
def tMake (C : Addr) (sp : Sp) (dvs : List V) (E : XK) (t : TA) : TE := fun σ H Q => t σ H fun vs H1 => ∀ x dx, H1 x = none → H1 dx = none → dx ≠ x →
  sp (.ref x :: (vs ++ dvs)) (upd (upd H1 dx (.own x)) x (.ins C dx [])) (fun v H2 => v = .non ∧ Q (.ref x) H2) E

/-- how the parameters are bound: us the positional arguments, kw the keywords' values by name, ds the defaults that fill up -/
def Binds (K : PySem.W.Frag) (fd : FuncData) (ps : List Str) (ds : List Value) : Prop :=
  ∀ (s : Shared) (us : List Value), K.In s.heap → (us ++ ds).length = ps.length → BindsTo s fd ⟨us, []⟩ (ps.zip (us ++ ds))
/-- every parameter is given -/
theorem Binds.all {K : PySem.W.Frag} {fd : FuncData} {ps : List Str} (h : ∀ us : List Value, us.length = ps.length → bindArgs fd ⟨us, []⟩ = pure (ps.zip us)) : Binds K fd ps [] := fun s us _ hl => by
  rw [List.append_nil] at hl ⊢
  exact .of_eq (h us hl)

/-- an exception of a callee reaches what this body wants of exceptions -/
def Passes (CX : CXT) (X : Cx) (E : XK) : Prop := ∀ (pins : List (Addr × Obj)) (σ : St) (H : Hp) (s : Shared) (e : Value) (s' : Shared), Inv X pins σ H s → CX X.stack H s E e s' → X.xe e s'

section
variable {X : Cx} {CX : CXT} {k : Nat} {f C : Addr} {fd : FuncData} {ps : List Str} {sp : Sp} {dvs : List V} {ds : List Value} {E : XK} {x m : Str} {p pos apos : Pos} {e o : Expr} {es : List Expr} {ta : TE} {t : TA}

/-- what a class must have to be made -/
structure Mk (K : PySem.W.Frag) (C f : Addr) : Prop where
  makes : PySem.W.makesIn K C = true
  init : PySem.W.findIn K (.ref C) "__init__" = some (some (.ref f))
  fn : PySem.W.isFn K (.ref f) = true
  kp : PySem.W.keepIn K (.ref C) = true

end

/-! ### keywords -/
/-- the values of the keywords, from the left -/
def PK (X : Cx) (kws : List Keyword) (t : TA) : Prop :=
  ∀ (pos : Pos) (pins : List (Addr × Obj)) (s : Shared) (σ : St) (H : Hp) (Q : List V → Hp → Prop), Inv X pins σ H s → t σ H Q → wpAny (model X.prog X.w) X.A (evalAll ((backToKw pos (keywordEach kws X.env)).map (·.2))) (AP X pins σ Q) X.xe s
section
variable {X : Cx} {CX : CXT} {k : Nat} {f C : Addr} {fd : FuncData} {ps ks : List Str} {sp : Sp} {E : XK} {x m : Str} {p pos apos kpos : Pos} {e o : Expr} {es : List Expr} {kws : List Keyword} {te ta : TE} {t tk : TA} {nm : Option Str}
/-- how a call with keywords binds: g puts the positional values us and the keywords' values ws (names ks) in the parameters' order, defaults among them -/
structure KBinds (K : PySem.W.Frag) (fd : FuncData) (ps ks : List Str) (g : List Value → List Value → List Value) (gV : List V → List V → List V) : Prop where
  to : ∀ (s : Shared) (us ws : List Value), K.In s.heap → (g us ws).length = ps.length → BindsTo s fd ⟨us, ks.zip ws⟩ (ps.zip (g us ws))
  rel : ∀ {vs : List V} {us : List Value} {zs : List V} {ws : List Value}, Vals vs us → Vals zs ws → Vals (gV vs zs) (g us ws)
def tCallK (sp : Sp) (gV : List V → List V → List V) (E : XK) (t tk : TA) : TE := fun σ H Q => t σ H fun vs H1 => tk σ H1 fun zs H2 => sp (gV vs zs) H2 Q E
variable {g : List Value → List Value → List Value} {gV : List V → List V → List V}
end

/-! ### a def's body keeps its promise -/
/-- names: the parameters first -/
structure FnScope (N P : List Str) (sc : Scope) : Prop where
  kind : sc.kind = .function
  co : sc.isCoroutine = false
  gen : sc.isGenerator = false
  nd : N.Nodup
  pre : N.take P.length = P
  par : ∀ x ∈ P, sc.names.lookup x = some .local ∨ sc.names.lookup x = some .cell
  nofree : ∀ y ∈ sc.names, y.2 ≠ .free

theorem bindL_out {kindOf : Str → Option NameKind} {x : Str} : ∀ {binds : List (Str × Value)} {m : Str → Option Value}, (∀ v, (x, v) ∉ binds) → bindL kindOf binds m x = m x
  | [], _, _ => rfl
  | (n, v) :: r, m, h => by
    unfold bindL
    rw [bindL_out fun w hw => h w (List.mem_cons_of_mem _ hw)]
    split
    · have : x ≠ n := by rintro rfl; exact h v List.mem_cons_self
      simp [this]
    · rfl
theorem bindC_out {kindOf : Str → Option NameKind} {x : Str} : ∀ {binds : List (Str × Value)} {m : Str → Option Value}, (∀ v, (x, v) ∉ binds) → bindC kindOf binds m x = m x
  | [], _, _ => rfl
  | (n, v) :: r, m, h => by
    unfold bindC
    rw [bindC_out fun w hw => h w (List.mem_cons_of_mem _ hw)]
    split
    · rfl
    · have : x ≠ n := by rintro rfl; exact h v List.mem_cons_self
      simp [this]
theorem bindL_get {kindOf : Str → Option NameKind} {x : Str} {v : Value} : ∀ {P : List Str} {vs : List Value} {i : Nat} {m : Str → Option Value}, P.Nodup → P[i]? = some x → vs[i]? = some v → kindOf x = some .local →
    bindL kindOf (P.zip vs) m x = some v
  | [], _, _, _, _, h, _, _ => by simp at h
  | _ :: _, [], _, _, _, _, h, _ => by simp at h
  | p :: P, w :: vs, 0, m, nd, h1, h2, hk => by
    simp at h1 h2; subst h1; subst h2
    show bindL kindOf ((p, w) :: P.zip vs) m p = _
    unfold bindL
    rw [bindL_out fun v hv => (List.nodup_cons.mp nd).1 (List.of_mem_zip hv).1, if_pos hk]
    simp
  | p :: P, w :: vs, i + 1, m, nd, h1, h2, hk => by
    show bindL kindOf ((p, w) :: P.zip vs) m x = _
    unfold bindL
    exact bindL_get (i := i) (List.nodup_cons.mp nd).2 (by simpa using h1) (by simpa using h2) hk
theorem bindC_get {kindOf : Str → Option NameKind} {x : Str} {v : Value} : ∀ {P : List Str} {vs : List Value} {i : Nat} {m : Str → Option Value}, P.Nodup → P[i]? = some x → vs[i]? = some v → kindOf x ≠ some .local →
    bindC kindOf (P.zip vs) m x = some v
  | [], _, _, _, _, h, _, _ => by simp at h
  | _ :: _, [], _, _, _, _, h, _ => by simp at h
  | p :: P, w :: vs, 0, m, nd, h1, h2, hk => by
    simp at h1 h2; subst h1; subst h2
    show bindC kindOf ((p, w) :: P.zip vs) m p = _
    unfold bindC
    rw [bindC_out fun v hv => (List.nodup_cons.mp nd).1 (List.of_mem_zip hv).1, if_neg hk]
    simp
  | p :: P, w :: vs, i + 1, m, nd, h1, h2, hk => by
    show bindC kindOf ((p, w) :: P.zip vs) m x = _
    unfold bindC
    exact bindC_get (i := i) (List.nodup_cons.mp nd).2 (by simpa using h1) (by simpa using h2) hk

/-- the names' values at the entry -/
def start (N : List Str) (vs : List V) : St := vs.map some ++ List.replicate (N.length - vs.length) none

/-- the context of a def's body, at its entry; an exception leaves the frame, then lies as CX says -/
def cxOf (cc : Bool) (CX : CXT) (P : Program) (w : World) (K : PySem.W.Frag) (mg : Str → Option Value) (base : Heap) (N : List Str) (qual : Str) (scope : Scope) (f : Addr) (cd : Value) (A : Around) (outer : List Env) (s : Shared) (H : Hp) (E : XK) : Cx where
  prog := P
  w := w
  K := K
  mg := mg
  base := base
  A := A.deeper (envOfC qual scope s.heap.objs.size f cd)
  N := N
  s₀ := s
  H₀ := H
  env := envOfC qual scope s.heap.objs.size f cd
  outer := outer
  stack := envOfC qual scope s.heap.objs.size f cd :: outer
  ex := []
  calm := cc
  fn := fun _ => true
  pn := []
  xe := fun e s' => wpAny (model P w) (A.deeper (envOfC qual scope s.heap.objs.size f cd)) (leaving (envOfC qual scope s.heap.objs.size f cd) e) (fun _ s'' => CX outer H s E e s'') (fun e' s'' => CX outer H s E e' s'') s'

theorem cell_has {sc : Scope} {n : Nat} {x : Str} (h : sc.names.lookup x = some .cell) : ∃ c, (cellsFrom n sc.names []).lookup x = some c := by
  have q := PySem.W.cellsFrom_some sc.names n [] (.inl h)
  exact Option.isSome_iff_exists.mp q

theorem inv_start {CX : CXT} {P : Program} {w : World} {K : PySem.W.Frag} {mg : Str → Option Value} {base : Heap} {N ps : List Str} {qual : Str} {scope : Scope} {f : Addr} {cd : Value} {A : Around} {outer : List Env} {s s1 : Shared} {H : Hp} {E : XK} {us : List Value} {vs : List V}
    (S : FnScope N ps scope) (hd : cc = true → A.handled = none) (e0 : Env0 P w K mg base A outer s H) (hl : vs.length = ps.length) (r : Vals vs us)
    (x : InCallC s s.heap.objs.size (bindL (envOfC qual scope s.heap.objs.size f cd).kindOf (ps.zip us) fun _ => none) (cellsFrom (s.heap.objs.size + 1) scope.names []) (bindC (envOfC qual scope s.heap.objs.size f cd).kindOf (ps.zip us) fun _ => none) s1) :
    Inv (cxOf cc CX P w K mg base N qual scope f cd A outer s H E) [] (start N vs) H s1 := by
  have hpl : ps.length ≤ N.length := by have := congrArg List.length S.pre; rw [List.length_take] at this; omega
  obtain ⟨h1, tk, rfl, hk⟩ := x.done
  have noA : ∀ b : Addr, b ∉ (cxOf cc CX P w K mg base N qual scope f cd A outer s H E).ex := fun b z => absurd (show b ∈ ([] : List Addr) from z) (by simp)
  refine ⟨⟨e0.mod, S.kind, rfl, rfl, Nat.le_refl _, fun y z c h1 h2 => ?_, fun y hy => ?_, fun y c _ h => ?_, hd, Around.frames_deeper e0.frames, .inr ⟨rfl, rfl⟩, fun b z => absurd z (noA b), e0.bs, e0.bsz, fun b _ _ => noA b, fun b z => absurd z (noA b), e0.funs, e0.frf⟩,
    rfl, e0.bare, Un.kept hk, ⟨_, x.toInCall.ns, fun i y v h1 h2 h3 => ?_⟩, fun y c h => ⟨_, x.cell y c h⟩, e0.hok.fresh (Nat.le_refl _), fun y c h => ?_, fun p hp => absurd (show p ∈ ([] : List (Addr × Obj)) from hp) (by simp), e0.hok.kept hk, ?_⟩
  · exact name_of_addr x.apart (PySem.mem_of_lookup h1) (PySem.mem_of_lookup h2)
  · have hy : scope.names.lookup y = some .cell ∨ scope.names.lookup y = some .free := hy
    rcases hy with hy | hy
    · exact cell_has hy
    · exact absurd rfl (S.nofree _ (PySem.mem_of_lookup hy))
  · exact Nat.le_of_lt (x.above y c (PySem.mem_of_lookup h))
  · have hi : i < vs.length := by
      unfold start at h2
      by_cases hi : i < vs.length
      · exact hi
      · rw [List.getElem?_append_right (by simpa using hi)] at h2
        rw [List.getElem?_replicate] at h2
        split at h2 <;> cases h2
    have ha : vs[i]? = some v := by
      unfold start at h2
      rw [List.getElem?_append_left (by simpa using hi), List.getElem?_map] at h2
      cases e : vs[i]? with
      | none => rw [e] at h2; cases h2
      | some a => rw [e] at h2; cases h2; rfl
    obtain ⟨u, hu, rv⟩ := r.get ha
    have hp : ps[i]? = some y := by
      rw [← S.pre, List.getElem?_take_of_lt (by omega)]; exact h1
    have ndP : ps.Nodup := by rw [← S.pre]; exact S.nd.sublist (List.take_sublist _ _)
    refine ⟨u, rv, ?_⟩
    rcases S.par y (List.mem_of_getElem? hp) with k | k
    · exact .inl ⟨k, bindL_get ndP hp hu k⟩
    · obtain ⟨c, e⟩ := cell_has (n := s.heap.objs.size + 1) k
      refine .inr ⟨.inl k, c, e, ?_⟩
      have q := x.cell y c e
      rw [bindC_get ndP hp hu (by show scope.names.lookup y ≠ _; rw [k]; decide)] at q
      exact q
  · exact e0.hok.fresh (Nat.le_of_lt (x.above y c (PySem.mem_of_lookup h)))
  · unfold start
    show _ = N.length
    rw [List.length_append, List.length_map, List.length_replicate]
    omega

/-- THE RULE: a def (or a method) of the text, by its body. The body's reading t is chosen for each entry; it is run at the parameters' values -/
theorem fn_of {CX : CXT} {P : Program} {w : World} {K : PySem.W.Frag} {mg : Str → Option Value} {base : Heap} {k : Nat} {f : Addr} {name qual : Str} {params : Arguments} {body : List Stmt} {scope : Scope} {dV kV doc pm cdv ct oc : Value} {an od : Option Addr}
    {osl : Array (Option Value)} {N ps : List Str} {sp : Sp} (lk : K.lookup f = some ⟨oc, od, .func (PySem.W.fnOf name qual params body scope dV kV doc pm an cdv ct), osl⟩) (hcd : PySem.W.codeIn K cdv qual = true) (S : FnScope N ps scope)
    (len : ∀ vs H Q E, sp vs H Q E → vs.length = ps.length)
    (hbody : ∀ (A : Around) (outer : List Env) (s : Shared) (H : Hp) (vs : List V) (Q : VK) (E : XK), Room cc k (A.deeper (envOfC qual scope s.heap.objs.size f cdv)) → sp vs H Q E →
      ∃ t, PSs (cxOf cc CX P w K mg base N qual scope f cdv A outer s H E) body t ∧ t { nx := fun _ H' => Q .non H', rt := Q } (start N vs) H) :
    FnOk P w K mg base CX cc (k + 1) f (PySem.W.fnOf name qual params body scope dV kV doc pm an cdv ct) ps sp := by
  refine ⟨len, fun A outer s H args us vs Q E hr e0 hb r hsp => ?_⟩
  have hl := len _ _ _ _ hsp
  have KX : K.In s.heap := e0.mod.kin.keeps fun b o e => (e0.bs b o e).1
  have lim : s.heap.NoLimit := e0.mod.nolimit.keeps fun b o e => (e0.bs b o e).1
  have hkind : ∀ y ∈ ps.zip us, scope.names.lookup y.1 = some .local ∨ (scope.names.lookup y.1 = some .cell ∧ ((cellsFrom (s.heap.objs.size + 1) scope.names []).lookup y.1).isSome = true) := fun ⟨n, v⟩ hy => by
    rcases S.par n (List.of_mem_zip hy).1 with q | q
    · exact .inl q
    · exact .inr ⟨q, PySem.W.cellsFrom_some _ _ _ (.inl q)⟩
  refine codeAny_call_function hr.depth (KX _ _ lk) rfl S.co S.gen rfl (PySem.W.codeRec_of KX hcd) (hb _ _ _ _ ?_)
  refine wpAny_newFunctionEnv_cells S.kind hkind fun env he s1 x => ?_
  subst he
  refine ⟨lim.keeps x.toInCall.keep, codeAny_func ?_⟩
  obtain ⟨t, ht, hq⟩ := hbody A outer s H vs Q E (hr.deeper _) hsp
  have I : Inv (cxOf cc CX P w K mg base N qual scope f cdv A outer s H E) [] (start N vs) H s1 := inv_start S hr.hd e0 hl r x
  refine wpAny_mono (ht [] s1 (start N vs) H _ I hq) (fun fl s' hs => ?_) fun e s' hs => hs
  have fin : ∀ {σ' : St} {H' : Hp} {v : V} {u : Value}, Inv (cxOf cc CX P w K mg base N qual scope f cdv A outer s H E) [] σ' H' s' → RelV v u → Q v H' → CE outer P w H s Q u s' :=
    fun {σ' H' v u} J rv q => ⟨v, H', J.os, J.bare, J.base, J.hok, rv, q⟩
  cases fl with
  | ret u =>
    obtain ⟨v, σ', H', J, rv, q⟩ := hs
    exact fin J rv q
  | next =>
    obtain ⟨σ', H', J, q⟩ := hs
    exact fin (v := V.non) (u := Value.none) J rfl q
  | brk =>
    obtain ⟨_, _, _, q⟩ := hs
    exact False.elim q
  | cont =>
    obtain ⟨_, _, _, q⟩ := hs
    exact False.elim q
end L2

namespace L2
open PySem PySem.Spec PyProof.Rows
section
variable {X : Cx} {x : Str} {p pos : Pos} {e : Expr} {es : List Expr} {t : TA} {id T : String} {r : List V → Hp → VK → Prop}

def tCB (r : List V → Hp → VK → Prop) (t : TA) : TE := fun σ H Q => t σ H fun vs H1 => r vs H1 Q
/-- f(e, ..), f a built-in function -/
theorem pe_callB (hc : CallR X (.builtin id) r) (hg : Gl X x) (hm : X.mg x = none) (hv : bootBuiltins x = some (.builtin id)) (ha : PA X (e :: es) t) (hn : x ≠ "__name__" := by decide) (hdb : (x == ("__debug__" : Str)) = false := by decide)
    (he : starEach (e :: es) X.env = (false, eval e X.env) :: starEach es X.env := by rfl) (hpl : (backTo pos (starEach es X.env)).any (·.1) = false := by rfl) : PE X (.Call (.Name x p) (e :: es) [] pos) (tCB r t) := by
  intro pins s σ H Q I h
  refine wpAny_Call_Name_kw (ld_blt I hg hm hv ?_ hn hdb)
  exact PyProof.Rows.callWith_builtin1 (thn (ha pos pins s σ H _ I h) fun us s1 ⟨vs, H1, I1, r1, q1⟩ => hc pins s1 σ H1 vs us Q I1 r1 q1) he hpl
/-- T(e, ..), T a built-in type -/
theorem pe_callTy (hc : CallR X (.type T) r) (hg : Gl X x) (hm : X.mg x = none) (hv : bootBuiltins x = some (.type T)) (ha : PA X (e :: es) t) (hn : x ≠ "__name__" := by decide) (hdb : (x == ("__debug__" : Str)) = false := by decide)
    (he : starEach (e :: es) X.env = (false, eval e X.env) :: starEach es X.env := by rfl) (hpl : (backTo pos (starEach es X.env)).any (·.1) = false := by rfl) : PE X (.Call (.Name x p) (e :: es) [] pos) (tCB r t) := by
  intro pins s σ H Q I h
  refine wpAny_Call_Name_kw (ld_blt I hg hm hv ?_ hn hdb)
  exact PyProof.Rows.callWith_type1 (thn (ha pos pins s σ H _ I h) fun us s1 ⟨vs, H1, I1, r1, q1⟩ => hc pins s1 σ H1 vs us Q I1 r1 q1) he hpl
end
end L2

namespace HT
open PySem PyProof.Rows

/-- t < u of tuples of ints -/
def lexLt : List Int → List Int → Bool
  | [], [] => false
  | [], _ :: _ => true
  | _ :: _, [] => false
  | x :: xs, y :: ys => if x = y then lexLt xs ys else decide (x < y)
section
open PySem.SeqAt
open PySem.AutoSeq1 (wpAny_loadPart')
open PySem.MeetsSeq PySem.MeetsSeq2 PySem.MeetsSeq3

end

section
variable {prog : Program} {w : World} {A : Around} {E : Value → Shared → Prop} {s : Shared}

/-! ### t[a:b], not the whole -/
/-- a slice's bound as a place among n (d where it is left out) -/
def sIx (n d : Nat) : Option Int → Nat
  | none => d
  | some v => if v < 0 then (v + (n : Int)).toNat else min v.toNat n
theorem sIx_none (n d : Nat) : sIx n d none = d := rfl
theorem sIx_nat (n d k : Nat) : sIx n d (some (k : Int)) = min k n := by
  show (if (k : Int) < 0 then ((k : Int) + (n : Int)).toNat else min (k : Int).toNat n) = min k n
  rw [if_neg (by omega), Int.toNat_natCast]
theorem sIx_le (n d : Nat) (hd : d ≤ n) (o : Option Int) : sIx n d o ≤ n := by
  cases o with
  | none => exact hd
  | some v =>
    show (if v < 0 then (v + (n : Int)).toNat else min v.toNat n) ≤ n
    by_cases hv : v < 0
    · rw [if_pos hv]; omega
    · rw [if_neg hv]; exact Nat.min_le_right _ _
theorem clip_eq (v : Int) (n d : Nat) : (if v < 0 then max (v + (n : Int)) 0 else min v (n : Int)) = ((sIx n d (some v) : Nat) : Int) := by
  show (if v < 0 then max (v + (n : Int)) 0 else min v (n : Int)) = (((if v < 0 then (v + (n : Int)).toNat else min v.toNat n) : Nat) : Int)
  by_cases hv : v < 0
  · simp only [if_pos hv]; omega
  · simp only [if_neg hv]; omega
end
end HT

namespace L2
open PySem PySem.Spec PyProof.Rows

/-! ### the parts of a slice -/
abbrev TO := St → Hp → (Option Int → Hp → Prop) → Prop
/-- a slice's part (left out, or an int) -/
def PO (X : Cx) (e : Option Expr) (t : TO) : Prop :=
  ∀ (pins : List (Addr × Obj)) (s : Shared) (σ : St) (H : Hp) (Q : Option Int → Hp → Prop), Inv X pins σ H s → t σ H Q →
    wpAny (model X.prog X.w) X.A (evalPart e X.env) (fun u s' => ∃ o H', Inv X pins σ H' s' ∧ IsPart u o ∧ Q o H') X.xe s
def tNoPart : TO := fun _ H Q => Q none H
def tPart (t : TE) : TO := fun σ H Q => t σ H fun x H1 => ∃ i, x = .int i ∧ Q (some i) H1

section
variable {X : Cx} {e : Expr} {te : TE} {lo hi : Option Expr} {tl th : TO} {pos p2 : Pos}

theorem po_none : PO X none tNoPart := by
  intro pins s σ H Q I h
  rw [evalPart_none]
  exact wpAny_pure ⟨none, H, I, .none, h⟩
theorem po_some (h : PE X e te) : PO X (some e) (tPart te) := by
  intro pins s σ H Q I hw
  rw [evalPart_some]
  refine thn (h pins s σ H _ I hw) fun u s1 ⟨x, H1, I1, r1, q1⟩ => ?_
  obtain ⟨i, rfl, q⟩ := q1
  obtain ⟨t, rfl⟩ := r1
  exact ⟨some i, H1, I1, .int i t, q⟩

/-- what a slice of a value is, by values: the slice object stands at sl -/
def SlR (X : Cx) (r : V → Option Int → Option Int → Hp → VK → Prop) : Prop :=
  ∀ (pins : List (Addr × Obj)) (s : Shared) (σ : St) (H : Hp) (x : V) (v vl vu : Value) (lo hi : Option Int) (sl : Addr) (Q : VK), Inv X pins σ H s → RelV x v → s.heap.IsSliceOf sl vl vu .none → IsPart vl lo → IsPart vu hi → r x lo hi H Q →
    ∃ T id, typeLookup (.type T) "__getitem__" = pure (some (.builtin id)) ∧ s.TypeIs v T ∧ wpAny (model X.prog X.w) X.A (getItem v (.ref sl)) (EP X pins σ Q) X.xe s
def tSl (r : V → Option Int → Option Int → Hp → VK → Prop) (te : TE) (tl th : TO) : TE := fun σ H Q => te σ H fun x H1 => tl σ H1 fun l H2 => th σ H2 fun u H3 => r x l u H3 Q
/-- a[lo:hi], any a -/
theorem pe_slice {r : V → Option Int → Option Int → Hp → VK → Prop} (hr : SlR X r) (he : PE X e te) (hl : PO X lo tl) (hu : PO X hi th) : PE X (.Subscript e (.Slice lo hi none p2) pos) (tSl r te tl th) := by
  intro pins s σ H Q I h
  refine Subscript_ (thn (he pins s σ H _ I h) fun v s1 ⟨x, H1, I1, r1, q1⟩ => ?_)
  refine wpAny_Slice (thn (hl pins s1 σ H1 _ I1 q1) fun vl s2 ⟨l, H2, I2, pl, q2⟩ => thn (hu pins s2 σ H2 _ I2 q2) fun vu s3 ⟨u, H3, I3, pu, q3⟩ => ?_)
  rw [evalPart_none]
  refine wpAny_pure ?_
  have I4 : Inv X pins σ H3 { s3 with heap := s3.heap.push { cls := .type "slice", data := .fields #[vl, vu, .none] } } := I3.kept (t' := s3.toks) fun b ob q => Heap.get?_push_of_some _ q
  obtain ⟨T, id, hT, ht, hg⟩ := hr pins { s3 with heap := s3.heap.push { cls := .type "slice", data := .fields #[vl, vu, .none] } } σ H3 x v vl vu l u s3.heap.objs.size Q I4 r1 (Heap.IsSliceOf.new ..) pl pu q3
  show wpAny (model X.prog X.w) X.A (subscriptTail e (.Slice lo hi none p2) v (.ref s3.heap.objs.size)) (EP X pins σ Q) X.xe { s3 with heap := s3.heap.push { cls := .type "slice", data := .fields #[vl, vu, .none] } }
  exact tail_any (ops := [.ref s3.heap.objs.size, v]) ht hT hg (by with_unfolding_all rfl)

/-- the items of xs[lo:hi] -/
def cutV (xs : List V) (lo hi : Option Int) : List V := (xs.drop (HT.sIx xs.length 0 lo)).take (HT.sIx xs.length xs.length hi - HT.sIx xs.length 0 lo)
/-- t[lo:hi], not the whole of it (the whole would be t itself) -/
def rSlT (K : PySem.W.Frag) : V → Option Int → Option Int → Hp → VK → Prop := fun x lo hi H Q => ∃ a xs, x = .ref a ∧ SqT K H a xs ∧
  ¬ (HT.sIx xs.length 0 lo = 0 ∧ HT.sIx xs.length xs.length hi = xs.length) ∧ ∀ p, H p = none → Q (.ref p) (upd H p (.tup (cutV xs lo hi)))
/-! ### t < u, t + u -/
def rLtT (K : PySem.W.Frag) : R2 := fun x y H Q => ∃ a b ns ms, x = .ref a ∧ y = .ref b ∧ SqT K H a (ns.map V.int) ∧ SqT K H b (ms.map V.int) ∧ Q (.bl (HT.lexLt ns ms)) H
/-- t + u, t not empty: u empty gives t itself -/
def rCatT (K : PySem.W.Frag) : R2 := fun x y H Q => ∃ a b xs ys, x = .ref a ∧ y = .ref b ∧ SqT K H a xs ∧ SqT K H b ys ∧ xs ≠ [] ∧ xs.length + ys.length ≤ sizeLine ∧
  (ys = [] → Q (.ref a) H) ∧ (ys ≠ [] → ∀ p, H p = none → Q (.ref p) (upd H p (.tup (xs ++ ys))))
end
end L2

namespace L2
open PySem PySem.Spec PyProof.Rows

/-! ### places -/
/-- the place that an index of any sign means -/
def ixN (n : Nat) (i : Int) : Option Nat := if 0 ≤ i then (if i < n then some i.toNat else none) else if -(n : Int) ≤ i then some (i + n).toNat else none
def atI {α : Type} (xs : List α) (i : Int) : Option α := (ixN xs.length i).bind fun j => xs[j]?
theorem ixN_seq {n : Nat} {i : Int} {j : Nat} (h : ixN n i = some j) : seqIndex? i n = some j ∧ j < n ∧ -(n : Int) ≤ i ∧ i < n := by
  unfold ixN at h
  by_cases h0 : 0 ≤ i
  · rw [if_pos h0] at h
    by_cases h1 : i < n
    · rw [if_pos h1] at h
      have e : i.toNat = j := Option.some.inj h
      exact ⟨by rw [seqIndex_of h0 h1, e], by omega, by omega, h1⟩
    · rw [if_neg h1] at h; cases h
  · rw [if_neg h0] at h
    by_cases h1 : -(n : Int) ≤ i
    · rw [if_pos h1] at h
      have e : (i + n).toNat = j := Option.some.inj h
      exact ⟨by rw [seqIndex_neg (by omega) h1, e], by omega, h1, by omega⟩
    · rw [if_neg h1] at h; cases h
theorem atI_get {α : Type} {xs : List α} {i : Int} {v : α} (h : atI xs i = some v) : ∃ j, seqIndex? i xs.length = some j ∧ xs[j]? = some v ∧ j < xs.length ∧ -(xs.length : Int) ≤ i ∧ i < xs.length := by
  unfold atI at h
  cases e : ixN xs.length i with
  | none => rw [e] at h; cases h
  | some j =>
    rw [e] at h
    obtain ⟨h1, h2, h3, h4⟩ := ixN_seq e
    exact ⟨j, h1, h, h2, h3, h4⟩
theorem atI_nat {α : Type} {xs : List α} {j : Nat} {v : α} (h : xs[j]? = some v) : atI xs (j : Int) = some v := by
  have hj : j < xs.length := (List.getElem?_eq_some_iff.mp h).1
  have e : ixN xs.length (j : Int) = some j := by
    unfold ixN
    rw [if_pos (by omega), if_pos (by omega)]; simp
  unfold atI; rw [e]; exact h
/-! ### what may be subscripted -/
/-- what stands as an index of a plain subscript -/
def PlainIx (b : Expr) : Prop := ∀ o i, subscripted b false o i = operate [o, i] (getItem o i)
/-- a subscript by values -/
def IxR (X : Cx) (r : R2) : Prop :=
  ∀ (value slice : Expr) (pins : List (Addr × Obj)) (s : Shared) (σ : St) (H : Hp) (x y : V) (v u : Value) (Q : VK), Inv X pins σ H s → RelV x v → RelV y u → r x y H Q →
    subscripted slice false v u = operate [v, u] (getItem v u) → wpAny (model X.prog X.w) X.A (subscriptTail value slice v u) (EP X pins σ Q) X.xe s
/-- a call of a builtin's method by values: the receiver, the arguments -/
def MtR (X : Cx) (id : String) (r : V → List V → Hp → VK → Prop) : Prop :=
  ∀ (pins : List (Addr × Obj)) (s : Shared) (σ : St) (H : Hp) (x : V) (xs : List V) (v : Value) (us : List Value) (Q : VK), Inv X pins σ H s → RelV x v → Vals xs us → r x xs H Q →
    wpAny (model X.prog X.w) X.A (call (.builtin id) (v :: us)) (EP X pins σ Q) X.xe s
section
variable {X : Cx} {a b : Expr} {ta tb : TE} {pos : Pos}
/-- a[b] -/
theorem pe_ix {r : R2} (hr : IxR X r) (ha : PE X a ta) (hb : PE X b tb) (hs : PlainIx b) : PE X (.Subscript a b pos) (tOp r ta tb) := by
  intro pins s σ H Q I h
  exact Subscript_ (binT ha hb I h fun v u s2 x y H2 I2 rx ry q => hr a b pins s2 σ H2 x y v u Q I2 rx ry q (hs _ _))

def rIxL (K : PySem.W.Frag) : R2 := fun x y H Q => ∃ p xs i v, x = .ref p ∧ y = .int i ∧ SqL K H p xs ∧ atI xs i = some v ∧ Q v H
def rIxT (K : PySem.W.Frag) : R2 := fun x y H Q => ∃ p xs i v, x = .ref p ∧ y = .int i ∧ SqT K H p xs ∧ atI xs i = some v ∧ Q v H
def rIxS : R2 := fun x y H Q => ∃ z i c, x = .str z ∧ y = .int i ∧ z.length ≤ sizeLine ∧ atI z.cps.toList i = some c ∧ Q (.str ⟨#[c]⟩) H
theorem ix_list : IxR X (rIxL X.K) := by
  intro value slice pins s σ H x y v u Q I rx ry h hs
  obtain ⟨p, xs, i, z, rfl, rfl, hq, he, q⟩ := h
  cases rx
  obtain ⟨t, rfl⟩ := ry
  obtain ⟨its, r, pl, hz⟩ := I.list hq
  obtain ⟨j, h1, h2, h3, h4, h5⟩ := atI_get he
  obtain ⟨w, ew, rw'⟩ := r.get h2
  have hl := r.length
  have hn := line63
  have fin : EP X pins σ Q w s := ⟨z, H, I, rw', q⟩
  by_cases h0 : 0 ≤ i
  · have hj : i.toNat = j := by
      rw [seqIndex_of h0 h5] at h1
      exact Option.some.inj h1
    exact item_listR pl.isList h0 (by omega) (by rw [hj]; simpa using ew) fin hs
  · have hj : (i + (its.toArray.size : Int)).toNat = j := by
      rw [seqIndex_neg (by omega) h4] at h1
      rw [List.size_toArray, ← hl]
      exact Option.some.inj h1
    exact subscriptTail_builtinR (x := w) pl.isList.typeIs slot_list_getitem.lookup
      (wpAny_getItem_list_neg (Q := fun r s' => r = w ∧ EP X pins σ Q r s') pl.isList (by omega) (by rw [List.size_toArray] <;> omega) (by omega) (by rw [hj]; simpa using ew) ⟨rfl, fin⟩) hs
theorem ix_tup : IxR X (rIxT X.K) := by
  intro value slice pins s σ H x y v u Q I rx ry h hs
  obtain ⟨p, xs, i, z, rfl, rfl, hq, he, q⟩ := h
  cases rx
  obtain ⟨t, rfl⟩ := ry
  obtain ⟨its, r, pl, hz⟩ := I.tuple hq
  obtain ⟨j, h1, h2, h3, h4, h5⟩ := atI_get he
  obtain ⟨w, ew, rw'⟩ := r.get h2
  have hl := r.length
  have hn := line63
  have fin : EP X pins σ Q w s := ⟨z, H, I, rw', q⟩
  exact subscriptTail_builtinR (x := w) pl.typeIs slot_tuple_getitem.lookup
    (getItem_tuple (j := j) (Q := fun r s' => r = w ∧ EP X pins σ Q r s') pl (by omega) (by omega) (by rw [List.size_toArray, ← hl]; exact h1) (by simpa using ew) ⟨rfl, fin⟩) hs
theorem ix_str : IxR X rIxS := by
  intro value slice pins s σ H x y v u Q I rx ry h hs
  obtain ⟨z, i, c, rfl, rfl, hz, he, q⟩ := h
  obtain ⟨t, rfl⟩ := rx
  obtain ⟨t', rfl⟩ := ry
  obtain ⟨j, h1, h2, h3, h4, h5⟩ := atI_get he
  have hl : z.cps.toList.length = z.length := by simp [Str.length]
  rw [hl] at h1 h4 h5
  have hn := line63
  exact tail_any (typeIs_str s z t) slot_str_getitem.lookup (getItem_str (c := c) (by
    have e1 : decide (i < -(2 ^ 63 : Int)) = false := decide_eq_false (by omega)
    have e2 : decide (i ≥ 2 ^ 63) = false := decide_eq_false (by omega)
    rw [e1, e2, Bool.or_false]) (by rw [h1]; simpa using h2) ⟨.str ⟨#[c]⟩, H, I.tok _, ⟨_, rfl⟩, q⟩) hs
/-- list, tuple or str -/
def rIx (K : PySem.W.Frag) : R2 := fun x y H Q => rIxL K x y H Q ∨ rIxT K x y H Q ∨ rIxS x y H Q
/-! ### xs[i] = v, any sign -/
def rSetL : V → V → V → Hp → (Hp → Prop) → Prop := fun o i v H Q => ∃ p xs k j, o = .ref p ∧ i = .int k ∧ H p = some (.lst xs) ∧ ixN xs.length k = some j ∧ Q (upd H p (.lst (xs.set j v)))
/-! ### slices -/
/-- xs[lo:hi] of a list: a new list -/
def rSlL (K : PySem.W.Frag) : V → Option Int → Option Int → Hp → VK → Prop := fun x lo hi H Q => ∃ a xs, x = .ref a ∧ SqL K H a xs ∧ ∀ p, H p = none → Q (.ref p) (upd H p (.lst (cutV xs lo hi)))
/-! ### in, not in: flat items -/
def flatV : V → Bool
  | .non => true
  | .bl _ => true
  | .int _ => true
  | .str _ => true
  | _ => false
/-- == of flat values -/
def eqV : V → V → Bool
  | .non, .non => true
  | .bl a, .bl b => a == b
  | .bl a, .int b => (if a then 1 else 0) == b
  | .int a, .bl b => a == (if b then 1 else 0)
  | .int a, .int b => a == b
  | .str a, .str b => a == b
  | _, _ => false
theorem eqAt_V {A : Around} {s : Shared} {y x : V} {u v : Value} (ry : RelV y u) (rx : RelV x v) (fy : flatV y = true) (fx : flatV x = true) : SeqAt.EqAt A s u v (eqV y x) := by
  cases y with
  | non =>
    cases ry
    cases x with
    | non => cases rx; exact SeqAt.EqAt.same _
    | bl b => cases rx; exact SeqAt.EqAt.none_bool b
    | int b => obtain ⟨t, rfl⟩ := rx; exact SeqAt.EqAt.none_int b t
    | str b => obtain ⟨t, rfl⟩ := rx; exact SeqAt.EqAt.none_str b t
    | _ => exact absurd (show false = true from fx) Bool.false_ne_true
  | bl a =>
    cases ry
    cases x with
    | non => cases rx; exact SeqAt.EqAt.bool_none a
    | bl b => cases rx; exact SeqAt.EqAt.bool_bool a b
    | int b => obtain ⟨t, rfl⟩ := rx; exact SeqAt.EqAt.bool_int a b t
    | str b => obtain ⟨t, rfl⟩ := rx; exact SeqAt.EqAt.bool_str a b t
    | _ => exact absurd (show false = true from fx) Bool.false_ne_true
  | int a =>
    obtain ⟨t', rfl⟩ := ry
    cases x with
    | non => cases rx; exact SeqAt.EqAt.int_none a t'
    | bl b => cases rx; exact SeqAt.EqAt.int_bool a t' b
    | int b => obtain ⟨t, rfl⟩ := rx; exact SeqAt.EqAt.int_int a t' b t
    | str b => obtain ⟨t, rfl⟩ := rx; exact SeqAt.EqAt.int_str a t' b t
    | _ => exact absurd (show false = true from fx) Bool.false_ne_true
  | str a =>
    obtain ⟨t', rfl⟩ := ry
    cases x with
    | non => cases rx; exact SeqAt.EqAt.str_none a t'
    | bl b => cases rx; exact SeqAt.EqAt.str_bool a t' b
    | int b => obtain ⟨t, rfl⟩ := rx; exact SeqAt.EqAt.str_int a t' b t
    | str b => obtain ⟨t, rfl⟩ := rx; exact SeqAt.EqAt.str_str a t' b t
    | _ => exact absurd (show false = true from fx) Bool.false_ne_true
  | _ => exact absurd (show false = true from fy) Bool.false_ne_true
/-- the items' answers, read off the values (a value's own answer does not lean on its token) -/
def eqU (x : V) (u : Value) : Bool := match u with
  | .none => eqV .non x
  | .bool b => eqV (.bl b) x
  | .int i _ => eqV (.int i) x
  | .str z _ => eqV (.str z) x
  | _ => false
theorem eqU_of {x y : V} {u : Value} (r : RelV y u) (f : flatV y = true) : eqU x u = eqV y x := by
  cases y with
  | non => cases r; rfl
  | bl b => cases r; rfl
  | int i => obtain ⟨t, rfl⟩ := r; rfl
  | str z => obtain ⟨t, rfl⟩ := r; rfl
  | _ => exact absurd (show false = true from f) Bool.false_ne_true
theorem any_eqU {x : V} : ∀ {xs : List V} {us : List Value}, Vals xs us → xs.all flatV = true → us.any (eqU x) = xs.any fun y => eqV y x
  | _, _, .nil, _ => rfl
  | y :: xs, u :: us, .cons r t, f => by
    rw [List.all_cons, Bool.and_eq_true] at f
    rw [List.any_cons, List.any_cons, eqU_of r f.1, any_eqU t f.2]
theorem mem_eqAt {A : Around} {s : Shared} {x : V} {v : Value} (rx : RelV x v) (fx : flatV x = true) : ∀ {xs : List V} {us : List Value}, Vals xs us → xs.all flatV = true → ∀ u ∈ us, SeqAt.EqAt A s u v (eqU x u)
  | _, _, .nil, _ => fun u hu => by cases hu
  | y :: xs, u :: us, .cons r t, f => fun u' hu => by
    rw [List.all_cons, Bool.and_eq_true] at f
    rcases List.mem_cons.mp hu with rfl | hu
    · rw [eqU_of r f.1]; exact eqAt_V r rx f.1 fx
    · exact mem_eqAt rx fx t f.2 u' hu
def inV (x : V) (xs : List V) : Bool := xs.any fun y => eqV y x
/-- x in a list or tuple of flat items -/
def rIn (K : PySem.W.Frag) (neg : Bool) : R2 := fun x y H Q => ∃ p xs, y = .ref p ∧ (SqL K H p xs ∨ SqT K H p xs) ∧ flatV x = true ∧ xs.all flatV = true ∧ Q (.bl (if neg then !inV x xs else inV x xs)) H
theorem op_notIn_seq : OpR X (compareOp .NotIn) (rIn X.K true) := by
  intro pins s σ H x y v u Q I rx ry h
  obtain ⟨p, xs, rfl, hq, fx, fs, q⟩ := h
  cases ry
  rcases hq with hq | hq
  · obtain ⟨its, r, pl, hz⟩ := I.list hq
    refine SeqAt.notIn_listAt (eqU x) pl.isList (fun w hw => mem_eqAt rx fx r fs w (by simpa using hw)) ⟨.bl _, H, I, rfl, ?_⟩
    rw [show its.toArray.any (eqU x) = its.any (eqU x) by simp, any_eqU r fs]
    exact q
  · obtain ⟨its, r, pl, hz⟩ := I.tuple hq
    refine SeqAt.notIn_tupleAt (eqU x) pl (fun w hw => mem_eqAt rx fx r fs w (by simpa using hw)) ⟨.bl _, H, I, rfl, ?_⟩
    rw [show its.toArray.any (eqU x) = its.any (eqU x) by simp, any_eqU r fs]
    exact q
/-! ### len, list(x), tuple(x) of any list or tuple that is read -/
theorem call_len_seq : CallR X (.builtin "len") (fun xs H Q => ∃ p ys, xs = [.ref p] ∧ (SqL X.K H p ys ∨ SqT X.K H p ys) ∧ Q (.int ys.length) H) := by
  intro pins s σ H xs us Q I r h
  obtain ⟨p, ys, rfl, hq, q⟩ := h
  obtain ⟨u, rfl, rx⟩ := vals1 r
  cases rx
  have hn := line63
  rcases hq with hq | hq
  · obtain ⟨its, r', pl, hz⟩ := I.list hq
    have hlen := r'.length
    exact Calls.call_len_list pl.isList (by simp only [List.size_toArray] <;> omega) ⟨.int ys.length, H, I.tok _, ⟨s.toks + 1, by rw [List.size_toArray, hlen]⟩, q⟩
  · obtain ⟨its, r', pl, hz⟩ := I.tuple hq
    have hlen := r'.length
    exact len_tuple pl (by simp only [List.size_toArray] <;> omega) ⟨.int ys.length, H, I.tok _, ⟨s.toks + 1, by rw [List.size_toArray, hlen]⟩, q⟩
theorem call_list_of : CallR X (.type "list") (fun xs H Q => ∃ p ys, xs = [.ref p] ∧ (SqL X.K H p ys ∨ SqT X.K H p ys) ∧ ∀ l, H l = none → Q (.ref l) (upd H l (.lst ys))) := by
  intro pins s σ H xs us Q I r h
  obtain ⟨p, ys, rfl, hq, q⟩ := h
  obtain ⟨u, rfl, rx⟩ := vals1 r
  cases rx
  have fin : ∀ (its : List Value), Vals ys its → ys.length ≤ sizeLine → ∀ (h' : Heap) (c' : Nat), (∀ b o', s.heap.get? b = some o' → h'.get? b = some o') →
      h'.get? s.heap.objs.size = some { cls := .type "list", dict := none, data := .seq its.toArray c', slots := #[] } → EP X pins σ Q (.ref s.heap.objs.size) { s with heap := h' } := fun its r' hz h' c' kp e =>
    ⟨.ref s.heap.objs.size, _, I.laid (t' := s.toks) kp (Nat.le_refl _) (show ObjOk X.prog X.w _ h' _ (.lst ys) from ⟨hz, its, c', r', e⟩), rfl, q _ (I.hok.fresh (Nat.le_refl _))⟩
  rcases hq with hq | hq
  · obtain ⟨its, r', pl, hz⟩ := I.list hq
    have hlen := r'.length
    obtain ⟨o, ho, hc, n, hd⟩ := pl.isList
    exact call_list_seq p (.inl rfl) ho hc hd (fun h' c' kp e => fin its r' hz h' c' kp e) (by simp only [List.size_toArray] <;> omega)
  · obtain ⟨its, r', pl, hz⟩ := I.tuple hq
    have hlen := r'.length
    obtain ⟨o, ho, hc, n, hd⟩ := pl
    exact call_list_seq p (.inr rfl) ho hc hd (fun h' c' kp e => fin its r' hz h' c' kp e) (by simp only [List.size_toArray] <;> omega)
/-! ### the call of a builtin's method: o.m(..) -/
/-- the value is of that builtin type -/
def tyV (K : PySem.W.Frag) (T : String) (x : V) (H : Hp) : Prop := match x with
  | .str _ => T = "str"
  | .int _ => T = "int"
  | .ref p => (T = "list" ∧ ∃ xs, SqL K H p xs) ∨ (T = "tuple" ∧ ∃ o, K.lookup p = some o ∧ o.cls = .type "tuple" ∧ o.dict = none) ∨
      (T = "dict" ∧ ((∃ kvs, H p = some (.dK kvs)) ∨ ∃ kvs, H p = some (.dT kvs))) ∨ (T = "set" ∧ ∃ S n, H p = some (.set S n))
  | _ => False
theorem tyV_is {pins : List (Addr × Obj)} {σ : St} {H : Hp} {s : Shared} {T : String} {x : V} {v : Value} (I : Inv X pins σ H s) (r : RelV x v) (ty : tyV X.K T x H) :
    s.TypeIs v T ∧ ∀ a, v = .ref a → ∃ ob, s.heap.get? a = some ob ∧ ob.dict = none := by
  cases x with
  | str z =>
    obtain ⟨t, rfl⟩ := r
    cases (show T = "str" from ty)
    exact ⟨typeIs_str s z t, fun _ e => nomatch e⟩
  | int i =>
    obtain ⟨t, rfl⟩ := r
    cases (show T = "int" from ty)
    exact ⟨typeIs_int s i t, fun _ e => nomatch e⟩
  | ref p =>
    cases r
    rcases ty with ⟨rfl, xs, hq⟩ | ⟨rfl, o, hk, hc, hd⟩ | ⟨rfl, hk⟩ | ⟨rfl, S, n, hk⟩
    · obtain ⟨its, _, pl, _⟩ := I.list hq
      refine ⟨pl.isList.typeIs, fun a e => ?_⟩
      cases e
      obtain ⟨o, n, e, c, hd, _⟩ := pl
      exact ⟨o, e, hd⟩
    · refine ⟨⟨o, I.kIn p o hk, hc⟩, fun a e => ?_⟩
      cases e
      exact ⟨o, I.kIn _ o hk, hd⟩
    · have z : ∃ o, s.heap.get? p = some o ∧ o.ExactDict := by
        rcases hk with ⟨kvs, hk⟩ | ⟨kvs, hk⟩
        · obtain ⟨_, _, _, _, o, _, _, e, ex, _⟩ := I.hok p _ hk
          exact ⟨o, e, ex⟩
        · obtain ⟨_, _, _, _, o, _, _, e, ex, _⟩ := I.hok p _ hk
          exact ⟨o, e, ex⟩
      obtain ⟨o, e, ex⟩ := z
      refine ⟨⟨o, e, ex.1⟩, fun a e2 => ?_⟩
      cases e2
      exact ⟨o, e, ex.2.1⟩
    · obtain ⟨o, _, _, _, e, ex, _⟩ := I.hok p _ hk
      refine ⟨⟨o, e, ex.1⟩, fun a e2 => ?_⟩
      cases e2
      exact ⟨o, e, ex.2.1⟩
  | _ => exact False.elim ty
def tBM0 (K : PySem.W.Frag) (T : String) (r : V → List V → Hp → VK → Prop) (to : TE) : TE := fun σ H Q => to σ H fun x H1 => tyV K T x H1 ∧ r x [] H1 Q
def tBM (K : PySem.W.Frag) (T : String) (r : V → List V → Hp → VK → Prop) (to : TE) (t : TA) : TE := fun σ H Q => to σ H fun x H1 => tyV K T x H1 ∧ t σ H1 fun xs H2 => r x xs H2 Q
variable {o e : Expr} {es : List Expr} {to : TE} {t : TA} {name : Str} {apos cpos : Pos} {T id : String} {r : V → List V → Hp → VK → Prop}
theorem pe_bm0 (pa : PlainAttrs T) (slot : Slot T name id) (hty : typeOf (.builtin id) = pure (.type "method_descriptor")) (hm : MtR X id r) (ho : PE X o to)
    (hbase : attributeBase o name X.env (eval o X.env) = eval o X.env := by rfl) (hline : (apos.endLine == cpos.line) = true := by rfl) : PE X (.Call (.Attribute o name apos) [] [] cpos) (tBM0 X.K T r to) := by
  intro pins s σ H Q I h
  refine wpAny_Call_method0_late hbase hline (thn (ho pins s σ H _ I h) fun v s1 ⟨x, H1, I1, r1, ty, q1⟩ => ?_)
  obtain ⟨h1, h2⟩ := tyV_is I1 r1 ty
  exact ⟨T, id, pa, slot, hty, h1, h2, Calls.callWith_builtin rfl (PySem.evalArgs_none (hm pins s1 σ H1 x [] v [] Q I1 r1 .nil q1))⟩
theorem pe_bm (pa : PlainAttrs T) (slot : Slot T name id) (hty : typeOf (.builtin id) = pure (.type "method_descriptor")) (hm : MtR X id r) (ho : PE X o to) (ha : PA X (e :: es) t)
    (hbase : attributeBase o name X.env (eval o X.env) = eval o X.env := by rfl)
    (hfew : ((backTo cpos (starEach (e :: es) X.env)).all (fun x => !x.1) && (backToKw cpos (keywordEach [] X.env)).all (fun x => x.1.isSome)
      && decide ((e :: es).length + ([] : List Keyword).length + (if ([] : List Keyword).isEmpty then 0 else 1) < 30)) = true := by rfl)
    (hline : (apos.endLine == cpos.line) = true := by rfl) (hs : starEach (e :: es) X.env = (false, eval e X.env) :: starEach es X.env := by rfl) (hplain : (backTo cpos (starEach es X.env)).any (·.1) = false := by rfl) :
    PE X (.Call (.Attribute o name apos) (e :: es) [] cpos) (tBM X.K T r to t) := by
  intro pins s σ H Q I h
  refine wpAny_Call_method_late hbase hfew hline rfl (thn (ho pins s σ H _ I h) fun v s1 ⟨x, H1, I1, r1, ty, q1⟩ => ?_)
  obtain ⟨h1, h2⟩ := tyV_is I1 r1 ty
  refine ⟨T, id, pa, slot, hty, h1, h2, ?_⟩
  have hA := ha cpos pins s1 σ H1 _ I1 q1
  rw [hs] at hA ⊢
  refine Calls.callWith_builtin (by show (false || (backTo cpos (starEach es X.env)).any (·.1)) = false; rw [hplain] <;> rfl) (Calls.evalArgs_plain ?_)
  exact thn hA fun us s2 ⟨vs, H2, I2, r2, q2⟩ => hm pins s2 σ H2 x vs v us Q I2 r1 r2 q2
/- xs.append(e), list.index on a module's tuple .. are MtR facts of 06m -/
end
end L2

namespace L2
open PySem PySem.Spec PyProof.Rows

def MtM (X : Cx) (id : String) (r : V → List V → Hp → VK → Prop) : Prop :=
  ∀ (pins : List (Addr × Obj)) (s : Shared) (σ : St) (H : Hp) (x : V) (xs : List V) (v : Value) (us : List Value) (Q : VK), Inv X pins σ H s → RelV x v → Vals xs us → r x xs H Q →
    wpAny (model X.prog X.w) X.A (call (.builtin id) (v :: us)) (EP X pins σ Q) X.xe s

/-! ### lists of values -/
theorem Vals.one : ∀ {x : V} {us : List Value}, Vals [x] us → ∃ u, us = [u] ∧ RelV x u
  | _, _, .cons r .nil => ⟨_, rfl, r⟩
theorem Vals.zero : ∀ {us : List Value}, Vals [] us → us = []
  | _, .nil => rfl
theorem Vals.reverse {xs : List V} {us : List Value} (h : Vals xs us) : Vals xs.reverse us.reverse := by
  induction h with
  | nil => exact .nil
  | cons r t ih => rw [List.reverse_cons, List.reverse_cons]; exact Vals.append ih (.cons r .nil)
section
variable {X : Cx} {pins : List (Addr × Obj)} {σ : St} {H : Hp} {s : Shared} {l b : Addr} {xs ys zs : List V}

/-! ### the two steps: a tracked list is rewritten, a new list is laid -/
theorem Inv.lset {its its' : List Value} {n : Nat} {f : Array Value → Array Value} {t' : Nat} (I : Inv X pins σ H s) (hH : H l = some (.lst xs))
    (e : s.heap.get? l = some { cls := .type "list", data := .seq its.toArray n }) (hf : f its.toArray = its'.toArray) (hv : Vals ys its') (hz : ys.length ≤ sizeLine) :
    Inv X pins σ (upd H l (.lst ys)) { s with heap := s.heap.update l (Obj.mapSeq f), toks := t' } := by
  have q := PySem.IsL.update e f
  rw [hf] at q
  refine I.write (x := l) (e := l) (by rw [hH]; exact trivial) (.inl rfl) (fun b' u hb hu => (Heap.get?_update_other s.heap (Obj.mapSeq f) (Ne.symm hb)).trans hu) ⟨_, q⟩ ?_
  exact ⟨hz, its', _, hv, q⟩
theorem Inv.lstM (I : Inv X pins σ H s) (hH : H l = some (.lst xs)) : xs.length ≤ sizeLine ∧ ∃ (its : List Value) (n : Nat), Vals xs its ∧ xs.length = its.length ∧ s.heap.get? l = some { cls := .type "list", data := .seq its.toArray n } := by
  obtain ⟨z, its, n, r, e⟩ := I.hok l _ hH
  exact ⟨z, its, n, r, r.length, e⟩

end

section
variable {X : Cx}

/-! ### methods -/
def rAppend : V → List V → Hp → VK → Prop := fun x vs H Q => ∃ l xs y, x = .ref l ∧ vs = [y] ∧ H l = some (.lst xs) ∧ xs.length < sizeLine ∧ Q .non (upd H l (.lst (xs ++ [y])))
theorem mt_append : MtM X "list.append" rAppend := by
  intro pins s σ H x vs v us Q I rx rv h
  obtain ⟨l, xs, y, rfl, rfl, hH, hz, q⟩ := h
  cases rx
  obtain ⟨u, rfl, ru⟩ := rv.one
  obtain ⟨z, its, n, r, hl, e⟩ := I.lstM hH
  refine call_meets F.slot_list_append ⟨_, e, rfl⟩ F.entry_list_append (F.args_list_append_2 _ _) (PySem.list_append l its.toArray n u (by rw [List.size_toArray]; omega)) ⟨e, ?_⟩
  refine ⟨.non, _, I.lset (its' := its ++ [u]) hH e (by simp) (r.append (.cons ru .nil)) ?_, rfl, q⟩
  rw [List.length_append, List.length_singleton]
  omega

def rExtend : V → List V → Hp → VK → Prop := fun x vs H Q => ∃ l b xs zs, x = .ref l ∧ vs = [.ref b] ∧ H l = some (.lst xs) ∧ H b = some (.lst zs) ∧ xs.length + zs.length ≤ sizeLine ∧ Q .non (upd H l (.lst (xs ++ zs)))
def rPop : V → List V → Hp → VK → Prop := fun x vs H Q => ∃ l xs y, x = .ref l ∧ vs = [] ∧ H l = some (.lst xs) ∧ xs[xs.length - 1]? = some y ∧ Q y (upd H l (.lst xs.dropLast))
def rPopAt : V → List V → Hp → VK → Prop := fun x vs H Q => ∃ l xs i k y, x = .ref l ∧ vs = [.int i] ∧ H l = some (.lst xs) ∧ -(2 ^ 63) ≤ i ∧ i < 2 ^ 63 ∧ seqIndex? i xs.length = some k ∧ xs[k]? = some y ∧ Q y (upd H l (.lst (xs.eraseIdx k)))
def rReverse : V → List V → Hp → VK → Prop := fun x vs H Q => ∃ l xs, x = .ref l ∧ vs = [] ∧ H l = some (.lst xs) ∧ Q .non (upd H l (.lst xs.reverse))
def rClear : V → List V → Hp → VK → Prop := fun x vs H Q => ∃ l xs, x = .ref l ∧ vs = [] ∧ H l = some (.lst xs) ∧ Q .non (upd H l (.lst []))
theorem mt_clear : MtM X "list.clear" rClear := by
  intro pins s σ H x vs v us Q I rx rv h
  obtain ⟨l, xs, rfl, rfl, hH, q⟩ := h
  cases rx
  have hus := rv.zero
  subst hus
  obtain ⟨z, its, n, r, hl, e⟩ := I.lstM hH
  refine call_meets F.slot_list_clear ⟨_, e, rfl⟩ F.entry_list_clear (F.args_list_clear_1 _) (AutoSeq1.list_clear_list_0 l its.toArray n (by rw [List.size_toArray]; omega)) ⟨e, ?_⟩
  exact ⟨.non, _, I.lset (its' := []) (ys := []) hH e rfl .nil (Nat.zero_le _), rfl, q⟩

/-! ### list + list, list += list, list * int -/
def rCat : R2 := fun x y H Q => ∃ l b xs zs, x = .ref l ∧ y = .ref b ∧ H l = some (.lst xs) ∧ H b = some (.lst zs) ∧ xs.length + zs.length ≤ sizeLine ∧ ∀ p, H p = none → Q (.ref p) (upd H p (.lst (xs ++ zs)))
/-- a list times an int (a negative one is nothing) -/
def rRep : R2 := fun x y H Q => ∃ l k xs, x = .ref l ∧ y = .int k ∧ H l = some (.lst xs) ∧ -(2 ^ 63) ≤ k ∧ k < 2 ^ 63 ∧ xs.length * k.toNat ≤ sizeLine ∧
  ∀ p, H p = none → Q (.ref p) (upd H p (.lst (List.replicate k.toNat xs).flatten))
/-! ### del xs[i] -/
end

/-! ### xs[a:b] = ys -/
section
variable {prog : Program} {w : World} {A : Around} {E : Value → Shared → Prop} {s : Shared}
end

section
variable {X : Cx}
end
end L2


namespace L2
open PySem PySem.Spec PyProof.Rows

/-! ### lists of pairs as tables -/
section
variable {κ : Type} [DecidableEq κ]
def valV (kvs : List (κ × V)) (k : κ) : Option V := (kvs.find? fun kv => decide (kv.1 = k)).map (·.2)
/-- in its place, or at the end -/
def putK (kvs : List (κ × V)) (k : κ) (v : V) : List (κ × V) :=
  if (kvs.any fun kv => decide (kv.1 = k)) = true then kvs.map (fun kv => if kv.1 = k then (kv.1, v) else kv) else kvs ++ [(k, v)]
def dropK (kvs : List (κ × V)) (k : κ) : List (κ × V) := kvs.filter fun kv => decide (kv.1 ≠ k)

theorem valV_pos {p : κ × V} {r : List (κ × V)} {k : κ} (e : p.1 = k) : valV (p :: r) k = some p.2 := by simp [valV, List.find?_cons, e]
theorem valV_neg {p : κ × V} {r : List (κ × V)} {k : κ} (e : ¬ p.1 = k) : valV (p :: r) k = valV r k := by simp [valV, List.find?_cons, e]
theorem valV_any (k : κ) : ∀ kvs : List (κ × V), (kvs.any fun kv => decide (kv.1 = k)) = (valV kvs k).isSome
  | [] => rfl
  | p :: r => by
    rw [List.any_cons]
    by_cases e : p.1 = k
    · simp only [valV_pos e, decide_eq_true e, Bool.true_or, Option.isSome_some]
    · rw [valV_neg e, decide_eq_false e, Bool.false_or]; exact valV_any k r
theorem length_putK (kvs : List (κ × V)) (k : κ) (v : V) : (putK kvs k v).length ≤ kvs.length + 1 := by
  unfold putK
  split
  · rw [List.length_map]; omega
  · rw [List.length_append, List.length_cons, List.length_nil]; omega
theorem putK_new {kvs : List (κ × V)} {k : κ} (v : V) (h : valV kvs k = none) : putK kvs k v = kvs ++ [(k, v)] := by
  unfold putK
  rw [valV_any, h]
  exact if_neg (by decide)

theorem RelO.isSome_eq {o : Option V} {u : Option Value} (r : RelO o u) : o.isSome = u.isSome := by
  cases o with
  | none => cases u with
    | none => rfl
    | some _ => exact (show False from r).elim
  | some _ => cases u with
    | none => exact (show False from r).elim
    | some _ => rfl
/-- raw tables of the same keys -/
theorem KV.val {kvs : List (κ × V)} {vs : List (κ × Value)} (r : KV kvs vs) (k : κ) : RelO (valV kvs k) (valueAt vs k) := by
  unfold KV at r
  induction r with
  | nil => exact True.intro
  | @cons p q ps qs h t ih =>
    obtain ⟨h1, h2⟩ := h
    by_cases e : p.1 = k
    · have e' : q.1 = k := h1.symm.trans e
      have b : valueAt (q :: qs) k = some q.2 := by simp [valueAt, List.find?_cons, e']
      rw [valV_pos e, b]; exact h2
    · have e' : ¬ q.1 = k := fun z => e (h1.trans z)
      have b : valueAt (q :: qs) k = valueAt qs k := by simp [valueAt, List.find?_cons, e']
      rw [valV_neg e, b]; exact ih
theorem KV.any {kvs : List (κ × V)} {vs : List (κ × Value)} (r : KV kvs vs) (k : κ) : (kvs.any fun kv => decide (kv.1 = k)) = vs.any fun kv => decide (kv.1 = k) := by
  unfold KV at r
  induction r with
  | nil => rfl
  | cons h t ih => rw [List.any_cons, List.any_cons, ih, h.1]
theorem KV.repl {kvs : List (κ × V)} {vs : List (κ × Value)} (r : KV kvs vs) (k : κ) {y : V} {u : Value} (ry : RelV y u) :
    KV (kvs.map fun kv => if kv.1 = k then (kv.1, y) else kv) (vs.map fun kv => if kv.1 = k then (kv.1, u) else kv) := by
  unfold KV at r ⊢
  induction r with
  | nil => exact .nil
  | @cons p q ps qs h t ih =>
    rw [List.map_cons, List.map_cons]
    refine .cons ?_ ih
    obtain ⟨h1, h2⟩ := h
    by_cases e : p.1 = k
    · rw [if_pos e, if_pos (h1.symm.trans e)]; exact ⟨h1, ry⟩
    · rw [if_neg e, if_neg (fun z => e (h1.trans z))]; exact ⟨h1, h2⟩
theorem KV.put {kvs : List (κ × V)} {vs : List (κ × Value)} (r : KV kvs vs) (k : κ) {y : V} {u : Value} (ry : RelV y u) : KV (putK kvs k y) (stored vs k u) := by
  unfold putK stored
  rw [r.any k]
  by_cases e : (vs.any fun kv => decide (kv.1 = k)) = true
  · rw [if_pos e, if_pos e]; exact r.repl k ry
  · rw [if_neg e, if_neg e]; exact Paired.snoc r ⟨rfl, ry⟩
theorem KV.length {kvs : List (κ × V)} {vs : List (κ × Value)} (r : KV kvs vs) : kvs.length = vs.length := Paired.length r
end


/-! ### a tracked dict, its keys ints and texts or tuples of these -/
theorem kV_is {P : Program} {w : World} {k : Key} {u : Value} (r : RelV (kV k) u) : (mixKind P w).is k u = true := by
  cases k with
  | inl i => obtain ⟨t, e⟩ := (show ∃ t, u = Value.int i t from r); subst e; exact mixKind_int P w i t
  | inr x => obtain ⟨t, e⟩ := (show ∃ t, u = Value.str x t from r); subst e; exact mixKind_str P w x t
theorem items_are {P : Program} {w : World} : ∀ {ks : List Key} {us : List Value}, Vals (ks.map kV) us → ItemsAre (mixKind P w) ks us
  | [], _, r => by rw [List.map_nil] at r; cases r; exact .nil
  | k :: ks, _, r => by
    rw [List.map_cons] at r
    cases r with
    | cons h t => exact .cons (kV_is h) (items_are t)

/-- raw entries of a dict with tuple keys -/
abbrev KT (H : Hp) : List (List Key × V) → List (List Key × Addr × Value) → Prop := Paired fun p q => p.1 = q.1 ∧ H q.2.1 = some (.tup (p.1.map kV)) ∧ RelV p.2 q.2.2
theorem KT.val {H : Hp} {kvs : List (List Key × V)} {xs : List (List Key × Addr × Value)} (r : KT H kvs xs) (k : List Key) : RelO (valV kvs k) ((atKey xs k).map (·.2)) := by
  induction r with
  | nil => exact True.intro
  | @cons p q ps qs h t ih =>
    obtain ⟨h1, _, h2⟩ := h
    by_cases e : p.1 = k
    · have e' : q.1 = k := h1.symm.trans e
      have b : atKey (q :: qs) k = some q.2 := by simp [atKey, List.find?_cons, e']
      rw [valV_pos e, b]; exact h2
    · have e' : ¬ q.1 = k := fun z => e (h1.trans z)
      have b : atKey (q :: qs) k = atKey qs k := by simp [atKey, List.find?_cons, e']
      rw [valV_neg e, b]; exact ih
theorem KT.repl {H : Hp} {kvs : List (List Key × V)} {xs : List (List Key × Addr × Value)} (r : KT H kvs xs) (k : List Key) {y : V} {u : Value} (ry : RelV y u) :
    KT H (kvs.map fun kv => if kv.1 = k then (kv.1, y) else kv) (xs.map (putAt k u)) := by
  induction r with
  | nil => exact .nil
  | @cons p q ps qs h t ih =>
    rw [List.map_cons, List.map_cons]
    refine .cons ?_ ih
    obtain ⟨h1, h2, h3⟩ := h
    unfold putAt
    by_cases e : p.1 = k
    · rw [if_pos e, if_pos (h1.symm.trans e)]; exact ⟨h1, h2, ry⟩
    · rw [if_neg e, if_neg (fun z => e (h1.trans z))]; exact ⟨h1, h2, h3⟩
theorem KT.put {H : Hp} {kvs : List (List Key × V)} {xs : List (List Key × Addr × Value)} (r : KT H kvs xs) (k : List Key) {b : Addr} {y : V} {u : Value} (hb : H b = some (.tup (k.map kV))) (ry : RelV y u) :
    KT H (putK kvs k y) (storedH xs k b u) := by
  have e : (kvs.any fun kv => decide (kv.1 = k)) = (atKey xs k).isSome := by
    rw [valV_any, (r.val k).isSome_eq, Option.isSome_map]
  unfold putK storedH
  rw [e]
  by_cases q : (atKey xs k).isSome = true
  · rw [if_pos q, if_pos q]; exact r.repl k ry
  · rw [if_neg q, if_neg q]; exact Paired.snoc r ⟨rfl, hb, ry⟩
theorem KT.keeps {H H' : Hp} {kvs : List (List Key × V)} {xs : List (List Key × Addr × Value)} (r : KT H kvs xs) (ht : ∀ b ys, H b = some (.tup ys) → H' b = some (.tup ys)) : KT H' kvs xs :=
  Paired.mapP r fun _ _ z => ⟨z.1, ht _ _ z.2.1, z.2.2⟩

section
variable {P : Program} {w : World} {H : Hp} {h : Heap} {a : Addr}
theorem rd_of {u : HO} (ok : HOk P w H h) (e : Rd H a u) : ObjOk P w H h a u := e.ok ok
theorem dk_rd {kvs : List (Key × V)} (ok : HOk P w H h) (e : Rd H a (.dK kvs)) : kvs.length ≤ sizeLine ∧ (a == sysModules) = false ∧ ∃ vs, KV kvs vs ∧ h.DictOf (mixKind P w) a vs :=
  show ObjOk P w H h a (.dK kvs) from rd_of ok e
theorem dk_of {kvs : List (Key × V)} (ok : HOk P w H h) (e : H a = some (.dK kvs)) : kvs.length ≤ sizeLine ∧ (a == sysModules) = false ∧ ∃ vs, KV kvs vs ∧ h.DictOf (mixKind P w) a vs := dk_rd ok (.inl e)
/-- a tracked tuple of ints and texts is a key -/
theorem key_of {ks : List Key} (ok : HOk P w H h) (e : H a = some (.tup (ks.map kV))) : (tupleKind (mixKind P w)).is h ks a := by
  obtain ⟨_, its, r, o, h1, h2, n, h3⟩ := (show ObjOk P w H h a (.tup (ks.map kV)) from ok a _ e)
  exact ⟨o, its.toArray, n, h1, h2, h3, by simpa using items_are r⟩
theorem dt_rd {kvs : List (List Key × V)} (ok : HOk P w H h) (e : Rd H a (.dT kvs)) : kvs.length ≤ sizeLine ∧ (a == sysModules) = false ∧
    ∃ xs, KT H kvs xs ∧ h.DictOfH (tupleKind (mixKind P w)) a xs := by
  obtain ⟨z, y, xs, r, o, es, ep, h1, h2, h3, h4, h5⟩ := (show ObjOk P w H h a (.dT kvs) from rd_of ok e)
  refine ⟨z, y, xs, r, o, es, ep, h1, h2, h3, h4, fun x hx => ?_, h5⟩
  have all : ∀ {l : List (List Key × V)} {m : List (List Key × Addr × Value)}, KT H l m → ∀ x ∈ m, (tupleKind (mixKind P w)).is h x.1 x.2.1 := by
    intro l m q
    induction q with
    | nil => intro x hx; exact nomatch hx
    | @cons p q ps qs hq t ih =>
      intro x hx
      rcases List.mem_cons.mp hx with e | hx
      · subst e
        exact key_of ok (by rw [← hq.1]; exact hq.2.1)
      · exact ih x hx
  exact all r x hx
theorem dt_of {kvs : List (List Key × V)} (ok : HOk P w H h) (e : H a = some (.dT kvs)) : kvs.length ≤ sizeLine ∧ (a == sysModules) = false ∧
    ∃ xs, KT H kvs xs ∧ h.DictOfH (tupleKind (mixKind P w)) a xs := dt_rd ok (.inl e)
end

/-- what the dict at a holds at the key y -/
def DGet (H : Hp) (a : Addr) (y : V) (r : Option V) : Prop :=
  (∃ kvs k, Rd H a (.dK kvs) ∧ y = kV k ∧ r = valV kvs k) ∨ ∃ kvs k b, Rd H a (.dT kvs) ∧ y = .ref b ∧ H b = some (.tup (k.map kV)) ∧ r = valV kvs k
/-- the heap behind a[y] = v -/
def DPut (H : Hp) (a : Addr) (y v : V) (H' : Hp) : Prop :=
  (∃ kvs k, H a = some (.dK kvs) ∧ y = kV k ∧ kvs.length < sizeLine ∧ H' = upd H a (.dK (putK kvs k v))) ∨
  ∃ kvs k b, H a = some (.dT kvs) ∧ y = .ref b ∧ H b = some (.tup (k.map kV)) ∧ kvs.length < sizeLine ∧ H' = upd H a (.dT (putK kvs k v))
theorem DGet.k {H : Hp} {a : Addr} {kvs : List (Key × V)} {k : Key} (e : H a = some (.dK kvs)) : DGet H a (kV k) (valV kvs k) := .inl ⟨kvs, k, .inl e, rfl, rfl⟩
theorem DPut.k {H : Hp} {a : Addr} {kvs : List (Key × V)} {k : Key} {v : V} (e : H a = some (.dK kvs)) (hl : kvs.length < sizeLine) : DPut H a (kV k) v (upd H a (.dK (putK kvs k v))) := .inl ⟨kvs, k, e, rfl, hl, rfl⟩
section
variable {X : Cx} {pins : List (Addr × Obj)} {σ : St} {H : Hp} {s : Shared} {a : Addr} {y v : V} {u r : Value} {o : Option V} {A : Around} {E : Value → Shared → Prop}

theorem Inv.big (I : Inv X pins σ H s) : sysModules < s.heap.objs.size := by
  have h : mainGlobals < s.heap.objs.size := (I.mod.glob.keeps I.bk).lt
  exact Nat.lt_trans (by decide) h

theorem d_notIn {Q : Value → Shared → Prop} (hu : A.units + 1 < cLine) (I : Inv X pins σ H s) (g : DGet H a y o) (ry : RelV y u) (h : ∀ s', Inv X pins σ H s' → Q (.bool (!o.isSome)) s') :
    wpAny (model X.prog X.w) A (compareOp .NotIn u (.ref a)) Q E s := by
  rcases g with ⟨kvs, k, e, ey, l⟩ | ⟨kvs, k, b, e, ey, eb, l⟩
  · subst ey
    obtain ⟨z, hd, vs, rel, dd⟩ := dk_rd I.hok e
    refine wpAny_notIn_of (kV_is ry) hd dd.mapOf ?_
    rw [← (rel.val k).isSome_eq, ← l]
    exact h _ (I.tok _)
  · subst ey
    cases (show u = Value.ref b from ry)
    obtain ⟨z, hd, xs, rel, dd⟩ := dt_rd I.hok e
    refine wpAny_notIn_heap (tupleKind_room_in1 hu) (key_of I.hok eb) hd dd ?_
    have q := (rel.val k).isSome_eq
    rw [Option.isSome_map] at q
    rw [← q, ← l]
    exact h _ (I.tok _)
/-- a dict's object is replaced -/
theorem d_write {h' : Heap} {t' : Nat} {ob : HO} (I : Inv X pins σ H s) (mu : Mut (H a)) (hs : Heap.SameBut a s.heap h') (he : ∃ q, h'.get? a = some q) (new : ObjOk X.prog X.w (upd H a ob) h' a ob) :
    Inv X pins σ (upd H a ob) { s with heap := h', toks := t' } :=
  I.write (x := a) (e := a) mu (.inl rfl) (fun b q hb z => (hs.2 b hb).trans z) he new
theorem dk_new {P : Program} {w : World} {H' : Hp} {h' : Heap} {kvs : List (Key × V)} {vs : List (Key × Value)} (z : kvs.length ≤ sizeLine) (hd : (a == sysModules) = false) (rel : KV kvs vs) (dd : h'.DictOf (mixKind P w) a vs) :
    ObjOk P w H' h' a (.dK kvs) := ⟨z, hd, vs, rel, dd⟩
/-- d[y] = v -/
theorem d_setItem {H' : Hp} {Q : Unit → Shared → Prop} (hu : A.units + 1 < cLine) (I : Inv X pins σ H s) (g : DPut H a y v H') (ry : RelV y u) (rv : RelV v r) (h : ∀ s', Inv X pins σ H' s' → Q () s') :
    wpAny (model X.prog X.w) A (setItem (.ref a) u r) Q E s := by
  rcases g with ⟨kvs, k, e, ey, l, eH⟩ | ⟨kvs, k, b, e, ey, eb, l, eH⟩
  · subst ey eH
    obtain ⟨z, hd, vs, rel, dd⟩ := dk_of I.hok e
    have hz : vs.length ≤ sizeLine := by rw [← rel.length]; exact z
    have hl : (putK kvs k v).length ≤ sizeLine := by have := length_putK kvs k v; omega
    refine wpAny_setItem_pairs (hsz := hz) (kV_is ry) dd fun h' dd' hs => h _ ?_
    have he : ∃ q, h'.get? a = some q := let ⟨q, _, _, hq, _⟩ := dd'; ⟨q, hq⟩
    exact d_write I (by rw [e]; exact True.intro) hs he (dk_new hl hd (rel.put k rv) dd')
  · subst ey eH
    cases (show u = Value.ref b from ry)
    obtain ⟨z, hd, xs, rel, dd⟩ := dt_of I.hok e
    have hz : xs.length ≤ sizeLine := by rw [← Paired.length rel]; exact z
    have hl : (putK kvs k v).length ≤ sizeLine := by have := length_putK kvs k v; omega
    refine wpAny_setItem_heap (hsz := hz) (tupleKind_room_in1 hu) (key_of I.hok eb) dd fun h' dd' hs => h _ ?_
    obtain ⟨q, es, ep, hq, h2, h3, h4, _, h5⟩ := dd'
    refine d_write I (by rw [e]; exact True.intro) hs ⟨q, hq⟩ ⟨hl, hd, _, (rel.put k eb rv).keeps fun c ys ec => ?_, q, es, ep, hq, h2, h3, h4, h5⟩
    rw [upd_ne (ne_of ec e (fun z => nomatch z))]
    exact ec
end

section
variable {X : Cx} {pins : List (Addr × Obj)} {σ : St} {H : Hp} {s : Shared} {a : Addr} {kvs : List (Key × V)} {k : Key} {u : Value} {A : Around} {E : Value → Shared → Prop}
end


/-! ### readings and rules -/
/-- the element of a subscription, not a slice -/
def NoSl (i : Expr) : Prop := ∀ ov iv, subscripted i false ov iv = operate [ov, iv] (getItem ov iv)
/-- d[y] -/
def tDGet (td ty : TE) : TE := fun σ H Q => td σ H fun x H1 => ty σ H1 fun y H2 => ∃ a v, x = .ref a ∧ DGet H2 a y (some v) ∧ Q v H2
/-- y in d, y not in d -/
def tDIn (ty td : TE) : TE := fun σ H Q => ty σ H fun y H1 => td σ H1 fun x H2 => ∃ a o, x = .ref a ∧ DGet H2 a y o ∧ Q (.bl o.isSome) H2
def tDNotIn (ty td : TE) : TE := fun σ H Q => ty σ H fun y H1 => td σ H1 fun x H2 => ∃ a o, x = .ref a ∧ DGet H2 a y o ∧ Q (.bl (!o.isSome)) H2
/-- d[y] = v -/
def sDPut (td ty tv : TE) : TS := fun D σ H => tv σ H fun v H1 => td σ H1 fun x H2 => ty σ H2 fun y H3 => ∃ a H4, x = .ref a ∧ DPut H3 a y v H4 ∧ D.nx σ H4
/-- d[y] op= v -/
def sDAug (td ty tv : TE) (rd : V → V → Hp → VK → Prop) : TS := fun D σ H => td σ H fun x H1 => ty σ H1 fun y H2 => ∃ a v, x = .ref a ∧ DGet H2 a y (some v) ∧
  tv σ H2 fun y2 H3 => rd v y2 H3 fun z H4 => ∃ H5, DPut H4 a y z H5 ∧ D.nx σ H5
/-- del d[y] -/
def sDDel (td ty : TE) : TS := fun D σ H => td σ H fun x H1 => ty σ H1 fun y H2 => ∃ a kvs k, x = .ref a ∧ H2 a = some (.dK kvs) ∧ y = kV k ∧ (valV kvs k).isSome = true ∧ D.nx σ (upd H2 a (.dK (dropK kvs k)))

section
variable {X : Cx} {o i e value : Expr} {pos pos' tpos : Pos} {td ty tv : TE}
theorem ps_dput (hu : X.A.units + 1 < cLine) (ho : PE X o td) (hi : PE X i ty) (hv : PE X value tv) (hs : swapsWith value (some (.Subscript o i pos')) pos.line X.env = pure false) :
    PS X (.Assign [.Subscript o i pos'] value pos) (sDPut td ty tv) := by
  intro pins s σ H D I h
  refine wpAny_Assign_Subscript (thn (hv pins s σ H _ I h) fun r s1 ⟨v, H1, I1, rv, q1⟩ => thn (ho pins s1 σ H1 _ I1 q1) fun u s2 ⟨x, H2, I2, rx, q2⟩ => thn (hi pins s2 σ H2 _ I2 q2) fun iv s3 ⟨y, H3, I3, ry, a, H4, ex, g, q3⟩ => ?_) hs
  subst ex
  obtain rfl : u = Value.ref a := rx
  exact d_setItem hu I3 g ry rv fun s4 I4 => ⟨σ, H4, I4, q3⟩
end


/-! ### displays -/
theorem dk_empty {P : Program} {w : World} {H : Hp} (h : Heap) (hb : sysModules < h.objs.size) : ObjOk P w H (h.push { cls := .type "dict", data := .dict #[] }) h.objs.size (.dK []) :=
  ⟨Nat.zero_le _, beq_eq_false_iff_ne.mpr (Ne.symm (Nat.ne_of_lt hb)), [], .nil, Heap.DictOf.new h⟩
/-- {}, to be a dict of the kind that is wanted -/
def tDNewK : TE := fun _ H Q => ∀ p, H p = none → Q (.ref p) (upd H p (.dK []))
def tDNewT : TE := fun _ H Q => ∀ p, H p = none → Q (.ref p) (upd H p (.dT []))
section
variable {X : Cx} {pos : Pos}
theorem pe_dnewK : PE X (.Dict [] [] pos) tDNewK := fun pins s σ H Q I h =>
  wpAny_Dict_empty ⟨.ref s.heap.objs.size, _, I.laid (a := s.heap.objs.size) (o := .dK []) (t' := s.toks) (fun _ _ q => Heap.get?_push_of_some _ q) (Nat.le_refl _) (dk_empty s.heap I.big), rfl, h _ (I.hok.fresh (Nat.le_refl _))⟩
end

/-- the pairs of a display, from the left -/
def tPairs : List (TE × TE) → St → Hp → (List (V × V) → Hp → Prop) → Prop
  | [], _, H, Q => Q [] H
  | (tk, tv) :: r, σ, H, Q => tk σ H fun x H1 => tv σ H1 fun y H2 => tPairs r σ H2 fun ps H3 => Q ((x, y) :: ps) H3
abbrev VV : List (V × V) → List (Value × Value) → Prop := Paired fun p q => RelV p.1 q.1 ∧ RelV p.2 q.2
def PPs (X : Cx) (pos : Pos) (keys : List (Option Expr)) (values : List Expr) (trs : List (TE × TE)) : Prop :=
  ∀ (pins : List (Addr × Obj)) (s : Shared) (σ : St) (H : Hp) (Q : List (V × V) → Hp → Prop), Inv X pins σ H s → tPairs trs σ H Q →
    wpAny (model X.prog X.w) X.A (evalPairs (pairTrees keys values X.env pos)) (fun vs s' => ∃ ps H', Inv X pins σ H' s' ∧ VV ps vs ∧ Q ps H') X.xe s
def mergeK (kvs more : List (Key × V)) : List (Key × V) := more.foldl (fun acc kv => putK acc kv.1 kv.2) kvs
/-- {k: v, ..} with keys ints and texts; the new dict stands empty while the pairs are made -/
def tDisp (trs : List (TE × TE)) : TE := fun σ H Q => ∀ p, H p = none → tPairs trs σ (upd H p (.dK [])) fun ps H2 => H2 p = some (.dK []) ∧ ∃ kvs : List (Key × V), ps = kvs.map (fun kv => (kV kv.1, kv.2)) ∧ kvs.length ≤ 15 ∧ Q (.ref p) (upd H2 p (.dK (mergeK [] kvs)))
/-! ### methods -/
/-- a method call o.m(e) of a built-in, with one argument: what must be seen of the text -/
structure M1 (X : Cx) (o : Expr) (m : Str) (apos : Pos) (e : Expr) (cpos : Pos) : Prop where
  base : attributeBase o m X.env (eval o X.env) = eval o X.env
  few : ((backTo cpos (starEach [e] X.env)).all (fun x => !x.1) && (backToKw cpos (keywordEach [] X.env)).all (fun x => x.1.isSome)
    && decide (([e] : List Expr).length + ([] : List Keyword).length + (if ([] : List Keyword).isEmpty then 0 else 1) < 30)) = true
  line : (apos.endLine == cpos.line) = true
  trees : backTo cpos (starEach [e] X.env) = [(false, eval e X.env)]
structure M2 (X : Cx) (o : Expr) (m : Str) (apos : Pos) (e f : Expr) (cpos : Pos) : Prop where
  base : attributeBase o m X.env (eval o X.env) = eval o X.env
  few : ((backTo cpos (starEach [e, f] X.env)).all (fun x => !x.1) && (backToKw cpos (keywordEach [] X.env)).all (fun x => x.1.isSome)
    && decide (([e, f] : List Expr).length + ([] : List Keyword).length + (if ([] : List Keyword).isEmpty then 0 else 1) < 30)) = true
  line : (apos.endLine == cpos.line) = true
  trees : backTo cpos (starEach [e, f] X.env) = [(false, eval e X.env), (false, eval f X.env)]

/-- a is a dict, whatever its keys -/
def IsD (H : Hp) (a : Addr) : Prop := (∃ kvs, Rd H a (.dK kvs)) ∨ ∃ kvs, Rd H a (.dT kvs)
section
variable {X : Cx} {pins : List (Addr × Obj)} {σ : St} {H : Hp} {s : Shared} {a : Addr} {y d : V} {u r : Value} {o : Option V} {A : Around} {E : Value → Shared → Prop}
end

def tDGet1 (td ty : TE) : TE := fun σ H Q => td σ H fun x H1 => ∃ a, x = .ref a ∧ IsD H1 a ∧ ty σ H1 fun y H2 => ∃ o, DGet H2 a y o ∧ Q (o.getD .non) H2
def tDGet2 (td ty tx : TE) : TE := fun σ H Q => td σ H fun x H1 => ∃ a, x = .ref a ∧ IsD H1 a ∧ ty σ H1 fun y H2 => tx σ H2 fun z H3 => ∃ o, DGet H3 a y o ∧ Q (o.getD z) H3
/-- d.pop(k): there; d.pop(k, x): there or not -/
def tDPop1 (td ty : TE) : TE := fun σ H Q => td σ H fun x H1 => ∃ a, x = .ref a ∧ IsD H1 a ∧ ty σ H1 fun y H2 => ∃ kvs k v, H2 a = some (.dK kvs) ∧ y = kV k ∧ valV kvs k = some v ∧ Q v (upd H2 a (.dK (dropK kvs k)))
def tDPop2 (td ty tx : TE) : TE := fun σ H Q => td σ H fun x H1 => ∃ a, x = .ref a ∧ IsD H1 a ∧ ty σ H1 fun y H2 => tx σ H2 fun z H3 => ∃ kvs k, H3 a = some (.dK kvs) ∧ y = kV k ∧
  (∀ v, valV kvs k = some v → Q v (upd H3 a (.dK (dropK kvs k)))) ∧ (valV kvs k = none → Q z H3)
section
variable {X : Cx} {o e f : Expr} {apos cpos : Pos} {td ty tx : TE}
end

/-! ### dict(d): a copy -/
section
variable {X : Cx} {pins : List (Addr × Obj)} {σ : St} {H : Hp} {s : Shared} {a : Addr} {kvs : List (Key × V)} {A : Around} {E : Value → Shared → Prop}
end


section
variable {X : Cx} {pins : List (Addr × Obj)} {σ : St} {H : Hp} {s : Shared} {a : Addr} {y : V} {u : Value} {A : Around} {E : Value → Shared → Prop}
end
end L2

namespace Att
open PySem PySem.W PySem.Calls PyProof.Rows

/-! ### the script -/
theorem ints_of_wellAll {P : Params} {h : Heap} : ∀ (ns : List Int) (vs : List Value), WellAll P h vs (ns.map WData.int) → IntsAre vs ns := by
  intro ns
  induction ns with
  | nil =>
    intro vs w
    rw [List.map_nil] at w
    cases w
    exact .nil
  | cons n ns ih =>
    intro vs w
    rw [List.map_cons] at w
    cases w with
    | cons a b =>
      cases a
      exact .cons _ _ (ih _ b)

theorem script_of {l : OpenLaw} {n : Nat} (hn : l.most = some n) {P : Params} {h : Heap} {args : List WData} {vals : List Value}
    (hpre : l.row.toRowW.claim.pre args = true) (hwl : WellAll P h vals args) :
    ∃ a vs ns, vals = [Value.ref a] ∧ args = [WData.list (ns.map WData.int)] ∧ h.get? a = some { cls := .type "list", data := .seq vs.toArray } ∧ IntsAre vs ns ∧ ns.length ≤ n := by
  have hsh : WShape.hasAll [] args [.list .int] = true := (pre_splitW hpre).1
  have hc : l.pre.holds [] { args := args } = true := (pre_splitW hpre).2
  obtain ⟨d, r, rfl, h1, h2⟩ := hasAllW_cons hsh
  obtain rfl := hasAllW_nil h2
  obtain ⟨xs, rfl, h3⟩ := hasW_list h1
  obtain ⟨ns, rfl⟩ := items_int h3
  have hlen : ns.length ≤ n := by
    unfold OpenLaw.pre at hc
    have h4 : (WTm.not (.lt (.lit (.int (n : Int))) (.len (.arg 0)))).holds [] { args := [.list (ns.map .int)] } = true := by
      have h4 := (holds_andW hc).1
      rw [hn] at h4
      exact h4
    have h5 := condW_of h4 (w_not (w_lt w_lit (w_len_list (w_arg rfl))))
    rw [List.length_map] at h5
    refine Nat.le_of_not_lt fun q => ?_
    have q' : (n : Int) < ((ns.length : Nat) : Int) := by omega
    first
      | (rw [decide_eq_true q'] at h5; exact absurd h5 (by decide))
      | (simp at h5; omega)
  cases hwl with
  | cons w1 w2 =>
    cases w2
    cases w1 with
    | list ho hall => exact ⟨_, _, ns, rfl, rfl, ho, ints_of_wellAll ns _ hall, hlen⟩

theorem post_true (l : OpenLaw) (args : List WData) : l.row.toRowW.claim.post args (.bool true) args = true :=
  postW_of (r := l.row.toRowW) (X := (true == true))
    (show WShape.has [] (.bool true) .bool = true by first | rfl | decide | simp [WShape.has, WShape.arms, WShape.armsAll])
    (show (WTm.eq .res (.lit (.bool true))).value [] { args := args, res := some (.bool true), after := args } = some (.bool (true == true)) from w_eq_bool (w_res rfl) w_lit) rfl

/-! ### the attachment: holds_open's last premise (the goal 'hc' behind k_head) from a wpAny of the law's body -/
/-- the same from a codeAny of the CALL (for a layer whose function contracts speak of calls) -/
theorem attach_call {l : OpenLaw} {n : Nat} {q : Program} {loose : List Str} {XP : (Str → Option Value) → Heap → Prop} {YP : World → Heap → Prop} {d : DefRec}
    (hn : l.most = some n) (hdf : d.params.defaults = [])
    (call : ∀ (w : World) (s₀ s₁ : Shared) (mg mb : Str → Option Value) (fa : Addr) (o : Obj) (pm cd doc : Value) (a : Addr) (vs : List Value) (ns : List Int),
      Ground q loose [] XP w s₀ mg mb s₁.heap → YP w s₁.heap →
      s₁.heap.get? fa = some o → o.data = .func (docDef d.name d.params d.body d.scope pm cd doc) → s₁.heap.CodeRec cd d.name → mg d.name = some (.ref fa) →
      s₁.heap.get? a = some { cls := .type "list", data := .seq vs.toArray } → IntsAre vs ns → ns.length ≤ n → s₁.gens = #[] →
      codeAny (model l.prog w) callerA (.call (.ref fa) ⟨[.ref a], []⟩) (fun r s' => r = .ok (.ret (.bool true)) ∧ OldK s₁.heap s'.heap ∧ s'.os = s₁.os ∧ AllBare s'.gens) s₁) :
    WalkO q loose XP YP l.row.toRowW d [] (fun f vs => PySem.call f vs) := by
  intro w s₀ s₁ mg mb G Y fa o pm cd doc dV kV ho hd hcd hD hmg hg args vals as hpre hlay hrd hwl hlo
  obtain rfl : dV = .none := Dflts.none hD hdf
  obtain rfl : kV = .none := Dflts.noKw hD
  obtain ⟨a, vs, ns, rfl, rfl, hobj, hints, hlen⟩ := script_of hn hpre hwl
  refine enter_call (codeAny_mono (call w s₀ s₁ mg mb fa o pm cd doc a vs ns G Y ho (fd_plain hd) hcd hmg hobj hints hlen hg) fun r s' hq => ?_)
  obtain ⟨rfl, h2, h3, h4⟩ := hq
  exact ⟨.inl ⟨.bool true, .bool true, [], rfl, fun _ => rfl, .bool true, post_true l _, fun _ => ⟨List.Pairwise.nil, fun _ hm => (nomatch hm)⟩⟩, h2, h3, h4⟩

/-! ### rules over ANY heap (no ledger) from facts about the written part K: the library's own take a ledger (News) for what they write -/
section
variable {prog : Program} {w : World} {A : Around} {E : Value → Shared → Prop} {s : Shared} {K : Frag}

/-! the whole heap as the ledger: makes every rule that writes through a ledger a rule over any heap -/
def noObjs (h : Heap) : Heap := { h with objs := #[] }
def ledger (h : Heap) (L d : Addr) : List (Addr × Obj) := (List.range h.objs.size).filterMap fun a => if a = L ∨ a = d then none else (h.get? a).map fun o => (a, o)
end
end Att

namespace L2
open PySem PySem.Spec PyProof.Rows

theorem vals_ints : ∀ {vs : List Value} {ns : List Int}, IntsAre vs ns → Vals (ns.map V.int) vs
  | _, _, .nil => .nil
  | _, _, .cons n t h => .cons ⟨t, rfl⟩ (vals_ints h)

/-- nothing is tracked but the script, known to the object (or it is an object of the module) -/
def Only (H : Hp) : Prop := ∀ b, H b = none ∨ ∃ o xs, H b = some (.frz o (.lst xs))

end L2

namespace L2
open PySem PySem.Spec PyProof.Rows

abbrev KOf {K : PySem.W.Frag} {h : Heap} (_ : K.In h) : PySem.W.Frag := K

end L2

/-! SHORT WORDS over the layer: a def of the text, its body, what a loop and a test want. -/
namespace L2
open PySem PySem.Spec PyProof.Rows

/-! ### the text by places -/
/-- the j-th statement of a class's body -/
def inClass (s : Stmt) (j : Nat) : Stmt := match s with
  | .ClassDef _ _ _ body _ _ _ _ _ _ _ => body.getD j (.Pass ⟨0, 0, 0, 0⟩)
  | _ => .Pass ⟨0, 0, 0, 0⟩
def defArgs (s : Stmt) : Arguments := match s with
  | .FunctionDef _ a _ _ _ _ _ _ _ _ => a
  | _ => { posonlyargs := [], args := [], vararg := none, kwonlyargs := [], kw_defaults := [], kwarg := none, defaults := [] }
def defBody (s : Stmt) : List Stmt := match s with
  | .FunctionDef _ _ b _ _ _ _ _ _ _ => b
  | _ => []
def defScope (s : Stmt) : Scope := match s with
  | .FunctionDef _ _ _ _ _ _ sc _ _ _ => sc
  | _ => { kind := .function, names := [], isGenerator := false, isCoroutine := false }

/-! ### no exception leaves a def -/
abbrev CX0 : CXT := fun _ _ _ _ _ _ => False
abbrev E0 : XK := fun _ _ _ => False
/-! ### a def (or method) of the text as it stands behind the top -/
structure Fun (K : PySem.W.Frag) (x qual : Str) (st : Stmt) (f : Addr) (fd : FuncData) : Prop where
  ex : ∃ (oc : Value) (od : Option Addr) (kV doc pm : Value) (an : Option Addr) (cdv ct : Value) (osl : Array (Option Value)),
    fd = PySem.W.fnOf x qual (defArgs st) (defBody st) (defScope st) .none kV doc pm an cdv ct ∧ K.lookup f = some ⟨oc, od, .func fd, osl⟩ ∧ PySem.W.codeIn K cdv qual = true
  kp : PySem.W.keepIn K (.ref f) = true
section
variable {P : Program} {w : World} {K : PySem.W.Frag} {mg : Str → Option Value} {base : Heap}
/-- how its arguments bind (no defaults): h is «fun _ _ _ _ _ _ us hl => match us, hl with | [_, _], _ => rfl», one _ a parameter -/
theorem Fun.binds {x qual : Str} {st : Stmt} {f : Addr} {fd : FuncData} {ps : List Str} (F : Fun K x qual st f fd)
    (h : ∀ (kV doc pm : Value) (an : Option Addr) (cdv ct : Value) (us : List Value), us.length = ps.length → bindArgs (PySem.W.fnOf x qual (defArgs st) (defBody st) (defScope st) .none kV doc pm an cdv ct) ⟨us, []⟩ = pure (ps.zip us)) : Binds K fd ps [] := by
  obtain ⟨oc, od, kV, doc, pm, an, cdv, ct, osl, rfl, lk, hcd⟩ := F.ex
  exact .all (h kV doc pm an cdv ct)
theorem fun_mk {x qual : Str} {st : Stmt} {f : Addr} {oc : Value} {od an : Option Addr} {osl : Array (Option Value)} {kV doc pm cdv ct : Value} (l : K.lookup f = some ⟨oc, od, .func (PySem.W.fnOf x qual (defArgs st) (defBody st) (defScope st) .none kV doc pm an cdv ct), osl⟩)
    (c : PySem.W.codeIn K cdv qual = true) (k : PySem.W.keepIn K (.ref f) = true) : Fun K x qual st f (PySem.W.fnOf x qual (defArgs st) (defBody st) (defScope st) .none kV doc pm an cdv ct) := ⟨⟨oc, od, kV, doc, pm, an, cdv, ct, osl, rfl, l, c⟩, k⟩
end
/-! ### expressions in short: the name that stands in the i-th slot -/
section
variable {X : Cx}
end

/-! ### tests -/
theorem iteF {A B : Prop} (h : B) : if false = true then A else B := by
  rw [if_neg Bool.false_ne_true]
  exact h
theorem iteT {A B : Prop} (h : A) : if true = true then A else B := by
  rw [if_pos rfl]
  exact h
/-! ### heaps -/
/-- all that was tracked is as it was -/
def Same (H H' : Hp) : Prop := ∀ b o, H b = some o → H' b = some o
theorem Same.refl (H : Hp) : Same H H := fun _ _ h => h
theorem Same.trans {H H1 H2 : Hp} (a : Same H H1) (b : Same H1 H2) : Same H H2 := fun c o h => b c o (a c o h)
theorem Same.free {H H' : Hp} (e : Same H H') {l : Addr} (h : H' l = Option.none) : H l = Option.none := by
  cases q : H l with
  | none => rfl
  | some o =>
    rw [e l o q] at h
    cases h
theorem Same.seq {K : PySem.W.Frag} {H H' : Hp} {a : Addr} {xs : List V} (e : Same H H') (h : SqL K H a xs) : SqL K H' a xs := by
  rcases h with (h | ⟨o, h⟩) | h
  · exact .inl (.inl (e _ _ h))
  · exact .inl (.inr ⟨o, e _ _ h⟩)
  · exact .inr h

end L2

namespace L2
open PySem PySem.Spec PyProof.Rows
section
variable {X : Cx}
end
/-! ### a dict's pairs: keys that differ -/
section
variable {κ : Type} [DecidableEq κ]
theorem valV_not {kvs : List (κ × V)} {k : κ} (h : valV kvs k = none) : ¬ k ∈ kvs.map (·.1) := by
  intro m
  obtain ⟨p, hp, e⟩ := List.mem_map.mp m
  have q : (kvs.any fun kv => decide (kv.1 = k)) = true := List.any_eq_true.mpr ⟨p, hp, decide_eq_true e⟩
  rw [valV_any, h] at q
  exact absurd q (by simp)
end
end L2


namespace L2
open PySem PySem.Spec PyProof.Rows

/-! ### exceptions: the object and its traceback -/
/-- a chain of contexts, and its end -/
def Linked (h : Heap) : Option Value → List Addr → Prop
  | c, [] => c = some .none
  | c, a :: r => c = some (.ref a) ∧ ∃ o vs, h.get? a = some o ∧ o.data = .fields vs ∧ Linked h vs[2]? r
theorem Linked.stay {h h' : Heap} {e : Addr} (k : ∀ v o ws, v ≠ e → h.get? v = some o → o.data = .fields ws → ∃ o' ws', h'.get? v = some o' ∧ o'.data = .fields ws' ∧ ws'[2]? = ws[2]?) : ∀ {l : List Addr} {c : Option Value}, Linked h c l → e ∉ l → Linked h' c l
  | [], _, q, _ => q
  | a :: r, c, ⟨q1, o, vs, q2, q3, q4⟩, n => by
    obtain ⟨o', ws', k1, k2, k3⟩ := k a o vs (fun z => n (by simp [z])) q2 q3
    refine ⟨q1, o', ws', k1, k2, ?_⟩
    rw [k3]
    exact Linked.stay k q4 fun z => n (by simp [z])
/-- what is known of a context: whether there is surely none; it ends -/
def Ctx (h : Heap) (e : Addr) (b : Bool) (c : Option Value) : Prop := (b = true → c = some .none) ∧ ∃ l, Linked h c l ∧ e ∉ l ∧ l.Nodup
theorem Ctx.stay {h h' : Heap} {e : Addr} {b : Bool} {c : Option Value} (q : Ctx h e b c) (k : ∀ v o ws, v ≠ e → h.get? v = some o → o.data = .fields ws → ∃ o' ws', h'.get? v = some o' ∧ o'.data = .fields ws' ∧ ws'[2]? = ws[2]?) : Ctx h' e b c := by
  obtain ⟨q1, l, q2, q3, q4⟩ := q
  exact ⟨q1, l, q2.stay k q3, q3, q4⟩
/-- d: the address of its dict, and whether it surely has no context; tb: its traceback's head, whose flight is fl -/
def Flies (h : Heap) (e : Addr) (cls : Value) (d : Option Addr × Bool) (tb : Option Addr) (fl : Value) : Prop :=
  ∃ oe vs, h.get? e = some oe ∧ oe.cls = cls ∧ oe.dict = d.1 ∧ oe.data = .fields vs ∧ vs[1]? = some (tb.elim Value.none Value.ref) ∧ 2 < vs.size ∧ Ctx h e d.2 vs[2]? ∧
    ∀ T, tb = some T → T ≠ e ∧ ∃ oT ws, h.get? T = some oT ∧ oT.data = .fields ws ∧ ws[3]? = some fl
/-- how an exception lies behind a call -/
def CX1 (P : Program) (w : World) : CXT := fun outer H s E x s' => ∃ e tb cls d H', x = .ref e ∧ s'.os = s.os ∧ AllBare s'.gens ∧ Un (frs outer) [] H H' s.heap s'.heap ∧ HOk P w H' s'.heap ∧ Flies s'.heap e cls d tb .none ∧
  (∀ b ∈ e :: tb.toList, H' b = none ∧ s.heap.get? b = none) ∧ E cls d H'
theorem CX1.never {P : Program} {w : World} {outer : List Env} {H : Hp} {s s' : Shared} {e : Value} (h : CX1 P w outer H s (fun _ _ _ => False) e s') : False := by
  obtain ⟨_, _, _, _, _, _, _, _, _, _, _, _, z⟩ := h
  exact z

section
variable {M : Model} {A : Around} {E : Value → Shared → Prop} {s : Shared}
/-- the noting of a frame, told whole -/
theorem entry_new {base : Heap} {env : Env} {outer : List Env} {L e : Addr} {oe : Obj} {vs : Array Value} {head : Value} {hadNext : Bool} {Q : Unit → Shared → Prop}
    (hfr : A.frames = some (env :: outer)) (hl : s.heap.FunFrames base (env :: outer)) (hf : env.frame = some L) (he : s.heap.get? e = some oe) (hd : oe.data = .fields vs) (hsz : 1 < vs.size)
    (k : ∀ (h' : Heap) (T : Addr) (oT : Obj) (ws : Array Value), s.heap.objs.size ≤ h'.objs.size → (∀ b o, s.heap.get? b = some o → b ≠ e → b ∉ frs (env :: outer) → h'.get? b = some o) →
      (∀ b o, s.heap.get? b = some o → b ≠ e → ∃ sl, h'.get? b = some { o with slots := sl }) → s.heap.objs.size ≤ T → h'.get? e = some (oe.mapFields (·.setIfInBounds 1 (.ref T))) →
      h'.get? T = some oT → oT.data = .fields ws → ws[3]? = some (rawInt L) → Q () { s with heap := h' }) :
    wpAny M A (do
      let a ← frameOf env
      let pl ← entryPlaceOf L hadNext
      let b ← EntryCells.newEntry head a .none (rawInt L) .none pl
      setField (.ref e) 1 b) Q E s := by
  have hne : e ∉ (env :: outer).filterMap (·.frame) := fun m => by
    obtain ⟨_, o, ho, nf⟩ := hl.mem m
    rw [he] at ho
    cases ho
    exact nf vs hd
  refine wpAny_bind (wpAny_frameOf_fun hfr hl hf fun h1 so => wpAny_bind (wpAny_entryPlaceOf fun pl hp => ?_))
  unfold EntryCells.newEntry newFields
  refine wpAny_bind (wpAny_newObj_type ?_ (hp.sizeOk5 _ _ _ _ _))
  have e1 : h1.get? e = some oe := (so.2.1 e hne).trans he
  have hTe : e ≠ h1.objs.size := Nat.ne_of_lt (Heap.lt_size e1)
  refine wpAny_setField (Heap.get?_push_of_some _ e1) hd hsz (k _ h1.objs.size { cls := .type "traceback", dict := none, data := .fields (([head, .ref L, .none, rawInt L, .none] : List Value) ++ (if pl.isEmpty then List.replicate 6 Value.none else pl)).toArray } (([head, .ref L, .none, rawInt L, .none] : List Value) ++ (if pl.isEmpty then List.replicate 6 Value.none else pl)).toArray ?_ (fun b o hb hbe hbf => ?_) (fun b o hb hbe => ?_) (Nat.le_of_eq so.1.symm) ?_ ?_ ?_ ?_)
  · rw [Heap.size_after_update, Heap.size_push, so.1]
    exact Nat.le_succ _
  · rw [Heap.get?_update_other _ _ (Ne.symm hbe)]
    exact Heap.get?_push_of_some _ ((so.2.1 b hbf).trans hb)
  · obtain ⟨sl, q⟩ := so.2.2 b o hb
    exact ⟨sl, by rw [Heap.get?_update_other _ _ (Ne.symm hbe)]; exact Heap.get?_push_of_some _ q⟩
  · exact Heap.get?_update_self _ (Heap.get?_push_of_some _ e1) (Obj.isFreed_of_fields (Obj.data_mapFields hd _))
  · rw [Heap.get?_update_other _ _ hTe]
    exact Heap.get?_push_size h1 rfl
  · exact rfl
  · first
      | (simp; done)
      | (rcases hp with rfl | ⟨_, _, _, _, _, _, _, rfl⟩ <;> simp)

/-- what a note does to a heap -/
structure Noted (h h' : Heap) (ch fs : List Addr) : Prop where
  keep : ∀ b o, h.get? b = some o → b ∉ fs → b ∉ ch → h'.get? b = some o
  slot : ∀ b o, h.get? b = some o → b ∉ ch → ∃ sl, h'.get? b = some { o with slots := sl }
  there : ∀ b o, h.get? b = some o → ∃ o', h'.get? b = some o'

theorem note_any {base : Heap} {env : Env} {outer : List Env} {L e : Addr} {cls : Value} {d : Option Addr × Bool} {tb : Option Addr} {fl : Value} {Q : Unit → Shared → Prop}
    (hfr : A.frames = some (env :: outer)) (hl : s.heap.FunFrames base (env :: outer)) (hf : env.frame = some L) (F : Flies s.heap e cls d tb fl) (hfl : (fl == rawInt L) = false)
    (k : ∀ (h' : Heap) (T : Addr), Noted s.heap h' (e :: tb.toList) (frs (env :: outer)) → s.heap.objs.size ≤ T → Flies h' e cls d (some T) (rawInt L) → Q () { s with heap := h' }) :
    wpAny M A (noteFrame (.ref e) env) Q E s := by
  obtain ⟨oe, vs, he, hc, hdx, hd, h1, hz, h2, ht⟩ := F
  have fin : ∀ {hp : Heap} {h' : Heap} {T : Addr} {oT : Obj} {ws : Array Value}, (∀ v o ws, v ≠ e → s.heap.get? v = some o → o.data = .fields ws → ∃ o' ws', h'.get? v = some o' ∧ o'.data = .fields ws' ∧ ws'[2]? = ws[2]?) → hp.get? e = some oe → hp.objs.size ≤ T → h'.get? e = some (oe.mapFields (·.setIfInBounds 1 (.ref T))) → h'.get? T = some oT → oT.data = .fields ws →
      ws[3]? = some (rawInt L) → Flies h' e cls d (some T) (rawInt L) := fun {hp h' T oT ws} kk e0 hT q1 q2 q3 q4 => by
    have hd' := Obj.data_mapFields hd (·.setIfInBounds 1 (Value.ref T))
    refine ⟨_, _, q1, (Obj.cls_mapFields _ _).trans hc, ?_, hd', ?_, by simpa using hz, ?_, fun T' eT => ?_⟩
    · obtain ⟨c0, d0, dt, sl⟩ := oe
      cases hd
      exact hdx
    · have : 1 < vs.size := by omega
      simp [this]
    · rw [Array.getElem?_setIfInBounds_ne (by decide)]
      exact h2.stay kk
    · cases eT
      exact ⟨fun z => Nat.lt_irrefl _ (Nat.lt_of_lt_of_le (Heap.lt_size e0) (z ▸ hT)), oT, ws, q2, q3, q4⟩
  unfold noteFrame
  simp only [hf]
  cases tb with
  | none =>
    have h1' : vs[1]? = some Value.none := h1
    refine wpAny_bind (wpAny_field he hd h1' ?_)
    rw [if_neg (by decide)]
    refine entry_new hfr hl hf he hd (by omega) fun h' T oT ws a1 a2 a3 a4 a5 a6 a7 a8 => k h' T ⟨fun b o q1 q2 q3 => a2 b o q1 (fun z => q3 (by simp [z])) q2, fun b o q1 q3 => a3 b o q1 fun z => q3 (by simp [z]), fun b o q1 => ?_⟩ a4 (fin (fun v o ws hv q1 q2 => by obtain ⟨sl, q⟩ := a3 v o q1 hv; exact ⟨_, ws, q, q2, rfl⟩) he a4 a5 a6 a7 a8)
    by_cases z : b = e
    · subst z; exact ⟨_, a5⟩
    · obtain ⟨sl, q⟩ := a3 b o q1 z
      exact ⟨_, q⟩
  | some T0 =>
    obtain ⟨hne, oT0, ws0, t1, t2, t3⟩ := ht T0 rfl
    have h1' : vs[1]? = some (Value.ref T0) := h1
    refine wpAny_bind (wpAny_field he hd h1' ?_)
    rw [if_pos (show (Value.ref T0 != Value.none) = true from by simp)]
    refine wpAny_bind (wpAny_field t1 t2 t3 ?_)
    rw [if_neg (by rw [hfl]; exact Bool.false_ne_true)]
    refine wpAny_bind (wpAny_setField t1 t2 (Array.getElem?_eq_some_iff.mp t3).1 ?_)
    have oth : ∀ b, b ≠ T0 → (s.heap.update T0 (Obj.mapFields (·.setIfInBounds 3 Value.none))).get? b = s.heap.get? b := fun b hb => Heap.get?_update_other _ _ (Ne.symm hb)
    have slf := Heap.get?_update_self (Obj.mapFields (·.setIfInBounds 3 Value.none)) t1 (Obj.isFreed_of_fields (Obj.data_mapFields t2 _))
    have hsz : (s.heap.update T0 (Obj.mapFields (·.setIfInBounds 3 Value.none))).objs.size = s.heap.objs.size := Heap.size_after_update ..
    have hl' : (s.heap.update T0 (Obj.mapFields (·.setIfInBounds 3 Value.none))).FunFrames base (env :: outer) := hl.of_keeps fun b o hb nf => ⟨o, (oth b fun z => by
      subst z
      rw [t1] at hb
      cases hb
      exact nf ws0 t2).trans hb, rfl⟩
    refine entry_new (s := { s with heap := s.heap.update T0 (Obj.mapFields (·.setIfInBounds 3 Value.none)) }) hfr hl' hf ((oth e (Ne.symm hne)).trans he) hd (by omega) fun h' T oT ws a1 a2 a3 a4 a5 a6 a7 a8 =>
      k h' T ⟨fun b o q1 q2 q3 => a2 b o ((oth b fun z => q3 (by simp [z])).trans q1) (fun z => q3 (by simp [z])) q2, fun b o q1 q3 => a3 b o ((oth b fun z => q3 (by simp [z])).trans q1) fun z => q3 (by simp [z]), fun b o q1 => ?_⟩ (hsz ▸ a4) (fin (fun v o ws hv q1 q2 => by
        by_cases z2 : v = T0
        · subst z2
          obtain ⟨sl, q⟩ := a3 v _ slf hv
          rw [t1] at q1
          cases q1
          exact ⟨_, _, q, Obj.data_mapFields q2 _, by rw [Array.getElem?_setIfInBounds_ne (by decide)]⟩
        · obtain ⟨sl, q⟩ := a3 v o ((oth v z2).trans q1) hv
          exact ⟨_, ws, q, q2, rfl⟩) ((oth e (Ne.symm hne)).trans he) a4 a5 a6 a7 a8)
    by_cases z : b = e
    · subst z; exact ⟨_, a5⟩
    · by_cases z2 : b = T0
      · subst z2
        obtain ⟨sl, q⟩ := a3 b _ slf z
        exact ⟨_, q⟩
      · obtain ⟨sl, q⟩ := a3 b o ((oth b z2).trans q1) z
        exact ⟨_, q⟩
theorem note_new {base : Heap} {env : Env} {outer : List Env} {L e : Addr} {cls : Value} {d : Option Addr × Bool} {tb : Option Addr} {Q : Unit → Shared → Prop}
    (hfr : A.frames = some (env :: outer)) (hl : s.heap.FunFrames base (env :: outer)) (hf : env.frame = some L) (F : Flies s.heap e cls d tb .none)
    (k : ∀ (h' : Heap) (T : Addr), Noted s.heap h' (e :: tb.toList) (frs (env :: outer)) → s.heap.objs.size ≤ T → Flies h' e cls d (some T) (rawInt L) → Q () { s with heap := h' }) :
    wpAny M A (noteFrame (.ref e) env) Q E s :=
  note_any hfr hl hf F (by simp [rawInt]) k
theorem note_held {env : Env} {L e : Addr} {cls : Value} {d : Option Addr × Bool} {tb : Option Addr} {Q : Unit → Shared → Prop} (hf : env.frame = some L) (F : Flies s.heap e cls d tb (rawInt L)) (ht : tb.isSome = true) (k : Q () s) :
    wpAny M A (noteFrame (.ref e) env) Q E s := by
  obtain ⟨oe, vs, he, hc, hdx, hd, h1, hz, h2, hT⟩ := F
  cases tb with
  | none => cases ht
  | some T =>
    obtain ⟨_, oT, ws, t1, t2, t3⟩ := hT T rfl
    exact wpAny_noteFrame_inFlight hf he hd h1 t1 t2 t3 k
theorem flight_off {e T : Addr} {cls : Value} {d : Option Addr × Bool} {fl : Value} {Q : Unit → Shared → Prop} (F : Flies s.heap e cls d (some T) fl)
    (k : ∀ h', Noted s.heap h' [T] [] → Flies h' e cls d (some T) .none → Q () { s with heap := h' }) : wpAny M A (setFlight (.ref e) none) Q E s := by
  obtain ⟨oe, vs, he, hc, hdx, hd, h1, hz, h2, hT⟩ := F
  obtain ⟨hne, oT, ws, t1, t2, t3⟩ := hT T rfl
  have h3 : 3 < ws.size := (Array.getElem?_eq_some_iff.mp t3).1
  refine wpAny_setFlight_none he hd h1 t1 t2 h3 (k _ ⟨fun b o q _ n => ?_, fun b o q n => ⟨o.slots, ?_⟩, fun b o q => ?_⟩ ?_)
  · rw [Heap.get?_update_other _ _ (fun z => n (by simp [z]))]; exact q
  · rw [Heap.get?_update_other _ _ (fun z => n (by simp [z]))]; exact q
  · by_cases z : b = T
    · subst z; exact ⟨_, Heap.get?_update_self _ t1 (Obj.isFreed_of_fields (Obj.data_mapFields t2 _))⟩
    · exact ⟨o, by rw [Heap.get?_update_other _ _ (Ne.symm z)]; exact q⟩
  · refine ⟨oe, vs, ?_, hc, hdx, hd, h1, hz, h2.stay fun v o ws hv q1 q2 => ?_, fun T' eT => ?_⟩
    · rw [Heap.get?_update_other _ _ hne]; exact he
    · by_cases z : v = T
      · subst z
        rw [t1] at q1
        cases q1
        exact ⟨_, _, Heap.get?_update_self _ t1 (Obj.isFreed_of_fields (Obj.data_mapFields t2 _)), Obj.data_mapFields q2 _, by rw [Array.getElem?_setIfInBounds_ne (by decide)]⟩
      · exact ⟨o, ws, by rw [Heap.get?_update_other _ _ (Ne.symm z)]; exact q1, q2, rfl⟩
    · cases eT
      exact ⟨hne, _, _, Heap.get?_update_self _ t1 (Obj.isFreed_of_fields (Obj.data_mapFields t2 _)), Obj.data_mapFields t2 _, by simp [h3]⟩
end

section
variable {X : Cx} {pins : List (Addr × Obj)} {σ : St} {H H' : Hp} {s s' : Shared}
/-- a record that may turn -/
def Ch (X : Cx) (pins : List (Addr × Obj)) (b : Addr) : Prop := (b ∈ X.ex ∨ X.s₀.heap.get? b = none) ∧ b ≠ X.env.locals ∧ (∀ x c, X.env.cells.lookup x = some c → c ≠ b) ∧ ∀ p ∈ X.pn ++ pins, p.1 ≠ b
theorem Inv.ch (I : Inv X pins σ H s) {b : Addr} (h : s.heap.get? b = none) : Ch X pins b := by
  refine ⟨?_, fun z => ?_, fun x c q z => ?_, fun p hp z => ?_⟩
  · by_cases hx : b ∈ X.ex
    · exact .inl hx
    · refine .inr ?_
      cases q : X.s₀.heap.get? b with
      | none => rfl
      | some o =>
        obtain ⟨o', q'⟩ := I.base.there b o q hx
        rw [h] at q'; cases q'
  · obtain ⟨_, ⟨o, _, _, ho, _⟩, _⟩ := I.loc
    rw [← z, h] at ho; cases ho
  · obtain ⟨_, o, ho, _⟩ := I.cell x c q
    rw [z, h] at ho; cases ho
  · have := (I.pin p hp).1
    rw [z, h] at this; cases this
/-- behind a note -/
theorem Inv.noted {ch : List Addr} {h' : Heap} (I : Inv X pins σ H s) (N : Noted s.heap h' ch (frs X.stack)) (hc : ∀ b ∈ ch, H b = none ∧ Ch X pins b) : Inv X pins σ H { s with heap := h' } := by
  have trk : ∀ b u, H b = some u → b ∉ frs X.stack ∧ b ∉ ch := fun b u e => ⟨(fun z => by rw [I.stkFree b z] at e; cases e), (fun z => by rw [(hc b z).1] at e; cases e)⟩
  refine I.call (g' := s.gens) (d' := s.drawn) (t' := s.toks) (ch := ch) (h' := h') ⟨fun b o e _ hb hx => N.keep b o e hb hx, fun b o e _ _ hx => N.slot b o e hx, fun _ _ _ n _ => n, fun b o e _ => N.there b o e, fun _ _ e => e, fun _ _ _ e => e, fun b ps e => ⟨#[], by rw [e]; simp⟩⟩ ?_ I.bare fun b hb => (hc b hb).2
  intro b u e
  refine (I.hok b u e).stay (fun c v hcv q => ?_) (fun _ q => q) fun _ _ q => q
  rcases hcv with z | z
  · subst z; exact N.keep c v q (trk c u e).1 (trk c u e).2
  · exact N.keep c v q (trk c _ z).1 (trk c _ z).2

/-- an exception has come up at a state of this code -/
def XAt (X : Cx) (pins : List (Addr × Obj)) (σ : St) (H : Hp) (s : Shared) (e : Addr) (cls : Value) (d : Option Addr × Bool) : Prop :=
  Inv X pins σ H s ∧ ∃ tb fl, Flies s.heap e cls d tb fl ∧ (fl = .none ∨ (fl = rawInt X.env.locals ∧ tb.isSome = true)) ∧ ∀ b ∈ e :: tb.toList, H b = none ∧ Ch X pins b
/-- what is wanted of an exception, by the names' values, its class, its dict, the abstract heap -/
def XOk (X : Cx) (Kx : St → XK) : Prop := ∀ (pins : List (Addr × Obj)) (σ : St) (H : Hp) (s : Shared) (e : Addr) (cls : Value) (d : Option Addr × Bool), XAt X pins σ H s e cls d → Kx σ cls d H → X.xe (.ref e) s
theorem Inv.flown {E : XK} {x : Value} (I : Inv X pins σ H s) (c : CX1 X.prog X.w X.stack H s E x s') : ∃ e cls d H', x = .ref e ∧ XAt X pins σ H' s' e cls d ∧ E cls d H' := by
  obtain ⟨e, tb, cls, d, H', rfl, os, bare, un, hok, F, ch, q⟩ := c
  have I' : Inv X pins σ H' s' := I.call' (ch := []) os un hok bare fun b z => absurd z (by simp)
  exact ⟨e, cls, d, H', rfl, ⟨I', tb, .none, F, .inl rfl, fun b hb => ⟨(ch b hb).1, I.ch (ch b hb).2⟩⟩, q⟩
theorem xok_false (h : X.xe = fun _ _ => False) : XOk X (fun _ _ _ _ => False) := fun _ _ _ _ _ _ _ _ z => z.elim

/-- the frame is noted -/
theorem XAt.note {M : Model} {E : Value → Shared → Prop} {e : Addr} {cls : Value} {d : Option Addr × Bool} {Q : Unit → Shared → Prop} (x : XAt X pins σ H s e cls d) (hst : X.stack = X.env :: X.outer) (hf : X.env.frame = some X.env.locals)
    (k : ∀ s' T, Inv X pins σ H s' → Flies s'.heap e cls d (some T) (rawInt X.env.locals) → (∀ b ∈ [e, T], H b = none ∧ Ch X pins b) → Q () s') : wpAny M X.A (noteFrame (.ref e) X.env) Q E s := by
  obtain ⟨I, tb, fl, F, hfl, ch⟩ := x
  rcases hfl with z | ⟨z, ht⟩
  · subst z
    have hl := I.stack
    rw [hst] at hl
    refine note_new (base := X.base) (I.ok.frames.trans (by rw [hst])) hl hf F fun h' T N hT F' => k _ T (I.noted (by rw [hst]; exact N) ch) F' fun b hb => ?_
    rcases List.mem_cons.mp hb with z | z
    · subst z; exact ch _ List.mem_cons_self
    · have z' : b = T := by simpa using z
      subst z'
      exact ⟨I.hok.fresh hT, I.ch (Heap.get?_none_of_le hT)⟩
  · subst z
    cases tb with
    | none => cases ht
    | some T => exact note_held hf F rfl (k s T I F ch)
theorem Inv.off {M : Model} {E : Value → Shared → Prop} {e T : Addr} {cls : Value} {d : Option Addr × Bool} {fl : Value} {Q : Unit → Shared → Prop} (I : Inv X pins σ H s) (F : Flies s.heap e cls d (some T) fl) (hc : ∀ b ∈ [e, T], H b = none ∧ Ch X pins b)
    (k : ∀ s', Inv X pins σ H s' → Flies s'.heap e cls d (some T) .none → Q () s') {A : Around} : wpAny M A (setFlight (.ref e) none) Q E s := by
  refine flight_off F fun h' N F' => k _ (I.noted (ch := [T]) ⟨fun b o q _ n => N.keep b o q (by simp) n, N.slot, N.there⟩ fun b hb => ?_) F'
  have z : b = T := by simpa using hb
  subst z
  exact hc b (by simp)
end

/-- an exception leaves a def's body -/
theorem xok_fn {cc : Bool} {P : Program} {w : World} {K : PySem.W.Frag} {mg : Str → Option Value} {base : Heap} {N : List Str} {qual : Str} {scope : Scope} {f : Addr} {cd : Value} {A : Around} {outer : List Env} {s₀ : Shared} {H₀ : Hp} {E : XK} :
    XOk (cxOf cc (CX1 P w) P w K mg base N qual scope f cd A outer s₀ H₀ E) (fun _ => E) := by
  intro pins σ H s e cls d x q
  show wpAny _ _ (leaving _ _) _ _ s
  unfold leaving
  refine wpAny_bind (x.note rfl rfl fun s1 T I1 F1 c1 => ?_)
  refine I1.off F1 c1 fun s2 I2 F2 => ?_
  refine ⟨e, some T, cls, d, H, rfl, I2.os, I2.bare, I2.base, I2.hok, F2, fun b hb => ?_, q⟩
  have z := c1 b (by simpa using hb)
  refine ⟨z.1, ?_⟩
  rcases z.2.1 with y | y
  · exact absurd (show b ∈ ([] : List Addr) from y) (by simp)
  · exact y
theorem passes_fn {cc : Bool} {P : Program} {w : World} {K : PySem.W.Frag} {mg : Str → Option Value} {base : Heap} {N : List Str} {qual : Str} {scope : Scope} {f : Addr} {cd : Value} {A : Around} {outer : List Env} {s₀ : Shared} {H₀ : Hp} {E : XK} :
    PassesOwn (model P w) (A.deeper (envOfC qual scope s₀.heap.objs.size f cd)) (envOfC qual scope s₀.heap.objs.size f cd) (cxOf cc (CX1 P w) P w K mg base N qual scope f cd A outer s₀ H₀ E).xe := PassesOwn.leaving

/-! ### calls -/
section
variable {X : Cx} {Kx : St → XK} {cc : Bool} {k k' : Nat} {f C : Addr} {fd : FuncData} {ps : List Str} {sp : Sp} {x m : Str} {p pos apos : Pos} {e o : Expr} {es : List Expr} {σ : St} {H : Hp} {Q : VK}
theorem run_fnX {pins : List (Addr × Obj)} {s : Shared} {us : List Value} {vs : List V} (F : FnOk X.prog X.w X.K X.mg X.base (CX1 X.prog X.w) cc k f fd ps sp) (hr : Room cc k X.A) (hb : Binds X.K fd ps []) (hx : XOk X Kx)
    (I : Inv X pins σ H s) (r : Vals vs us) (h : sp vs H Q (Kx σ)) : wpAny (model X.prog X.w) X.A (call (.ref f) us) (EP X pins σ Q) X.xe s := by
  have hl : us.length = ps.length := by rw [← r.length]; exact F.len _ _ _ _ h
  have hb' := hb s us I.kIn (by simpa using hl)
  rw [List.append_nil] at hb'
  refine wpAny_call (codeAny_mono (F.run X.A X.stack s H ⟨us, []⟩ us vs Q (Kx σ) hr I.env0 hb' r h) fun r s' hq => ?_)
  cases r with
  | error e =>
    obtain ⟨a, cls, d, H', rfl, xa, q⟩ := I.flown hq
    exact hx pins σ H' s' a cls d xa q
  | ok fl =>
    cases fl with
    | ret u => exact I.after hq
    | next => exact False.elim hq
    | brk => exact False.elim hq
    | cont => exact False.elim hq
end
end L2

/-! SX: running a def's body forward, over the hand layer: one judgement for each kind of text, at one state. -/
namespace L2
open PySem PySem.Spec PyProof.Rows

/-! ### the judgements at a state -/
def EV (X : Cx) (e : Expr) (σ : St) (H : Hp) (Q : VK) : Prop :=
  ∀ (pins : List (Addr × Obj)) (s : Shared), Inv X pins σ H s → wpAny (model X.prog X.w) X.A (eval e X.env) (EP X pins σ Q) X.xe s
def ET (X : Cx) (e : Expr) (σ : St) (H : Hp) (Q : Bool → Hp → Prop) : Prop :=
  ∀ (pins : List (Addr × Obj)) (s : Shared), Inv X pins σ H s → wpAny (model X.prog X.w) X.A (isTrue e X.env (eval e X.env)) (TP X pins σ Q) X.xe s
def EW (X : Cx) (e : Expr) (σ : St) (H : Hp) (Q : Bool → Hp → Prop) : Prop :=
  ∀ (whole : Sem Value) (pins : List (Addr × Obj)) (s : Shared), Inv X pins σ H s → wpAny (model X.prog X.w) X.A (isTrue e X.env whole) (TP X pins σ Q) X.xe s
def EA (X : Cx) (es : List Expr) (σ : St) (H : Hp) (Q : List V → Hp → Prop) : Prop :=
  ∀ (pos : Pos) (pins : List (Addr × Obj)) (s : Shared), Inv X pins σ H s → wpAny (model X.prog X.w) X.A (spliced (backTo pos (starEach es X.env))) (AP X pins σ Q) X.xe s
def EO (X : Cx) (e : Option Expr) (σ : St) (H : Hp) (Q : Option Int → Hp → Prop) : Prop := ∃ t, PO X e t ∧ t σ H Q
def SX (X : Cx) (st : Stmt) (D : Ends) (σ : St) (H : Hp) : Prop :=
  ∀ (pins : List (Addr × Obj)) (s : Shared), Inv X pins σ H s → wpAny (model X.prog X.w) X.A (exec st X.env) (SP X pins D) X.xe s
def SXs (X : Cx) (st : List Stmt) (D : Ends) (σ : St) (H : Hp) : Prop :=
  ∀ (pins : List (Addr × Obj)) (s : Shared), Inv X pins σ H s → wpAny (model X.prog X.w) X.A (execs st X.env) (SP X pins D) X.xe s
def EG (X : Cx) (tg : Expr) (v : V) (σ : St) (H : Hp) (Q : St → Hp → Prop) : Prop :=
  ∀ (pins : List (Addr × Obj)) (s : Shared) (u : Value), Inv X pins σ H s → RelV v u → wpAny (model X.prog X.w) X.A (assign tg X.env u) (fun _ s' => ∃ σ' H', Inv X pins σ' H' s' ∧ Q σ' H') X.xe s
def EGs (X : Cx) (ts : List Expr) (vs : List V) (σ : St) (H : Hp) (Q : St → Hp → Prop) : Prop :=
  ∀ (pins : List (Addr × Obj)) (s : Shared) (us : List Value), Inv X pins σ H s → Vals vs us → wpAny (model X.prog X.w) X.A (assignInOrder ((assignEach ts X.env).map (·.2)) us) (fun _ s' => ∃ σ' H', Inv X pins σ' H' s' ∧ Q σ' H') X.xe s
def EI (X : Cx) (tg iter : Expr) (σ : St) (H : Hp) (R : It → Hp → Prop) : Prop :=
  ∀ (pins : List (Addr × Obj)) (s : Shared), Inv X pins σ H s →
    wpAny (model X.prog X.w) X.A (eval iter X.env) (fun v s1 => wpAny (model X.prog X.w) X.A (pyIter v) (PIE X pins σ tg R) X.xe s1) X.xe s
/-- a two-place operation on values -/
def OP (X : Cx) (f : Value → Value → Sem Value) (x y : V) (H : Hp) (Q : VK) : Prop := ∃ r, OpR X f r ∧ r x y H Q
def UN (X : Cx) (f : Value → Sem Value) (x : V) (H : Hp) (Q : VK) : Prop := ∃ r, UnR X f r ∧ r x H Q
def CL (X : Cx) (f : Value) (xs : List V) (H : Hp) (Q : VK) : Prop := ∃ r, CallR X f r ∧ r xs H Q
def IX (X : Cx) (x y : V) (H : Hp) (Q : VK) : Prop := ∃ r, IxR X r ∧ r x y H Q
def SL (X : Cx) (x : V) (lo hi : Option Int) (H : Hp) (Q : VK) : Prop := ∃ r, SlR X r ∧ r x lo hi H Q
def MT (X : Cx) (id : String) (x : V) (xs : List V) (H : Hp) (Q : VK) : Prop := ∃ r, MtR X id r ∧ r x xs H Q

section
variable {X : Cx} {a b c e : Expr} {es : List Expr} {σ : St} {H : Hp} {Q : VK} {QT : Bool → Hp → Prop} {QA : List V → Hp → Prop} {D : Ends} {pos p apos : Pos} {x : Str} {v : V}
theorem pe_self : PE X e (EV X e) := fun pins s _ _ _ I h => h pins s I
theorem pt_self : PT X e (ET X e) := fun pins s _ _ _ I h => h pins s I
theorem pw_self : PW X e (EW X e) := fun whole pins s _ _ _ I h => h whole pins s I
theorem pa_self : PA X es (EA X es) := fun pos pins s _ _ _ I h => h pos pins s I
theorem po_self {o : Option Expr} : PO X o (EO X o) := fun pins s σ H Q I ⟨_, h, q⟩ => h pins s σ H Q I q
theorem ps_self {st : Stmt} : PS X st (SX X st) := fun pins s _ _ _ I h => h pins s I
theorem pss_self {st : List Stmt} : PSs X st (SXs X st) := fun pins s _ _ _ I h => h pins s I
theorem pg_self {tg : Expr} : PG X tg (EG X tg) := fun pins s _ _ _ u _ I r h => h pins s u I r
theorem pgs_self {ts : List Expr} : PGs X ts (EGs X ts) := fun pins s _ _ _ us _ I r h => h pins s us I r
theorem pi_self {tg iter : Expr} : PI X tg iter (EI X tg iter) := fun pins s _ _ _ I h => h pins s I
theorem op_self {f : Value → Value → Sem Value} : OpR X f (OP X f) := fun pins s σ H x y v u Q I rx ry ⟨_, h, q⟩ => h pins s σ H x y v u Q I rx ry q
theorem un_self {f : Value → Sem Value} : UnR X f (UN X f) := fun pins s σ H x v Q I rx ⟨_, h, q⟩ => h pins s σ H x v Q I rx q
theorem cl_self {f : Value} : CallR X f (CL X f) := fun pins s σ H xs us Q I rx ⟨_, h, q⟩ => h pins s σ H xs us Q I rx q
theorem ix_self : IxR X (IX X) := fun va sl pins s σ H x y v u Q I rx ry ⟨_, h, q⟩ hs => h va sl pins s σ H x y v u Q I rx ry q hs
theorem sl_self : SlR X (SL X) := fun pins s σ H x v vl vu lo hi sl Q I rx hs pl pu ⟨_, h, q⟩ => h pins s σ H x v vl vu lo hi sl Q I rx hs pl pu q
theorem mt_self {id : String} : MtR X id (MT X id) := fun pins s σ H x xs v us Q I rx rs ⟨_, h, q⟩ => h pins s σ H x xs v us Q I rx rs q

theorem ev_of {t : TE} (h : PE X e t) (q : t σ H Q) : EV X e σ H Q := fun pins s I => h pins s σ H Q I q
theorem et_of {t : TT} (h : PT X e t) (q : t σ H QT) : ET X e σ H QT := fun pins s I => h pins s σ H QT I q
theorem ea_of {t : TA} (h : PA X es t) (q : t σ H QA) : EA X es σ H QA := fun pos pins s I => h pos pins s σ H QA I q
theorem sx_of {st : Stmt} {t : TS} (h : PS X st t) (q : t D σ H) : SX X st D σ H := fun pins s I => h pins s σ H D I q
theorem sxs_of {st : List Stmt} {t : TS} (h : PSs X st t) (q : t D σ H) : SXs X st D σ H := fun pins s I => h pins s σ H D I q
theorem eg_of {tg : Expr} {t : TG} {QG : St → Hp → Prop} (h : PG X tg t) (q : t v σ H QG) : EG X tg v σ H QG := fun pins s u I r => h pins s σ H v u QG I r q
theorem egs_of {ts : List Expr} {t : TGs} {vs : List V} {QG : St → Hp → Prop} (h : PGs X ts t) (q : t vs σ H QG) : EGs X ts vs σ H QG := fun pins s us I r => h pins s σ H vs us QG I r q
theorem ei_of {tg iter : Expr} {t : TI} {R : It → Hp → Prop} (h : PI X tg iter t) (q : t σ H R) : EI X tg iter σ H R := fun pins s I => h pins s σ H R I q

/-! ### names and constants -/
/-- the value that a name has -/
def nameV : List Str → St → Str → Option V
  | n :: N, o :: σ, x => if n = x then o else nameV N σ x
  | _, _, _ => none
theorem nameV_get : ∀ {N : List Str} {σ : St} {x : Str} {v : V}, nameV N σ x = some v → ∃ i : Nat, N[i]? = some x ∧ σ[i]? = some (some v)
  | n :: N, o :: σ, x, v, h => by
    unfold nameV at h
    split at h
    · rename_i e
      exact ⟨0, by simp [e], by simp [h]⟩
    · obtain ⟨i, h1, h2⟩ := nameV_get h
      exact ⟨i + 1, by simpa using h1, by simpa using h2⟩
  | [], _, _, _, h => by simp [nameV] at h
  | _ :: _, [], _, _, h => by simp [nameV] at h
def nameAt : List Str → Str → Option Nat
  | n :: N, x => if n = x then some 0 else (nameAt N x).map (· + 1)
  | [], _ => none
theorem nameAt_get : ∀ {N : List Str} {x : Str} {i : Nat}, nameAt N x = some i → N[i]? = some x
  | n :: N, x, i, h => by
    unfold nameAt at h
    split at h
    · rename_i e
      cases h
      simp [e]
    · cases q : nameAt N x with
      | none => rw [q] at h; cases h
      | some j =>
        rw [q] at h
        cases h
        simpa using nameAt_get q
  | [], _, _, h => by simp [nameAt] at h
theorem ev_name (hn : nameV X.N σ x = some v) (hv : Vis X.env.scope x) (q : Q v H) (hd : (x == ("__debug__" : Str)) = false) (hcd : (x == ("__classdict__" : Str)) = false) : EV X (.Name x pos) σ H Q := by
  obtain ⟨i, h1, h2⟩ := nameV_get hn
  exact ev_of (pe_var h1 hv hd hcd) ⟨v, h2, q⟩
/-- a global constant -/
def Gc (mg : Str → Option Value) (x : Str) (v : V) : Prop := ∃ u, mg x = some u ∧ RelV v u
theorem ev_ty {T : String} (hg : Gl X x) (hm : X.mg x = none) (hv : bootBuiltins x = some (.type T)) (q : Q (.ty T) H) (hn : x ≠ "__name__") (hd : (x == ("__debug__" : Str)) = false) : EV X (.Name x pos) σ H Q :=
  ev_of (pe_bltn hg hm hv (v := .ty T) rfl hn hd) q
theorem ev_int {i : Int} {j} (q : Q (.int i) H) : EV X (.Constant (.int i) j pos) σ H Q := ev_of pe_int q
theorem ev_bl {i : Bool} {j} (q : Q (.bl i) H) : EV X (.Constant (.bool i) j pos) σ H Q := ev_of pe_bl q
theorem ev_non {j} (q : Q .non H) : EV X (.Constant .none j pos) σ H Q := ev_of pe_non q
theorem ev_str {i : Str} {j} (q : Q (.str i) H) : EV X (.Constant (.str i) j pos) σ H Q := ev_of pe_str q

/-! ### operators -/
theorem ev_bin {op : Operator} (h : EV X a σ H fun x H1 => EV X b σ H1 fun y H2 => OP X (binaryOp op) x y H2 Q) : EV X (.BinOp a op b pos) σ H Q := ev_of (pe_op op_self pe_self pe_self) h
theorem ev_un {op : UnaryOp} (h : EV X a σ H fun x H1 => UN X (unaryOp op) x H1 Q) : EV X (.UnaryOp op a pos) σ H Q := ev_of (pe_un un_self pe_self) h
theorem ev_cmp {op : CmpOp} (hm : behindInMarks op b = false) (h : EV X a σ H fun x H1 => EV X b σ H1 fun y H2 => OP X (compareOp op) x y H2 Q) : EV X (.Compare a [op] [b] pos) σ H Q := ev_of (pe_cmpR op_self pe_self pe_self hm) h
theorem et_cmp {op : CmpOp} (hm : behindInMarks op b = false) (h : EV X a σ H fun x H1 => EV X b σ H1 fun y H2 => OP X (compareOp op) x y H2 fun z H3 => ∃ k, z = .bl k ∧ QT k H3) : ET X (.Compare a [op] [b] pos) σ H QT := et_of (pt_cmpR op_self pe_self pe_self hm) h
/-! ### truth -/
theorem et_val (he : ∀ whole, isTrue e X.env whole = (do let v ← whole; standAt e.pos; holding [v] (truthy v))) (h : EV X e σ H fun x H' => ∃ k, TruV X.K x H' k ∧ QT k H') : ET X e σ H QT := et_of (pt_truth pe_self he) h
theorem et_not (h : ET X a σ H fun k H1 => QT (!k) H1) : ET X (.UnaryOp .Not a pos) σ H QT := et_of (pt_not pt_self) h
theorem et_w (h : EW X e σ H QT) : ET X e σ H QT := et_of pw_self.pt h
theorem ew_of {t : TT} (h : PW X e t) (q : t σ H QT) : EW X e σ H QT := fun whole pins s I => h whole pins s σ H QT I q
theorem ew_and {rest : List Expr} (h : ET X a σ H fun k H1 => if k = true then EW X (.BoolOp .And (b :: rest) pos) σ H1 QT else QT false H1) : EW X (.BoolOp .And (a :: b :: rest) pos) σ H QT := ew_of (pw_and pt_self pw_self) h
theorem ew_or {rest : List Expr} (h : ET X a σ H fun k H1 => if k = true then QT true H1 else EW X (.BoolOp .Or (b :: rest) pos) σ H1 QT) : EW X (.BoolOp .Or (a :: b :: rest) pos) σ H QT := ew_of (pw_or pt_self pw_self) h
theorem ew_and1 (h : ET X a σ H QT) : EW X (.BoolOp .And [a] pos) σ H QT := ew_of (pw_and1 pt_self) h
theorem ew_or1 (h : ET X a σ H QT) : EW X (.BoolOp .Or [a] pos) σ H QT := ew_of (pw_or1 pt_self) h
theorem ev_one {op} (h : EV X a σ H Q) : EV X (.BoolOp op [a] pos) σ H Q := ev_of (pe_one pe_self) h
theorem ev_and {rest : List Expr} (h : EV X a σ H fun x H1 => ∃ k, x = .bl k ∧ if k = true then EV X (.BoolOp .And (b :: rest) pos) σ H1 Q else Q (.bl false) H1) : EV X (.BoolOp .And (a :: b :: rest) pos) σ H Q := ev_of (pe_and pe_self pe_self) h
theorem ev_notV (h : EV X a σ H fun x H1 => ∃ k, x = .bl k ∧ Q (.bl (!k)) H1) : EV X (.UnaryOp .Not a pos) σ H Q := ev_of (pe_not pe_self) h
theorem ev_ifE (h : ET X c σ H fun k H1 => if k = true then EV X a σ H1 Q else EV X b σ H1 Q) : EV X (.IfExp c a b pos) σ H Q := ev_of (pe_ifExp pt_self pe_self pe_self) h
/-! ### arguments, displays, calls -/
theorem ea_nil (q : QA [] H) : EA X [] σ H QA := ea_of pa_nil q
theorem ea_cons (hs : starEach (e :: es) X.env = (false, eval e X.env) :: starEach es X.env) (h : EV X e σ H fun x H1 => EA X es σ H1 fun xs H2 => QA (x :: xs) H2) : EA X (e :: es) σ H QA := ea_of (pa_cons pe_self pa_self hs) h
theorem ev_tup {x1} (h : EA X es σ H fun xs H1 => xs.length ≤ sizeLine ∧ ∀ p, H1 p = none → Q (.ref p) (upd H1 p (.tup xs))) : EV X (.Tuple es x1 pos) σ H Q := ev_of (pe_tup pa_self) h
theorem ev_lst (h : EA X es σ H fun xs H1 => xs.length ≤ sizeLine ∧ ∀ p, H1 p = none → Q (.ref p) (upd H1 p (.lst xs))) : EV X (.List es pos) σ H Q := ev_of (pe_lst pa_self) h
theorem ev_callB {id : String} (hg : Gl X x) (hm : X.mg x = none) (hv : bootBuiltins x = some (.builtin id)) (hn : x ≠ "__name__") (hdb : (x == ("__debug__" : Str)) = false)
    (he : starEach (e :: es) X.env = (false, eval e X.env) :: starEach es X.env) (hpl : (backTo pos (starEach es X.env)).any (·.1) = false) (h : EA X (e :: es) σ H fun vs H1 => CL X (.builtin id) vs H1 Q) : EV X (.Call (.Name x p) (e :: es) [] pos) σ H Q :=
  ev_of (pe_callB cl_self hg hm hv pa_self hn hdb he hpl) h
theorem ev_callT {T : String} (hg : Gl X x) (hm : X.mg x = none) (hv : bootBuiltins x = some (.type T)) (hn : x ≠ "__name__") (hdb : (x == ("__debug__" : Str)) = false)
    (he : starEach (e :: es) X.env = (false, eval e X.env) :: starEach es X.env) (hpl : (backTo pos (starEach es X.env)).any (·.1) = false) (h : EA X (e :: es) σ H fun vs H1 => CL X (.type T) vs H1 Q) : EV X (.Call (.Name x p) (e :: es) [] pos) σ H Q :=
  ev_of (pe_callTy cl_self hg hm hv pa_self hn hdb he hpl) h
/-- a def of the text, with its promise; cc = false: it may be called within an except suite too -/
structure Def (P : Program) (w : World) (K : PySem.W.Frag) (mg : Str → Option Value) (base : Heap) (cc : Bool) (k : Nat) (x : Str) (ps : List Str) (sp : Sp) : Prop where
  ex : ∃ f fd, mg x = some (.ref f) ∧ PySem.W.keepIn K (.ref f) = true ∧ Binds K fd ps [] ∧ FnOk P w K mg base (CX1 P w) cc k f fd ps sp
theorem Room.calmer {cc cc' : Bool} {k : Nat} {A : Around} (r : Room cc k A) (h : cc' = true → cc = true) : Room cc' k A := ⟨fun z => r.hd (h z), r.dp, r.un⟩
theorem ev_call {Kx : St → XK} {cc cc' : Bool} {k k' : Nat} {ps : List Str} {sp : Sp} (F : Def X.prog X.w X.K X.mg X.base cc' k x ps sp) (hr : Room cc k' X.A) (hk : k ≤ k') (hcc : cc' = true → cc = true) (hg : Gl X x) (hx : XOk X Kx)
    (hdb : (x == ("__debug__" : Str)) = false) (he : starEach (e :: es) X.env = (false, eval e X.env) :: starEach es X.env) (hpl : (backTo pos (starEach es X.env)).any (·.1) = false)
    (h : EA X (e :: es) σ H fun vs H1 => sp vs H1 Q (Kx σ)) : EV X (.Call (.Name x p) (e :: es) [] pos) σ H Q := by
  obtain ⟨f, fd, h1, h2, h3, h4⟩ := F.ex
  intro pins s I
  refine wpAny_Call_Name_kw (ld_glob I hg h1 ?_ hdb)
  refine PySem.W.callWith_K (h₀ := X.base) I.ok.mod.kin h2 (thn (h pos pins s I) fun us s1 ⟨vs, H1, I1, r, q⟩ => ⟨I1.kIn, ?_⟩) he hpl
  exact run_fnX h4 ((hr.mono hk).calmer hcc) h3 hx I1 r q
/-! ### subscripts, methods of builtins -/
theorem ev_ix (hs : PlainIx b) (h : EV X a σ H fun x H1 => EV X b σ H1 fun y H2 => IX X x y H2 Q) : EV X (.Subscript a b pos) σ H Q := ev_of (pe_ix ix_self pe_self pe_self hs) h
theorem eo_none {QO : Option Int → Hp → Prop} (q : QO none H) : EO X none σ H QO := ⟨_, po_none, q⟩
theorem eo_some {QO : Option Int → Hp → Prop} (q : EV X e σ H fun x H1 => ∃ i, x = .int i ∧ QO (some i) H1) : EO X (some e) σ H QO := ⟨_, po_some pe_self, q⟩
theorem ev_sl {lo hi : Option Expr} {p2 : Pos} (h : EV X a σ H fun x H1 => EO X lo σ H1 fun l H2 => EO X hi σ H2 fun u H3 => SL X x l u H3 Q) : EV X (.Subscript a (.Slice lo hi none p2) pos) σ H Q := ev_of (pe_slice sl_self pe_self po_self po_self) h
theorem ev_bm {T id : String} {name : Str} (pa : PlainAttrs T) (slot : Slot T name id) (hty : typeOf (.builtin id) = pure (.type "method_descriptor"))
    (hbase : attributeBase a name X.env (eval a X.env) = eval a X.env)
    (hfew : ((backTo pos (starEach (e :: es) X.env)).all (fun x => !x.1) && (backToKw pos (keywordEach [] X.env)).all (fun x => x.1.isSome)
      && decide ((e :: es).length + ([] : List Keyword).length + (if ([] : List Keyword).isEmpty then 0 else 1) < 30)) = true)
    (hline : (apos.endLine == pos.line) = true) (hs : starEach (e :: es) X.env = (false, eval e X.env) :: starEach es X.env) (hplain : (backTo pos (starEach es X.env)).any (·.1) = false)
    (h : EV X a σ H fun x H1 => tyV X.K T x H1 ∧ EA X (e :: es) σ H1 fun xs H2 => MT X id x xs H2 Q) : EV X (.Call (.Attribute a name apos) (e :: es) [] pos) σ H Q :=
  ev_of (pe_bm pa slot hty mt_self pe_self pa_self hbase hfew hline hs hplain) h
theorem ev_bm0 {T id : String} {name : Str} (pa : PlainAttrs T) (slot : Slot T name id) (hty : typeOf (.builtin id) = pure (.type "method_descriptor"))
    (hbase : attributeBase a name X.env (eval a X.env) = eval a X.env) (hline : (apos.endLine == pos.line) = true)
    (h : EV X a σ H fun x H1 => tyV X.K T x H1 ∧ MT X id x [] H1 Q) : EV X (.Call (.Attribute a name apos) [] [] pos) σ H Q :=
  ev_of (pe_bm0 pa slot hty mt_self pe_self hbase hline) h

/-! ### statements -/
theorem sxs_nil (q : D.nx σ H) : SXs X [] D σ H := sxs_of pss_nil q
theorem sxs_cons {st : Stmt} {rest : List Stmt} (h : SX X st { D with nx := fun σ' H' => SXs X rest D σ' H' } σ H) : SXs X (st :: rest) D σ H := sxs_of (pss_cons ps_self pss_self) h
theorem sxs_one {st : Stmt} (h : SX X st D σ H) : SXs X [st] D σ H := sxs_of (pss_one ps_self) h
theorem sx_cont (q : D.ct σ H) : SX X (.Continue pos) D σ H := sx_of ps_continue q
theorem sx_expr (hs : swapsWith e none pos.line X.env = pure false) (h : EV X e σ H fun _ H1 => D.nx σ H1) : SX X (.Expr e pos) D σ H := sx_of (ps_expr pe_self hs) h
theorem sx_ret (h : EV X e σ H D.rt) : SX X (.Return (some e) pos) D σ H := sx_of (ps_ret pe_self) h
theorem sx_if {t u : List Stmt} (h : ET X c σ H fun k H1 => if k = true then SXs X t D σ H1 else SXs X u D σ H1) : SX X (.If c t u pos) D σ H := sx_of (ps_if pt_self pss_self pss_self) h
theorem sx_set {i : Nat} {p' : Pos} (hN : X.N.Nodup) (hi : nameAt X.N x = some i) (hx : Loc X.env.scope x) (hs : swapsWith e (some (.Name x p')) pos.line X.env = pure false) (hf : X.fn x = true ∨ X.env.scope.names.lookup x = some .local)
    (h : EV X e σ H fun v H1 => D.nx (σ.set i (some v)) H1) : SX X (.Assign [.Name x p'] e pos) D σ H := sx_of (ps_set hN (nameAt_get hi) hx pe_self hs hf) h
theorem eg_name {i : Nat} {QG : St → Hp → Prop} (hN : X.N.Nodup) (hi : nameAt X.N x = some i) (hx : Loc X.env.scope x) (hf : X.fn x = true ∨ X.env.scope.names.lookup x = some .local) (q : QG (σ.set i (some v)) H) : EG X (.Name x pos) v σ H QG :=
  eg_of (pg_name hN (nameAt_get hi) hx hf) q
theorem egs_nil {QG : St → Hp → Prop} (q : QG σ H) : EGs X [] [] σ H QG := egs_of pgs_nil ⟨rfl, q⟩
theorem egs_cons {ts : List Expr} {vs : List V} {QG : St → Hp → Prop} (hs : (assignEach (e :: ts) X.env).map (·.2) = assign e X.env :: (assignEach ts X.env).map (·.2)) (h : EG X e v σ H fun σ' H' => EGs X ts vs σ' H' QG) : EGs X (e :: ts) (v :: vs) σ H QG :=
  egs_of (pgs_cons pg_self pgs_self hs) ⟨v, vs, rfl, h⟩
theorem eg_tup {n : Nat} {k : Nat} {QG : St → Hp → Prop} {q : Addr} {xs : List V} (hc : X.calm = true) (hn : (assignEach es X.env).length = n) (hst : (assignEach es X.env).findIdx? (·.1) = none)
    (ht : SqT X.K H q xs) (hl : xs.length = n) (h : EGs X es xs σ H QG) : EG X (.Tuple es k pos) (.ref q) σ H QG :=
  eg_of (pg_tup hc pgs_self hn hst) ⟨q, xs, rfl, ht, hl, h⟩
theorem sx_for {tg iter : Expr} {body : List Stmt} (hp : PassesOwn (model X.prog X.w) X.A X.env X.xe) (hc : X.calm = true) (hs : ∀ x, foldedSetIterable iter X.env x = pure x)
    (h : EI X tg iter σ H fun J H1 => ∃ W : Nat → Nat → St → Hp → Prop, (∃ m, W 0 m σ H1) ∧ ∀ i m σ H, W i m σ H →
      (J.stop i H ∧ D.nx σ H) ∨ (J.go i H ∧ ∃ N : St → Hp → Prop, (∀ σ' H', N σ' H' → ∃ m', m' < m ∧ W (i + 1) m' σ' H') ∧ ∀ x H', J.yld i H x H' → EG X tg x σ H' fun σ2 H2 => SXs X body { D with nx := N, ct := N, bk := D.nx } σ2 H2)) :
    SX X (.For tg iter body [] pos) D σ H := sx_of (ps_for hp hc pi_self pg_self pss_self hs) h
theorem ei_list {tg l : Expr} {R : It → Hp → Prop} (h : EV X l σ H fun x H1 => ∃ a, x = .ref a ∧ (∃ xs, SqL X.K H1 a xs) ∧ R (Itl X.K a) H1) : EI X tg l σ H R := ei_of (pi_list pe_self) h
theorem ei_range1 {tg : Expr} {R : It → Hp → Prop} (hg : Gl X "range") (hm : X.mg "range" = none) (hs : starEach [a] X.env = [(false, eval a X.env)])
    (h : EA X [a] σ H fun vs H1 => ∃ j : Int, vs = [.int j] ∧ -(2 ^ 62) ≤ j ∧ j < 2 ^ 62 ∧ R (Itr 0 j.toNat) H1) : EI X tg (.Call (.Name "range" p) [a] [] pos) σ H R := ei_of (pi_range1 hg hm pa_self hs) h
theorem ei_range2 {tg : Expr} {R : It → Hp → Prop} (hg : Gl X "range") (hm : X.mg "range" = none) (hs : starEach [a, b] X.env = [(false, eval a X.env), (false, eval b X.env)]) (hs2 : starEach [b] X.env = [(false, eval b X.env)])
    (h : EA X [a, b] σ H fun vs H1 => ∃ i j : Int, vs = [.int i, .int j] ∧ (-(2 ^ 62) ≤ i ∧ i < 2 ^ 62 ∧ -(2 ^ 62) ≤ j ∧ j < 2 ^ 62) ∧ R (Itr i (j - i).toNat) H1) : EI X tg (.Call (.Name "range" p) [a, b] [] pos) σ H R := ei_of (pi_range2 hg hm pa_self hs hs2) h
theorem ev_mono {Q' : VK} (h : EV X e σ H Q) (m : ∀ v H', Q v H' → Q' v H') : EV X e σ H Q' := fun pins s I => thn (h pins s I) fun _ _ ⟨v, H', I', r, q⟩ => ⟨v, H', I', r, m v H' q⟩
/-! ### the operations, by the values' kinds -/
theorem op_by {f : Value → Value → Sem Value} {r : R2} {y z : V} (h : OpR X f r) (q : r y z H Q) : OP X f y z H Q := ⟨r, h, q⟩
variable {i j : Int} {k k' : Bool} {z z' : Str}
theorem o_add (q : Q (.int (i + j)) H) : OP X (binaryOp .Add) (.int i) (.int j) H Q := op_by op_add ⟨i, j, rfl, rfl, q⟩
theorem o_sub (q : Q (.int (i - j)) H) : OP X (binaryOp .Sub) (.int i) (.int j) H Q := op_by op_sub ⟨i, j, rfl, rfl, q⟩
theorem o_mul (c : CMul i j) (q : Q (.int (i * j)) H) : OP X (binaryOp .Mult) (.int i) (.int j) H Q := op_by op_mul ⟨i, j, rfl, rfl, c, q⟩
theorem o_fdiv (c : CDiv i j) (q : Q (.int (i / j)) H) : OP X (binaryOp .FloorDiv) (.int i) (.int j) H Q := op_by op_fdiv ⟨i, j, rfl, rfl, c, q⟩
theorem o_mod (c : 0 < j) (q : Q (.int (i % j)) H) : OP X (binaryOp .Mod) (.int i) (.int j) H Q := op_by op_mod ⟨i, j, rfl, rfl, c, q⟩
theorem o_pow (c : CPow i j) (q : Q (.int (i ^ j.toNat)) H) : OP X (binaryOp .Pow) (.int i) (.int j) H Q := op_by op_pow ⟨i, j, rfl, rfl, c, q⟩
theorem o_lt (q : Q (.bl (decide (i < j))) H) : OP X (compareOp .Lt) (.int i) (.int j) H Q := op_by op_lt ⟨i, j, rfl, rfl, q⟩
theorem o_gt (q : Q (.bl (decide (j < i))) H) : OP X (compareOp .Gt) (.int i) (.int j) H Q := op_by op_gt ⟨i, j, rfl, rfl, q⟩
theorem o_eq {y z : V} (s : scal y z = true) (q : Q (.bl (decide (y = z))) H) : OP X (compareOp .Eq) y z H Q := op_by op_eq ⟨s, q⟩
theorem o_ne {y z : V} (s : scal y z = true) (q : Q (.bl (!decide (y = z))) H) : OP X (compareOp .NotEq) y z H Q := op_by op_ne ⟨s, q⟩
theorem o_ltS (q : Q (.bl (decide (z.cps.toList < z'.cps.toList))) H) : OP X (compareOp .Lt) (.str z) (.str z') H Q := op_by op_lt_str ⟨z, z', rfl, rfl, q⟩
theorem o_isN {y : V} (q : Q (.bl (decide (y = .non))) H) : OP X (compareOp .Is) y .non H Q := op_by op_isN ⟨rfl, q⟩
theorem o_notN {y : V} (q : Q (.bl (!decide (y = .non))) H) : OP X (compareOp .IsNot) y .non H Q := op_by op_notN ⟨rfl, q⟩
theorem o_addS (c : z.length + z'.length ≤ sizeLine) (q : Q (.str (z ++ z')) H) : OP X (binaryOp .Add) (.str z) (.str z') H Q := op_by op_add_str ⟨z, z', rfl, rfl, c, q⟩
theorem u_neg (q : Q (.int (-i)) H) : UN X (unaryOp .USub) (.int i) H Q := ⟨_, un_neg, i, rfl, q⟩
theorem cl_by {f : Value} {r : List V → Hp → VK → Prop} {vs : List V} (h : CallR X f r) (q : r vs H Q) : CL X f vs H Q := ⟨r, h, q⟩
theorem c_len {q : Addr} {ys : List V} (h : SqL X.K H q ys ∨ SqT X.K H q ys) (g : Q (.int ys.length) H) : CL X (.builtin "len") [.ref q] H Q := cl_by call_len_seq ⟨q, ys, rfl, h, g⟩
theorem c_list {q : Addr} {ys : List V} (h : SqL X.K H q ys ∨ SqT X.K H q ys) (g : ∀ l, H l = none → Q (.ref l) (upd H l (.lst ys))) : CL X (.type "list") [.ref q] H Q := cl_by call_list_of ⟨q, ys, rfl, h, g⟩
theorem ix_by {r : R2} {y z : V} (h : IxR X r) (q : r y z H Q) : IX X y z H Q := ⟨r, h, q⟩
theorem i_list {q : Addr} {xs : List V} (h : SqL X.K H q xs) (e : atI xs i = some v) (g : Q v H) : IX X (.ref q) (.int i) H Q := ix_by ix_list ⟨q, xs, i, v, rfl, rfl, h, e, g⟩
theorem i_tup {q : Addr} {xs : List V} (h : SqT X.K H q xs) (e : atI xs i = some v) (g : Q v H) : IX X (.ref q) (.int i) H Q := ix_by ix_tup ⟨q, xs, i, v, rfl, rfl, h, e, g⟩
theorem i_str {n : Nat} (h : z.length ≤ sizeLine) (e : atI z.cps.toList i = some n) (g : Q (.str ⟨#[n]⟩) H) : IX X (.str z) (.int i) H Q := ix_by ix_str ⟨z, i, n, rfl, rfl, h, e, g⟩
theorem c_isinst {y : V} {t : Value} {T : String} (ty : TyOf X.K H y t) (e : PySem.W.kitOne X.K t (.type T) = some k) (g : Q (.bl k) H) : CL X (.builtin "isinstance") [y, .ty T] H Q := by
  refine ⟨fun xs H Q => ∃ y t T k, xs = [y, .ty T] ∧ TyOf X.K H y t ∧ PySem.W.kitOne X.K t (.type T) = some k ∧ Q (.bl k) H, ?_, y, t, T, k, rfl, ty, e, g⟩
  intro pins s σ H xs us Q I r h
  obtain ⟨y, t, T, k, rfl, ty, e, g⟩ := h
  obtain ⟨u1, u2, rfl, r1, r2⟩ := vals2 r
  cases (show u2 = Value.type T from r2)
  exact isinst_ok I r1 ty e fun tk => ⟨.bl k, H, I.tok tk, rfl, g⟩
end
end L2

namespace L2
open PySem PySem.Spec PyProof.Rows

/-! ### the signs of a text, walked -/
def Its (x : Str) : It := ⟨fun i _ => i < x.cps.size, fun i H v H' => H' = H ∧ ∃ c, x.cps[i]? = some c ∧ v = .str ⟨#[c]⟩, fun i _ => x.cps.size ≤ i⟩
section
variable {X : Cx} {tg l : Expr} {σ : St} {H : Hp} {R : It → Hp → Prop}
end

/-! ### a list comprehension of one clause -/
def capSt (N' N : List Str) (σ : St) (scope : Scope) : St := N'.map fun x => if scope.names.lookup x = some .free then nameV N σ x else none
def blk (X : Cx) (N' : List Str) (scope : Scope) (cl : List (Str × Addr)) (C : Addr) (s : Shared) (H : Hp) (fp : List Addr) : Cx :=
  { X with N := N', s₀ := s, H₀ := H, env := compEnvC scope cl C X.env, outer := X.stack, stack := X.stack, ex := fp, fn := fun _ => false, pn := [], xe := fun _ _ => False }
def EIfs (X : Cx) (ifs : List Expr) (σ : St) (H : Hp) (Q : Bool → Hp → Prop) : Prop :=
  ∀ (pins : List (Addr × Obj)) (s : Shared), Inv X pins σ H s →
    wpAny (model X.prog X.w) X.A (forIn ifs true fun c r => if r = true then do let ok ← isTrue c X.env (eval c X.env); pure (ForInStep.yield ok) else pure (ForInStep.yield r)) (TP X pins σ Q) X.xe s

theorem closure_go (env : Env) : ∀ (names : List (Str × NameKind)) (cs : List (Str × Addr)), (∀ y ∈ names, y.2 = .free → ∃ c, env.cells.lookup y.1 = some c) →
    (forIn names cs (fun (x : Str × NameKind) (r : List (Str × Addr)) => if (x.2 == NameKind.free) = true then do let a ← cellOf env x.1; pure (ForInStep.yield ((x.1, a) :: r)) else pure (ForInStep.yield r)) : Sem (List (Str × Addr))) =
      pure (names.foldl (fun cs y => if y.2 == .free then (y.1, (env.cells.lookup y.1).getD 0) :: cs else cs) cs)
  | [], cs, _ => by simp
  | (n, k) :: r, cs, h => by
    rw [List.forIn_cons]
    by_cases hk : k = .free
    · subst hk
      obtain ⟨c, e⟩ := h (n, .free) List.mem_cons_self rfl
      have e' : cellOf env n = pure c := by
        unfold cellOf
        have e2 : env.cells.lookup n = some c := e
        rw [e2]
      simp only [beq_self_eq_true, if_true, e', pure_bind]
      have e2 : env.cells.lookup n = some c := e
      rw [closure_go env r _ fun y hy => h y (List.mem_cons_of_mem _ hy), List.foldl_cons]
      simp only [beq_self_eq_true, if_true, e2, Option.getD_some]
    · have hb : (k == NameKind.free) = false := by simpa using hk
      simp only [hb, Bool.false_eq_true, if_false, pure_bind]
      rw [closure_go env r _ fun y hy => h y (List.mem_cons_of_mem _ hy), List.foldl_cons]
      simp only [hb, Bool.false_eq_true, if_false]
def closL (scope : Scope) (env : Env) : List (Str × Addr) := scope.names.foldl (fun cs y => if y.2 == .free then (y.1, (env.cells.lookup y.1).getD 0) :: cs else cs) []
theorem closure_eq {scope : Scope} {env : Env} (h : ∀ y ∈ scope.names, y.2 = .free → ∃ c, env.cells.lookup y.1 = some c) : closureFor scope env = pure (closL scope env) := by
  have := closure_go env scope.names [] h
  unfold closureFor closL
  rw [← this]
  simp
theorem closL_mem {env : Env} : ∀ (names : List (Str × NameKind)) (cs : List (Str × Addr)), (∀ y ∈ names, y.2 = .free → ∃ c, env.cells.lookup y.1 = some c) →
    ∀ x c, (names.foldl (fun cs y => if y.2 == .free then (y.1, (env.cells.lookup y.1).getD 0) :: cs else cs) cs).lookup x = some c → (env.cells.lookup x = some c ∨ cs.lookup x = some c)
  | [], cs, _, x, c, e => .inr e
  | (n, k) :: r, cs, h, x, c, e => by
    rw [List.foldl_cons] at e
    rcases closL_mem r _ (fun y hy => h y (List.mem_cons_of_mem _ hy)) x c e with q | q
    · exact .inl q
    · by_cases hk : k = .free
      · subst hk
        obtain ⟨c', e'⟩ := h (n, .free) List.mem_cons_self rfl
        have e2 : env.cells.lookup n = some c' := e'
        simp only [beq_self_eq_true, if_true, e2, Option.getD_some, List.lookup_cons] at q
        cases hx : x == n with
        | true =>
          rw [hx] at q
          have hx' : x = n := by simpa using hx
          subst hx'
          exact .inl (e2.trans q)
        | false => rw [hx] at q; exact .inr q
      · have hb : (k == NameKind.free) = false := by simpa using hk
        rw [if_neg (by simp [hb])] at q
        exact .inr q
theorem closL_has {env : Env} : ∀ (names : List (Str × NameKind)) (cs : List (Str × Addr)) (x : Str), ((x, NameKind.free) ∈ names ∨ ∃ c, cs.lookup x = some c) →
    ∃ c, (names.foldl (fun cs y => if y.2 == .free then (y.1, (env.cells.lookup y.1).getD 0) :: cs else cs) cs).lookup x = some c
  | [], cs, x, h => by
    rcases h with h | h
    · cases h
    · exact h
  | (n, k) :: r, cs, x, h => by
    rw [List.foldl_cons]
    refine closL_has r _ x ?_
    by_cases hk : k = .free
    · subst hk
      simp only [beq_self_eq_true, if_true, List.lookup_cons]
      cases hx : x == n with
      | true => exact .inr ⟨_, rfl⟩
      | false =>
        rcases h with h | h
        · rcases List.mem_cons.mp h with h | h
          · cases h
            simp at hx
          · exact .inl h
        · exact .inr h
    · have hb : (k == NameKind.free) = false := by simpa using hk
      rw [if_neg (by simp [hb])]
      rcases h with h | h
      · rcases List.mem_cons.mp h with h | h
        · cases h
          exact absurd rfl hk
        · exact .inl h
      · exact .inr h
theorem relabel_free {env : Env} {x : Str} : ∀ {names : List (Str × NameKind)}, names.lookup x = some .free →
    (names.map fun (n, k) => if (k == NameKind.free && env.scope.kind == .function && env.kindOf n == some .cell) then (n, NameKind.cell) else (n, k)).lookup x = some .cell ∨
    (names.map fun (n, k) => if (k == NameKind.free && env.scope.kind == .function && env.kindOf n == some .cell) then (n, NameKind.cell) else (n, k)).lookup x = some .free
  | [], h => by simp at h
  | (n, k') :: r, h => by
    have ih := @relabel_free env x r
    show List.lookup x ((if (k' == NameKind.free && env.scope.kind == .function && env.kindOf n == some .cell) = true then (n, NameKind.cell) else (n, k')) :: _) = _ ∨ List.lookup x ((if (k' == NameKind.free && env.scope.kind == .function && env.kindOf n == some .cell) = true then (n, NameKind.cell) else (n, k')) :: _) = _
    cases hx : x == n with
    | true =>
      simp only [List.lookup_cons, hx] at h
      cases h
      by_cases hc : (NameKind.free == NameKind.free && env.scope.kind == .function && env.kindOf n == some .cell) = true
      · rw [if_pos hc]; left; simp only [List.lookup_cons, hx]
      · rw [if_neg hc]; right; simp only [List.lookup_cons, hx]
    | false =>
      simp only [List.lookup_cons, hx] at h
      by_cases hc : (k' == NameKind.free && env.scope.kind == .function && env.kindOf n == some .cell) = true
      · rw [if_pos hc]; simp only [List.lookup_cons, hx]; exact ih h
      · rw [if_neg hc]; simp only [List.lookup_cons, hx]; exact ih h
/-- a captured name in the block's own table was free in the comprehension's -/
theorem relabel_cf {env : Env} {x : Str} : ∀ {names : List (Str × NameKind)}, (∀ y ∈ names, y.2 ≠ .cell) →
    ((names.map fun (n, k) => if (k == NameKind.free && env.scope.kind == .function && env.kindOf n == some .cell) then (n, NameKind.cell) else (n, k)).lookup x = some .cell ∨
    (names.map fun (n, k) => if (k == NameKind.free && env.scope.kind == .function && env.kindOf n == some .cell) then (n, NameKind.cell) else (n, k)).lookup x = some .free) → (x, NameKind.free) ∈ names
  | [], _, h => by simp at h
  | (n, k') :: r, hc0, h => by
    have ih := @relabel_cf env x r fun y hy => hc0 y (List.mem_cons_of_mem _ hy)
    have h' : List.lookup x ((if (k' == NameKind.free && env.scope.kind == .function && env.kindOf n == some .cell) = true then (n, NameKind.cell) else (n, k')) :: (r.map fun (n, k) => if (k == NameKind.free && env.scope.kind == .function && env.kindOf n == some .cell) then (n, NameKind.cell) else (n, k))) = some .cell ∨
      List.lookup x ((if (k' == NameKind.free && env.scope.kind == .function && env.kindOf n == some .cell) = true then (n, NameKind.cell) else (n, k')) :: (r.map fun (n, k) => if (k == NameKind.free && env.scope.kind == .function && env.kindOf n == some .cell) then (n, NameKind.cell) else (n, k))) = some .free := h
    cases hx : x == n with
    | true =>
      have hx' : x = n := by simpa using hx
      subst hx'
      by_cases hc : (k' == NameKind.free && env.scope.kind == .function && env.kindOf x == some .cell) = true
      · have : k' = .free := by simp only [Bool.and_eq_true] at hc; simpa using hc.1.1
        subst this
        exact List.mem_cons_self
      · rw [if_neg hc] at h'
        simp only [List.lookup_cons, hx] at h'
        rcases h' with h' | h'
        · cases h'
          exact absurd rfl (hc0 (x, .cell) List.mem_cons_self)
        · cases h'
          exact List.mem_cons_self
    | false =>
      refine List.mem_cons_of_mem _ (ih ?_)
      by_cases hc : (k' == NameKind.free && env.scope.kind == .function && env.kindOf n == some .cell) = true
      · rw [if_pos hc] at h'; simpa only [List.lookup_cons, hx] using h'
      · rw [if_neg hc] at h'; simpa only [List.lookup_cons, hx] using h'

/-- the turns of a comprehension's loop -/
theorem compLoop_any {prog : Program} {w : World} {A : Around} {R : Result → Shared → Prop} {s : Shared} {elt target iter : Expr} {ifs : List Expr} {scope : Scope} {pos : Pos} {it acc : Value} {env : Env} (I : Nat → Shared → Prop)
    (turn : ∀ n s, I n s → wpAny (model prog w) A (pyNext it) (fun r s₁ => match r with
      | none => R (.ok .next) s₁
      | some v => wpAny (model prog w) A (letOwnedTupleGo target it v) (fun _ s₁' => wpAny (model prog w) A (assign target env v) (fun _ s₂ =>
          wpAny (model prog w) A (forIn ifs true fun c r => if r = true then do let ok ← isTrue c env (eval c env); pure (ForInStep.yield ok) else pure (ForInStep.yield r)) (fun ok s₃ =>
            if ok = true then wpAny (model prog w) A (eval elt env) (fun x s₄ =>
              wpAny (model prog w) A (call (.builtin "list.append") [acc, x]) (fun _ s₅ => ∃ m, m < n ∧ I m s₅) (fun _ _ => False) s₄) (fun _ _ => False) s₃
            else ∃ m, m < n ∧ I m s₃) (fun _ _ => False) s₂) (fun _ _ => False) s₁') (fun _ _ => False) s₁) (fun _ _ => False) s)
    (n : Nat) (h : I n s) :
    codeAny (model prog w) A (.compLoop (.ListComp elt [⟨target, iter, ifs, 0⟩] scope pos) 0 it acc env) R s := by
  refine codeAny_loop rfl I (fun n s hI => ?_) n h
  show wpAny _ A ((compTurn (.ListComp elt [⟨target, iter, ifs, 0⟩] scope pos) 0 it acc env).onRaise (fun x => do noteFrame x env; theTreesLotGoes x)) _ _ s
  refine wpAny_noted ?_
  rw [compTurn_list]
  refine wpAny_bind (wpAny_standAt (wpAny_bind (wpAny_mono (turn n s hI) (fun r s₁ h₁ => ?_) fun _ _ h' => h'.elim)))
  cases r with
  | none => exact wpAny_pure h₁
  | some v =>
    refine wpAny_bind (wpAny_mono h₁ (fun _ s₁' h₁' => ?_) fun _ _ h' => h'.elim)
    refine wpAny_bind (wpAny_mono h₁' (fun _ s₂ h₂ => wpAny_bind (wpAny_mono h₂ (fun ok s₃ h₃ => ?_) fun _ _ h' => h'.elim)) fun _ _ h' => h'.elim)
    cases ok with
    | false => exact wpAny_pure ⟨rfl, h₃⟩
    | true =>
      exact wpAny_bind (wpAny_bind (wpAny_mono h₃ (fun x s₄ h₄ => wpAny_bind (wpAny_mono h₄ (fun _ s₅ h₅ => wpAny_pure (wpAny_pure ⟨rfl, h₅⟩)) fun _ _ h' => h'.elim)) fun _ _ h' => h'.elim))
end L2

namespace L2
open PySem PySem.Spec PyProof.Rows

section
variable {X : Cx} {pins : List (Addr × Obj)} {σ : St} {H H' : Hp} {s s' : Shared} {scope : Scope} {fp : List Addr} {N' : List Str}
/-- what a comprehension's own names must be -/
structure CompSc (env : Env) (scope : Scope) : Prop where
  kind : scope.kind = .function
  free : ∀ y ∈ scope.names, y.2 = .free → env.kindOf y.1 = some .cell ∨ env.kindOf y.1 = some .free
  cell : ∀ y ∈ scope.names, y.2 ≠ .cell
  loc : ∀ y ∈ scope.names, y.2 = .local → scope.names.lookup y.1 = some .local

theorem CompSc.has (S : CompSc X.env scope) (I : Inv X pins σ H s) : ∀ y ∈ scope.names, y.2 = .free → ∃ c, X.env.cells.lookup y.1 = some c := fun y hy e => I.ok.has y.1 (S.free y hy e)
theorem CompSc.cl (S : CompSc X.env scope) (I : Inv X pins σ H s) {x : Str} {c : Addr} (h : (closL scope X.env).lookup x = some c) : X.env.cells.lookup x = some c := by
  rcases closL_mem scope.names [] (S.has I) x c h with q | q
  · exact q
  · simp at q

theorem blk_ok (S : CompSc X.env scope) (I : Inv X pins σ H s) (hf : ∀ b ∈ fp, FpOk X pins H b) (hfs : ∀ b ∈ fp, b < s.heap.objs.size) : (blk X N' scope (closL scope X.env) s.heap.objs.size s H fp).Ok where
  mod := I.ok.mod
  kind := S.kind
  glob := I.ok.glob
  blt := I.ok.blt
  above := Nat.le_refl _
  inj := fun x y c h1 h2 => I.ok.inj x y c (S.cl I h1) (S.cl I h2)
  has := fun x hx => closL_has (env := X.env) scope.names [] x (.inl (relabel_cf S.cell hx))
  cab := fun x c h _ => by cases h
  hd := I.ok.hd
  frames := I.ok.frames
  stk := .inl rfl
  exf := fun b hb => ⟨Nat.ne_of_lt (hfs b hb), fun x c h => (hf b hb).2.2.2.2.1 x c (S.cl I h)⟩
  bs := I.bs
  bsz := Nat.le_trans I.ok.bsz I.sz
  noex := fun b o e hb => by
    rcases (hf b hb).2.2.2.1 with z | z
    · exact I.ok.noex b o e z
    · rw [(I.ok.bs b o e).1] at z; cases z
  exfs := fun b hb z => by
    rcases List.mem_cons.mp (I.stkSub b z) with e | e
    · exact (hf b hb).2.1 e
    · exact (hf b hb).2.2.1 e
  funs := I.stack
  frf := I.stkFree

theorem capSt_get {N : List Str} {i : Nat} {x : Str} {v : V} (h1 : N'[i]? = some x) (h2 : (capSt N' N σ scope)[i]? = some (some v)) : scope.names.lookup x = some .free ∧ nameV N σ x = some v := by
  unfold capSt at h2
  rw [List.getElem?_map, h1] at h2
  have h3 : (if scope.names.lookup x = some .free then nameV N σ x else none) = some v := by simpa using h2
  split at h3
  · rename_i e
    exact ⟨e, h3⟩
  · cases h3

theorem blk_inv (S : CompSc X.env scope) (I : Inv X pins σ H s) (hf : ∀ b ∈ fp, FpOk X pins H b) (hfs : ∀ b ∈ fp, b < s.heap.objs.size) {h₁ : Heap} {m : Str → Option Value} {tk : Nat} (hns : h₁.Ns s.heap.objs.size m)
    (old : ∀ b o, s.heap.get? b = some o → h₁.get? b = some o) : Inv (blk X N' scope (closL scope X.env) s.heap.objs.size s H fp) [] (capSt N' X.N σ scope) H { s with heap := h₁, toks := tk } where
  ok := blk_ok S I hf hfs
  os := rfl
  bare := I.bare
  base := Un.kept old
  loc := by
    refine ⟨m, hns, fun i x v h1 h2 h3 => ?_⟩
    obtain ⟨e1, e2⟩ := capSt_get h1 h2
    obtain ⟨j, g1, g2⟩ := nameV_get e2
    have hm : (x, NameKind.free) ∈ scope.names := PySem.mem_of_lookup e1
    have hk := S.free _ hm rfl
    obtain ⟨m0, _, hl⟩ := I.loc
    have vis : Vis X.env.scope x := .inr hk
    obtain ⟨u, r, lk⟩ := hl j x v g1 g2 vis
    refine ⟨u, r, .inr ⟨relabel_free (env := X.env) e1, ?_⟩⟩
    rcases lk with ⟨k, _⟩ | ⟨_, c, e, z⟩
    · rcases hk with hk | hk
      · have hk' : X.env.kindOf x = some .cell := hk
        rw [hk'] at k; cases k
      · have hk' : X.env.kindOf x = some .free := hk
        rw [hk'] at k; cases k
    · obtain ⟨c', e'⟩ := closL_has (env := X.env) scope.names [] x (.inl hm)
      have e3 := S.cl I (x := x) (c := c') e'
      rw [e] at e3
      cases e3
      obtain ⟨o, ho, hd⟩ := z
      exact ⟨c, e', o, old _ _ ho, hd⟩
  cell := fun x c h => by
    obtain ⟨v, o, ho, hd⟩ := I.cell x c (S.cl I h)
    exact ⟨v, o, old _ _ ho, hd⟩
  free := I.hok.fresh (Nat.le_refl _)
  freeC := fun x c h => I.freeC x c (S.cl I h)
  pin := fun p hp => absurd (show p ∈ ([] : List (Addr × Obj)) from hp) (by simp)
  hok := I.hok.kept old
  len := by show (capSt N' X.N σ scope).length = N'.length; unfold capSt; rw [List.length_map]

/-- behind the block -/
theorem blk_end {τ : St} (I : Inv X pins σ H s) (hf : ∀ b ∈ fp, FpOk X pins H b) (J : Inv (blk X N' scope (closL scope X.env) s.heap.objs.size s H fp) [] τ H' s') : Inv X pins σ H' s' := by
  obtain ⟨hh, g, d, t, os'⟩ := s'
  have e : os' = s.os := J.os
  subst e
  exact I.call (h' := hh) (g' := g) (d' := d) (t' := t) (ch := fp) J.base J.hok J.bare fun b hb => ⟨(hf b hb).2.2.2.1, (hf b hb).2.1, (hf b hb).2.2.2.2.1, (hf b hb).2.2.2.2.2⟩

variable {elt iter tg : Expr} {ifs : List Expr} {pos : Pos}
/-- the turns wanted of a comprehension: W the invariant, D the list's address -/
def CompT (X Y : Cx) (tg elt : Expr) (ifs : List Expr) (J : It) (D : Addr) (σ' : St) (H : Hp) (Q : Hp → Prop) : Prop :=
  ∃ W : Nat → Nat → St → Hp → Prop, (∃ m, W 0 m σ' (upd H D (.lst []))) ∧ ∀ i m τ H, W i m τ H →
    (J.stop i H ∧ Q H) ∨ (J.go i H ∧ ∃ N : St → Hp → Prop, (∀ τ' H', N τ' H' → ∃ m', m' < m ∧ W (i + 1) m' τ' H') ∧ ∀ x H', J.yld i H x H' →
      EG Y tg x τ H' fun τ2 H2 => EIfs Y ifs τ2 H2 fun k H3 => if k = true then EV Y elt τ2 H3 fun y H4 => ∃ xs, H4 D = some (.lst xs) ∧ xs.length < sizeLine ∧ N τ2 (upd H4 D (.lst (xs ++ [y]))) else N τ2 H3)

theorem comp_run {R : Value → Addr → Result → Shared → Prop} {it : Addr} {tn : Nat → Heap → Prop} {J : It} {E : Value → Shared → Prop} {Q : Addr → Hp → Prop} (hc : X.calm = true) (S : CompSc X.env scope) (I : Inv X pins σ H s)
    (T : Turn X.prog X.w X.K tg J fp it tn) (st : tn 0 s.heap) (hf : ∀ b ∈ fp, FpOk X pins H b)
    (h : ∀ (D C : Addr) (s3 : Shared), H D = none → CompT X (blk X N' scope (closL scope X.env) C s3 (upd H D (.lst [])) fp) tg elt ifs J D (capSt N' X.N σ scope) H (Q D))
    (hR : ∀ (D C : Addr) (H' : Hp) (s' : Shared), H D = none → Q D H' → Inv X pins σ H' s' → FpOk X pins H' C → (∃ m, s'.heap.Ns C m) → R (.ref D) C (.ok .next) s') :
    wpAny (model X.prog X.w) X.A (newList []) (fun acc s₃ => wpAny (model X.prog X.w) X.A (newFunctionEnv scope X.env.globals (closL scope X.env) [] X.env.qual none .none (some X.env)) (fun cenv s₄ =>
      codeAny (model X.prog X.w) X.A (.compStart (.ListComp elt [⟨tg, iter, ifs, 0⟩] scope pos) 0 (.ref it) acc { cenv with scope := relabel scope X.env }) (R acc cenv.locals) s₄) E s₃) E s := by
  refine wpAny_newObj_type ?_
  have hD : H s.heap.objs.size = none := I.hok.fresh (Nat.le_refl _)
  generalize hs3 : ({ s with heap := s.heap.push { cls := .type "list", dict := none, data := .seq ([] : List Value).toArray } } : Shared) = s3
  have I3 : Inv X pins σ (upd H s.heap.objs.size (.lst [])) s3 := by
    subst hs3
    exact I.laid (t' := s.toks) (fun b u e => Heap.get?_push_of_some _ e) (Nat.le_refl _) ⟨Nat.zero_le _, [], 0, .nil, Heap.get?_push_size _ rfl⟩
  have hsz : s3.heap.objs.size = s.heap.objs.size + 1 := by subst hs3; exact Heap.size_push ..
  have old3 : ∀ b o, s.heap.get? b = some o → s3.heap.get? b = some o := fun b o e => by subst hs3; exact Heap.get?_push_of_some _ e
  have fpl : ∀ b ∈ fp, b < s.heap.objs.size := fun b hb => by
    obtain ⟨o, e, _⟩ := T.obj _ _ st b hb
    exact Heap.lt_size e
  have hf3 : ∀ b ∈ fp, FpOk X pins (upd H s.heap.objs.size (.lst [])) b := fun b hb => ⟨by rw [upd_ne (Nat.ne_of_lt (fpl b hb))]; exact (hf b hb).1, (hf b hb).2⟩
  have st3 : tn 0 s3.heap := T.keep _ _ _ st fun b _ o e => old3 b o e
  have fpl3 : ∀ b ∈ fp, b < s3.heap.objs.size := fun b hb => by rw [hsz]; exact Nat.lt_succ_of_lt (fpl b hb)
  refine wpAny_newFunctionEnv S.cell (by intro y hy; simp at hy) (fun h₁ hns hsb => ?_) S.kind
  have old4 : ∀ b o, s3.heap.get? b = some o → h₁.get? b = some o := fun b o e => hsb.extBut b o (Nat.ne_of_lt (Heap.lt_size e)) (Heap.get?_push_of_some _ e)
  generalize hY : blk X N' scope (closL scope X.env) s3.heap.objs.size s3 (upd H s.heap.objs.size (.lst [])) fp = Y
  have hT := h s.heap.objs.size s3.heap.objs.size s3 hD
  rw [hY] at hT
  obtain ⟨W, ⟨m0, w0⟩, turn⟩ := hT
  generalize hs4 : ({ s3 with heap := h₁, toks := s3.toks + ([] : List (Str × Value)).length } : Shared) = s4
  have I4 : Inv Y [] (capSt N' X.N σ scope) (upd H s.heap.objs.size (.lst [])) s4 := by
    subst hs4
    rw [← hY]
    exact blk_inv S I3 hf3 fpl3 hns old4
  have st4 : tn 0 s4.heap := by
    subst hs4
    exact T.keep _ _ _ st3 fun b _ o e => old4 b o e
  have hP : Y.prog = X.prog := by rw [← hY]; rfl
  have hw : Y.w = X.w := by rw [← hY]; rfl
  have hK : Y.K = X.K := by rw [← hY]; rfl
  have hA : Y.A = X.A := by rw [← hY]; rfl
  have hcY : Y.calm = true := by rw [← hY]; exact hc
  have hE : Y.xe = fun _ _ => False := by rw [← hY]; rfl
  have hen : Y.env = compEnvC scope (closL scope X.env) s3.heap.objs.size X.env := by rw [← hY]; rfl
  have hloc : Y.env.locals = s3.heap.objs.size := by rw [hen]; rfl
  have fpY : ∀ b ∈ fp, ∀ H' : Hp, H' b = none → FpOk Y [] H' b := fun b hb H' e => by
    rw [← hY]
    refine ⟨e, Nat.ne_of_lt (fpl3 b hb), fun z => ?_, .inl hb, fun x c q => (hf3 b hb).2.2.2.2.1 x c (S.cl I3 q), fun p hp => absurd (show p ∈ ([] : List (Addr × Obj)) from hp) (by simp)⟩
    rcases List.mem_cons.mp (I3.stkSub b z) with e | e
    · exact (hf b hb).2.1 e
    · exact (hf b hb).2.2.1 e
  have loop : codeAny (model X.prog X.w) X.A (.compLoop (.ListComp elt [⟨tg, iter, ifs, 0⟩] scope pos) 0 (.ref it) (.ref s.heap.objs.size) Y.env) (R (.ref s.heap.objs.size) s3.heap.objs.size) s4 := by
    refine compLoop_any (fun n s' => ∃ i τ H', Inv Y [] τ H' s' ∧ tn i s'.heap ∧ (∀ b ∈ fp, H' b = none) ∧ W i n τ H') ?_ m0 ⟨0, _, _, I4, st4, fun b hb => (hf3 b hb).1, w0⟩
    rintro n s5 ⟨i, τ, H5, I5, st5, fr5, w5⟩
    have toF : ∀ {α : Type} {t : Sem α} {Q : α → Shared → Prop} {s : Shared}, wpAny (model Y.prog Y.w) Y.A t Q Y.xe s → wpAny (model X.prog X.w) X.A t Q (fun _ _ => False) s := fun h => by
      rw [hP, hw, hA, hE] at h; exact h
    rcases turn i n τ H5 w5 with ⟨stop, qn⟩ | ⟨go, N, hN, step⟩
    · have q := T.done Y hP hw hK hcY i [] s5 τ H5 (fun _ _ => False) I5 (fun b hb => fpY b hb _ (fr5 b hb)) st5 stop
      rw [hA] at q
      refine thn q fun r s6 ⟨hr, I6⟩ => ?_
      subst hr
      have IX6 : Inv X pins σ H5 s6 := by
        have I6' := I6
        rw [← hY] at I6'
        exact blk_end I3 hf3 I6'
      refine hR _ _ H5 s6 hD qn IX6 (I3.fpOk (Nat.le_refl _) ?_) ?_
      · have := I6.free
        rw [hloc] at this
        exact this
      · obtain ⟨m, hn, _⟩ := I6.loc
        rw [hloc] at hn
        exact ⟨m, hn⟩
    · have q := T.item Y hP hw hK hcY i [] s5 τ H5 (fun _ _ => False) I5 (fun b hb => fpY b hb _ (fr5 b hb)) st5 go
      rw [hA] at q
      refine thn q fun r s6 ⟨u, hr, h6⟩ => ?_
      subst hr
      refine thn h6 fun _ s7 ⟨x, H7, I7, r7, y7, st7, fr7⟩ => ?_
      have I7' := I7.pinned (fun b hb => fpY b hb _ (fr7 b hb)) (T.obj _ _ st7)
      have pinK : ∀ {τ' : St} {H8 : Hp} {s8 : Shared}, Inv Y ([] ++ pinsAt fp s7.heap) τ' H8 s8 → tn (i + 1) s8.heap ∧ ∀ b ∈ fp, H8 b = none := fun {τ' H8 s8} I8 => by
        refine ⟨T.keep _ _ _ st7 fun b hb o e => (I8.pin (b, o) (List.mem_append_right _ (List.mem_append_right _ (mem_pinsAt hb e)))).1, fun b hb => ?_⟩
        obtain ⟨o, e, d⟩ := T.obj _ _ st7 b hb
        exact (I8.pin (b, o) (List.mem_append_right _ (List.mem_append_right _ (mem_pinsAt hb e)))).2.1
      refine toF (thn (step x H7 y7 _ s7 u I7' r7) fun _ s8 ⟨τ8, H8, I8, q8⟩ => ?_)
      refine toF (thn (q8 _ s8 I8) fun ok s9 ⟨H9, I9, q9⟩ => ?_)
      cases ok with
      | false =>
        have q9' : N τ8 H9 := by simpa using q9
        obtain ⟨m', hm, w9⟩ := hN _ _ q9'
        obtain ⟨k1, k2⟩ := pinK I9
        show ∃ m, _
        exact ⟨m', hm, i + 1, τ8, H9, I9.unpinned, k1, k2, w9⟩
      | true =>
        have q9' : EV Y elt τ8 H9 fun y H4 => ∃ xs, H4 s.heap.objs.size = some (.lst xs) ∧ xs.length < sizeLine ∧ N τ8 (upd H4 s.heap.objs.size (.lst (xs ++ [y]))) := by simpa using q9
        show wpAny _ _ _ _ _ _
        refine toF (thn (q9' _ s9 I9) fun z s10 ⟨y, H10, I10, r10, xs, e10, l10, n10⟩ => ?_)
        refine toF (thn (mt_append _ s10 τ8 H10 (.ref s.heap.objs.size) [y] _ [z] (fun v H11 => v = .non ∧ H11 = upd H10 s.heap.objs.size (.lst (xs ++ [y]))) I10 rfl (.cons r10 .nil) ⟨_, xs, y, rfl, rfl, e10, l10, rfl, rfl⟩) fun _ s11 ⟨_, H11, I11, _, _, e11⟩ => ?_)
        subst e11
        obtain ⟨m', hm, w11⟩ := hN _ _ n10
        obtain ⟨k1, k2⟩ := pinK I11
        exact ⟨m', hm, i + 1, τ8, _, I11.unpinned, k1, k2, w11⟩
  rw [hen] at loop
  exact codeAny_compStart_list loop (T.self X.A 0 s4 _ _ st4 loop)

theorem ev_comp {Q : VK} (hc : X.calm = true) (S : CompSc X.env scope) (hs : ∀ x, foldedSetIterable iter X.env x = pure x)
    (h : EI X tg iter σ H fun J H1 => ∀ (fp : List Addr) (D C : Addr) (s3 : Shared), H1 D = none → CompT X (blk X N' scope (closL scope X.env) C s3 (upd H1 D (.lst [])) fp) tg elt ifs J D (capSt N' X.N σ scope) H1 (fun H' => Q (.ref D) H')) :
    EV X (.ListComp elt [⟨tg, iter, ifs, 0⟩] scope pos) σ H Q := by
  intro pins s I
  rw [eval_ListComp]
  refine wpAny_comprehension_free (use := none) rfl hs (closure_eq (S.has I)) S.kind S.loc (thn (h pins s I) fun v s1 h1 => thn h1 fun itv s2 h2 => ?_)
  obtain ⟨it, fp, tn, J, H2, e, I2, T, st2, f2, q2⟩ := h2
  subst e
  refine comp_run (R := fun acc C => compPost (model X.prog X.w) X.A X.xe none (EP X pins σ Q) acc C) (Q := fun D H' => Q (.ref D) H') hc S I2 T st2 f2 (fun D C s3 hD => q2 fp D C s3 hD) fun D C H' s' hD qD IX fC hn => ?_
  obtain ⟨m, hn⟩ := hn
  obtain ⟨f0, f1, f2', f3, f4, f5⟩ := fC
  exact ⟨m, hn, fun h' hsb => ⟨.ref D, H', IX.turned (t' := s'.toks) (fun b o hb e => hsb.extBut b o hb e) f0 f1 f3 f4 f5, rfl, qD⟩⟩

/-- y = [.. for ..] at a local name, on one line: the stores are exchanged -/
theorem sx_comp {D : Ends} {y : Str} {py spos : Pos} {j : Nat} (hsw : swapsWith (.ListComp elt [⟨tg, iter, ifs, 0⟩] scope pos) (some (.Name y py)) spos.line X.env = pure true) (hc : X.calm = true) (S : CompSc X.env scope) (hs : ∀ x, foldedSetIterable iter X.env x = pure x)
    (hN : X.N.Nodup) (hi : nameAt X.N y = some j) (hx : X.env.scope.names.lookup y = some .local)
    (h : EI X tg iter σ H fun J H1 => ∀ (fp : List Addr) (E C : Addr) (s3 : Shared), H1 E = none → CompT X (blk X N' scope (closL scope X.env) C s3 (upd H1 E (.lst [])) fp) tg elt ifs J E (capSt N' X.N σ scope) H1 (fun H' => D.nx (σ.set j (some (.ref E))) H')) :
    SX X (.Assign [.Name y py] (.ListComp elt [⟨tg, iter, ifs, 0⟩] scope pos) spos) D σ H := by
  intro pins s I
  rw [exec_Assign_Name_used _ _ _ _ hsw]
  refine wpAny_bind (wpAny_standAt (wpAny_bind ?_))
  show wpAny _ X.A (do let _ ← comprehension (.ListComp elt [⟨tg, iter, ifs, 0⟩] scope pos) scope X.env _ (newList []) false (eval iter X.env) (some (assign (.Name y py) X.env))) _ _ s
  refine wpAny_bind (wpAny_mono (wpAny_comprehension_free (use := some (assign (.Name y py) X.env)) (Q := fun _ s' => SP X pins D .next s') rfl hs (closure_eq (S.has I)) S.kind S.loc
    (thn (h pins s I) fun v s1 h1 => thn h1 fun itv s2 h2 => ?_)) (fun _ s' hq => wpAny_pure (wpAny_pure hq)) fun _ _ e => e)
  obtain ⟨it, fp, tn, J, H2, e, I2, T, st2, f2, q2⟩ := h2
  subst e
  refine comp_run (R := fun acc C => compPost (model X.prog X.w) X.A X.xe (some (assign (.Name y py) X.env)) (fun _ s' => SP X pins D .next s') acc C) (Q := fun E H' => D.nx (σ.set j (some (.ref E))) H') hc S I2 T st2 f2 (fun E C s3 hD => q2 fp E C s3 hD) fun E C H' s' hD qD IX fC hn => ?_
  obtain ⟨m, hn⟩ := hn
  obtain ⟨f0, f1, f2', f3, f4, f5⟩ := fC
  show wpAny _ _ (assign (.Name y py) X.env (.ref E)) _ _ _
  refine wpAny_assign_Name (store_ok2 IX hN (nameAt_get hi) (.inl hx) (v := .ref E) rfl (fun s'' I'' hb => ?_) (.inr hx))
  obtain ⟨a, sb, ha⟩ := hb
  have hCa : C ≠ a := by
    rcases ha with ha | ha
    · rw [ha]; exact f1
    · intro z
      exact f4 y a ha z.symm
  refine ⟨m, hn.sameBut sb hCa, fun h' hsb => ⟨σ.set j (some (.ref E)), H', I''.turned (t' := s''.toks) (fun b o hb e => hsb.extBut b o hb e) f0 f1 f3 f4 f5, qD⟩⟩

theorem eifs_nil {Q : Bool → Hp → Prop} (q : Q true H) : EIfs X [] σ H Q := fun pins s I => by
  rw [List.forIn_nil]
  exact wpAny_pure ⟨H, I, q⟩
theorem eifs_one {c : Expr} {Q : Bool → Hp → Prop} (h : ET X c σ H Q) : EIfs X [c] σ H Q := fun pins s I => by
  rw [List.forIn_cons]
  simp only [if_true]
  refine wpAny_bind (wpAny_bind (thn (h pins s I) fun k s1 q => wpAny_pure ?_))
  dsimp only
  rw [List.forIn_nil]
  exact wpAny_pure q
end

end L2

namespace L2
open PySem PySem.Spec PyProof.Rows

/-! ### short forms: loops, comprehensions, tests -/
theorem ifD {c A B : Prop} [Decidable c] (h1 : c → A) (h2 : ¬ c → B) : if decide c = true then A else B := by
  by_cases h : c
  · rw [if_pos (decide_eq_true h)]; exact h1 h
  · rw [if_neg (by simpa using h)]; exact h2 h
theorem ifN {c A B : Prop} [Decidable c] (h1 : ¬ c → A) (h2 : c → B) : if (!decide c) = true then A else B := by
  by_cases h : c
  · rw [if_neg (by simp [h])]; exact h2 h
  · rw [if_pos (by simp [h])]; exact h1 h
theorem iteNT {A B : Prop} (h : B) : if (!true) = true then A else B := by rw [if_neg (by decide)]; exact h
theorem iteNF {A B : Prop} (h : A) : if (!false) = true then A else B := by rw [if_pos (by decide)]; exact h
theorem Same.upd {H : Hp} {p : Addr} {o : HO} (h : H p = none) : Same H (L2.upd H p o) := fun b u e => by rw [upd_ne (ne_of_none e h)]; exact e
section
variable {X : Cx} {a e : Expr} {σ : St} {H : Hp} {Q : VK} {D : Ends} {pos p p' : Pos}
/-- for y in range(e) -/
theorem sx_forR {tg : Expr} {body : List Stmt} (hp : PassesOwn (model X.prog X.w) X.A X.env X.xe) (hc : X.calm = true) (hg : Gl X "range") (hm : X.mg "range" = none) (hs : starEach [a] X.env = [(false, eval a X.env)])
    (h : EV X a σ H fun v H1 => ∃ n : Int, v = .int n ∧ -(2 ^ 62) ≤ n ∧ n < 2 ^ 62 ∧ ∃ Pv : Nat → St → Hp → Prop, Pv 0 σ H1 ∧
      (∀ i σ' H', i < n.toNat → Pv i σ' H' → EG X tg (.int i) σ' H' fun σ2 H2 => SXs X body { D with nx := Pv (i + 1), ct := Pv (i + 1), bk := D.nx } σ2 H2) ∧ ∀ σ' H', Pv n.toNat σ' H' → D.nx σ' H') :
    SX X (.For tg (.Call (.Name "range" p) [a] [] p') body [] pos) D σ H := by
  refine sx_for hp hc (by intro _; rfl) (ei_range1 hg hm hs (ea_cons hs (ev_mono h fun v H1 q => ?_)))
  obtain ⟨n, rfl, h1, h2, Pv, h0, hst, hd⟩ := q
  refine ea_nil ⟨n, rfl, h1, h2, ?_⟩
  exact for_range (g := EG X tg) (tb := SXs X body) Pv h0 (fun i σ' H' hi hP => by rw [Int.zero_add]; exact hst i σ' H' hi hP) hd
/-- for y in a list that stays -/
theorem sx_forL {tg : Expr} {body : List Stmt} (hp : PassesOwn (model X.prog X.w) X.A X.env X.xe) (hc : X.calm = true) (hs : ∀ x, foldedSetIterable e X.env x = pure x)
    (h : EV X e σ H fun v H1 => ∃ q xs, v = .ref q ∧ SqL X.K H1 q xs ∧ ∃ Pv : Nat → St → Hp → Prop, Pv 0 σ H1 ∧ (∀ i σ' H', i ≤ xs.length → Pv i σ' H' → SqL X.K H' q xs) ∧
      (∀ i x σ' H', xs[i]? = some x → Pv i σ' H' → EG X tg x σ' H' fun σ2 H2 => SXs X body { D with nx := Pv (i + 1), ct := Pv (i + 1), bk := D.nx } σ2 H2) ∧ ∀ σ' H', Pv xs.length σ' H' → D.nx σ' H') :
    SX X (.For tg e body [] pos) D σ H := by
  refine sx_for hp hc hs (ei_list (ev_mono h fun v H1 q => ?_))
  obtain ⟨q, xs, rfl, hq, Pv, h0, hl, hst, hd⟩ := q
  exact ⟨q, rfl, ⟨xs, hq⟩, for_list (g := EG X tg) (tb := SXs X body) Pv h0 hl hst hd⟩
/-- a comprehension with one name, by what holds of each element -/
theorem comp_name {Y : Cx} {elt : Expr} {J : It} {E : Addr} {τ0 : St} {Q : Hp → Prop} {y : Str} {py : Pos} {j : Nat} (hN : Y.N.Nodup) (hj : nameAt Y.N y = some j) (hx : Y.env.scope.names.lookup y = some .local)
    (n : Nat) (hn : n ≤ sizeLine) (Pi : Nat → V → Prop) (It : Nat → V → Prop) (hE : H E = none)
    (go : ∀ i H1, Same (upd H E (.lst [])) (upd H1 E (.lst [])) → i < n → J.go i H1) (stop : ∀ H1, Same (upd H E (.lst [])) (upd H1 E (.lst [])) → J.stop n H1)
    (yld : ∀ i H1 x H2, i < n → Same (upd H E (.lst [])) (upd H1 E (.lst [])) → J.yld i H1 x H2 → It i x ∧ H2 = H1)
    (step : ∀ i x H1, i < n → It i x → Same H H1 → EV Y elt (τ0.set j (some x)) H1 fun v H2 => Pi i v ∧ Same H1 H2)
    (fin : ∀ H1 xs, xs.length = n → (∀ i v, xs[i]? = some v → Pi i v) → H1 E = some (.lst xs) → Same H H1 → Q H1) : CompT X Y (.Name y py) elt [] J E τ0 H Q := by
  have sU : ∀ {H1 : Hp}, Same H H1 → Same (upd H E (.lst [])) (upd H1 E (.lst [])) := fun {H1} s b o e => by
    by_cases hb : b = E
    · subst hb; rw [upd_same] at e ⊢; exact e
    · rw [upd_ne hb] at e ⊢; exact s b o e
  refine ⟨fun i m τ H1 => m = n - i ∧ i ≤ n ∧ Same H H1 ∧ (τ = τ0 ∨ ∃ x, τ = τ0.set j (some x)) ∧ ∃ xs, H1 E = some (.lst xs) ∧ xs.length = i ∧ ∀ k v, xs[k]? = some v → Pi k v, ⟨n, by simp, Nat.zero_le _, Same.upd hE, .inl rfl, [], upd_same, rfl, fun k v e => by simp at e⟩, ?_⟩
  rintro i m τ H1 ⟨rfl, hi, s1, hτ, xs, eE, lx, px⟩
  by_cases hlt : i < n
  · refine .inr ⟨go i H1 (sU s1) hlt, fun τ' H' => Same H H' ∧ (τ' = τ0 ∨ ∃ x, τ' = τ0.set j (some x)) ∧ ∃ xs, H' E = some (.lst xs) ∧ xs.length = i + 1 ∧ ∀ k v, xs[k]? = some v → Pi k v, fun τ' H' ⟨a, b, c⟩ => ⟨n - (i + 1), by omega, rfl, hlt, a, b, c⟩, fun x H2 y => ?_⟩
    obtain ⟨hI, e2⟩ := yld i H1 x H2 hlt (sU s1) y
    subst e2
    refine eg_name hN hj (.inl hx) (.inr hx) (eifs_nil ?_)
    rw [if_pos rfl]
    have eτ : τ.set j (some x) = τ0.set j (some x) := by
      rcases hτ with e | ⟨z, e⟩
      · rw [e]
      · rw [e, List.set_set]
    rw [eτ]
    refine ev_mono (step i x H2 hlt hI s1) fun v H3 ⟨pv, s2⟩ => ⟨xs, s2 _ _ eE, by omega, ?_⟩
    refine ⟨fun b o e => ?_, .inr ⟨x, rfl⟩, xs ++ [v], upd_same, by simp [lx], fun k u e => ?_⟩
    · rw [upd_ne (ne_of_none e hE)]
      exact s2 _ _ (s1 _ _ e)
    · by_cases hk : k < xs.length
      · rw [List.getElem?_append_left hk] at e
        exact px k u e
      · have hk2 : k = i := by
          have := (List.getElem?_eq_some_iff.mp e).1
          rw [List.length_append, List.length_singleton] at this
          omega
        subst hk2
        rw [← lx, List.getElem?_concat_length] at e
        cases e
        exact pv
  · have e : i = n := by omega
    subst e
    exact .inl ⟨stop H1 (sU s1), fin H1 xs lx px eE s1⟩

/-- [elt for y in range(a)] -/
theorem ev_compR {elt : Expr} {scope : Scope} {y : Str} {py : Pos} {j : Nat} (N' : List Str) {σ' : St} (hσ : capSt N' X.N σ scope = σ') (hc : X.calm = true) (S : CompSc X.env scope) (hN : N'.Nodup) (hj : nameAt N' y = some j) (hx : scope.names.lookup y = some .local)
    (hg : Gl X "range") (hm : X.mg "range" = none) (hs : starEach [a] X.env = [(false, eval a X.env)])
    (h : EV X a σ H fun v H1 => ∃ n : Int, v = .int n ∧ -(2 ^ 62) ≤ n ∧ n.toNat ≤ sizeLine ∧ ∃ Pi : Nat → V → Prop,
      (∀ (fp : List Addr) (E C : Addr) (s3 : Shared) (H0 : Hp) (i : Nat) (H2 : Hp), i < n.toNat → Same H1 H2 → EV (blk X N' scope (closL scope X.env) C s3 H0 fp) elt (σ'.set j (some (.int i))) H2 fun v H3 => Pi i v ∧ Same H2 H3) ∧
      ∀ (E : Addr) (H2 : Hp) (xs : List V), H1 E = none → xs.length = n.toNat → (∀ i v, xs[i]? = some v → Pi i v) → H2 E = some (.lst xs) → Same H1 H2 → Q (.ref E) H2) :
    EV X (.ListComp elt [⟨.Name y py, .Call (.Name "range" p) [a] [] p', [], 0⟩] scope pos) σ H Q := by
  refine ev_comp (N' := N') hc S (by intro _; rfl) (ei_range1 hg hm hs (ea_cons hs (ev_mono h fun v H1 q => ?_)))
  obtain ⟨n, rfl, h1, h2, Pi, hst, hfin⟩ := q
  have hsz : (sizeLine : Nat) < 2 ^ 62 := by rw [sizeLine_eq]; decide
  refine ea_nil ⟨n, rfl, h1, by omega, fun fp E C s3 hE => ?_⟩
  rw [hσ]
  refine comp_name (Y := blk X N' scope (closL scope X.env) C s3 (upd H1 E (.lst [])) fp) hN hj (lookup_relabel_local hx) n.toNat h2 Pi (fun i x => x = .int i) hE (fun i _ _ hi => hi) (fun _ _ => Nat.le_refl _) (fun i H1 x H2 _ _ yl => ?_) (fun i x H2 hi ex s => ?_) (fun H2 xs l px eE s => hfin E H2 xs hE l px eE s)
  · obtain ⟨e1, e2⟩ := yl
    exact ⟨by rw [e2, Int.zero_add], e1⟩
  · subst ex
    exact hst fp E C s3 _ i H2 hi s
end

/-! ### a def by its body -/
section
variable {P : Program} {w : World} {K : PySem.W.Frag} {mg : Str → Option Value} {base : Heap} {cc : Bool}
/-- the context in which a def's body runs -/
abbrev CxF (cc : Bool) (P : Program) (w : World) (K : PySem.W.Frag) (mg : Str → Option Value) (base : Heap) (N : List Str) (qual : Str) (scope : Scope) (f : Addr) (cd : Value) (A : Around) (outer : List Env) (s : Shared) (H : Hp) (E : XK) : Cx :=
  cxOf cc (CX1 P w) P w K mg base N qual scope f cd A outer s H E
theorem fn_sx {x qual : Str} {st : Stmt} {ps N : List Str} {k : Nat} {sp : Sp} {f : Addr} {fd : FuncData} (F : Fun K x qual st f fd) (S : FnScope N ps (defScope st))
    (len : ∀ vs H Q E, sp vs H Q E → vs.length = ps.length)
    (body : ∀ (cdv : Value) (A : Around) (outer : List Env) (s : Shared) (H : Hp) (vs : List V) (Q : VK) (E : XK), Room cc k (A.deeper (envOfC qual (defScope st) s.heap.objs.size f cdv)) → sp vs H Q E →
      SXs (CxF cc P w K mg base N qual (defScope st) f cdv A outer s H E) (defBody st) { nx := fun _ H' => Q .non H', rt := Q } (start N vs) H) : FnOk P w K mg base (CX1 P w) cc (k + 1) f fd ps sp := by
  obtain ⟨oc, od, kV, doc, pm, an, cdv, ct, osl, rfl, lk, hcd⟩ := id F.ex
  exact fn_of lk hcd S len fun A outer s H vs Q E hr h => ⟨_, pss_self, body cdv A outer s H vs Q E hr h⟩
theorem def_of {x : Str} {st : Stmt} {ps N : List Str} {k : Nat} {sp : Sp} (F : ∃ f fd, Fun K x x st f fd ∧ mg x = some (.ref f)) (S : FnScope N ps (defScope st))
    (hb : ∀ (kV doc pm : Value) (an : Option Addr) (cdv ct : Value) (us : List Value), us.length = ps.length → bindArgs (PySem.W.fnOf x x (defArgs st) (defBody st) (defScope st) .none kV doc pm an cdv ct) ⟨us, []⟩ = pure (ps.zip us))
    (len : ∀ vs H Q E, sp vs H Q E → vs.length = ps.length)
    (body : ∀ (f : Addr) (cdv : Value) (A : Around) (outer : List Env) (s : Shared) (H : Hp) (vs : List V) (Q : VK) (E : XK), Room cc k (A.deeper (envOfC x (defScope st) s.heap.objs.size f cdv)) → sp vs H Q E →
      SXs (CxF cc P w K mg base N x (defScope st) f cdv A outer s H E) (defBody st) { nx := fun _ H' => Q .non H', rt := Q } (start N vs) H) : Def P w K mg base cc (k + 1) x ps sp := by
  obtain ⟨f, fd, F, hm⟩ := F
  exact ⟨f, fd, hm, F.kp, F.binds hb, fn_sx F S len fun cdv A outer s H vs Q E hr h => body f cdv A outer s H vs Q E hr h⟩
end
/-- law's promise: a list of at most 63 ints is handed in, True comes out -/
def spLaw (K : PySem.W.Frag) : Sp := fun vs H Q _ => ∃ (a : Addr) (ns : List Int), vs = [.ref a] ∧ SqL K H a (ns.map V.int) ∧ ns.length ≤ 63 ∧ ∀ H', Q (.bl true) H'
end L2

namespace L2
open PySem PySem.Spec PyProof.Rows

/-! ### texts -/
/-- z[lo:hi] -/
def cutS (z : Str) (lo hi : Option Int) : Str := ⟨((z.cps.toList.drop (HT.sIx z.length 0 lo)).take (HT.sIx z.length z.length hi - HT.sIx z.length 0 lo)).toArray⟩
theorem sIx_clip (n d : Nat) (v : Int) : max 0 (min (if v < 0 then v + (n : Int) else v) (n : Int)) = ((HT.sIx n d (some v) : Nat) : Int) := by
  rw [← HT.clip_eq]
  split <;> omega
theorem strSl (lo hi : Option Int) (n : Nat) : Builtin.Str.strSliceIndices lo hi 1 n = (List.range (HT.sIx n n hi - HT.sIx n 0 lo)).map (fun m => HT.sIx n 0 lo + m) := by
  have e : Builtin.Str.strSliceIndices lo hi 1 n = sliceRange ((HT.sIx n 0 lo : Nat) : Int) ((HT.sIx n n hi : Nat) : Int) 1 := by
    cases lo with
    | none =>
      cases hi with
      | none => rfl
      | some v => rw [← sIx_clip n n v]; rfl
    | some u =>
      cases hi with
      | none => rw [← sIx_clip n 0 u]; rfl
      | some v => rw [← sIx_clip n 0 u, ← sIx_clip n n v]; rfl
  rw [e]
  generalize HT.sIx n 0 lo = a
  generalize HT.sIx n n hi = b
  by_cases h : a ≤ b
  · have := StrLaws.strSliceIndices_plain (len := b) h (Nat.le_refl b)
    rw [← this]
    have e2 : Builtin.Str.strSliceIndices (some (a : Int)) (some (b : Int)) 1 b = sliceRange (a : Int) (b : Int) 1 := by
      have h1 : ¬ ((a : Int) < 0) := by omega
      have h2 : ¬ ((b : Int) < 0) := by omega
      have e1 : max (0 : Int) (min (a : Int) (b : Int)) = a := by omega
      have e2 : max (0 : Int) (min (b : Int) (b : Int)) = b := by omega
      simp only [Builtin.Str.strSliceIndices, h1, h2, if_false, e1, e2, show ((1 : Int) > 0) = True from by simp, if_true]
    rw [e2]
  · have e3 : b - a = 0 := by omega
    rw [e3]
    have : ¬ ((a : Int) < b) := by omega
    simp [sliceRange, this]
theorem picked_cut (z : Str) (lo hi : Option Int) : (⟨((Builtin.Str.strSliceIndices lo hi 1 z.length).filterMap (z.cps[·]?)).toArray⟩ : Str) = cutS z lo hi := by
  rw [strSl]
  unfold cutS
  have h1 := HT.sIx_le z.length z.length (Nat.le_refl _) hi
  have hl : z.cps.toList.length = z.length := by simp [Str.length]
  by_cases h : HT.sIx z.length 0 lo ≤ HT.sIx z.length z.length hi
  · have := StrLaws.picks z.cps.toList (HT.sIx z.length z.length hi - HT.sIx z.length 0 lo) (HT.sIx z.length 0 lo) (by omega)
    rw [← this]
    simp
  · have e3 : HT.sIx z.length z.length hi - HT.sIx z.length 0 lo = 0 := by omega
    rw [e3]
    simp
theorem isPart_of {v : Value} {o : Option Int} (h : IsPart v o) : ∃ l : Option (Int × Tok), v = partValue l ∧ l.map (·.1) = o := by
  cases h with
  | none => exact ⟨none, rfl, rfl⟩
  | int i t => exact ⟨some (i, t), rfl, rfl⟩
theorem sl_str {X : Cx} : SlR X (fun x lo hi H Q => ∃ z, x = .str z ∧ z.length ≤ sizeLine ∧ Q (.str (cutS z lo hi)) H) := by
  intro pins s σ H x v vl vu lo hi sl Q I rx hs pl pu h
  obtain ⟨z, rfl, hz, q⟩ := h
  obtain ⟨t, rfl⟩ := rx
  refine ⟨"str", _, F.slot_str_getitem.lookup, typeIs_str s z t, ?_⟩
  obtain ⟨l, rfl, rfl⟩ := isPart_of pl
  obtain ⟨u, rfl, rfl⟩ := isPart_of pu
  have hsl : s.heap.IsSlice sl l u none := by
    obtain ⟨o, ho, hc, hd⟩ := hs
    exact ⟨o, ho, hc, hd⟩
  refine wpAny_getItem_str_slice hsl rfl ?_
  have e : (slicePicked z l u none) = Builtin.Str.strSliceIndices (l.map (·.1)) (u.map (·.1)) 1 z.length := rfl
  unfold sliceMade
  have key : (⟨((slicePicked z l u none).filterMap (z.cps[·]?)).toArray⟩ : Str) = cutS z (l.map (·.1)) (u.map (·.1)) := by rw [e]; exact picked_cut z _ _
  split
  · rename_i hh
    have hlen : (slicePicked z l u none).length = z.length := by
      simp only [Bool.and_eq_true, beq_iff_eq] at hh
      exact hh.2
    have whole : cutS z (l.map (·.1)) (u.map (·.1)) = z := by
      rw [e, strSl, List.length_map, List.length_range] at hlen
      have h1 := HT.sIx_le z.length z.length (Nat.le_refl _) (u.map (·.1))
      have hl : z.cps.toList.length = z.length := by simp [Str.length]
      unfold cutS
      by_cases hz0 : z.length = 0
      · have : z.cps.toList = [] := List.eq_nil_of_length_eq_zero (by omega)
        rw [this]
        have e2 : z.cps = #[] := by
          have := congrArg List.toArray this
          simpa using this
        obtain ⟨c⟩ := z
        simp at e2
        subst e2
        simp
      · have ha : HT.sIx z.length 0 (l.map (·.1)) = 0 := by omega
        have hb : HT.sIx z.length z.length (u.map (·.1)) = z.length := by omega
        rw [ha, hb, List.drop_zero, Nat.sub_zero, List.take_of_length_le (by omega)]
    exact ⟨.str (cutS z (l.map (·.1)) (u.map (·.1))), H, I, ⟨t, by rw [whole]⟩, q⟩
  · rw [key]
    refine ⟨?_, .str (cutS z (l.map (·.1)) (u.map (·.1))), H, I.tok _, ⟨_, rfl⟩, q⟩
    have : (cutS z (l.map (·.1)) (u.map (·.1))).length ≤ z.length := by
      unfold cutS Str.length
      simp
      omega
    omega
section
variable {X : Cx} {H : Hp} {Q : VK} {z y : Str}
theorem s_str {lo hi : Option Int} (h : z.length ≤ sizeLine) (g : Q (.str (cutS z lo hi)) H) : SL X (.str z) lo hi H Q := ⟨_, sl_str, z, rfl, h, g⟩
theorem mt_by {id : String} {r : V → List V → Hp → VK → Prop} {x : V} {xs : List V} (h : MtR X id r) (q : r x xs H Q) : MT X id x xs H Q := ⟨r, h, q⟩
theorem strsAre_of {ys : List Str} : ∀ {us : List Value}, Vals (ys.map V.str) us → StrsAre us ys := by
  induction ys with
  | nil => intro us r; cases r; exact .nil
  | cons y ys ih =>
    intro us r
    cases r with
    | cons r rr =>
      obtain ⟨t, rfl⟩ := r
      exact .cons y t (ih rr)
theorem m_join {q : Addr} {ys : List Str} (h : SqL X.K H q (ys.map V.str)) (hw : (ys.map (·.length)).sum + ys.length * z.length ≤ 16777216) (g : Q (.str (Str.join z ys)) H) : MT X "str.join" (.str z) [.ref q] H Q := by
  refine mt_by (r := fun x xs H Q => ∃ z q ys, x = .str z ∧ xs = [.ref q] ∧ SqL X.K H q (ys.map V.str) ∧ (ys.map (·.length)).sum + ys.length * z.length ≤ 16777216 ∧ Q (.str (Str.join z ys)) H) ?_ ⟨z, q, ys, rfl, rfl, h, hw, g⟩
  intro pins s σ H x xs v us Q I rx rs h
  obtain ⟨z, q, ys, rfl, rfl, h, hw, g⟩ := h
  obtain ⟨t, rfl⟩ := rx
  obtain ⟨u, rfl, ru⟩ := vals1 rs
  cases (show u = Value.ref q from ru)
  obtain ⟨its, rv, pl, _⟩ := I.list h
  refine join_list pl.isList (by simpa using strsAre_of rv) hw fun t' k => ⟨.str (Str.join z ys), H, I.tok k, ⟨t', ?_⟩, g⟩
  have e : Txt.join z ys = Str.join z ys := by
    unfold Txt.join
    cases ys with
    | nil => rfl
    | cons y r => exact StrLaws.glued_cons z r y
  rw [e]
end
theorem compSc_of {env : Env} {scope : Scope} (sc : Scope) (hsc : env.scope = sc) (hk : scope.kind = .function)
    (h : (scope.names.all fun y => (if y.2 == .free then (sc.names.lookup y.1 == some .cell || sc.names.lookup y.1 == some .free) else true) && y.2 != .cell && (if y.2 == .local then scope.names.lookup y.1 == some .local else true)) = true) : CompSc env scope := by
  have h' := List.all_eq_true.mp h
  refine ⟨hk, fun y hy e => ?_, fun y hy e => ?_, fun y hy e => ?_⟩
  · have q := h' y hy
    simp only [e, beq_self_eq_true, if_true, Bool.and_eq_true, Bool.or_eq_true, beq_iff_eq] at q
    show env.scope.names.lookup y.1 = _ ∨ env.scope.names.lookup y.1 = _
    rw [hsc]
    exact q.1.1
  · have q := h' y hy
    rw [e] at q
    simp at q
  · have q := h' y hy
    simp only [e, Bool.and_eq_true, beq_iff_eq, beq_self_eq_true, if_true] at q
    exact q.2
theorem list_of_pi {α : Type} {xs : List V} {ys : List α} (f : α → V) (hl : xs.length = ys.length) (h : ∀ (i : Nat) v, xs[i]? = some v → ∃ c, ys[i]? = some c ∧ v = f c) : xs = ys.map f := by
  apply List.ext_getElem?
  intro i
  rw [List.getElem?_map]
  cases e : xs[i]? with
  | none =>
    have : xs.length ≤ i := List.getElem?_eq_none_iff.mp e
    rw [List.getElem?_eq_none (by omega)]
    rfl
  | some v =>
    obtain ⟨c, e1, e2⟩ := h i v e
    rw [e1, e2]
    rfl
section
variable {X : Cx} {H : Hp} {Q : VK}
theorem o_p18 (q : Q (.int 1000000000000000000) H) : OP X (binaryOp .Pow) (.int 10) (.int 18) H Q := o_pow ⟨by decide, by decide, by decide⟩ (show Q (.int (10 ^ (18 : Int).toNat)) H from (show (10 : Int) ^ (18 : Int).toNat = 1000000000000000000 from by decide) ▸ q)
end
end L2

namespace L2
open PySem PySem.Spec PyProof.Rows

/-! ### f-strings -/
def EJ (X : Cx) (vs : List Expr) (out : Str) (σ : St) (H : Hp) (Q : VK) : Prop :=
  ∀ (pins : List (Addr × Obj)) (s : Shared), Inv X pins σ H s → wpAny (model X.prog X.w) X.A (joinParts out (evalEach vs X.env)) (EP X pins σ Q) X.xe s
section
variable {X : Cx} {σ : St} {H : Hp} {Q : VK} {v v₁ v₂ : Expr} {rest : List Expr} {pos : Pos} {out : Str}
end

/-- a text of bounded length, whatever it is -/
def EJL (X : Cx) (vs : List Expr) (n : Nat) (σ : St) (H : Hp) (R : Hp → Prop) : Prop := ∀ out : Str, out.length ≤ n → ∀ Q : VK, (∀ z H', R H' → Q (.str z) H') → EJ X vs out σ H Q
section
variable {X : Cx} {σ : St} {H : Hp} {Q : VK} {R : Hp → Prop} {v v₁ v₂ : Expr} {rest : List Expr} {pos : Pos} {n : Nat}
end

/-! ### raising -/
abbrev bmV : List Value := [.type "ValueError", .type "Exception", .type "BaseException", .type "object"]
/-- the class that a name of the top stands for -/
def clsA (mg : Str → Option Value) (x : Str) : Addr := match mg x with
  | some (.ref C) => C
  | _ => 0
/-- a class of refusals under ValueError, without a making of its own -/
structure XCls (K : PySem.W.Frag) (mg : Str → Option Value) (x : Str) : Prop where
  at_ : mg x = some (.ref (clsA mg x))
  ex : PySem.W.excIn K (clsA mg x) bmV "ValueError.__new__" = true
section
variable {X : Cx} {Kx : St → XK} {D : Ends} {σ : St} {H : Hp} {x : Str} {np cpos pos : Pos} {e : Expr} {es : List Expr}
end

/-! ### try -/
/-- code within a try: what becomes of its exceptions, the pins that every state bears -/
abbrev Cx.tri (X : Cx) (F : Value → Shared → Prop) (pn : List (Addr × Obj)) : Cx := { X with xe := F, pn := pn }
/-- code within an except suite -/
abbrev Cx.inEx (X : Cx) (e : Value) (F : Value → Shared → Prop) (pn : List (Addr × Obj)) : Cx := { X with A := X.A.mark (some e), calm := false, xe := F, pn := pn }
section
variable {X : Cx} {pins pins' : List (Addr × Obj)} {σ : St} {H : Hp} {s : Shared} {F : Value → Shared → Prop} {e : Value}
end
/-- the handling of an exception that was noted -/
def EH (X : Cx) (hs : List ExceptHandler) (D : Ends) (σ : St) (cls : Value) (d : Option Addr × Bool) (H : Hp) : Prop :=
  ∀ (pins : List (Addr × Obj)) (s : Shared) (e T : Addr), Inv X pins σ H s → Flies s.heap e cls d (some T) .none → (∀ b ∈ [e, T], H b = none ∧ Ch X pins b) →
    wpAny (model X.prog X.w) X.A (handleBy (.ref e) X.env hs) (SP X pins D) X.xe s
section
variable {X : Cx} {D : Ends} {σ : St} {H : Hp} {h₀ : ExceptHandler} {hs rest : List ExceptHandler} {body orelse suite : List Stmt} {b₀ : Stmt} {pos np : Pos} {x n : Str} {cls c : Value} {d : Option Addr × Bool}
end
end L2

namespace L2
open PySem PySem.Spec PyProof.Rows

/-! ### plain data: lists and tuples of data, at any depth -/
mutual
inductive RD (K : PySem.W.Frag) (H : Hp) : V → PyData → Prop
  | non : RD K H .non .none
  | bl (b : Bool) : RD K H (.bl b) (.bool b)
  | int (i : Int) : RD K H (.int i) (.int i)
  | str (x : Str) : RD K H (.str x) (.str x)
  | lst {a : Addr} {xs : List V} {ds : List PyData} (h : SqL K H a xs) (r : RDs K H xs ds) : RD K H (.ref a) (.list ds)
  | tup {a : Addr} {xs : List V} {ds : List PyData} (h : SqT K H a xs) (r : RDs K H xs ds) : RD K H (.ref a) (.tuple ds)
inductive RDs (K : PySem.W.Frag) (H : Hp) : List V → List PyData → Prop
  | nil : RDs K H [] []
  | cons {x : V} {d : PyData} {xs : List V} {ds : List PyData} (h : RD K H x d) (r : RDs K H xs ds) : RDs K H (x :: xs) (d :: ds)
end
mutual
theorem RD.reads {X : Cx} {pins : List (Addr × Obj)} {σ : St} {H : Hp} {s : Shared} (I : Inv X pins σ H s) : ∀ {v : V} {d : PyData} {u : Value}, RD X.K H v d → RelV v u → ∃ as, Reads s.heap u d as
  | _, _, _, .non, e => by cases (show _ = Value.none from e); exact ⟨_, .none⟩
  | _, _, _, .bl b, e => by cases (show _ = Value.bool b from e); exact ⟨_, .bool b⟩
  | _, _, _, .int i, e => by obtain ⟨t, rfl⟩ := e; exact ⟨_, .int i t⟩
  | _, _, _, .str x, e => by obtain ⟨t, rfl⟩ := e; exact ⟨_, .str x t⟩
  | _, _, _, .lst h r, e => by
    cases (show _ = Value.ref _ from e)
    obtain ⟨its, rv, pl, _⟩ := I.list h
    obtain ⟨as, q⟩ := RDs.reads I r rv
    obtain ⟨o, ho, hc, n, hd⟩ := pl.isList
    exact ⟨_, .list ho hc hd (by simpa using q)⟩
  | _, _, _, .tup h r, e => by
    cases (show _ = Value.ref _ from e)
    obtain ⟨its, rv, tp, _⟩ := I.tuple h
    obtain ⟨as, q⟩ := RDs.reads I r rv
    obtain ⟨o, ho, hc, n, hd⟩ := tp
    exact ⟨_, .tuple ho hc hd (by simpa using q)⟩
theorem RDs.reads {X : Cx} {pins : List (Addr × Obj)} {σ : St} {H : Hp} {s : Shared} (I : Inv X pins σ H s) : ∀ {vs : List V} {ds : List PyData} {us : List Value}, RDs X.K H vs ds → Vals vs us → ∃ as, ReadsAll s.heap us ds as
  | _, _, _, .nil, .nil => ⟨_, .nil⟩
  | _, _, _, .cons h r, .cons e t => by
    obtain ⟨as, q⟩ := RD.reads I h e
    obtain ⟨bs, q2⟩ := RDs.reads I r t
    exact ⟨_, .cons q q2⟩
end
section
variable {X : Cx} {H : Hp} {Q : VK} {x y : V} {d d' : PyData}
theorem o_neD (hu : X.A.units + 64 < cLine) (hx : RD X.K H x d) (hy : RD X.K H y d') (h1 : d.canLay0 = true) (h2 : d'.canLay0 = true) (hd : d.depth ≤ 60) (q : Q (.bl (!PyData.eqv d d')) H) : OP X (compareOp .NotEq) x y H Q := by
  refine ⟨fun x y H Q => RD X.K H x d ∧ RD X.K H y d' ∧ Q (.bl (!PyData.eqv d d')) H, ?_, hx, hy, q⟩
  intro pins s σ H x y v u Q I rx ry ⟨hx, hy, q⟩
  obtain ⟨as, r1⟩ := RD.reads I hx rx
  obtain ⟨bs, r2⟩ := RD.reads I hy ry
  exact SeqAt.rcNeAt_reads r1 r2 h1 h2 (by have := Nat.min_le_left d.depth d'.depth; omega) X.prog X.w X.xe _ ⟨.bl _, H, I, rfl, q⟩
end
end L2

namespace L2
open PySem PySem.Spec PyProof.Rows
/-! ### parts of a text, by places -/
def stAt (l : List Stmt) (i : Nat) : Stmt := l.getD i (.Pass ⟨0, 0, 0, 0⟩)
def inFor (s : Stmt) : List Stmt := match s with
  | .For _ _ b _ _ => b
  | _ => []
def inIf (s : Stmt) : List Stmt := match s with
  | .If _ b _ _ => b
  | _ => []
def inElse (s : Stmt) : List Stmt := match s with
  | .If _ _ b _ => b
  | _ => []
def inTry (s : Stmt) : List Stmt := match s with
  | .Try b _ _ _ _ => b
  | _ => []
/-! ### is None of a value whose kind is known -/
theorem iteZ {A B : Prop} (h : A) : if decide (V.non = V.non) = true then A else B := by rw [if_pos (by decide)]; exact h
theorem iteZi {A B : Prop} {i : Int} (h : B) : if decide (V.int i = V.non) = true then A else B := by rw [if_neg (by simp)]; exact h
theorem iteZs {A B : Prop} {i : Str} (h : B) : if decide (V.str i = V.non) = true then A else B := by rw [if_neg (by simp)]; exact h
theorem iteY {A B : Prop} (h : B) : if (!decide (V.non = V.non)) = true then A else B := by rw [if_neg (by decide)]; exact h
/-- a text some times -/
def repS (x : Str) (n : Int) : Str := ⟨(List.replicate n.toNat x.cps).foldl (· ++ ·) #[]⟩
/-! ### isinstance -/
theorem is_int_int {X : Cx} {H : Hp} {Q : VK} {i : Int} (q : Q (.bl true) H) : CL X (.builtin "isinstance") [V.int i, .ty "int"] H Q := c_isinst (TyOf.int _) (k := true) (by rfl) q
theorem is_int_bool {X : Cx} {H : Hp} {Q : VK} {i : Int} (q : Q (.bl false) H) : CL X (.builtin "isinstance") [V.int i, .ty "bool"] H Q := c_isinst (TyOf.int _) (k := false) (by rfl) q
theorem is_str_bool {X : Cx} {H : Hp} {Q : VK} {i : Str} (q : Q (.bl false) H) : CL X (.builtin "isinstance") [V.str i, .ty "bool"] H Q := c_isinst (TyOf.str _) (k := false) (by rfl) q
theorem is_NoneType_bool {X : Cx} {H : Hp} {Q : VK}  (q : Q (.bl false) H) : CL X (.builtin "isinstance") [V.non, .ty "bool"] H Q := c_isinst (TyOf.non) (k := false) (by rfl) q
theorem is_list_list {X : Cx} {H : Hp} {Q : VK} {a : Addr} {xs : List V} (e : H a = some (.lst xs)) (q : Q (.bl true) H) : CL X (.builtin "isinstance") [V.ref a, .ty "list"] H Q := c_isinst (TyOf.lst e) (k := true) (by rfl) q
theorem is_tuple_tuple {X : Cx} {H : Hp} {Q : VK} {a : Addr} {xs : List V} (e : H a = some (.tup xs)) (q : Q (.bl true) H) : CL X (.builtin "isinstance") [V.ref a, .ty "tuple"] H Q := c_isinst (TyOf.tup e) (k := true) (by rfl) q
/-! ### builtins by their names -/
section
variable {X : Cx} {e : Expr} {es : List Expr} {σ : St} {H : Hp} {Q : VK} {pos p : Pos}
theorem cb_len (hg : Gl X "len") (hm : X.mg "len" = none) (he : starEach (e :: es) X.env = (false, eval e X.env) :: starEach es X.env) (hpl : (backTo pos (starEach es X.env)).any (·.1) = false) (h : EA X (e :: es) σ H fun vs H1 => CL X (.builtin "len") vs H1 Q) : EV X (.Call (.Name "len" p) (e :: es) [] pos) σ H Q := ev_callB hg hm PySem.boot_len (by decide) (by decide) he hpl h
theorem cb_isinstance (hg : Gl X "isinstance") (hm : X.mg "isinstance" = none) (he : starEach (e :: es) X.env = (false, eval e X.env) :: starEach es X.env) (hpl : (backTo pos (starEach es X.env)).any (·.1) = false) (h : EA X (e :: es) σ H fun vs H1 => CL X (.builtin "isinstance") vs H1 Q) : EV X (.Call (.Name "isinstance" p) (e :: es) [] pos) σ H Q := ev_callB hg hm PyProof.Rows.boot_isinstance (by decide) (by decide) he hpl h
theorem cb_min (hg : Gl X "min") (hm : X.mg "min" = none) (he : starEach (e :: es) X.env = (false, eval e X.env) :: starEach es X.env) (hpl : (backTo pos (starEach es X.env)).any (·.1) = false) (h : EA X (e :: es) σ H fun vs H1 => CL X (.builtin "min") vs H1 Q) : EV X (.Call (.Name "min" p) (e :: es) [] pos) σ H Q := ev_callB hg hm PyProof.Rows.boot_min (by decide) (by decide) he hpl h
theorem ct_list (hg : Gl X "list") (hm : X.mg "list" = none) (he : starEach (e :: es) X.env = (false, eval e X.env) :: starEach es X.env) (hpl : (backTo pos (starEach es X.env)).any (·.1) = false) (h : EA X (e :: es) σ H fun vs H1 => CL X (.type "list") vs H1 Q) : EV X (.Call (.Name "list" p) (e :: es) [] pos) σ H Q := ev_callT hg hm PyProof.Rows.boot_list (by decide) (by decide) he hpl h
theorem ty_list (hg : Gl X "list") (hm : X.mg "list" = none) (q : Q (.ty "list") H) : EV X (.Name "list" pos) σ H Q := ev_ty hg hm PyProof.Rows.boot_list q (by decide) (by decide)
theorem ty_tuple (hg : Gl X "tuple") (hm : X.mg "tuple" = none) (q : Q (.ty "tuple") H) : EV X (.Name "tuple" pos) σ H Q := ev_ty hg hm PyProof.Rows.boot_tuple q (by decide) (by decide)
theorem ty_int (hg : Gl X "int") (hm : X.mg "int" = none) (q : Q (.ty "int") H) : EV X (.Name "int" pos) σ H Q := ev_ty hg hm PyProof.Rows.boot_int q (by decide) (by decide)
theorem ty_bool (hg : Gl X "bool") (hm : X.mg "bool" = none) (q : Q (.ty "bool") H) : EV X (.Name "bool" pos) σ H Q := ev_ty hg hm PyProof.Rows.boot_bool q (by decide) (by decide)
end
end L2

namespace L2
open PySem PySem.Spec PyProof.Rows

/-! ### iterators that tell tuples: enumerate, zip -/
section
variable {X : Cx} {pins : List (Addr × Obj)} {σ : St} {H : Hp} {s : Shared}
/-- some records have turned, and a new tuple is there -/
theorem Inv.turnNew {ch : List Addr} {T : Addr} {xs : List V} {us : List Value} {h' : Heap} {tk : Nat} (I : Inv X pins σ H s) (hf : ∀ b ∈ ch, FpOk X pins H b) (hT : s.heap.objs.size ≤ T)
    (k : ∀ b o, b ∉ ch → s.heap.get? b = some o → h'.get? b = some o) (hz : xs.length ≤ sizeLine) (rv : Vals xs us) (tp : IsTup h' T us.toArray) : Inv X pins σ (upd H T (.tup xs)) { s with heap := h', toks := tk } := by
  have nT := I.hok.fresh hT
  have neT : ∀ b o, s.heap.get? b = some o → b ≠ T := fun b o e z => Nat.lt_irrefl _ (Nat.lt_of_lt_of_le (Heap.lt_size e) (z ▸ hT))
  have nch : ∀ b u, H b = some u → b ∉ ch := fun b u e z => by rw [(hf b z).1] at e; cases e
  refine I.call (g' := s.gens) (d' := s.drawn) (t' := tk) (ch := ch) (h' := h') ⟨fun b o e _ _ hx => k b o hx e, fun b o e _ _ hx => ⟨o.slots, k b o hx e⟩, fun b o e n _ => ?_, fun b o e hx => ⟨o, k b o hx e⟩, fun b ys e => ?_, fun b o u e => ?_, fun b ps e => ⟨#[], ?_⟩⟩ ?_ I.bare
    fun b hb => ⟨(hf b hb).2.2.2.1, (hf b hb).2.1, (hf b hb).2.2.2.2.1, (hf b hb).2.2.2.2.2⟩
  · rw [upd_ne (neT b o e)]; exact n
  · rw [upd_ne (ne_of_none e nT)]; exact e
  · rw [upd_ne (ne_of_none e nT)]; exact e
  · rw [upd_ne (ne_of_none e nT), e]; simp
  · intro b u e
    by_cases hb : b = T
    · subst hb
      rw [upd_same] at e
      cases e
      exact ⟨hz, us, rv, tp⟩
    · rw [upd_ne hb] at e
      refine (I.hok b u e).stay (fun c v hc q => k c v ?_ q) (fun c q => by rw [upd_ne (ne_of_none q nT)]; exact q) (fun c ys q => by rw [upd_ne (ne_of_none q nT)]; exact q) fun c ob v q => by rw [upd_ne (ne_of_none q nT)]; exact q
      rcases hc with z | z
      · subst z; exact nch c u e
      · exact nch c _ z
end
/-- (0, x), (1, y), .. of the list at l -/
def Ite (K : PySem.W.Frag) (l : Addr) : It :=
  ⟨fun i H => ∃ xs x, SqL K H l xs ∧ xs[i]? = some x, fun i H v H' => ∃ T x, v = .ref T ∧ H T = none ∧ H' = upd H T (.tup [.int i, x]) ∧ ∀ xs, SqL K H l xs → xs[i]? = some x, fun i H => ∃ xs, SqL K H l xs ∧ xs.length ≤ i⟩
theorem turn_enum {P : Program} {w : World} {K : PySem.W.Frag} {elts : List Expr} {k : Nat} {pos : Pos} (l e it : Addr) (hei : e ≠ it) (hle : l ≠ e) (hli : l ≠ it) :
    Turn P w K (.Tuple elts k pos) (Ite K l) [e, it] e (fun i h => (∃ old, IsEnum h e it i old) ∧ h.IsListIter it l i) where
  mem := by simp
  obj := fun i h st b hb => by
    obtain ⟨⟨old, he⟩, o, ho, _, hd⟩ := st
    rcases List.mem_cons.mp hb with z | z
    · subst z; exact ⟨_, he, fun v z => by cases z⟩
    · have z' : b = it := by simpa using z
      subst z'
      exact ⟨o, ho, fun v z => by rw [hd] at z; cases z⟩
  keep := fun i h h' st kk => by
    obtain ⟨⟨old, he⟩, o, ho, r⟩ := st
    exact ⟨⟨old, kk e (by simp) _ he⟩, o, kk it (by simp) _ ho, r⟩
  item := by
    intro X hP hw hK hc i pins s σ H E I hf st hg
    subst hP hw hK
    obtain ⟨⟨old, he⟩, hit⟩ := st
    obtain ⟨xs, x, hS, hx⟩ := hg
    obtain ⟨its, rv, pl, hz⟩ := I.list hS
    have W := WalksT.enumerate (prog := X.prog) (w := X.w) (A := X.A) (I.ok.hd hc) e it l hei hle hli its.toArray
    have hi : i < its.toArray.size := by
      rw [List.size_toArray, ← rv.length]
      exact (List.getElem?_eq_some_iff.mp hx).1
    obtain ⟨u, hu, ru⟩ := rv.get hx
    refine W.item i s _ _ hi ⟨⟨old, he⟩, hit, pl.isList⟩ fun T vals h1 tk hp hT tup mid keep => ⟨.ref T, rfl, ?_⟩
    obtain ⟨t, y, ey, rfl⟩ := hp
    have euy : y = u := by
      have : its[i]? = some y := by simpa using ey
      rw [hu] at this
      exact (Option.some.inj this).symm
    subst euy
    refine W.go elts k pos i T { s with heap := h1, toks := tk } _ _ mid fun h2 st2 keep2 => ?_
    obtain ⟨⟨old2, he2⟩, hit2, _⟩ := st2
    have tup2 : IsTup h2 T [Value.int i t, y].toArray := by
      obtain ⟨o, ho, r⟩ := tup
      exact ⟨o, keep2 T o (W.apart i T h1 mid) ho, r⟩
    refine ⟨.ref T, upd H T (.tup [.int i, x]), I.turnNew (ch := [e, it]) (tk := tk) hf hT (fun b o hb q => keep2 b o hb (keep b o hb q)) (by show 2 ≤ sizeLine; rw [sizeLine_eq]; decide) (.cons ⟨t, rfl⟩ (.cons ru .nil)) tup2, rfl, ?_, ?_, fun b hb => ?_⟩
    · refine ⟨T, x, rfl, I.hok.fresh hT, rfl, fun ys hy => ?_⟩
      rw [← I.list_inj hS hy]
      exact hx
    · exact ⟨⟨old2, by simpa using he2⟩, hit2⟩
    · have : b ≠ T := fun z => by
        obtain ⟨o, ho, _⟩ : ∃ o, s.heap.get? b = some o ∧ True := by
          rcases List.mem_cons.mp hb with z | z
          · subst z; exact ⟨_, he, trivial⟩
          · have z' : b = it := by simpa using z
            subst z'
            obtain ⟨o, ho, _⟩ := hit
            exact ⟨o, ho, trivial⟩
        exact Nat.lt_irrefl _ (Nat.lt_of_lt_of_le (Heap.lt_size ho) (z ▸ hT))
      rw [upd_ne this]
      exact (hf b hb).1
  done := by
    intro X hP hw hK hc i pins s σ H E I hf st hg
    subst hP hw hK
    obtain ⟨⟨old, he⟩, hit⟩ := st
    obtain ⟨xs, hS, hx⟩ := hg
    obtain ⟨its, rv, pl, hz⟩ := I.list hS
    have hn : its.toArray[i]? = none := Array.getElem?_eq_none (by rw [List.size_toArray, ← rv.length]; exact hx)
    refine wpAny_pyNext_enum_end (I.ok.hd hc) he hit pl.isList hn fun h' hk => ⟨rfl, ?_⟩
    obtain ⟨f0, f1, f2, f3, f4, f5⟩ := hf it (by simp)
    exact I.turned (t' := s.toks) (it := it) (fun b o hb q => hk b o hb q) f0 f1 f3 f4 f5
  self := fun A i s Q E st h => by
    obtain ⟨⟨old, he⟩, _⟩ := st
    exact wpAny_pyIter_enum he h
section
variable {X : Cx} {σ : St} {H : Hp} {a b : Expr} {elts : List Expr} {k : Nat} {tp p pos : Pos} {R : It → Hp → Prop}
theorem ei_enum (hg : Gl X "enumerate") (hm : X.mg "enumerate" = none) (hs : starEach [a] X.env = [(false, eval a X.env)])
    (h : EV X a σ H fun v H1 => ∃ l xs, v = .ref l ∧ H1 l = some (.lst xs) ∧ R (Ite X.K l) H1) : EI X (.Tuple elts k tp) (.Call (.Name "enumerate" p) [a] [] pos) σ H R := by
  intro pins s I
  refine Call_ (ld_blt I hg hm boot_enumerate (PyProof.Rows.callWith_type1 (thn (ea_cons (es := []) (QA := fun vs H1 => ∃ l xs, vs = [.ref l] ∧ H1 l = some (.lst xs) ∧ R (Ite X.K l) H1) hs (ev_mono h fun v H1 ⟨l, xs, e, q1, q2⟩ => ea_nil ⟨l, xs, by rw [e], q1, q2⟩) pos pins s I) fun us s1 ⟨vs, H1, I1, r1, l, xs, e, hl, q⟩ => ?_) hs rfl))
  subst e
  obtain ⟨u, rfl, ru⟩ := vals1 r1
  cases (show u = Value.ref l from ru)
  obtain ⟨hz, its, n, rv, ho⟩ := I1.hok l _ hl
  refine call_enumerate_1 ho fun h' he hit hsz hk => ?_
  refine wpAny_pyIter_enum he ?_
  have hlt : l < s1.heap.objs.size := Heap.lt_size ho
  refine ⟨s1.heap.objs.size + 1, [s1.heap.objs.size + 1, s1.heap.objs.size], _, _, H1, rfl, I1.kept (t' := s1.toks) hk, turn_enum l _ _ (Nat.succ_ne_self _) (Nat.ne_of_lt (Nat.lt_succ_of_lt hlt)) (Nat.ne_of_lt hlt), ⟨⟨_, he⟩, hit⟩, fun b hb => ?_, q⟩
  have hb' : b = s1.heap.objs.size + 1 ∨ b = s1.heap.objs.size := by simpa using hb
  rcases hb' with z | z <;> subst z
  · exact I1.fpOk (Nat.le_succ _) (I1.hok.fresh (Nat.le_succ _))
  · exact I1.fpOk (Nat.le_refl _) (I1.hok.fresh (Nat.le_refl _))
end
end L2

namespace L2
open PySem PySem.Spec PyProof.Rows

section
variable {X : Cx} {pins : List (Addr × Obj)} {σ : St} {H : Hp} {s : Shared}
end
/-- (x, y) of the lists at l and m -/
def Itz (K : PySem.W.Frag) (l m : Addr) : It :=
  ⟨fun i H => ∃ xs ys x y, SqL K H l xs ∧ SqL K H m ys ∧ xs[i]? = some x ∧ ys[i]? = some y,
   fun i H v H' => ∃ T x y, v = .ref T ∧ H T = none ∧ H' = upd H T (.tup [x, y]) ∧ (∀ xs, SqL K H l xs → xs[i]? = some x) ∧ ∀ ys, SqL K H m ys → ys[i]? = some y,
   fun i H => ∃ xs ys, SqL K H l xs ∧ SqL K H m ys ∧ min xs.length ys.length ≤ i⟩
section
variable {X : Cx} {σ : St} {H : Hp} {a b : Expr} {elts : List Expr} {k : Nat} {tp p pos : Pos} {R : It → Hp → Prop}
end
end L2

namespace L2
open PySem PySem.Spec PyProof.Rows
section
variable {X : Cx} {a e : Expr} {σ : St} {H : Hp} {Q : VK} {D : Ends} {pos p p' : Pos}
/-- a comprehension, by what holds of each element and the heap -/
theorem comp_any {Y : Cx} {tg elt : Expr} {J : It} {E : Addr} {τ0 : St} {Q : Hp → Prop}
    (n : Nat) (hn : n ≤ sizeLine) (Tp : St → Prop) (hT : Tp τ0) (Pi : Nat → V → Hp → Prop) (hE : H E = none)
    (mono : ∀ i v H1 H2 ys, H1 E = some (.lst ys) → (∀ b o, b ≠ E → H1 b = some o → H2 b = some o) → Pi i v H1 → Pi i v H2)
    (go : ∀ i H1, Same H H1 → i < n → J.go i H1) (stop : ∀ H1, Same H H1 → J.stop n H1)
    (step : ∀ i τ x H1 H2, i < n → Tp τ → Same H H1 → (∃ ys, H1 E = some (.lst ys)) → J.yld i H1 x H2 → EG Y tg x τ H2 fun τ2 H3 => EV Y elt τ2 H3 fun v H4 => Tp τ2 ∧ Pi i v H4 ∧ Same H1 H4)
    (fin : ∀ H1 xs, xs.length = n → (∀ i v, xs[i]? = some v → Pi i v H1) → H1 E = some (.lst xs) → Same H H1 → Q H1) : CompT X Y tg elt [] J E τ0 H Q := by
  refine ⟨fun i m τ H1 => m = n - i ∧ i ≤ n ∧ Same H H1 ∧ Tp τ ∧ ∃ xs, H1 E = some (.lst xs) ∧ xs.length = i ∧ ∀ k v, xs[k]? = some v → Pi k v H1, ⟨n, by simp, Nat.zero_le _, Same.upd hE, hT, [], upd_same, rfl, fun k v e => by simp at e⟩, ?_⟩
  rintro i m τ H1 ⟨rfl, hi, s1, hτ, xs, eE, lx, px⟩
  by_cases hlt : i < n
  · refine .inr ⟨go i H1 s1 hlt, fun τ' H' => Same H H' ∧ Tp τ' ∧ ∃ xs, H' E = some (.lst xs) ∧ xs.length = i + 1 ∧ ∀ k v, xs[k]? = some v → Pi k v H', fun τ' H' ⟨a, b, c⟩ => ⟨n - (i + 1), by omega, rfl, hlt, a, b, c⟩, fun x H2 y => ?_⟩
    intro pins s u I r
    refine thn (step i τ x H1 H2 hlt hτ s1 ⟨xs, eE⟩ y pins s u I r) fun _ s' ⟨τ2, H3, I3, q3⟩ => ⟨τ2, H3, I3, eifs_nil ?_⟩
    rw [if_pos rfl]
    refine ev_mono q3 fun v H4 ⟨t2, pv, s2⟩ => ⟨xs, s2 _ _ eE, by omega, ?_⟩
    have mm : ∀ k w', Pi k w' H4 → Pi k w' (upd H4 E (.lst (xs ++ [v]))) := fun k w' q => mono k w' H4 _ xs (s2 _ _ eE) (fun b o hb e => by rw [upd_ne hb]; exact e) q
    refine ⟨fun b o e => ?_, t2, xs ++ [v], upd_same, by simp [lx], fun k u e => ?_⟩
    · rw [upd_ne (ne_of_none e hE)]
      exact s2 _ _ (s1 _ _ e)
    · by_cases hk : k < xs.length
      · rw [List.getElem?_append_left hk] at e
        refine mono k u H1 _ xs eE (fun b o hb e => ?_) (px k u e)
        rw [upd_ne hb]
        exact s2 _ _ e
      · have hk2 : k = i := by
          have := (List.getElem?_eq_some_iff.mp e).1
          rw [List.length_append, List.length_singleton] at this
          omega
        subst hk2
        rw [← lx, List.getElem?_concat_length] at e
        cases e
        exact mm _ _ pv
  · have e : i = n := by omega
    subst e
    exact .inl ⟨stop H1 s1, fin H1 xs lx px eE s1⟩
variable {tg elt iter : Expr} {scope : Scope} {σ' : St}
/-- what is wanted of a comprehension over n items; G: the items -/
def CompW (X : Cx) (N' : List Str) (scope : Scope) (tg elt : Expr) (σ' : St) (H1 : Hp) (Q : VK) (n : Nat) (G : Nat → Hp → V → Hp → Prop) : Prop :=
  ∃ (Tp : St → Prop) (Pi : Addr → Nat → V → Hp → Prop), Tp σ' ∧
    (∀ E i v H2 H3 ys, H2 E = some (.lst ys) → (∀ b o, b ≠ E → H2 b = some o → H3 b = some o) → Pi E i v H2 → Pi E i v H3) ∧
    (∀ (fp : List Addr) (E C : Addr) (s3 : Shared) (H0 : Hp) (i : Nat) (τ : St) (x : V) (H2 H3 : Hp), H1 E = none → i < n → Tp τ → Same H1 H2 → (∃ ys, H2 E = some (.lst ys)) → G i H2 x H3 →
      EG (blk X N' scope (closL scope X.env) C s3 H0 fp) tg x τ H3 fun τ2 H4 => EV (blk X N' scope (closL scope X.env) C s3 H0 fp) elt τ2 H4 fun v H5 => Tp τ2 ∧ Pi E i v H5 ∧ Same H2 H5) ∧
    ∀ (E : Addr) (H2 : Hp) (xs : List V), H1 E = none → xs.length = n → (∀ i v, xs[i]? = some v → Pi E i v H2) → H2 E = some (.lst xs) → Same H1 H2 → Q (.ref E) H2
theorem compW {N' : List Str} {J : It} {n : Nat} {G : Nat → Hp → V → Hp → Prop} (hn : n ≤ sizeLine) (go : ∀ i H2, Same H H2 → i < n → J.go i H2) (stop : ∀ H2, Same H H2 → J.stop n H2)
    (yl : ∀ i H2 x H3, i < n → Same H H2 → J.yld i H2 x H3 → G i H2 x H3) (h : CompW X N' scope tg elt σ' H Q n G) :
    ∀ (fp : List Addr) (D C : Addr) (s3 : Shared), H D = none → CompT X (blk X N' scope (closL scope X.env) C s3 (upd H D (.lst [])) fp) tg elt [] J D σ' H (fun H' => Q (.ref D) H') := by
  intro fp E C s3 hE
  obtain ⟨Tp, Pi, t0, mono, step, fin⟩ := h
  exact comp_any n hn Tp t0 (Pi E) hE (fun i v H1 H2 ys => mono E i v H1 H2 ys) go stop (fun i τ x H1 H2 hi ht hs hy y => step fp E C s3 _ i τ x H1 H2 hE hi ht hs hy (yl i H1 x H2 hi hs y)) fun H1 xs l px eE s => fin E H1 xs hE l px eE s
/-- [elt for tg in a list] -/
theorem ev_compL (N' : List Str) (hσ : capSt N' X.N σ scope = σ') (hc : X.calm = true) (S : CompSc X.env scope) (hs : ∀ x, foldedSetIterable e X.env x = pure x)
    (h : EV X e σ H fun v H1 => ∃ l xs, v = .ref l ∧ SqL X.K H1 l xs ∧ xs.length ≤ sizeLine ∧ CompW X N' scope tg elt σ' H1 Q xs.length fun i H2 x H3 => xs[i]? = some x ∧ H2 = H3) :
    EV X (.ListComp elt [⟨tg, e, [], 0⟩] scope pos) σ H Q := by
  refine ev_comp (N' := N') hc S hs (ei_list (ev_mono h fun v H1 q => ?_))
  obtain ⟨l, xs, rfl, hl, hz, hw⟩ := q
  refine ⟨l, rfl, ⟨xs, hl⟩, ?_⟩
  rw [hσ]
  refine compW hz (fun i H2 s hi => ⟨xs, xs[i], Same.seq s hl, List.getElem?_eq_getElem hi⟩) (fun H2 s => ⟨xs, Same.seq s hl, Nat.le_refl _⟩) (fun i H2 x H3 hi s y => ⟨y.2 xs (Same.seq s hl), y.1.symm⟩) hw
/-- [elt for x in range(a)], the heap may grow -/
theorem ev_compRh (N' : List Str) (hσ : capSt N' X.N σ scope = σ') (hc : X.calm = true) (S : CompSc X.env scope) 
    (hg : Gl X "range") (hm : X.mg "range" = none) (hs : starEach [a] X.env = [(false, eval a X.env)])
    (h : EV X a σ H fun v H1 => ∃ n : Int, v = .int n ∧ -(2 ^ 62) ≤ n ∧ n.toNat ≤ sizeLine ∧ CompW X N' scope tg elt σ' H1 Q n.toNat fun i H2 x H3 => x = .int i ∧ H2 = H3) :
    EV X (.ListComp elt [⟨tg, .Call (.Name "range" p) [a] [] p', [], 0⟩] scope pos) σ H Q := by
  refine ev_comp (N' := N') hc S (by intro _; rfl) (ei_range1 hg hm hs (ea_cons hs (ev_mono h fun v H1 q => ?_)))
  obtain ⟨n, rfl, h1, h2, hw⟩ := q
  have hsz : (sizeLine : Nat) < 2 ^ 62 := by rw [sizeLine_eq]; decide
  refine ea_nil ⟨n, rfl, h1, by omega, ?_⟩
  rw [hσ]
  exact compW h2 (fun i H2 s hi => hi) (fun H2 s => Nat.le_refl _) (fun i H2 x H3 hi s y => ⟨by rw [y.2, Int.zero_add], y.1.symm⟩) hw
/-- for tg in enumerate(a list that stays) -/
theorem sx_forE {elts : List Expr} {k : Nat} {tp : Pos} {body : List Stmt} (hp : PassesOwn (model X.prog X.w) X.A X.env X.xe) (hc : X.calm = true) (hg : Gl X "enumerate") (hm : X.mg "enumerate" = none) (hs : starEach [a] X.env = [(false, eval a X.env)])
    (h : EV X a σ H fun v H1 => ∃ l xs, v = .ref l ∧ H1 l = some (.lst xs) ∧ ∃ Pv : Nat → St → Hp → Prop, Pv 0 σ H1 ∧ (∀ i σ' H', i ≤ xs.length → Pv i σ' H' → SqL X.K H' l xs) ∧
      (∀ i x T σ' H', xs[i]? = some x → Pv i σ' H' → H' T = none → EG X (.Tuple elts k tp) (.ref T) σ' (upd H' T (.tup [.int i, x])) fun σ2 H2 => SXs X body { D with nx := Pv (i + 1), ct := Pv (i + 1), bk := D.nx } σ2 H2) ∧ ∀ σ' H', Pv xs.length σ' H' → D.nx σ' H') :
    SX X (.For (.Tuple elts k tp) (.Call (.Name "enumerate" p) [a] [] p') body [] pos) D σ H := by
  refine sx_for hp hc (by intro _; rfl) (ei_enum hg hm hs (ev_mono h fun v H1 q => ?_))
  obtain ⟨l, xs, rfl, hq, Pv, h0, hl, hst, hd⟩ := q
  refine ⟨l, xs, rfl, hq, fun i m σ H => m = xs.length - i ∧ i ≤ xs.length ∧ Pv i σ H, ⟨xs.length, by simp, Nat.zero_le _, h0⟩, ?_⟩
  rintro i m σ' H' ⟨rfl, hi, p⟩
  have hS := hl i σ' H' hi p
  by_cases hlt : i < xs.length
  · refine .inr ⟨⟨xs, xs[i], hS, List.getElem?_eq_getElem hlt⟩, Pv (i + 1), fun σ2 H2 p2 => ⟨xs.length - (i + 1), by omega, rfl, hlt, p2⟩, fun x H2 y => ?_⟩
    obtain ⟨T, u, e1, e2, e3, e4⟩ := y
    subst e1 e3
    exact hst i u T σ' H' (e4 xs hS) p e2
  · have e : i = xs.length := by omega
    subst e
    exact .inl ⟨⟨xs, hS, Nat.le_refl _⟩, hd σ' H' p⟩
end
end L2

namespace L2
open PySem PySem.Spec PyProof.Rows
/-! ### set(list) of keys of any kind, and its size -/
section
variable {Kt : Type} [DecidableEq Kt] [BEq Kt] [LawfulBEq Kt]
/-- those met first, in order -/
def seenL (ks : List Kt) : List Kt := ks.foldl (fun a k => if k ∈ a then a else a ++ [k]) []
end
section
variable {prog : Program} {w : World} {A : Around} {E : Value → Shared → Prop} {s : Shared} {zs : List Str} {us : Array Value}
def strAt (us : Array Value) (zs : List Str) : Prop := ∀ (i : Nat) (v : Value), us[i]? = some v → ∃ t z, v = .str z t ∧ zs[i]? = some z
/-- what stands in the set after i of the texts -/
def TxS (prog : Program) (w : World) (h : Heap) (S : Addr) (zs : List Str) : Prop := h.SetOf (strKind prog w) S (fun k => decide (k ∈ seenL zs)) (seenL zs).length
abbrev newSet (h : Heap) (led : Bool) : Heap := h.push { cls := .type "set", dict := none, data := .set #[] 0 (.fresh 0 0 led) }
end
end L2

namespace L2
open PySem PySem.Spec PyProof.Rows
section
variable {X : Cx} {H : Hp} {Q : VK} {v : V}
/-- a set of texts at S -/
def txSet (X : Cx) (S : Addr) (zs : List Str) : HO := .ext fun h => TxS X.prog X.w h S zs
theorem o_ninL {x : V} {p : Addr} {xs : List V} (h : SqL X.K H p xs) (f : flatV x = true) (fs : xs.all flatV = true) (q : Q (.bl (!inV x xs)) H) : OP X (compareOp .NotIn) x (.ref p) H Q := op_by op_notIn_seq ⟨p, xs, rfl, .inl h, f, fs, q⟩
end
section
variable {X : Cx} {H : Hp} {D : Ends} {σ σ' : St} {e a elt tg : Expr} {scope : Scope} {pos spos py p p' : Pos} {y : Str} {j : Nat}
/-- y = [elt for tg in a list] -/
theorem sx_compL (N' : List Str) (hσ : capSt N' X.N σ scope = σ') (hsw : swapsWith (.ListComp elt [⟨tg, e, [], 0⟩] scope pos) (some (.Name y py)) spos.line X.env = pure true) (hc : X.calm = true) (S : CompSc X.env scope) (hs : ∀ x, foldedSetIterable e X.env x = pure x)
    (hN : X.N.Nodup) (hi : nameAt X.N y = some j) (hx : X.env.scope.names.lookup y = some .local)
    (h : EV X e σ H fun v H1 => ∃ l xs, v = .ref l ∧ SqL X.K H1 l xs ∧ xs.length ≤ sizeLine ∧ CompW X N' scope tg elt σ' H1 (fun v H' => D.nx (σ.set j (some v)) H') xs.length fun i H2 x H3 => xs[i]? = some x ∧ H2 = H3) :
    SX X (.Assign [.Name y py] (.ListComp elt [⟨tg, e, [], 0⟩] scope pos) spos) D σ H := by
  refine sx_comp (N' := N') hsw hc S hs hN hi hx (ei_list (ev_mono h fun v H1 q => ?_))
  obtain ⟨l, xs, rfl, hl, hz, hw⟩ := q
  refine ⟨l, rfl, ⟨xs, hl⟩, ?_⟩
  rw [hσ]
  refine compW (J := Itl X.K l) hz (fun i H2 s hi => ⟨xs, xs[i], Same.seq s hl, List.getElem?_eq_getElem hi⟩) (fun H2 s => ⟨xs, Same.seq s hl, Nat.le_refl _⟩) (fun i H2 x H3 hi s y => ⟨y.2 xs (Same.seq s hl), y.1.symm⟩) hw
end
end L2

namespace L2
open PySem PySem.Spec PyProof.Rows
/-! ### texts cut at a sign -/
def cutAt (c : Nat) : List Nat → List (List Nat)
  | [] => [[]]
  | x :: r => if x = c then [] :: cutAt c r else match cutAt c r with
    | [] => [[x]]
    | h :: t => (x :: h) :: t
def glueL (c : Nat) : List (List Nat) → List Nat
  | [] => []
  | [p] => p
  | p :: q :: r => p ++ c :: glueL c (q :: r)
def cutT (c : Nat) (x : Str) : List Str := (cutAt c x.cps.toList).map fun l => ⟨l.toArray⟩
section
variable {X : Cx} {H : Hp} {Q : VK} {z y : Str} {v : V}
end
/-! ### a list from its end -/
def Itv (K : PySem.W.Frag) (l : Addr) (n : Nat) : It :=
  ⟨fun i H => i < n ∧ ∃ xs, SqL K H l xs ∧ xs.length = n, fun i H x H' => H' = H ∧ ∀ xs, SqL K H l xs → xs[n - 1 - i]? = some x, fun i _ => i = n⟩
theorem turn_rev {P : Program} {w : World} {K : PySem.W.Frag} {tg : Expr} (l it : Addr) (n : Nat) : Turn P w K tg (Itv K l n) [it] it (fun i h => h.IsRevIter it l ((n : Int) - 1 - (i : Int))) where
  mem := by simp
  obj := fun i h st b hb => by
    have e : b = it := by simpa using hb
    subst e
    obtain ⟨o, e, c, d⟩ := st
    exact ⟨o, e, fun v z => by rw [d] at z; cases z⟩
  keep := fun i h h' st k => st.at fun o e => k it (by simp) o e
  item := by
    intro X hP hw hK hc i pins s σ H E I hf st hg
    subst hP hw hK
    obtain ⟨hi, xs, hq, hx⟩ := hg
    obtain ⟨its, rv, p, hz⟩ := I.list hq
    have hx' : n - 1 - i < xs.length := by omega
    obtain ⟨u, hu, ru⟩ := rv.get (List.getElem?_eq_getElem hx')
    obtain ⟨f0, f1, f2, f3, f4, f5⟩ := hf it (by simp)
    have ei : ((n : Int) - 1 - (i : Int)) = ((n - 1 - i : Nat) : Int) := by omega
    rw [ei] at st
    refine wpAny_pyNext_rev_item st p.isList (x := u) (by simpa using hu) fun h' st' sb => ?_
    have I1 : Inv X pins σ H { s with heap := h' } := I.turned (t' := s.toks) (fun b o hb e => (sb.2 b hb).trans e) f0 f1 f3 f4 f5
    obtain ⟨o, e, c, d⟩ := id st'
    refine ⟨u, rfl, go_of (s := { s with heap := h' }) e c d (by decide) ⟨_, H, I1, ru, ⟨rfl, fun ys hy => ?_⟩, ?_, fun b hb => (hf b hb).1⟩⟩
    · rw [I.list_inj hy hq]
      exact List.getElem?_eq_getElem hx'
    · have e2 : ((n : Int) - 1 - ((i + 1 : Nat) : Int)) = ((n - 1 - i : Nat) : Int) - 1 := by omega
      rw [e2]
      exact st'
  done := by
    intro X hP hw hK hc i pins s σ H E I hf st hg
    subst hP hw hK
    obtain ⟨f0, f1, f2, f3, f4, f5⟩ := hf it (by simp)
    have e : i = n := hg
    have e2 : ((n : Int) - 1 - (i : Int)) = -1 := by omega
    rw [e2] at st
    exact wpAny_pyNext_rev_end (I.ok.hd hc) st fun h' eb => ⟨rfl, I.turned (t' := s.toks) (fun b o hb e => eb b o hb e) f0 f1 f3 f4 f5⟩
  self := fun _ _ _ _ _ st h => wpAny_pyIter_revIter st h
section
variable {X : Cx} {σ : St} {H : Hp} {a : Expr} {tg : Expr} {p pos p' : Pos} {R : It → Hp → Prop} {D : Ends}
theorem ei_rev (hg : Gl X "reversed") (hm : X.mg "reversed" = none) (hs : starEach [a] X.env = [(false, eval a X.env)])
    (h : EV X a σ H fun v H1 => ∃ l xs, v = .ref l ∧ SqL X.K H1 l xs ∧ R (Itv X.K l xs.length) H1) : EI X tg (.Call (.Name "reversed" p) [a] [] pos) σ H R := by
  intro pins s I
  refine Call_ (ld_blt I hg hm boot_reversed (PyProof.Rows.callWith_type1 (thn (ea_cons (es := []) (QA := fun vs H1 => ∃ l xs, vs = [.ref l] ∧ SqL X.K H1 l xs ∧ R (Itv X.K l xs.length) H1) hs (ev_mono h fun v H1 ⟨l, xs, e, q1, q2⟩ => ea_nil ⟨l, xs, by rw [e], q1, q2⟩) pos pins s I) fun us s1 ⟨vs, H1, I1, r1, l, xs, e, hl, q⟩ => ?_) hs rfl))
  subst e
  obtain ⟨u, rfl, ru⟩ := vals1 r1
  cases (show u = Value.ref l from ru)
  obtain ⟨its, rv, pl, hz⟩ := I1.list hl
  have hlen := rv.length
  refine call_reversed_list pl.isList ?_
  have hit : (s1.heap.push (revObj l ((its.toArray.size : Int) - 1))).IsRevIter s1.heap.objs.size l ((its.toArray.size : Int) - 1) := ⟨_, Heap.get?_push_size _ rfl, rfl, rfl⟩
  refine wpAny_pyIter_revIter hit ?_
  refine ⟨s1.heap.objs.size, [s1.heap.objs.size], _, _, H1, rfl, I1.kept (t' := s1.toks) fun b o e => Heap.get?_push_of_some _ e, turn_rev l _ xs.length, ?_, fun b hb => ?_, q⟩
  · have e : ((xs.length : Int) - 1 - ((0 : Nat) : Int)) = (its.toArray.size : Int) - 1 := by simp; omega
    rw [e]
    exact hit
  · have e : b = s1.heap.objs.size := by simpa using hb
    subst e
    exact I1.fpOk (Nat.le_refl _) (I1.hok.fresh (Nat.le_refl _))
/-- for y in reversed(a list that stays) -/
theorem sx_forV {body : List Stmt} (hp : PassesOwn (model X.prog X.w) X.A X.env X.xe) (hc : X.calm = true) (hg : Gl X "reversed") (hm : X.mg "reversed" = none) (hs : starEach [a] X.env = [(false, eval a X.env)])
    (h : EV X a σ H fun v H1 => ∃ q xs, v = .ref q ∧ SqL X.K H1 q xs ∧ ∃ Pv : Nat → St → Hp → Prop, Pv 0 σ H1 ∧ (∀ i σ' H', i ≤ xs.length → Pv i σ' H' → SqL X.K H' q xs) ∧
      (∀ i x σ' H', i < xs.length → xs[xs.length - 1 - i]? = some x → Pv i σ' H' → EG X tg x σ' H' fun σ2 H2 => SXs X body { D with nx := Pv (i + 1), ct := Pv (i + 1), bk := D.nx } σ2 H2) ∧ ∀ σ' H', Pv xs.length σ' H' → D.nx σ' H') :
    SX X (.For tg (.Call (.Name "reversed" p) [a] [] p') body [] pos) D σ H := by
  refine sx_for hp hc (by intro _; rfl) (ei_rev hg hm hs (ev_mono h fun v H1 q => ?_))
  obtain ⟨q, xs, rfl, hq, Pv, h0, hl, hst, hd⟩ := q
  refine ⟨q, xs, rfl, hq, fun i m σ H => m = xs.length - i ∧ i ≤ xs.length ∧ Pv i σ H, ⟨xs.length, by simp, Nat.zero_le _, h0⟩, ?_⟩
  rintro i m σ' H' ⟨rfl, hi, p⟩
  by_cases hlt : i < xs.length
  · refine .inr ⟨⟨hlt, xs, hl i σ' H' hi p, rfl⟩, Pv (i + 1), fun σ2 H2 p2 => ⟨xs.length - (i + 1), by omega, rfl, hlt, p2⟩, fun x H2 y => ?_⟩
    obtain ⟨rfl, e⟩ := y
    exact hst i x σ' _ hlt (e xs (hl i σ' _ hi p)) p
  · have e : i = xs.length := by omega
    refine .inl ⟨e, ?_⟩
    subst e
    exact hd σ' H' p
end
end L2

/-! comprehensions whose elements may raise -/
namespace L2
open PySem PySem.Spec PyProof.Rows
/-- what is due behind a comprehension's block, by its own env -/
def compDue (M : Model) (A : Around) (E : Value → Shared → Prop) (use : Option (Value → Sem Unit)) (Q : Value → Shared → Prop) (acc : Value) (C : Env) (r : Result) (s' : Shared) : Prop :=
  match r, use with
  | .ok _, none => ∃ m, s'.heap.Ns C.locals m ∧ ∀ h', Heap.SameBut C.locals s'.heap h' → Q acc { s' with heap := h' }
  | .ok _, some u => wpAny M A (u acc) (fun _ s'' => ∃ m, s''.heap.Ns C.locals m ∧ ∀ h', Heap.SameBut C.locals s''.heap h' → Q .none { s'' with heap := h' }) E s'
  | .error x, _ => ∃ m, s'.heap.Ns C.locals m ∧ ∀ h', Heap.SameBut C.locals s'.heap h' → wpAny M A (passOn "comprehension.variables-let-go" x C : Sem Value) (fun _ _ => False) E { s' with heap := h' }
/-- the block, F: what becomes of what is raised in it -/
abbrev blkF (X : Cx) (N' : List Str) (scope : Scope) (cl : List (Str × Addr)) (C : Addr) (s : Shared) (H : Hp) (fp : List Addr) (F : Value → Shared → Prop) : Cx := (blk X N' scope cl C s H fp).tri F []
section
variable {X : Cx} {pins : List (Addr × Obj)} {σ : St} {H : Hp} {s : Shared} {scope : Scope} {N' : List Str} {fp : List Addr} {elt iter tg : Expr} {ifs : List Expr} {pos : Pos} {Kx : St → XK}
end
section
variable {X : Cx} {a e : Expr} {σ σ' : St} {H : Hp} {Q : VK} {D : Ends} {pos spos py p p' : Pos} {tg elt iter : Expr} {scope : Scope} {Kx : St → XK} {y : Str} {j : Nat}
/-- what is wanted of a comprehension over n items, G: the items; its elements may raise as Kx allows -/
def CompX (X : Cx) (N' : List Str) (scope : Scope) (tg elt : Expr) (σ σ' : St) (Kx : St → XK) (H1 : Hp) (Q : VK) (n : Nat) (G : Nat → Hp → V → Hp → Prop) : Prop :=
  ∃ (Tp : St → Prop) (Pi : Addr → Nat → V → Hp → Prop), Tp σ' ∧
    (∀ E i v H2 H3 ys, H2 E = some (.lst ys) → (∀ b o, b ≠ E → H2 b = some o → H3 b = some o) → Pi E i v H2 → Pi E i v H3) ∧
    (∀ (fp : List Addr) (E C : Addr) (s3 : Shared) (H0 : Hp) (F : Value → Shared → Prop) (i : Nat) (τ : St) (x : V) (H2 H3 : Hp), XOk (blkF X N' scope (closL scope X.env) C s3 H0 fp F) (fun _ => Kx σ) → H1 E = none → i < n → Tp τ → Same H1 H2 → (∃ ys, H2 E = some (.lst ys) ∧ ys.length = i ∧ ∀ k v, ys[k]? = some v → Pi E k v H2) → G i H2 x H3 →
      EG (blkF X N' scope (closL scope X.env) C s3 H0 fp F) tg x τ H3 fun τ2 H4 => EV (blkF X N' scope (closL scope X.env) C s3 H0 fp F) elt τ2 H4 fun v H5 => Tp τ2 ∧ Pi E i v H5 ∧ Same H2 H5) ∧
    ∀ (E : Addr) (H2 : Hp) (xs : List V), H1 E = none → xs.length = n → (∀ i v, xs[i]? = some v → Pi E i v H2) → H2 E = some (.lst xs) → Same H1 H2 → Q (.ref E) H2
end
end L2

/-! exceptions with a making of their own: self.f = v, e.f -/
namespace L2
open PySem PySem.Spec PyProof.Rows
/-- a class straight under L, which is straight under ValueError; its instances have dicts -/
def xcIn (K : PySem.W.Frag) (C L : Addr) : Bool := (PySem.W.clsIn K C).any fun cd => cd.hasDict && cd.mro == .ref C :: .ref L :: bmV
section
variable {prog : Program} {w : World} {A : Around} {E : Value → Shared → Prop} {s : Shared} {K : PySem.W.Frag} {x C L : Addr} {ox : Obj} {vs : Array Value} {name : Str} {v : Value}
end
/-- C is a class of exceptions under ValueError whose making is the def at f -/
def iniIn (K : PySem.W.Frag) (C f : Addr) : Bool := match K.lookup C with
  | some ⟨.type "type", _, .cls cd, sl⟩ => (match cd.mro, sl.toList with
    | .ref C' :: bm, [_, _, _, _, some (.builtin n), _] => C' == C && n == "ValueError.__new__" && !cd.hasDel && PySem.W.tailIn K bmV bm && PySem.W.nsOkIn K cd.ns && PySem.W.nsIn K cd.ns "__init__" == some (some (.ref f))
    | _, _ => false)
  | _ => false
section
variable {prog : Program} {w : World} {A : Around} {E : Value → Shared → Prop} {h : Heap} {g : Array GenState} {d : Drawn} {t : Nat} {os : OsState}
variable {nm q : Str} {C N x : Addr} {bs bm : List Value} {hdct : Bool} {sn : List Str} {sub : List Value} {ab : Bool} {col : Option Bool} {dd : Option Addr} {k0 k1 k2 k3 k5 : Option Value} {ox : Obj} {vs : Array Value} {v : Value}
end
section
variable {prog : Program} {w : World} {A : Around} {E : Value → Shared → Prop} {s : Shared} {env : Env}
variable {nm q : Str} {C N : Addr} {bs bm : List Value} {hdct : Bool} {sn : List Str} {sub : List Value} {ab : Bool} {col : Option Bool} {dd : Option Addr} {k0 k1 k2 k3 k5 : Option Value}
end
end L2

namespace L2
open PySem PySem.Spec PyProof.Rows
/-- an exception's object, not yet raised -/
def xo (e C : Addr) (D : Option Addr) : HO := .ext fun h => ∃ t, h.get? e = some { cls := .ref C, dict := D, data := .fields #[.ref t, .none, .none, .none, .bool false, .none] }
/-- H without what is at e -/
def dropH (H : Hp) (e : Addr) : Hp := fun b => if b = e then none else H b
section
variable {X : Cx} {pins : List (Addr × Obj)} {σ : St} {H : Hp} {s : Shared} {e : Addr} {φ : Heap → Prop}
end
/-- what LeafError must be -/
structure XBase (K : PySem.W.Frag) (mg : Str → Option Value) (x : Str) : Prop where
  at_ : mg x = some (.ref (clsA mg x))
  reads : PySem.W.readsIn K (clsA mg x) (.type "type") = true
  ini : PySem.W.findCls K (.ref (clsA mg x)) (.type "type") "__init__" = some (.val (.builtin "ValueError.__init__"))
  ga : PySem.W.specialIn K (.ref (clsA mg x)) "__getattribute__" = some (some (.builtin "type.__getattribute__"))
/-- a class of exceptions under the base Lx whose making is the def st, with the field fld -/
structure XIni (K : PySem.W.Frag) (mg : Str → Option Value) (Lx x qual fld : Str) (st : Stmt) : Prop where
  at_ : mg x = some (.ref (clsA mg x))
  ex : ∃ f fd, Fun K "__init__" qual st f fd ∧ iniIn K (clsA mg x) f = true ∧ PySem.W.isFn K (.ref f) = true
  sa : PySem.W.findIn K (.ref (clsA mg x)) "__setattr__" = some (some (.builtin "object.__setattr__"))
  tk : PySem.W.takerIn K (clsA mg x) fld = some none
  xc : xcIn K (clsA mg x) (clsA mg Lx) = true
/-- the making's promise -/
def spIni (C : Addr) (fld : Str) : Sp := fun vs H Q _ => ∃ e n, vs = [.ref e, .int n] ∧ n.natAbs < 10 ^ 60 ∧ H e = some (xo e C none) ∧
  ∀ D H', D ≠ e → H D = none → (∀ b o, b ≠ e → H b = some o → H' b = some o) → H' e = some (xo e C (some D)) → H' D = some (.xd [(fld, .int n)]) → Q .non H'
section
variable {X : Cx} {σ : St} {H : Hp} {Q : VK} {D : Ends} {Lx x f fld : Str} {np apos pos pos' cpos : Pos} {a o value : Expr} {es : List Expr} {Kx : St → XK}
end
end L2

namespace L2
open PySem PySem.Spec PyProof.Rows
/-- a class of exceptions with a making of its own, as a promise -/
structure XDef (P : Program) (w : World) (K : PySem.W.Frag) (mg : Str → Option Value) (base : Heap) (cc : Bool) (k : Nat) (x fld : Str) : Prop where
  at_ : mg x = some (.ref (clsA mg x))
  ex : ∃ f fd ps oc od osl, FnOk P w K mg base (CX1 P w) cc k f fd ps (spIni (clsA mg x) fld) ∧ Binds K fd ps [] ∧ iniIn K (clsA mg x) f = true ∧ K.lookup f = some ⟨oc, od, .func fd, osl⟩ ∧ oc = .type "function"
section
variable {prog : Program} {w : World} {A : Around} {E : Value → Shared → Prop} {s : Shared} {env : Env}
variable {nm q : Str} {C N : Addr} {bs bm : List Value} {hdct : Bool} {sn : List Str} {sub : List Value} {ab : Bool} {col : Option Bool} {dd : Option Addr} {k0 k1 k2 k3 k5 : Option Value}
end
section
variable {X : Cx} {Kx : St → XK} {D : Ends} {σ : St} {H : Hp} {x fld : Str} {np cpos pos : Pos} {e : Expr} {es : List Expr} {cc cc' : Bool} {k k' : Nat}
end
end L2

/-! an exception at hand: its fields, isinstance of it -/
namespace L2
open PySem PySem.Spec PyProof.Rows
/-- what is looked up at an exception's class -/
structure XAttr (K : PySem.W.Frag) (C : Addr) : Prop where
  hd : PySem.W.hasDictIn K C = true
  ga : PySem.W.findIn K (.ref C) "__getattribute__" = some (some (.builtin "BaseException.__getattribute__"))
  gt : PySem.W.findIn K (.ref C) "__getattr__" = some none
  cl : PySem.W.findIn K (.ref C) "__class__" = some (some (.builtin "object.__class__"))
  cg : PySem.W.specialIn K (.builtin "object.__class__") "__get__" = some (some (.builtin "getset_descriptor.__get__"))
  ct : PySem.W.takesIn K (.builtin "object.__class__") = some true
  mo : PySem.W.mroIn K C (.type "object") = some true
  mb : PySem.W.mroIn K C (.type "BaseException") = some true
section
variable {prog : Program} {w : World} {A : Around} {E : Value → Shared → Prop} {s : Shared} {K : PySem.W.Frag} {x C : Addr} {ox : Obj} {od : Option Obj} {name : Str} {v : Value}
end
/-- an exception's object at a handler -/
def xw (e C : Addr) (D : Option Addr) : HO := .ext fun h => ∃ oe vs, h.get? e = some oe ∧ oe.cls = .ref C ∧ oe.dict = D ∧ oe.data = .fields vs
section
variable {X : Cx} {σ : St} {H : Hp} {Q : VK} {e C : Addr} {D : Option Addr} {k : Bool}
end
end L2

/-! except .. as e -/
namespace L2
open PySem PySem.Spec PyProof.Rows
section
variable {X : Cx} {pins : List (Addr × Obj)} {σ : St} {H : Hp} {s : Shared} {h' : Heap}
end
section
variable {X : Cx} {D : Ends} {σ : St} {H : Hp} {rest : List ExceptHandler} {suite : List Stmt} {b₀ : Stmt} {pos np : Pos} {x n : Str} {c : Value} {C : Addr} {d : Option Addr × Bool} {i : Nat}
/-- behind the suite: the name is gone, the exception let go -/
abbrev asEnds (D : Ends) (i : Nat) (e C : Addr) (dd : Option Addr) : Ends :=
  { nx := fun σ' H' => H' e = some (xw e C dd) ∧ D.nx (σ'.set i none) (dropH H' e), rt := fun v H' => H' e = some (xw e C dd) ∧ D.rt v (dropH H' e),
    bk := fun σ' H' => H' e = some (xw e C dd) ∧ D.bk (σ'.set i none) (dropH H' e), ct := fun σ' H' => H' e = some (xw e C dd) ∧ D.ct (σ'.set i none) (dropH H' e) }
end
end L2

/-! the classes of refusals: which stands under which -/
namespace L2
open PySem PySem.Spec PyProof.Rows
/-- the base of all refusals -/
structure XTop (K : PySem.W.Frag) (mg : Str → Option Value) (x : Str) : Prop extends XBase K mg x where
  ty : PySem.W.typeIn K (.ref (clsA mg x)) = some (.type "type")
  mb : PySem.W.mroIn K (clsA mg x) (.type "BaseException") = some true
/-- a refusal's class straight under the base -/
structure XC (K : PySem.W.Frag) (mg : Str → Option Value) (Lx x : Str) : Prop where
  at_ : mg x = some (.ref (clsA mg x))
  xc : xcIn K (clsA mg x) (clsA mg Lx) = true
  ty : PySem.W.typeIn K (.ref (clsA mg x)) = some (.type "type")
  attr : XAttr K (clsA mg x)
section
variable {K : PySem.W.Frag} {mg : Str → Option Value} {Lx x y : Str}
end
end L2
namespace L2
open PySem PySem.Spec PyProof.Rows
section
variable {K : PySem.W.Frag} {mg : Str → Option Value} {Lx x qual fld : Str} {C L f : Addr} {st : Stmt} {fd : FuncData}
end
end L2
namespace L2
open PySem PySem.Spec PyProof.Rows
end L2

/-! zip of three lists -/
namespace L2
open PySem PySem.Spec PyProof.Rows
abbrev IsTri (h : Heap) (T : Addr) (a b c : Value) : Prop := h.get? T = some { cls := .type "tuple", data := .seq #[a, b, c] }
section
variable {prog : Program} {w : World} {A : Around} {E : Value → Shared → Prop} {s : Shared}
end
abbrev z3a (h : Heap) (l1 : Addr) : Heap := h.push { cls := .type "list_iterator", data := .fields #[.ref l1, .int 0 0] }
abbrev z3b (h : Heap) (l1 l2 : Addr) : Heap := (z3a h l1).push { cls := .type "list_iterator", data := .fields #[.ref l2, .int 0 0] }
abbrev z3c (h : Heap) (l1 l2 l3 : Addr) : Heap := (z3b h l1 l2).push { cls := .type "list_iterator", data := .fields #[.ref l3, .int 0 0] }
abbrev z3d (h : Heap) (l1 l2 l3 : Addr) : Heap := (z3c h l1 l2 l3).push { cls := .type "tuple", data := .seq #[.ref h.objs.size, .ref (z3a h l1).objs.size, .ref (z3b h l1 l2).objs.size] }
abbrev z3e (h : Heap) (l1 l2 l3 : Addr) : Heap := (z3d h l1 l2 l3).push { cls := .type "tuple", data := .seq #[.none, .none, .none] }
abbrev z3f (h : Heap) (l1 l2 l3 : Addr) : Heap := (z3e h l1 l2 l3).push { cls := .type "zip", data := .fields #[.none, .bool false, .bool false, .ref (z3c h l1 l2 l3).objs.size, .ref (z3d h l1 l2 l3).objs.size] }
section
variable {prog : Program} {w : World} {A : Around} {E : Value → Shared → Prop} {s : Shared}
end
/-- (x, y, z) of three lists -/
def Itz3 (K : PySem.W.Frag) (l m q : Addr) : It :=
  ⟨fun i H => ∃ xs ys zs x y z, (SqL K H l xs ∧ SqL K H m ys ∧ SqL K H q zs) ∧ xs[i]? = some x ∧ ys[i]? = some y ∧ zs[i]? = some z,
   fun i H v H' => ∃ T x y z, v = .ref T ∧ H T = none ∧ H' = upd H T (.tup [x, y, z]) ∧ (∀ xs, SqL K H l xs → xs[i]? = some x) ∧ (∀ ys, SqL K H m ys → ys[i]? = some y) ∧ ∀ zs, SqL K H q zs → zs[i]? = some z,
   fun i H => ∃ xs ys zs, (SqL K H l xs ∧ SqL K H m ys ∧ SqL K H q zs) ∧ (xs.length ≤ i ∨ ys.length ≤ i ∨ zs.length ≤ i)⟩
end L2

namespace L2
open PySem PySem.Spec PyProof.Rows
theorem vals3 {x y z : V} {us : List Value} (r : Vals [x, y, z] us) : ∃ u v w, us = [u, v, w] ∧ RelV x u ∧ RelV y v ∧ RelV z w := by
  cases r with
  | cons a r =>
    cases r with
    | cons b r =>
      cases r with
      | cons c r =>
        cases r
        exact ⟨_, _, _, rfl, a, b, c⟩
section
variable {X : Cx} {σ : St} {H : Hp} {a b c : Expr} {elts : List Expr} {k : Nat} {tp p pos p' : Pos} {R : It → Hp → Prop} {D : Ends}
end
end L2

namespace L2
open PySem PySem.Spec PyProof.Rows
/-! ### list.index of texts -/
theorem strsAre_get : ∀ {us : List Value} {ys : List Str} {m : Nat} {u : Value}, StrsAre us ys → us[m]? = some u → ∃ y t, ys[m]? = some y ∧ u = .str y t
  | _, _, _, _, .nil, e => by simp at e
  | _, _, 0, u, .cons y t h, e => by
    simp at e
    exact ⟨y, t, rfl, e.symm⟩
  | _, _, m + 1, u, .cons y t h, e => by
    obtain ⟨y', t', e1, e2⟩ := strsAre_get h (by simpa using e)
    exact ⟨y', t', by simpa using e1, e2⟩
section
variable {X : Cx} {H : Hp} {Q : VK}
theorem m_lindex {a : Addr} {zs : List Str} {z : Str} {j : Nat} (h : SqL X.K H a (zs.map V.str)) (hj : zs[j]? = some z) (hno : ∀ m y, m < j → zs[m]? = some y → ¬ y = z) (g : Q (.int j) H) : MT X "list.index" (.ref a) [.str z] H Q := by
  refine mt_by (r := fun x xs H Q => ∃ a zs z j, x = .ref a ∧ xs = [.str z] ∧ SqL X.K H a (zs.map V.str) ∧ zs[j]? = some z ∧ (∀ m y, m < j → zs[m]? = some y → ¬ y = z) ∧ Q (.int (j : Nat)) H) ?_ ⟨a, zs, z, j, rfl, rfl, h, hj, hno, g⟩
  intro pins s σ H x xs v us Q I rx rs h
  obtain ⟨a, zs, z, j, rfl, rfl, h, hj, hno, g⟩ := h
  cases rx
  obtain ⟨u, rfl, ru⟩ := vals1 rs
  obtain ⟨t, rfl⟩ := ru
  obtain ⟨its, r, ⟨⟨cls, dd, data, sl⟩, n, e, hc, hd, hs⟩, hz⟩ := I.list h
  simp only at hc hd hs
  subst hc hd hs
  have hS := strsAre_of r
  have hlen : its.length = zs.length := by have := r.length; rw [List.length_map] at this; exact this.symm
  have hjl : j < its.toArray.size := by
    rw [List.size_toArray, hlen]
    exact (List.getElem?_eq_some_iff.mp hj).1
  rw [List.length_map] at hz
  have hsz : sizeLine = 16777216 := sizeLine_eq
  have hjz : j < zs.length := (List.getElem?_eq_some_iff.mp hj).1
  refine call_meets F.slot_list_index ⟨_, e, rfl⟩ F.entry_list_index (F.args_list_index_2 _ _) (SeqAt.list_indexAt a its.toArray n _ sl (.str z t) (isStrOf z) j hjl (by omega) ?_ ?_) ⟨e, fun y hy => (eq_isStrOf z t hS y (by simpa using hy)).at _ _, ?_⟩
  · obtain ⟨y, t', e1, e2⟩ := strsAre_get (m := j) (u := its.toArray[j]) hS (by simp)
    rw [e2]
    rw [hj] at e1
    cases e1
    show (z == z) = true
    exact beq_self_eq_true z
  · intro m hm hmj
    obtain ⟨y, t', e1, e2⟩ := strsAre_get (m := m) (u := its.toArray[m]) hS (by simp)
    rw [e2]
    show (y == z) = false
    exact beq_eq_false_iff_ne.mpr (hno m y hmj e1)
  · exact ⟨.int j, H, I.tok _, ⟨_, rfl⟩, g⟩
/-! ### None in a list of tuples -/
/-! ### t < u of tuples of one length -/
/-- what t < u gives, told by the items -/
def LexAt (A : Around) (s : Shared) : List Value → List Value → Bool → Prop
  | [], [], r => r = false
  | x :: xs, y :: ys, r => ∃ e, SeqAt.EqAt A s x y e ∧ (e = true → LexAt A s xs ys r) ∧ (e = false → ∀ (prog : Program) (w : World) (E : Value → Shared → Prop) (Q : Value → Shared → Prop), Q (.bool r) s → wpAny (model prog w) A (richCompare .Lt x y) Q E s)
  | _, _, _ => False
def ltV : V → V → Bool
  | .int i, .int j => decide (i < j)
  | .str x, .str y => decide (x.cps.toList < y.cps.toList)
  | _, _ => false
def ltP (i j : Int) (x y : V) : Bool := if i = j then ltV x y else decide (i < j)
end
end L2

namespace L2
open PySem PySem.Spec PyProof.Rows
/-! ### instances of own classes: fields, methods, making, at a state -/
/-- a method of the class at C, with its promise -/
structure MDef (P : Program) (w : World) (K : PySem.W.Frag) (mg : Str → Option Value) (base : Heap) (cc : Bool) (k : Nat) (C : Addr) (m : Str) (ps : List Str) (sp : Sp) : Prop where
  cls : Cls K C
  ex : ∃ f fd, Meth K C m f ∧ Binds K fd ps [] ∧ FnOk P w K mg base (CX1 P w) cc k f fd ps sp
/-- the class of the name x, with its making's promise -/
structure CDef (P : Program) (w : World) (K : PySem.W.Frag) (mg : Str → Option Value) (base : Heap) (cc : Bool) (k : Nat) (x : Str) (C : Addr) (ps : List Str) (sp : Sp) : Prop where
  at_ : mg x = some (.ref C)
  ex : ∃ f fd, Mk K C f ∧ Binds K fd ps [] ∧ FnOk P w K mg base (CX1 P w) cc k f fd ps sp
/-- a def of the class of the name x, asked of the class itself -/
structure BDef (P : Program) (w : World) (K : PySem.W.Frag) (mg : Str → Option Value) (base : Heap) (cc : Bool) (k : Nat) (x m : Str) (ps : List Str) (sp : Sp) : Prop where
  ex : ∃ C f fd, mg x = some (.ref C) ∧ PySem.W.readsIn K C (.type "type") = true ∧ PySem.W.findCls K (.ref C) (.type "type") m = some (.val (.ref f)) ∧
    PySem.W.specialIn K (.ref C) "__getattribute__" = some (some (.builtin "type.__getattribute__")) ∧ PySem.W.keepIn K (.ref f) = true ∧ Binds K fd ps [] ∧ FnOk P w K mg base (CX1 P w) cc k f fd ps sp
section
variable {X : Cx} {σ : St} {H : Hp} {Q : VK} {D : Ends} {x f m : Str} {p np apos pos pos' tpos : Pos} {a e o value : Expr} {es : List Expr} {Kx : St → XK} {cc : Bool} {k' : Nat}
end
end L2

namespace L2
open PySem PySem.Spec PyProof.Rows
/-- a method of the class at C: the def st -/
structure OM (K : PySem.W.Frag) (C : Addr) (m qual : Str) (st : Stmt) : Prop where
  ex : ∃ f fd, Fun K m qual st f fd ∧ Meth K C m f
/-- the making of the class at C: the def st -/
structure OI (K : PySem.W.Frag) (C : Addr) (qual : Str) (st : Stmt) : Prop where
  ex : ∃ f fd, Fun K "__init__" qual st f fd ∧ Mk K C f
/-- a def of the class at C, asked of the class -/
structure OB (K : PySem.W.Frag) (C : Addr) (m qual : Str) (st : Stmt) : Prop where
  rd : PySem.W.readsIn K C (.type "type") = true
  ga : PySem.W.specialIn K (.ref C) "__getattribute__" = some (some (.builtin "type.__getattribute__"))
  ex : ∃ f fd, Fun K m qual st f fd ∧ PySem.W.findCls K (.ref C) (.type "type") m = some (.val (.ref f))
/-- the promise of a def, wherever it stands -/
def FD (P : Program) (w : World) (K : PySem.W.Frag) (mg : Str → Option Value) (base : Heap) (cc : Bool) (k : Nat) (m qual : Str) (st : Stmt) (ps : List Str) (sp : Sp) : Prop :=
  ∀ f fd, Fun K m qual st f fd → Binds K fd ps [] ∧ FnOk P w K mg base (CX1 P w) cc k f fd ps sp
section
variable {P : Program} {w : World} {K : PySem.W.Frag} {mg : Str → Option Value} {base : Heap} {cc : Bool} {k : Nat} {x m qual : Str} {C : Addr} {st : Stmt} {ps N : List Str} {sp : Sp}
end
/-- what isinstance asks of an instance's class -/
structure OT (K : PySem.W.Frag) (C : Addr) : Prop where
  ty : ∀ (H : Hp) (a dx : Addr) (fs : List (Str × V)), H a = some (.ins C dx fs) → TyOf K H (.ref a) (.ref C)
end L2

namespace L2
open PySem PySem.Spec PyProof.Rows
section
variable {X : Cx} {σ : St} {H : Hp} {Q : VK} {D : Ends} {pos tpos : Pos} {o i value : Expr}
end
/-! a, b = e, of a list -/
section
variable {prog : Program} {w : World} {A : Around} {E : Value → Shared → Prop} {s : Shared}
end
section
variable {X : Cx} {H : Hp} {Q : VK} {D : Ends} {σ σ' : St} {e a b c elt tg : Expr} {scope : Scope} {pos spos py p p' : Pos} {x y : Str} {j : Nat}
end
end L2

/-! dicts at a state -/
namespace L2
open PySem PySem.Spec PyProof.Rows
section
variable {X : Cx} {σ : St} {H : Hp} {Q : VK} {D : Ends} {pos pos' tpos apos cpos : Pos} {o i e f value : Expr} {y v : V} {a : Addr} {r : Option V}
theorem ev_dnew (h : ∀ p, H p = none → Q (.ref p) (upd H p (.dK []))) : EV X (.Dict [] [] pos) σ H Q := ev_of pe_dnewK h
theorem o_ninD (hu : X.A.units + 1 < cLine) (g : DGet H a y r) (q : Q (.bl (!r.isSome)) H) : OP X (compareOp .NotIn) y (.ref a) H Q := by
  refine op_by (r := fun x z H Q => ∃ a o, z = .ref a ∧ DGet H a x o ∧ Q (.bl (!o.isSome)) H) ?_ ⟨a, r, rfl, g, q⟩
  intro pins s σ H x z v u Q I rx rz h
  obtain ⟨a, o, rfl, g, q⟩ := h
  cases (show u = Value.ref a from rz)
  exact d_notIn hu I g rx fun s' I' => ⟨.bl (!o.isSome), H, I', rfl, q⟩
/-- d[i] = value -/
theorem sx_dput (hu : X.A.units + 1 < cLine) (hs : swapsWith value (some (.Subscript o i pos')) pos.line X.env = pure false)
    (h : EV X value σ H fun v H1 => EV X o σ H1 fun x H2 => EV X i σ H2 fun y H3 => ∃ a H4, x = .ref a ∧ DPut H3 a y v H4 ∧ D.nx σ H4) : SX X (.Assign [.Subscript o i pos'] value pos) D σ H :=
  sx_of (ps_dput hu pe_self pe_self pe_self hs) h
end
end L2

namespace My
open PySem
abbrev SGs : Str := Str.ofString "-0123456789abcdefghijklmnopqrstuvwxyz"
abbrev TSs : Str := Str.ofString "abcdefghijklmnopqrstuvwxyz0123456789-"
def SG : List Nat := SGs.cps.toList
def TS : List Nat := TSs.cps.toList
/-- the law's own order of two texts -/
def tb : List Nat → List Nat → Bool
  | [], [] => false
  | [], _ :: _ => true
  | _ :: _, [] => false
  | x :: xs, y :: ys => if x = y then tb xs ys else decide (SG.idxOf x < SG.idxOf y)
end My

/-! what the laws of this program share: values, words, draws; places in lists and texts -/
namespace L2
open PySem PySem.Spec PyProof.Rows
theorem atI_map {α : Type} {xs : List α} {f : α → V} {i : Int} (d : α) (h0 : 0 ≤ i) (h1 : i < xs.length) : atI (xs.map f) i = some (f (xs.getD i.toNat d)) := by
  have e : i = ((i.toNat : Nat) : Int) := by omega
  have hl : i.toNat < xs.length := by omega
  have h2 : (xs.map f)[i.toNat]? = some (f (xs.getD i.toNat d)) := by
    rw [List.getElem?_map, List.getElem?_eq_getElem hl]
    simp [hl]
  have := atI_nat h2
  rw [← e] at this
  exact this
/-- a place that is drawn in a list: what stands there is one of its items -/
theorem atI_mem {α : Type} {xs : List α} {i : Int} (h0 : 0 ≤ i) (h1 : i < xs.length) : ∃ v, atI xs i = some v ∧ v ∈ xs := by
  have hl : i.toNat < xs.length := by omega
  have e : i = ((i.toNat : Nat) : Int) := by omega
  have := atI_nat (List.getElem?_eq_getElem hl)
  rw [← e] at this
  exact ⟨_, this, List.getElem_mem hl⟩
theorem ones_sum : ∀ l : List Nat, ((l.map fun c => (⟨#[c]⟩ : Str)).map (·.length)).sum = l.length
  | [] => rfl
  | c :: r => by
    rw [List.map_cons, List.map_cons, List.sum_cons, ones_sum r, List.length_cons]
    show 1 + r.length = _
    omega
theorem join_signs : ∀ l : List Nat, Str.join (Str.ofString "") (l.map fun c => ⟨#[c]⟩) = ⟨l.toArray⟩
  | [] => rfl
  | [c] => rfl
  | c :: d :: r => by
    have ih := join_signs (d :: r)
    show (⟨#[c]⟩ : Str) ++ Str.ofString "" ++ Str.join (Str.ofString "") ((d :: r).map fun c => ⟨#[c]⟩) = _
    rw [ih]
    have e0 : (Str.ofString "") = ⟨#[]⟩ := by decide +kernel
    rw [e0]
    show (⟨(#[c] ++ #[]) ++ (d :: r).toArray⟩ : Str) = ⟨(c :: d :: r).toArray⟩
    simp
/-! texts as lists of codes -/
theorem str_ext {x y : Str} (h : x.cps.toList = y.cps.toList) : x = y := by
  obtain ⟨⟨a⟩⟩ := x
  obtain ⟨⟨b⟩⟩ := y
  simp only at h
  rw [h]
theorem cps_app (x y : Str) : (x ++ y).cps.toList = x.cps.toList ++ y.cps.toList := by
  show (x.cps ++ y.cps).toList = _
  simp
theorem len_list (z : Str) : z.length = z.cps.toList.length := by simp [Str.length]
theorem len_app (x y : Str) : (x ++ y).length = x.length + y.length := by rw [len_list, cps_app, List.length_append, len_list, len_list]
theorem cutS_le (z : Str) (lo hi : Option Int) : (cutS z lo hi).length ≤ z.length := by
  unfold cutS Str.length
  simp
  omega
theorem cutS_list (z : Str) (lo hi : Option Int) : (cutS z lo hi).cps.toList = (z.cps.toList.drop (HT.sIx z.length 0 lo)).take (HT.sIx z.length z.length hi - HT.sIx z.length 0 lo) := by
  unfold cutS
  simp
/-- z[:k] -/
theorem cutS_to (z : Str) (k : Nat) : (cutS z none (some (k : Int))).cps.toList = z.cps.toList.take k := by
  rw [cutS_list, HT.sIx_nat, HT.sIx_none, List.drop_zero, Nat.sub_zero]
  have hl := len_list z
  by_cases h : k ≤ z.length
  · rw [Nat.min_eq_left h]
  · have h' : z.length ≤ k := by omega
    rw [Nat.min_eq_right h', List.take_of_length_le (by omega), List.take_of_length_le (by omega)]
end L2
namespace Vl
open PySem L2 PyProof.Rows My NumText
/-! ### values.py -/
def scalar : V → Bool
  | .non | .int _ | .str _ => true
  | _ => false
def isIntV : V → Bool
  | .int _ => true
  | _ => false
def isNum : V → Bool
  | .int i => decide (-1000000000000000000 ≤ i ∧ i ≤ 1000000000000000000)
  | _ => false
def madeOf (z g : Str) : Bool := z.cps.toList.all fun c => decide (c ∈ g.cps.toList)
def isTxt : V → Bool
  | .str z => decide (z.length ≤ 20) && madeOf z TSs
  | _ => false
def isVal (kind : Str) : V → Bool
  | .non => true
  | v => if kind = "number" then isNum v else isTxt v
def before : V → V → Bool
  | _, .non => false
  | .non, _ => true
  | .int i, .int j => decide (i < j)
  | .str x, .str y => decide (x.cps.toList < y.cps.toList)
  | _, _ => false
def short : V → Prop
  | .str z => z.length ≤ 4000
  | _ => True
def spWhole : Sp := fun vs H Q _ => ∃ v, vs = [v] ∧ scalar v = true ∧ Q (.bl (isIntV v)) H
def spMade : Sp := fun vs H Q _ => ∃ z g : Str, vs = [.str z, .str g] ∧ z.length ≤ 4000 ∧ ∀ H', Same H H' → Q (.bl (madeOf z g)) H'
def spNum : Sp := fun vs H Q _ => ∃ v, vs = [v] ∧ scalar v = true ∧ Q (.bl (isNum v)) H
def spTxt : Sp := fun vs H Q _ => ∃ v, vs = [v] ∧ scalar v = true ∧ short v ∧ ∀ H', Same H H' → Q (.bl (isTxt v)) H'
def spVal : Sp := fun vs H Q _ => ∃ (k : Str) (v : V), vs = [.str k, v] ∧ scalar v = true ∧ short v ∧ ∀ H', Same H H' → Q (.bl (isVal k v)) H'
def spBefore : Sp := fun vs H Q _ => ∃ x y : V, vs = [x, y] ∧ (x = .non ∨ y = .non ∨ (∃ i j, x = .int i ∧ y = .int j) ∨ ∃ i j, x = .str i ∧ y = .str j) ∧ Q (.bl (before x y)) H
/-! words -/
def isDig (c : Nat) : Bool := decide (48 ≤ c ∧ c ≤ 57)
abbrev FGs : Str := Str.ofString "0123456789"
def areFig (l : List Nat) : Bool := decide (l = [48]) || (decide (l ≠ []) && (decide (l[0]? ≠ some 48) && l.all isDig))
def isNW (l : List Nat) : Bool := if l[0]? = some 45 then decide (l.drop 1 ≠ [48]) && areFig (l.drop 1) else areFig l
/-- the number that a word writes -/
def wordInt (l : List Nat) : Int := if l[0]? = some 45 then -((digitsVal (l.drop 1) : Nat) : Int) else ((digitsVal l : Nat) : Int)
def readNum (l : List Nat) : Option Int := if isNW l = true ∧ l.length ≤ 20 ∧ -1000000000000000000 ≤ wordInt l ∧ wordInt l ≤ 1000000000000000000 then some (wordInt l) else none
def readTxt (z : Str) : Option Str := if z.cps.toList[0]? = some 39 ∧ isTxt (.str (cutS z (some 1) none)) = true then some (cutS z (some 1) none) else none
def numV : Option Int → Option V
  | some i => some (.int i)
  | none => none
def txtV : Option Str → Option V
  | some i => some (.str i)
  | none => none
/-- what read_value gives; none: refused -/
def readV (kind word : Str) : Option V := if word = "?" then some .non else if kind = "number" then numV (readNum word.cps.toList) else txtV (readTxt word)
def wordOf : V → Str
  | .non => "?"
  | .str z => Str.ofString "'" ++ z
  | .int i => Str.ofString (toString i)
  | _ => ""
def spWord : Sp := fun vs H Q _ => ∃ v, vs = [v] ∧ scalar v = true ∧ short v ∧ (∀ i, v = .int i → i.natAbs.log2 < 1920) ∧ Q (.str (wordOf v)) H
def spFig : Sp := fun vs H Q _ => ∃ z, vs = [.str z] ∧ z.length ≤ 4000 ∧ ∀ H', Same H H' → Q (.bl (areFig z.cps.toList)) H'
def spNW : Sp := fun vs H Q _ => ∃ z, vs = [.str z] ∧ z.length ≤ 4000 ∧ ∀ H', Same H H' → Q (.bl (isNW z.cps.toList)) H'
/-- a reading: a value, or the class's refusal -/
def orRefused (c : Value) (r : Option V) (H : Hp) (Q : VK) (E : XK) : Prop := ∀ H', Same H H' → match r with
  | some v => Q v H'
  | none => E c (none, true) H'
def spReadN (c : Value) : Sp := fun vs H Q E => ∃ z, vs = [.str z] ∧ z.length ≤ 4000 ∧ orRefused c (numV (readNum z.cps.toList)) H Q E
def spReadT (c : Value) : Sp := fun vs H Q E => ∃ z, vs = [.str z] ∧ z.length ≤ 4000 ∧ orRefused c (txtV (readTxt z)) H Q E
def spReadV (c : Value) : Sp := fun vs H Q E => ∃ k z, vs = [.str k, .str z] ∧ z.length ≤ 4000 ∧ orRefused c (readV k z) H Q E
/-! texts that are plain: short, of real signs -/
def okS (n : Nat) (z : Str) : Prop := z.length ≤ n ∧ ∀ c ∈ z.cps.toList, c < 1114112
theorem okS.lay {n : Nat} {z : Str} (h : okS n z) : (PyData.str z).canLay0 = true := by
  show PyData.strOk z = true
  unfold PyData.strOk
  rw [Array.all_eq_true_iff_forall_mem]
  intro c hc
  exact decide_eq_true (h.2 c (by simpa using hc))
theorem okS.sg {n : Nat} {z : Str} (hl : z.length ≤ n) (h : ∀ c ∈ z.cps.toList, c ∈ SG) : okS n z := ⟨hl, fun c hc => by
  have : ∀ c ∈ SG, c < 1114112 := by decide +kernel
  exact this c (h c hc)⟩
/-- a scalar as data -/
def dV : V → PyData
  | .bl b => .bool b
  | .int i => .int i
  | .str x => .str x
  | _ => .none
def sca : V → Bool
  | .non | .int _ | .str _ | .bl _ => true
  | _ => false
theorem rd_sca {K : PySem.W.Frag} {H : Hp} {v : V} (h : sca v = true) : RD K H v (dV v) := by
  cases v with
  | non => exact .non
  | bl b => exact .bl b
  | int i => exact .int i
  | str x => exact .str x
  | _ => cases h
theorem rds_sca {K : PySem.W.Frag} {H : Hp} : ∀ {xs : List V}, xs.all sca = true → RDs K H xs (xs.map dV)
  | [], _ => .nil
  | x :: xs, h => by
    rw [List.all_cons, Bool.and_eq_true] at h
    exact .cons (rd_sca h.1) (rds_sca h.2)
/-! numbers as texts -/
end Vl
namespace Lw
open PySem L2 PyProof.Rows My NumText
/-! ### the draws of the laws -/
def cellF (ns : List Int) (k : Int) : Int := if 0 < ns.length then ns.getD (k % (ns.length : Int)).toNat 0 else 0
def drawF (ns : List Int) (k m : Int) : Int := (cellF ns k % 1000003 + 31 * k * k + 1) * 48271 % 999983 * 7919 % 524287 % m
theorem drawF_nn (ns : List Int) (k : Int) {m : Int} (h : 0 < m) : 0 ≤ drawF ns k m := Int.emod_nonneg _ (by omega)
theorem drawF_lt (ns : List Int) (k : Int) {m : Int} (h : 0 < m) : drawF ns k m < m := Int.emod_lt_of_pos _ h
def spDraw (K : PySem.W.Frag) : Sp := fun vs H Q _ => ∃ (a : Addr) (ns : List Int) (k m : Int), vs = [.ref a, .int k, .int m] ∧ SqL K H a (ns.map V.int) ∧ ns.length ≤ 63 ∧ 0 ≤ k ∧ k ≤ 100000 ∧ 0 < m ∧ Q (.int (drawF ns k m)) H
/-- the signs of a drawn text -/
def codesF (ns : List Int) (b : Int) (n : Nat) : List Nat := (List.range n).map fun k : Nat => SG.getD (drawF ns (b + (k : Int)) 37).toNat 0
def textF (ns : List Int) (b : Int) (n : Nat) : Str := ⟨(codesF ns b n).toArray⟩
def spText (K : PySem.W.Frag) : Sp := fun vs H Q _ => ∃ (a : Addr) (ns : List Int) (b n : Int), vs = [.ref a, .int b, .int n] ∧ SqL K H a (ns.map V.int) ∧ ns.length ≤ 63 ∧ 0 ≤ b ∧ b ≤ 50000 ∧ 0 ≤ n ∧ n ≤ 1000 ∧ ∀ H', Same H H' → Q (.str (textF ns b n.toNat)) H'
end Lw

namespace Vl
open PySem L2 PyProof.Rows My NumText
/-! ### columns.py -/
inductive All2 {α β : Type} (R : α → β → Prop) : List α → List β → Prop
  | nil : All2 R [] []
  | cons {a : α} {b : β} {l : List α} {m : List β} : R a b → All2 R l m → All2 R (a :: l) (b :: m)
theorem All2.len {α β : Type} {R : α → β → Prop} : ∀ {l : List α} {m : List β}, All2 R l m → l.length = m.length
  | _, _, .nil => rfl
  | _, _, .cons _ t => by rw [List.length_cons, List.length_cons, t.len]
theorem All2.imp {α β : Type} {R S : α → β → Prop} (h : ∀ a b, R a b → S a b) : ∀ {l : List α} {m : List β}, All2 R l m → All2 S l m
  | _, _, .nil => .nil
  | _, _, .cons r t => .cons (h _ _ r) (t.imp h)
theorem All2.get {α β : Type} {R : α → β → Prop} : ∀ {l : List α} {m : List β}, All2 R l m → ∀ {i : Nat} {a : α}, l[i]? = some a → ∃ b, m[i]? = some b ∧ R a b
  | _, _, .nil, i, a, e => by simp at e
  | _, _, .cons r t, 0, a, e => by simp at e; subst e; exact ⟨_, rfl, r⟩
  | _, _, .cons r t, i + 1, a, e => by simp at e; exact t.get e
theorem All2.get' {α β : Type} {R : α → β → Prop} : ∀ {l : List α} {m : List β}, All2 R l m → ∀ {i : Nat} {b : β}, m[i]? = some b → ∃ a, l[i]? = some a ∧ R a b
  | _, _, .nil, i, a, e => by simp at e
  | _, _, .cons r t, 0, a, e => by simp at e; subst e; exact ⟨_, rfl, r⟩
  | _, _, .cons r t, i + 1, a, e => by simp at e; exact t.get' e
theorem All2.app {α β : Type} {R : α → β → Prop} : ∀ {l l' : List α} {m m' : List β}, All2 R l m → All2 R l' m' → All2 R (l ++ l') (m ++ m')
  | _, _, _, _, .nil, h => h
  | _, _, _, _, .cons r t, h => .cons r (t.app h)
abbrev Col := Str × Str
/-- the tuple (name, kind) -/
def ColAt (H : Hp) (v : V) (c : Col) : Prop := ∃ t, v = .ref t ∧ H t = some (.tup [.str c.1, .str c.2])
theorem ColAt.same {H H' : Hp} {v : V} {c : Col} (h : ColAt H v c) (s : Same H H') : ColAt H' v c := by
  obtain ⟨t, e, q⟩ := h
  exact ⟨t, e, s _ _ q⟩
/-- the list of the columns -/
def Cols (H : Hp) (a : Addr) (cs : List Col) : Prop := ∃ vs : List V, H a = some (.lst vs) ∧ All2 (ColAt H) vs cs
theorem Cols.same {H H' : Hp} {a : Addr} {cs : List Col} (h : Cols H a cs) (s : Same H H') : Cols H' a cs := by
  obtain ⟨vs, e, q⟩ := h
  exact ⟨vs, s _ _ e, q.imp fun a b r => r.same s⟩
abbrev LTs : Str := Str.ofString "abcdefghijklmnopqrstuvwxyz"
def isName (z : Str) : Bool := decide (1 ≤ z.length ∧ z.length ≤ 8) && madeOf z LTs
def isKind (k : Str) : Bool := decide (k = "number" ∨ k = "text")
def okCols (cs : List Col) : Bool := decide (1 ≤ cs.length ∧ cs.length ≤ 6) && (cs.all fun c => isName c.1 && isKind c.2) && decide ((cs.map Prod.fst).Nodup)
def spName : Sp := fun vs H Q _ => ∃ z, vs = [.str z] ∧ z.length ≤ 4000 ∧ ∀ H', Same H H' → Q (.bl (isName z)) H'
def shortC (cs : List Col) : Prop := ∀ c ∈ cs, c.1.length ≤ 4000 ∧ c.2.length ≤ 4000
def spAsk (c : Value) : Sp := fun vs H Q E => ∃ a cs, vs = [.ref a] ∧ Cols H a cs ∧ cs.length ≤ 4000 ∧ shortC cs ∧ ∀ H', Same H H' → if okCols cs = true then Q .non H' else E c (none, true) H'
def placeF : List Col → Str → Nat → V
  | [], _, _ => .non
  | c :: r, z, i => if c.1 = z then .int i else placeF r z (i + 1)
def spPlace : Sp := fun vs H Q _ => ∃ a cs z, vs = [.ref a, .str z] ∧ Cols H a cs ∧ ∀ H', Same H H' → Q (placeF cs z 0) H'
def isRowN : V → Bool
  | .int i => decide (0 ≤ i ∧ i ≤ 1000000000)
  | _ => false
def spRowN : Sp := fun vs H Q _ => ∃ v, vs = [v] ∧ scalar v = true ∧ Q (.bl (isRowN v)) H
def allVal : List Col → List V → Bool
  | c :: cs, v :: vs => isVal c.2 v && allVal cs vs
  | _, _ => true
def isRow (cs : List Col) (v : V) (xs : List V) : Bool := isRowN v && decide (xs.length = cs.length) && allVal cs xs
def spRow : Sp := fun vs H Q _ => ∃ a cs v b xs, vs = [.ref a, v, .ref b] ∧ Cols H a cs ∧ cs.length ≤ 4000 ∧ scalar v = true ∧ H b = some (.lst xs) ∧ (∀ x ∈ xs, scalar x = true ∧ short x) ∧ ∀ H', Same H H' → Q (.bl (isRow cs v xs)) H'
/-! columns and values as data -/
def dCol (c : Col) : PyData := .tuple [.str c.1, .str c.2]
def layC (cs : List Col) : Prop := ∀ c ∈ cs, okS 4000 c.1 ∧ okS 4000 c.2
theorem vals_lay : ∀ {xs : List V}, (∀ x ∈ xs, sca x = true ∧ ∀ z, x = .str z → okS 4000 z) → (PyData.list (xs.map dV)).canLay0 = true
  | [], _ => rfl
  | x :: xs, h => by
    have ih := vals_lay (xs := xs) fun d hd => h d (by simp [hd])
    have h1 : (dV x).canLay0 = true := by
      obtain ⟨hs, hz⟩ := h x (by simp)
      cases x with
      | str z => exact (hz z rfl).lay
      | _ => rfl
    show ((dV x).canLay0 && PyData.canLayAll0 (xs.map dV)) = true
    rw [h1]
    exact ih
theorem vals_depA : ∀ xs : List V, PyData.depthAll (xs.map dV) ≤ 1
  | [] => by show (0 : Nat) ≤ 1; omega
  | x :: xs => by
    have ih := vals_depA xs
    have h1 : (dV x).depth ≤ 1 := by cases x <;> (show (_ : Nat) ≤ 1; exact Nat.le_of_ble_eq_true rfl)
    show max (dV x).depth (PyData.depthAll (xs.map dV)) ≤ 1
    omega
end Vl

namespace Vl
open PySem L2 PyProof.Rows My NumText
/-! ### checks.py -/
def checkR : List Nat → Int
  | [] => 0
  | c :: r => ((c : Int) + 137 * checkR r) % 9973
/-- the check, in four figures -/
def fourF (n : Int) : Str := Txt.zfill (Str.ofString (toString n)) 4
def figV (l : List Nat) : Nat := l.foldl (fun a c => a * 10 + (c - 48)) 0
def fourOk (n : Nat) : Bool := decide ((fourF n).length = 4) && ((fourF n).cps.toList.all isDig && decide (figV (fourF n).cps.toList = n))
def spCheck : Sp := fun vs H Q _ => ∃ z, vs = [.str z] ∧ z.length ≤ 100000 ∧ (∀ c ∈ z.cps.toList, c < 1114112) ∧ Q (.int (checkR z.cps.toList)) H
def spCheckW : Sp := fun vs H Q _ => ∃ z, vs = [.str z] ∧ z.length ≤ 100000 ∧ (∀ c ∈ z.cps.toList, c < 1114112) ∧ Q (.str (fourF (checkR z.cps.toList))) H
/-! ### figures read up to a bound -/
def figN (l : List Nat) (m : Int) : Option Int := if areFig l = true ∧ ((digitsVal l : Nat) : Int) ≤ m then some ((digitsVal l : Nat) : Int) else none
def intO : Option Int → V
  | none => .non
  | some i => .int i
def spReadF : Sp := fun vs H Q _ => ∃ (z : Str) (m : Int) (k : Nat), vs = [.str z, .int m] ∧ z.length ≤ 4000 ∧ 0 ≤ m ∧ m.natAbs < 10 ^ 60 ∧ (Str.ofString (toString m)).length = k ∧ m < ((10 ^ k : Nat) : Int) ∧ 1 ≤ k ∧ k ≤ 600 ∧ ∀ H', Same H H' → Q (intO (figN z.cps.toList m)) H'
end Vl
namespace Vl
open PySem L2 PyProof.Rows My NumText
end Vl

namespace Vl
open PySem L2 PyProof.Rows My NumText
/-! ### orders.py -/
abbrev Ord := Str × Bool
/-- the tuple (name, up) -/
def OrdAt (H : Hp) (v : V) (o : Ord) : Prop := ∃ t, v = .ref t ∧ H t = some (.tup [.str o.1, .bl o.2])
theorem OrdAt.same {H H' : Hp} {v : V} {o : Ord} (h : OrdAt H v o) (s : Same H H') : OrdAt H' v o := by
  obtain ⟨t, e, q⟩ := h
  exact ⟨t, e, s _ _ q⟩
def Ords (H : Hp) (a : Addr) (os : List Ord) : Prop := ∃ vs : List V, H a = some (.lst vs) ∧ All2 (OrdAt H) vs os
theorem Ords.same {H H' : Hp} {a : Addr} {os : List Ord} (h : Ords H a os) (s : Same H H') : Ords H' a os := by
  obtain ⟨vs, e, q⟩ := h
  exact ⟨vs, s _ _ e, q.imp fun a b r => r.same s⟩
def mapO {α β : Type} (f : α → Option β) : List α → Option (List β)
  | [] => some []
  | x :: r => match f x, mapO f r with
    | some y, some ys => some (y :: ys)
    | _, _ => none
/-- a word of an order -/
def ordOf (cs : List Col) (z : Str) : Option Ord :=
  if (z.cps.toList[0]? = some 43 ∨ z.cps.toList[0]? = some 45) ∧ placeF cs (cutS z (some 1) none) 0 ≠ .non then some (cutS z (some 1) none, decide (z.cps.toList[0]? = some 43)) else none
def readOrd (cs : List Col) (z : Str) : Option (List Ord) :=
  if z = "" then some [] else if 4 < (cutT 32 z).length then none else match mapO (ordOf cs) (cutT 32 z) with
    | none => none
    | some os => if (os.map Prod.fst).Nodup then some os else none
def spReadOW (c : Value) : Sp := fun vs H Q E => ∃ a cs z, vs = [.ref a, .str z] ∧ Cols H a cs ∧ z.length ≤ 4000 ∧
  (∀ H', Same H H' → ordOf cs z = none → E c (none, true) H') ∧ ∀ p o H', Same H H' → ordOf cs z = some o → H' p = some (.tup [.str o.1, .bl o.2]) → Q (.ref p) H'
def spReadO (c : Value) : Sp := fun vs H Q E => ∃ a cs z, vs = [.ref a, .str z] ∧ Cols H a cs ∧ z.length ≤ 4000 ∧
  (∀ H', Same H H' → readOrd cs z = none → E c (none, true) H') ∧ ∀ p os H', Same H H' → readOrd cs z = some os → H p = none → Ords H' p os → Q (.ref p) H'
/-- an order's word -/
def ordW (o : Ord) : Str := (if o.2 = true then Str.ofString "+" else Str.ofString "-") ++ o.1
def ordT (os : List Ord) : Str := Str.join " " (os.map ordW)
def spOrdT : Sp := fun vs H Q _ => ∃ a os, vs = [.ref a] ∧ Ords H a os ∧ os.length ≤ 4000 ∧ (∀ o ∈ os, o.1.length ≤ 1000) ∧ ∀ H', Same H H' → Q (.str (ordT os)) H'
end Vl

namespace Vl
open PySem L2 PyProof.Rows My NumText
/-! ### keys -/
def placeN : List Col → Str → Nat
  | [], _ => 0
  | c :: r, z => if c.1 = z then 0 else placeN r z + 1
theorem placeN_lt : ∀ {cs : List Col} {z : Str}, (∃ c ∈ cs, c.1 = z) → placeN cs z < cs.length
  | [], _, h => by obtain ⟨c, hc, _⟩ := h; simp at hc
  | d :: r, z, h => by
    unfold placeN
    split
    · simp
    · rename_i hd
      have := placeN_lt (cs := r) (z := z) (by
        obtain ⟨c, hc, e⟩ := h
        rcases List.mem_cons.mp hc with x | x
        · subst x; exact absurd e hd
        · exact ⟨c, x, e⟩)
      simp
      omega
theorem placeF_N : ∀ {cs : List Col} {z : Str} (i : Nat), (∃ c ∈ cs, c.1 = z) → placeF cs z i = .int ((i + placeN cs z : Nat) : Int)
  | [], _, _, h => by obtain ⟨c, hc, _⟩ := h; simp at hc
  | d :: r, z, i, h => by
    unfold placeF placeN
    split
    · rfl
    · rename_i hd
      rw [placeF_N (i + 1) (by
        obtain ⟨c, hc, e⟩ := h
        rcases List.mem_cons.mp hc with x | x
        · subst x; exact absurd e hd
        · exact ⟨c, x, e⟩)]
      congr 2
      omega
theorem placeN_get : ∀ {cs : List Col} {z : Str}, (∃ c ∈ cs, c.1 = z) → ∃ c, cs[placeN cs z]? = some c ∧ c.1 = z
  | [], _, h => by obtain ⟨c, hc, _⟩ := h; simp at hc
  | d :: r, z, h => by
    unfold placeN
    split
    · rename_i e; exact ⟨d, rfl, e⟩
    · rename_i hd
      obtain ⟨c, h1, h2⟩ := placeN_get (cs := r) (z := z) (by
        obtain ⟨c, hc, e⟩ := h
        rcases List.mem_cons.mp hc with x | x
        · subst x; exact absurd e hd
        · exact ⟨c, x, e⟩)
      exact ⟨c, by simpa using h1, h2⟩
/-- a row's value at a name -/
def atN (cs : List Col) (xs : List V) (z : Str) : V := (xs[placeN cs z]?).getD .non
def keyL (cs : List Col) (os : List Ord) (xs : List V) : List V := os.map fun o => atN cs xs o.1
def inC (cs : List Col) (os : List Ord) : Prop := ∀ o ∈ os, ∃ c ∈ cs, c.1 = o.1
def spKey : Sp := fun vs H Q _ => ∃ a b n c cs os xs, vs = [.ref a, .ref b, .int n, .ref c] ∧ Cols H a cs ∧ Ords H b os ∧ H c = some (.lst xs) ∧ xs.length = cs.length ∧ cs.length ≤ 4000 ∧ os.length ≤ 4000 ∧ inC cs os ∧
  ∀ p l H', Same H H' → H p = none → H l = none → H' l = some (.lst (keyL cs os xs)) → H' p = some (.tup [.ref l, .int n]) → Q (.ref p) H'
/-- values that may be held against one another -/
def like (x y : V) : Prop := x = .non ∨ y = .non ∨ (∃ i j, x = .int i ∧ y = .int j) ∨ ∃ i j, x = .str i ∧ y = .str j
def aheadF : List Ord → List V → List V → Int → Int → Bool
  | o :: os, x :: xs, y :: ys, n, k => if x = y then aheadF os xs ys n k else decide (before x y = o.2)
  | _, _, _, n, k => decide (n < k)
def KeyAt (H : Hp) (p : Addr) (xs : List V) (n : Int) : Prop := ∃ l, H p = some (.tup [.ref l, .int n]) ∧ H l = some (.lst xs)
def spAhead : Sp := fun vs H Q _ => ∃ b p q os xs ys n k, vs = [.ref b, .ref p, .ref q] ∧ Ords H b os ∧ KeyAt H p xs n ∧ KeyAt H q ys k ∧ xs.length = os.length ∧ ys.length = os.length ∧ (∀ (i : Nat) x y, xs[i]? = some x → ys[i]? = some y → scalar x = true ∧ scalar y = true ∧ like x y) ∧
  ∀ H', Same H H' → Q (.bl (aheadF os xs ys n k)) H'
theorem aheadF_skip : ∀ {i : Nat} {os : List Ord} {xs ys : List V} {n k : Int}, xs.length = os.length → ys.length = os.length → i ≤ os.length → (∀ j x y, j < i → xs[j]? = some x → ys[j]? = some y → x = y) → aheadF os xs ys n k = aheadF (os.drop i) (xs.drop i) (ys.drop i) n k
  | 0, _, _, _, _, _, _, _, _, _ => rfl
  | i + 1, [], [], [], _, _, _, _, hi, _ => by simp at hi
  | i + 1, o :: os, x :: xs, y :: ys, n, k, h1, h2, hi, h => by
    show (if x = y then aheadF os xs ys n k else decide (before x y = o.2)) = _
    rw [if_pos (h 0 x y (by omega) rfl rfl)]
    exact aheadF_skip (by simpa using h1) (by simpa using h2) (by simpa using hi) fun j x y hj e1 e2 => h (j + 1) x y (by omega) (by simpa using e1) (by simpa using e2)
  | i + 1, [], _ :: _, _, _, _, h1, _, _, _ => by simp at h1
  | i + 1, [], [], _ :: _, _, _, _, h2, _, _ => by simp at h2
  | i + 1, _ :: _, [], _, _, _, h1, _, _, _ => by simp at h1
  | i + 1, _ :: _, _ :: _, [], _, _, _, h2, _, _ => by simp at h2
theorem drop_get {α : Type} {l : List α} {i : Nat} {x : α} (h : l[i]? = some x) : l.drop i = x :: l.drop (i + 1) := by
  obtain ⟨hi, e⟩ := List.getElem?_eq_some_iff.mp h
  rw [← e]
  exact List.drop_eq_getElem_cons hi
theorem aheadF_hit {i : Nat} {os : List Ord} {xs ys : List V} {n k : Int} {o : Ord} {x y : V} (h1 : xs.length = os.length) (h2 : ys.length = os.length) (ho : os[i]? = some o) (hx : xs[i]? = some x) (hy : ys[i]? = some y) (h : ∀ j x y, j < i → xs[j]? = some x → ys[j]? = some y → x = y) (hne : ¬ x = y) : aheadF os xs ys n k = decide (before x y = o.2) := by
  have hi := (List.getElem?_eq_some_iff.mp ho).1
  rw [aheadF_skip h1 h2 (by omega) h, drop_get ho, drop_get hx, drop_get hy]
  show (if x = y then _ else _) = _
  rw [if_neg hne]
theorem aheadF_end {os : List Ord} {xs ys : List V} {n k : Int} (h1 : xs.length = os.length) (h2 : ys.length = os.length) (h : ∀ j x y, j < os.length → xs[j]? = some x → ys[j]? = some y → x = y) : aheadF os xs ys n k = decide (n < k) := by
  rw [aheadF_skip h1 h2 (Nat.le_refl _) h, List.drop_length]
  rfl
end Vl

namespace Vl
open PySem L2 PyProof.Rows My NumText
/-! ### numbers written and read back -/
/-! ### words parted by blanks -/
/-! ### places of names -/
/-! ### before, as the laws walk it -/
/-! ### a sign some times -/
end Vl

/-! list.insert; sorted of a dict of ints, at a state -/
namespace L2
open PySem PySem.Spec PyProof.Rows PySem.W
section
variable {X : Cx} {σ : St} {H : Hp} {Q : VK} {a : Addr}
/-- xs with y put in at the place k -/
def insAt {α : Type} (xs : List α) (k : Nat) (y : α) : List α := xs.take k ++ y :: xs.drop k
def rInsert : V → List V → Hp → VK → Prop := fun x vs H Q => ∃ l xs k y, x = .ref l ∧ vs = [.int (k : Nat), y] ∧ H l = some (.lst xs) ∧ k ≤ xs.length ∧ xs.length < sizeLine ∧ Q .non (upd H l (.lst (insAt xs k y)))
end
end L2

/-! dicts of ints as data; books -/
namespace Vl
open PySem L2 PyProof.Rows My
section
variable {α β : Type}
def aGet (m : List (Int × α)) (i : Int) : Option α := (m.find? fun p => decide (p.1 = i)).map (·.2)
def aPut (m : List (Int × α)) (i : Int) (x : α) : List (Int × α) := if (m.any fun p => decide (p.1 = i)) = true then m.map (fun p => if p.1 = i then (p.1, x) else p) else m ++ [(i, x)]
def aDrop (m : List (Int × α)) (i : Int) : List (Int × α) := m.filter fun p => decide (p.1 ≠ i)
/-- keys and what stands at them -/
abbrev PR (R : V → α → Prop) (kv : Key × V) (p : Int × α) : Prop := kv.1 = Sum.inl p.1 ∧ R kv.2 p.2
def DictAt (R : V → α → Prop) (H : Hp) (a : Addr) (m : List (Int × α)) : Prop := ∃ kvs, H a = some (.dK kvs) ∧ All2 (PR R) kvs m
/-- the same but for some -/
def Out (S : List Addr) (H H' : Hp) : Prop := ∀ b o, b ∉ S → H b = some o → H' b = some o
/-! ### books -/
def TupAt (H : Hp) (v : V) (xs : List V) : Prop := ∃ t, v = .ref t ∧ H t = some (.tup xs)
def OptAt (H : Hp) (v : V) : Option (List V) → Prop
  | none => v = .non
  | some xs => TupAt H v xs
structure Deed where
  at_ : Int
  row : Int
  was : Option (List V)
  is : Option (List V)
def DeedAt (H : Hp) (v : V) (d : Deed) : Prop := ∃ t w u, v = .ref t ∧ H t = some (.tup [.int d.at_, .int d.row, w, u]) ∧ OptAt H w d.was ∧ OptAt H u d.is
structure Bk where
  heads : List Col
  rows : List (Int × List V)
  touched : List (Int × Int)
  done : List Deed
  known : Int
  now : Int
/-- where a book's things stand -/
structure BA where
  b : Addr
  dx : Addr
  h : Addr
  r : Addr
  t : Addr
  d : Addr
def IntAt (v : V) (i : Int) : Prop := v = .int i
structure BookAt (C : Addr) (H : Hp) (A : BA) (B : Bk) : Prop where
  ins : H A.b = some (.ins C A.dx [("heads", .ref A.h), ("rows", .ref A.r), ("touched", .ref A.t), ("done", .ref A.d), ("known", .int B.known), ("now", .int B.now)])
  own : H A.dx = some (.own A.b)
  heads : Cols H A.h B.heads
  rows : DictAt (TupAt H) H A.r B.rows
  touched : DictAt IntAt H A.t B.touched
  done : ∃ xs, H A.d = some (.lst xs) ∧ All2 (DeedAt H) xs B.done
  rt : A.r ≠ A.t
  hd : A.h ≠ A.d
/-- what a book may write -/
def BA.fp (A : BA) : List Addr := [A.b, A.r, A.t, A.d]
section
variable {C : Addr} {H H' : Hp} {A : BA} {B : Bk}
end
end
end Vl

/-! list(reversed(a list)) -/
namespace L2
open PySem PySem.Spec PyProof.Rows PySem.W
theorem nolen_lri : typeLookup (.type "list_reverseiterator") "__len__" = pure none := by rw [typeLookup_type, builtinLookup_eq_fast]; kernel_rfl
theorem hint_lri : typeLookup (.type "list_reverseiterator") "__length_hint__" = pure (some (.builtin "list_reverseiterator.__length_hint__")) := by rw [typeLookup_type, builtinLookup_eq_fast]; kernel_rfl
section
variable {prog : Program} {w : World} {A : Around} {E : Value → Shared → Prop} {s : Shared}
variable {I : Addr} {fp wr : List Addr} {G : Array GenState → Array GenState → Prop} {n : Nat} {P : Nat → Value → Prop} {St : Nat → Shared → Prop}
theorem extend_rev {R : Result → Shared → Prop} (W : WalksS prog w A.in1 I fp wr G n P St) (hT : ∀ i s, St i s → s.TypeIs (.ref I) "list_reverseiterator") (S : Addr) (res : Value) (c0 : Nat) (hst : St 0 s) (hSf : S ∉ fp) (hI : I ∈ fp)
    (hS : s.heap.get? S = some { cls := .type "list", data := .seq #[] c0 })
    (hR : ∀ s' acc' c', Moved (S :: wr) G s s' → s'.heap.get? S = some { cls := .type "list", dict := none, data := .seq acc' c', slots := #[] } → ItemsOf P acc' n → R (.ok (.ret res)) s') (hn : n ≤ sizeLine) :
    wpAny (model prog w) A.in1 (Builtin.List.listExtendWith (.ref S) (.ref I) res)
      (fun fin s' => match fin with | .done f => R (.ok f) s' | .again c' => c'.quiet = true ∧ codeAny (model prog w) A c' R s') (fun e s' => R (.error e) s') s := by
  have hSI : S ≠ I := fun e => hSf (e ▸ hI)
  unfold Builtin.List.listExtendWith
  refine wpAny_bind (wpAny_typeOf (hT 0 _ hst) ?_)
  have h1 : Builtin.List.listSameRef (.ref S) (.ref I) = false := by simp [Builtin.List.listSameRef, hSI]
  rw [if_neg (by rw [h1]; decide)]
  refine wpAny_bind (W.self 0 _ _ _ hst ?_)
  refine wpAny_bind (wpAny_holding ?_)
  unfold Builtin.List.listLengthHint
  refine wpAny_bind (wpAny_specialOf (hT 0 _ hst) nolen_lri ?_)
  show wpAny _ A.in1 (specialOf (Value.ref I) (Str.ofString "__length_hint__") >>= _) _ _ _
  refine wpAny_bind (wpAny_specialOf (hT 0 _ hst) hint_lri ?_)
  (generalize hid : ("list_reverseiterator.__length_hint__" : String) = id0; (fail_if_success (clear hid id0)); wp_delta; rw [show splitId id0 = some ("list_reverseiterator", "__length_hint__") from by subst hid; decide +kernel]; subst hid)
  refine wpAny_bind (wpAny_isInstance (b := true) (hT 0 _ hst) (by rw [isSubtype_type]; kernel_rfl) ?_)
  refine wpAny_pure ?_
  rw [if_neg (by decide)]
  exact wpAny_pure ⟨plainId_quiet F.plain_extend_loop _, codeAny_extend_loopS W hn _ hSf _ n 0 _ _ _ rfl (Nat.zero_le _) hst hS (ItemsOf.nil P) hR⟩
theorem init_rev {R : Result → Shared → Prop} (W : WalksS prog w A.in1 I fp wr G n P St) (hT : ∀ i s, St i s → s.TypeIs (.ref I) "list_reverseiterator") (S : Addr) (hst : St 0 s) (hSf : S ∉ fp) (hI : I ∈ fp)
    (hS : s.heap.get? S = some { cls := .type "list", data := .seq #[] })
    (hR : ∀ s' acc' c', Moved (S :: wr) G s s' → s'.heap.get? S = some { cls := .type "list", dict := none, data := .seq acc' c', slots := #[] } → ItemsOf P acc' n → R (.ok (.ret .none)) s') (hn : n ≤ sizeLine) :
    wpAny (model prog w) A.in1 (Builtin.«list.__init__» ⟨[.ref S, .ref I], []⟩)
      (fun fin s' => match fin with | .done f => R (.ok f) s' | .again c' => c'.quiet = true ∧ codeAny (model prog w) A c' R s') (fun e s' => R (.error e) s') s := by
  show wpAny _ A.in1 (do let old ← Builtin.List.listItems (.ref S); Builtin.List.listUpdate (.ref S) (fun _ => #[]); letGo old.toList.reverse; Builtin.List.listExtendWith (.ref S) (.ref I) .none) _ _ s
  refine wpAny_bind ?_
  unfold Builtin.List.listItems
  refine wpAny_bind (wpAny_seqItems hS rfl (wpAny_pure ?_))
  show wpAny _ A.in1 (updateSeq S (fun _ => #[]) >>= fun _ => letGo (#[] : Array Value).toList.reverse >>= fun _ => Builtin.List.listExtendWith (.ref S) (.ref I) .none) _ _ s
  refine wpAny_bind (wpAny_updateSeq hS rfl ?_)
  have hS2 := Heap.get?_update_self (Obj.mapSeq (fun _ => (#[] : Array Value))) hS rfl
  have oth : ∀ b o, b ≠ S → s.heap.get? b = some o → (s.heap.update S (Obj.mapSeq (fun _ => (#[] : Array Value)))).get? b = some o :=
    fun b o hb e => (Heap.get?_update_other _ _ (Ne.symm hb)).trans e
  refine wpAny_bind (wpAny_letGo ?_)
  refine extend_rev (hn := hn) W hT S .none _ (W.frame 0 s _ s.toks hst (Nat.le_refl _) fun b hb o e => oth b o (fun h => hSf (h ▸ hb)) e) hSf hI hS2 fun s' acc' c' hm hS' hacc => ?_
  exact hR s' acc' c' (Moved.trans W.gtrans ((Moved.refl W.grefl).then_heap (Nat.le_refl _) fun b o hb e => oth b o (fun h => hb (h ▸ List.mem_cons_self)) e) hm) hS' hacc
theorem call_list_rev {Q : Value → Shared → Prop} (W : WalksS prog w A.in1.in1 I fp wr G n P St) (hT : ∀ i s, St i s → s.TypeIs (.ref I) "list_reverseiterator") (hst : St 0 s) (hfp : ∀ b ∈ fp, b < s.heap.objs.size) (hI : I ∈ fp)
    (hQ : ∀ s' acc' c', Moved (s.heap.objs.size :: wr) G { s with heap := s.heap.push { cls := .type "list", data := .seq #[] } } s' →
      s'.heap.get? s.heap.objs.size = some { cls := .type "list", dict := none, data := .seq acc' c', slots := #[] } → ItemsOf P acc' n → Q (.ref s.heap.objs.size) s') (hn : n ≤ sizeLine) :
    wpAny (model prog w) A (call (.type "list") [.ref I]) Q E s := by
  have hSf : s.heap.objs.size ∉ fp := fun hm => Nat.lt_irrefl _ (hfp _ hm)
  refine callType_codes (Q₁ := fun obj s₁ => obj = .ref s.heap.objs.size ∧ s₁ = { s with heap := s.heap.push { cls := .type "list", data := .seq #[] } }) F.called_list (F.typeCall_list_1 _) F.entry_list_init
    (code_list_new _ ⟨rfl, rfl⟩) fun obj s₁ h₁ => ?_
  obtain ⟨rfl, rfl⟩ := h₁
  have hS : (s.heap.push { cls := .type "list", data := .seq #[] }).get? s.heap.objs.size = some { cls := .type "list", data := .seq #[] } := Heap.get?_push_size _ rfl
  refine ⟨⟨_, hS, rfl⟩, F.args_list_init_2 _ _, init_rev (hn := hn) W hT _ (W.frame 0 s _ s.toks hst (Nat.le_refl _) fun b _ o e => Heap.get?_push_of_some _ e) hSf hI hS fun s' acc' c' hm hS' hacc => ?_⟩
  exact ⟨rfl, hQ s' acc' c' hm hS' hacc⟩
end
section
variable {X : Cx} {σ : St} {H : Hp} {Q : VK} {a : Expr} {p pos p' pos' : Pos}
theorem ev_listRev (hc : X.calm = true) (hgl : Gl X "list") (hml : X.mg "list" = none) (hg : Gl X "reversed") (hm : X.mg "reversed" = none) (hs : starEach [a] X.env = [(false, eval a X.env)])
    (hs2 : starEach [Expr.Call (.Name "reversed" p') [a] [] pos'] X.env = [(false, eval (.Call (.Name "reversed" p') [a] [] pos') X.env)])
    (h : EV X a σ H fun v H1 => ∃ l xs, v = .ref l ∧ SqL X.K H1 l xs ∧ xs.length ≤ 1000000 ∧ ∀ q, H1 q = none → Q (.ref q) (upd H1 q (.lst xs.reverse))) : EV X (.Call (.Name "list" p) [.Call (.Name "reversed" p') [a] [] pos'] [] pos) σ H Q := by
  intro pins s I
  refine Call_ (ld_blt I hgl hml boot_list (PyProof.Rows.callWith_type1 ?_ hs2 rfl))
  rw [hs2]
  refine Calls.spliced_cons ?_
  refine Call_ (ld_blt I hg hm boot_reversed (PyProof.Rows.callWith_type1 (thn (ea_cons (es := []) (QA := fun vs H1 => ∃ l xs, vs = [.ref l] ∧ SqL X.K H1 l xs ∧ xs.length ≤ 1000000 ∧ ∀ q, H1 q = none → Q (.ref q) (upd H1 q (.lst xs.reverse))) hs (ev_mono h fun v H1 ⟨l, xs, e, q1, q2⟩ => ea_nil ⟨l, xs, by rw [e], q1, q2⟩) pos' pins s I) fun us s1 ⟨vs, H1, I1, r1, l, xs, e, hl, hx, q⟩ => ?_) hs rfl))
  subst e
  obtain ⟨u, rfl, ru⟩ := vals1 r1
  cases (show u = Value.ref l from ru)
  obtain ⟨its, rv, pl, hz⟩ := I1.list hl
  have hlen := rv.length
  have hsz : sizeLine = 16777216 := sizeLine_eq
  refine call_reversed_list pl.isList ?_
  refine Calls.spliced_nil ?_
  have hit : (s1.heap.push (revObj l ((its.toArray.size : Int) - 1))).IsRevIter s1.heap.objs.size l ((its.toArray.size : Int) - 1) := ⟨_, Heap.get?_push_size _ rfl, rfl, rfl⟩
  obtain ⟨lo, hlo, hlr⟩ := id pl.isList
  have hll : l < s1.heap.objs.size := Heap.lt_size hlo
  have hne : l ≠ s1.heap.objs.size := Nat.ne_of_lt hll
  have hss : (s1.heap.push (revObj l ((its.toArray.size : Int) - 1))).objs.size = s1.heap.objs.size + 1 := Array.size_push ..
  have W := (Walks.listRev (prog := X.prog) (w := X.w) (A := X.A.in1.in1) (I.ok.hd hc) s1.heap.objs.size l hne its.toArray).toS
  have hit0 : (s1.heap.push (revObj l ((its.toArray.size : Int) - 1))).IsRevIter s1.heap.objs.size l ((its.toArray.size : Int) - 1 - ((0 : Nat) : Int)) := by
    have e : ((its.toArray.size : Int) - 1 - ((0 : Nat) : Int)) = (its.toArray.size : Int) - 1 := by omega
    rw [e]
    exact hit
  refine call_list_rev (s := { s1 with heap := s1.heap.push (revObj l ((its.toArray.size : Int) - 1)) }) W (fun i s st => st.2.1.typeIs) ⟨Nat.zero_le _, hit0, pl.isList.at fun o e => Heap.get?_push_of_some _ e⟩ (fun b hb => ?_) (by simp) (fun s' acc c hmv hS hacc => ?_) (by rw [List.size_toArray]; omega)
  · show b < (s1.heap.push _).objs.size
    rw [hss]
    rcases List.mem_cons.mp hb with e | hb
    · rw [e]; exact Nat.lt_succ_self _
    · rw [List.mem_singleton.mp hb]; exact Nat.lt_succ_of_lt hll
  · have hac : acc.toList = its.reverse := by
      refine List.ext_getElem? fun i => ?_
      by_cases hi : i < its.length
      · have hi2 : i < acc.size := by rw [hacc.1, List.size_toArray]; exact hi
        have e1 : acc[i]? = some acc[i] := Array.getElem?_eq_getElem hi2
        have e2 := hacc.2 i _ e1
        rw [Array.getElem?_toList, e1, List.getElem?_reverse hi, ← e2, List.size_toArray]
        simp
      · have h1 : its.reverse.length ≤ i := by rw [List.length_reverse]; omega
        have h2 : acc.toList.length ≤ i := by rw [Array.length_toList, hacc.1, List.size_toArray]; omega
        rw [List.getElem?_eq_none h1, List.getElem?_eq_none h2]
    have hk : ∀ b o, s1.heap.get? b = some o → s'.heap.get? b = some o := fun b o e => by
      have hb := Heap.lt_size e
      refine hmv.heap b o (fun z => ?_) (Heap.get?_push_of_some _ (Heap.get?_push_of_some _ e))
      rcases List.mem_cons.mp z with z | z
      · have z' : b = (s1.heap.push (revObj l ((its.toArray.size : Int) - 1))).objs.size := z
        rw [hss] at z'
        exact absurd hb (by rw [z']; exact Nat.not_lt.mpr (Nat.le_succ _))
      · rw [List.mem_singleton.mp z] at hb
        exact Nat.lt_irrefl _ hb
    rw [Moved.eq_with hmv]
    have hge : s1.heap.objs.size ≤ (s1.heap.push (revObj l ((its.toArray.size : Int) - 1))).objs.size := by rw [hss]; exact Nat.le_succ _
    refine ⟨.ref _, _, I1.laid (t' := s'.toks) (o := .lst xs.reverse) hk hge ⟨by rw [List.length_reverse]; omega, acc.toList, c, ?_, by simpa using hS⟩, rfl, q _ (I1.hok.fresh hge)⟩
    rw [hac]
    exact rv.reverse
end
end L2

/-! dict.pop with a default; for over a tuple -/
namespace L2
open PySem PySem.Spec PyProof.Rows PySem.W
section
variable {X : Cx} {σ : St} {H : Hp} {Q : VK} {D : Ends} {o e f : Expr} {apos cpos pos : Pos}
end
end L2

/-! for over a dict of ints that is the function's own; it is out of sight meanwhile and behind it -/
namespace L2
open PySem PySem.Spec PyProof.Rows PySem.W
section
variable {X : Cx} {pins : List (Addr × Obj)} {σ : St} {H : Hp} {s : Shared} {d : Addr}
end
def Itd (ks : List Int) : It := ⟨fun i _ => i < ks.length, fun i H x H' => H' = H ∧ ∃ k, ks[i]? = some k ∧ x = .int k, fun i _ => i = ks.length⟩
section
variable {X : Cx} {σ : St} {H : Hp} {a e : Expr} {tg : Expr} {pos : Pos} {R : It → Hp → Prop} {D : Ends}
end
end L2

/-! isinstance(e, (a, b, ..)) of an exception -/
namespace L2
open PySem PySem.Spec PyProof.Rows PySem.W
section
variable {X : Cx} {H : Hp} {Q : VK} {e C : Addr} {D : Option Addr} {k : Bool}
end
section
variable {X : Cx} {σ σ' : St} {H : Hp} {Q : VK} {a b tg elt : Expr} {scope : Scope} {p p' pos : Pos}
theorem ea_mono {es : List Expr} {R R' : List V → Hp → Prop} (h : EA X es σ H R) (m : ∀ vs H', R vs H' → R' vs H') : EA X es σ H R' := fun pos pins s I => thn (h pos pins s I) fun _ _ ⟨vs, H', I', r, q⟩ => ⟨vs, H', I', r, m vs H' q⟩
end
end L2

/-! list.count of True or False -/
namespace L2
open PySem PySem.Spec PyProof.Rows PySem.W
section
variable {X : Cx} {H : Hp} {Q : VK}
end
end L2
/-! x is not False; for over range(a, b) -/
namespace L2
open PySem PySem.Spec PyProof.Rows PySem.W
section
variable {X : Cx} {H : Hp} {Q : VK}
variable {σ : St} {a b tg : Expr} {p p' pos : Pos} {D : Ends}
theorem sx_forR2 {body : List Stmt} (hp : PassesOwn (model X.prog X.w) X.A X.env X.xe) (hc : X.calm = true) (hg : Gl X "range") (hm : X.mg "range" = none) (hs : starEach [a, b] X.env = [(false, eval a X.env), (false, eval b X.env)]) (hs2 : starEach [b] X.env = [(false, eval b X.env)])
    (h : EA X [a, b] σ H fun vs H1 => ∃ i j : Int, vs = [.int i, .int j] ∧ (-(2 ^ 62) ≤ i ∧ i < 2 ^ 62 ∧ -(2 ^ 62) ≤ j ∧ j < 2 ^ 62) ∧ ∃ Pv : Nat → St → Hp → Prop, Pv 0 σ H1 ∧
      (∀ n σ' H', n < (j - i).toNat → Pv n σ' H' → EG X tg (.int (i + n)) σ' H' fun σ2 H2 => SXs X body { D with nx := Pv (n + 1), ct := Pv (n + 1), bk := D.nx } σ2 H2) ∧ ∀ σ' H', Pv (j - i).toNat σ' H' → D.nx σ' H') :
    SX X (.For tg (.Call (.Name "range" p) [a, b] [] p') body [] pos) D σ H := by
  refine sx_for hp hc (by intro _; rfl) (ei_range2 hg hm hs hs2 (ea_mono h fun vs H1 q => ?_))
  obtain ⟨i, j, rfl, h1, Pv, h0, hst, hd⟩ := q
  exact ⟨i, j, rfl, h1, for_range (g := EG X tg) (tb := SXs X body) Pv h0 (fun n σ' H' hn hP => hst n σ' H' hn hP) hd⟩
end
end L2

/-! a dict of three written pairs -/
namespace L2
open PySem PySem.Spec PyProof.Rows PySem.W
section
variable {X : Cx} {σ : St} {H : Hp} {Q : VK} {pos : Pos}
end
end L2

/-! raise .. from None within an except suite -/
namespace L2
open PySem PySem.Spec PyProof.Rows
def refAt : Option Addr → Value
  | none => .none
  | some b => .ref b
section
variable {prog : Program} {w : World} {A : Around} {E : Value → Shared → Prop} {s : Shared} {env : Env}
end
section
variable {prog : Program} {w : World} {A : Around} {E : Value → Shared → Prop} {s : Shared} {env : Env}
variable {nm q : Str} {C N : Addr} {bs bm : List Value} {hdct : Bool} {sn : List Str} {sub : List Value} {ab : Bool} {col : Option Bool} {dd : Option Addr} {k0 k1 k2 k3 k5 : Option Value}
end
end L2

namespace L2
open PySem PySem.Spec PyProof.Rows
section
variable {X : Cx} {Kx : St → XK} {D : Ends} {σ : St} {H : Hp} {rest : List ExceptHandler} {pos np ynp cpos rpos p0 : Pos} {x y fld : Str} {cls c : Value} {d : Option Addr × Bool} {a : Expr} {as : List Expr} {cc : Bool} {k k' j0 : Nat}
end
end L2

/-! str.rpartition by one sign -/
namespace L2
open PySem PySem.Spec PyProof.Rows PySem.Builtin PySem.Builtin.Str
def lastP (p : Nat → Bool) : Nat → Option Nat
  | 0 => none
  | n + 1 => if p n = true then some n else lastP p n
section
variable {X : Cx} {H : Hp} {Q : VK} {z : Str}
end
end L2

/-! comprehensions with a test, over a list, whose elements are plain values -/
namespace L2
open PySem PySem.Spec PyProof.Rows
def keptF (keep : Nat → Bool) (val : Nat → V) (n : Nat) : List V := ((List.range n).filter keep).map val
theorem keptF_succ (keep : Nat → Bool) (val : Nat → V) (n : Nat) : keptF keep val (n + 1) = keptF keep val n ++ (if keep n = true then [val n] else []) := by
  unfold keptF
  rw [List.range_succ, List.filter_append, List.map_append]
  by_cases h : keep n = true
  · simp [h]
  · have h' : keep n = false := by simpa using h
    simp [h']
theorem keptF_len (keep : Nat → Bool) (val : Nat → V) (n : Nat) : (keptF keep val n).length ≤ n := by
  unfold keptF
  rw [List.length_map]
  have := List.length_filter_le keep (List.range n)
  rw [List.length_range] at this
  exact this
section
variable {X : Cx} {e c : Expr} {σ σ' : St} {H : Hp} {Q : VK} {D : Ends} {pos spos py : Pos} {tg elt : Expr} {scope : Scope} {y : Str} {j : Nat}
/-- what is wanted of a comprehension with a test -/
def CompF (X : Cx) (N' : List Str) (scope : Scope) (tg elt c : Expr) (σ' : St) (H1 : Hp) (Q : VK) (xs : List V) : Prop :=
  ∃ (Tp : St → Prop) (keep : Nat → Bool) (val : Nat → V), Tp σ' ∧
    (∀ (fp : List Addr) (E C : Addr) (s3 : Shared) (H0 : Hp) (i : Nat) (τ : St) (x : V) (H2 : Hp), H1 E = none → xs[i]? = some x → Tp τ → Same H1 H2 →
      EG (blk X N' scope (closL scope X.env) C s3 H0 fp) tg x τ H2 fun τ2 H3 => ET (blk X N' scope (closL scope X.env) C s3 H0 fp) c τ2 H3 fun k H4 => k = keep i ∧ Tp τ2 ∧ Same H2 H4 ∧ (k = true → EV (blk X N' scope (closL scope X.env) C s3 H0 fp) elt τ2 H4 fun v H5 => v = val i ∧ Same H4 H5)) ∧
    ∀ (E : Addr) (H2 : Hp), H1 E = none → H2 E = some (.lst (keptF keep val xs.length)) → Same H1 H2 → Q (.ref E) H2
theorem compF {N' : List Str} {l : Addr} {xs : List V} (hn : xs.length ≤ sizeLine) (hl : SqL X.K H l xs) (h : CompF X N' scope tg elt c σ' H Q xs) :
    ∀ (fp : List Addr) (E C : Addr) (s3 : Shared), H E = none → CompT X (blk X N' scope (closL scope X.env) C s3 (upd H E (.lst [])) fp) tg elt [c] (Itl X.K l) E σ' H (fun H' => Q (.ref E) H') := by
  intro fp E C s3 hE
  obtain ⟨Tp, keep, val, t0, step, fin⟩ := h
  refine ⟨fun i m τ H1 => m = xs.length - i ∧ i ≤ xs.length ∧ Same H H1 ∧ Tp τ ∧ H1 E = some (.lst (keptF keep val i)), ⟨xs.length, by simp, Nat.zero_le _, Same.upd hE, t0, upd_same⟩, ?_⟩
  rintro i m τ H1 ⟨rfl, hi, s1, hτ, eE⟩
  by_cases hlt : i < xs.length
  · refine .inr ⟨⟨xs, xs[i], Same.seq s1 hl, List.getElem?_eq_getElem hlt⟩, fun τ' H' => Same H H' ∧ Tp τ' ∧ H' E = some (.lst (keptF keep val (i + 1))), fun τ' H' ⟨a, b, d⟩ => ⟨xs.length - (i + 1), by omega, rfl, hlt, a, b, d⟩, fun x H2 yl => ?_⟩
    have hx : xs[i]? = some x := yl.2 xs (Same.seq s1 hl)
    have hH : H2 = H1 := yl.1
    subst hH
    intro pins s u I r
    refine thn (step fp E C s3 _ i τ x _ hE hx hτ s1 pins s u I r) fun _ s' ⟨τ2, H3, I3, q3⟩ => ⟨τ2, H3, I3, eifs_one ?_⟩
    refine fun pins s I => thn (q3 pins s I) fun k s' ⟨H4, I4, hk, t2, s2, q⟩ => ⟨H4, I4, ?_⟩
    subst hk
    have eK := keptF_succ keep val i
    have hkl := keptF_len keep val i
    by_cases hkp : keep i = true
    · rw [if_pos hkp]
      rw [if_pos hkp] at eK
      refine ev_mono (q hkp) fun v H5 ⟨ev, s5⟩ => ⟨keptF keep val i, s5 _ _ (s2 _ _ eE), by omega, ?_⟩
      subst ev
      refine ⟨fun b o e => ?_, t2, by rw [upd_same, eK]⟩
      rw [upd_ne (ne_of_none e hE)]
      exact s5 _ _ (s2 _ _ (s1 _ _ e))
    · rw [if_neg hkp]
      rw [if_neg hkp, List.append_nil] at eK
      exact ⟨s1.trans s2, t2, by rw [eK]; exact s2 _ _ eE⟩
  · have e : i = xs.length := by omega
    subst e
    exact .inl ⟨⟨xs, Same.seq s1 hl, Nat.le_refl _⟩, fin E H1 hE eE s1⟩
theorem sx_compF (N' : List Str) (hσ : capSt N' X.N σ scope = σ') (hsw : swapsWith (.ListComp elt [⟨tg, e, [c], 0⟩] scope pos) (some (.Name y py)) spos.line X.env = pure true) (hc : X.calm = true) (S : CompSc X.env scope) (hs : ∀ x, foldedSetIterable e X.env x = pure x)
    (hN : X.N.Nodup) (hi : nameAt X.N y = some j) (hx : X.env.scope.names.lookup y = some .local)
    (h : EV X e σ H fun v H1 => ∃ l xs, v = .ref l ∧ SqL X.K H1 l xs ∧ xs.length ≤ sizeLine ∧ CompF X N' scope tg elt c σ' H1 (fun v H' => D.nx (σ.set j (some v)) H') xs) :
    SX X (.Assign [.Name y py] (.ListComp elt [⟨tg, e, [c], 0⟩] scope pos) spos) D σ H := by
  refine sx_comp (N' := N') hsw hc S hs hN hi hx (ei_list (ev_mono h fun v H1 q => ?_))
  obtain ⟨l, xs, rfl, hl, hz, hw⟩ := q
  refine ⟨l, rfl, ⟨xs, hl⟩, ?_⟩
  rw [hσ]
  exact compF (Q := fun v H' => D.nx (σ.set j (some v)) H') hz hl hw
theorem call_min3 (hc : X.calm = true) : CallR X (.builtin "min") (fun xs H Q => ∃ i j k, xs = [.int i, .int j, .int k] ∧ ∀ m, (m = i ∨ m = j ∨ m = k) → m ≤ i → m ≤ j → m ≤ k → Q (.int m) H) := by
  intro pins s σ H xs us Q I r h
  obtain ⟨i, j, k, rfl, q⟩ := h
  obtain ⟨u, w', y', rfl, ⟨t, rfl⟩, ⟨t', rfl⟩, ⟨t'', rfl⟩⟩ := vals3 r
  refine min_three_ints (I.ok.hd hc) fun h' tk kp => ?_
  split
  · split
    · exact ⟨.int k, H, I.kept kp, ⟨_, rfl⟩, q k (by omega) (by omega) (by omega) (by omega)⟩
    · exact ⟨.int j, H, I.kept kp, ⟨_, rfl⟩, q j (by omega) (by omega) (by omega) (by omega)⟩
  · split
    · exact ⟨.int k, H, I.kept kp, ⟨_, rfl⟩, q k (by omega) (by omega) (by omega) (by omega)⟩
    · exact ⟨.int i, H, I.kept kp, ⟨_, rfl⟩, q i (by omega) (by omega) (by omega) (by omega)⟩
theorem c_min3 {i j k : Int} (hc : X.calm = true) (g : ∀ m, (m = i ∨ m = j ∨ m = k) → m ≤ i → m ≤ j → m ≤ k → Q (.int m) H) : CL X (.builtin "min") [.int i, .int j, .int k] H Q := cl_by (call_min3 hc) ⟨i, j, k, rfl, g⟩
end
end L2

/-! list(range(a, b)); comprehensions with a test over a text -/
namespace L2
open PySem PySem.Spec PyProof.Rows
section
variable {X : Cx} {e c : Expr} {es : List Expr} {σ σ' : St} {H : Hp} {Q : VK} {D : Ends} {p pos spos py : Pos} {tg elt : Expr} {scope : Scope} {y : Str} {j : Nat}
def rngL (a : Int) (n : Nat) : List V := (List.range n).map fun i => V.int (a + (i : Nat))
def signsV (z : Str) : List V := z.cps.toList.map fun c => V.str ⟨#[c]⟩
end
end L2

/-! except (A, B, C): raise Y("text") from None -/
namespace L2
open PySem PySem.Spec PyProof.Rows
section
variable {X : Cx} {Kx : St → XK} {D : Ends} {σ : St} {H : Hp} {rest : List ExceptHandler} {pos ynp cpos rpos p0 p1 p2 p3 tpos zp : Pos} {x1 x2 x3 y z : Str} {cls c1 c2 c3 : Value} {d : Option Addr × Bool} {kk j0 j1 : Nat} {name : Option Str} {body : List Stmt}
end
end L2

/-! [elt for (x, y) in zip(a, b)], whose elements may raise -/
namespace L2
open PySem PySem.Spec PyProof.Rows
section
variable {X : Cx} {a e : Expr} {σ σ' : St} {H : Hp} {Q : VK} {D : Ends} {pos spos py p p' : Pos} {tg elt iter : Expr} {scope : Scope} {Kx : St → XK} {y : Str} {j : Nat}
end
end L2

/-! no clause matches: the exception goes on -/
namespace L2
open PySem PySem.Spec PyProof.Rows
section
variable {X : Cx} {Kx : St → XK} {D : Ends} {σ : St} {H : Hp} {cls : Value} {d : Option Addr × Bool}
end
end L2

/-! text.upper() -/
namespace L2
open PySem PySem.Spec PyProof.Rows
/-- signs made great -/
def upC (c : Nat) : Nat := if 97 ≤ c ∧ c ≤ 122 then c - 32 else c
section
variable {X : Cx} {H : Hp} {Q : VK} {z : Str}
end
end L2

/-! for over a dict of ints that is shut (its object known and kept): it may be read meanwhile -/
namespace L2
open PySem PySem.Spec PyProof.Rows PySem.W
section
variable {X : Cx} {pins : List (Addr × Obj)} {σ : St} {H : Hp} {s : Shared} {d : Addr}
end
def Itf (d : Addr) (o : Obj) (kvs : List (Key × V)) (ks : List Int) : It := ⟨fun i H => i < ks.length ∧ H d = some (.frz o (.dK kvs)), fun i H x H' => H' = H ∧ ∃ k, ks[i]? = some k ∧ x = .int k, fun i H => i = ks.length ∧ H d = some (.frz o (.dK kvs))⟩
section
variable {X : Cx} {σ : St} {H : Hp} {a e : Expr} {tg : Expr} {pos : Pos} {R : It → Hp → Prop} {D : Ends}
end
end L2

/-! sorting: what the runs of comparisons come to -/
namespace L2
open PySem PySem.Spec PyProof.Rows PySem.W
/-- a run of comparisons that are answered by lt, of numbers below n -/
def pw {α : Type} (lt : Nat → Nat → Bool) (n : Nat) : KasT α → (α → Prop) → Prop
  | .ret a, Q => Q a
  | .ask i j k, Q => i < n ∧ j < n ∧ pw lt n (k (lt i j)) Q
theorem pw_bind {α β : Type} {lt : Nat → Nat → Bool} {n : Nat} {f : α → KasT β} {Q : β → Prop} : ∀ (t : KasT α), pw lt n t (fun a => pw lt n (f a) Q) → pw lt n (t.bind f) Q
  | .ret a, h => h
  | .ask i j k, h => ⟨h.1, h.2.1, pw_bind (k (lt i j)) h.2.2⟩
theorem pw_mono {α : Type} {lt : Nat → Nat → Bool} {n : Nat} {Q Q' : α → Prop} (hq : ∀ a, Q a → Q' a) : ∀ (t : KasT α), pw lt n t Q → pw lt n t Q'
  | .ret a, h => hq a h
  | .ask i j k, h => ⟨h.1, h.2.1, pw_mono hq (k (lt i j)) h.2.2⟩
theorem pw_wp {α : Type} {lt : Nat → Nat → Bool} {n : Nat} {cmp : Nat → Nat → (Bool → Shared → Prop) → Shared → Prop} {I : Shared → Prop} {G : α → Shared → Prop}
    (hc : ∀ i j C s, i < n → j < n → I s → (∀ s', I s' → C (lt i j) s') → cmp i j C s) : ∀ (t : KasT α) (s : Shared), I s → pw lt n t (fun a => ∀ s, I s → G a s) → t.kasWp cmp G s
  | .ret a, s, hs, h => h s hs
  | .ask i j k, s, hs, h => hc i j _ s h.1 h.2.1 hs fun s' hs' => pw_wp hc (k (lt i j)) s' hs' h.2.2
/-- a strict weak order -/
structure Swo (lt : Nat → Nat → Bool) : Prop where
  ir : ∀ i, lt i i = false
  tr : ∀ i j k, lt i j = true → lt j k = true → lt i k = true
  nt : ∀ i j k, lt i k = true → lt i j = true ∨ lt j k = true
section
variable {lt : Nat → Nat → Bool} {n : Nat} (W : Swo lt)
theorem Swo.as (W : Swo lt) {i j : Nat} (h : lt i j = true) : lt j i = false := by
  rw [Bool.eq_false_iff]
  intro h2
  have := W.tr i j i h h2
  rw [W.ir] at this
  cases this
/-- the order of the places: by lt, else by the places themselves -/
def Rk (lt : Nat → Nat → Bool) (i j : Nat) : Prop := lt i j = true ∨ (lt j i = false ∧ i < j)
theorem Swo.lt_r (W : Swo lt) {a b c : Nat} (h : lt a b = true) (h2 : lt c b = false) : lt a c = true := by
  rcases W.nt a c b h with h | h
  · exact h
  · rw [h2] at h; cases h
theorem Swo.lt_l (W : Swo lt) {a b c : Nat} (h : lt b c = true) (h2 : lt b a = false) : lt a c = true := by
  rcases W.nt b a c h with h | h
  · rw [h2] at h; cases h
  · exact h
theorem Swo.rtr (W : Swo lt) {i j k : Nat} (h : Rk lt i j) (h2 : Rk lt j k) : Rk lt i k := by
  rcases h with h | ⟨h, h'⟩
  · rcases h2 with h2 | ⟨h2, h2'⟩
    · exact .inl (W.tr _ _ _ h h2)
    · exact .inl (W.lt_r h h2)
  · rcases h2 with h2 | ⟨h2, h2'⟩
    · exact .inl (W.lt_l h2 h)
    · refine .inr ⟨?_, by omega⟩
      rw [Bool.eq_false_iff]
      intro h3
      rcases W.nt k j i h3 with h4 | h4
      · rw [h2] at h4; cases h4
      · rw [h] at h4; cases h4
abbrev gt (p : Array Nat) (k : Nat) : Nat := p.getD k 0
theorem gt_of {p : Array Nat} {k v : Nat} (h : p[k]? = some v) : gt p k = v := by
  obtain ⟨hk, e⟩ := Array.getElem?_eq_some_iff.mp h
  show p.getD k 0 = v
  simp [Array.getD, hk, e]
theorem gt_get {p : Array Nat} {k : Nat} (h : k < p.size) : p[k]? = some (gt p k) := by
  show p[k]? = some (p.getD k 0)
  simp [Array.getD, h]
theorem gt_rev {p : Array Nat} {i j k : Nat} (hj : j ≤ p.size) (hk : k < p.size) : gt (kas_rev p i j) k = if i ≤ k ∧ k < j then gt p (i + j - 1 - k) else gt p k := by
  apply gt_of
  unfold kas_rev
  rw [getElem?_mirror_all hj]
  by_cases h : i ≤ k ∧ k < j
  · rw [if_pos h, if_pos h]
    exact gt_get (by omega)
  · rw [if_neg h, if_neg h]
    exact gt_get hk
theorem rev_size' {p : Array Nat} {i j : Nat} : (kas_rev p i j).size = p.size := mirror_size _ _ _ _
theorem gt_bub {p : Array Nat} {k d j : Nat} (hk : k < p.size) (hd : d ≤ k) (hj : j < p.size) : gt (bubble p k d) j = if j = k - d then gt p k else if k - d < j ∧ j ≤ k then gt p (j - 1) else gt p j := by
  apply gt_of
  rw [getElem?_bubble hk d hd]
  by_cases h1 : j = k - d
  · rw [if_pos h1, if_pos h1]
    exact gt_get hk
  · rw [if_neg h1, if_neg h1]
    by_cases h2 : k - d < j ∧ j ≤ k
    · rw [if_pos h2, if_pos h2]
      exact gt_get (by omega)
    · rw [if_neg h2, if_neg h2]
      exact gt_get hj
/-- the places, and those from m on not yet moved -/
structure Pl (n : Nat) (p : Array Nat) (m : Nat) : Prop where
  size : p.size = n
  low : ∀ i, i < m → gt p i < m
  tail : ∀ k, m ≤ k → k < n → gt p k = k
  inj : ∀ i j, i < n → j < n → gt p i = gt p j → i = j
  pm : p.toList.Perm (List.range n)
theorem Pl.all {p : Array Nat} {m : Nat} (h : Pl n p m) (hm : m ≤ n) {i : Nat} (hi : i < n) : gt p i < n := by
  by_cases h1 : i < m
  · have := h.low i h1; omega
  · rw [h.tail i (by omega) hi]; exact hi
theorem Pl.up {p : Array Nat} {m : Nat} (h : Pl n p m) (hm : m < n) : Pl n p (m + 1) := by
  refine ⟨h.size, fun i hi => ?_, fun k h1 h2 => h.tail k (by omega) h2, h.inj, h.pm⟩
  by_cases h1 : i < m
  · have := h.low i h1; omega
  · have e : i = m := by omega
    subst e
    rw [h.tail i (Nat.le_refl _) hm]
    omega
theorem Pl.rev {p : Array Nat} {m i j : Nat} (h : Pl n p m) (hm : m ≤ n) (hj : j ≤ m) : Pl n (kas_rev p i j) m := by
  have hs := h.size
  refine ⟨by rw [rev_size']; exact hs, fun k hk => ?_, fun k h1 h2 => ?_, fun a b ha hb e => ?_, (Array.perm_iff_toList_perm.mp (mirror_perm p i j ((j - i) / 2))).trans h.pm⟩
  · rw [gt_rev (by omega) (by omega)]
    split
    · exact h.low _ (by omega)
    · exact h.low _ hk
  · rw [gt_rev (by omega) (by omega), if_neg (by omega)]
    exact h.tail k h1 h2
  · rw [gt_rev (by omega) (by omega), gt_rev (by omega) (by omega)] at e
    split at e <;> split at e
    · have := h.inj _ _ (by omega) (by omega) e; omega
    · have := h.inj _ _ (by omega) (by omega) e; omega
    · have := h.inj _ _ (by omega) (by omega) e; omega
    · exact h.inj _ _ ha hb e
/-- the first m are in order -/
def Asc (lt : Nat → Nat → Bool) (p : Array Nat) (m : Nat) : Prop := ∀ i j, i < j → j < m → Rk lt (gt p i) (gt p j)
def Dsc (lt : Nat → Nat → Bool) (p : Array Nat) (m : Nat) : Prop := ∀ i j, i < j → j < m → Rk lt (gt p j) (gt p i)
theorem Dsc.rev {p : Array Nat} {m : Nat} (h : Dsc lt p m) (hm : m ≤ p.size) : Asc lt (kas_rev p 0 m) m := by
  intro i j hij hj
  rw [gt_rev hm (by omega), gt_rev hm (by omega), if_pos (by omega), if_pos (by omega)]
  exact h _ _ (by omega) (by omega)
theorem asc_pw (W : Swo lt) {p : Array Nat} : ∀ (f m : Nat), 1 ≤ m → m + f ≤ n → Pl n p m → Asc lt p m → pw lt n (kas_asc p f m) fun m' => m ≤ m' ∧ m' ≤ m + f ∧ Pl n p m' ∧ Asc lt p m' ∧ (m' < m + f → lt (gt p m') (gt p (m' - 1)) = true)
  | 0, m, h1, hm, hp, ha => ⟨Nat.le_refl _, Nat.le_refl _, hp, ha, fun h => absurd h (by omega)⟩
  | f + 1, m, h1, hm, hp, ha => by
    refine ⟨hp.all (by omega) (by omega), hp.all (by omega) (by omega), ?_⟩
    cases e : lt (gt p m) (gt p (m - 1)) with
    | true =>
      show pw lt n (if true = true then _ else _) _
      rw [if_pos rfl]
      exact ⟨Nat.le_refl _, by omega, hp, ha, fun _ => e⟩
    | false =>
      show pw lt n (if false = true then _ else _) _
      rw [if_neg (by decide)]
      have hn : Rk lt (gt p (m - 1)) (gt p m) := .inr ⟨e, by rw [hp.tail m (Nat.le_refl _) (by omega)]; exact hp.low _ (by omega)⟩
      refine pw_mono (fun m' h => ⟨by omega, by omega, h.2.2.1, h.2.2.2.1, fun h2 => h.2.2.2.2 (by omega)⟩) _ (asc_pw W f (m + 1) (by omega) (by omega) (hp.up (by omega)) fun i j hij hj => ?_)
      by_cases hjm : j < m
      · exact ha i j hij hjm
      · have e2 : j = m := by omega
        subst e2
        by_cases him : i = j - 1
        · rw [him]; exact hn
        · exact W.rtr (ha i (j - 1) (by omega) (by omega)) hn
/-- a falling run whose last q + 1 are alike and stand as they stood -/
structure Dn (lt : Nat → Nat → Bool) (p : Array Nat) (m q : Nat) : Prop where
  few : q + 1 ≤ m
  ahead : ∀ i j, i < j → j < m - (q + 1) → Rk lt (gt p j) (gt p i)
  drop : ∀ i j, i < m - (q + 1) → m - (q + 1) ≤ j → j < m → lt (gt p j) (gt p i) = true
  like : ∀ i j, m - (q + 1) ≤ i → i < j → j < m → lt (gt p i) (gt p j) = false ∧ lt (gt p j) (gt p i) = false ∧ gt p i < gt p j
theorem Dn.done {p : Array Nat} {m q : Nat} (h : Dn lt p m q) (hm : m ≤ p.size) : Dsc lt (if q > 0 then kas_rev p (m - (q + 1)) m else p) m := by
  have h1 := h.few
  by_cases hq : q > 0
  · rw [if_pos hq]
    intro i j hij hj
    rw [gt_rev hm (by omega), gt_rev hm (by omega)]
    by_cases hi : m - (q + 1) ≤ i
    · rw [if_pos (by omega), if_pos (by omega)]
      have := h.like (m - (q + 1) + m - 1 - j) (m - (q + 1) + m - 1 - i) (by omega) (by omega) (by omega)
      exact .inr ⟨this.2.1, this.2.2⟩
    · rw [if_neg (show ¬ (m - (q + 1) ≤ i ∧ i < m) by omega)]
      by_cases hj2 : m - (q + 1) ≤ j
      · rw [if_pos (by omega)]
        exact .inl (h.drop _ _ (by omega) (by omega) (by omega))
      · rw [if_neg (by omega)]
        exact h.ahead i j hij (by omega)
  · rw [if_neg hq]
    intro i j hij hj
    by_cases hj2 : m - (q + 1) ≤ j
    · exact .inl (h.drop _ _ (by omega) hj2 hj)
    · exact h.ahead i j hij (by omega)
theorem Dsc.next (W : Swo lt) {p : Array Nat} {m : Nat} (h : Dsc lt p m) (h1 : 1 ≤ m) (hl : ∀ i, i < m → lt (gt p m) (gt p i) = true) : Dn lt p (m + 1) 0 := by
  refine ⟨by omega, fun i j hij hj => h i j hij (by omega), fun i j hi hj hj2 => ?_, fun i j a b c => absurd b (by omega)⟩
  have e : j = m := by omega
  subst e
  exact hl i (by omega)
theorem Dsc.low (W : Swo lt) {p : Array Nat} {m x : Nat} (h : Dsc lt p m) (h1 : 1 ≤ m) (hl : lt x (gt p (m - 1)) = true) : ∀ i, i < m → lt x (gt p i) = true := by
  intro i hi
  by_cases e : i = m - 1
  · rw [e]; exact hl
  · rcases h i (m - 1) (by omega) (by omega) with h2 | ⟨h2, _⟩
    · exact W.tr _ _ _ hl h2
    · exact W.lt_r hl h2
theorem desc_pw (W : Swo lt) : ∀ (f : Nat) (p : Array Nat) (m q : Nat), m + f ≤ n → Pl n p m → Dn lt p m q → pw lt n (kas_desc f p m q) fun r => m ≤ r.2.1 ∧ r.2.1 ≤ m + f ∧ Pl n r.1 r.2.1 ∧ Dn lt r.1 r.2.1 r.2.2
  | 0, p, m, q, hm, hp, hd => ⟨Nat.le_refl _, Nat.le_refl _, hp, hd⟩
  | f + 1, p, m, q, hm, hp, hd => by
    have hfew := hd.few
    have hsz := hp.size
    refine ⟨hp.all (by omega) (by omega), hp.all (by omega) (by omega), ?_⟩
    cases e : lt (gt p m) (gt p (m - 1)) with
    | true =>
      show pw lt n (if true = true then _ else _) _
      rw [if_pos rfl]
      have hD := hd.done (by omega)
      by_cases hq : q > 0
      · rw [if_pos hq] at hD ⊢
        have hpr := hp.rev (i := m - (q + 1)) (j := m) (by omega) (Nat.le_refl _)
        have em : gt (kas_rev p (m - (q + 1)) m) m = gt p m := by rw [gt_rev (by omega) (by omega), if_neg (by omega)]
        have el : gt (kas_rev p (m - (q + 1)) m) (m - 1) = gt p (m - (q + 1)) := by
          rw [gt_rev (by omega) (by omega), if_pos (by omega)]
          congr 1
          omega
        have hx : lt (gt p m) (gt p (m - (q + 1))) = true := W.lt_r e (hd.like (m - (q + 1)) (m - 1) (Nat.le_refl _) (by omega) (by omega)).1
        refine pw_mono (fun r h => ⟨by omega, by omega, h.2.2⟩) _ (desc_pw W f _ (m + 1) 0 (by omega) (hpr.up (by omega)) (hD.next W (by omega) fun i hi => ?_))
        rw [em]
        exact hD.low W (by omega) (by rw [el]; exact hx) i hi
      · rw [if_neg hq] at hD ⊢
        refine pw_mono (fun r h => ⟨by omega, by omega, h.2.2⟩) _ (desc_pw W f _ (m + 1) 0 (by omega) (hp.up (by omega)) (hD.next W (by omega) (hD.low W (by omega) e)))
    | false =>
      show pw lt n (if false = true then _ else _) _
      rw [if_neg (by decide)]
      refine ⟨hp.all (by omega) (by omega), hp.all (by omega) (by omega), ?_⟩
      cases e2 : lt (gt p (m - 1)) (gt p m) with
      | true =>
        show pw lt n (if true = true then _ else _) _
        rw [if_pos rfl]
        exact ⟨Nat.le_refl m, show m ≤ m + (f + 1) by omega, hp, hd⟩
      | false =>
        show pw lt n (if false = true then _ else _) _
        rw [if_neg (by decide)]
        have hgm := hp.tail m (Nat.le_refl _) (by omega)
        refine pw_mono (fun r h => ⟨by omega, by omega, h.2.2⟩) _ (desc_pw W f p (m + 1) (q + 1) (by omega) (hp.up (by omega)) ⟨by omega, fun i j hij hj => hd.ahead i j hij (by omega), fun i j hi hj hj2 => ?_, fun i j hi hij hj => ?_⟩)
        · by_cases hjm : j < m
          · exact hd.drop i j (by omega) (by omega) hjm
          · have ej : j = m := by omega
            subst ej
            exact W.lt_l (hd.drop i (j - 1) (by omega) (by omega) (by omega)) e2
        · by_cases hjm : j < m
          · exact hd.like i j (by omega) hij hjm
          · have ej : j = m := by omega
            subst ej
            have hlow : gt p i < gt p j := by rw [hgm]; exact hp.low i (by omega)
            by_cases hi2 : i = j - 1
            · rw [hi2]; rw [hi2] at hlow; exact ⟨e2, e, hlow⟩
            · have h3 := hd.like i (j - 1) (by omega) (by omega) (by omega)
              refine ⟨?_, ?_, hlow⟩
              · rw [Bool.eq_false_iff]
                intro h4
                rcases W.nt _ (gt p (j - 1)) _ h4 with h5 | h5
                · rw [h3.1] at h5; cases h5
                · rw [e2] at h5; cases h5
              · rw [Bool.eq_false_iff]
                intro h4
                rcases W.nt _ (gt p (j - 1)) _ h4 with h5 | h5
                · rw [e] at h5; cases h5
                · rw [h3.2.1] at h5; cases h5
theorem tail3_pw (W : Swo lt) {p : Array Nat} {m : Nat} (h1 : 1 ≤ m) (hm : m ≤ n) (hp : Pl n p m) (hd : Dsc lt p m) : pw lt n (kas_tail3 m n p) fun r => 1 ≤ r.1 ∧ r.1 ≤ n ∧ Pl n r.2 r.1 ∧ Asc lt r.2 r.1 := by
  have hsz := hp.size
  refine pw_bind _ (pw_mono (fun m' h => ⟨by show 1 ≤ m'; omega, by show m' ≤ n; omega, h.2.2.1, h.2.2.2.1⟩) _ (asc_pw W (n - m) m h1 (by omega) (hp.rev hm (Nat.le_refl _)) (hd.rev (by omega))))
theorem descPart_pw (W : Swo lt) {p : Array Nat} {m : Nat} (h1 : 1 ≤ m) (hm : m < n) (hp : Pl n p m) (hd : Dsc lt p m) (hl : lt (gt p m) (gt p (m - 1)) = true) : pw lt n (kas_descPart m n p) fun r => 1 ≤ r.1 ∧ r.1 ≤ n ∧ Pl n r.2 r.1 ∧ Asc lt r.2 r.1 := by
  refine pw_bind _ (pw_mono (fun r h => ?_) _ (desc_pw W (n - (m + 1)) p (m + 1) 0 (by omega) (hp.up hm) (hd.next W h1 (hd.low W h1 hl))))
  obtain ⟨a1, a2, a3, a4⟩ := h
  have hsz := a3.size
  have hD := a4.done (by omega)
  show pw lt n (if r.2.2 > 0 then _ else _) _
  by_cases hq : r.2.2 > 0
  · rw [if_pos hq] at hD ⊢
    exact tail3_pw W (by omega) (by omega) (a3.rev (by omega) (Nat.le_refl _)) hD
  · rw [if_neg hq] at hD ⊢
    exact tail3_pw W (by omega) (by omega) a3 hD
theorem range_pl : Pl n (List.toArray (List.range n)) 1 := by
  have hg : ∀ k, k < n → gt (List.toArray (List.range n)) k = k := fun k hk => gt_of (by simp [hk])
  refine ⟨by simp, fun i hi => ?_, fun k _ h2 => hg k h2, fun i j hi hj e => by rwa [hg i hi, hg j hj] at e, by simp⟩
  by_cases h : i < n
  · rw [hg i h]; exact hi
  · show (List.toArray (List.range n)).getD i 0 < 1
    simp [Array.getD, h]
theorem count_pw (W : Swo lt) (h1 : 1 ≤ n) : pw lt n (kas_count n (List.toArray (List.range n))) fun r => 1 ≤ r.1 ∧ r.1 ≤ n ∧ Pl n r.2 r.1 ∧ Asc lt r.2 r.1 := by
  refine pw_bind _ (pw_mono (fun m h => ?_) _ (asc_pw W (n - 1) 1 (Nat.le_refl _) (by omega) range_pl fun i j a b => absurd a (by omega)))
  obtain ⟨a1, a2, a3, a4, a5⟩ := h
  have hsz := a3.size
  show pw lt n (if (m == n) = true then _ else _) _
  by_cases hmn : m = n
  · rw [if_pos (by rw [beq_iff_eq]; exact hmn)]
    exact ⟨by show 1 ≤ m; omega, by show m ≤ n; omega, a3, a4⟩
  · rw [if_neg (by rw [beq_iff_eq]; exact hmn)]
    have hlt := a5 (by omega)
    by_cases hm1 : m > 1
    · rw [if_pos hm1]
      refine ⟨a3.all (by omega) (by omega), a3.all (by omega) (by omega), ?_⟩
      cases e : lt (gt (List.toArray (List.range n)) 0) (gt (List.toArray (List.range n)) (m - 1)) with
      | true =>
        show pw lt n (if true = true then _ else _) _
        rw [if_pos rfl]
        exact ⟨by show 1 ≤ m; omega, by show m ≤ n; omega, a3, a4⟩
      | false =>
        show pw lt n (if false = true then _ else _) _
        rw [if_neg (by decide)]
        generalize List.toArray (List.range n) = p at a3 a4 hlt e hsz ⊢
        -- all alike
        have le0 : ∀ i, i < m → lt (gt p i) (gt p 0) = false := fun i hi => by
          by_cases h0 : i = 0
          · rw [h0]; exact W.ir _
          · rcases a4 0 i (by omega) hi with h | h
            · exact W.as h
            · exact h.1
        have leL : ∀ j, j < m → lt (gt p (m - 1)) (gt p j) = false := fun j hj => by
          by_cases h0 : j = m - 1
          · rw [h0]; exact W.ir _
          · rcases a4 j (m - 1) (by omega) (by omega) with h | h
            · exact W.as h
            · exact h.1
        have like : ∀ i j, i < m → j < m → lt (gt p i) (gt p j) = false := fun i j hi hj => by
          rw [Bool.eq_false_iff]
          intro h
          rcases W.nt _ (gt p 0) _ h with h2 | h2
          · rw [le0 i hi] at h2; cases h2
          · rcases W.nt _ (gt p (m - 1)) _ h2 with h3 | h3
            · rw [e] at h3; cases h3
            · rw [leL j hj] at h3; cases h3
        have hD : Dsc lt (kas_rev p 0 m) m := fun i j hij hj => by
          rw [gt_rev (by omega) (by omega), gt_rev (by omega) (by omega), if_pos (by omega), if_pos (by omega)]
          refine .inr ⟨like _ _ (by omega) (by omega), ?_⟩
          rcases a4 (0 + m - 1 - j) (0 + m - 1 - i) (by omega) (by omega) with h | h
          · rw [like _ _ (by omega) (by omega)] at h; cases h
          · exact h.2
        refine descPart_pw W a1 (by omega) (a3.rev (by omega) (Nat.le_refl _)) hD ?_
        rw [gt_rev (by omega) (by omega), gt_rev (by omega) (by omega), if_neg (by omega), if_pos (by omega)]
        exact W.lt_r hlt (like _ _ (by omega) (by omega))
    · rw [if_neg hm1]
      have em : m = 1 := by omega
      subst em
      exact descPart_pw W a1 (by omega) a3 (fun i j a b => absurd a (by omega)) hlt
theorem place_pw (W : Swo lt) {p : Array Nat} {k : Nat} (hk : k < n) (hp : Pl n p k) (ha : Asc lt p k) : ∀ (f l r : Nat), r - l ≤ f → l ≤ r → r ≤ k → (∀ i, i < l → lt (gt p k) (gt p i) = false) → (∀ i, r ≤ i → i < k → lt (gt p k) (gt p i) = true) →
    pw lt n (kas_place p k f l r) fun l' => l' ≤ k ∧ (∀ i, i < l' → lt (gt p k) (gt p i) = false) ∧ ∀ i, l' ≤ i → i < k → lt (gt p k) (gt p i) = true
  | 0, l, r, hf, hlr, hr, h1, h2 => ⟨by omega, h1, fun i a b => h2 i (by omega) b⟩
  | f + 1, l, r, hf, hlr, hr, h1, h2 => by
    show pw lt n (if l ≥ r then _ else _) _
    by_cases h : l ≥ r
    · rw [if_pos h]
      exact ⟨by omega, h1, fun i a b => h2 i (by omega) b⟩
    · rw [if_neg h]
      have hmid : (l + r) / 2 < r ∧ l ≤ (l + r) / 2 := by omega
      refine ⟨hp.all (by omega) hk, hp.all (by omega) (by omega), ?_⟩
      cases e : lt (gt p k) (gt p ((l + r) / 2)) with
      | true =>
        show pw lt n (if true = true then _ else _) _
        rw [if_pos rfl]
        refine place_pw W hk hp ha f l ((l + r) / 2) (by omega) (by omega) (by omega) h1 fun i a b => ?_
        by_cases hi : i = (l + r) / 2
        · rw [hi]; exact e
        · rcases ha ((l + r) / 2) i (by omega) b with h3 | h3
          · exact W.tr _ _ _ e h3
          · exact W.lt_r e h3.1
      | false =>
        show pw lt n (if false = true then _ else _) _
        rw [if_neg (by decide)]
        refine place_pw W hk hp ha f ((l + r) / 2 + 1) r (by omega) (by omega) hr (fun i a => ?_) h2
        by_cases hi : i = (l + r) / 2
        · rw [hi]; exact e
        · rw [Bool.eq_false_iff]
          intro h4
          rcases ha i ((l + r) / 2) (by omega) (by omega) with h3 | h3
          · have := W.tr _ _ _ h4 h3
            rw [e] at this; cases this
          · have := W.lt_r h4 h3.1
            rw [e] at this; cases this
theorem bin_pw (W : Swo lt) : ∀ (f : Nat) (p : Array Nat) (k : Nat), k + f = n → Pl n p k → Asc lt p k → pw lt n (kas_bin f p k) fun p' => Pl n p' n ∧ Asc lt p' n
  | 0, p, k, hk, hp, ha => by
    have e : k = n := by omega
    subst e
    exact ⟨hp, ha⟩
  | f + 1, p, k, hk, hp, ha => by
    have hsz := hp.size
    refine pw_bind _ (pw_mono (fun l h => ?_) _ (place_pw W (by omega) hp ha k 0 k (by omega) (by omega) (Nat.le_refl _) (fun i hi => absurd hi (by omega)) fun i a b => absurd a (by omega)))
    obtain ⟨hl, h1, h2⟩ := h
    have hb : ∀ j, j < n → gt (bubble p k (k - l)) j = if j = l then gt p k else if l < j ∧ j ≤ k then gt p (j - 1) else gt p j := fun j hj => by
      rw [gt_bub (by omega) (by omega) (by omega), show k - (k - l) = l by omega]
    have hgk := hp.tail k (Nat.le_refl _) (by omega)
    refine bin_pw W f _ (k + 1) (by omega) ⟨by rw [bubble_size]; exact hsz, fun i hi => ?_, fun i a b => ?_, fun i j hi hj e => ?_, (Array.perm_iff_toList_perm.mp (bubble_perm p k (k - l))).trans hp.pm⟩ fun i j hij hj => ?_
    · rw [hb i (by omega)]
      split
      · rw [hgk]; omega
      · split
        · have := hp.low (i - 1) (by omega); omega
        · have := hp.low i (by omega); omega
    · rw [hb i b, if_neg (by omega), if_neg (by omega)]
      exact hp.tail i (by omega) b
    · rw [hb i hi, hb j hj] at e
      repeat' split at e
      all_goals first
        | (have := hp.inj _ _ (by omega) (by omega) e; omega)
    · rw [hb i (by omega), hb j (by omega)]
      by_cases hil : i < l
      · rw [if_neg (by omega), if_neg (by omega)]
        by_cases hjl : j = l
        · rw [if_pos hjl]
          exact .inr ⟨h1 i hil, by rw [hgk]; exact hp.low i (by omega)⟩
        · rw [if_neg hjl]
          split
          · exact ha i (j - 1) (by omega) (by omega)
          · exact ha i j hij (by omega)
      · by_cases hil2 : i = l
        · rw [if_pos hil2, if_neg (by omega), if_pos (by omega)]
          exact .inl (h2 (j - 1) (by omega) (by omega))
        · rw [if_neg hil2, if_pos (by omega), if_neg (by omega), if_pos (by omega)]
          exact ha (i - 1) (j - 1) (by omega) (by omega)
/-- sorted: the places in the order of lt, those alike as they stood -/
theorem sort_pw (W : Swo lt) (h1 : 1 ≤ n) : pw lt n (kas_sort n) fun p => Pl n p n ∧ Asc lt p n := by
  refine pw_bind _ (pw_mono (fun r h => ?_) _ (count_pw W h1))
  obtain ⟨a1, a2, a3, a4⟩ := h
  show pw lt n (if r.1 < n then _ else _) _
  by_cases h : r.1 < n
  · rw [if_pos h, show max r.1 1 = r.1 by omega]
    exact bin_pw W (n - r.1) r.2 r.1 (by omega) a3 a4
  · rw [if_neg h]
    have e : r.1 = n := by omega
    rw [e] at a3 a4
    exact ⟨a3, a4⟩
end
end L2

/-! sorted(xs, key=f), sorted(xs, key=f, reverse=True), at a state -/
namespace L2
open PySem PySem.Spec PyProof.Rows PySem.W
/-- within two builtins -/
abbrev Cx.in2 (X : Cx) : Cx := { X with A := X.A.in1.in1 }
section
variable {X : Cx} {pins : List (Addr × Obj)} {σ : St} {H : Hp} {s : Shared}
theorem Cx.Ok.in2 (ok : X.Ok) : X.in2.Ok :=
  ⟨ok.mod, ok.kind, ok.glob, ok.blt, ok.above, ok.inj, ok.has, ok.cab, ok.hd, ok.frames, ok.stk, ok.exf, ok.bs, ok.bsz, ok.noex, ok.exfs, ok.funs, ok.frf⟩
theorem Inv.in2 (I : Inv X pins σ H s) : Inv X.in2 pins σ H s := ⟨I.ok.in2, I.os, I.bare, I.base, I.loc, I.cell, I.free, I.freeC, I.pin, I.hok, I.len⟩
theorem Inv.un2 (ok : X.Ok) (I : Inv X.in2 pins σ H s) : Inv X pins σ H s := ⟨ok, I.os, I.bare, I.base, I.loc, I.cell, I.free, I.freeC, I.pin, I.hok, I.len⟩
theorem Inv.adoptO {e : Addr} {o : HO} (I : Inv X pins σ H s) (hn : H e = none) (c : Ch X pins e) (ok : ObjOk X.prog X.w (upd H e o) s.heap e o) : Inv X pins σ (upd H e o) s := by
  have ne : ∀ b u, H b = some u → b ≠ e := fun b u q => ne_of_none q hn
  have := I.step (h' := s.heap) (H' := upd H e o) (g' := s.gens) (d' := s.drawn) (t' := s.toks) (ch := [e]) (fun b hb => ?_) (fun b o _ _ _ q _ => q) (fun b o _ _ _ q _ => ⟨o.slots, q⟩) (fun b o hc _ n => ?_) (fun b o _ q => ⟨o, q⟩) (fun b xs q => ?_) (fun b o u q => ?_) (fun b ps q => ?_) (fun m hm => hm) (fun b u q => ?_) I.bare
  · exact this
  · have z : b = e := by simpa using hb
    subst z
    exact c
  · rw [upd_ne (fun z => hc (by simp [z]))]; exact n
  · rw [upd_ne (ne _ _ q)]; exact q
  · rw [upd_ne (ne _ _ q)]; exact q
  · exact ⟨#[], by rw [upd_ne (ne _ _ q), q]; simp⟩
  · by_cases z : b = e
    · subst z
      rw [upd_same] at q
      cases q
      exact ok
    · rw [upd_ne z] at q
      exact (I.hok b u q).stay (fun _ _ _ r => r) (fun c r => by rw [upd_ne (ne _ _ r)]; exact r) (fun c xs r => by rw [upd_ne (ne _ _ r)]; exact r) fun c ob v r => by rw [upd_ne (ne _ _ r)]; exact r
theorem FpOk.ch {b : Addr} (f : FpOk X pins H b) : Ch X pins b := ⟨f.2.2.2.1, f.2.1, f.2.2.2.2.1, f.2.2.2.2.2⟩
/-- a list of ours that no one else sees -/
def Ours (X : Cx) (pins : List (Addr × Obj)) (H : Hp) (s : Shared) (b : Addr) (vs : List Value) (e : Nat) : Prop := s.heap.get? b = some (seqObj "list" vs.toArray e) ∧ FpOk X pins H b
theorem seq_nocell {c : String} {xs : Array Value} {e : Nat} : ∀ v, (seqObj c xs e).data ≠ .cell v := fun v h => by cases h
theorem Ours.set {b c : Addr} {vs us ws : List Value} {e ec : Nat} {g : Array Value → Array Value} (I : Inv X pins σ H s) (h : Ours X pins H s b vs e) (hc : Ours X pins H s c ws ec) (hne : c ≠ b) (eg : g vs.toArray = us.toArray) :
    ∃ e', Inv X pins σ H { s with heap := s.heap.update b (Obj.mapSeq g) } ∧ Ours X pins H { s with heap := s.heap.update b (Obj.mapSeq g) } b us e' ∧ Ours X pins H { s with heap := s.heap.update b (Obj.mapSeq g) } c ws ec := by
  obtain ⟨h1, f0, f1, f2, f3, f4, f5⟩ := h
  have hs := Heap.SameBut.update s.heap b (Obj.mapSeq g)
  have hu := get?_update_seq h1 g
  rw [eg] at hu
  refine ⟨_, I.turned (t' := s.toks) (it := b) (fun x o hx q => (hs.2 x hx).trans q) f0 f1 f3 f4 f5, ⟨hu, f0, f1, f2, f3, f4, f5⟩, ⟨(hs.2 c hne).trans hc.1, hc.2⟩⟩
/-- through code that keeps what is pinned -/
theorem Ours.pin {kS D : Addr} {vs ws : List Value} {e ec : Nat} (I : Inv X pins σ H s) (h : Ours X pins H s kS vs e) (hc : Ours X pins H s D ws ec) : Inv X (pins ++ pinsAt [kS, D] s.heap) σ H s :=
  I.pinned (fun b hb => by
    rcases List.mem_cons.mp hb with z | z
    · rw [z]; exact h.2
    · have z : b = D := by simpa using z
      rw [z]; exact hc.2) fun b hb => by
    rcases List.mem_cons.mp hb with z | z
    · rw [z]; exact ⟨_, h.1, seq_nocell⟩
    · have z : b = D := by simpa using z
      rw [z]; exact ⟨_, hc.1, seq_nocell⟩
theorem Ours.unpin {kS D : Addr} {vs ws : List Value} {e ec : Nat} {H' : Hp} {s' : Shared} (h : Ours X pins H s kS vs e) (hc : Ours X pins H s D ws ec) (I : Inv X (pins ++ pinsAt [kS, D] s.heap) σ H' s') :
    Inv X pins σ H' s' ∧ Ours X pins H' s' kS vs e ∧ Ours X pins H' s' D ws ec := by
  have one : ∀ (b : Addr) (us : List Value) (eb : Nat), b ∈ [kS, D] → Ours X pins H s b us eb → Ours X pins H' s' b us eb := fun b us eb hb o => by
    have hp : (b, seqObj "list" us.toArray eb) ∈ X.pn ++ (pins ++ pinsAt [kS, D] s.heap) := by
      refine List.mem_append_right _ (List.mem_append_right _ ?_)
      unfold pinsAt
      exact List.mem_filterMap.mpr ⟨b, hb, by rw [o.1]; rfl⟩
    obtain ⟨p1, p2, p3, p4, p5⟩ := I.pin _ hp
    exact ⟨p1, p2, o.2.2.1, o.2.2.2.1, o.2.2.2.2.1, o.2.2.2.2.2.1, o.2.2.2.2.2.2⟩
  exact ⟨I.unpinned, one kS vs e (by simp) h, one D ws ec (by simp) hc⟩
/-- the key's call; Kp i k H: k is the key of the i-th -/
structure KeyFn (X : Cx) (σ : St) (f : Value) (vs : List Value) (H₁ : Hp) (Kp : Nat → Value → Hp → Prop) : Prop where
  mono : ∀ i k H H', Same H H' → Kp i k H → Kp i k H'
  call : ∀ i v pins s H, vs[i]? = some v → Same H₁ H → Inv X.in2 pins σ H s → wpAny (model X.prog X.w) X.A.in1.in1 (call f [v]) (fun k s' => ∃ H', Inv X.in2 pins σ H' s' ∧ Same H H' ∧ Kp i k H') (fun _ _ => False) s
/-- the keys held against one another -/
def CmpOk (X : Cx) (σ : St) (H : Hp) (ks : List Value) (lt : Nat → Nat → Bool) (κ : SortKind) : Prop :=
  ∀ i j ki kj pins s, ks[i]? = some ki → ks[j]? = some kj → Inv X.in2 pins σ H s → wpAny (model X.prog X.w) X.A.in1.in1 (keyLt' κ ki kj) (fun r s' => r = lt i j ∧ Inv X.in2 pins σ H s') (fun _ _ => False) s
structure KeyCmp (X : Cx) (σ : St) (n : Nat) (Kp : Nat → Value → Hp → Prop) (lt : Nat → Nat → Bool) : Prop where
  kind : ∀ pins s H ks, Inv X.in2 pins σ H s → ks.length = n → 2 ≤ n → (∀ (i : Nat) k, ks[i]? = some k → Kp i k H) →
    wpAny (model X.prog X.w) X.A.in1.in1 (keyKind' (List.toArray ks)) (fun κ s' => Inv X.in2 pins σ H s' ∧ CmpOk X σ H ks lt κ) (fun _ _ => False) s
/-- lt, or turned about -/
def ltD (b : Bool) (lt : Nat → Nat → Bool) (i j : Nat) : Bool := if b = true then lt j i else lt i j
/-- the places in their order -/
def Sorted (n : Nat) (lt : Nat → Nat → Bool) (q : List Nat) : Prop := q.Perm (List.range n) ∧ q.Pairwise (Rk lt)
theorem gt_list {p : Array Nat} {i v : Nat} (h : p.toList[i]? = some v) : gt p i = v := gt_of (by rw [← Array.getElem?_toList]; exact h)
theorem sorted_of {n : Nat} {lt : Nat → Nat → Bool} {p : Array Nat} (h : Pl n p n) (a : Asc lt p n) : Sorted n lt p.toList := by
  refine ⟨h.pm, ?_⟩
  have hl : p.toList.length = n := by rw [Array.length_toList]; exact h.size
  rw [List.pairwise_iff_getElem]
  intro i j hi hj hij
  have h1 := gt_list (List.getElem?_eq_getElem hi)
  have h2 := gt_list (List.getElem?_eq_getElem hj)
  rw [← h1, ← h2]
  exact a i j hij (by omega)
/-- what a sorting to and fro leaves -/
theorem sorted_rev {n : Nat} {lt : Nat → Nat → Bool} {q : List Nat} (h : Sorted n (fun i j => lt (n - 1 - i) (n - 1 - j)) q) : Sorted n (ltD true lt) (q.map (n - 1 - ·)).reverse := by
  obtain ⟨hp, ho⟩ := h
  have hlt : ∀ x ∈ q, x < n := fun x hx => List.mem_range.mp (hp.subset hx)
  refine ⟨?_, ?_⟩
  · refine (List.reverse_perm _).trans ((hp.map _).trans ?_)
    have e : (List.range n).map (n - 1 - ·) = (List.range n).reverse := by
      apply List.ext_getElem
      · simp
      · intro i h1 h2
        simp at h1
        simp
    rw [e]
    exact List.reverse_perm _
  · rw [List.pairwise_reverse, List.pairwise_map]
    refine ho.imp_of_mem fun {x y} hx hy r => ?_
    have h1 := hlt x hx
    have h2 := hlt y hy
    rcases r with r | ⟨r, r'⟩
    · exact .inl r
    · exact .inr ⟨r, by omega⟩
end
end L2

namespace L2
open PySem PySem.Spec PyProof.Rows PySem.W
section
variable {X : Cx} {pins : List (Addr × Obj)} {σ : St} {H H₁ : Hp} {s : Shared} {vs : List Value} {f : Value} {b : Bool} {Kp : Nat → Value → Hp → Prop} {lt : Nat → Nat → Bool} {kS D : Addr} {e1 : Nat}
/-- behind the keys of the first ones -/
def KeysAt (X : Cx) (pins : List (Addr × Obj)) (σ : St) (H₁ : Hp) (Kp : Nat → Value → Hp → Prop) (kS D : Addr) (e1 : Nat) (ks : List Value) (s : Shared) : Prop :=
  ∃ H' e, Inv X.in2 pins σ H' s ∧ Same H₁ H' ∧ Ours X.in2 pins H' s kS ks e ∧ Ours X.in2 pins H' s D [] e1 ∧ ∀ (i : Nat) k, ks[i]? = some k → Kp i k H'
theorem keys_fold {body : Value → PUnit → Sem (ForInStep PUnit)} {A : Around} {E : Value → Shared → Prop} {R : List Value → Shared → Prop}
    (hb : ∀ i v ks s, vs[i]? = some v → ks.length = i → R ks s → wpAny (model X.prog X.w) A (body v ⟨⟩) (fun r s' => r = .yield ⟨⟩ ∧ ∃ k, R (ks ++ [k]) s') E s) :
    ∀ (r ks : List Value) (s : Shared), vs.drop ks.length = r → R ks s → wpAny (model X.prog X.w) A (forIn r PUnit.unit body) (fun _ s' => ∃ ks, ks.length = vs.length ∧ R ks s') E s ∨ vs.length < ks.length
  | [], ks, s, hr, h => by
    by_cases hl : vs.length < ks.length
    · exact .inr hl
    · left
      rw [List.forIn_nil]
      have := List.drop_eq_nil_iff.mp hr
      exact wpAny_pure ⟨ks, by omega, h⟩
  | v :: r, ks, s, hr, h => by
    left
    have hv : vs[ks.length]? = some v := by
      have := congrArg (fun l => l[0]?) hr
      simp only [List.getElem?_drop, Nat.add_zero] at this
      simpa using this
    have hlt := (List.getElem?_eq_some_iff.mp hv).1
    rw [List.forIn_cons]
    refine wpAny_bind (wpAny_mono (hb ks.length v ks s hv rfl h) (fun q s' hq => ?_) fun _ _ x => x)
    obtain ⟨rfl, k, h2⟩ := hq
    show wpAny (model X.prog X.w) A (forIn r PUnit.unit body) _ E s'
    have hr2 : vs.drop (ks ++ [k]).length = r := by
      rw [List.length_append, List.length_singleton, ← List.drop_drop, hr]
      rfl
    rcases keys_fold hb r (ks ++ [k]) s' hr2 h2 with h3 | h3
    · exact h3
    · rw [List.length_append, List.length_singleton] at h3
      omega
theorem tail_run {P : PySem.Fin → Shared → Prop} {E : Value → Shared → Prop} {st : SortSt} {ks out : List Value} {e : Nat} (hne : D ≠ kS) (I : Inv X.in2 pins σ H s) (hk : Ours X.in2 pins H s kS ks e) (hD : Ours X.in2 pins H s D [] e1)
    (hout : (arrOf st).map (·.2) = List.toArray out) (hz : out.length < 64) (hkz : ks.length < 64) (hf : failedOf st = none)
    (h : ∀ s' e', Inv X.in2 pins σ H s' → Ours X.in2 pins H s' D (katRev b out) e' → P (.done (.ret .none)) s') : wpAny (model X.prog X.w) X.A.in1.in1 (ksk_tail D b e1 (.ref kS) st) P E s := by
  obtain ⟨ek, I1, hk1, hD1⟩ := Ours.set (us := []) (g := fun _ => #[]) I hk hD hne rfl
  obtain ⟨ed, I2, hD2, hk2⟩ := Ours.set (us := katRev b out) (g := fun _ => List.toArray (katRev b out)) I1 hD1 hk1 (Ne.symm hne) rfl
  have hsz : (List.toArray (katRev b out)).size = out.length := by rw [List.size_toArray, kat_len]
  unfold ksk_tail
  try dsimp only
  rw [hout, kat_outs]
  refine wpAny_bind (listUpdate_at hk.1 rfl ?_ (by rw [List.size_toArray, sizeLine_eq]; omega) (Nat.zero_le _))
  refine wpAny_bind (wpAny_letGo ?_)
  refine wpAny_bind (seqEpoch_at hD1.1 rfl ?_)
  refine wpAny_bind (listUpdate_at hD1.1 rfl ?_ (Nat.zero_le _) (Nat.le_trans (Nat.le_of_eq hsz) (by rw [sizeLine_eq]; omega)))
  rw [hf]
  simp only [bne_self_eq_false, Bool.false_eq_true, if_false]
  exact wpAny_pure (h _ ed I2 hD2)
/-- the sorted places, told of the list itself -/
def outBy (vs : List Value) (q : List Nat) : List Value := q.map fun i => vs.getD i Value.none
theorem end_run {P : PySem.Fin → Shared → Prop} {E : Value → Shared → Prop} {ks : List Value} {e : Nat} (W : Swo lt) (C : KeyCmp X σ vs.length Kp lt) (hne : D ≠ kS) (h64 : vs.length < 64) (hl : ks.length = vs.length)
    (I : Inv X.in2 pins σ H s) (hk : Ours X.in2 pins H s kS ks e) (hD : Ours X.in2 pins H s D [] e1) (hK : ∀ (i : Nat) k, ks[i]? = some k → Kp i k H)
    (h : ∀ s' e' q, Inv X.in2 pins σ H s' → Sorted vs.length (ltD b lt) q → Ours X.in2 pins H s' D (outBy vs q) e' → P (.done (.ret .none)) s') :
    wpAny (model X.prog X.w) X.A.in1.in1 (ksk_end D b vs.toArray e1 (.ref kS) (List.toArray ks)) P E s := by
  have step : ∀ t : Sem PySem.Fin, wpAny (model X.prog X.w) X.A.in1.in1 t P E s → wpAny (model X.prog X.w) X.A.in1.in1 (if b = true then (do let _ ← rule "list.sort.reverse"; t) else t) P E s := by
    intro t ht
    split
    · exact wpAny_bind (wpAny_rule ht)
    · exact ht
  have hlr : (katRev b ks).length = (katRev b vs).length := by rw [kat_len, kat_len, hl]
  unfold ksk_end
  try dsimp only
  refine step _ ?_
  by_cases hn2 : vs.length < 2
  · have hn2' : vs.toArray.size < 2 := by rw [List.size_toArray]; omega
    rw [if_pos hn2', if_pos hn2']
    refine wpAny_bind (wpAny_pure ?_)
    refine wpAny_bind (wpAny_pure ?_)
    try dsimp only
    have hr1 : ∀ {α : Type} (l : List α), l.length < 2 → katRev b l = l := fun l hl => by
      unfold katRev
      match l, hl with
      | [], _ => simp
      | [x], _ => simp
    rw [kat_pairs b hl, hr1 ks (by omega), hr1 vs hn2]
    have har : (arrOf (SortSt.mk' general' ((List.toArray ks).zip vs.toArray) #[] 7 none)).map (·.2) = List.toArray vs := by
      show ((List.toArray ks).zip vs.toArray).map (·.2) = List.toArray vs
      apply Array.toList_inj.mp
      rw [Array.toList_map, ksk_zip]
      show (ks.zip vs).map Prod.snd = vs
      rw [List.map_snd_zip (by omega)]
    refine tail_run hne I hk hD har h64 (by omega) rfl fun s' e' I' hD' => ?_
    rw [hr1 vs hn2] at hD'
    refine h s' e' (List.range vs.length) I' ⟨List.Perm.refl _, ?_⟩ ?_
    · match vs.length, hn2 with
      | 0, _ => exact List.Pairwise.nil
      | 1, _ => exact List.pairwise_singleton _ _
    · have e2 : outBy vs (List.range vs.length) = vs := by
        unfold outBy
        apply List.ext_getElem
        · simp
        · intro i h1 h2
          simp [h2]
      rw [e2]
      exact hD'
  · have hn2' : ¬ vs.toArray.size < 2 := by rw [List.size_toArray]; omega
    rw [if_neg hn2', if_neg hn2']
    refine wpAny_bind (wpAny_mono (C.kind _ s H ks (hk.pin I hD) hl (by omega) hK) (fun κ s0 hk0 => ?_) fun _ _ x => x.elim)
    obtain ⟨I0, hcmp⟩ := hk0
    rw [kat_pairs b hl]
    -- the order of the places in the list as it is sorted
    have hget : ∀ i, i < vs.length → (katRev b ks).getD i Value.none = ks.getD (if b = true then vs.length - 1 - i else i) Value.none := fun i hi => by
      cases b with
      | false => rfl
      | true =>
        show ks.reverse.getD i Value.none = ks.getD (vs.length - 1 - i) Value.none
        rw [List.getD_eq_getElem?_getD, List.getD_eq_getElem?_getD, List.getElem?_reverse (by omega), hl]
    have W' : Swo (fun i j => lt (if b = true then vs.length - 1 - i else i) (if b = true then vs.length - 1 - j else j)) := ⟨fun i => W.ir _, fun i j k => W.tr _ _ _, fun i j k => W.nt _ _ _⟩
    have hrun : (kas_sort (katRev b vs).length).kasWp (kas_ask X.prog X.w X.A.in1.in1 κ (katRev b ks)) (fun p s'' => Inv X.in2 (pins ++ pinsAt [kS, D] s.heap) σ H s'' ∧ Pl vs.length p vs.length ∧ Asc (fun i j => lt (if b = true then vs.length - 1 - i else i) (if b = true then vs.length - 1 - j else j)) p vs.length) s0 := by
      rw [kat_len]
      refine pw_wp (lt := fun i j => lt (if b = true then vs.length - 1 - i else i) (if b = true then vs.length - 1 - j else j)) (n := vs.length) (I := fun s'' => Inv X.in2 (pins ++ pinsAt [kS, D] s.heap) σ H s'') (fun i j C' s1 hi hj I1 hC => ?_) _ s0 I0 (pw_mono (fun p hp s1 I1 => ⟨I1, hp.1, hp.2⟩) _ (sort_pw W' (by omega)))
      unfold kas_ask
      rw [hget i hi, hget j hj]
      have hi' : (if b = true then vs.length - 1 - i else i) < ks.length := by split <;> omega
      have hj' : (if b = true then vs.length - 1 - j else j) < ks.length := by split <;> omega
      have gi : ks[if b = true then vs.length - 1 - i else i]? = some (ks.getD (if b = true then vs.length - 1 - i else i) Value.none) := by
        rw [List.getD_eq_getElem?_getD, List.getElem?_eq_getElem hi']; rfl
      have gj : ks[if b = true then vs.length - 1 - j else j]? = some (ks.getD (if b = true then vs.length - 1 - j else j) Value.none) := by
        rw [List.getD_eq_getElem?_getD, List.getElem?_eq_getElem hj']; rfl
      refine wpAny_mono (hcmp _ _ _ _ _ s1 gi gj I1) (fun r s2 hr => ?_) fun _ _ x => x
      obtain ⟨rfl, I2⟩ := hr
      exact hC s2 I2
    refine wpAny_bind (wpAny_mono (kat_run (Q := fun st' s' => ∃ p : Array Nat, p.size = (katRev b vs).length ∧ arrOf st' = p.map (kas_item ((List.toArray (katRev b ks)).zip (List.toArray (katRev b vs)))) ∧ failedOf st' = none ∧
        Inv X.in2 (pins ++ pinsAt [kS, D] s.heap) σ H s' ∧ Pl vs.length p vs.length ∧ Asc (fun i j => lt (if b = true then vs.length - 1 - i else i) (if b = true then vs.length - 1 - j else j)) p vs.length)
      hlr (by rw [kat_len]; omega) (by rw [kat_len]; exact h64) (fun p' st' s' a1 a2 a3 a4 => ⟨p', a1, a2, a3, a4⟩) hrun) ?_ fun _ _ x => x)
    rintro ⟨⟨⟩, st'⟩ s' ⟨p, hp, har, hf, I2, hPl, hAsc⟩
    try dsimp only
    obtain ⟨I3, hk3, hD3⟩ := Ours.unpin hk hD I2
    refine tail_run hne I3 hk3 hD3 (kat_snds hlr har) (by rw [List.length_map, Array.length_toList, hp, kat_len]; exact h64) (by omega) hf fun s4 e4 I4 hD4 => ?_
    have hso := sorted_of hPl hAsc
    have hlt : ∀ x ∈ p.toList, x < vs.length := fun x hx => List.mem_range.mp (hso.1.subset hx)
    cases b with
    | false =>
      refine h s4 e4 p.toList I4 hso ?_
      exact hD4
    | true =>
      refine h s4 e4 _ I4 (sorted_rev hso) ?_
      have e2 : katRev true (p.toList.map fun i => (katRev true vs).getD i Value.none) = outBy vs (p.toList.map (vs.length - 1 - ·)).reverse := by
        show (p.toList.map fun i => vs.reverse.getD i Value.none).reverse = _
        unfold outBy
        rw [List.map_reverse, List.map_map]
        congr 1
        refine List.map_congr_left fun i hi => ?_
        show vs.reverse.getD i Value.none = vs.getD (vs.length - 1 - i) Value.none
        rw [List.getD_eq_getElem?_getD, List.getD_eq_getElem?_getD, List.getElem?_reverse (hlt i hi)]
      rw [e2] at hD4
      exact hD4
theorem rest_run {P : PySem.Fin → Shared → Prop} {E : Value → Shared → Prop} (W : Swo lt) (F : KeyFn X σ f vs H₁ Kp) (C : KeyCmp X σ vs.length Kp lt) (hne : D ≠ kS) (h64 : vs.length < 64)
    (I : Inv X.in2 pins σ H s) (sm : Same H₁ H) (hk : Ours X.in2 pins H s kS [] 0) (hD : Ours X.in2 pins H s D [] e1)
    (h : ∀ s' H' e' q, Inv X.in2 pins σ H' s' → Same H₁ H' → Sorted vs.length (ltD b lt) q → Ours X.in2 pins H' s' D (outBy vs q) e' → P (.done (.ret .none)) s') :
    wpAny (model X.prog X.w) X.A.in1.in1 (ksk_rest D f b vs.toArray e1 (.ref kS)) P E s := by
  unfold ksk_rest
  refine wpAny_bind (wpAny_rule ?_)
  first
    | rw [List.forIn_toArray]
    | (rw [← Array.forIn_toList]; simp only [List.toList_toArray])
    | rw [← Array.forIn_toList]
  refine wpAny_bind (wpAny_mono ((keys_fold (X := X) (vs := vs) (R := KeysAt X pins σ H₁ Kp kS D e1) (fun i v ks s' hv hi hR => ?_) vs [] s (by simp) ⟨H, 0, I, sm, hk, hD, fun i k e => by simp at e⟩).resolve_right (by simp)) (fun _ s' hd => ?_) fun _ _ x => x)
  · obtain ⟨H', e, I', sm', hk', hD', hK⟩ := hR
    have hil := (List.getElem?_eq_some_iff.mp hv).1
    refine wpAny_bind (wpAny_attempt (wpAny_mono (F.call i v _ s' H' hv sm' (hk'.pin I' hD')) (fun k s2 hq => ?_) fun _ _ hF => hF.elim))
    obtain ⟨H2, I2, sm2, hKp⟩ := hq
    obtain ⟨I3, hk3, hD3⟩ := Ours.unpin hk' hD' I2
    have ea : (List.toArray ks).push k = List.toArray (ks ++ [k]) := by simp
    obtain ⟨e', I4, hk4, hD4⟩ := Ours.set (us := ks ++ [k]) (g := (·.push k)) I3 hk3 hD3 hne ea
    try dsimp only
    refine wpAny_bind (listUpdate_at hk3.1 rfl ?_ (by rw [List.size_toArray, sizeLine_eq]; omega) (Nat.le_trans (Nat.le_of_eq (Array.size_push ..)) (by rw [List.size_toArray, sizeLine_eq]; omega)))
    refine wpAny_pure ⟨rfl, k, H2, e', I4, sm'.trans sm2, hk4, hD4, fun j kj hj => ?_⟩
    by_cases hjl : j < ks.length
    · rw [List.getElem?_append_left hjl] at hj
      exact F.mono _ _ _ _ sm2 (hK j kj hj)
    · have hj2 := (List.getElem?_eq_some_iff.mp hj).1
      rw [List.length_append, List.length_singleton] at hj2
      have ej : j = ks.length := by omega
      subst ej
      rw [List.getElem?_concat_length] at hj
      cases hj
      rw [hi]
      exact hKp
  · obtain ⟨ks, hl, H', e, I', sm', hk', hD', hK⟩ := hd
    try dsimp only
    refine wpAny_bind (listItems_at hk'.1 rfl ?_)
    exact end_run W C hne h64 hl I' hk' hD' hK fun s2 e2 q I2 hs hD2 => h s2 H' e2 q I2 sm' hs hD2
end
end L2

/-! sorted(xs, key=f) and sorted(xs, key=f, reverse=b) -/
namespace L2
open PySem PySem.Spec PyProof.Rows PySem.W
section
variable {X : Cx} {pins : List (Addr × Obj)} {σ : St} {H : Hp} {s : Shared} {vs : List Value} {f : Value} {b : Bool} {Kp : Nat → Value → Hp → Prop} {lt : Nat → Nat → Bool} {l : Addr}
theorem sorted_run {kw : List (Str × Value)} {Q : Value → Shared → Prop} {E : Value → Shared → Prop} (W : Swo lt) (F : KeyFn X σ f vs H Kp) (C : KeyCmp X σ vs.length Kp lt) (h64 : vs.length < 64)
    (I : Inv X pins σ H s) (hl : s.heap.IsList l vs.toArray)
    (ha1 : argsOk "sorted" ⟨[.ref l], kw⟩) (ha2 : ∀ x, argsOk "list.sort" ⟨[.ref x], kw⟩) (ht : ∀ x, Builtin.«list.sort» ⟨[.ref x], kw⟩ = ksk_tree x f b)
    (h : ∀ D s' H' e' q, Inv X pins σ H' s' → Same H H' → Sorted vs.length (ltD b lt) q → Ours X.in2 pins H' s' D (outBy vs q) e' → Q (.ref D) s') :
    wpAny (model X.prog X.w) X.A (call (.builtin "sorted") [.ref l] kw) Q E s := by
  refine call_function_entry_kw kind_sorted plain_sorted entry_sorted ha1 ?_
  unfold Builtin.«sorted»
  refine wpAny_bind (m := checkCount "sorted" 1 1 _) (wpAny_pure ?_)
  refine wpAny_bind (collect_list hl ?_ (by rw [sizeLine_eq]; omega))
  refine wpAny_bind (wpAny_newList ?_ (by rw [sizeLine_eq]; omega))
  have hsz : ((s.heap.push (seqObj "list" #[] 0)).update s.heap.objs.size (Obj.mapSeq (· ++ vs.toArray))).objs.size = s.heap.objs.size + 1 := by
    rw [Heap.size_update, size_push']
  have hoL : (((s.heap.push (seqObj "list" #[] 0)).update s.heap.objs.size (Obj.mapSeq (· ++ vs.toArray))).push (seqObj "list" vs.toArray 0)).get? (s.heap.objs.size + 1) = some (seqObj "list" vs.toArray 0) := by
    rw [← hsz]; exact Heap.get?_push_size _ rfl
  have keep : ∀ b o, s.heap.get? b = some o → (((s.heap.push (seqObj "list" #[] 0)).update s.heap.objs.size (Obj.mapSeq (· ++ vs.toArray))).push (seqObj "list" vs.toArray 0)).get? b = some o := fun b o q => by
    have hlt : b < s.heap.objs.size := Heap.lt_size q
    rw [Heap.get?_push_ne _ _ _ (by rw [hsz]; exact Nat.ne_of_lt (Nat.lt_succ_of_lt hlt)), Heap.get?_update_ne _ _ _ _ (Nat.ne_of_lt hlt), Heap.get?_push_ne _ _ _ (Nat.ne_of_lt hlt)]
    exact q
  show wpAny _ _ _ _ _ { s with heap := ((s.heap.push (seqObj "list" #[] 0)).update s.heap.objs.size (Obj.mapSeq (· ++ vs.toArray))).push (seqObj "list" vs.toArray 0) }
  rw [hsz]
  have hsz2 : (((s.heap.push (seqObj "list" #[] 0)).update s.heap.objs.size (Obj.mapSeq (· ++ vs.toArray))).push (seqObj "list" vs.toArray 0)).objs.size = s.heap.objs.size + 2 := by rw [size_push', hsz]
  generalize ((s.heap.push (seqObj "list" #[] 0)).update s.heap.objs.size (Obj.mapSeq (· ++ vs.toArray))).push (seqObj "list" vs.toArray 0) = h2 at hoL keep hsz2 ⊢
  refine wpAny_bind (wpAny_holding (wpAny_call_entry_kw slot_list_sort ⟨_, hoL, rfl⟩ entry_list_sort ?body (ha2 _)))
  case body =>
    show wpAny (model X.prog X.w) X.A.in1.in1 (Builtin.«list.sort» ⟨[.ref (s.heap.objs.size + 1)], kw⟩) _ _ _
    rw [ht]
    have hal : s.heap.objs.size ≤ s.heap.objs.size + 1 := Nat.le_succ _
    generalize s.heap.objs.size + 1 = a at hoL hal ⊢
    obtain ⟨e1, ho1⟩ : ∃ e1, (h2.update a (Obj.mapSeq fun _ => (#[] : Array Value))).get? a = some (seqObj "list" #[] e1) := ⟨_, get?_update_seq hoL fun _ => #[]⟩
    have hkS : ((h2.update a (Obj.mapSeq fun _ => (#[] : Array Value))).push (seqObj "tuple" vs.toArray 0)).objs.size = s.heap.objs.size + 3 := by rw [size_push', Heap.size_update, hsz2]
    have keep2 : ∀ b o, s.heap.get? b = some o → (((h2.update a (Obj.mapSeq fun _ => (#[] : Array Value))).push (seqObj "tuple" vs.toArray 0)).push (seqObj "list" #[] 0)).get? b = some o := fun b o q => by
      have hlt : b < s.heap.objs.size := Heap.lt_size q
      refine Heap.get?_push_of_some _ (Heap.get?_push_of_some _ ?_)
      rw [Heap.get?_update_ne _ _ _ _ (Nat.ne_of_lt (Nat.lt_of_lt_of_le hlt hal))]
      exact keep b o q
    have hka : ((h2.update a (Obj.mapSeq fun _ => (#[] : Array Value))).push (seqObj "tuple" vs.toArray 0)).objs.size ≠ a := by
      have := Heap.lt_size hoL
      rw [hkS]
      rw [hsz2] at this
      exact Nat.ne_of_gt (Nat.lt_succ_of_lt this)
    unfold ksk_tree
    refine wpAny_bind (listItems_at hoL rfl ?_)
    refine wpAny_bind (listUpdate_at hoL rfl ?_ (by rw [List.size_toArray, sizeLine_eq]; omega) (Nat.zero_le _))
    refine wpAny_bind (seqEpoch_at ho1 rfl ?_)
    refine wpAny_bind (wpAny_newTuple ?_ (by show vs.length ≤ _; rw [sizeLine_eq]; omega))
    refine wpAny_bind (wpAny_newList ?_ (Nat.zero_le _))
    refine wpAny_holding ?_
    have I5 : Inv X.in2 pins σ H { s with heap := ((h2.update a (Obj.mapSeq fun _ => (#[] : Array Value))).push (seqObj "tuple" vs.toArray 0)).push (seqObj "list" #[] 0) } := I.in2.kept (t' := s.toks) keep2
    have hk0 : s.heap.objs.size ≤ ((h2.update a (Obj.mapSeq fun _ => (#[] : Array Value))).push (seqObj "tuple" vs.toArray 0)).objs.size := by rw [hkS]; exact Nat.le_add_right _ _
    refine rest_run (X := X) (pins := pins) (σ := σ) (H := H) (H₁ := H) (kS := ((h2.update a (Obj.mapSeq fun _ => (#[] : Array Value))).push (seqObj "tuple" vs.toArray 0)).objs.size) (D := a) (e1 := e1) W F C (Ne.symm hka) h64 I5 (Same.refl _) ⟨Heap.get?_push_size _ rfl, I.in2.fpOk hk0 (I.hok.fresh hk0)⟩ ⟨Heap.get?_push_of_some _ (Heap.get?_push_of_some _ ho1), I.in2.fpOk hal (I.hok.fresh hal)⟩ fun s' H' e' q I' sm hq hD => ⟨_, rfl, ?_⟩
    exact wpAny_pure ⟨_, rfl, h a s' H' e' q (Inv.un2 I.ok I') sm hq hD⟩
/-! in V -/
def outV (xs : List V) (q : List Nat) : List V := q.map fun i => xs.getD i .non
theorem vals_out {xs : List V} {vs : List Value} (r : Vals xs vs) : ∀ {q : List Nat}, (∀ i ∈ q, i < xs.length) → Vals (outV xs q) (outBy vs q)
  | [], _ => .nil
  | i :: q, h => by
    have hil := h i (by simp)
    have hi : xs[i]? = some (xs[i]'hil) := List.getElem?_eq_getElem hil
    obtain ⟨u, e, ru⟩ := r.get hi
    show Vals (xs.getD i .non :: outV xs q) (vs.getD i Value.none :: outBy vs q)
    rw [List.getD_eq_getElem?_getD, List.getD_eq_getElem?_getD, hi, e]
    exact .cons ru (vals_out r fun j hj => h j (by simp [hj]))
theorem sorted_mem {n : Nat} {lt : Nat → Nat → Bool} {q : List Nat} (h : Sorted n lt q) {i : Nat} (hi : i ∈ q) : i < n := List.mem_range.mp (h.1.mem_iff.mp hi)
theorem sorted_len {n : Nat} {lt : Nat → Nat → Bool} {q : List Nat} (h : Sorted n lt q) : q.length = n := by rw [h.1.length_eq, List.length_range]
theorem sorted_ep {kw : List (Str × Value)} {Q : VK} {E : Value → Shared → Prop} {xs : List V} (W : Swo lt) (hs : SqL X.K H l xs) (h64 : xs.length < 64)
    (FC : ∀ vs, Vals xs vs → KeyFn X σ f vs H Kp ∧ KeyCmp X σ xs.length Kp lt) (I : Inv X pins σ H s)
    (ha1 : argsOk "sorted" ⟨[.ref l], kw⟩) (ha2 : ∀ x, argsOk "list.sort" ⟨[.ref x], kw⟩) (ht : ∀ x, Builtin.«list.sort» ⟨[.ref x], kw⟩ = ksk_tree x f b)
    (h : ∀ p H' q, Same H H' → H' p = none → Sorted xs.length (ltD b lt) q → Q (.ref p) (upd H' p (.lst (outV xs q)))) :
    wpAny (model X.prog X.w) X.A (call (.builtin "sorted") [.ref l] kw) (EP X pins σ Q) E s := by
  obtain ⟨vs, r, pl, hz⟩ := I.list hs
  have hlen := r.length
  obtain ⟨hF, hC⟩ := FC vs r
  rw [hlen] at hC
  obtain ⟨o, n, e, c, d, ss⟩ := pl
  refine sorted_run (b := b) W hF hC (by omega) I ⟨o, e, c, n, ss⟩ ha1 ha2 ht fun D s' H' e' q I' sm hq hD => ?_
  rw [← hlen] at hq
  have hql := sorted_len hq
  refine ⟨.ref D, _, I'.adoptO (e := D) (o := .lst (outV xs q)) hD.2.1 hD.2.ch ⟨?_, outBy vs q, e', vals_out r fun i hi => sorted_mem hq hi, hD.1⟩, rfl, h D H' q sm hD.2.1 hq⟩
  show (q.map _).length ≤ _
  rw [List.length_map]
  omega
end
end L2

/-! keys of sorting: ints; tuples of none or of one number or text -/
namespace L2
open PySem PySem.Spec PyProof.Rows PySem.W
/-! ### t < u of tuples of any lengths -/
def LexAt2 (A : Around) (s : Shared) (fin : Bool) : List Value → List Value → Bool → Prop
  | x :: xs, y :: ys, r => ∃ e, SeqAt.EqAt A s x y e ∧ (e = true → LexAt2 A s fin xs ys r) ∧ (e = false → ∀ (prog : Program) (w : World) (E : Value → Shared → Prop) (Q : Value → Shared → Prop), Q (.bool r) s → wpAny (model prog w) A (richCompare .Lt x y) Q E s)
  | _, _, r => r = fin
open PySem.AutoSeq1 (wpAny_loadPart') in
theorem tuple_ltAt2 (l b : Addr) (items items2 : Array Value) (n n2 : Nat) (dd dd2 : Option Addr) (sl sl2 : Array (Option Value)) (r : Bool) :
    Meets (Builtin.«tuple.__lt__» ⟨[.ref l, .ref b], []⟩)
      (fun A R s => s.heap.get? l = some { cls := .type "tuple", dict := dd, data := .seq items n, slots := sl } ∧ s.heap.get? b = some { cls := .type "tuple", dict := dd2, data := .seq items2 n2, slots := sl2 } ∧
        LexAt2 A.in1 s (decide (items.size < items2.size)) items.toList items2.toList r ∧ R (.ok (.ret (.bool r))) s) :=
  .of_wp fun prog w A R s h => by
    obtain ⟨hp, g, d, tk, os⟩ := s
    obtain ⟨h1, h2, hL, hR⟩ := h
    have hsub := AutoSeq1.sub_tuple_tuple
    wp_walk using wpAny_loadPart' h1, wpAny_loadPart' h2, wpAny_forIn_list _ (fun left acc s' => acc.1 = none ∧ s' = ⟨hp, g, d, tk, os⟩ ∧ ∃ p q, left = List.zip p q ∧ LexAt2 A.in1 ⟨hp, g, d, tk, os⟩ (decide (items.size < items2.size)) p q r) _
    case turn =>
      rintro ⟨x, y⟩ left acc s' ⟨ha, rfl, p, q, hz, hL⟩
      match p, q, hL with
      | [], _, _ => cases hz
      | _ :: _, [], _ => cases hz
      | x' :: p, y' :: q, hL =>
        rw [List.zip_cons_cons] at hz
        injection hz with hxy hrest
        injection hxy with ex ey
        subst ex ey
        obtain ⟨e, he, ht, hf⟩ := hL
        refine wpAny_bind (he prog w _ _ ?_)
        cases e with
        | true =>
          wp_walk
          exact ⟨rfl, rfl, p, q, hrest, ht rfl⟩
        | false =>
          have hlt := hf rfl prog w
          wp_walk using hlt
          exact ⟨_, rfl, by simpa using hR⟩
    case fin =>
      rintro ⟨b1, b2⟩ s' ⟨ha, rfl, p, q, hz, hL⟩
      simp only at ha
      subst ha
      have fin : r = decide (items.size < items2.size) := by
        match p, q, hL with
        | [], [], hL => exact hL
        | [], _ :: _, hL => exact hL
        | _ :: _, [], hL => exact hL
        | x' :: p, y' :: q, hL => rw [List.zip_cons_cons] at hz; cases hz
      subst fin
      wp_walk
      exact ⟨_, rfl, by simpa [Builtin.Tuple.tupleCompareSizes] using hR⟩
    case h =>
      exact ⟨rfl, rfl, items.toList, items2.toList, rfl, hL⟩
/-! ### keys of none or of one -/
def ltR : List V → List V → Bool
  | [], [] => false
  | [], _ :: _ => true
  | _ :: _, [] => false
  | x :: _, y :: _ => ltV x y
/-- both numbers, or both texts -/
def Lk2 (x y : V) : Prop := (∃ m n, x = .int m ∧ y = .int n) ∨ ∃ m n, x = .str m ∧ y = .str n
def KeyL (r : List V) : Prop := r = [] ∨ ∃ x, r = [x]
theorem lt_irr (x : V) : ltV x x = false := by
  cases x with
  | int i => exact decide_eq_false (by omega)
  | str z => exact decide_eq_false (List.lt_irrefl _)
  | _ => rfl
section
variable {prog : Program} {w : World} {A : Around} {E : Value → Shared → Prop} {s : Shared} {x y : V} {u v : Value}
theorem eqAt_lk (h : Lk2 x y) (ru : RelV x u) (rv : RelV y v) : ∃ e, SeqAt.EqAt A s u v e ∧ (e = true ↔ x = y) := by
  rcases h with ⟨m, n, rfl, rfl⟩ | ⟨m, n, rfl, rfl⟩
  · obtain ⟨t, rfl⟩ := ru
    obtain ⟨t2, rfl⟩ := rv
    exact ⟨_, SeqAt.EqAt.int_int m t n t2, by simp⟩
  · obtain ⟨t, rfl⟩ := ru
    obtain ⟨t2, rfl⟩ := rv
    exact ⟨_, SeqAt.EqAt.str_str m t n t2, by simp⟩
theorem rich_lk {Q : Value → Shared → Prop} (h : Lk2 x y) (ru : RelV x u) (rv : RelV y v) (q : Q (.bool (ltV x y)) s) : wpAny (model prog w) A (richCompare .Lt u v) Q E s := by
  rcases h with ⟨m, n, rfl, rfl⟩ | ⟨m, n, rfl, rfl⟩
  · obtain ⟨t, rfl⟩ := ru
    obtain ⟨t2, rfl⟩ := rv
    exact lt_int q
  · obtain ⟨t, rfl⟩ := ru
    obtain ⟨t2, rfl⟩ := rv
    exact lt_str q
theorem one_lk {Q : Bool → Shared → Prop} (h : Lk2 x y) (ru : RelV x u) (rv : RelV y v) (q : Q (ltV x y) s) : wpAny (model prog w) A (oneLt' true u v) Q E s := by
  rcases h with ⟨m, n, rfl, rfl⟩ | ⟨m, n, rfl, rfl⟩
  · obtain ⟨t, rfl⟩ := ru
    obtain ⟨t2, rfl⟩ := rv
    exact oneLt_int q
  · obtain ⟨t, rfl⟩ := ru
    obtain ⟨t2, rfl⟩ := rv
    exact oneLt_str q
theorem lex_key {rx ry : List V} {us ws : List Value} (hx : KeyL rx) (hy : KeyL ry) (hk : ∀ x y, rx = [x] → ry = [y] → Lk2 x y) (ru : Vals rx us) (rv : Vals ry ws) : LexAt2 A s (decide (us.length < ws.length)) us ws (ltR rx ry) := by
  rcases hx with rfl | ⟨x, rfl⟩
  · cases Vals.zero ru
    rcases hy with rfl | ⟨y, rfl⟩
    · cases Vals.zero rv
      rfl
    · obtain ⟨v, rfl, _⟩ := Vals.one rv
      rfl
  · obtain ⟨u, rfl, r1⟩ := Vals.one ru
    rcases hy with rfl | ⟨y, rfl⟩
    · cases Vals.zero rv
      rfl
    · obtain ⟨v, rfl, r2⟩ := Vals.one rv
      have lk := hk x y rfl rfl
      obtain ⟨e, he, hi⟩ := eqAt_lk (A := A) (s := s) lk r1 r2
      refine ⟨e, he, fun h => ?_, fun h prog w E Q q => rich_lk lk r1 r2 q⟩
      have : x = y := hi.mp h
      subst this
      show ltV x x = decide (1 < 1)
      rw [lt_irr]
      rfl
end
section
variable {X : Cx} {pins : List (Addr × Obj)} {σ : St} {H : Hp} {s : Shared} {a b : Addr} {rx ry : List V}
/-- a tuple of the heap -/
theorem tup_of (I : Inv X pins σ H s) (h : H a = some (.tup rx)) : ∃ (its : List Value) (n : Nat) (dd : Option Addr) (sl : Array (Option Value)), Vals rx its ∧ s.heap.get? a = some { cls := .type "tuple", dict := dd, data := .seq its.toArray n, slots := sl } := by
  obtain ⟨_, its, r, ⟨cls, dd, data, sl⟩, e, c, n, d⟩ := (I.hok a _ h : ObjOk X.prog X.w H s.heap a (.tup rx))
  simp only at c d
  subst c d
  exact ⟨its, n, dd, sl, r, e⟩
theorem keyLt_any {A : Around} {E : Value → Shared → Prop} {κ : SortKind} {Q : Bool → Shared → Prop} (hu : A.units < cLine) (I : Inv X pins σ H s) (ha : H a = some (.tup rx)) (hb : H b = some (.tup ry)) (hx : KeyL rx) (hy : KeyL ry) (hk : ∀ x y, rx = [x] → ry = [y] → Lk2 x y)
    (hκ : κ = general' ∨ κ = oneType' ∨ (κ = tuples' true ∧ rx ≠ [] ∧ ry ≠ [])) (q : Q (ltR rx ry) s) : wpAny (model X.prog X.w) A (keyLt' κ (.ref a) (.ref b)) Q E s := by
  obtain ⟨us, n, dd, sl, ru, ea⟩ := tup_of I ha
  obtain ⟨ws, n2, dd2, sl2, rv, eb⟩ := tup_of I hb
  have hl : LexAt2 A.in1 s (decide (us.toArray.size < ws.toArray.size)) us.toArray.toList ws.toArray.toList (ltR rx ry) := by
    simpa using lex_key hx hy hk ru rv
  rcases hκ with rfl | rfl | ⟨rfl, h1, h2⟩
  · show wpAny _ _ (oneLt' false (.ref a) (.ref b)) _ _ _
    refine kat_one _ _ ?_
    exact richCompare_meets_room (op := .Lt) ⟨_, ea, rfl⟩ ⟨_, eb, rfl⟩ PySem.F.slot_tuple_lt PySem.F.entry_tuple_lt (PySem.F.args_tuple_lt_2 _ _) (tuple_ltAt2 a b us.toArray ws.toArray n n2 dd dd2 sl sl2 (ltR rx ry)) ⟨ea, eb, hl, (fun z => nomatch z), q⟩ hu
  · show wpAny _ _ (oneLt' true (.ref a) (.ref b)) _ _ _
    rw [oneLt'_eq]
    simp only [if_true]
    refine wpAny_bind (wpAny_cRoomFor hu ?_)
    refine wpAny_bind (wpAny_callSpecialIfBound?_slot (T := "tuple") ⟨_, ea, rfl⟩ PySem.F.slot_tuple_lt ?_)
    refine call_meets PySem.F.slot_tuple_lt ⟨_, ea, rfl⟩ PySem.F.entry_tuple_lt (PySem.F.args_tuple_lt_2 _ _) (tuple_ltAt2 a b us.toArray ws.toArray n n2 dd dd2 sl sl2 (ltR rx ry)) ⟨ea, eb, hl, ?_⟩
    exact wpAny_truthy_bool q
  · rcases hx with rfl | ⟨x, rfl⟩
    · exact absurd rfl h1
    rcases hy with rfl | ⟨y, rfl⟩
    · exact absurd rfl h2
    obtain ⟨u, rfl, r1⟩ := Vals.one ru
    obtain ⟨v, rfl, r2⟩ := Vals.one rv
    have lk := hk x y rfl rfl
    refine kat_lt ea rfl eb rfl ?_
    obtain ⟨e, he, hi⟩ := eqAt_lk (A := A) (s := s) lk r1 r2
    refine kat_cons (he X.prog X.w _ _ ?_)
    refine kat_go (fun h => ?_) fun h => ?_
    · have : x = y := hi.mp h
      subst this
      refine kat_yes (kat_nil ?_)
      have q' : Q (ltV x x) s := q
      rw [lt_irr] at q'
      exact q'
    · exact kat_no (one_lk lk r1 r2 q)
end
/-! ### what kind of keys -/
section
variable {M : Model} {A : Around} {E : Value → Shared → Prop} {s : Shared}
def TupsAt (h : Heap) : List Value → List (Option Value) → Prop
  | [], [] => True
  | v :: vs, f :: fs => (∃ a o xs n, v = .ref a ∧ h.get? a = some o ∧ o.cls = .type "tuple" ∧ o.data = .seq xs n ∧ xs[0]? = f) ∧ TupsAt h vs fs
  | _, _ => False
theorem firsts_any : ∀ (vs : List Value) (fs : List (Option Value)) {Q : List (Option Value) → Shared → Prop}, TupsAt s.heap vs fs → Q fs s → wpAny M A (vs.mapM firstOfTuple') Q E s
  | [], [], _, _, h => by rw [List.mapM_nil]; exact wpAny_pure h
  | [], _ :: _, _, t, _ => t.elim
  | _ :: _, [], _, t, _ => t.elim
  | v :: vs, f :: fs, Q, t, h => by
    obtain ⟨⟨a, o, xs, n, rfl, ho, hc, hd, hf⟩, t⟩ := t
    rw [List.mapM_cons]
    refine wpAny_bind ?_
    rw [kas_first_eq]
    refine wpAny_bind (Looks.here (show Looks M s.heap (typeOf (.ref a)) o.cls from (Looks.ld ho).andThen .now) ?_)
    rw [hc, if_neg (by first | decide | simp)]
    refine wpAny_bind (listItems_at ho hd (wpAny_pure ?_))
    rw [hf]
    exact wpAny_bind (firsts_any vs fs (Q := fun bs s' => wpAny M A (pure (f :: bs)) Q E s') t (wpAny_pure h))
theorem tups_type : ∀ {vs : List Value} {fs : List (Option Value)}, TupsAt s.heap vs fs → ∀ v ∈ vs, Looks M s.heap (typeOf v) (.type "tuple")
  | v :: vs, f :: fs, t, u, hu => by
    obtain ⟨⟨a, o, xs, n, rfl, ho, hc, hd, hf⟩, t⟩ := t
    rcases List.mem_cons.mp hu with rfl | hu
    · rw [← hc]
      exact (Looks.ld ho).andThen .now
    · exact tups_type t u hu
theorem kind_any {vs : List Value} {fs : List (Option Value)} {T : Value} {Q : SortKind → Shared → Prop} (t : TupsAt s.heap vs fs) (hne : 0 < vs.length) (hT : ∀ v, some v ∈ fs → Looks M s.heap (typeOf v) T) (hT2 : (T == T) = true) (hT3 : (T != Value.type "tuple") = true)
    (h1 : (∀ f ∈ fs, f.isSome = true) → Q (tuples' true) s) (h2 : Q general' s) (h3 : Q oneType' s) : wpAny M A (keyKind' vs.toArray) Q E s := by
  rw [kat_kind_eq, List.mapM_toArray, map_eq_pure_bind]
  refine wpAny_bind (wpAny_bind (firsts_any vs _ t (wpAny_pure ?_)))
  by_cases hall : (fs.toArray.all fun x => x.isSome) = true
  · rw [if_pos hall]
    have hall' : ∀ f ∈ fs, f.isSome = true := by simpa using hall
    refine wpAny_bind (wpAny_rule ?_)
    have hfl : fs.length = vs.length := by
      clear hT h1 hall hall' hne
      induction vs generalizing fs with
      | nil => cases fs with
        | nil => rfl
        | cons _ _ => exact t.elim
      | cons v vs ih => cases fs with
        | nil => exact t.elim
        | cons f fs => simp [ih t.2]
    have hfm : fs.toArray.filterMap id = (fs.filterMap id).toArray := by simp
    have hne2 : fs.filterMap id ≠ [] := by
      intro z
      match fs, hfl with
      | [], e => simp at e; omega
      | f :: fs, _ =>
        obtain ⟨v, rfl⟩ := Option.isSome_iff_exists.mp (hall' f (by simp))
        simp at z
    rw [hfm, oneTypeOnly'_eq, List.mapM_toArray, map_eq_pure_bind]
    have hT' : ∀ v ∈ fs.filterMap id, Looks M s.heap (typeOf v) T := fun v hv => by
      obtain ⟨o, ho, e⟩ := List.mem_filterMap.mp hv
      have e' : o = some v := e
      exact hT v (e' ▸ ho)
    generalize fs.filterMap id = gs at hne2 hT'
    refine wpAny_bind (wpAny_bind (wpAny_bind (kas_mapM (r := T) _ (fun v hv Q' hq => (hT' v hv).here hq) (wpAny_pure ?_))))
    obtain ⟨g, gr, rfl⟩ : ∃ g gr, gs = g :: gr := by
      match gs, hne2 with
      | [], z => exact absurd rfl z
      | g :: gr, _ => exact ⟨g, gr, rfl⟩
    have hall2 : ((List.map (fun _ => T) (g :: gr)).toArray.all fun x => x == T) = true := by
      simp only [List.all_toArray, List.all_map, List.all_eq_true]
      intro _ _
      exact hT2
    have h0 : (List.map (fun _ => T) (g :: gr)).toArray[0]? = some T := by simp
    rw [h0]
    simp only [hall2, if_true]
    refine wpAny_pure (wpAny_pure ?_)
    have e : (some T).any (fun x => x != Value.type "tuple") = true := hT3
    rw [e]
    exact h1 hall'
  · rw [if_neg hall]
    split
    · exact wpAny_pure h2
    · rw [oneTypeOnly'_eq, List.mapM_toArray, map_eq_pure_bind]
      refine wpAny_bind (wpAny_bind (wpAny_bind (kas_mapM (r := Value.type "tuple") _ (fun v hv Q' hq => (tups_type t v hv).here hq) (wpAny_pure ?_))))
      obtain ⟨g, gr, rfl⟩ : ∃ g gr, vs = g :: gr := by
        match vs, hne with
        | g :: gr, _ => exact ⟨g, gr, rfl⟩
      have hall2 : ((List.map (fun _ => Value.type "tuple") (g :: gr)).toArray.all fun x => x == Value.type "tuple") = true := by
        simp only [List.all_toArray, List.all_map, List.all_eq_true]
        intro _ _
        show (Value.type "tuple" == Value.type "tuple") = true
        decide
      have h0 : (List.map (fun _ => Value.type "tuple") (g :: gr)).toArray[0]? = some (Value.type "tuple") := by simp
      rw [h0]
      simp only [hall2, if_true]
      exact wpAny_pure (wpAny_pure h3)
end
end L2

/-! sorted with a key, as rules of expressions -/
namespace L2
open PySem PySem.Spec PyProof.Rows PySem.W
/-- the key's call, in V: KV i k H: k is the key of the i-th -/
structure KeyV (X : Cx) (σ : St) (f : Value) (xs : List V) (H₁ : Hp) (KV : Nat → V → Hp → Prop) : Prop where
  mono : ∀ i v H H', Same H H' → KV i v H → KV i v H'
  call : ∀ i x u pins s H, xs[i]? = some x → RelV x u → Same H₁ H → Inv X.in2 pins σ H s → wpAny (model X.prog X.w) X.A.in1.in1 (call f [u]) (EP X.in2 pins σ fun k H' => Same H H' ∧ KV i k H') (fun _ _ => False) s
def KpV (KV : Nat → V → Hp → Prop) (i : Nat) (k : Value) (H : Hp) : Prop := ∃ v, RelV v k ∧ KV i v H
theorem KeyV.fn {X : Cx} {σ : St} {f : Value} {xs : List V} {vs : List Value} {H₁ : Hp} {KV : Nat → V → Hp → Prop} (h : KeyV X σ f xs H₁ KV) (r : Vals xs vs) : KeyFn X σ f vs H₁ (KpV KV) where
  mono := fun i k H H' sm ⟨v, rv, q⟩ => ⟨v, rv, h.mono i v H H' sm q⟩
  call := fun i u pins s H hu sm I => by
    have hl := r.length
    have hi := (List.getElem?_eq_some_iff.mp hu).1
    have hx : xs[i]? = some (xs[i]'(by omega)) := List.getElem?_eq_getElem _
    obtain ⟨u', e, ru⟩ := r.get hx
    rw [hu] at e
    cases e
    exact wpAny_mono (h.call i _ u pins s H hx ru sm I) (fun k s' ⟨v, H', I', rv, q1, q2⟩ => ⟨H', I', q1, v, rv, q2⟩) fun _ _ z => z
/-! ### keys that are ints -/
def KInt (f : Nat → Int) (i : Nat) (v : V) (_ : Hp) : Prop := v = .int (f i)
section
variable {X : Cx} {σ : St} {n : Nat}
theorem ints_at : ∀ {ks : List Value} {f : Nat → Int}, (∀ (i : Nat) k, ks[i]? = some k → ∃ t, k = .int (f i) t) → IntsAre ks ((List.range ks.length).map f)
  | [], _, _ => .nil
  | k :: ks, f, h => by
    obtain ⟨t, rfl⟩ := h 0 k rfl
    have := ints_at (ks := ks) (f := fun i => f (i + 1)) fun i k e => h (i + 1) k (by simpa using e)
    rw [List.length_cons, List.range_succ_eq_map, List.map_cons, List.map_map]
    exact .cons _ t this
theorem cmp_int {f : Nat → Int} : KeyCmp X σ n (KpV (KInt f)) (fun i j => decide (f i < f j)) where
  kind := fun pins s H ks I hl h2 hK => by
    have hK' : ∀ (i : Nat) k, ks[i]? = some k → ∃ t, k = .int (f i) t := fun i k e => by
      obtain ⟨v, rv, rfl⟩ := hK i k e
      obtain ⟨t, rfl⟩ := rv
      exact ⟨t, rfl⟩
    rw [ksk_kind (keys := ks.toArray) (kz := (List.range ks.length).map f) (by simpa using ints_at hK') (by rw [List.size_toArray]; omega)]
    refine wpAny_pure ⟨I, fun i j ki kj pins s hi hj I' => ?_⟩
    obtain ⟨t, rfl⟩ := hK' i ki hi
    obtain ⟨t2, rfl⟩ := hK' j kj hj
    rw [keyLt'_oneType]
    exact oneLt_int ⟨rfl, I'⟩
theorem swo_int {f : Nat → Int} : Swo fun i j => decide (f i < f j) := ⟨fun i => decide_eq_false (by omega), fun i j k h1 h2 => decide_eq_true (by have := of_decide_eq_true h1; have := of_decide_eq_true h2; omega), fun i j k h => by
  have := of_decide_eq_true h
  by_cases h2 : f i < f j
  · exact .inl (decide_eq_true h2)
  · exact .inr (decide_eq_true (by omega))⟩
/-! ### keys that are tuples of none or of one -/
def KTup (rk : Nat → List V) (i : Nat) (v : V) (H : Hp) : Prop := ∃ a, v = .ref a ∧ H a = some (.tup (rk i))
/-- of one kind -/
def OneK (rk : Nat → List V) : Prop := (∀ i, KeyL (rk i)) ∧ ((∀ i x, rk i = [x] → ∃ m, x = .int m) ∨ ∀ i x, rk i = [x] → ∃ m, x = .str m)
theorem OneK.lk {rk : Nat → List V} (h : OneK rk) {i j : Nat} {x y : V} (hx : rk i = [x]) (hy : rk j = [y]) : Lk2 x y := by
  rcases h.2 with h | h
  · obtain ⟨m, rfl⟩ := h i x hx
    obtain ⟨n, rfl⟩ := h j y hy
    exact .inl ⟨m, n, rfl, rfl⟩
  · obtain ⟨m, rfl⟩ := h i x hx
    obtain ⟨n, rfl⟩ := h j y hy
    exact .inr ⟨m, n, rfl, rfl⟩
theorem tups_ex {pins : List (Addr × Obj)} {s : Shared} {H : Hp} (I : Inv X pins σ H s) : ∀ {ks : List Value} {rk : Nat → List V}, (∀ i, KeyL (rk i)) → (∀ (i : Nat) k, ks[i]? = some k → ∃ a, k = .ref a ∧ H a = some (.tup (rk i))) →
    ∃ fs, TupsAt s.heap ks fs ∧ (∀ f ∈ fs, (∃ i, (f = none ∧ rk i = []) ∨ ∃ x v, f = some v ∧ rk i = [x] ∧ RelV x v)) ∧ ∀ i, i < ks.length → rk i = [] → none ∈ fs
  | [], rk, _, _ => ⟨[], trivial, fun f hf => by simp at hf, fun i hi => by simp at hi⟩
  | k :: ks, rk, hR, h => by
    obtain ⟨a, rfl, ha⟩ := h 0 k rfl
    obtain ⟨fs, h1, h2, h3⟩ := tups_ex I (ks := ks) (rk := fun i => rk (i + 1)) (fun i => hR (i + 1)) fun i k e => h (i + 1) k (by simpa using e)
    obtain ⟨us, n, dd, sl, ru, ea⟩ := tup_of I ha
    have hr := hR 0
    generalize hrk : rk 0 = r0 at hr ru
    rcases hr with rfl | ⟨x, rfl⟩
    · cases Vals.zero ru
      refine ⟨none :: fs, ⟨⟨a, _, _, n, rfl, ea, rfl, rfl, rfl⟩, h1⟩, fun f hf => ?_, fun i hi z => ?_⟩
      rcases List.mem_cons.mp hf with rfl | hf
      · exact ⟨0, .inl ⟨rfl, hrk⟩⟩
      · obtain ⟨i, q⟩ := h2 f hf
        exact ⟨i + 1, q⟩
      · cases i with
        | zero => simp
        | succ i => exact List.mem_cons_of_mem _ (h3 i (by simpa using hi) z)
    · obtain ⟨u, rfl, r1⟩ := Vals.one ru
      refine ⟨some u :: fs, ⟨⟨a, _, _, n, rfl, ea, rfl, rfl, rfl⟩, h1⟩, fun f hf => ?_, fun i hi z => ?_⟩
      rcases List.mem_cons.mp hf with rfl | hf
      · exact ⟨0, .inr ⟨x, u, rfl, hrk, r1⟩⟩
      · obtain ⟨i, q⟩ := h2 f hf
        exact ⟨i + 1, q⟩
      · cases i with
        | zero => rw [hrk] at z; cases z
        | succ i => exact List.mem_cons_of_mem _ (h3 i (by simpa using hi) z)
theorem cmp_tup {rk : Nat → List V} (hu : X.A.in1.in1.units < cLine) (hR : OneK rk) : KeyCmp X σ n (KpV (KTup rk)) (fun i j => ltR (rk i) (rk j)) where
  kind := fun pins s H ks I hl h2 hK => by
    have hK' : ∀ (i : Nat) k, ks[i]? = some k → ∃ a, k = .ref a ∧ H a = some (.tup (rk i)) := fun i k e => by
      obtain ⟨v, rv, a, rfl, ha⟩ := hK i k e
      cases rv
      exact ⟨a, rfl, ha⟩
    obtain ⟨fs, t, hf, hn⟩ := tups_ex I hR.1 hK'
    have any : ∀ κ, (κ = general' ∨ κ = oneType' ∨ (κ = tuples' true ∧ ∀ i, i < n → rk i ≠ [])) → CmpOk X σ H ks (fun i j => ltR (rk i) (rk j)) κ := fun κ hκ i j ki kj pins s hi hj I' => by
      obtain ⟨a, rfl, ha⟩ := hK' i ki hi
      obtain ⟨b, rfl, hb⟩ := hK' j kj hj
      have hin := (List.getElem?_eq_some_iff.mp hi).1
      have hjn := (List.getElem?_eq_some_iff.mp hj).1
      refine keyLt_any (X := X.in2) hu I' ha hb (hR.1 i) (hR.1 j) (fun x y e1 e2 => hR.lk e1 e2) ?_ ⟨rfl, I'⟩
      rcases hκ with h | h | ⟨h, h3⟩
      · exact .inl h
      · exact .inr (.inl h)
      · exact .inr (.inr ⟨h, h3 i (by omega), h3 j (by omega)⟩)
    have fin : ∀ (T : Value), (T == T) = true → (T != Value.type "tuple") = true → (∀ v, some v ∈ fs → Looks (model X.prog X.w) s.heap (typeOf v) T) → wpAny (model X.prog X.w) X.A.in1.in1 (keyKind' (List.toArray ks)) (fun κ s' => Inv X.in2 pins σ H s' ∧ CmpOk X σ H ks (fun i j => ltR (rk i) (rk j)) κ) (fun _ _ => False) s := fun T t2 t3 hT =>
      kind_any t (by omega) hT t2 t3 (fun hall => ⟨I, any _ (.inr (.inr ⟨rfl, fun i hi z => absurd (hall _ (hn i (by omega) z)) (by decide)⟩))⟩) ⟨I, any _ (.inl rfl)⟩ ⟨I, any _ (.inr (.inl rfl))⟩
    rcases hR.2 with hk | hk
    · refine fin (.type "int") (by decide) (by decide) fun v hv => ?_
      obtain ⟨i, ⟨e, _⟩ | ⟨x, v', e, e2, rv⟩⟩ := hf _ hv
      · cases e
      · cases e
        obtain ⟨m, rfl⟩ := hk i x e2
        obtain ⟨t, rfl⟩ := rv
        exact .now
    · refine fin (.type "str") (by decide) (by decide) fun v hv => ?_
      obtain ⟨i, ⟨e, _⟩ | ⟨x, v', e, e2, rv⟩⟩ := hf _ hv
      · cases e
      · cases e
        obtain ⟨m, rfl⟩ := hk i x e2
        obtain ⟨t, rfl⟩ := rv
        exact .now
theorem ltV_tr {x y z : V} (h1 : Lk2 x y) (h2 : Lk2 y z) (a : ltV x y = true) (b : ltV y z = true) : ltV x z = true := by
  rcases h1 with ⟨m, n, rfl, rfl⟩ | ⟨m, n, rfl, rfl⟩
  · rcases h2 with ⟨m2, k, e, rfl⟩ | ⟨_, _, e, _⟩
    · cases e
      exact decide_eq_true (by have := of_decide_eq_true a; have := of_decide_eq_true b; omega)
    · cases e
  · rcases h2 with ⟨_, _, e, _⟩ | ⟨m2, k, e, rfl⟩
    · cases e
    · cases e
      exact decide_eq_true (List.lt_trans (of_decide_eq_true a) (of_decide_eq_true b))
theorem ltV_nt {x y z : V} (h1 : Lk2 x y) (h2 : Lk2 y z) (a : ltV x z = true) : ltV x y = true ∨ ltV y z = true := by
  rcases h1 with ⟨m, n, rfl, rfl⟩ | ⟨m, n, rfl, rfl⟩
  · rcases h2 with ⟨m2, k, e, rfl⟩ | ⟨_, _, e, _⟩
    · cases e
      have := of_decide_eq_true a
      by_cases h : m < n
      · exact .inl (decide_eq_true h)
      · exact .inr (decide_eq_true (by omega))
    · cases e
  · rcases h2 with ⟨_, _, e, _⟩ | ⟨m2, k, e, rfl⟩
    · cases e
    · cases e
      by_cases h : m.cps.toList < n.cps.toList
      · exact .inl (decide_eq_true h)
      · refine .inr (decide_eq_true ?_)
        have hle : n.cps.toList ≤ m.cps.toList := List.not_lt.mp h
        exact List.lt_of_le_of_lt hle (of_decide_eq_true a)
theorem swo_tup {rk : Nat → List V} (hR : OneK rk) : Swo fun i j => ltR (rk i) (rk j) where
  ir := fun i => by
    show ltR (rk i) (rk i) = false
    rcases hR.1 i with e | ⟨x, e⟩
    · rw [e]; rfl
    · rw [e]; exact lt_irr x
  tr := fun i j k h1 h2 => by
    have h1 : ltR (rk i) (rk j) = true := h1
    have h2 : ltR (rk j) (rk k) = true := h2
    show ltR (rk i) (rk k) = true
    rcases hR.1 i with ei | ⟨x, ei⟩ <;> rcases hR.1 j with ej | ⟨y, ej⟩ <;> rcases hR.1 k with ek | ⟨z, ek⟩ <;> rw [ei] at h1 ⊢ <;> rw [ej] at h1 h2 <;> rw [ek] at h2 ⊢ <;> first | (cases h1; done) | (cases h2; done) | rfl | exact ltV_tr (hR.lk ei ej) (hR.lk ej ek) h1 h2
  nt := fun i j k h => by
    have h : ltR (rk i) (rk k) = true := h
    show ltR (rk i) (rk j) = true ∨ ltR (rk j) (rk k) = true
    rcases hR.1 i with ei | ⟨x, ei⟩ <;> rcases hR.1 j with ej | ⟨y, ej⟩ <;> rcases hR.1 k with ek | ⟨z, ek⟩ <;> rw [ei, ek] at h <;> rw [ei, ej, ek] <;> first | (cases h; done) | exact .inl rfl | exact .inr rfl | exact ltV_nt (hR.lk ei ej) (hR.lk ej ek) h
end
/-! ### the rules -/
section
variable {X : Cx} {σ : St} {H : Hp} {Q : VK} {e ke re : Expr} {p pos kp rp : Pos}
def SortV (X : Cx) (σ : St) (b : Bool) (v fv : V) (H : Hp) (Q : VK) : Prop := ∃ (l f : Addr) (xs : List V) (KV : Nat → V → Hp → Prop) (lt : Nat → Nat → Bool), v = .ref l ∧ fv = .ref f ∧ SqL X.K H l xs ∧ xs.length < 64 ∧ Swo lt ∧ KeyV X σ (.ref f) xs H KV ∧ KeyCmp X σ xs.length (KpV KV) lt ∧
  ∀ p H' q, Same H H' → H' p = none → Sorted xs.length (ltD b lt) q → Q (.ref p) (upd H' p (.lst (outV xs q)))
theorem ev_sortK (hg : Gl X "sorted") (hm : X.mg "sorted" = none) (he : starEach [e] X.env = [(false, eval e X.env)])
    (h : EV X e σ H fun v H1 => EV X ke σ H1 fun fv H2 => SortV X σ false v fv H2 Q) : EV X (.Call (.Name "sorted" p) [e] [⟨some "key", ke, kp⟩] pos) σ H Q := by
  intro pins s I
  refine wpAny_Call_Name_kw (ld_blt I hg hm PyProof.Rows.boot_sorted ?_ (by decide) (by decide))
  have hA : EA X [e] σ H (fun vs H1 => ∃ v, vs = [v] ∧ EV X ke σ H1 fun fv H2 => SortV X σ false v fv H2 Q) := ea_cons he (ev_mono h fun v H1 q => ea_nil ⟨v, rfl, q⟩)
  refine callWith_kw (thn (hA pos pins s I) fun us s1 ⟨vs, H1, I1, r1, v, ev, q1⟩ => ?_) (by rw [he]; rfl) (by rw [he]; rfl)
  subst ev
  obtain ⟨u, rfl, ru⟩ := Vals.one r1
  refine kws_cons (thn (q1 pins s1 I1) fun u2 s2 ⟨fv, H2, I2, r2, q2⟩ => kws_nil ?_)
  obtain ⟨l, f, xs, KV, lt, rfl, rfl, hs, h64, W, hK, hC, g⟩ := q2
  cases ru
  cases r2
  exact sorted_ep (kw := [(Str.ofString "key", .ref f)]) W hs h64 (fun vs r => ⟨hK.fn r, hC⟩) I2 (ksk_s1 _ _) (fun x => ksk_l1 _ _) (fun x => ksk_t1 f x) g
theorem ev_sortR {b : Bool} (hg : Gl X "sorted") (hm : X.mg "sorted" = none) (he : starEach [e] X.env = [(false, eval e X.env)])
    (h : EV X e σ H fun v H1 => EV X ke σ H1 fun fv H2 => EV X re σ H2 fun rv H3 => rv = .bl b ∧ SortV X σ b v fv H3 Q) : EV X (.Call (.Name "sorted" p) [e] [⟨some "key", ke, kp⟩, ⟨some "reverse", re, rp⟩] pos) σ H Q := by
  intro pins s I
  refine wpAny_Call_Name_kw (ld_blt I hg hm PyProof.Rows.boot_sorted ?_ (by decide) (by decide))
  have hA : EA X [e] σ H (fun vs H1 => ∃ v, vs = [v] ∧ EV X ke σ H1 fun fv H2 => EV X re σ H2 fun rv H3 => rv = .bl b ∧ SortV X σ b v fv H3 Q) := ea_cons he (ev_mono h fun v H1 q => ea_nil ⟨v, rfl, q⟩)
  refine callWith_kw (thn (hA pos pins s I) fun us s1 ⟨vs, H1, I1, r1, v, ev, q1⟩ => ?_) (by rw [he]; rfl) (by rw [he]; rfl)
  subst ev
  obtain ⟨u, rfl, ru⟩ := Vals.one r1
  refine kws_cons (thn (q1 pins s1 I1) fun u2 s2 ⟨fv, H2, I2, r2, q2⟩ => kws_cons (thn (q2 pins s2 I2) fun u3 s3 ⟨rv, H3, I3, r3, erv, q3⟩ => kws_nil ?_))
  obtain ⟨l, f, xs, KV, lt, rfl, rfl, hs, h64, W, hK, hC, g⟩ := q3
  subst erv
  cases ru
  cases r2
  cases r3
  exact sorted_ep (kw := [(Str.ofString "key", .ref f), (Str.ofString "reverse", .bool b)]) W hs h64 (fun vs r => ⟨hK.fn r, hC⟩) I3 (ksk_s2 _ _ _) (fun x => ksk_l2 _ _ _) (fun x => ksk_t2 f x b) g
/-! ### the key is a def of the text -/
abbrev Cx.noX (X : Cx) : Cx := { X.in2 with xe := fun _ _ => False }
theorem Inv.noX {pins : List (Addr × Obj)} {s : Shared} (I : Inv X.in2 pins σ H s) : Inv X.noX pins σ H s :=
  ⟨⟨I.ok.mod, I.ok.kind, I.ok.glob, I.ok.blt, I.ok.above, I.ok.inj, I.ok.has, I.ok.cab, I.ok.hd, I.ok.frames, I.ok.stk, I.ok.exf, I.ok.bs, I.ok.bsz, I.ok.noex, I.ok.exfs, I.ok.funs, I.ok.frf⟩, I.os, I.bare, I.base, I.loc, I.cell, I.free, I.freeC, I.pin, I.hok, I.len⟩
theorem Inv.unX {pins : List (Addr × Obj)} {s : Shared} (I : Inv X.noX pins σ H s) : Inv X.in2 pins σ H s :=
  ⟨⟨I.ok.mod, I.ok.kind, I.ok.glob, I.ok.blt, I.ok.above, I.ok.inj, I.ok.has, I.ok.cab, I.ok.hd, I.ok.frames, I.ok.stk, I.ok.exf, I.ok.bs, I.ok.bsz, I.ok.noex, I.ok.exfs, I.ok.funs, I.ok.frf⟩, I.os, I.bare, I.base, I.loc, I.cell, I.free, I.freeC, I.pin, I.hok, I.len⟩
theorem keyV_def {cc : Bool} {k : Nat} {x : Str} {ps : List Str} {sp : Sp} {xs : List V} {KV : Nat → V → Hp → Prop} (F : Def X.prog X.w X.K X.mg X.base cc k x ps sp) (hr : Room cc (k + 2) X.A) (hmono : ∀ i v H H', Same H H' → KV i v H → KV i v H')
    (h : ∀ (i : Nat) x H', xs[i]? = some x → Same H H' → sp [x] H' (fun v H2 => Same H' H2 ∧ KV i v H2) (fun _ _ _ => False)) : ∃ f : Addr, X.mg x = some (.ref f) ∧ KeyV X σ (.ref f) xs H KV := by
  obtain ⟨f, fd, h1, h2, h3, h4⟩ := F.ex
  refine ⟨f, h1, hmono, fun i x u pins s H' hx ru sm I => ?_⟩
  have := run_fnX (X := X.noX) (us := [u]) (vs := [x]) (Kx := fun _ _ _ _ => False) h4 hr.in1.in1 h3 (xok_false rfl) I.noX (.cons ru .nil) (h i x H' hx sm)
  exact wpAny_mono this (fun w s' ⟨v, H2, I2, rv, q⟩ => ⟨v, H2, I2.unX, rv, q⟩) fun _ _ z => z
theorem ev_gfn {x : Str} {f : Addr} (h : X.mg x = some (.ref f)) (hg : Gl X x) (hd : (x == ("__debug__" : Str)) = false) (q : Q (.ref f) H) : EV X (.Name x p) σ H Q := ev_of (pe_glob (v := .ref f) hg h rfl hd) q
end
end L2

/-! a def within a def -/
namespace L2
open PySem PySem.Spec PyProof.Rows PySem.W
theorem among_congr {p p' : Pos} (h1 : p.line = p'.line) (h2 : p.col = p'.col) (l : List Value) : codeAmong p l = codeAmong p' l := by
  fun_induction codeAmong p l with
  | case1 a t b u c rest h => unfold codeAmong; rw [← h1, ← h2, if_pos h]
  | case2 a t b u c rest h ih => rw [ih]; conv => rhs; unfold codeAmong
                                 rw [← h1, ← h2, if_neg h]
  | case3 l h => unfold codeAmong; split <;> first | rfl | (exfalso; exact h _ _ _ _ _ _ rfl)
theorem among_snoc {p a : Pos} {c cv : Value} (l : List Value) (h : TriplesOk l) (hc : codeAmong p (l ++ [rawInt a.line, rawInt a.col, c]) = some cv) : codeAmong p l = some cv ∨ (cv = c ∧ a.line = p.line ∧ a.col = p.col) := by
  fun_induction TriplesOk l with
  | case1 =>
    simp only [List.nil_append, rawInt, codeAmong] at hc
    split at hc
    · rename_i hh
      cases hc
      simp only [Bool.and_eq_true, beq_iff_eq] at hh
      exact .inr ⟨rfl, by omega, by omega⟩
    · cases hc
  | case2 x t y u z rest ih =>
    simp only [List.cons_append, codeAmong] at hc ⊢
    split at hc
    · rename_i hh
      rw [if_pos hh]
      exact .inl hc
    · rename_i hh
      rw [if_neg hh]
      exact ih h hc
  | case3 l h1 h2 => exact h.elim
/-- the module of the built-ins -/
def BM (mg : Str → Option Value) (base : Heap) : Prop := ∃ bm ob, mg "__builtins__" = some (.ref bm) ∧ bm ≠ builtinsNs ∧ base.get? bm = some ob ∧ ob.cls = .type "module" ∧ ob.dict = some builtinsNs ∧ ob.data = .plain
abbrev uT : HO := .ext fun _ => True
theorem uT_ok {P : Program} {w : World} {H : Hp} {h : Heap} {a : Addr} {o : Obj} (e : h.get? a = some o) : ObjOk P w H h a (.frz o uT) := ⟨e, trivial, ⟨o, e⟩, fun _ _ _ _ => trivial⟩
section
variable {X : Cx} {σ : St} {H : Hp} {D : Ends}
theorem sx_nest {name qual : Str} {params : Arguments} {body : List Stmt} {scope : Scope} {pos : Pos} {clos : List (Str × Addr)} {c P : Addr} {ps : Array Value} {t : Tok} {j : Nat} (hN : X.N.Nodup) (hj : X.N[j]? = some name) (hx : X.env.scope.names.lookup name = some .local)
    (hcode : X.env.code = .ref c) (C : CodeHd X.base c P) (B : BM X.mg X.base) (hcl : closureFor scope X.env = pure clos) (hP : H P = some (.tbl ps)) (hps : codeAmong pos ps.toList = some (.str qual t)) (hq : qualnameIn X.env name name = qual)
    (hd0 : params.defaults = []) (hk0 : params.kw_defaults = []) (ha : annTrees params none X.env = [])
    (h : ∀ (f c' : Addr) (oc : Obj) (doc pm ctv : Value) (vs : Array Value) (t' : Tok) (H' : Hp), Same H H' → H f = none → H' f = some (.frz (fnMade name qual params body scope clos doc pm c' ctv) uT) → (∃ u, H' c' = some (.frz oc u)) → oc.data = .fields vs → vs[1]? = some (.str qual t') → D.nx (σ.set j (some (.ref f))) H') :
    SX X (.FunctionDef name params body [] none [] scope none name pos) D σ H := by
  intro pins s I
  refine nestDef_K hd0 hk0 ha ?_
  rw [hq]
  obtain ⟨qs, eP, tr, z⟩ := (I.hok P _ hP : ObjOk X.prog X.w H s.heap P (.tbl ps))
  have hg : s.heap.Ns mainGlobals X.mg := I.mod.glob.keeps I.bk
  obtain ⟨bm, ob, b1, b2, b3, b4, b5, b6⟩ := B
  have b3' := I.bk _ _ b3
  have hgP : mainGlobals ≠ P := fun q => by
    obtain ⟨o, es, ep, e, hd, _⟩ := hg
    rw [q, eP] at e; cases e; cases hd
  have hbP : bm ≠ P := fun q => by rw [q, eP] at b3'; cases b3'; cases b4
  have hbG : bm ≠ mainGlobals := fun q => by
    obtain ⟨o, es, ep, e, hd, _⟩ := hg
    rw [q, e] at b3'; cases b3'; rw [hd] at b6; cases b6
  have hb : s.heap.BuiltinsAt X.mg P := ⟨bm, ob, b1, b2, hbG, hbP, b3', b4, b5, b6⟩
  have CC := C.keeps I.bk
  cases hf : codeAmong pos qs.toList with
  | some cv =>
    obtain ⟨c', oc, u, q, t2, vs, t', rfl, e2, e3, e4, e5⟩ := z pos cv hf
    rw [hps] at e2
    cases e2
    refine makeFunction_hit hcl I.ok.glob hg hcode CC eP tr hf hb fun ctv doc h' tk hk hsz => ?_
    have I1 := I.laid (a := h'.objs.size) (o := .frz (fnMade name qual params body scope clos doc ((X.mg "__name__").getD .none) c' ctv) uT) (t' := tk) (h' := h'.push (fnMade name qual params body scope clos doc ((X.mg "__name__").getD .none) c' ctv)) (fun b o e => Heap.get?_push_of_some _ (hk b o e)) hsz (uT_ok (Heap.get?_push_size _ rfl))
    have hfr := I.hok.fresh hsz
    have sm : Same H (upd H h'.objs.size (.frz (fnMade name qual params body scope clos doc ((X.mg "__name__").getD .none) c' ctv) uT)) := Same.upd hfr
    refine store_ok2 (v := .ref h'.objs.size) I1 hN hj (.inl hx) rfl (fun s' I' _ => ?_) (.inr hx)
    exact ⟨_, _, I', h _ c' oc doc _ ctv vs t' _ sm hfr upd_same ⟨u, sm _ _ e3⟩ e4 e5⟩
  | none =>
    refine makeFunction_K hcl I.ok.glob hg hcode CC eP tr hf hgP hb fun c' ctv doc h' tk hx' hge hlt hrec htb => ?_
    obtain ⟨c₂, oc, vs, t', e2, hoc, hd, hv⟩ := hrec
    cases e2
    have hcf : H c' = none := I.hok.fresh hge
    have hff : H h'.objs.size = none := I.hok.fresh (Nat.le_of_lt (Nat.lt_of_le_of_lt hge hlt))
    have hne : c' ≠ h'.objs.size := Nat.ne_of_lt hlt
    have hPlt := I.hok.lt hP
    have old : ∀ b u, H b = some u → (upd (upd H c' (.frz oc uT)) h'.objs.size (.frz (fnMade name qual params body scope clos doc ((X.mg "__name__").getD .none) c' ctv) uT)) b = some u := fun b u e => by
      rw [upd_ne (ne_of_none e hff), upd_ne (ne_of_none e hcf)]
      exact e
    have nP : ∀ b, H b = none → b ≠ P := fun b e z => by rw [z, hP] at e; cases e
    have lt' : ∀ b o, s.heap.get? b = some o → b ≠ c' ∧ b ≠ h'.objs.size := fun b o e => by
      have := Heap.lt_size e
      exact ⟨Nat.ne_of_lt (Nat.lt_of_lt_of_le this hge), Nat.ne_of_lt (Nat.lt_of_lt_of_le this (Nat.le_of_lt (Nat.lt_of_le_of_lt hge hlt)))⟩
    have kp : ∀ b o, b ≠ P → s.heap.get? b = some o → (h'.push (fnMade name qual params body scope clos doc ((X.mg "__name__").getD .none) c' ctv)).get? b = some o := fun b o hb e => Heap.get?_push_of_some _ (hx' b o hb e)
    have I1 : Inv X pins σ (upd (upd H c' (.frz oc uT)) h'.objs.size (.frz (fnMade name qual params body scope clos doc ((X.mg "__name__").getD .none) c' ctv) uT)) { s with heap := h'.push (fnMade name qual params body scope clos doc ((X.mg "__name__").getD .none) c' ctv), toks := tk } := by
      refine I.un (t' := tk) ⟨fun b o e n _ _ => kp b o (nP b n) e, fun b o e n _ _ => ⟨o.slots, kp b o (nP b n) e⟩, fun b o e n _ => ?_, fun b o e _ => ?_, fun b xs q => old _ _ q, fun b o u q => old _ _ q, fun b ps' q => ⟨#[], by rw [old _ _ q]; simp⟩⟩ fun b u e => ?_
      · rw [upd_ne (lt' b o e).2, upd_ne (lt' b o e).1]
        exact n
      · by_cases hb : b = P
        · exact ⟨_, by rw [hb]; exact Heap.get?_push_of_some _ htb⟩
        · exact ⟨_, kp b o hb e⟩
      · by_cases h1 : b = h'.objs.size
        · subst h1
          rw [upd_same] at e
          cases e
          exact uT_ok (Heap.get?_push_size _ rfl)
        · rw [upd_ne h1] at e
          by_cases h2 : b = c'
          · subst h2
            rw [upd_same] at e
            cases e
            exact uT_ok (Heap.get?_push_of_some _ hoc)
          · rw [upd_ne h2] at e
            by_cases h3 : b = P
            · subst h3
              rw [hP] at e
              cases e
              refine ⟨_, Heap.get?_push_of_some _ htb, ?_, fun p cv hc => ?_⟩
              · rw [Array.toList_append]
                exact TriplesOk_snoc _ _ _ _ tr
              · rw [Array.toList_append] at hc
                rcases among_snoc _ tr hc with h4 | ⟨rfl, h5, h6⟩
                · obtain ⟨c2, oc2, u2, q2, t2, vs2, t3, g1, g2, g3, g4⟩ := z p cv h4
                  exact ⟨c2, oc2, u2, q2, t2, vs2, t3, g1, g2, old _ _ g3, g4⟩
                · refine ⟨c', oc, uT, qual, t, vs, t', rfl, ?_, ?_, hd, hv⟩
                  · rw [← among_congr h5 h6]
                    exact hps
                  · rw [upd_ne hne, upd_same]
            · refine (I.hok b u e).stay (fun a v ha q => kp a v ?_ q) (fun a q => old _ _ q) (fun a xs q => old _ _ q) fun a ob v q => old _ _ q
              rcases ha with rfl | ha
              · exact h3
              · intro z2
                rw [z2, hP] at ha
                cases ha
    have sm : Same H (upd (upd H c' (.frz oc uT)) h'.objs.size (.frz (fnMade name qual params body scope clos doc ((X.mg "__name__").getD .none) c' ctv) uT)) := old
    refine store_ok2 (v := .ref h'.objs.size) I1 hN hj (.inl hx) rfl (fun s' I' _ => ?_) (.inr hx)
    exact ⟨_, _, I', h _ c' oc doc _ ctv vs t' _ sm hff upd_same ⟨uT, by rw [upd_ne hne, upd_same]⟩ hd hv⟩
/-! ### its call -/
abbrev CxN (X : Cx) (qual : Str) (scope : Scope) (f : Addr) (cd : Value) (cl : List (Str × Addr)) (N : List Str) (s : Shared) (H : Hp) : Cx where
  prog := X.prog
  w := X.w
  K := X.K
  mg := X.mg
  base := X.base
  A := X.A.deeper (envX qual scope s.heap.objs.size f cd cl)
  N := N
  s₀ := s
  H₀ := H
  env := envX qual scope s.heap.objs.size f cd cl
  outer := X.stack
  stack := envX qual scope s.heap.objs.size f cd cl :: X.stack
  ex := []
  fn := fun _ => false
  calm := X.calm
  pn := []
  xe := fun _ _ => False
theorem nest_call {pins : List (Addr × Obj)} {s : Shared} {f c' c : Addr} {name qual x y : Str} {params : Arguments} {body : List Stmt} {scope : Scope} {doc pm ctv u : Value} {u0 u1 : HO} {oc : Obj} {vs : Array Value} {t' : Tok} {v z : V} {j : Nat} {Q : VK} {E : Value → Shared → Prop} (I : Inv X pins σ H s)
    (hf : H f = some (.frz (fnMade name qual params body scope [(y, c)] doc pm c' ctv) u0)) (hc' : H c' = some (.frz oc u1)) (hoc : oc.data = .fields vs) (hq : vs[1]? = some (.str qual t')) (hroom : X.A.depth < recursionLimit)
    (hb : ∀ doc pm c' ctv (u : Value), bindArgs (fnX name qual params body scope [(y, c)] .none .none doc pm none (.ref c') ctv) ⟨[u], []⟩ = pure [(x, u)])
    (hk : scope.kind = .function) (hco : scope.isCoroutine = false) (hgen : scope.isGenerator = false) (hxl : scope.names.lookup x = some .local) (hyf : scope.names.lookup y = some .free) (hnc : ∀ a ∈ scope.names, a.2 ≠ .cell) (hfr : ∀ a, scope.names.lookup a = some .free → a = y)
    (hj : X.N[j]? = some y) (hσ : σ[j]? = some (some z)) (hyc : X.env.scope.names.lookup y = some .cell) (hcc : X.env.cells.lookup y = some c) (rv : RelV v u)
    (h : SXs (CxN X qual scope f (.ref c') [(y, c)] [x, y] s H) body { nx := fun _ H' => Q .non H', rt := Q } [some v, some z] H) : wpAny (model X.prog X.w) X.A (call (.ref f) [u]) (EP X pins σ Q) E s := by
  have e0 := I.env0
  obtain ⟨ef, _⟩ := (I.hok f _ hf : ObjOk X.prog X.w H s.heap f (.frz _ u0))
  obtain ⟨ec, _⟩ := (I.hok c' _ hc' : ObjOk X.prog X.w H s.heap c' (.frz oc u1))
  have hcd : s.heap.CodeRec (.ref c') qual := ⟨c', oc, vs, t', rfl, ec, hoc, hq⟩
  have hxy : x ≠ y := fun e => by rw [e, hyf] at hxl; cases hxl
  obtain ⟨m, hm, hl⟩ := id I.loc
  obtain ⟨uz, rz, lk⟩ := hl j y z hj hσ (.inr (.inl hyc))
  obtain ⟨hci⟩ : Nonempty (s.heap.IsCell c (some uz)) := by
    rcases lk with ⟨k, _⟩ | ⟨_, c2, e, q⟩
    · rw [show X.env.kindOf y = X.env.scope.names.lookup y from rfl, hyc] at k; cases k
    · rw [hcc] at e; cases e; exact ⟨q⟩
  refine wpAny_call (codeAny_mono (codeAny_call_def (R := fun r s' => match r with | .ok (.ret u) => CE X.stack X.prog X.w H s Q u s' | .ok _ => False | .error _ => False) (fd := fnX name qual params body scope [(y, c)] .none .none doc pm none (.ref c') ctv) (body := body) (binds := [(x, u)]) hroom ef rfl I.nolimit hcd rfl (.of_eq (hb doc pm c' ctv u)) hnc (fun a ha => by cases List.mem_singleton.mp ha; exact hxl) (fun h₁ hns hk₁ => ?_) hco hgen hk) fun r s' hq => ?_)
  · have I1 : Inv (CxN X qual scope f (.ref c') [(y, c)] [x, y] s H) [] [some v, some z] H { s with heap := h₁, toks := s.toks + [(x, u)].length } := by
      have noA : ∀ b : Addr, b ∉ (CxN X qual scope f (.ref c') [(y, c)] [x, y] s H).ex := fun b z => absurd (show b ∈ ([] : List Addr) from z) (by simp)
      refine ⟨⟨e0.mod, hk, rfl, rfl, Nat.le_refl _, fun a b d h1 h2 => ?_, fun a ha => ?_, fun a d h1 => (by cases h1), I.ok.hd, Around.frames_deeper e0.frames, .inr ⟨rfl, rfl⟩, fun b z => absurd z (noA b), e0.bs, e0.bsz, fun b _ _ => noA b, fun b z => absurd z (noA b), e0.funs, e0.frf⟩,
        rfl, e0.bare, Un.kept hk₁, ⟨_, hns, fun i a b h1 h2 h3 => ?_⟩, fun a d h1 => ?_, e0.hok.fresh (Nat.le_refl _), fun a d h1 => ?_, fun p hp => absurd (show p ∈ ([] : List (Addr × Obj)) from hp) (by simp), e0.hok.kept hk₁, rfl⟩
      · have h1 : ([(y, c)] : List (Str × Addr)).lookup a = some d := h1
        have h2 : ([(y, c)] : List (Str × Addr)).lookup b = some d := h2
        have e1 := PySem.mem_of_lookup h1
        have e2 := PySem.mem_of_lookup h2
        rw [List.mem_singleton] at e1 e2
        cases e1
        cases e2
        rfl
      · have ha : scope.names.lookup a = some .cell ∨ scope.names.lookup a = some .free := ha
        rcases ha with ha | ha
        · exact absurd rfl (hnc _ (PySem.mem_of_lookup ha))
        · cases hfr a ha
          exact ⟨c, by show ([(y, c)] : List (Str × Addr)).lookup y = some c; simp [List.lookup]⟩
      · match i, h1, h2 with
        | 0, h1, h2 =>
          cases h1
          cases h2
          exact ⟨u, rv, .inl ⟨hxl, by simp [List.lookup]⟩⟩
        | 1, h1, h2 =>
          cases h1
          cases h2
          exact ⟨uz, rz, .inr ⟨.inr hyf, c, by show ([(y, c)] : List (Str × Addr)).lookup y = some c; simp [List.lookup], hci.keeps hk₁⟩⟩
        | i + 2, h1, h2 => simp at h1
      · have e1 := PySem.mem_of_lookup (show ([(y, c)] : List (Str × Addr)).lookup a = some d from h1)
        rw [List.mem_singleton] at e1
        cases e1
        exact ⟨_, hci.keeps hk₁⟩
      · have e1 := PySem.mem_of_lookup (show ([(y, c)] : List (Str × Addr)).lookup a = some d from h1)
        rw [List.mem_singleton] at e1
        cases e1
        exact I.freeC y c hcc
    refine wpAny_mono (h [] _ I1) (fun fl s' hs => ?_) fun _ _ z => z.elim
    have fin : ∀ {σ' : St} {H' : Hp} {v : V} {u : Value}, Inv (CxN X qual scope f (.ref c') [(y, c)] [x, y] s H) [] σ' H' s' → RelV v u → Q v H' → CE X.stack X.prog X.w H s Q u s' :=
      fun {σ' H' v u} J rv q => ⟨v, H', J.os, J.bare, J.base, J.hok, rv, q⟩
    cases fl with
    | ret u =>
      obtain ⟨v, σ', H', J, rv, q⟩ := hs
      exact fin J rv q
    | next =>
      obtain ⟨σ', H', J, q⟩ := hs
      exact fin (v := V.non) (u := Value.none) J rfl q
    | brk =>
      obtain ⟨_, _, _, q⟩ := hs
      exact False.elim q
    | cont =>
      obtain ⟨_, _, _, q⟩ := hs
      exact False.elim q
  · cases r with
    | error e => exact hq.elim
    | ok fl =>
      cases fl with
      | ret u => exact I.after hq
      | next => exact False.elim hq
      | brk => exact False.elim hq
      | cont => exact False.elim hq
end
end L2

/-! the head for a law that comes to a def within a def -/
namespace L2
open PySem PySem.Spec PyProof.Rows PySem.W
def tabC (K : PySem.W.Frag) (x : Str) : Addr := ((tabIn K x).getD (0, 0)).1
def tabP (K : PySem.W.Frag) (x : Str) : Addr := ((tabIn K x).getD (0, 0)).2
def tabKey (p : Pos) (q : Str) : Array Value := #[rawInt p.line, rawInt p.col, .str q 0]
theorem tabKey_at (p : Pos) (q : Str) : codeAmong p (tabKey p q).toList = some (.str q 0) := by simp [tabKey, codeAmong, rawInt]
def tabOk (K : PySem.W.Frag) (x : Str) : Bool := match tabIn K x with
  | some cp => (K.lookup cp.2).isNone
  | none => false
theorem tabOk_in {K : PySem.W.Frag} {x : Str} (h : tabOk K x = true) : tabIn K x = some (tabC K x, tabP K x) ∧ K.lookup (tabP K x) = none := by
  unfold tabOk at h
  unfold tabC tabP
  cases e : tabIn K x with
  | none => rw [e] at h; cases h
  | some cp =>
    rw [e] at h
    exact ⟨rfl, by simpa using h⟩
/-- what stands in the base for the inner def of x -/
structure Nst (K : PySem.W.Frag) (mg : Str → Option Value) (base : Heap) (x : Str) : Prop where
  tab : tabIn K x = some (tabC K x, tabP K x)
  code : CodeHd base (tabC K x) (tabP K x)
  bm : BM mg base
  kin : K.In base
  glob : base.Ns mainGlobals mg
theorem law_callT {P : Program} {w : World} {K : PySem.W.Frag} {mg mb : Str → Option Value} {CX : CXT} {k : Nat} {fa a : Addr} {fd : FuncData} {x xn : Str} {sp : Sp} {s₁ : Shared} {vs : List Value} {ns : List Int} {ps : Array Value}
    (KX : K.In s₁.heap) (hns : s₁.heap.Ns mainGlobals mg) (hb : s₁.heap.Ns builtinsNs mb) (hbb : ∀ x : Str, x ≠ "__name__" → mb x = bootBuiltins x) (hlim : s₁.heap.NoLimit) (hg : s₁.gens = #[])
    (ha : s₁.heap.get? a = some { cls := .type "list", data := .seq vs.toArray }) (hi : IntsAre vs ns) (hl : ns.length ≤ sizeLine) (hr : Room cc k callerA)
    (hT : tabIn K xn = some (tabC K xn, tabP K xn)) (hC : CodeHd s₁.heap (tabC K xn) (tabP K xn)) (hP : s₁.heap.get? (tabP K xn) = some (tabObj #[])) (hKP : K.lookup (tabP K xn) = none) (hB : BM mg s₁.heap)
    (F : ∀ base : Heap, K.In base → base.Ns mainGlobals mg → Nst K mg base xn → FnOk P w K mg base CX cc k fa fd [x] sp) (hbind : ∀ (s : Shared) (u : Value), BindsTo s fd ⟨[u], []⟩ [(x, u)])
    (hsp : ∀ H : Hp, SqL K H a (ns.map V.int) → H (tabP K xn) = some (.tbl ps) → sp [.ref a] H (fun v _ => v = .bl true) fun _ _ _ => False)
    (hCX : ∀ H e s', CX [] H s₁ (fun _ _ _ => False) e s' → False) :
    codeAny (model P w) callerA (.call (.ref fa) ⟨[.ref a], []⟩) (fun r s' => r = .ok (.ret (.bool true)) ∧ OldK s₁.heap s'.heap ∧ s'.os = s₁.os ∧ AllBare s'.gens) s₁ := by
  have rv := vals_ints hi
  have lenV := hi.length
  generalize hpp : tabP K xn = pt at hC hP hKP hsp
  have hpa : pt ≠ a := fun z => by rw [z, ha] at hP; cases hP
  have core : ∀ H : Hp, SqL K H a (ns.map V.int) → H pt = some (.tbl ps) → HOk P w H s₁.heap → (∀ b, H b = none ∨ b = a ∨ b = pt) → (∀ b, H b = none ∨ K.lookup b = none) → (∀ u, H a = some u → ∃ o v, u = .frz o v) →
      codeAny (model P w) callerA (.call (.ref fa) ⟨[.ref a], []⟩) (fun r s' => r = .ok (.ret (.bool true)) ∧ OldK s₁.heap s'.heap ∧ s'.os = s₁.os ∧ AllBare s'.gens) s₁ := by
    intro H hS hH hok hA hK hfz
    have base_of : ∀ {b : Addr} {o : Obj}, s₁.heap.get? b = some o → H b = none → (hidT s₁.heap H).get? b = some o := fun e n => hidT_get e n
    have free : ∀ {b : Addr} {o : Obj}, s₁.heap.get? b = some o → o.cls ≠ .type "list" → o.cls ≠ .none → H b = none := fun {b o} e n1 n2 => by
      rcases hA b with z | z | z
      · exact z
      · rw [z, ha] at e; cases e; exact absurd rfl n1
      · rw [z, hP] at e; cases e; exact absurd rfl n2
    have noA : ∀ {b : Addr} {o : Obj} {es : Array DictEntry} {ep : Nat}, s₁.heap.get? b = some o → o.data = .dict es ep → H b = none := fun {b o es ep} e d => by
      rcases hA b with z | z | z
      · exact z
      · rw [z, ha] at e; cases e
        have d' : Data.seq vs.toArray _ = Data.dict es ep := d
        cases d'
      · rw [z, hP] at e; cases e
        have d' : Data.fields #[] = Data.dict es ep := d
        cases d'
    have nsK : ∀ {b : Addr} {m : Str → Option Value}, s₁.heap.Ns b m → (hidT s₁.heap H).Ns b m := fun {b m} ⟨o, es, ep, e, d, r⟩ => ⟨o, es, ep, base_of e (noA e d), d, r⟩
    have hKb : K.In (hidT s₁.heap H) := fun b o e => base_of (KX b o e) (by
      rcases hK b with z | z
      · exact z
      · rw [z] at e; cases e)
    have hM : Mod K mg (hidT s₁.heap H) := ⟨hKb, nsK hns, ⟨mb, nsK hb, hbb⟩, let ⟨mc, h1, h2⟩ := hlim; ⟨mc, nsK h1, h2⟩⟩
    have hN : Nst K mg (hidT s₁.heap H) xn := by
      refine ⟨hT, ?_, ?_, hKb, nsK hns⟩
      · rw [hpp]
        obtain ⟨o, vs, file, tf, flags, tg, inF, text, tt, e1, r1, r⟩ := hC
        exact ⟨o, vs, file, tf, flags, tg, inF, text, tt, base_of e1 (free e1 (by rw [r1]; decide) (by rw [r1]; decide)), r1, r⟩
      · obtain ⟨bm, ob, b1, b2, b3, b4, r⟩ := hB
        exact ⟨bm, ob, b1, b2, base_of b3 (free b3 (by rw [b4]; decide) (by rw [b4]; decide)), b4, r⟩
    have e0 : Env0 P w K mg (hidT s₁.heap H) callerA [] s₁ H := ⟨rfl, hM, fun b o e => of_hidT e, Nat.le_of_eq (hidT_size _ _), trivial, fun b hb => absurd (show b ∈ ([] : List Addr) from hb) (by simp), hok, .of_eq hg⟩
    refine codeAny_mono ((F _ hKb (nsK hns) hN).run callerA [] s₁ H ⟨[.ref a], []⟩ [.ref a] [.ref a] _ _ hr e0 (hbind s₁ (.ref a)) (.cons rfl .nil) (hsp H hS hH)) fun r s' h => ?_
    cases r with
    | error e => exact (hCX H e s' h).elim
    | ok fl =>
      cases fl with
      | next => exact False.elim h
      | brk => exact False.elim h
      | cont => exact False.elim h
      | ret u =>
        obtain ⟨v, H', os, bare, un, hok', r', q⟩ := h
        have q' : v = .bl true := q
        subst q'
        obtain rfl : u = Value.bool true := r'
        obtain ⟨more, hm⟩ := un.tbls pt ps hH
        obtain ⟨qs, eq, _⟩ := (hok' pt _ hm : ObjOk P w H' s'.heap pt (.tbl (ps ++ more)))
        have all : ∀ b o, s₁.heap.get? b = some o → asItWas s₁.heap s'.heap b o := fun b o e => by
          rcases hA b with z | z | z
          · exact .inl (un.keep b o e z (by intro z; exact absurd (show b ∈ ([] : List Addr) from z) (by simp)) (by simp))
          · cases e3 : H b with
            | none => exact .inl (un.keep b o e e3 (by intro z; exact absurd (show b ∈ ([] : List Addr) from z) (by simp)) (by simp))
            | some u =>
              obtain ⟨ob, v, rfl⟩ := hfz u (by rw [← z]; exact e3)
              have z2 := un.frzs b ob _ e3
              obtain ⟨e1, _⟩ := (hok b _ e3 : ObjOk P w H s₁.heap b (.frz ob v))
              obtain ⟨e2, _⟩ := (hok' b _ z2 : ObjOk P w H' s'.heap b (.frz ob v))
              rw [e] at e1; cases e1
              exact .inl e2
          · subst z
            rw [hP] at e
            cases e
            obtain ⟨o, vs, file, tf, flags, tg, inF, text, tt, e1, r1, r2, r3, _⟩ := hC
            refine .inr (.inl ⟨⟨_, o, vs, e1, r1, r2, r3⟩, rfl, #[], qs, rfl, ?_⟩)
            rw [eq]
            simp
        refine ⟨rfl, ⟨all, fun b o e => ?_⟩, os, bare⟩
        exact un.there b o e (by simp)
  cases hk : K.lookup a with
  | some o =>
    have e := KX a o hk
    rw [ha] at e
    cases e
    refine core (fun b => if b = pt then some (.tbl ps) else none) (.inr ⟨_, vs.toArray, _, hk, rfl, rfl, rfl, by rw [List.size_toArray, lenV]; exact hl, by simpa using rv⟩) (if_pos rfl) (fun b u z => ?_) (fun b => ?_) (fun b => ?_) fun u z => ?_
    · by_cases hb : b = pt
      · have z' := (if_pos hb).symm.trans z
        cases z'
        subst hb
        exact ⟨#[], hP, trivial, fun p cv h => by simp [codeAmong] at h⟩
      · have z' := (if_neg hb).symm.trans z
        cases z'
    · by_cases hb : b = pt
      · exact .inr (.inr hb)
      · exact .inl (if_neg hb)
    · by_cases hb : b = pt
      · exact .inr (by rw [hb]; exact hKP)
      · exact .inl (if_neg hb)
    · have z' := (if_neg (Ne.symm hpa)).symm.trans z
      cases z'
  | none =>
    refine core (fun b => if b = pt then some (.tbl ps) else if b = a then some (.frz { cls := .type "list", data := .seq vs.toArray } (.lst (ns.map V.int))) else none) (.inl (.inr ⟨{ cls := .type "list", data := .seq vs.toArray }, (if_neg (Ne.symm hpa)).trans (if_pos rfl)⟩)) (if_pos rfl) (fun b u z => ?_) (fun b => ?_) (fun b => ?_) fun u z => ?_
    · by_cases hb : b = pt
      · have z' := (if_pos hb).symm.trans z
        cases z'
        subst hb
        exact ⟨#[], hP, trivial, fun p cv h => by simp [codeAmong] at h⟩
      · have z' := (if_neg hb).symm.trans z
        by_cases hb2 : b = a
        · have z2 := (if_pos hb2).symm.trans z'
          cases z2
          subst hb2
          exact ⟨ha, by rw [List.length_map]; exact hl, vs, _, rv, ha⟩
        · have z2 := (if_neg hb2).symm.trans z'
          cases z2
    · by_cases hb : b = pt
      · exact .inr (.inr hb)
      · by_cases hb2 : b = a
        · exact .inr (.inl hb2)
        · exact .inl (by rw [if_neg hb, if_neg hb2])
    · by_cases hb : b = pt
      · exact .inr (by rw [hb]; exact hKP)
      · by_cases hb2 : b = a
        · exact .inr (by rw [hb2]; exact hk)
        · exact .inl (by rw [if_neg hb, if_neg hb2])
    · have z' := (if_neg (Ne.symm hpa)).symm.trans z
      have z2 := (if_pos rfl).symm.trans z'
      cases z2
      exact ⟨_, _, rfl⟩
theorem walk_ofT {l : PySem.W.OpenLaw} {n k : Nat} {q : Program} {loose : List Str} {XP : (Str → Option Value) → Heap → Prop} {YP : World → Heap → Prop} {d : DefRec} {K : Params → PySem.W.Frag} {CX : World → CXT} {sp : World → Sp} {x xn : Str} {ps : Array Value}
    (hn : l.most = some n) (hn2 : n ≤ sizeLine) (hdf : d.params.defaults = []) (hr : Room cc k callerA)
    (hY : ∀ (w : World) (h : Heap), YP w h → (K w.params).In h) (hrec : ((recsOf q).find? (fun e => e.name == xn)).isSome = true) (htab : ∀ w : World, tabOk (K w.params) xn = true)
    (F : ∀ (w : World) (mg : Str → Option Value) (fa : Addr) (h : Heap), (K w.params).In h → h.Ns mainGlobals mg → mg d.name = some (.ref fa) →
      ∃ fd : FuncData, (∀ (s : Shared) (u : Value), BindsTo s fd ⟨[u], []⟩ [(x, u)]) ∧
        ∀ base : Heap, (K w.params).In base → base.Ns mainGlobals mg → Nst (K w.params) mg base xn → FnOk l.prog w (K w.params) mg base (CX w) cc k fa fd [x] (sp w))
    (hsp : ∀ (w : World) (H : Hp) (a : Addr) (ns : List Int), ns.length ≤ n → SqL (K w.params) H a (ns.map V.int) → H (tabP (K w.params) xn) = some (.tbl ps) → sp w [.ref a] H (fun v _ => v = .bl true) fun _ _ _ => False)
    (hCX : ∀ (w : World) (H : Hp) (s : Shared) (e : Value) (s' : Shared), CX w [] H s (fun _ _ _ => False) e s' → False) :
    PySem.W.WalkO q loose XP YP l.row.toRowW d [] (fun f vs => PySem.call f vs) := by
  refine Att.attach_call hn hdf fun w s₀ s₁ mg mb fa o pm cd doc a vs ns G Y ho hd hcd hmg hobj hints hlen hg => ?_
  have KX := hY w _ Y
  obtain ⟨fd, hb, hF⟩ := F w mg fa _ KX G.T.g hmg
  obtain ⟨t1, t2⟩ := tabOk_in (htab w)
  obtain ⟨d', hd'⟩ := Option.isSome_iff_exists.mp hrec
  obtain ⟨hC, hP⟩ := tab_of G.T KX hd' t1
  exact law_callT KX G.T.g G.T.b G.T.builtins G.T.nolimit hg hobj hints (Nat.le_trans hlen hn2) hr t1 hC hP t2 G.T.bmain hF hb (fun H hS hH => hsp w H a ns hlen hS hH) fun H e s' => hCX w H s₁ e s'
/-- law's promise where an inner def is made -/
def spLawT (K : PySem.W.Frag) (x : Str) (ps : Array Value) : Sp := fun vs H Q _ => ∃ (a : Addr) (ns : List Int), vs = [.ref a] ∧ SqL K H a (ns.map V.int) ∧ ns.length ≤ 63 ∧ H (tabP K x) = some (.tbl ps) ∧ ∀ H', Q (.bl true) H'
/-- a def that makes an inner def: its code object is known -/
theorem def_ofN {P : Program} {w : World} {K : PySem.W.Frag} {mg : Str → Option Value} {base : Heap} {x : Str} {st : Stmt} {ps N : List Str} {k : Nat} {sp : Sp} (F : ∃ f fd, Fun K x x st f fd ∧ mg x = some (.ref f)) (hT : Nst K mg base x) (S : FnScope N ps (defScope st))
    (hb : ∀ (kV doc pm : Value) (an : Option Addr) (cdv ct : Value) (us : List Value), us.length = ps.length → bindArgs (PySem.W.fnOf x x (defArgs st) (defBody st) (defScope st) .none kV doc pm an cdv ct) ⟨us, []⟩ = pure (ps.zip us))
    (len : ∀ vs H Q E, sp vs H Q E → vs.length = ps.length)
    (body : ∀ (f : Addr) (A : Around) (outer : List Env) (s : Shared) (H : Hp) (vs : List V) (Q : VK) (E : XK), Room cc k (A.deeper (envOfC x (defScope st) s.heap.objs.size f (.ref (tabC K x)))) → sp vs H Q E →
      SXs (CxF cc P w K mg base N x (defScope st) f (.ref (tabC K x)) A outer s H E) (defBody st) { nx := fun _ H' => Q .non H', rt := Q } (start N vs) H) : Def P w K mg base cc (k + 1) x ps sp := by
  obtain ⟨f, fd, F, hm⟩ := F
  refine ⟨f, fd, hm, F.kp, F.binds hb, ?_⟩
  obtain ⟨oc, od, kV, doc, pm, an, cdv, ct, osl, rfl, lk, hcd⟩ := id F.ex
  have e := hT.tab
  unfold tabIn at e
  split at e
  · rename_i f' hf
    have hm' := PySem.W.mg_of hT.kin hT.glob hf
    rw [hm] at hm'
    cases hm'
    simp only [lk] at e
    cases cdv with
    | ref c =>
      have ec : c = tabC K x := by
        dsimp only at e
        split at e
        · split at e
          · have := Option.some.inj e
            exact congrArg Prod.fst this
          · cases e
        · cases e
      subst ec
      exact fn_of lk hcd S len fun A outer s H vs Q E hr h => ⟨_, pss_self, body f A outer s H vs Q E hr h⟩
    | _ => cases e
  · cases e
end L2

/-! own words for the steps (keys of one's own at the library's walk_at) -/
local macro_rules | `(tactic| walk_at "nm") => `(tactic| refine L2.ev_name (by rfl) (by first | exact Or.inl rfl | exact Or.inr (Or.inl rfl) | exact Or.inr (Or.inr rfl)) ?_ (by decide) (by decide))
local macro_rules | `(tactic| walk_at "gc") => `(tactic| refine L2.ev_gc (by assumption) (by rfl) ?_ (by decide))
local macro_rules | `(tactic| walk_at "ty") => `(tactic| first
  | ((with_reducible show L2.EV _ (PySem.Expr.Name "list" _) _ _ _); refine L2.ty_list (by rfl) (by assumption) ?_)
  | ((with_reducible show L2.EV _ (PySem.Expr.Name "tuple" _) _ _ _); refine L2.ty_tuple (by rfl) (by assumption) ?_)
  | ((with_reducible show L2.EV _ (PySem.Expr.Name "int" _) _ _ _); refine L2.ty_int (by rfl) (by assumption) ?_)
  | ((with_reducible show L2.EV _ (PySem.Expr.Name "bool" _) _ _ _); refine L2.ty_bool (by rfl) (by assumption) ?_))
local macro_rules | `(tactic| walk_at "cb") => `(tactic| first
  | ((with_reducible show L2.EV _ (PySem.Expr.Call (PySem.Expr.Name "len" _) _ _ _) _ _ _); refine L2.cb_len (by rfl) (by assumption) (by rfl) (by rfl) ?_)
  | ((with_reducible show L2.EV _ (PySem.Expr.Call (PySem.Expr.Name "isinstance" _) _ _ _) _ _ _); refine L2.cb_isinstance (by rfl) (by assumption) (by rfl) (by rfl) ?_)
  | ((with_reducible show L2.EV _ (PySem.Expr.Call (PySem.Expr.Name "min" _) _ _ _) _ _ _); refine L2.cb_min (by rfl) (by assumption) (by rfl) (by rfl) ?_)
  | ((with_reducible show L2.EV _ (PySem.Expr.Call (PySem.Expr.Name "sorted" _) _ _ _) _ _ _); refine L2.cb_sorted (by rfl) (by assumption) (by rfl) (by rfl) ?_))
local macro_rules | `(tactic| walk_at "ct") => `(tactic| first
  | ((with_reducible show L2.EV _ (PySem.Expr.Call (PySem.Expr.Name "list" _) _ _ _) _ _ _); refine L2.ct_list (by rfl) (by assumption) (by rfl) (by rfl) ?_)
  | ((with_reducible show L2.EV _ (PySem.Expr.Call (PySem.Expr.Name "tuple" _) _ _ _) _ _ _); refine L2.ct_tuple (by rfl) (by assumption) (by rfl) (by rfl) ?_)
  | ((with_reducible show L2.EV _ (PySem.Expr.Call (PySem.Expr.Name "int" _) _ _ _) _ _ _); refine L2.ct_int (by rfl) (by assumption) (by rfl) (by rfl) ?_)
  | ((with_reducible show L2.EV _ (PySem.Expr.Call (PySem.Expr.Name "bool" _) _ _ _) _ _ _); refine L2.ct_bool (by rfl) (by assumption) (by rfl) (by rfl) ?_))
local macro_rules | `(tactic| walk_at "xo") => `(tactic| first | exact L2.xok_fn | assumption | exact L2.xok_false rfl)
local macro_rules | `(tactic| walk_at "po") => `(tactic| first | exact L2.passes_fn | assumption | exact PySem.PassesOwn.never)
local macro_rules | `(tactic| walk_at "cl") => `(tactic| first
  | refine L2.ev_call (by assumption) (by assumption) (by first | decide | omega) (by decide) (by rfl) (by walk_at "xo") (by decide) (by rfl) (by rfl) ?_
  | refine L2.ev_call0 (by assumption) (by assumption) (by first | decide | omega) (by decide) (by rfl) (by walk_at "xo") (by decide) ?_)
local macro_rules | `(tactic| walk_at "bm") => `(tactic| first
  | refine L2.ev_bm PySem.F.plainAttrs_str PySem.F.slot_str_join PySem.F.type_str_join (by rfl) (by rfl) (by rfl) (by rfl) (by rfl) ?_
  | refine L2.ev_bm PySem.F.plainAttrs_str PySem.F.slot_str_index PySem.F.type_str_index (by rfl) (by rfl) (by rfl) (by rfl) (by rfl) ?_
  | refine L2.ev_bm PySem.F.plainAttrs_str PySem.F.slot_str_startswith PySem.F.type_str_startswith (by rfl) (by rfl) (by rfl) (by rfl) (by rfl) ?_)
/-- one step of an expression -/
local macro_rules | `(tactic| walk_at "e") => `(tactic| first
  | ((with_reducible show L2.EV _ (PySem.Expr.Name _ _) _ _ _); first | (walk_at "ty") | (walk_at "nm") | (walk_at "gc"))
  | (with_reducible refine L2.ev_int ?_)
  | (with_reducible refine L2.ev_str ?_)
  | (with_reducible refine L2.ev_bl ?_)
  | (with_reducible refine L2.ev_non ?_)
  | (with_reducible refine L2.ev_bin ?_)
  | ((with_reducible show L2.EV _ (PySem.Expr.Compare _ [_] [_] _) _ _ _); refine L2.ev_cmp (by first | exact L2.nomark _ (by decide) (by decide) | rfl) ?_)
  | ((with_reducible show L2.EV _ (PySem.Expr.Compare _ [_, _] [_, _] _) _ _ _); refine L2.ev_chain (by with_unfolding_all rfl) ?_)
  | (with_reducible refine L2.ev_one ?_)
  | (with_reducible refine L2.ev_and ?_)
  | (with_reducible refine L2.ev_or ?_)
  | (with_reducible refine L2.ev_notV ?_)
  | (with_reducible refine L2.ev_un ?_)
  | (with_reducible refine L2.ev_ifE ?_)
  | (with_reducible refine L2.ev_tup ?_)
  | (with_reducible refine L2.ev_lst ?_)
  | (with_reducible refine L2.ev_sl ?_)
  | ((with_reducible show L2.EV _ (PySem.Expr.Subscript _ _ _) _ _ _); refine L2.ev_ix (fun _ _ => by rfl) ?_)
  | ((with_reducible show L2.EV _ (PySem.Expr.Call (PySem.Expr.Name _ _) _ _ _) _ _ _); first | (walk_at "cb") | (walk_at "ct") | (walk_at "cl"))
  | ((with_reducible show L2.EV _ (PySem.Expr.Call (PySem.Expr.Attribute _ _ _) _ _ _) _ _ _); (walk_at "bm"))
  | (with_reducible refine L2.ev_fstrL ?_)
  | ((with_reducible show L2.EJL _ (PySem.Expr.Constant _ _ _ :: _) _ _ _ _); refine L2.ejl_cons (L2.ev_str ⟨_, 200, rfl, by decide +kernel, by omega, ?_⟩))
  | ((with_reducible show L2.EJL _ (PySem.Expr.FormattedValue _ _ _ _ :: _) _ _ _ _); refine L2.ejl_cons ?_)
  | ((with_reducible show L2.EJL _ [] _ _ _ _); refine L2.ejl_nil (by omega) ?_)
  | (with_reducible refine L2.ea_nil ?_)
  | ((with_reducible show L2.EA _ (_ :: _) _ _ _); refine L2.ea_cons (by rfl) ?_)
  | (with_reducible refine L2.eo_none ?_)
  | (with_reducible refine L2.eo_some ?_)
  | ((with_reducible show L2.ET _ (PySem.Expr.Compare _ [_] [_] _) _ _ _); refine L2.et_cmp (by first | exact L2.nomark _ (by decide) (by decide) | rfl) ?_)
  | ((with_reducible show L2.ET _ (PySem.Expr.Compare _ [_, _] [_, _] _) _ _ _); refine L2.et_chain (by with_unfolding_all rfl) ?_)
  | (with_reducible refine L2.et_not ?_)
  | ((with_reducible show L2.ET _ (PySem.Expr.BoolOp _ _ _) _ _ _); refine L2.et_w ?_)
  | (with_reducible refine L2.ew_and1 ?_)
  | (with_reducible refine L2.ew_or1 ?_)
  | (with_reducible refine L2.ew_and ?_)
  | (with_reducible refine L2.ew_or ?_)
  | ((with_reducible show L2.ET _ (PySem.Expr.Name _ _) _ _ _); refine L2.et_val (fun _ => by rfl) ?_)
  | ((with_reducible show L2.ET _ (PySem.Expr.Call _ _ _ _) _ _ _); refine L2.et_val (fun _ => by rfl) ?_)
  | ((with_reducible show L2.ET _ (PySem.Expr.Subscript _ _ _) _ _ _); refine L2.et_val (fun _ => by rfl) ?_)
  | ((with_reducible show L2.ET _ (PySem.Expr.Constant _ _ _) _ _ _); refine L2.et_val (fun _ => by rfl) ?_))
/-- one operation on values -/
local macro_rules | `(tactic| walk_at "o") => `(tactic| with_reducible first
  | refine L2.o_add ?_ | refine L2.o_sub ?_ | refine L2.o_lt ?_ | refine L2.o_le ?_ | refine L2.o_gt ?_ | refine L2.o_ge ?_
  | refine L2.o_isN ?_ | refine L2.o_notN ?_ | refine L2.o_ltS ?_ | refine L2.o_inS ?_ | refine L2.o_ninS ?_ | refine L2.u_neg ?_
  | refine L2.o_p18 ?_ | refine L2.o_p9 ?_ | refine L2.o_p17 ?_ | refine L2.o_p19 ?_)
local macro_rules | `(tactic| walk_at "o2") => `(tactic| first
  | ((with_reducible show L2.OP _ (PySem.compareOp PySem.CmpOp.Eq) _ _ _ _); refine L2.o_eq (by rfl) ?_)
  | ((with_reducible show L2.OP _ (PySem.compareOp PySem.CmpOp.NotEq) _ _ _ _); refine L2.o_ne (by rfl) ?_)
  | ((with_reducible show L2.OP _ (PySem.binaryOp PySem.Operator.Mod) (L2.V.int _) (L2.V.int _) _ _); refine L2.o_mod (by first | decide | omega) ?_)
  | ((with_reducible show L2.OP _ (PySem.binaryOp PySem.Operator.Mult) (L2.V.int _) (L2.V.int _) _ _); refine L2.o_mul (by first | exact Or.inr ⟨by decide, by decide⟩ | exact Or.inl ⟨by decide, by decide⟩ | exact Or.inl ⟨by omega, by omega⟩ | exact Or.inr ⟨by omega, by omega⟩) ?_)
  | ((with_reducible show L2.OP _ (PySem.binaryOp PySem.Operator.Pow) (L2.V.int _) (L2.V.int _) _ _); refine L2.o_pow ⟨by decide, by decide, by decide⟩ ?_)
  | ((with_reducible show L2.CL _ (PySem.Value.builtin "len") [L2.V.ref _] _ _); refine L2.c_len (Or.inl (by assumption)) ?_)
  | ((with_reducible show L2.CL _ (PySem.Value.builtin "len") [L2.V.str _] _ _); refine L2.c_lenS (by omega) ?_)
  | ((with_reducible show L2.CL _ (PySem.Value.builtin "ord") [L2.V.str _] _ _); refine L2.c_ord ?_)
  | ((with_reducible show L2.CL _ (PySem.Value.builtin "isinstance") _ _ _); with_reducible first | refine L2.is_int_int ?_ | refine L2.is_int_bool ?_ | refine L2.is_int_str ?_ | refine L2.is_int_list ?_ | refine L2.is_int_tuple ?_ | refine L2.is_int_dict ?_ | refine L2.is_bool_int ?_ | refine L2.is_bool_bool ?_ | refine L2.is_bool_str ?_ | refine L2.is_bool_list ?_ | refine L2.is_bool_tuple ?_ | refine L2.is_bool_dict ?_ | refine L2.is_str_int ?_ | refine L2.is_str_bool ?_ | refine L2.is_str_str ?_ | refine L2.is_str_list ?_ | refine L2.is_str_tuple ?_ | refine L2.is_str_dict ?_ | refine L2.is_NoneType_int ?_ | refine L2.is_NoneType_bool ?_ | refine L2.is_NoneType_str ?_ | refine L2.is_NoneType_list ?_ | refine L2.is_NoneType_tuple ?_ | refine L2.is_NoneType_dict ?_))
/-- a test's value that is a truth -/
local macro_rules | `(tactic| walk_at "t") => `(tactic| first
  | (with_reducible refine L2.iteT ?_)
  | (with_reducible refine L2.iteF ?_)
  | (with_reducible refine L2.iteNT ?_)
  | (with_reducible refine L2.iteNF ?_)
  | (with_reducible first | refine L2.iteZ ?_ | refine L2.iteZi ?_ | refine L2.iteZs ?_ | refine L2.iteZr ?_ | refine L2.iteZb ?_ | refine L2.iteY ?_ | refine L2.iteYi ?_ | refine L2.iteYs ?_ | refine L2.iteYr ?_ | refine L2.iteYb ?_)
  | ((with_reducible show ∃ k, L2.V.bl _ = L2.V.bl k ∧ _); refine ⟨_, rfl, ?_⟩)
  | ((with_reducible show ∃ k, L2.TruV _ (L2.V.bl _) _ k ∧ _); refine ⟨_, rfl, ?_⟩)
  | ((with_reducible show ∃ i, L2.V.int _ = L2.V.int i ∧ _); refine ⟨_, rfl, ?_⟩)
  | ((with_reducible show L2.tyV _ _ (L2.V.str _) _ ∧ _); refine ⟨by rfl, ?_⟩))
/-- statements -/
local macro_rules | `(tactic| walk_at "s") => `(tactic| first
  | (with_reducible refine L2.sxs_nil ?_)
  | (with_reducible refine L2.sxs_one ?_)
  | (with_reducible refine L2.sxs_cons ?_)
  | (with_reducible refine L2.sx_ret ?_)
  | (with_reducible refine L2.sx_retN ?_)
  | (with_reducible refine L2.sx_pass ?_)
  | (with_reducible refine L2.sx_if ?_)
  | ((with_reducible show L2.SX _ (PySem.Stmt.Assign [PySem.Expr.Name _ _] _ _) _ _ _); refine L2.sx_set (by assumption) (by rfl) (by first | exact Or.inl rfl | exact Or.inr rfl) (by rfl) (by first | exact Or.inl rfl | exact Or.inr rfl) ?_)
  | ((with_reducible show L2.SX _ (PySem.Stmt.Expr _ _) _ _ _); refine L2.sx_expr (by rfl) ?_))
local macro_rules | `(tactic| walk_at "go") => `(tactic| repeat' (first | (walk_at "e") | (walk_at "o") | (walk_at "o2") | (walk_at "t") | (walk_at "s")))
local macro_rules | `(tactic| walk_at "ex") => `(tactic| repeat' (first | (walk_at "e") | (walk_at "o") | (walk_at "o2") | (walk_at "t")))
namespace L2
theorem shp1 {α : Type} {us : List α} (h : us.length = 1) : ∃ a, us = [a] := match us, h with | [a], _ => ⟨a, rfl⟩
theorem shp2 {α : Type} {us : List α} (h : us.length = 2) : ∃ a b, us = [a, b] := match us, h with | [a, b], _ => ⟨a, b, rfl⟩
theorem shp3 {α : Type} {us : List α} (h : us.length = 3) : ∃ a b c, us = [a, b, c] := match us, h with | [a, b, c], _ => ⟨a, b, c, rfl⟩
theorem shp4 {α : Type} {us : List α} (h : us.length = 4) : ∃ a b c d, us = [a, b, c, d] := match us, h with | [a, b, c, d], _ => ⟨a, b, c, d, rfl⟩
end L2
namespace K34
open PySem L2 PyProof.Rows
def top (i : Nat) : Stmt := PySem.Challenge.pw_turnleaf_k34_lines.main.body.getD i (.Pass ⟨0, 0, 0, 0⟩)
abbrev s_place_of : Stmt := top 1
abbrev s_number_of : Stmt := top 3
abbrev s_rank_of : Stmt := top 4
abbrev s_sorted_by : Stmt := top 5
abbrev s_line_of : Stmt := top 6
abbrev s__law_draw : Stmt := top 8
abbrev s__law_columns : Stmt := top 9
abbrev s__law_value : Stmt := top 10
abbrev s__law_values : Stmt := top 11
abbrev s__law_is_whole : Stmt := top 12
abbrev s__law_same : Stmt := top 13
abbrev s__law_same_rows : Stmt := top 14
abbrev s__law_order : Stmt := top 15
abbrev s__law_key : Stmt := top 16
abbrev s__law_ahead : Stmt := top 17
abbrev s__law_rows : Stmt := top 18
abbrev s__law_right : Stmt := top 19
abbrev s__law_number : Stmt := top 20
abbrev s_law : Stmt := top 21
/-- what the top has made -/
structure Txt (K : PySem.W.Frag) (mg : Str → Option Value) : Prop where
  d_place_of : ∃ f fd, Fun K "place_of" "place_of" s_place_of f fd ∧ mg "place_of" = some (.ref f)
  d_number_of : ∃ f fd, Fun K "number_of" "number_of" s_number_of f fd ∧ mg "number_of" = some (.ref f)
  d_rank_of : ∃ f fd, Fun K "rank_of" "rank_of" s_rank_of f fd ∧ mg "rank_of" = some (.ref f)
  d_sorted_by : ∃ f fd, Fun K "sorted_by" "sorted_by" s_sorted_by f fd ∧ mg "sorted_by" = some (.ref f)
  d_line_of : ∃ f fd, Fun K "line_of" "line_of" s_line_of f fd ∧ mg "line_of" = some (.ref f)
  d__law_draw : ∃ f fd, Fun K "_law_draw" "_law_draw" s__law_draw f fd ∧ mg "_law_draw" = some (.ref f)
  d__law_columns : ∃ f fd, Fun K "_law_columns" "_law_columns" s__law_columns f fd ∧ mg "_law_columns" = some (.ref f)
  d__law_value : ∃ f fd, Fun K "_law_value" "_law_value" s__law_value f fd ∧ mg "_law_value" = some (.ref f)
  d__law_values : ∃ f fd, Fun K "_law_values" "_law_values" s__law_values f fd ∧ mg "_law_values" = some (.ref f)
  d__law_is_whole : ∃ f fd, Fun K "_law_is_whole" "_law_is_whole" s__law_is_whole f fd ∧ mg "_law_is_whole" = some (.ref f)
  d__law_same : ∃ f fd, Fun K "_law_same" "_law_same" s__law_same f fd ∧ mg "_law_same" = some (.ref f)
  d__law_same_rows : ∃ f fd, Fun K "_law_same_rows" "_law_same_rows" s__law_same_rows f fd ∧ mg "_law_same_rows" = some (.ref f)
  d__law_order : ∃ f fd, Fun K "_law_order" "_law_order" s__law_order f fd ∧ mg "_law_order" = some (.ref f)
  d__law_key : ∃ f fd, Fun K "_law_key" "_law_key" s__law_key f fd ∧ mg "_law_key" = some (.ref f)
  d__law_ahead : ∃ f fd, Fun K "_law_ahead" "_law_ahead" s__law_ahead f fd ∧ mg "_law_ahead" = some (.ref f)
  d__law_rows : ∃ f fd, Fun K "_law_rows" "_law_rows" s__law_rows f fd ∧ mg "_law_rows" = some (.ref f)
  d__law_right : ∃ f fd, Fun K "_law_right" "_law_right" s__law_right f fd ∧ mg "_law_right" = some (.ref f)
  d__law_number : ∃ f fd, Fun K "_law_number" "_law_number" s__law_number f fd ∧ mg "_law_number" = some (.ref f)
  d_law : ∃ f fd, Fun K "law" "law" s_law f fd ∧ mg "law" = some (.ref f)
  n_bool : mg "bool" = none
  n_enumerate : mg "enumerate" = none
  n_int : mg "int" = none
  n_isinstance : mg "isinstance" = none
  n_len : mg "len" = none
  n_list : mg "list" = none
  n_min : mg "min" = none
  n_range : mg "range" = none
  n_reversed : mg "reversed" = none
  n_sorted : mg "sorted" = none
  n_tuple : mg "tuple" = none
abbrev N_place_of : List Str := ["columns", "name", "place", "column"]
theorem sc_place_of : FnScope N_place_of ["columns", "name"] (defScope s_place_of) := ⟨rfl, rfl, rfl, by decide +kernel, rfl, by decide +kernel, by decide +kernel⟩
abbrev N_number_of : List Str := ["told"]
theorem sc_number_of : FnScope N_number_of ["told"] (defScope s_number_of) := ⟨rfl, rfl, rfl, by decide +kernel, rfl, by decide +kernel, by decide +kernel⟩
abbrev N_rank_of : List Str := ["value"]
theorem sc_rank_of : FnScope N_rank_of ["value"] (defScope s_rank_of) := ⟨rfl, rfl, rfl, by decide +kernel, rfl, by decide +kernel, by decide +kernel⟩
def psR : Array Value := tabKey ⟨14, 4, 15, 38⟩ "sorted_by.<locals>.rank"
abbrev N_sorted_by : List Str := ["rows", "place", "up", "rank"]
theorem sc_sorted_by : FnScope N_sorted_by ["rows", "place", "up"] (defScope s_sorted_by) := ⟨rfl, rfl, rfl, by decide +kernel, rfl, by decide +kernel, by decide +kernel⟩
abbrev N_line_of : List Str := ["columns", "order", "rows", "line", "name", "up"]
theorem sc_line_of : FnScope N_line_of ["columns", "order", "rows"] (defScope s_line_of) := ⟨rfl, rfl, rfl, by decide +kernel, rfl, by decide +kernel, by decide +kernel⟩
abbrev N__law_draw : List Str := ["_law_script", "_law_k", "_law_many", "_law_cell", "_law_seed"]
theorem sc__law_draw : FnScope N__law_draw ["_law_script", "_law_k", "_law_many"] (defScope s__law_draw) := ⟨rfl, rfl, rfl, by decide +kernel, rfl, by decide +kernel, by decide +kernel⟩
abbrev N__law_columns : List Str := ["_law_script", "_law_base", "_law_most", "_law_letters", "_law_word", "_law_way", "_law_at", "_law_columns_here", "_law_k", "_law_sign", "_law_size", "_law_name"]
theorem sc__law_columns : FnScope N__law_columns ["_law_script", "_law_base", "_law_most"] (defScope s__law_columns) := ⟨rfl, rfl, rfl, by decide +kernel, rfl, by decide +kernel, by decide +kernel⟩
abbrev N__law_value : List Str := ["_law_script", "_law_k", "_law_kind", "_law_way", "_law_cell", "_law_far", "_law_signs", "_law_size"]
theorem sc__law_value : FnScope N__law_value ["_law_script", "_law_k", "_law_kind"] (defScope s__law_value) := ⟨rfl, rfl, rfl, by decide +kernel, rfl, by decide +kernel, by decide +kernel⟩
abbrev N__law_values : List Str := ["_law_script", "_law_k", "_law_columns_here"]
theorem sc__law_values : FnScope N__law_values ["_law_script", "_law_k", "_law_columns_here"] (defScope s__law_values) := ⟨rfl, rfl, rfl, by decide +kernel, rfl, by decide +kernel, by decide +kernel⟩
abbrev N__law_is_whole : List Str := ["_law_found", "_law_due"]
theorem sc__law_is_whole : FnScope N__law_is_whole ["_law_found", "_law_due"] (defScope s__law_is_whole) := ⟨rfl, rfl, rfl, by decide +kernel, rfl, by decide +kernel, by decide +kernel⟩
abbrev N__law_same : List Str := ["_law_found", "_law_due", "_law_k"]
theorem sc__law_same : FnScope N__law_same ["_law_found", "_law_due"] (defScope s__law_same) := ⟨rfl, rfl, rfl, by decide +kernel, rfl, by decide +kernel, by decide +kernel⟩
abbrev N__law_same_rows : List Str := ["_law_found", "_law_due", "_law_k"]
theorem sc__law_same_rows : FnScope N__law_same_rows ["_law_found", "_law_due"] (defScope s__law_same_rows) := ⟨rfl, rfl, rfl, by decide +kernel, rfl, by decide +kernel, by decide +kernel⟩
abbrev N__law_order : List Str := ["_law_script", "_law_base", "_law_columns_here", "_law_order_here", "_law_k", "_law_names"]
theorem sc__law_order : FnScope N__law_order ["_law_script", "_law_base", "_law_columns_here"] (defScope s__law_order) := ⟨rfl, rfl, rfl, by decide +kernel, rfl, by decide +kernel, by decide +kernel⟩
abbrev N__law_key : List Str := ["_law_columns_here", "_law_order_here", "_law_row", "_law_values_here", "_law_names"]
theorem sc__law_key : FnScope N__law_key ["_law_columns_here", "_law_order_here", "_law_row", "_law_values_here"] (defScope s__law_key) := ⟨rfl, rfl, rfl, by decide +kernel, rfl, by decide +kernel, by decide +kernel⟩
abbrev N__law_ahead : List Str := ["_law_order_here", "_law_one", "_law_other", "_law_k", "_law_first", "_law_second"]
theorem sc__law_ahead : FnScope N__law_ahead ["_law_order_here", "_law_one", "_law_other"] (defScope s__law_ahead) := ⟨rfl, rfl, rfl, by decide +kernel, rfl, by decide +kernel, by decide +kernel⟩
abbrev N__law_rows : List Str := ["_law_script", "_law_base", "_law_columns_here", "_law_many", "_law_rows_here", "_law_taken", "_law_k", "_law_row"]
theorem sc__law_rows : FnScope N__law_rows ["_law_script", "_law_base", "_law_columns_here", "_law_many"] (defScope s__law_rows) := ⟨rfl, rfl, rfl, by decide +kernel, rfl, by decide +kernel, by decide +kernel⟩
abbrev N__law_right : List Str := ["_law_columns_here", "_law_order_here", "_law_rows_here", "_law_found", "_law_k", "_law_one"]
theorem sc__law_right : FnScope N__law_right ["_law_columns_here", "_law_order_here", "_law_rows_here", "_law_found"] (defScope s__law_right) := ⟨rfl, rfl, rfl, by decide +kernel, rfl, by decide +kernel, by decide +kernel⟩
abbrev N__law_number : List Str := ["_law_row"]
theorem sc__law_number : FnScope N__law_number ["_law_row"] (defScope s__law_number) := ⟨rfl, rfl, rfl, by decide +kernel, rfl, by decide +kernel, by decide +kernel⟩
abbrev N_law : List Str := ["_law_script", "_law_columns_here", "_law_order_here", "_law_rows_here", "_law_handed", "_law_given", "_law_found", "_law_one", "_law_again"]
theorem sc_law : FnScope N_law ["_law_script"] (defScope s_law) := ⟨rfl, rfl, rfl, by decide +kernel, rfl, by decide +kernel, by decide +kernel⟩
section
variable {P : Program} {w : World} {K : PySem.W.Frag} {mg : Str → Option Value} {base : Heap}
theorem df_place_of (T : Txt K mg) {cc : Bool} {k : Nat} {sp : Sp} (len : ∀ vs H Q E, sp vs H Q E → vs.length = 2) (body : ∀ (f : Addr) (cdv : Value) (A : Around) (outer : List Env) (s : Shared) (H : Hp) (vs : List V) (Q : VK) (E : XK), Room cc k (A.deeper (envOfC "place_of" (defScope s_place_of) s.heap.objs.size f cdv)) → sp vs H Q E → SXs (CxF cc P w K mg base N_place_of "place_of" (defScope s_place_of) f cdv A outer s H E) (defBody s_place_of) { nx := fun _ H' => Q .non H', rt := Q } (start N_place_of vs) H) : Def P w K mg base cc (k + 1) "place_of" ["columns", "name"] sp := def_of T.d_place_of sc_place_of (fun _ _ _ _ _ _ us hl => by obtain ⟨_, _, rfl⟩ := shp2 hl; rfl) len body
theorem df_number_of (T : Txt K mg) {cc : Bool} {k : Nat} {sp : Sp} (len : ∀ vs H Q E, sp vs H Q E → vs.length = 1) (body : ∀ (f : Addr) (cdv : Value) (A : Around) (outer : List Env) (s : Shared) (H : Hp) (vs : List V) (Q : VK) (E : XK), Room cc k (A.deeper (envOfC "number_of" (defScope s_number_of) s.heap.objs.size f cdv)) → sp vs H Q E → SXs (CxF cc P w K mg base N_number_of "number_of" (defScope s_number_of) f cdv A outer s H E) (defBody s_number_of) { nx := fun _ H' => Q .non H', rt := Q } (start N_number_of vs) H) : Def P w K mg base cc (k + 1) "number_of" ["told"] sp := def_of T.d_number_of sc_number_of (fun _ _ _ _ _ _ us hl => by obtain ⟨_, rfl⟩ := shp1 hl; rfl) len body
theorem df_rank_of (T : Txt K mg) {cc : Bool} {k : Nat} {sp : Sp} (len : ∀ vs H Q E, sp vs H Q E → vs.length = 1) (body : ∀ (f : Addr) (cdv : Value) (A : Around) (outer : List Env) (s : Shared) (H : Hp) (vs : List V) (Q : VK) (E : XK), Room cc k (A.deeper (envOfC "rank_of" (defScope s_rank_of) s.heap.objs.size f cdv)) → sp vs H Q E → SXs (CxF cc P w K mg base N_rank_of "rank_of" (defScope s_rank_of) f cdv A outer s H E) (defBody s_rank_of) { nx := fun _ H' => Q .non H', rt := Q } (start N_rank_of vs) H) : Def P w K mg base cc (k + 1) "rank_of" ["value"] sp := def_of T.d_rank_of sc_rank_of (fun _ _ _ _ _ _ us hl => by obtain ⟨_, rfl⟩ := shp1 hl; rfl) len body
theorem df_line_of (T : Txt K mg) {cc : Bool} {k : Nat} {sp : Sp} (len : ∀ vs H Q E, sp vs H Q E → vs.length = 3) (body : ∀ (f : Addr) (cdv : Value) (A : Around) (outer : List Env) (s : Shared) (H : Hp) (vs : List V) (Q : VK) (E : XK), Room cc k (A.deeper (envOfC "line_of" (defScope s_line_of) s.heap.objs.size f cdv)) → sp vs H Q E → SXs (CxF cc P w K mg base N_line_of "line_of" (defScope s_line_of) f cdv A outer s H E) (defBody s_line_of) { nx := fun _ H' => Q .non H', rt := Q } (start N_line_of vs) H) : Def P w K mg base cc (k + 1) "line_of" ["columns", "order", "rows"] sp := def_of T.d_line_of sc_line_of (fun _ _ _ _ _ _ us hl => by obtain ⟨_, _, _, rfl⟩ := shp3 hl; rfl) len body
theorem df__law_draw (T : Txt K mg) {cc : Bool} {k : Nat} {sp : Sp} (len : ∀ vs H Q E, sp vs H Q E → vs.length = 3) (body : ∀ (f : Addr) (cdv : Value) (A : Around) (outer : List Env) (s : Shared) (H : Hp) (vs : List V) (Q : VK) (E : XK), Room cc k (A.deeper (envOfC "_law_draw" (defScope s__law_draw) s.heap.objs.size f cdv)) → sp vs H Q E → SXs (CxF cc P w K mg base N__law_draw "_law_draw" (defScope s__law_draw) f cdv A outer s H E) (defBody s__law_draw) { nx := fun _ H' => Q .non H', rt := Q } (start N__law_draw vs) H) : Def P w K mg base cc (k + 1) "_law_draw" ["_law_script", "_law_k", "_law_many"] sp := def_of T.d__law_draw sc__law_draw (fun _ _ _ _ _ _ us hl => by obtain ⟨_, _, _, rfl⟩ := shp3 hl; rfl) len body
theorem df__law_columns (T : Txt K mg) {cc : Bool} {k : Nat} {sp : Sp} (len : ∀ vs H Q E, sp vs H Q E → vs.length = 3) (body : ∀ (f : Addr) (cdv : Value) (A : Around) (outer : List Env) (s : Shared) (H : Hp) (vs : List V) (Q : VK) (E : XK), Room cc k (A.deeper (envOfC "_law_columns" (defScope s__law_columns) s.heap.objs.size f cdv)) → sp vs H Q E → SXs (CxF cc P w K mg base N__law_columns "_law_columns" (defScope s__law_columns) f cdv A outer s H E) (defBody s__law_columns) { nx := fun _ H' => Q .non H', rt := Q } (start N__law_columns vs) H) : Def P w K mg base cc (k + 1) "_law_columns" ["_law_script", "_law_base", "_law_most"] sp := def_of T.d__law_columns sc__law_columns (fun _ _ _ _ _ _ us hl => by obtain ⟨_, _, _, rfl⟩ := shp3 hl; rfl) len body
theorem df__law_value (T : Txt K mg) {cc : Bool} {k : Nat} {sp : Sp} (len : ∀ vs H Q E, sp vs H Q E → vs.length = 3) (body : ∀ (f : Addr) (cdv : Value) (A : Around) (outer : List Env) (s : Shared) (H : Hp) (vs : List V) (Q : VK) (E : XK), Room cc k (A.deeper (envOfC "_law_value" (defScope s__law_value) s.heap.objs.size f cdv)) → sp vs H Q E → SXs (CxF cc P w K mg base N__law_value "_law_value" (defScope s__law_value) f cdv A outer s H E) (defBody s__law_value) { nx := fun _ H' => Q .non H', rt := Q } (start N__law_value vs) H) : Def P w K mg base cc (k + 1) "_law_value" ["_law_script", "_law_k", "_law_kind"] sp := def_of T.d__law_value sc__law_value (fun _ _ _ _ _ _ us hl => by obtain ⟨_, _, _, rfl⟩ := shp3 hl; rfl) len body
theorem df__law_values (T : Txt K mg) {cc : Bool} {k : Nat} {sp : Sp} (len : ∀ vs H Q E, sp vs H Q E → vs.length = 3) (body : ∀ (f : Addr) (cdv : Value) (A : Around) (outer : List Env) (s : Shared) (H : Hp) (vs : List V) (Q : VK) (E : XK), Room cc k (A.deeper (envOfC "_law_values" (defScope s__law_values) s.heap.objs.size f cdv)) → sp vs H Q E → SXs (CxF cc P w K mg base N__law_values "_law_values" (defScope s__law_values) f cdv A outer s H E) (defBody s__law_values) { nx := fun _ H' => Q .non H', rt := Q } (start N__law_values vs) H) : Def P w K mg base cc (k + 1) "_law_values" ["_law_script", "_law_k", "_law_columns_here"] sp := def_of T.d__law_values sc__law_values (fun _ _ _ _ _ _ us hl => by obtain ⟨_, _, _, rfl⟩ := shp3 hl; rfl) len body
theorem df__law_is_whole (T : Txt K mg) {cc : Bool} {k : Nat} {sp : Sp} (len : ∀ vs H Q E, sp vs H Q E → vs.length = 2) (body : ∀ (f : Addr) (cdv : Value) (A : Around) (outer : List Env) (s : Shared) (H : Hp) (vs : List V) (Q : VK) (E : XK), Room cc k (A.deeper (envOfC "_law_is_whole" (defScope s__law_is_whole) s.heap.objs.size f cdv)) → sp vs H Q E → SXs (CxF cc P w K mg base N__law_is_whole "_law_is_whole" (defScope s__law_is_whole) f cdv A outer s H E) (defBody s__law_is_whole) { nx := fun _ H' => Q .non H', rt := Q } (start N__law_is_whole vs) H) : Def P w K mg base cc (k + 1) "_law_is_whole" ["_law_found", "_law_due"] sp := def_of T.d__law_is_whole sc__law_is_whole (fun _ _ _ _ _ _ us hl => by obtain ⟨_, _, rfl⟩ := shp2 hl; rfl) len body
theorem df__law_same (T : Txt K mg) {cc : Bool} {k : Nat} {sp : Sp} (len : ∀ vs H Q E, sp vs H Q E → vs.length = 2) (body : ∀ (f : Addr) (cdv : Value) (A : Around) (outer : List Env) (s : Shared) (H : Hp) (vs : List V) (Q : VK) (E : XK), Room cc k (A.deeper (envOfC "_law_same" (defScope s__law_same) s.heap.objs.size f cdv)) → sp vs H Q E → SXs (CxF cc P w K mg base N__law_same "_law_same" (defScope s__law_same) f cdv A outer s H E) (defBody s__law_same) { nx := fun _ H' => Q .non H', rt := Q } (start N__law_same vs) H) : Def P w K mg base cc (k + 1) "_law_same" ["_law_found", "_law_due"] sp := def_of T.d__law_same sc__law_same (fun _ _ _ _ _ _ us hl => by obtain ⟨_, _, rfl⟩ := shp2 hl; rfl) len body
theorem df__law_same_rows (T : Txt K mg) {cc : Bool} {k : Nat} {sp : Sp} (len : ∀ vs H Q E, sp vs H Q E → vs.length = 2) (body : ∀ (f : Addr) (cdv : Value) (A : Around) (outer : List Env) (s : Shared) (H : Hp) (vs : List V) (Q : VK) (E : XK), Room cc k (A.deeper (envOfC "_law_same_rows" (defScope s__law_same_rows) s.heap.objs.size f cdv)) → sp vs H Q E → SXs (CxF cc P w K mg base N__law_same_rows "_law_same_rows" (defScope s__law_same_rows) f cdv A outer s H E) (defBody s__law_same_rows) { nx := fun _ H' => Q .non H', rt := Q } (start N__law_same_rows vs) H) : Def P w K mg base cc (k + 1) "_law_same_rows" ["_law_found", "_law_due"] sp := def_of T.d__law_same_rows sc__law_same_rows (fun _ _ _ _ _ _ us hl => by obtain ⟨_, _, rfl⟩ := shp2 hl; rfl) len body
theorem df__law_order (T : Txt K mg) {cc : Bool} {k : Nat} {sp : Sp} (len : ∀ vs H Q E, sp vs H Q E → vs.length = 3) (body : ∀ (f : Addr) (cdv : Value) (A : Around) (outer : List Env) (s : Shared) (H : Hp) (vs : List V) (Q : VK) (E : XK), Room cc k (A.deeper (envOfC "_law_order" (defScope s__law_order) s.heap.objs.size f cdv)) → sp vs H Q E → SXs (CxF cc P w K mg base N__law_order "_law_order" (defScope s__law_order) f cdv A outer s H E) (defBody s__law_order) { nx := fun _ H' => Q .non H', rt := Q } (start N__law_order vs) H) : Def P w K mg base cc (k + 1) "_law_order" ["_law_script", "_law_base", "_law_columns_here"] sp := def_of T.d__law_order sc__law_order (fun _ _ _ _ _ _ us hl => by obtain ⟨_, _, _, rfl⟩ := shp3 hl; rfl) len body
theorem df__law_key (T : Txt K mg) {cc : Bool} {k : Nat} {sp : Sp} (len : ∀ vs H Q E, sp vs H Q E → vs.length = 4) (body : ∀ (f : Addr) (cdv : Value) (A : Around) (outer : List Env) (s : Shared) (H : Hp) (vs : List V) (Q : VK) (E : XK), Room cc k (A.deeper (envOfC "_law_key" (defScope s__law_key) s.heap.objs.size f cdv)) → sp vs H Q E → SXs (CxF cc P w K mg base N__law_key "_law_key" (defScope s__law_key) f cdv A outer s H E) (defBody s__law_key) { nx := fun _ H' => Q .non H', rt := Q } (start N__law_key vs) H) : Def P w K mg base cc (k + 1) "_law_key" ["_law_columns_here", "_law_order_here", "_law_row", "_law_values_here"] sp := def_of T.d__law_key sc__law_key (fun _ _ _ _ _ _ us hl => by obtain ⟨_, _, _, _, rfl⟩ := shp4 hl; rfl) len body
theorem df__law_ahead (T : Txt K mg) {cc : Bool} {k : Nat} {sp : Sp} (len : ∀ vs H Q E, sp vs H Q E → vs.length = 3) (body : ∀ (f : Addr) (cdv : Value) (A : Around) (outer : List Env) (s : Shared) (H : Hp) (vs : List V) (Q : VK) (E : XK), Room cc k (A.deeper (envOfC "_law_ahead" (defScope s__law_ahead) s.heap.objs.size f cdv)) → sp vs H Q E → SXs (CxF cc P w K mg base N__law_ahead "_law_ahead" (defScope s__law_ahead) f cdv A outer s H E) (defBody s__law_ahead) { nx := fun _ H' => Q .non H', rt := Q } (start N__law_ahead vs) H) : Def P w K mg base cc (k + 1) "_law_ahead" ["_law_order_here", "_law_one", "_law_other"] sp := def_of T.d__law_ahead sc__law_ahead (fun _ _ _ _ _ _ us hl => by obtain ⟨_, _, _, rfl⟩ := shp3 hl; rfl) len body
theorem df__law_rows (T : Txt K mg) {cc : Bool} {k : Nat} {sp : Sp} (len : ∀ vs H Q E, sp vs H Q E → vs.length = 4) (body : ∀ (f : Addr) (cdv : Value) (A : Around) (outer : List Env) (s : Shared) (H : Hp) (vs : List V) (Q : VK) (E : XK), Room cc k (A.deeper (envOfC "_law_rows" (defScope s__law_rows) s.heap.objs.size f cdv)) → sp vs H Q E → SXs (CxF cc P w K mg base N__law_rows "_law_rows" (defScope s__law_rows) f cdv A outer s H E) (defBody s__law_rows) { nx := fun _ H' => Q .non H', rt := Q } (start N__law_rows vs) H) : Def P w K mg base cc (k + 1) "_law_rows" ["_law_script", "_law_base", "_law_columns_here", "_law_many"] sp := def_of T.d__law_rows sc__law_rows (fun _ _ _ _ _ _ us hl => by obtain ⟨_, _, _, _, rfl⟩ := shp4 hl; rfl) len body
theorem df__law_right (T : Txt K mg) {cc : Bool} {k : Nat} {sp : Sp} (len : ∀ vs H Q E, sp vs H Q E → vs.length = 4) (body : ∀ (f : Addr) (cdv : Value) (A : Around) (outer : List Env) (s : Shared) (H : Hp) (vs : List V) (Q : VK) (E : XK), Room cc k (A.deeper (envOfC "_law_right" (defScope s__law_right) s.heap.objs.size f cdv)) → sp vs H Q E → SXs (CxF cc P w K mg base N__law_right "_law_right" (defScope s__law_right) f cdv A outer s H E) (defBody s__law_right) { nx := fun _ H' => Q .non H', rt := Q } (start N__law_right vs) H) : Def P w K mg base cc (k + 1) "_law_right" ["_law_columns_here", "_law_order_here", "_law_rows_here", "_law_found"] sp := def_of T.d__law_right sc__law_right (fun _ _ _ _ _ _ us hl => by obtain ⟨_, _, _, _, rfl⟩ := shp4 hl; rfl) len body
theorem df__law_number (T : Txt K mg) {cc : Bool} {k : Nat} {sp : Sp} (len : ∀ vs H Q E, sp vs H Q E → vs.length = 1) (body : ∀ (f : Addr) (cdv : Value) (A : Around) (outer : List Env) (s : Shared) (H : Hp) (vs : List V) (Q : VK) (E : XK), Room cc k (A.deeper (envOfC "_law_number" (defScope s__law_number) s.heap.objs.size f cdv)) → sp vs H Q E → SXs (CxF cc P w K mg base N__law_number "_law_number" (defScope s__law_number) f cdv A outer s H E) (defBody s__law_number) { nx := fun _ H' => Q .non H', rt := Q } (start N__law_number vs) H) : Def P w K mg base cc (k + 1) "_law_number" ["_law_row"] sp := def_of T.d__law_number sc__law_number (fun _ _ _ _ _ _ us hl => by obtain ⟨_, rfl⟩ := shp1 hl; rfl) len body
end
end K34
namespace K34
open PySem L2 PyProof.Rows My Vl Lw
section
variable {P : Program} {w : World} {K : PySem.W.Frag} {mg : Str → Option Value} {base : Heap}
theorem d__law_draw (T : Txt K mg) : Def P w K mg base true 1 "_law_draw" ["_law_script", "_law_k", "_law_many"] (spDraw K) := by
  refine df__law_draw T (fun vs H Q E h => by obtain ⟨a, ns, k, m, rfl, _⟩ := h; rfl) (fun f cdv A outer s H vs Q E hr h => ?_)
  obtain ⟨a, ns, k, m, rfl, hS, hl, hk0, hk1, hm, q⟩ := h
  have n1 := T.n_len
  have nd := sc__law_draw.nd
  have hlm : (ns.map V.int).length = ns.length := List.length_map ..
  refine sxs_cons ?_
  walk_at "go"
  rw [hlm]
  have fin : ∀ c : Int, c = cellF ns k → Q (.int ((c % 1000003 + 31 * k * k + 1) * 48271 % 999983 * 7919 % 524287 % m)) H := fun c e => by rw [e]; exact q
  refine ifD (fun h => ?_) (fun h => ?_)
  · walk_at "go"
    rw [hlm]
    walk_at "go"
    refine i_list hS (atI_map 0 (Int.emod_nonneg _ (by omega)) (Int.emod_lt_of_pos _ (by omega))) ?_
    walk_at "go"
    exact fin _ (by unfold cellF; rw [if_pos (by omega)])
  · walk_at "go"
    exact fin _ (by unfold cellF; rw [if_neg (by omega)])
end
end K34
namespace K34
open PySem L2 PyProof.Rows My Vl Lw
section
variable {P : Program} {w : World} {K : PySem.W.Frag} {mg : Str → Option Value} {base : Heap}
/-! columns of the first family of laws -/
theorem lt_list : LTs.cps.toList = List.range' 97 26 := by decide +kernel
theorem mem_lt (c : Nat) : c ∈ LTs.cps.toList ↔ 97 ≤ c ∧ c ≤ 122 := by
  rw [lt_list, List.mem_range'_1]
  omega
theorem lt_get {k : Nat} (h : k < 26) : LTs.cps.toList[k]? = some (97 + k) := by
  rw [lt_list, List.getElem?_range' h]
  simp
theorem isName_of {z : Str} (h1 : 1 ≤ z.length) (h8 : z.length ≤ 8) (h : ∀ c ∈ z.cps.toList, 97 ≤ c ∧ c ≤ 122) : isName z = true := by
  unfold isName madeOf
  rw [Bool.and_eq_true, decide_eq_true_eq, List.all_eq_true]
  exact ⟨⟨h1, h8⟩, fun c hc => decide_eq_true ((mem_lt c).mpr (h c hc))⟩
def nm1 (W : Str) (at_ first size way j : Nat) : Str :=
  if way = 0 then cutS W none (some (at_ : Int)) ++ ⟨#[97 + (first + j) % 26]⟩ ++ cutS W (some ((at_ + 1 : Nat) : Int)) none else
  if way = 1 then cutS W none (some ((j + 1 : Nat) : Int)) else (⟨#[97 + (first + j) % 26]⟩ : Str) ++ cutS W none (some (size : Int))
theorem nm1_0 {W : Str} {at_ first size j : Nat} (hW : W.length = 8) (ha : at_ < 8) : (nm1 W at_ first size 0 j).cps.toList = W.cps.toList.take at_ ++ (97 + (first + j) % 26) :: W.cps.toList.drop (at_ + 1) := by
  have hl := L2.len_list W
  unfold nm1
  rw [if_pos rfl, cps_app, cps_app, cutS_to, cutS_list, List.append_assoc]
  show _ ++ ([_] ++ _) = _
  rw [HT.sIx_nat, Nat.min_eq_left (by omega)]
  congr 1
  show (97 + (first + j) % 26) :: List.take (W.length - (at_ + 1)) _ = _
  rw [List.take_of_length_le (by rw [List.length_drop]; omega)]
theorem nm1_1 {W : Str} {at_ first size j : Nat} : (nm1 W at_ first size 1 j).cps.toList = W.cps.toList.take (j + 1) := by
  unfold nm1
  rw [if_neg (by decide), if_pos rfl, cutS_to]
theorem nm1_2 {W : Str} {at_ first size way j : Nat} (h0 : way ≠ 0) (h1 : way ≠ 1) : (nm1 W at_ first size way j).cps.toList = (97 + (first + j) % 26) :: W.cps.toList.take size := by
  unfold nm1
  rw [if_neg h0, if_neg h1, cps_app, cutS_to]
  rfl
theorem nm1_len {W : Str} {at_ first size way j : Nat} (hW : W.length = 8) (ha : at_ < 8) (hs : size < 8) (hj : j < 6) : 1 ≤ (nm1 W at_ first size way j).length ∧ (nm1 W at_ first size way j).length ≤ 8 := by
  have hl := L2.len_list W
  rw [L2.len_list (nm1 W at_ first size way j)]
  by_cases h0 : way = 0
  · subst h0
    rw [nm1_0 hW ha, List.length_append, List.length_cons, List.length_take, List.length_drop]
    omega
  · by_cases h1 : way = 1
    · subst h1
      rw [nm1_1, List.length_take]
      omega
    · rw [nm1_2 h0 h1, List.length_cons, List.length_take]
      omega
theorem nm1_in {W : Str} {at_ first size way j : Nat} (hW : W.length = 8) (ha : at_ < 8) (hw : ∀ c ∈ W.cps.toList, 97 ≤ c ∧ c ≤ 122) : ∀ c ∈ (nm1 W at_ first size way j).cps.toList, 97 ≤ c ∧ c ≤ 122 := by
  intro c hc
  have hm := Nat.mod_lt (first + j) (show 0 < 26 by decide)
  by_cases h0 : way = 0
  · subst h0
    rw [nm1_0 hW ha] at hc
    rcases List.mem_append.mp hc with h | h
    · exact hw c (List.mem_of_mem_take h)
    · rcases List.mem_cons.mp h with h | h
      · omega
      · exact hw c (List.mem_of_mem_drop h)
  · by_cases h1 : way = 1
    · subst h1
      rw [nm1_1] at hc
      exact hw c (List.mem_of_mem_take hc)
    · rw [nm1_2 h0 h1] at hc
      rcases List.mem_cons.mp hc with h | h
      · omega
      · exact hw c (List.mem_of_mem_take h)
theorem nm1_inj {W : Str} {at_ first s1 s2 way i j : Nat} (hW : W.length = 8) (ha : at_ < 8) (hi : i < 6) (hj : j < 6) (e : nm1 W at_ first s1 way i = nm1 W at_ first s2 way j) : i = j := by
  have hl := L2.len_list W
  have e' := congrArg (fun z : Str => z.cps.toList) e
  by_cases h0 : way = 0
  · subst h0
    rw [nm1_0 hW ha, nm1_0 hW ha] at e'
    have h1 := (List.append_inj e' rfl).2
    injection h1 with h2 _
    omega
  · by_cases h1 : way = 1
    · subst h1
      rw [nm1_1, nm1_1] at e'
      have := congrArg List.length e'
      rw [List.length_take, List.length_take] at this
      omega
    · rw [nm1_2 h0 h1, nm1_2 h0 h1] at e'
      injection e' with h2 _
      omega
theorem okCols_of {cs : List Col} (h1 : 1 ≤ cs.length) (h6 : cs.length ≤ 6) (hn : (cs.map Prod.fst).Nodup) (h : ∀ c ∈ cs, isName c.1 = true ∧ (c.2 = "number" ∨ c.2 = "text")) : okCols cs = true := by
  unfold okCols isKind
  rw [Bool.and_eq_true, Bool.and_eq_true, decide_eq_true_eq, decide_eq_true_eq, List.all_eq_true]
  exact ⟨⟨⟨h1, h6⟩, fun c hc => by rw [(h c hc).1, decide_eq_true (h c hc).2]; rfl⟩, hn⟩
theorem all2_snoc {α β : Type} {R : α → β → Prop} {l : List α} {m : List β} {a : α} {b : β} (h : All2 R l m) (r : R a b) : All2 R (l ++ [a]) (m ++ [b]) := by
  induction h with
  | nil => exact .cons r .nil
  | cons h _ ih => exact .cons h ih
theorem all2_mono {α β : Type} {R S : α → β → Prop} {l : List α} {m : List β} (h : All2 R l m) (f : ∀ a b, R a b → S a b) : All2 S l m := by
  induction h with
  | nil => exact .nil
  | cons h _ ih => exact .cons (f _ _ h) ih
def spCols1 (K : PySem.W.Frag) : Sp := fun vs H Q _ => ∃ (a : Addr) (ns : List Int) (b m : Int), vs = [.ref a, .int b, .int m] ∧ SqL K H a (ns.map V.int) ∧ ns.length ≤ 63 ∧ 0 ≤ b ∧ b ≤ 40000 ∧ 1 ≤ m ∧ m ≤ 6 ∧ ∀ p cs H', Same H H' → H p = none → Cols H' p cs → okCols cs = true → Q (.ref p) H'
/-- what stands behind j columns -/
def colsTo (W : Str) (at_ first way : Nat) (H : Hp) (p : Addr) (j : Nat) : Prop := ∃ cs : List Col, Cols H p cs ∧ cs.length = j ∧ (∀ (i : Nat) c, cs[i]? = some c → (∃ sz, sz < 8 ∧ c.1 = nm1 W at_ first sz way i) ∧ (c.2 = "number" ∨ c.2 = "text"))
theorem colsTo.ok {W : Str} {at_ first way : Nat} {H : Hp} {p : Addr} {j : Nat} (hW : W.length = 8) (ha : at_ < 8) (hw : ∀ c ∈ W.cps.toList, 97 ≤ c ∧ c ≤ 122) (h1 : 1 ≤ j) (h6 : j ≤ 6) (h : colsTo W at_ first way H p j) : ∃ cs, Cols H p cs ∧ okCols cs = true := by
  obtain ⟨cs, hC, hl, hg⟩ := h
  refine ⟨cs, hC, okCols_of (by omega) (by omega) ?_ fun c hc => ?_⟩
  · unfold List.Nodup
    rw [List.pairwise_iff_getElem]
    intro i k hi hk hik e
    rw [List.length_map] at hi hk
    rw [List.getElem_map, List.getElem_map] at e
    obtain ⟨⟨s1, _, e1⟩, _⟩ := hg i _ (List.getElem?_eq_getElem hi)
    obtain ⟨⟨s2, _, e2⟩, _⟩ := hg k _ (List.getElem?_eq_getElem hk)
    rw [e1, e2] at e
    have := nm1_inj hW ha (by omega) (by omega) e
    omega
  · obtain ⟨i, hi, e⟩ := List.getElem_of_mem hc
    obtain ⟨⟨sz, hs, e1⟩, hk⟩ := hg i c (by rw [List.getElem?_eq_getElem hi, e])
    have := nm1_len (first := first) (way := way) hW ha hs (show i < 6 by omega)
    rw [← e1] at this
    refine ⟨isName_of this.1 this.2 ?_, hk⟩
    rw [e1]
    exact nm1_in hW ha hw
theorem d__law_columns (T : Txt K mg) : Def P w K mg base true 2 "_law_columns" ["_law_script", "_law_base", "_law_most"] (spCols1 K) := by
  refine df__law_columns T (fun vs H Q E h => by obtain ⟨a, ns, b, m, rfl, _⟩ := h; rfl) (fun f cdv A outer s H vs Q E hr h => ?_)
  obtain ⟨a, ns, b, m, rfl, hS, hl, hb0, hb1, hm0, hm1, q⟩ := h
  have nd := sc__law_columns.nd
  have n1 := T.n_range
  have hsz : sizeLine = 16777216 := sizeLine_eq
  have D1 : Def P w K mg base true 1 "_law_draw" ["_law_script", "_law_k", "_law_many"] (spDraw K) := d__law_draw T
  have hL26 : LTs.length = 26 := by decide +kernel
  refine sxs_cons ?_
  walk_at "go"
  refine ev_compR ["_law_k", "_law_base", "_law_letters", "_law_script"] (σ' := [none, some (.int b), some (.str LTs), some (.ref a)]) (by rfl) (by rfl) (compSc_of (defScope s__law_columns) (by rfl) (by rfl) (by decide +kernel)) (by decide +kernel) (by rfl) (by rfl) (by rfl) n1 (by rfl) ?_
  walk_at "e"
  refine ⟨8, rfl, by omega, by omega, fun i v => v = .str ⟨#[97 + (drawF ns (b + (i : Int)) 26).toNat]⟩, fun fp E' C s3 H0 i H2 hi sm => ?_, fun E' H1 xs hE hl2 hx e2 sm1 => ?_⟩
  · walk_at "go"
    have hi8 : i < 8 := by simpa using hi
    refine ⟨a, ns, b + i, 26, rfl, sm.seq hS, hl, by omega, by omega, by decide, ?_⟩
    have h1 := drawF_nn ns (b + i) (m := 26) (by decide)
    have h2 := drawF_lt ns (b + i) (m := 26) (by decide)
    refine i_str (by omega) (n := 97 + (drawF ns (b + (i : Int)) 26).toNat) ?_ ⟨rfl, Same.refl _⟩
    have e : drawF ns (b + (i : Int)) 26 = (((drawF ns (b + (i : Int)) 26).toNat : Nat) : Int) := by omega
    have h3 := atI_nat (lt_get (k := (drawF ns (b + (i : Int)) 26).toNat) (by omega))
    rw [← e] at h3
    exact h3
  · have ex := list_of_pi (ys := List.range 8) (fun i : Nat => V.str ⟨#[97 + (drawF ns (b + (i : Int)) 26).toNat]⟩) (by rw [hl2, List.length_range]; rfl) (fun i v e => ⟨i, ?_, hx i v e⟩)
    · have ex2 : xs = (((List.range 8).map fun i : Nat => 97 + (drawF ns (b + (i : Int)) 26).toNat).map fun c => (⟨#[c]⟩ : Str)).map V.str := by
        rw [ex, List.map_map, List.map_map]
        rfl
      subst ex2
      walk_at "go"
      refine m_join (SqL.of e2) ?_ ?_
      · have e0 : (Str.ofString "").length = 0 := by decide +kernel
        rw [ones_sum, List.length_map, List.length_map, List.length_range, e0]
        omega
      rw [join_signs]
      have hwl : (⟨((List.range 8).map fun i : Nat => 97 + (drawF ns (b + (i : Int)) 26).toNat).toArray⟩ : Str).length = 8 := by rw [L2.len_list]; simp
      have hwc : ∀ c ∈ (⟨((List.range 8).map fun i : Nat => 97 + (drawF ns (b + (i : Int)) 26).toNat).toArray⟩ : Str).cps.toList, 97 ≤ c ∧ c ≤ 122 := fun c hc => by
        have hc' : c ∈ (List.range 8).map fun i : Nat => 97 + (drawF ns (b + (i : Int)) 26).toNat := by simpa using hc
        obtain ⟨i, _, rfl⟩ := List.mem_map.mp hc'
        have h1 := drawF_nn ns (b + i) (m := 26) (by decide)
        have h2 := drawF_lt ns (b + i) (m := 26) (by decide)
        omega
      generalize (⟨((List.range 8).map fun i : Nat => 97 + (drawF ns (b + (i : Int)) 26).toNat).toArray⟩ : Str) = W at hwl hwc ⊢
      refine sxs_cons ?_
      walk_at "go"
      refine ⟨a, ns, b + 10, 3, rfl, sm1.seq hS, hl, by omega, by omega, by decide, ?_⟩
      have w0 := drawF_nn ns (b + 10) (m := 3) (by decide)
      have w1 := drawF_lt ns (b + 10) (m := 3) (by decide)
      obtain ⟨way, ew⟩ := Int.eq_ofNat_of_zero_le w0
      rw [ew] at w1 ⊢
      walk_at "go"
      refine ⟨a, ns, b + 11, 8, rfl, sm1.seq hS, hl, by omega, by omega, by decide, ?_⟩
      have a0 := drawF_nn ns (b + 11) (m := 8) (by decide)
      have a1 := drawF_lt ns (b + 11) (m := 8) (by decide)
      obtain ⟨at_, ea⟩ := Int.eq_ofNat_of_zero_le a0
      rw [ea] at a1 ⊢
      walk_at "go"
      refine ⟨by show 0 ≤ sizeLine; omega, fun p hp => ?_⟩
      have pn : H p = none := sm1.free hp
      have sm0 : Same H (upd H1 p (.lst [])) := sm1.trans (Same.upd hp)
      have ep : (upd H1 p (.lst [])) p = some (.lst []) := upd_same
      generalize upd H1 p (.lst []) = H2 at sm0 ep ⊢
      have f0 := drawF_nn ns (b + 13) (m := 26) (by decide)
      have f1 := drawF_lt ns (b + 13) (m := 26) (by decide)
      obtain ⟨fi, ef⟩ := Int.eq_ofNat_of_zero_le f0
      have hat : at_ < 8 := by omega
      refine sxs_cons ?_
      refine sx_forR (by walk_at "po") (by rfl) (by rfl) n1 (by rfl) ?_
      walk_at "go"
      refine ⟨a, ns, b + 12, m, rfl, sm0.seq hS, hl, by omega, by omega, by omega, ?_⟩
      have g0 := drawF_nn ns (b + 12) (m := m) (by omega)
      have g1 := drawF_lt ns (b + 12) (m := m) (by omega)
      generalize drawF ns (b + 12) m = g at g0 g1 ⊢
      walk_at "go"
      refine ⟨by omega, by omega, fun i σ H' => (∃ o8 o9 o10 o11, σ = [some (.ref a), some (.int b), some (.int m), some (.str LTs), some (.str W), some (.int way), some (.int at_), some (.ref p), o8, o9, o10, o11]) ∧ Same H H' ∧ colsTo W at_ fi way H' p i,
        ⟨⟨none, none, none, none, rfl⟩, sm0, ⟨[], ⟨[], ep, .nil⟩, rfl, fun i c e => by simp at e⟩⟩, fun i σ H' hi hP => ?_, fun σ H' hP => ?_⟩
      · obtain ⟨⟨o8, o9, o10, o11, rfl⟩, sm, hC⟩ := hP
        have hi6 : i < 6 := by have : (i : Int) < 1 + g := by omega
                               omega
        refine eg_name nd (by rfl) (.inl rfl) (.inl rfl) ?_
        walk_at "go"
        refine ⟨a, ns, b + 13, 26, rfl, sm.seq hS, hl, by omega, by omega, by decide, ?_⟩
        rw [ef]
        walk_at "go"
        rw [show ((fi : Int) + (i : Int)) % 26 = (((fi + i) % 26 : Nat) : Int) by omega]
        refine i_str (by omega) (atI_nat (lt_get (Nat.mod_lt _ (by decide)))) ?_
        walk_at "go"
        refine ⟨a, ns, b + 20 + i, 8, rfl, sm.seq hS, hl, by omega, by omega, by decide, ?_⟩
        have s0 := drawF_nn ns (b + 20 + i) (m := 8) (by decide)
        have s1 := drawF_lt ns (b + 20 + i) (m := 8) (by decide)
        obtain ⟨sz, es⟩ := Int.eq_ofNat_of_zero_le s0
        rw [es] at s1 ⊢
        have l1 := cutS_le W none (some (at_ : Int))
        have l2 := cutS_le W (some ((at_ : Int) + 1)) none
        have l3 := cutS_le W none (some (sz : Int))
        have ls : (⟨#[97 + (fi + i) % 26]⟩ : Str).length = 1 := rfl
        have l4 := len_app (cutS W none (some (at_ : Int))) ⟨#[97 + (fi + i) % 26]⟩
        walk_at "go"
        refine s_str (by omega) ?_
        walk_at "go"
        refine o_addS (by omega) ?_
        walk_at "go"
        refine s_str (by omega) ?_
        refine o_addS (by omega) ?_
        walk_at "go"
        refine s_str (by omega) ?_
        walk_at "go"
        refine s_str (by omega) ?_
        refine o_addS (by omega) ?_
        walk_at "go"
        refine ⟨by show 3 ≤ sizeLine; omega, fun k hk => ?_⟩
        walk_at "go"
        have hg3 : atI [V.str (cutS W none (some (at_ : Int)) ++ ⟨#[97 + (fi + i) % 26]⟩ ++ cutS W (some ((at_ : Int) + 1)) none), V.str (cutS W none (some ((i : Int) + 1))), V.str ((⟨#[97 + (fi + i) % 26]⟩ : Str) ++ cutS W none (some (sz : Int)))] (way : Int) = some (V.str (nm1 W at_ fi sz way i)) := by
          have hw3 : way < 3 := by omega
          match way, hw3 with
          | 0, _ => rfl
          | 1, _ => rfl
          | 2, _ => rfl
        refine i_list (SqL.of upd_same) hg3 ?_
        have smk := Same.upd (H := H') (o := .lst [V.str (cutS W none (some (at_ : Int)) ++ ⟨#[97 + (fi + i) % 26]⟩ ++ cutS W (some ((at_ : Int) + 1)) none), V.str (cutS W none (some ((i : Int) + 1))), V.str ((⟨#[97 + (fi + i) % 26]⟩ : Str) ++ cutS W none (some (sz : Int)))]) hk
        generalize upd H' k _ = H3 at smk ⊢
        obtain ⟨cs, ⟨vs, hp', hvs⟩, hcl, hcg⟩ := hC
        refine sxs_one (sx_expr (by rfl) (ev_bm PySem.F.plainAttrs_list PySem.F.slot_list_append PySem.F.type_list_append (by rfl) (by rfl) (by rfl) (by rfl) (by rfl) ?_))
        walk_at "go"
        refine ⟨.inl ⟨rfl, _, SqL.of (smk _ _ hp')⟩, ?_⟩
        walk_at "go"
        refine ⟨by show 2 ≤ sizeLine; omega, fun y hy => ?_⟩
        have smy : Same H3 (upd H3 y (.lst [.str "number", .str "text"])) := Same.upd hy
        have ey : (upd H3 y (.lst [.str "number", .str "text"])) y = some (.lst [.str "number", .str "text"]) := upd_same
        generalize upd H3 y (.lst [.str "number", .str "text"]) = H5 at smy ey ⊢
        walk_at "go"
        refine ⟨a, ns, b + 30 + i, 2, rfl, ((sm.trans smk).trans smy).seq hS, hl, by omega, by omega, by decide, ?_⟩
        have k0 := drawF_nn ns (b + 30 + i) (m := 2) (by decide)
        have k1 := drawF_lt ns (b + 30 + i) (m := 2) (by decide)
        obtain ⟨kd, e1, e2⟩ := atI_mem (xs := [V.str "number", V.str "text"]) k0 (by show _ < (2 : Int); omega)
        refine i_list (SqL.of ey) e1 ?_
        obtain ⟨kk, rfl, hkk⟩ : ∃ kk : Str, kd = .str kk ∧ (kk = "number" ∨ kk = "text") := by
          rcases List.mem_cons.mp e2 with e | e
          · exact ⟨_, e, .inl rfl⟩
          · exact ⟨"text", by simpa using e, .inr rfl⟩
        walk_at "go"
        refine ⟨by show 2 ≤ sizeLine; omega, fun t ht => ?_⟩
        have smt : Same H5 (upd H5 t (.tup [.str (nm1 W at_ fi sz way i), .str kk])) := Same.upd ht
        have et : (upd H5 t (.tup [.str (nm1 W at_ fi sz way i), .str kk])) t = some (.tup [.str (nm1 W at_ fi sz way i), .str kk]) := upd_same
        generalize upd H5 t (.tup [.str (nm1 W at_ fi sz way i), .str kk]) = H6 at smt et ⊢
        have s6 : Same H' H6 := (smk.trans smy).trans smt
        have hvl := hvs.len
        refine ea_nil (mt_by mt_append ⟨p, _, _, rfl, rfl, s6 _ _ hp', by rw [hvl]; omega, ?_⟩)
        have tp : t ≠ p := fun e => by rw [e, (smk.trans smy) _ _ hp'] at ht; cases ht
        have up : ∀ b' o, H6 b' = some o → b' ≠ p → (upd H6 p (.lst (vs ++ [.ref t]))) b' = some o := fun b' o e hne => by rw [upd_ne hne]; exact e
        refine ⟨⟨_, _, _, _, rfl⟩, fun b' o e => ?_, cs ++ [(nm1 W at_ fi sz way i, kk)], ⟨vs ++ [.ref t], upd_same, all2_snoc (all2_mono hvs fun x c hx => ?_) ⟨t, rfl, up _ _ et tp⟩⟩, by rw [List.length_append, List.length_singleton, hcl], fun j c e => ?_⟩
        · rw [upd_ne (ne_of_none e pn)]
          exact s6 _ _ (sm _ _ e)
        · obtain ⟨u, rfl, hu⟩ := hx
          have hup : u ≠ p := fun z => by rw [z, hp'] at hu; cases hu
          exact ⟨u, rfl, up _ _ (s6 _ _ hu) hup⟩
        · by_cases hj : j < cs.length
          · rw [List.getElem?_append_left hj] at e
            exact hcg j c e
          · have hj2 := (List.getElem?_eq_some_iff.mp e).1
            rw [List.length_append, List.length_singleton] at hj2
            have ej : j = cs.length := by omega
            subst ej
            rw [List.getElem?_concat_length] at e
            cases e
            rw [hcl]
            exact ⟨⟨sz, by omega, rfl⟩, hkk⟩
      · obtain ⟨⟨o8, o9, o10, o11, rfl⟩, sm, hC⟩ := hP
        obtain ⟨cs, hC', hok⟩ := hC.ok hwl hat hwc (by omega) (by omega)
        walk_at "go"
        exact q p cs _ sm pn hC' hok
    · have : i < xs.length := (List.getElem?_eq_some_iff.mp e).1
      rw [List.getElem?_range (by simp at hl2; omega)]
end
end K34

namespace K34
open PySem L2 PyProof.Rows My Vl Lw
section
variable {P : Program} {w : World} {K : PySem.W.Frag} {mg : Str → Option Value} {base : Heap}
/-- a value of a kind, within its bounds -/
def valK (kd : Str) (v : V) : Prop := v = .non ∨ (kd = "number" ∧ ∃ i, v = .int i ∧ -1000000000000000000 ≤ i ∧ i ≤ 1000000000000000000) ∨ (¬ kd = "number" ∧ ∃ z, v = .str z ∧ z.length ≤ 20 ∧ ∀ c ∈ z.cps.toList, c ∈ SG)
theorem valK.sc {kd : Str} {v : V} (h : valK kd v) : scalar v = true := by
  rcases h with rfl | ⟨_, i, rfl, _⟩ | ⟨_, z, rfl, _⟩ <;> rfl
theorem valK.sca {kd : Str} {v : V} (h : valK kd v) : sca v = true ∧ ∀ z, v = .str z → okS 4000 z := by
  rcases h with rfl | ⟨_, i, rfl, _⟩ | ⟨_, z, rfl, hl, hz⟩
  · exact ⟨rfl, fun z e => by cases e⟩
  · exact ⟨rfl, fun z e => by cases e⟩
  · exact ⟨rfl, fun y e => by cases e; exact okS.sg (by omega) hz⟩
abbrev SG1 : Str := Str.ofString "ab-abcdefghijklmnopqrstuvwxyz0123456789-"
theorem sg1_len : SG1.length = 40 := by decide +kernel
theorem sg1_ok : ∀ c ∈ SG1.cps.toList, c ∈ SG := by decide +kernel
def spValue1 (K : PySem.W.Frag) : Sp := fun vs H Q _ => ∃ (a : Addr) (ns : List Int) (k : Int) (kd : Str), vs = [.ref a, .int k, .str kd] ∧ SqL K H a (ns.map V.int) ∧ ns.length ≤ 63 ∧ 0 ≤ k ∧ k ≤ 50000 ∧ ∀ v H', Same H H' → valK kd v → Q v H'
theorem d__law_value (T : Txt K mg) : Def P w K mg base true 2 "_law_value" ["_law_script", "_law_k", "_law_kind"] (spValue1 K) := by
  refine df__law_value T (fun vs H Q E h => by obtain ⟨a, ns, k, kd, rfl, _⟩ := h; rfl) (fun f cdv A outer s H vs Q E hr h => ?_)
  obtain ⟨a, ns, k, kd, rfl, hS, hl, hk0, hk1, q⟩ := h
  have nd := sc__law_value.nd
  have n1 := T.n_len
  have n2 := T.n_range
  have hsz : sizeLine = 16777216 := sizeLine_eq
  have hlm : (ns.map V.int).length = ns.length := List.length_map ..
  have D1 : Def P w K mg base true 1 "_law_draw" ["_law_script", "_law_k", "_law_many"] (spDraw K) := d__law_draw T
  refine sxs_cons ?_
  walk_at "go"
  refine ⟨a, ns, k, 8, rfl, hS, hl, by omega, by omega, by decide, ?_⟩
  have w0 := drawF_nn ns k (m := 8) (by decide)
  have w1 := drawF_lt ns k (m := 8) (by decide)
  obtain ⟨way, ew⟩ := Int.eq_ofNat_of_zero_le w0
  rw [ew] at w1 ⊢
  walk_at "go"
  refine ifD (fun h0 => ?_) (fun h0 => ?_)
  · walk_at "go"
    exact q _ _ (Same.refl _) (.inl rfl)
  · have hway : 1 ≤ way := by
      rcases Nat.eq_zero_or_pos way with e | e
      · exact absurd (by rw [e]; rfl) h0
      · exact e
    walk_at "go"
    refine ifD (fun h => ?_) (fun h => ?_)
    · have hn : kd = "number" := by injection h
      have num : ∀ (cell : Int) (D : Ends), D.rt = Q → SXs (CxF true P w K mg base N__law_value "_law_value" (defScope s__law_value) f cdv A outer s H E) ((inIf (stAt (defBody s__law_value) 2)).drop 1) D [some (.ref a), some (.int k), some (.str kd), some (.int way), some (.int cell), none, none, none] H := by
        intro cell D hD
        have c0 := Int.emod_nonneg cell (b := 2 * 1000000000000000000 + 1) (by decide)
        have c1 := Int.emod_lt_of_pos cell (b := 2 * 1000000000000000000 + 1) (by decide)
        refine sxs_cons ?_
        walk_at "go"
        generalize cell % (2 * 1000000000000000000 + 1) = z at c0 c1 ⊢
        refine ⟨by show 7 ≤ sizeLine; omega, fun p hp => ?_⟩
        walk_at "go"
        obtain ⟨v, e1, e2⟩ := atI_mem (xs := [V.int 0, V.int 1, V.int (-1), V.int 10, V.int (z - 1000000000000000000), V.int 1000000000000000000, V.int (0 - 1000000000000000000)]) (i := (way : Int) - 1) (by omega) (by show _ < (7 : Int); omega)
        refine i_list (SqL.of upd_same) e1 ?_
        have hv : ∃ i, v = .int i ∧ -1000000000000000000 ≤ i ∧ i ≤ 1000000000000000000 := by
          simp only [List.mem_cons, List.not_mem_nil, or_false] at e2
          rcases e2 with rfl | rfl | rfl | rfl | rfl | rfl | rfl <;> exact ⟨_, rfl, by omega, by omega⟩
        show D.rt _ _
        rw [hD]
        exact q _ _ (Same.upd hp) (.inr (.inl ⟨hn, hv⟩))
      walk_at "go"
      rw [hlm]
      refine ifD (fun h3 => ?_) (fun h3 => ?_)
      · walk_at "go"
        rw [hlm]
        walk_at "go"
        refine i_list hS (atI_map 0 (Int.emod_nonneg _ (by omega)) (Int.emod_lt_of_pos _ (by omega))) ?_
        exact num _ _ rfl
      · walk_at "ex"
        exact num _ _ rfl
    · have hn : ¬ kd = "number" := fun e => h (by rw [e])
      walk_at "go"
      refine ⟨by show 7 ≤ sizeLine; omega, fun p hp => ?_⟩
      have smp := Same.upd (H := H) (o := .lst [V.int 0, V.int 1, V.int 1, V.int 2, V.int 3, V.int 5, V.int 20]) hp
      walk_at "go"
      obtain ⟨v, e1, e2⟩ := atI_mem (xs := [V.int 0, V.int 1, V.int 1, V.int 2, V.int 3, V.int 5, V.int 20]) (i := (way : Int) - 1) (by omega) (by show _ < (7 : Int); omega)
      refine i_list (SqL.of upd_same) e1 ?_
      obtain ⟨sz, rfl, hs20⟩ : ∃ sz : Nat, v = .int sz ∧ sz ≤ 20 := by
        simp only [List.mem_cons, List.not_mem_nil, or_false] at e2
        rcases e2 with rfl | rfl | rfl | rfl | rfl | rfl | rfl
        · exact ⟨0, rfl, by decide⟩
        · exact ⟨1, rfl, by decide⟩
        · exact ⟨1, rfl, by decide⟩
        · exact ⟨2, rfl, by decide⟩
        · exact ⟨3, rfl, by decide⟩
        · exact ⟨5, rfl, by decide⟩
        · exact ⟨20, rfl, by decide⟩
      generalize upd H p _ = H1 at smp ⊢
      have hway4 : (way : Int) / 4 = 0 ∨ (way : Int) / 4 = 1 := by omega
      walk_at "go"
      refine ev_compR ["_law_j", "_law_k", "_law_script", "_law_signs", "_law_way"] (σ' := [none, some (.int k), some (.ref a), some (.str SG1), some (.int way)]) (by rfl) (by rfl) (compSc_of (defScope s__law_value) (by rfl) (by rfl) (by decide +kernel)) (by decide +kernel) (by rfl) (by rfl) (by rfl) n2 (by rfl) ?_
      walk_at "e"
      refine ⟨sz, rfl, by omega, by omega, fun i v => ∃ c, c ∈ SG ∧ v = .str ⟨#[c]⟩, fun fp E' C s3 H0 i H2 hi sm => ?_, fun E' H2 xs hE hl2 hx e2 sm1 => ?_⟩
      · have hi' : i < sz := by simpa using hi
        walk_at "go"
        refine ⟨by show 2 ≤ sizeLine; omega, fun y hy => ?_⟩
        have smy := Same.upd (H := H2) (o := .lst [V.int 3, V.int 40]) hy
        walk_at "go"
        obtain ⟨v, g1, g2⟩ := atI_mem (xs := [V.int 3, V.int 40]) (i := (way : Int) / 4) (by omega) (by show _ < (2 : Int); omega)
        refine o_fdiv ⟨by omega, by omega⟩ ?_
        refine i_list (SqL.of upd_same) g1 ?_
        obtain ⟨mm, rfl, hm1, hm2⟩ : ∃ mm : Int, v = .int mm ∧ 0 < mm ∧ mm ≤ 40 := by
          simp only [List.mem_cons, List.not_mem_nil, or_false] at g2
          rcases g2 with rfl | rfl
          · exact ⟨3, rfl, by decide, by decide⟩
          · exact ⟨40, rfl, by decide, by decide⟩
        generalize upd H2 y _ = H3 at smy ⊢
        walk_at "go"
        refine ⟨a, ns, k + 7 * i + 1, mm, rfl, ((smp.trans sm).trans smy).seq hS, hl, by omega, by omega, hm1, ?_⟩
        have d0 := drawF_nn ns (k + 7 * i + 1) (m := mm) hm1
        have d1 := drawF_lt ns (k + 7 * i + 1) (m := mm) hm1
        obtain ⟨d, ed⟩ := Int.eq_ofNat_of_zero_le d0
        rw [ed] at d1 ⊢
        have hl40 := L2.len_list SG1
        have hg : SG1.cps.toList[d]? = some (SG1.cps.toList.getD d 0) := by
          rw [List.getD_eq_getElem?_getD, List.getElem?_eq_getElem (by rw [← hl40, sg1_len]; omega)]
          rfl
        refine i_str (by rw [sg1_len]; omega) (atI_nat hg) ⟨⟨_, sg1_ok _ (List.mem_of_getElem? hg), rfl⟩, smy⟩
      · have hx3 : ∃ cs : List Nat, xs = (cs.map fun c => (⟨#[c]⟩ : Str)).map V.str ∧ ∀ c ∈ cs, c ∈ SG := by
          have : ∀ (xs : List V), (∀ v ∈ xs, ∃ c, c ∈ SG ∧ v = .str ⟨#[c]⟩) → ∃ cs : List Nat, xs = (cs.map fun c => (⟨#[c]⟩ : Str)).map V.str ∧ ∀ c ∈ cs, c ∈ SG := by
            intro xs
            induction xs with
            | nil => exact fun _ => ⟨[], rfl, fun c hc => by simp at hc⟩
            | cons v r ih =>
              intro h
              obtain ⟨c, hc, rfl⟩ := h v (List.mem_cons_self ..)
              obtain ⟨cs, rfl, h2⟩ := ih fun v hv => h v (List.mem_cons_of_mem _ hv)
              exact ⟨c :: cs, rfl, fun x hx => (List.mem_cons.mp hx).elim (fun e => e ▸ hc) (h2 x)⟩
          refine this xs fun v hv => ?_
          obtain ⟨i, hi, e⟩ := List.getElem_of_mem hv
          exact hx i v (by rw [List.getElem?_eq_getElem hi, e])
        obtain ⟨cs, rfl, hcs⟩ := hx3
        have hcl : cs.length = sz := by simpa using hl2
        walk_at "go"
        refine m_join (SqL.of e2) ?_ ?_
        · have e0 : (Str.ofString "").length = 0 := by decide +kernel
          rw [ones_sum, List.length_map, e0]
          omega
        rw [join_signs]
        refine q _ _ (smp.trans sm1) (.inr (.inr ⟨hn, _, rfl, ?_, ?_⟩))
        · rw [L2.len_list]
          show cs.length ≤ 20
          omega
        · intro c hc
          exact hcs c (by simpa using hc)
end
end K34
namespace K34
open PySem L2 PyProof.Rows My Vl Lw
section
variable {P : Program} {w : World} {K : PySem.W.Frag} {mg : Str → Option Value} {base : Heap}
def spValues1 (K : PySem.W.Frag) : Sp := fun vs H Q _ => ∃ (a : Addr) (ns : List Int) (k : Int) (b : Addr) (cs : List Col), vs = [.ref a, .int k, .ref b] ∧ SqL K H a (ns.map V.int) ∧ ns.length ≤ 63 ∧ 0 ≤ k ∧ k ≤ 40000 ∧ Cols H b cs ∧ cs.length ≤ 6 ∧ ∀ p xs H', Same H H' → H p = none → H' p = some (.lst xs) → All2 (fun c x => valK c.2 x) cs xs → Q (.ref p) H'
theorem all2_of_get {α β : Type} {R : α → β → Prop} : ∀ {l : List α} {m : List β}, m.length = l.length → (∀ (i : Nat) b, m[i]? = some b → ∃ a, l[i]? = some a ∧ R a b) → All2 R l m
  | [], [], _, _ => .nil
  | [], _ :: _, h, _ => by simp at h
  | _ :: _, [], h, _ => by simp at h
  | a :: l, b :: m, h, g => by
    obtain ⟨a', e, r⟩ := g 0 b rfl
    have : a = a' := by simpa using e
    subst this
    exact .cons r (all2_of_get (by simpa using h) fun i x e => by simpa using g (i + 1) x (by simpa using e))
theorem d__law_values (T : Txt K mg) : Def P w K mg base true 3 "_law_values" ["_law_script", "_law_k", "_law_columns_here"] (spValues1 K) := by
  refine df__law_values T (fun vs H Q E h => by obtain ⟨a, ns, k, b, cs, rfl, _⟩ := h; rfl) (fun f cdv A outer s H vs Q E hr h => ?_)
  obtain ⟨a, ns, k, b, cs, rfl, hS, hl, hk0, hk1, hC, hc6, q⟩ := h
  have n1 := T.n_range
  have n2 := T.n_len
  have hsz : sizeLine = 16777216 := sizeLine_eq
  have D1 : Def P w K mg base true 2 "_law_value" ["_law_script", "_law_k", "_law_kind"] (spValue1 K) := d__law_value T
  have ndc : (["_law_j", "_law_columns_here", "_law_k", "_law_script"] : List Str).Nodup := by decide +kernel
  obtain ⟨vs, hb, hvs⟩ := id hC
  have hvl := hvs.len
  have SB : SqL K H b vs := SqL.of hb
  refine sxs_one (sx_ret ?_)
  refine ev_compRh ["_law_j", "_law_columns_here", "_law_k", "_law_script"] (σ' := [none, some (.ref b), some (.int k), some (.ref a)]) (by rfl) (by rfl) (compSc_of (defScope s__law_values) (by rfl) (by rfl) (by decide +kernel)) (by rfl) n1 (by rfl) ?_
  walk_at "go"
  refine ⟨by omega, by omega, fun τ => ∃ o1, τ = [o1, some (.ref b), some (.int k), some (.ref a)], fun E2 i u H' => ∃ c, cs[i]? = some c ∧ valK c.2 u, ⟨none, rfl⟩, fun E2 i u H2 H3 ys _ _ p => p, fun fp E2 C s3 H0 i τ x H4 H3 hE2 hi hτ sm4 hys hG => ?_, fun L H1 ys hL hl2 hx2 e1 sm1 => ?_⟩
  · obtain ⟨o1, rfl⟩ := hτ
    obtain ⟨rfl, rfl⟩ := hG
    have hil : i < vs.length := by simpa using hi
    have hg : vs[i]? = some vs[i] := List.getElem?_eq_getElem hil
    obtain ⟨c, hc, t, ev, ht⟩ := hvs.get hg
    refine eg_name ndc (by rfl) (.inl rfl) (.inr rfl) ?_
    walk_at "go"
    refine i_list (sm4.seq SB) (atI_nat hg) ?_
    rw [ev]
    walk_at "go"
    refine i_tup (SqT.of (sm4 _ _ ht)) (show atI [V.str c.1, V.str c.2] 1 = some (V.str c.2) from rfl) ?_
    walk_at "go"
    refine ⟨a, ns, _, c.2, rfl, sm4.seq hS, hl, by omega, by omega, fun v H5 sm5 hv => ?_⟩
    exact ⟨⟨_, rfl⟩, ⟨c, hc, hv⟩, sm5⟩
  · exact q L ys H1 sm1 hL e1 (all2_of_get (by rw [hl2, ← hvl]; simp) hx2)
end
end K34

namespace K34
open PySem L2 PyProof.Rows My Vl Lw
section
variable {P : Program} {w : World} {K : PySem.W.Frag} {mg : Str → Option Value} {base : Heap}
theorem placeF_step {cs : List Col} {z : Str} : ∀ {i : Nat} {c : Col} (j : Nat), cs[i]? = some c → (∀ k c, k < i → cs[k]? = some c → ¬ c.1 = z) → c.1 = z → placeF cs z j = .int ((j + i : Nat) : Int) := by
  induction cs with
  | nil => intro i c j e; simp at e
  | cons d r ih =>
    intro i c j e h hz
    unfold placeF
    cases i with
    | zero =>
      simp at e
      subst e
      rw [if_pos hz]
      rfl
    | succ i =>
      rw [if_neg (h 0 d (by omega) rfl)]
      rw [ih (j + 1) (by simpa using e) (fun k c hk e' => h (k + 1) c (by omega) (by simpa using e')) hz]
      congr 2
      omega
theorem placeF_none {cs : List Col} {z : Str} : ∀ (j : Nat), (∀ c ∈ cs, ¬ c.1 = z) → placeF cs z j = .non := by
  induction cs with
  | nil => intro j h; rfl
  | cons d r ih =>
    intro j h
    unfold placeF
    rw [if_neg (h d (by simp)), ih (j + 1) fun c hc => h c (by simp [hc])]
theorem d_place_of (T : Txt K mg) : Def P w K mg base true 1 "place_of" ["columns", "name"] spPlace := by
  refine df_place_of T (fun vs H Q E h => by obtain ⟨a, cs, z, rfl, _⟩ := h; rfl) (fun f cdv A outer s H vs Q E hr h => ?_)
  obtain ⟨a, cs, z, rfl, ⟨vs, ha, hvs⟩, q⟩ := h
  have n1 := T.n_enumerate
  have nd := sc_place_of.nd
  refine sxs_cons ?_
  refine sx_forE (by walk_at "po") (by rfl) (by rfl) n1 (by rfl) ?_
  walk_at "go"
  refine ⟨a, vs, rfl, ha, fun i σ H' => (∃ o1 o2, σ = [some (.ref a), some (.str z), o1, o2]) ∧ Same H H' ∧ ∀ k c, k < i → cs[k]? = some c → ¬ c.1 = z, ⟨⟨none, none, rfl⟩, Same.refl _, fun k c hk => by omega⟩, fun i σ H' hi hP => .inl (.inl (hP.2.1 _ _ ha)), fun i x T' σ H' hx hP hT => ?_, fun σ H' hP => ?_⟩
  · obtain ⟨⟨o1, o2, rfl⟩, sm, hn⟩ := hP
    obtain ⟨c, hc, t, rfl, ht⟩ := hvs.get hx
    have sm2 := sm.trans (Same.upd (o := .tup [.int i, .ref t]) hT)
    have eT : (upd H' T' (.tup [.int i, .ref t])) T' = some (.tup [.int i, .ref t]) := upd_same
    generalize upd H' T' (.tup [.int i, .ref t]) = H2 at sm2 eT ⊢
    refine eg_tup (by rfl) (by rfl) (by rfl) (SqT.of eT) (by rfl) (egs_cons (by rfl) (eg_name nd (by rfl) (.inl rfl) (.inl rfl) (egs_cons (by rfl) (eg_name nd (by rfl) (.inl rfl) (.inl rfl) (egs_nil ?_)))))
    refine sxs_one ?_
    walk_at "go"
    refine i_tup (SqT.of (sm2 _ _ ht)) (show atI [V.str c.1, V.str c.2] 0 = some (V.str c.1) from rfl) ?_
    walk_at "go"
    refine ifD (fun h => ?_) (fun h => ?_)
    · have hz : c.1 = z := by injection h
      walk_at "go"
      have := placeF_step 0 hc hn hz
      rw [Nat.zero_add] at this
      rw [← this]
      exact q H2 sm2
    · have hz : ¬ c.1 = z := fun e => h (by rw [e])
      walk_at "go"
      refine ⟨⟨_, _, rfl⟩, sm2, fun k d hk hd => ?_⟩
      by_cases e : k = i
      · subst e
        rw [hc] at hd
        cases hd
        exact hz
      · exact hn k d (by omega) hd
  · obtain ⟨⟨o1, o2, rfl⟩, sm, hn⟩ := hP
    refine sxs_one ?_
    walk_at "go"
    have := placeF_none (cs := cs) (z := z) 0 fun c hc => by
      obtain ⟨k, hk, e⟩ := List.getElem_of_mem hc
      exact hn k c (by rw [hvs.len]; exact hk) (by rw [← e]; exact List.getElem?_eq_getElem hk)
    rw [← this]
    exact q H' sm
end
end K34

namespace K34
open PySem L2 PyProof.Rows My Vl Lw
section
variable {P : Program} {w : World} {K : PySem.W.Frag} {mg : Str → Option Value} {base : Heap}
/-! rows, their keys, lines -/
abbrev Row := Int × List V
/-- the tuple (number, values) -/
def RowAt (H : Hp) (v : V) (r : Row) : Prop := ∃ t l, v = .ref t ∧ H t = some (.tup [.int r.1, .ref l]) ∧ H l = some (.lst r.2)
theorem RowAt.same {H H' : Hp} {v : V} {r : Row} (h : RowAt H v r) (s : Same H H') : RowAt H' v r := by
  obtain ⟨t, l, e, q1, q2⟩ := h
  exact ⟨t, l, e, s _ _ q1, s _ _ q2⟩
def Rws (H : Hp) (a : Addr) (rs : List Row) : Prop := ∃ vs : List V, H a = some (.lst vs) ∧ All2 (RowAt H) vs rs
theorem Rws.same {H H' : Hp} {a : Addr} {rs : List Row} (h : Rws H a rs) (s : Same H H') : Rws H' a rs := by
  obtain ⟨vs, e, q⟩ := h
  exact ⟨vs, s _ _ e, q.imp fun a b r => r.same s⟩
/-- a row of these columns -/
def fitK (cs : List Col) (r : Row) : Prop := All2 (fun c x => valK c.2 x) cs r.2
theorem valK.like {kd : Str} {x y : V} (h : valK kd x) (g : valK kd y) : like x y := by
  rcases h with rfl | ⟨e, i, rfl, _⟩ | ⟨e, z, rfl, _⟩
  · exact .inl rfl
  · rcases g with rfl | ⟨_, j, rfl, _⟩ | ⟨e2, z, rfl, _⟩
    · exact .inr (.inl rfl)
    · exact .inr (.inr (.inl ⟨_, _, rfl, rfl⟩))
    · exact absurd e e2
  · rcases g with rfl | ⟨e2, j, rfl, _⟩ | ⟨_, z, rfl, _⟩
    · exact .inr (.inl rfl)
    · exact absurd e2 e
    · exact .inr (.inr (.inr ⟨_, _, rfl, rfl⟩))
theorem before_irr (x : V) : before x x = false := by
  cases x with
  | non => rfl
  | int i => exact decide_eq_false (by omega)
  | str z => exact decide_eq_false (List.lt_irrefl _)
  | _ => rfl
theorem before_anti {x y : V} (h : like x y) (sx : scalar x = true) (sy : scalar y = true) (hne : ¬ x = y) : before y x = !before x y := by
  cases x with
  | non =>
    cases y with
    | non => exact absurd rfl hne
    | int j => rfl
    | str z => rfl
    | _ => exact absurd sy Bool.false_ne_true
  | int i =>
    cases y with
    | non => rfl
    | int j =>
      have hij : ¬ i = j := fun e => hne (by rw [e])
      show decide (j < i) = !decide (i < j)
      by_cases h1 : i < j
      · rw [decide_eq_true h1, decide_eq_false (by omega)]; rfl
      · rw [decide_eq_false h1, decide_eq_true (by omega)]; rfl
    | str z => rcases h with z | z | ⟨_, _, _, z⟩ | ⟨_, _, z, _⟩ <;> cases z
    | _ => exact absurd sy Bool.false_ne_true
  | str z =>
    cases y with
    | non => rfl
    | int j => rcases h with z | z | ⟨_, _, z, _⟩ | ⟨_, _, _, z⟩ <;> cases z
    | str y =>
      have hzy : ¬ z.cps.toList = y.cps.toList := fun e => hne (by rw [str_ext e])
      show decide (y.cps.toList < z.cps.toList) = !decide (z.cps.toList < y.cps.toList)
      by_cases h1 : z.cps.toList < y.cps.toList
      · rw [decide_eq_true h1, decide_eq_false (List.lt_asymm h1)]; rfl
      · have h2 : y.cps.toList < z.cps.toList := by
          by_cases h3 : y.cps.toList < z.cps.toList
          · exact h3
          · exact absurd (List.le_antisymm (List.not_lt.mp h3) (List.not_lt.mp h1)) hzy
        rw [decide_eq_false h1, decide_eq_true h2]; rfl
    | _ => exact absurd sy Bool.false_ne_true
  | _ => exact absurd sx Bool.false_ne_true
/-- the kind of a column by its name -/
def kindZ (cs : List Col) (z : Str) : Str := match cs[placeN cs z]? with
  | some c => c.2
  | none => Str.ofString ""
/-- the list of a key by this order -/
def KeyOk (cs : List Col) (os : List Ord) (xs : List V) : Prop := All2 (fun (o : Ord) x => valK (kindZ cs o.1) x) os xs
theorem key_ok {cs : List Col} {r : Row} (h : fitK cs r) : ∀ {os : List Ord}, inC cs os → KeyOk cs os (keyL cs os r.2)
  | [], _ => .nil
  | o :: os, hin => by
    refine .cons ?_ (key_ok h fun x hx => hin x (by simp [hx]))
    obtain ⟨c, hc, _⟩ := placeN_get (hin o (by simp))
    obtain ⟨v, hv, hk⟩ := h.get hc
    show valK (kindZ cs o.1) (atN cs r.2 o.1)
    unfold kindZ atN
    rw [hc, hv]
    exact hk
theorem KeyOk.like {cs : List Col} {os : List Ord} {xs ys : List V} (h : KeyOk cs os xs) (g : KeyOk cs os ys) : xs.length = os.length ∧ ys.length = os.length ∧ ∀ (i : Nat) x y, xs[i]? = some x → ys[i]? = some y → scalar x = true ∧ scalar y = true ∧ like x y := by
  refine ⟨h.len.symm, g.len.symm, fun i x y e1 e2 => ?_⟩
  obtain ⟨o, ho, hx⟩ := h.get' e1
  obtain ⟨o', ho', hy⟩ := g.get' e2
  rw [ho] at ho'
  cases ho'
  exact ⟨hx.sc, hy.sc, hx.like hy⟩
/-- one row ahead of the other -/
def rowLt (cs : List Col) (os : List Ord) (r q : Row) : Bool := aheadF os (keyL cs os r.2) (keyL cs os q.2) r.1 q.1
def Line (cs : List Col) (os : List Ord) (rs : List Row) : Prop := rs.Pairwise fun r q => rowLt cs os r q = true
/-- a cut -/
inductive Ct
  | start
  | fin
  | at_ (ahead : Bool) (xs : List V) (n : Int)
def laF (os : List Ord) : Ct → List V → Int → Bool
  | .at_ true ys k, xs, n => aheadF os xs ys n k
  | .at_ false ys k, xs, n => !aheadF os ys xs k n
  | _, _, _ => false
def laR (cs : List Col) (os : List Ord) (c : Ct) (r : Row) : Bool := laF os c (keyL cs os r.2) r.1
def CtOk (cs : List Col) (os : List Ord) : Ct → Prop
  | .at_ _ xs _ => KeyOk cs os xs
  | _ => True
end
end K34
namespace K34
open PySem L2 PyProof.Rows My Vl Lw
section
variable {P : Program} {w : World} {K : PySem.W.Frag} {mg : Str → Option Value} {base : Heap}
/-! lines by sorting -/
def rkV : V → List V
  | .non => []
  | x => [x]
def outR (rs : List Row) (q : List Nat) : List Row := q.map fun i => rs.getD i (0, [])
theorem all2_out {R : V → Row → Prop} {ws : List V} {rs : List Row} (h : All2 R ws rs) : ∀ {q : List Nat}, (∀ i ∈ q, i < ws.length) → All2 R (outV ws q) (outR rs q)
  | [], _ => .nil
  | i :: q, hq => by
    have hi := hq i (by simp)
    have e : ws[i]? = some (ws[i]'hi) := List.getElem?_eq_getElem hi
    obtain ⟨r, er, hr⟩ := h.get e
    show All2 R (ws.getD i .non :: outV ws q) (rs.getD i (0, []) :: outR rs q)
    rw [List.getD_eq_getElem?_getD, List.getD_eq_getElem?_getD, e, er]
    exact .cons hr (all2_out h fun j hj => hq j (by simp [hj]))
theorem map_getD {α : Type} (d : α) : ∀ (l : List α), (List.range l.length).map (fun i => l.getD i d) = l
  | [] => rfl
  | a :: l => by
    rw [List.length_cons, List.range_succ_eq_map, List.map_cons, List.map_map]
    show a :: _ = _
    congr 1
    exact map_getD d l
theorem perm_out {rs : List Row} {lt : Nat → Nat → Bool} {q : List Nat} (h : Sorted rs.length lt q) : (outR rs q).Perm rs := by
  have := h.1.map fun i => rs.getD i (0, [])
  rw [map_getD] at this
  exact this
theorem getD_of {rs : List Row} {i : Nat} (h : i < rs.length) : rs.getD i (0, []) = rs[i] := by
  rw [List.getD_eq_getElem?_getD, List.getElem?_eq_getElem h]
  rfl
theorem lt_before {kd : Str} {x y : V} (hx : valK kd x) (hy : valK kd y) : ltR (rkV x) (rkV y) = before x y := by
  rcases hx with rfl | ⟨e, i, rfl, _⟩ | ⟨e, z, rfl, _⟩
  · rcases hy with rfl | ⟨_, j, rfl, _⟩ | ⟨_, z, rfl, _⟩ <;> rfl
  · rcases hy with rfl | ⟨_, j, rfl, _⟩ | ⟨e2, z, rfl, _⟩
    · rfl
    · rfl
    · exact absurd e e2
  · rcases hy with rfl | ⟨e2, j, rfl, _⟩ | ⟨_, z, rfl, _⟩
    · rfl
    · exact absurd e2 e
    · rfl
/-- sorted by number -/
theorem line_num0 {cs : List Col} {rs : List Row} {q : List Nat} (hn : (rs.map Prod.fst).Nodup) (hq : Sorted rs.length (ltD false fun i j => decide ((rs.getD i (0, [])).1 < (rs.getD j (0, [])).1)) q) : Line cs [] (outR rs q) := by
  unfold Line outR
  rw [List.pairwise_map]
  have hqn : q.Nodup := (hq.1.nodup_iff).mpr List.nodup_range
  refine (hq.2.and hqn).imp_of_mem fun {i j} hi hj h => ?_
  obtain ⟨h, hne⟩ := h
  have hi' := sorted_mem hq hi
  have hj' := sorted_mem hq hj
  show decide ((rs.getD i (0, [])).1 < (rs.getD j (0, [])).1) = true
  have hd : ¬ (rs.getD i (0, [])).1 = (rs.getD j (0, [])).1 := fun e => by
    rw [getD_of hi', getD_of hj'] at e
    have e2 : (rs.map Prod.fst)[i]'(by simpa using hi') = (rs.map Prod.fst)[j]'(by simpa using hj') := by simpa using e
    exact hne ((List.getElem_inj hn).mp e2)
  rcases h with h | ⟨h, _⟩
  · exact h
  · have h' : decide ((rs.getD j (0, [])).1 < (rs.getD i (0, [])).1) = false := h
    have := of_decide_eq_false h'
    exact decide_eq_true (by omega)
def rkF (rs : List Row) (p : Nat) (i : Nat) : List V := rkV (((rs.getD i (0, [])).2[p]?).getD .non)
theorem line_step {cs : List Col} {os : List Ord} {o : Ord} {rs : List Row} {q : List Nat} (hin : inC cs (o :: os)) (hf : ∀ r ∈ rs, fitK cs r) (h : Line cs os rs) (hq : Sorted rs.length (ltD (!o.2) fun i j => ltR (rkF rs (placeN cs o.1) i) (rkF rs (placeN cs o.1) j)) q) : Line cs (o :: os) (outR rs q) := by
  unfold Line outR
  rw [List.pairwise_map]
  have hqn : q.Nodup := (hq.1.nodup_iff).mpr List.nodup_range
  refine (hq.2.and hqn).imp_of_mem fun {i j} hi hj h0 => ?_
  obtain ⟨h0, hne⟩ := h0
  have hi' := sorted_mem hq hi
  have hj' := sorted_mem hq hj
  have mi : rs.getD i (0, []) ∈ rs := by rw [getD_of hi']; exact List.getElem_mem hi'
  have mj : rs.getD j (0, []) ∈ rs := by rw [getD_of hj']; exact List.getElem_mem hj'
  have kx : valK (kindZ cs o.1) (atN cs (rs.getD i (0, [])).2 o.1) := by
    cases key_ok (hf _ mi) hin with | cons h _ => exact h
  have ky : valK (kindZ cs o.1) (atN cs (rs.getD j (0, [])).2 o.1) := by
    cases key_ok (hf _ mj) hin with | cons h _ => exact h
  have lij : ltR (rkF rs (placeN cs o.1) i) (rkF rs (placeN cs o.1) j) = before (atN cs (rs.getD i (0, [])).2 o.1) (atN cs (rs.getD j (0, [])).2 o.1) := lt_before kx ky
  have lji : ltR (rkF rs (placeN cs o.1) j) (rkF rs (placeN cs o.1) i) = before (atN cs (rs.getD j (0, [])).2 o.1) (atN cs (rs.getD i (0, [])).2 o.1) := lt_before ky kx
  have an := before_anti (kx.like ky) kx.sc ky.sc
  have old : i < j → rowLt cs os (rs.getD i (0, [])) (rs.getD j (0, [])) = true := fun hlt => by
    rw [getD_of hi', getD_of hj']
    exact List.pairwise_iff_getElem.mp h i j hi' hj' hlt
  show (if atN cs (rs.getD i (0, [])).2 o.1 = atN cs (rs.getD j (0, [])).2 o.1 then rowLt cs os (rs.getD i (0, [])) (rs.getD j (0, [])) else decide (before (atN cs (rs.getD i (0, [])).2 o.1) (atN cs (rs.getD j (0, [])).2 o.1) = o.2)) = true
  generalize atN cs (rs.getD i (0, [])).2 o.1 = x at kx lij lji an ⊢
  generalize atN cs (rs.getD j (0, [])).2 o.1 = y at ky lij lji an ⊢
  by_cases e : x = y
  · rw [if_pos e]
    refine old ?_
    subst e
    rcases h0 with h1 | ⟨_, h1⟩
    · unfold ltD at h1
      split at h1
      · have h1 : ltR (rkF rs (placeN cs o.1) j) (rkF rs (placeN cs o.1) i) = true := h1
        rw [lji, before_irr] at h1
        cases h1
      · have h1 : ltR (rkF rs (placeN cs o.1) i) (rkF rs (placeN cs o.1) j) = true := h1
        rw [lij, before_irr] at h1
        cases h1
    · exact h1
  · rw [if_neg e]
    have an' := an e
    refine decide_eq_true ?_
    cases hu : o.2 with
    | true =>
      rw [hu] at h0
      rcases h0 with h1 | ⟨h1, _⟩
      · have h1 : ltR (rkF rs (placeN cs o.1) i) (rkF rs (placeN cs o.1) j) = true := h1
        rw [lij] at h1
        exact h1
      · have h1 : ltR (rkF rs (placeN cs o.1) j) (rkF rs (placeN cs o.1) i) = false := h1
        rw [lji, an'] at h1
        simpa using h1
    | false =>
      rw [hu] at h0
      rcases h0 with h1 | ⟨h1, _⟩
      · have h1 : ltR (rkF rs (placeN cs o.1) j) (rkF rs (placeN cs o.1) i) = true := h1
        rw [lji, an'] at h1
        simpa using h1
      · have h1 : ltR (rkF rs (placeN cs o.1) i) (rkF rs (placeN cs o.1) j) = false := h1
        rw [lij] at h1
        exact h1
theorem oneK_rk {cs : List Col} {o : Ord} {rs : List Row} (hin : ∃ c ∈ cs, c.1 = o.1) (hf : ∀ r ∈ rs, fitK cs r) : OneK (rkF rs (placeN cs o.1)) := by
  have kx : ∀ i, valK (kindZ cs o.1) (((rs.getD i (0, [])).2[placeN cs o.1]?).getD .non) := fun i => by
    by_cases hi : i < rs.length
    · have mi : rs.getD i (0, []) ∈ rs := by rw [getD_of hi]; exact List.getElem_mem hi
      cases key_ok (os := [o]) (hf _ mi) (fun p hp => by cases List.mem_singleton.mp hp; exact hin) with | cons h _ => exact h
    · have e : rs.getD i (0, []) = (0, []) := by rw [List.getD_eq_getElem?_getD, List.getElem?_eq_none (by omega)]; rfl
      rw [e]
      exact .inl rfl
  refine ⟨fun i => ?_, ?_⟩
  · show KeyL (rkV _)
    rcases kx i with e | ⟨_, n, e, _⟩ | ⟨_, z, e, _⟩ <;> rw [e]
    · exact .inl rfl
    · exact .inr ⟨_, rfl⟩
    · exact .inr ⟨_, rfl⟩
  · by_cases hk : kindZ cs o.1 = "number"
    · refine .inl fun i x h => ?_
      have h : rkV (((rs.getD i (0, [])).2[placeN cs o.1]?).getD .non) = [x] := h
      rcases kx i with e | ⟨_, n, e, _⟩ | ⟨e2, z, e, _⟩
      · rw [e] at h; cases h
      · rw [e] at h; cases h; exact ⟨n, rfl⟩
      · exact absurd hk e2
    · refine .inr fun i x h => ?_
      have h : rkV (((rs.getD i (0, [])).2[placeN cs o.1]?).getD .non) = [x] := h
      rcases kx i with e | ⟨e2, n, e, _⟩ | ⟨_, z, e, _⟩
      · rw [e] at h; cases h
      · exact absurd e2 hk
      · rw [e] at h; cases h; exact ⟨z, rfl⟩
end
end K34

namespace K34
open PySem L2 PyProof.Rows My Vl Lw
section
variable {P : Program} {w : World} {K : PySem.W.Frag} {mg : Str → Option Value} {base : Heap}
/-! lines.py: a line by sorting -/
def spNumberOf (K : PySem.W.Frag) : Sp := fun vs H Q _ => ∃ (t : Addr) (n : Int) (x : V), vs = [.ref t] ∧ H t = some (.tup [.int n, x]) ∧ Q (.int n) H
theorem d_number_of (T : Txt K mg) : Def P w K mg base true 1 "number_of" ["told"] (spNumberOf K) := by
  refine df_number_of T (fun vs H Q E h => by obtain ⟨t, n, x, rfl, _⟩ := h; rfl) (fun f cdv A outer s H vs Q E hr h => ?_)
  obtain ⟨t, n, x, rfl, ht, q⟩ := h
  refine sxs_one (sx_ret ?_)
  walk_at "ex"
  refine i_tup (SqT.of ht) (show atI [V.int n, x] 0 = some (V.int n) from rfl) ?_
  exact q
def spRankOf (K : PySem.W.Frag) : Sp := fun vs H Q _ => ∃ x : V, vs = [x] ∧ ∀ p H', Same H H' → H p = none → H' p = some (.tup (rkV x)) → Q (.ref p) H'
theorem d_rank_of (T : Txt K mg) : Def P w K mg base true 1 "rank_of" ["value"] (spRankOf K) := by
  refine df_rank_of T (fun vs H Q E h => by obtain ⟨x, rfl, _⟩ := h; rfl) (fun f cdv A outer s H vs Q E hr h => ?_)
  obtain ⟨x, rfl, q⟩ := h
  have hsz : sizeLine = 16777216 := sizeLine_eq
  refine sxs_one (sx_ret ?_)
  walk_at "ex"
  refine ifD (fun e => ?_) (fun e => ?_)
  · walk_at "ex"
    refine ⟨by show 0 ≤ sizeLine; omega, fun p hp => ?_⟩
    subst e
    exact q p _ (Same.upd hp) hp upd_same
  · walk_at "ex"
    refine ⟨by show 1 ≤ sizeLine; omega, fun p hp => ?_⟩
    have ex : rkV x = [x] := by
      cases x with
      | non => exact absurd rfl e
      | _ => rfl
    exact q p _ (Same.upd hp) hp (by rw [ex]; exact upd_same)
def spSortedBy (K : PySem.W.Frag) : Sp := fun vs H Q _ => ∃ (p : Addr) (i : Nat) (up : Bool) (ws : List V) (rs : List Row), vs = [.ref p, .int i, .bl up] ∧ H p = some (.lst ws) ∧ All2 (RowAt H) ws rs ∧ rs.length < 64 ∧ (∀ r ∈ rs, i < r.2.length) ∧ OneK (rkF rs i) ∧ H (tabP K "sorted_by") = some (.tbl psR) ∧
  ∀ q pl H', Same H H' → H pl = none → Sorted rs.length (ltD (!up) fun a b => ltR (rkF rs i a) (rkF rs i b)) q → H' pl = some (.lst (outV ws q)) → Q (.ref pl) H'
theorem d_sorted_by (T : Txt K mg) (hN : Nst K mg base "sorted_by") : Def P w K mg base true 6 "sorted_by" ["rows", "place", "up"] (spSortedBy K) := by
  refine def_ofN T.d_sorted_by hN sc_sorted_by (fun _ _ _ _ _ _ us hl => by obtain ⟨_, _, _, rfl⟩ := shp3 hl; rfl) (fun vs H Q E h => by obtain ⟨p, i, up, ws, rs, rfl, _⟩ := h; rfl) (fun f A outer s H vs Q E hr h => ?_)
  obtain ⟨p, i, up, ws, rs, rfl, hp, hws, h64, hlen, hR, hP, q⟩ := h
  have nd := sc_sorted_by.nd
  have n1 := T.n_sorted
  have hwl := hws.len
  have hsz : sizeLine = 16777216 := sizeLine_eq
  refine sxs_cons ?_
  refine sx_nest (c := tabC K "sorted_by") (P := tabP K "sorted_by") (ps := psR) (j := 3) (qual := "sorted_by.<locals>.rank") (clos := [("place", s.heap.objs.size + 1)]) nd (by rfl) (by rfl) (by rfl) hN.code hN.bm (by rfl) hP (tabKey_at _ _) (by change (Str.ofString "sorted_by" ++ Str.ofString ".<locals>.") ++ Str.ofString "rank" = _; decide +kernel) (by rfl) (by rfl) (by rfl) ?_
  intro fr c' oc doc pm ctv vs t' H1 s1 hfr hf1 hc1 hoc hq
  obtain ⟨u1, hc1⟩ := hc1
  have hK : ∀ (X : Cx) (σ : L2.St), X = CxF true P w K mg base N_sorted_by "sorted_by" (defScope s_sorted_by) f (.ref (tabC K "sorted_by")) A outer s H E → σ = [some (.ref p), some (.int i), some (.bl up), some (.ref fr)] → KeyV X σ (.ref fr) ws H1 (KTup (rkF rs i)) := by
    intro X σ eX eσ
    subst eX
    subst eσ
    refine ⟨fun k v H2 H3 sm h => ?_, fun k x u pins s2 H2 hx ru sm I => ?_⟩
    · obtain ⟨a, e, h⟩ := h
      exact ⟨a, e, sm _ _ h⟩
    · obtain ⟨r, hr2, t, l, rfl, ht, hl⟩ := hws.get hx
      have hkl := (List.getElem?_eq_some_iff.mp hr2).1
      have hil := hlen r (List.mem_of_getElem? hr2)
      have s02 := s1.trans sm
      refine nest_call (j := 1) (v := .ref t) (z := .int i) (x := "told") (y := "place") I (sm _ _ hf1) (sm _ _ hc1) hoc hq hr.in1.in1.depth (fun _ _ _ _ _ => rfl) (by rfl) (by rfl) (by rfl) (by rfl) (by rfl) (by decide +kernel) (fun a ha => ?_) (by rfl) (by rfl) (by rfl) (by rfl) ru ?_
      · have h := PySem.mem_of_lookup ha
        change (a, NameKind.free) ∈ [(Str.ofString "told", NameKind.local), (Str.ofString "place", NameKind.free), (Str.ofString "rank_of", NameKind.globalImplicit)] at h
        rcases List.mem_cons.mp h with e | h
        · cases e
        · rcases List.mem_cons.mp h with e | h
          · exact congrArg Prod.fst e
          · cases List.mem_singleton.mp h
      · have D1 : Def P w K mg base true 1 "rank_of" ["value"] (spRankOf K) := d_rank_of T
        have hr' := ((hr.in1).in1).deeper (PySem.W.envX "sorted_by.<locals>.rank" (defScope (stAt (defBody s_sorted_by) 0)) s2.heap.objs.size fr (.ref c') [("place", s.heap.objs.size + 1)])
        refine sxs_one (sx_ret ?_)
        walk_at "ex"
        refine i_tup (SqT.of (s02 _ _ ht)) (show atI [V.int r.1, V.ref l] 1 = some (V.ref l) from rfl) ?_
        walk_at "ex"
        refine i_list (SqL.of (s02 _ _ hl)) (atI_nat (List.getElem?_eq_getElem hil)) ?_
        walk_at "ex"
        refine ⟨_, rfl, fun a H3 s3 ha h3 => ?_⟩
        refine ⟨s3, a, rfl, ?_⟩
        rw [h3]
        unfold rkF
        rw [List.getD_eq_getElem?_getD, hr2]
        show _ = some (HO.tup (rkV ((r.2[i]?).getD .non)))
        rw [List.getElem?_eq_getElem hil]
        rfl
  have hu := hr.in1.in1.units0
  change SXs _ _ _ [some (.ref p), some (.int i), some (.bl up), some (.ref fr)] H1
  refine sxs_cons (sx_if ?_)
  walk_at "ex"
  cases up with
  | true =>
    walk_at "t"
    refine sxs_one (sx_ret ?_)
    refine ev_sortK (by rfl) n1 (by rfl) ?_
    walk_at "ex"
    refine ⟨p, fr, ws, _, _, rfl, rfl, SqL.of (s1 _ _ hp), by omega, swo_tup hR, hK _ _ rfl rfl, cmp_tup hu hR, fun pl H2 qq s2 hpl hS => ?_⟩
    rw [hwl] at hS
    exact q qq pl _ ((s1.trans s2).trans (Same.upd hpl)) ((s1.trans s2).free hpl) hS upd_same
  | false =>
    walk_at "t"
    refine sxs_nil (sxs_one (sx_ret ?_))
    refine ev_sortR (b := true) (by rfl) n1 (by rfl) ?_
    walk_at "ex"
    refine ⟨rfl, p, fr, ws, _, _, rfl, rfl, SqL.of (s1 _ _ hp), by omega, swo_tup hR, hK _ _ rfl rfl, cmp_tup hu hR, fun pl H2 qq s2 hpl hS => ?_⟩
    rw [hwl] at hS
    exact q qq pl _ ((s1.trans s2).trans (Same.upd hpl)) ((s1.trans s2).free hpl) hS upd_same
/-- a row of a new tuple and a new list, other than q -/
def RowFr (q : Addr) (H H' : Hp) (v : V) (r : Row) : Prop := ∃ t l, v = .ref t ∧ H t = none ∧ H l = none ∧ l ≠ q ∧ H' t = some (.tup [.int r.1, .ref l]) ∧ H' l = some (.lst r.2)
theorem RowFr.row {q : Addr} {H H' : Hp} {v : V} {r : Row} (h : RowFr q H H' v r) : RowAt H' v r := by
  obtain ⟨t, l, e, _, _, _, h1, h2⟩ := h
  exact ⟨t, l, e, h1, h2⟩
theorem RowFr.same {q : Addr} {H H' H2 : Hp} {v : V} {r : Row} (h : RowFr q H H' v r) (s : Same H' H2) : RowFr q H H2 v r := by
  obtain ⟨t, l, e, a, b, c, h1, h2⟩ := h
  exact ⟨t, l, e, a, b, c, s _ _ h1, s _ _ h2⟩
theorem RowFr.turn {q q2 : Addr} {H H' : Hp} {v : V} {r : Row} (h : RowFr q H H' v r) (hq : H' q2 = none) : RowFr q2 H H' v r := by
  obtain ⟨t, l, e, a, b, c, h1, h2⟩ := h
  exact ⟨t, l, e, a, b, (fun z => by rw [z, hq] at h2; cases h2), h1, h2⟩
def spLineOf (K : PySem.W.Frag) : Sp := fun vs H Q _ => ∃ (c b p : Addr) (cs : List Col) (os : List Ord) (rs : List Row), vs = [.ref c, .ref b, .ref p] ∧ Cols H c cs ∧ Ords H b os ∧ Rws H p rs ∧ cs.length ≤ 6 ∧ os.length ≤ 6 ∧ inC cs os ∧ rs.length < 64 ∧ (∀ r ∈ rs, fitK cs r) ∧ (rs.map Prod.fst).Nodup ∧ H (tabP K "sorted_by") = some (.tbl psR) ∧
  ∀ q ws ls H', Same H H' → H q = none → H' q = some (.lst ws) → All2 (RowFr q H H') ws ls → Line cs os ls → ls.Perm rs → Q (.ref q) H'
theorem d_line_of (T : Txt K mg) (hN : Nst K mg base "sorted_by") : Def P w K mg base true 8 "line_of" ["columns", "order", "rows"] (spLineOf K) := by
  refine df_line_of T (fun vs H Q E h => by obtain ⟨c, b, p, cs, os, rs, rfl, _⟩ := h; rfl) (fun f cdv A outer s H vs Q E hr h => ?_)
  obtain ⟨c, b, p, cs, os, rs, rfl, hC, ⟨ov, hb, hov⟩, ⟨ws, hp, hws⟩, hc6, ho4, hin, h64, hfit, hnd, hP, q⟩ := h
  have nd := sc_line_of.nd
  have n1 := T.n_sorted
  have n2 := T.n_reversed
  have n3 := T.n_list
  have hwl := hws.len
  have hol := hov.len
  have hsz : sizeLine = 16777216 := sizeLine_eq
  have nd2 : (["row", "values"] : List Str).Nodup := by decide +kernel
  have D1 : Def P w K mg base true 1 "number_of" ["told"] (spNumberOf K) := d_number_of T
  have D2 : Def P w K mg base true 1 "place_of" ["columns", "name"] spPlace := d_place_of T
  have D3 : Def P w K mg base true 6 "sorted_by" ["rows", "place", "up"] (spSortedBy K) := d_sorted_by T hN
  refine sxs_cons ?_
  walk_at "s"
  refine ev_sortK (by rfl) n1 (by rfl) ?_
  refine ev_compL ["row", "values"] (σ' := [none, none]) (by rfl) (by rfl) (compSc_of (defScope s_line_of) (by rfl) (by rfl) (by decide +kernel)) (by intro _; rfl) ?_
  walk_at "ex"
  refine ⟨p, ws, rfl, SqL.of hp, by omega, fun τ => ∃ o1 o2, τ = [o1, o2], fun E2 k u H' => ∃ r, rs[k]? = some r ∧ RowFr E2 H H' u r, ⟨none, none, rfl⟩, fun E2 k u H2 H3 ys hE hk p => ?_, fun fp E2 C s3 H0 k τ x H4 H5 hE2 hi hτ sm4 hys hG => ?_, fun q0 H2 us hq0 hl2 hx2 e2 s2 => ?_⟩
  · obtain ⟨r, hr, t, l, e, h1, h2, h3, h4, h5⟩ := p
    exact ⟨r, hr, t, l, e, h1, h2, h3, hk _ _ (fun z => by rw [z, hE] at h4; cases h4) h4, hk _ _ h3 h5⟩
  · obtain ⟨o1, o2, rfl⟩ := hτ
    obtain ⟨hx3, rfl⟩ := hG
    obtain ⟨r, hr, t, l, rfl, ht, hl⟩ := hws.get hx3
    obtain ⟨ys, hys⟩ := hys
    refine eg_tup (by rfl) (by rfl) (by rfl) (SqT.of (sm4 _ _ ht)) (by rfl) (egs_cons (by rfl) (eg_name nd2 (by rfl) (.inl rfl) (.inr rfl) (egs_cons (by rfl) (eg_name nd2 (by rfl) (.inl rfl) (.inr rfl) (egs_nil ?_)))))
    walk_at "ex"
    refine c_list (.inl (SqL.of (sm4 _ _ hl))) fun l2 hl2 => ?_
    have s5 : Same H4 (upd H4 l2 (.lst r.2)) := Same.upd hl2
    have e5 : (upd H4 l2 (.lst r.2)) l2 = some (.lst r.2) := upd_same
    have nl : l2 ≠ E2 := fun e => by rw [e, hys] at hl2; cases hl2
    generalize upd H4 l2 (.lst r.2) = H5 at s5 e5 ⊢
    walk_at "ex"
    refine ⟨by show 2 ≤ sizeLine; omega, fun t2 ht2 => ?_⟩
    have s6 : Same H5 (upd H5 t2 (.tup [.int r.1, .ref l2])) := Same.upd ht2
    exact ⟨⟨_, _, rfl⟩, ⟨r, hr, t2, l2, rfl, (sm4.trans s5).free ht2, sm4.free hl2, nl, upd_same, s6 _ _ e5⟩, s5.trans s6⟩
  have hus : All2 (RowFr q0 H H2) us rs := all2_of_get (by omega) fun k r hr => by
    have hk : k < us.length := by have := (List.getElem?_eq_some_iff.mp hr).1; omega
    obtain ⟨r', hr', hn⟩ := hx2 k _ (List.getElem?_eq_getElem hk)
    rw [hr] at hr'
    cases hr'
    exact ⟨_, List.getElem?_eq_getElem hk, hn⟩
  have hul := hus.len
  obtain ⟨fa, hfa, hKV⟩ := keyV_def (σ := [some (.ref c), some (.ref b), some (.ref p), none, none, none]) (X := CxF true P w K mg base N_line_of "line_of" (defScope s_line_of) f cdv A outer s H E) (H := H2) (xs := us) (KV := KInt fun i => (rs.getD i (0, [])).1) D1 (hr.mono (show 1 + 2 ≤ 7 by decide)) (fun i v H H' _ h => h) (fun i x H' hx sm => by
    obtain ⟨r, hr, t, l, rfl, _, _, _, ht, hl⟩ := hus.get hx
    refine ⟨t, r.1, .ref l, rfl, sm _ _ ht, Same.refl _, ?_⟩
    show V.int r.1 = V.int (rs.getD i (0, [])).1
    rw [List.getD_eq_getElem?_getD, hr]
    rfl)
  refine ev_gfn hfa (by rfl) (by decide) ?_
  refine ⟨q0, fa, us, _, _, rfl, rfl, SqL.of e2, by omega, swo_int, hKV, cmp_int, fun p1 H3 qq s3 hp1 hS => ?_⟩
  rw [hul] at hS
  have hout : All2 (RowFr p1 H (upd H3 p1 (.lst (outV us qq)))) (outV us qq) (outR rs qq) := (all2_out hus fun i hi => by rw [hul]; exact sorted_mem hS hi).imp fun u r z => ((z.same s3).turn hp1).same (Same.upd hp1)
  have hline := line_num0 (cs := cs) hnd hS
  have hperm := perm_out hS
  have s03 : Same H (upd H3 p1 (.lst (outV us qq))) := (s2.trans s3).trans (Same.upd hp1)
  have hp10 : H p1 = none := (s2.trans s3).free hp1
  have ep1 : (upd H3 p1 (.lst (outV us qq))) p1 = some (.lst (outV us qq)) := upd_same
  generalize upd H3 p1 (.lst (outV us qq)) = H4 at hout s03 ep1 ⊢
  generalize outV us qq = w1 at hout ep1
  generalize outR rs qq = l1 at hout hline hperm
  refine sxs_cons (sx_forV (by walk_at "po") (by rfl) (by rfl) n2 (by rfl) ?_)
  walk_at "ex"
  refine ⟨b, ov, rfl, SqL.of (s03 _ _ hb), fun i σ H' => (∃ o4 o5 q1 w2 l2, σ = [some (.ref c), some (.ref b), some (.ref p), some (.ref q1), o4, o5] ∧ Same H H' ∧ H q1 = none ∧ H' q1 = some (.lst w2) ∧ All2 (RowFr q1 H H') w2 l2 ∧ Line cs (os.drop (os.length - i)) l2 ∧ l2.Perm rs), ?_, fun i σ' H' _ hP' => ?_, fun i x σ' H' hi hx hP' => ?_, fun σ' H' hP' => ?_⟩
  · refine ⟨none, none, p1, w1, l1, rfl, s03, hp10, ep1, hout, ?_, hperm⟩
    rw [Nat.sub_zero, List.drop_length]
    exact hline
  · obtain ⟨_, _, _, _, _, _, sm, _⟩ := hP'
    exact SqL.of (sm _ _ hb)
  · obtain ⟨o4, o5, q1, w2, l2, rfl, sm, hq1, hq1', hA, hL, hPm⟩ := hP'
    obtain ⟨o, ho, t, rfl, ht⟩ := hov.get hx
    have hio := hin o (List.mem_of_getElem? ho)
    have hlt := placeN_lt hio
    have hl2 : l2.length = rs.length := hPm.length_eq
    have hAl := hA.len
    have hfit2 : ∀ r ∈ l2, fitK cs r := fun r hr => hfit r (hPm.mem_iff.mp hr)
    refine eg_tup (by rfl) (by rfl) (by rfl) (SqT.of (sm _ _ ht)) (by rfl) (egs_cons (by rfl) (eg_name nd (by rfl) (.inl rfl) (.inl rfl) (egs_cons (by rfl) (eg_name nd (by rfl) (.inl rfl) (.inl rfl) (egs_nil ?_)))))
    refine sxs_one ?_
    walk_at "s"
    walk_at "ex"
    refine ⟨c, cs, o.1, rfl, hC.same sm, fun H5 s5 => ?_⟩
    rw [placeF_N 0 hio, Nat.zero_add]
    walk_at "ex"
    refine ⟨q1, placeN cs o.1, o.2, w2, l2, rfl, s5 _ _ hq1', hA.imp fun u r z => (z.same s5).row, by omega, fun r hr => by have := (hfit2 r hr).len; omega, oneK_rk hio hfit2, s5 _ _ (sm _ _ hP), fun qq pl H6 s6 hpl hS hpl6 => ?_⟩
    have sm6 := (sm.trans s5).trans s6
    have hpl0 : H pl = none := (sm.trans s5).free hpl
    refine ⟨_, _, pl, outV w2 qq, outR l2 qq, rfl, sm6, hpl0, hpl6, (all2_out hA fun i hi => by rw [hAl]; exact sorted_mem hS hi).imp fun u r z => ?_, ?_, (perm_out hS).trans hPm⟩
    · exact ((z.same s5).turn hpl).same s6
    · have hdrop : os.drop (os.length - (i + 1)) = o :: os.drop (os.length - i) := by
        have hk : os.length - (i + 1) < os.length := by omega
        rw [show ov.length - 1 - i = os.length - (i + 1) by omega] at ho
        rw [List.drop_eq_getElem_cons hk]
        have e1 := List.getElem?_eq_getElem hk
        rw [ho] at e1
        cases e1
        rw [show os.length - (i + 1) + 1 = os.length - i by omega]
      rw [hdrop]
      exact line_step (fun o' ho' => by
        rcases List.mem_cons.mp ho' with rfl | h
        · exact hio
        · exact hin _ (List.mem_of_mem_drop h)) hfit2 hL hS
  · obtain ⟨o4, o5, q1, w2, l2, rfl, sm, hq1, hq1', hA, hL, hPm⟩ := hP'
    refine sxs_one (sx_ret ?_)
    walk_at "ex"
    rw [hol, Nat.sub_self, List.drop_zero] at hL
    exact q q1 w2 l2 H' sm hq1 hq1' hA hL hPm
end
end K34

namespace K34
open PySem L2 PyProof.Rows My Vl Lw
section
variable {P : Program} {w : World} {K : PySem.W.Frag} {mg : Str → Option Value} {base : Heap}
theorem nodup_le {α : Type} [BEq α] [LawfulBEq α] : ∀ {l m : List α}, l.Nodup → (∀ x ∈ l, x ∈ m) → l.length ≤ m.length
  | [], m, _, _ => Nat.zero_le _
  | a :: r, m, h, s => by
    have h' := List.nodup_cons.mp h
    have ha := s a (List.mem_cons_self ..)
    have hle := nodup_le (l := r) (m := m.erase a) h'.2 fun x hx => (List.mem_erase_of_ne (fun e => h'.1 (by subst e; exact hx))).mpr (s x (List.mem_cons_of_mem _ hx))
    rw [List.length_erase_of_mem ha] at hle
    have := List.length_pos_of_mem ha
    rw [List.length_cons]
    omega
end
end K34
namespace K34
open PySem L2 PyProof.Rows My Vl Lw
section
variable {P : Program} {w : World} {K : PySem.W.Frag} {mg : Str → Option Value} {base : Heap}
/-! an order drawn, its columns those not yet taken -/
def okO (cs : List Col) (os : List Ord) : Prop := os.length ≤ 4 ∧ (os.map Prod.fst).Nodup ∧ ∀ o ∈ os, o.1 ∈ cs.map Prod.fst
def leftN (cs : List Col) (os : List Ord) (i : Nat) : Bool := match cs[i]? with
  | some c => decide (c.1 ∉ os.map Prod.fst)
  | none => false
def nameV1 (cs : List Col) (i : Nat) : V := match cs[i]? with
  | some c => .str c.1
  | none => .non
theorem nin_map {z : Str} : ∀ {ys : List Str}, (!inV (V.str z) (ys.map V.str)) = decide (z ∉ ys)
  | [] => by simp [inV]
  | y :: ys => by
    have ih := nin_map (z := z) (ys := ys)
    have e : inV (V.str z) ((y :: ys).map V.str) = ((y == z) || inV (V.str z) (ys.map V.str)) := rfl
    rw [e]
    by_cases h : y = z
    · subst h
      simp
    · have h1 : (y == z) = false := by simpa using h
      rw [h1, Bool.false_or, ih]
      have h2 : z ≠ y := fun e => h e.symm
      simp [h2]
/-- what is left is there, and not taken -/
theorem left_some {cs : List Col} {os : List Ord} (hn : (cs.map Prod.fst).Nodup) (ho : (os.map Prod.fst).Nodup) (hlt : os.length < cs.length) : 0 < (keptF (leftN cs os) (nameV1 cs) cs.length).length := by
  have ex : ∃ c ∈ cs, c.1 ∉ os.map Prod.fst := by
    refine Classical.byContradiction fun h => ?_
    have hall : ∀ z ∈ cs.map Prod.fst, z ∈ os.map Prod.fst := fun z hz => by
      obtain ⟨c, hc, rfl⟩ := List.mem_map.mp hz
      exact Classical.byContradiction fun hh => h ⟨c, hc, hh⟩
    have := nodup_le hn hall
    rw [List.length_map, List.length_map] at this
    omega
  obtain ⟨c, hc, hno⟩ := ex
  obtain ⟨i, hi, e⟩ := List.getElem_of_mem hc
  have hm : i ∈ (List.range cs.length).filter (leftN cs os) := by
    rw [List.mem_filter]
    refine ⟨List.mem_range.mpr hi, ?_⟩
    unfold leftN
    rw [List.getElem?_eq_getElem hi, e]
    exact decide_eq_true hno
  unfold keptF
  rw [List.length_map]
  exact List.length_pos_of_mem hm
theorem left_get {cs : List Col} {os : List Ord} {k : Nat} {v : V} (h : (keptF (leftN cs os) (nameV1 cs) cs.length)[k]? = some v) : ∃ c ∈ cs, v = .str c.1 ∧ c.1 ∉ os.map Prod.fst := by
  unfold keptF at h
  rw [List.getElem?_map] at h
  cases e : ((List.range cs.length).filter (leftN cs os))[k]? with
  | none => rw [e] at h; cases h
  | some i =>
    rw [e] at h
    have hm := List.mem_of_getElem? e
    rw [List.mem_filter] at hm
    have hi := List.mem_range.mp hm.1
    have h2 := hm.2
    unfold leftN at h2
    rw [List.getElem?_eq_getElem hi] at h2
    refine ⟨cs[i], List.getElem_mem hi, ?_, of_decide_eq_true h2⟩
    have h3 : nameV1 cs i = v := Option.some.inj h
    rw [← h3]
    unfold nameV1
    rw [List.getElem?_eq_getElem hi]
def spOrder1 (K : PySem.W.Frag) : Sp := fun vs H Q _ => ∃ (a : Addr) (ns : List Int) (b : Int) (c : Addr) (cs : List Col), vs = [.ref a, .int b, .ref c] ∧ SqL K H a (ns.map V.int) ∧ ns.length ≤ 63 ∧ 0 ≤ b ∧ b ≤ 40000 ∧ Cols H c cs ∧ okCols cs = true ∧ ∀ p os H', Same H H' → H p = none → Ords H' p os → okO cs os → Q (.ref p) H'
theorem d__law_order (T : Txt K mg) : Def P w K mg base true 2 "_law_order" ["_law_script", "_law_base", "_law_columns_here"] (spOrder1 K) := by
  refine df__law_order T (fun vs H Q E h => by obtain ⟨a, ns, b, c, cs, rfl, _⟩ := h; rfl) (fun f cdv A outer s H vs Q E hr h => ?_)
  obtain ⟨a, ns, b, c, cs, rfl, hS, hl, hb0, hb1, ⟨vs, hc, hvs⟩, hok, q⟩ := h
  have nd := sc__law_order.nd
  have n1 := T.n_range
  have n2 := T.n_len
  have n3 := T.n_min
  have hsz : sizeLine = 16777216 := sizeLine_eq
  have nd1 : (["_law_one", "_law_order_here"] : List Str).Nodup := by decide +kernel
  have nd2 : (["_law_two"] : List Str).Nodup := by decide +kernel
  have D1 : Def P w K mg base true 1 "_law_draw" ["_law_script", "_law_k", "_law_many"] (spDraw K) := d__law_draw T
  have hvl := hvs.len
  have hok' := hok
  unfold okCols at hok'
  simp only [Bool.and_eq_true, decide_eq_true_eq] at hok'
  obtain ⟨⟨⟨c1, c6⟩, _⟩, hcn⟩ := hok'
  have sqc : SqL K H c vs := SqL.of hc
  refine sxs_cons ?_
  walk_at "s"
  walk_at "ex"
  refine ⟨by show 0 ≤ sizeLine; omega, fun p hp => ?_⟩
  have sm0 : Same H (upd H p (.lst [])) := Same.upd hp
  have ep : (upd H p (.lst [])) p = some (.lst []) := upd_same
  generalize upd H p (.lst []) = H0 at sm0 ep ⊢
  have sqc0 := sm0.seq sqc
  refine sxs_cons ?_
  refine sx_forR (by walk_at "po") (by rfl) (by rfl) n1 (by rfl) ?_
  walk_at "ex"
  refine ⟨a, ns, b, 5, rfl, sm0.seq hS, hl, by omega, by omega, by decide, ?_⟩
  have d0 := drawF_nn ns b (m := 5) (by decide)
  have d1 := drawF_lt ns b (m := 5) (by decide)
  generalize drawF ns b 5 = dn at d0 d1 ⊢
  walk_at "ex"
  refine c_min3 (by rfl) fun m hm0 hm1 hm2 hm3 => ?_
  have m0 : 0 ≤ m := by omega
  walk_at "ex"
  refine ⟨by omega, by omega, fun i σ H' => (∃ o1 o2, σ = [some (.ref a), some (.int b), some (.ref c), some (.ref p), o1, o2]) ∧ Same H H' ∧ ∃ os : List Ord, Ords H' p os ∧ os.length = i ∧ (os.map Prod.fst).Nodup ∧ ∀ o ∈ os, o.1 ∈ cs.map Prod.fst,
    ⟨⟨none, none, rfl⟩, sm0, [], ⟨[], ep, .nil⟩, rfl, .nil, by simp⟩, fun i σ H' hi hP => ?_, fun σ H' hP => ?_⟩
  · obtain ⟨⟨o1, o2, rfl⟩, sm, os, ⟨ws, hp', hws⟩, hol, hon, hin⟩ := hP
    have hwl := hws.len
    have hi' : (i : Int) < m := by omega
    have hS' := sm.seq hS
    have hilt : os.length < cs.length := by omega
    have hle := left_some hcn hon hilt
    refine eg_name nd (by rfl) (.inl rfl) (.inl rfl) ?_
    refine sxs_cons ?_
    refine sx_compF ["_law_one", "_law_order_here"] (σ' := [none, some (.ref p)]) (by rfl) (by rfl) (by rfl) (compSc_of (defScope s__law_order) (by rfl) (by rfl) (by decide +kernel)) (by intro _; rfl) nd (by rfl) (by rfl) ?_
    walk_at "ex"
    refine ⟨c, vs, rfl, sm.seq sqc, by omega, fun τ => ∃ o1, τ = [o1, some (.ref p)], leftN cs os, nameV1 cs, ⟨none, rfl⟩, fun fp E2 C s3 H0' j τ x H2 hE2 hx hτ sm2 => ?_, fun L H2 hL eL sm2 => ?_⟩
    · obtain ⟨o1, rfl⟩ := hτ
      obtain ⟨cc, hcc, t, rfl, ht⟩ := hvs.get hx
      have ht2 := sm2 _ _ (sm _ _ ht)
      refine eg_name nd1 (by rfl) (.inl rfl) (.inr rfl) ?_
      walk_at "ex"
      refine i_tup (SqT.of ht2) (show atI [V.str cc.1, V.str cc.2] 0 = some (V.str cc.1) from rfl) ?_
      refine ev_compL ["_law_two"] (σ' := [none]) (by rfl) (by rfl) (compSc_of _ (by rfl) (by rfl) (by rfl)) (by intro _; rfl) ?_
      walk_at "ex"
      refine ⟨p, ws, rfl, SqL.of (sm2 _ _ hp'), by omega, fun τ => ∃ o1, τ = [o1], fun E3 i u H' => ∃ o, os[i]? = some o ∧ u = .str o.1, ⟨none, rfl⟩, fun E3 i u H2 H3 ys _ _ p => p, fun fp3 E3 C3 s33 H03 i3 τ3 x3 H43 H33 hE3 hi3 hτ3 sm43 hys3 hG3 => ?_, fun E3 H43 ys3 hE3 hl3 hx3 e43 sm43 => ?_⟩
      · obtain ⟨o1, rfl⟩ := hτ3
        obtain ⟨hx4, rfl⟩ := hG3
        obtain ⟨oo, hoo, t3, rfl, ht3⟩ := hws.get hx4
        refine eg_name nd2 (by rfl) (.inl rfl) (.inr rfl) ?_
        walk_at "ex"
        refine i_tup (SqT.of (sm43 _ _ (sm2 _ _ ht3))) (show atI [V.str oo.1, V.bl oo.2] 0 = some (V.str oo.1) from rfl) ?_
        exact ⟨⟨_, rfl⟩, ⟨oo, hoo, rfl⟩, Same.refl _⟩
      · have ey := list_of_pi (ys := os) (fun o => V.str o.1) (by rw [hl3, hwl]) hx3
        have ey2 : ys3 = (os.map Prod.fst).map V.str := by rw [ey, List.map_map]; rfl
        subst ey2
        refine o_ninL (SqL.of e43) (by rfl) (by rw [List.all_map]; exact List.all_eq_true.mpr fun _ _ => rfl) ?_
        refine ⟨_, rfl, ?_⟩
        refine ⟨?_, ⟨_, rfl⟩, sm43, fun hk => ?_⟩
        · unfold leftN
          rw [hcc, nin_map]
        · walk_at "ex"
          refine i_tup (SqT.of (sm43 _ _ ht2)) (show atI [V.str cc.1, V.str cc.2] 0 = some (V.str cc.1) from rfl) ?_
          refine ⟨?_, Same.refl _⟩
          unfold nameV1
          rw [hcc]
    · have sm12 := sm.trans sm2
      have hp2 := sm2 _ _ hp'
      have sqL : SqL K H2 L (keptF (leftN cs os) (nameV1 cs) vs.length) := SqL.of eL
      rw [hvl] at sqL
      have hkl := keptF_len (leftN cs os) (nameV1 cs) cs.length
      refine sxs_one (sx_expr (by rfl) (ev_bm PySem.F.plainAttrs_list PySem.F.slot_list_append PySem.F.type_list_append (by rfl) (by rfl) (by rfl) (by rfl) (by rfl) ?_))
      walk_at "e"
      refine ⟨.inl ⟨rfl, _, SqL.of hp2⟩, ?_⟩
      walk_at "ex"
      refine ⟨a, ns, _, _, rfl, sm12.seq hS, hl, by omega, by omega, by omega, ?_⟩
      have k0 := drawF_nn ns (b + 1 + (i : Int)) (m := ((keptF (leftN cs os) (nameV1 cs) cs.length).length : Int)) (by omega)
      have k1 := drawF_lt ns (b + 1 + (i : Int)) (m := ((keptF (leftN cs os) (nameV1 cs) cs.length).length : Int)) (by omega)
      obtain ⟨k, ek⟩ := Int.eq_ofNat_of_zero_le k0
      rw [ek] at k1 ⊢
      have hk : k < (keptF (leftN cs os) (nameV1 cs) cs.length).length := by omega
      obtain ⟨cc, hcc, ecc, hno⟩ := left_get (List.getElem?_eq_getElem hk)
      refine i_list sqL (atI_nat (by rw [List.getElem?_eq_getElem hk, ecc])) ?_
      walk_at "ex"
      refine ⟨a, ns, _, 2, rfl, sm12.seq hS, hl, by omega, by omega, by decide, ?_⟩
      walk_at "ex"
      refine ⟨by show 2 ≤ sizeLine; omega, fun tp htp => ?_⟩
      generalize decide (V.int (drawF ns (b + 6 + (i : Int)) 2) = V.int 0) = up at htp ⊢
      have smt : Same H2 (upd H2 tp (.tup [.str cc.1, .bl up])) := Same.upd htp
      have etp : (upd H2 tp (.tup [.str cc.1, .bl up])) tp = some (.tup [.str cc.1, .bl up]) := upd_same
      generalize upd H2 tp (.tup [.str cc.1, .bl up]) = H5 at smt etp ⊢
      walk_at "ex"
      have ep5 : H5 p = some (.lst ws) := smt _ _ hp2
      refine mt_by mt_append ⟨p, ws, _, rfl, rfl, ep5, by omega, ?_⟩
      refine ⟨⟨_, _, rfl⟩, fun d o e => ?_, os ++ [(cc.1, up)], ⟨ws ++ [.ref tp], upd_same, All2.app (hws.imp fun u c x => ?_) (.cons ?_ .nil)⟩, by simp [hol], ?_, fun o ho => ?_⟩
      · rw [upd_ne (ne_of_none e hp)]
        exact smt _ _ (sm12 _ _ e)
      · obtain ⟨tq, rfl, hq⟩ := x
        have hne : tq ≠ p := fun e => by subst e; rw [hp'] at hq; cases hq
        exact ⟨tq, rfl, by rw [upd_ne hne]; exact smt _ _ (sm2 _ _ hq)⟩
      · have hne : tp ≠ p := fun e => by subst e; rw [ep5] at etp; cases etp
        exact ⟨tp, rfl, by rw [upd_ne hne]; exact etp⟩
      · rw [List.map_append]
        refine List.nodup_append.mpr ⟨hon, by simp, fun x hx y hy => ?_⟩
        have : y = cc.1 := by simpa using hy
        subst this
        exact fun e => hno (e ▸ hx)
      · rcases List.mem_append.mp ho with ho | ho
        · exact hin o ho
        · have : o = (cc.1, up) := by simpa using ho
          subst this
          exact List.mem_map.mpr ⟨cc, hcc, rfl⟩
  · obtain ⟨⟨o1, o2, rfl⟩, sm, os, hO, hol, hon, hin⟩ := hP
    refine sxs_one (sx_ret ?_)
    walk_at "ex"
    have hol' : os.length = m.toNat := by simpa using hol
    exact q p os H' sm hp hO ⟨by omega, hon, hin⟩
end
end K34

namespace K34
open PySem L2 PyProof.Rows My Vl Lw
section
variable {P : Program} {w : World} {K : PySem.W.Frag} {mg : Str → Option Value} {base : Heap}
theorem placeN_no : ∀ {cs : List Col} {z : Str} {m : Nat} {c : Col}, m < placeN cs z → cs[m]? = some c → ¬ c.1 = z
  | [], _, _, _, h, _ => by simp [placeN] at h
  | d :: r, z, m, c, h, e => by
    unfold placeN at h
    split at h
    · omega
    · rename_i hd
      cases m with
      | zero => simp at e; subst e; exact hd
      | succ m => exact placeN_no (cs := r) (m := m) (by omega) (by simpa using e)
theorem names_at {cs : List Col} {z : Str} (h : ∃ c ∈ cs, c.1 = z) : (cs.map Prod.fst)[placeN cs z]? = some z := by
  obtain ⟨c, e1, e2⟩ := placeN_get h
  rw [List.getElem?_map, e1, ← e2]
  rfl
theorem names_no {cs : List Col} {z : Str} {m : Nat} {y : Str} (h : m < placeN cs z) (e : (cs.map Prod.fst)[m]? = some y) : ¬ y = z := by
  rw [List.getElem?_map] at e
  cases e2 : cs[m]? with
  | none => rw [e2] at e; cases e
  | some c =>
    rw [e2] at e
    have e3 : c.1 = y := by simpa using e
    rw [← e3]
    exact placeN_no h e2
def spKeyL (K : PySem.W.Frag) : Sp := fun vs H Q _ => ∃ (a b v : Addr) (n : Int) (cs : List Col) (os : List Ord) (xs : List V), vs = [.ref a, .ref b, .int n, .ref v] ∧ Cols H a cs ∧ Ords H b os ∧ H v = some (.lst xs) ∧ xs.length = cs.length ∧ cs.length ≤ 1000 ∧ os.length ≤ 1000 ∧ (∀ o ∈ os, ∃ c ∈ cs, c.1 = o.1) ∧
  ∀ p k H', Same H H' → H p = none → H k = none → H' p = some (.tup [.ref k, .int n]) → H' k = some (.lst (keyL cs os xs)) → Q (.ref p) H'
theorem d__law_key (T : Txt K mg) : Def P w K mg base true 1 "_law_key" ["_law_columns_here", "_law_order_here", "_law_row", "_law_values_here"] (spKeyL K) := by
  refine df__law_key T (fun vs H Q E h => by obtain ⟨a, b, v, n, cs, os, xs, rfl, _⟩ := h; rfl) (fun f cdv A outer s H vs Q E hr h => ?_)
  obtain ⟨a, b, v, n, cs, os, xs, rfl, ⟨vs, ha, hvs⟩, ⟨ws, hb, hws⟩, hv, hxl, hcl, hol, hin, q⟩ := h
  have nd := sc__law_key.nd
  have hsz : sizeLine = 16777216 := sizeLine_eq
  have nd1 : (["_law_one"] : List Str).Nodup := by decide +kernel
  have nd3 : (["_law_one", "_law_names", "_law_values_here"] : List Str).Nodup := by decide +kernel
  have hvl := hvs.len
  have hwl := hws.len
  refine sxs_cons ?_
  walk_at "s"
  refine ev_compL ["_law_one"] (σ' := [none]) (by rfl) (by rfl) (compSc_of (defScope s__law_key) (by rfl) (by rfl) (by decide +kernel)) (by intro _; rfl) ?_
  walk_at "e"
  refine ⟨a, vs, rfl, SqL.of ha, by omega, fun τ => ∃ o1, τ = [o1], fun E2 i u H' => ∃ c, cs[i]? = some c ∧ u = .str c.1, ⟨none, rfl⟩, fun E2 i u H2 H3 ys _ _ p => p, fun fp E2 C s3 H0 i τ x H4 H3 hE2 hi hτ sm4 hys hG => ?_, fun L H1 ys hL hl2 hx2 e1 sm1 => ?_⟩
  · obtain ⟨o1, rfl⟩ := hτ
    obtain ⟨hx3, rfl⟩ := hG
    obtain ⟨c, hc, t, rfl, ht⟩ := hvs.get hx3
    refine eg_name nd1 (by rfl) (.inl rfl) (.inr rfl) ?_
    walk_at "ex"
    refine i_tup (SqT.of (sm4 _ _ ht)) (show atI [V.str c.1, V.str c.2] 0 = some (V.str c.1) from rfl) ?_
    exact ⟨⟨_, rfl⟩, ⟨c, hc, rfl⟩, Same.refl _⟩
  have ey := list_of_pi (ys := cs) (fun c => V.str c.1) (by rw [hl2, hvl]) hx2
  have ey2 : ys = (cs.map Prod.fst).map V.str := by rw [ey, List.map_map]; rfl
  subst ey2
  refine sxs_one (sx_ret ?_)
  refine ev_tup (ea_cons (by rfl) ?_)
  refine ev_compL ["_law_one", "_law_names", "_law_values_here"] (σ' := [none, some (.ref L), some (.ref v)]) (by rfl) (by rfl) (compSc_of (defScope s__law_key) (by rfl) (by rfl) (by decide +kernel)) (by intro _; rfl) ?_
  walk_at "e"
  refine ⟨b, ws, rfl, SqL.of (sm1 _ _ hb), by omega, fun τ => ∃ o1, τ = [o1, some (.ref L), some (.ref v)], fun E2 i u H' => ∃ o, os[i]? = some o ∧ u = atN cs xs o.1, ⟨none, rfl⟩, fun E2 i u H2 H3 ys _ _ p => p, fun fp E2 C s3 H0 i τ x H7 H8 hE2 hi hτ sm7 hys hG => ?_, fun D H7 ys hD hl3 hx3 e7 sm7 => ?_⟩
  · obtain ⟨o1, rfl⟩ := hτ
    obtain ⟨hx3, rfl⟩ := hG
    obtain ⟨o, ho, tp, rfl, htp⟩ := hws.get hx3
    have hio := hin o (List.mem_of_getElem? ho)
    have hlt := placeN_lt hio
    have g1 : xs[placeN cs o.1]? = some (atN cs xs o.1) := by
      have e : xs[placeN cs o.1]? = some (xs[placeN cs o.1]'(by omega)) := List.getElem?_eq_getElem _
      unfold atN
      rw [e]
      rfl
    have sm67 := sm1.trans sm7
    have eL7 := sm7 _ _ e1
    refine eg_name nd3 (by rfl) (.inl rfl) (.inr rfl) ?_
    walk_at "e"
    walk_at "e"
    refine ev_bm PySem.F.plainAttrs_list PySem.F.slot_list_index PySem.F.type_list_index (by rfl) (by rfl) (by rfl) (by rfl) (by rfl) ?_
    walk_at "e"
    refine ⟨.inl ⟨rfl, _, SqL.of eL7⟩, ?_⟩
    walk_at "ex"
    refine i_tup (SqT.of (sm67 _ _ htp)) (show atI [V.str o.1, V.bl o.2] 0 = some (V.str o.1) from rfl) ?_
    walk_at "ex"
    refine m_lindex (SqL.of eL7) (names_at hio) (fun m y h e => names_no h e) ?_
    refine i_list (SqL.of (sm67 _ _ hv)) (atI_nat g1) ?_
    exact ⟨⟨_, rfl⟩, ⟨o, ho, rfl⟩, Same.refl _⟩
  have ey := list_of_pi (ys := os) (fun o => atN cs xs o.1) (by rw [hl3, hwl]) hx3
  have ey2 : ys = keyL cs os xs := ey
  subst ey2
  have sm67 := sm1.trans sm7
  walk_at "ex"
  refine ⟨by show 2 ≤ sizeLine; omega, fun p hp => ?_⟩
  have s8 : Same H7 (upd H7 p (.tup [.ref D, .int n])) := Same.upd hp
  exact q p D _ (sm67.trans s8) (sm67.free hp) (sm1.free hD) upd_same (s8 _ _ e7)
end
end K34
namespace K34
open PySem L2 PyProof.Rows My Vl Lw
section
variable {P : Program} {w : World} {K : PySem.W.Frag} {mg : Str → Option Value} {base : Heap}
def spAhead1 : Sp := fun vs H Q _ => ∃ b p q os xs ys n k, vs = [.ref b, .ref p, .ref q] ∧ Ords H b os ∧ KeyAt H p xs n ∧ KeyAt H q ys k ∧ xs.length = os.length ∧ ys.length = os.length ∧ os.length ≤ 6 ∧ (∀ (i : Nat) x y, xs[i]? = some x → ys[i]? = some y → scalar x = true ∧ scalar y = true ∧ like x y) ∧
  Q (.bl (aheadF os xs ys n k)) H
theorem d__law_ahead (T : Txt K mg) : Def P w K mg base true 1 "_law_ahead" ["_law_order_here", "_law_one", "_law_other"] spAhead1 := by
  refine df__law_ahead T (fun vs H Q E h => by obtain ⟨b, p, q, os, xs, ys, n, k, rfl, _⟩ := h; rfl) (fun f cdv A outer s H vs Q E hr h => ?_)
  obtain ⟨b, p, q, os, xs, ys, n, k, rfl, ⟨ws, hb, hws⟩, ⟨l, hp, hl⟩, ⟨m, hq, hm⟩, hxl, hyl, hol, hlike, post⟩ := h
  have nd := sc__law_ahead.nd
  have n1 := T.n_range
  have n2 := T.n_len
  have hsz : sizeLine = 16777216 := sizeLine_eq
  have hwl := hws.len
  have sqb : SqL K H b ws := SqL.of hb
  refine sxs_cons ?_
  refine sx_forR (by walk_at "po") (by rfl) (by rfl) n1 (by rfl) ?_
  walk_at "ex"
  refine ⟨by omega, by omega, fun i σ H' => (∃ o1 o2 o3, σ = [some (.ref b), some (.ref p), some (.ref q), o1, o2, o3]) ∧ H' = H ∧ ∀ j x y, j < i → xs[j]? = some x → ys[j]? = some y → x = y, ⟨⟨none, none, none, rfl⟩, rfl, fun j x y h => by omega⟩, fun i σ H' hi hP => ?_, fun σ H' hP => ?_⟩
  · obtain ⟨⟨o1, o2, o3, rfl⟩, rfl, heq⟩ := hP
    have hi' : i < os.length := by omega
    have ho : os[i]? = some os[i] := List.getElem?_eq_getElem hi'
    have hx : xs[i]? = some (xs[i]'(by omega)) := List.getElem?_eq_getElem _
    have hy : ys[i]? = some (ys[i]'(by omega)) := List.getElem?_eq_getElem _
    generalize xs[i]'(by omega) = x at hx
    generalize ys[i]'(by omega) = y at hy
    obtain ⟨wv, gw, t, rfl, ht⟩ := hws.get' ho
    obtain ⟨sx, sy, hlk⟩ := hlike i x y hx hy
    generalize os[i] = o at ho ht
    refine eg_name nd (by rfl) (.inl rfl) (.inl rfl) ?_
    refine sxs_cons ?_
    walk_at "s"
    walk_at "ex"
    refine i_tup (SqT.of hp) (show atI [V.ref l, V.int n] 0 = some (V.ref l) from rfl) ?_
    walk_at "ex"
    refine i_list (SqL.of hl) (atI_nat hx) ?_
    refine sxs_cons ?_
    walk_at "s"
    walk_at "ex"
    refine i_tup (SqT.of hq) (show atI [V.ref m, V.int k] 0 = some (V.ref m) from rfl) ?_
    walk_at "ex"
    refine i_list (SqL.of hm) (atI_nat hy) ?_
    have next : x = y → ∀ j x' y', j < i + 1 → xs[j]? = some x' → ys[j]? = some y' → x' = y' := fun he j x' y' hj e1 e2 => by
      by_cases e : j = i
      · subst e
        rw [hx] at e1; rw [hy] at e2
        cases e1; cases e2
        exact he
      · exact heq j x' y' (by omega) e1 e2
    have e2 : ¬ x = y → ∀ c : Bool, c = before x y → decide (V.bl c = V.bl o.2) = aheadF os xs ys n k := fun hne c ec => by
      rw [aheadF_hit (n := n) (k := k) hxl hyl ho hx hy heq hne, ec]
      congr 1
      exact propext ⟨fun z => by injection z, fun z => by rw [z]⟩
    have fin : ¬ x = y → ∀ (c : Bool), c = before x y → Q (.bl (decide (V.bl c = V.bl o.2))) H' := fun hne c ec => by rw [e2 hne c ec]; exact post
    refine sxs_cons (sx_if ?_)
    cases x with
    | non =>
      cases y with
      | non =>
        walk_at "ex"
        refine sxs_one (sx_cont ?_)
        exact ⟨⟨_, _, _, rfl⟩, rfl, next rfl⟩
      | int j =>
        walk_at "ex"
        refine sxs_nil (sxs_cons (sx_if ?_))
        walk_at "ex"
        refine sxs_one (sx_ret ?_)
        walk_at "go"
        refine i_list sqb (atI_nat gw) ?_
        walk_at "go"
        refine i_tup (SqT.of ht) (show atI [V.str o.1, V.bl o.2] 1 = some (V.bl o.2) from rfl) ?_
        walk_at "go"
        exact fin nofun _ rfl
      | str z =>
        walk_at "ex"
        refine sxs_nil (sxs_cons (sx_if ?_))
        walk_at "ex"
        refine sxs_one (sx_ret ?_)
        walk_at "go"
        refine i_list sqb (atI_nat gw) ?_
        walk_at "go"
        refine i_tup (SqT.of ht) (show atI [V.str o.1, V.bl o.2] 1 = some (V.bl o.2) from rfl) ?_
        walk_at "go"
        exact fin nofun _ rfl
      | _ => exact absurd sy Bool.false_ne_true
    | int i1 =>
      cases y with
      | non =>
        walk_at "ex"
        refine sxs_nil (sxs_cons (sx_if ?_))
        walk_at "ex"
        refine sxs_one (sx_ret ?_)
        walk_at "go"
        refine i_list sqb (atI_nat gw) ?_
        walk_at "go"
        refine i_tup (SqT.of ht) (show atI [V.str o.1, V.bl o.2] 1 = some (V.bl o.2) from rfl) ?_
        walk_at "go"
        exact fin nofun _ rfl
      | int j =>
        walk_at "ex"
        refine sxs_nil (sxs_cons (sx_if ?_))
        walk_at "ex"
        refine sxs_nil (sxs_one (sx_if ?_))
        walk_at "ex"
        refine ifN (fun h => ?_) (fun h => ?_)
        · refine sxs_one (sx_ret ?_)
          walk_at "go"
          refine i_list sqb (atI_nat gw) ?_
          walk_at "go"
          refine i_tup (SqT.of ht) (show atI [V.str o.1, V.bl o.2] 1 = some (V.bl o.2) from rfl) ?_
          walk_at "go"
          exact fin h _ rfl
        · exact sxs_nil ⟨⟨_, _, _, rfl⟩, rfl, next h⟩
      | str z => rcases hlk with z | z | ⟨_, _, _, z⟩ | ⟨_, _, z, _⟩ <;> cases z
      | _ => exact absurd sy Bool.false_ne_true
    | str z1 =>
      cases y with
      | non =>
        walk_at "ex"
        refine sxs_nil (sxs_cons (sx_if ?_))
        walk_at "ex"
        refine sxs_one (sx_ret ?_)
        walk_at "go"
        refine i_list sqb (atI_nat gw) ?_
        walk_at "go"
        refine i_tup (SqT.of ht) (show atI [V.str o.1, V.bl o.2] 1 = some (V.bl o.2) from rfl) ?_
        walk_at "go"
        exact fin nofun _ rfl
      | int j => rcases hlk with z | z | ⟨_, _, z, _⟩ | ⟨_, _, _, z⟩ <;> cases z
      | str z =>
        walk_at "ex"
        refine sxs_nil (sxs_cons (sx_if ?_))
        walk_at "ex"
        refine sxs_nil (sxs_one (sx_if ?_))
        walk_at "ex"
        refine ifN (fun h => ?_) (fun h => ?_)
        · refine sxs_one (sx_ret ?_)
          walk_at "go"
          refine i_list sqb (atI_nat gw) ?_
          walk_at "go"
          refine i_tup (SqT.of ht) (show atI [V.str o.1, V.bl o.2] 1 = some (V.bl o.2) from rfl) ?_
          walk_at "go"
          exact fin h _ rfl
        · exact sxs_nil ⟨⟨_, _, _, rfl⟩, rfl, next h⟩
      | _ => exact absurd sy Bool.false_ne_true
    | _ => exact absurd sx Bool.false_ne_true
  · obtain ⟨⟨o1, o2, o3, rfl⟩, rfl, heq⟩ := hP
    refine sxs_one (sx_ret ?_)
    walk_at "ex"
    refine i_tup (SqT.of hp) (show atI [V.ref l, V.int n] 1 = some (V.int n) from rfl) ?_
    walk_at "ex"
    refine i_tup (SqT.of hq) (show atI [V.ref m, V.int k] 1 = some (V.int k) from rfl) ?_
    walk_at "ex"
    rw [← aheadF_end (n := n) (k := k) hxl hyl fun j x y hj e1 e2 => heq j x y (by simp; omega) e1 e2]
    exact post
end
end K34

namespace K34
open PySem L2 PyProof.Rows My Vl Lw
section
variable {P : Program} {w : World} {K : PySem.W.Frag} {mg : Str → Option Value} {base : Heap}
/-! rows drawn, their numbers unlike -/
theorem mul_pick {d : Int} (h0 : 0 ≤ d) (h1 : d < 3) : ∃ mu : Int, atI [V.int 1, V.int 1, V.int 33333333] d = some (.int mu) ∧ (mu = 1 ∨ mu = 33333333) := by
  by_cases e0 : d = 0
  · exact ⟨1, by rw [e0]; rfl, .inl rfl⟩
  · by_cases e1 : d = 1
    · exact ⟨1, by rw [e1]; rfl, .inl rfl⟩
    · exact ⟨33333333, by rw [show d = 2 by omega]; rfl, .inr rfl⟩
def spRowsL (K : PySem.W.Frag) : Sp := fun vs H Q _ => ∃ (a : Addr) (ns : List Int) (k : Int) (c : Addr) (cs : List Col) (m : Int), vs = [.ref a, .int k, .ref c, .int m] ∧ SqL K H a (ns.map V.int) ∧ ns.length ≤ 63 ∧ 0 ≤ k ∧ k ≤ 10000 ∧ 0 ≤ m ∧ m ≤ 60 ∧ Cols H c cs ∧ cs.length ≤ 6 ∧
  ∀ p ws rs H', Same H H' → H p = none → H' p = some (.lst ws) → All2 (RowFr p H H') ws rs → (rs.map Prod.fst).Nodup → (∀ r ∈ rs, fitK cs r) → (rs.length : Int) ≤ m → (∀ r ∈ rs, 0 ≤ r.1 ∧ r.1 ≤ 1000000000) → Q (.ref p) H'
theorem d__law_rows (T : Txt K mg) : Def P w K mg base true 4 "_law_rows" ["_law_script", "_law_base", "_law_columns_here", "_law_many"] (spRowsL K) := by
  refine df__law_rows T (fun vs H Q E h => by obtain ⟨a, ns, k, c, cs, m, rfl, _⟩ := h; rfl) (fun f cdv A outer s H vs Q E hr h => ?_)
  obtain ⟨a, ns, k, c, cs, m, rfl, hS, hl, hk0, hk1, hm0, hm1, hC, hc6, q⟩ := h
  have nd := sc__law_rows.nd
  have n1 := T.n_range
  have hu1 := Nat.lt_of_le_of_lt (Nat.add_le_add_left (show 1 ≤ 64 by decide) _) hr.units
  have hsz : sizeLine = 16777216 := sizeLine_eq
  have D1 : Def P w K mg base true 1 "_law_draw" ["_law_script", "_law_k", "_law_many"] (spDraw K) := d__law_draw T
  have D2 : Def P w K mg base true 3 "_law_values" ["_law_script", "_law_k", "_law_columns_here"] (spValues1 K) := d__law_values T
  refine sxs_cons ?_
  walk_at "s"
  walk_at "ex"
  refine ⟨by show 0 ≤ sizeLine; omega, fun p hp => ?_⟩
  have s1 : Same H (upd H p (.lst [])) := Same.upd hp
  have e1 : (upd H p (.lst [])) p = some (.lst []) := upd_same
  generalize upd H p (.lst []) = H1 at s1 e1 ⊢
  refine sxs_cons ?_
  walk_at "s"
  refine ev_dnew fun d hd => ?_
  have hd0 : H d = none := s1.free hd
  have hdp : p ≠ d := ne_of_none e1 hd
  have s2 : Same H1 (upd H1 d (.dK [])) := Same.upd hd
  have e2 : (upd H1 d (.dK [])) d = some (.dK []) := upd_same
  have ep2 : (upd H1 d (.dK [])) p = some (.lst []) := s2 _ _ e1
  generalize upd H1 d (.dK []) = H2 at s2 e2 ep2 ⊢
  refine sxs_cons ?_
  refine sx_forR (by walk_at "po") (by rfl) (by rfl) n1 (by rfl) ?_
  walk_at "ex"
  refine ⟨by omega, by omega, fun i σ H' => (∃ o6 o7, σ = [some (.ref a), some (.int k), some (.ref c), some (.int m), some (.ref p), some (.ref d), o6, o7]) ∧ Same H H' ∧ ∃ ws rs kvs, H' p = some (.lst ws) ∧ H' d = some (.dK kvs) ∧ All2 (RowFr p H H') ws rs ∧ kvs.map (·.1) = (rs.map Prod.fst).map Sum.inl ∧ (rs.map Prod.fst).Nodup ∧ (∀ r ∈ rs, fitK cs r) ∧ rs.length ≤ i ∧ (∀ r ∈ rs, 0 ≤ r.1 ∧ r.1 ≤ 1000000000),
    ⟨⟨none, none, rfl⟩, s1.trans s2, [], [], [], ep2, e2, .nil, rfl, List.nodup_nil, by simp, by simp, by simp⟩, fun i σ H' hi hP => ?_, fun σ H' hP => ?_⟩
  · obtain ⟨⟨o6, o7, rfl⟩, sm, ws, rs, kvs, ep, ed, hA, hk, hnd, hfit, hlen, hnum⟩ := hP
    have hwl := hA.len
    have hkl : kvs.length = rs.length := by
      have := congrArg List.length hk
      simpa using this
    refine eg_name nd (by rfl) (.inl rfl) (.inl rfl) ?_
    refine sxs_cons ?_
    walk_at "s"
    walk_at "ex"
    refine ⟨a, ns, _, 30, rfl, sm.seq hS, hl, by omega, by omega, by decide, ?_⟩
    have r0 := drawF_nn ns (k + 3 * i) (m := 30) (by decide)
    have r1 := drawF_lt ns (k + 3 * i) (m := 30) (by decide)
    generalize drawF ns (k + 3 * i) 30 = dr at r0 r1 ⊢
    walk_at "ex"
    refine ⟨by show 3 ≤ sizeLine; omega, fun y hy => ?_⟩
    have sy : Same H' (upd H' y (.lst [.int 1, .int 1, .int 33333333])) := Same.upd hy
    have ey : (upd H' y (.lst [.int 1, .int 1, .int 33333333])) y = some (.lst [.int 1, .int 1, .int 33333333]) := upd_same
    generalize upd H' y (.lst [.int 1, .int 1, .int 33333333]) = H3 at sy ey ⊢
    walk_at "ex"
    refine ⟨a, ns, _, 3, rfl, sy.seq (sm.seq hS), hl, by omega, by omega, by decide, ?_⟩
    obtain ⟨mu, em, hmu⟩ := mul_pick (drawF_nn ns (k + 3 * i + 1) (m := 3) (by decide)) (drawF_lt ns (k + 3 * i + 1) (m := 3) (by decide))
    refine i_list (SqL.of ey) em ?_
    walk_at "ex"
    have hrow : 0 ≤ dr * mu ∧ dr * mu ≤ 1000000000 := by
      rcases hmu with rfl | rfl <;> omega
    generalize dr * mu = row at hrow ⊢
    have sm3 := sm.trans sy
    refine sxs_one (sx_if ?_)
    walk_at "ex"
    refine o_ninD hu1 (DGet.k (k := Sum.inl row) (sy _ _ ed)) ?_
    cases hv : valV kvs (Sum.inl row) with
    | some v =>
      rw [show (!(some v : Option V).isSome) = false from rfl]
      walk_at "ex"
      refine sxs_nil ⟨⟨_, _, rfl⟩, sm3, ws, rs, kvs, sy _ _ ep, sy _ _ ed, hA.imp fun u r z => z.same sy, hk, hnd, hfit, by omega, hnum⟩
    | none =>
      rw [show (!(none : Option V).isSome) = true from rfl]
      walk_at "ex"
      have hnew : row ∉ rs.map Prod.fst := fun h => by
        refine valV_not hv ?_
        rw [hk]
        exact List.mem_map.mpr ⟨row, h, rfl⟩
      refine sxs_cons (sx_dput hu1 (by rfl) ?_)
      walk_at "ex"
      refine ⟨d, _, rfl, DPut.k (k := Sum.inl row) (sy _ _ ed) (by omega), ?_⟩
      rw [putK_new _ hv]
      have s4 : Same H (upd H3 d (.dK (kvs ++ [(Sum.inl row, .bl true)]))) := fun e u he => by
        rw [upd_ne (ne_of_none he hd0)]
        exact sm3 _ _ he
      have ed4 : (upd H3 d (.dK (kvs ++ [(Sum.inl row, .bl true)]))) d = some (.dK (kvs ++ [(Sum.inl row, .bl true)])) := upd_same
      have ep4 : (upd H3 d (.dK (kvs ++ [(Sum.inl row, .bl true)]))) p = some (.lst ws) := by
        rw [upd_ne hdp]
        exact sy _ _ ep
      have hA4 : All2 (RowFr p H (upd H3 d (.dK (kvs ++ [(Sum.inl row, .bl true)])))) ws rs := hA.imp fun u r z => by
        obtain ⟨t, l, e, a1, a2, a3, a4, a5⟩ := z.same sy
        refine ⟨t, l, e, a1, a2, a3, ?_, ?_⟩
        · rw [upd_ne (fun z => by rw [z, sy _ _ ed] at a4; cases a4)]; exact a4
        · rw [upd_ne (fun z => by rw [z, sy _ _ ed] at a5; cases a5)]; exact a5
      generalize upd H3 d (.dK (kvs ++ [(Sum.inl row, .bl true)])) = H4 at s4 ed4 ep4 hA4 ⊢
      refine sxs_one (sx_expr (by rfl) (ev_bm PySem.F.plainAttrs_list PySem.F.slot_list_append PySem.F.type_list_append (by rfl) (by rfl) (by rfl) (by rfl) (by rfl) ?_))
      walk_at "ex"
      refine ⟨.inl ⟨rfl, _, SqL.of ep4⟩, ?_⟩
      walk_at "ex"
      refine ⟨a, ns, _, c, cs, rfl, s4.seq hS, hl, by omega, by omega, hC.same s4, hc6, fun l xs H5 s5 hl0 hl5 hxs => ?_⟩
      walk_at "ex"
      refine ⟨by show 2 ≤ sizeLine; omega, fun t ht => ?_⟩
      have s6 : Same H5 (upd H5 t (.tup [.int row, .ref l])) := Same.upd ht
      have et : (upd H5 t (.tup [.int row, .ref l])) t = some (.tup [.int row, .ref l]) := upd_same
      generalize upd H5 t (.tup [.int row, .ref l]) = H6 at s6 et ⊢
      have s46 := s5.trans s6
      walk_at "ex"
      refine mt_by mt_append ⟨p, ws, _, rfl, rfl, s46 _ _ ep4, by omega, ?_⟩
      have hlp : l ≠ p := fun z => by rw [z, ep4] at hl0; cases hl0
      refine ⟨⟨_, _, rfl⟩, fun e u he => ?_, ws ++ [.ref t], rs ++ [(row, xs)], kvs ++ [(Sum.inl row, .bl true)], upd_same, ?_, All2.app (hA4.imp fun u r z => ?_) (.cons ⟨t, l, rfl, (s4.trans s5).free ht, s4.free hl0, hlp, ?_, ?_⟩ .nil), ?_, ?_, fun r hr => ?_, by simp; omega, fun r hr => ?_⟩
      · rw [upd_ne (ne_of_none he hp)]
        exact s46 _ _ (s4 _ _ he)
      · rw [upd_ne (Ne.symm hdp)]
        exact s46 _ _ ed4
      · obtain ⟨t', l', e, a1, a2, a3, a4, a5⟩ := z.same s46
        refine ⟨t', l', e, a1, a2, a3, ?_, ?_⟩
        · rw [upd_ne (fun z => by rw [z, s46 _ _ ep4] at a4; cases a4)]; exact a4
        · rw [upd_ne a3]; exact a5
      · rw [upd_ne (fun z => by rw [z, s46 _ _ ep4] at et; cases et)]; exact et
      · rw [upd_ne hlp]; exact s6 _ _ hl5
      · rw [List.map_append, List.map_append, List.map_append, hk]
        rfl
      · rw [List.map_append, List.nodup_append]
        refine ⟨hnd, by simp, fun x hx y hy e => ?_⟩
        have ey : y = row := by simpa using hy
        rw [e, ey] at hx
        exact hnew hx
      · rcases List.mem_append.mp hr with h | h
        · exact hfit r h
        · cases List.mem_singleton.mp h
          exact hxs
      · rcases List.mem_append.mp hr with h | h
        · exact hnum r h
        · cases List.mem_singleton.mp h
          exact hrow
  · obtain ⟨⟨o6, o7, rfl⟩, sm, ws, rs, kvs, ep, ed, hA, hk, hnd, hfit, hlen, hnum⟩ := hP
    refine sxs_one (sx_ret ?_)
    walk_at "ex"
    exact q p ws rs H' sm hp ep hA hnd hfit (by omega) hnum
end
end K34

namespace K34
open PySem L2 PyProof.Rows My Vl Lw
section
variable {P : Program} {w : World} {K : PySem.W.Frag} {mg : Str → Option Value} {base : Heap}
abbrev pDue : Str := Str.ofString "_law_due"
end
end K34
namespace K34
open PySem L2 PyProof.Rows My Vl Lw
section
variable {P : Program} {w : World} {K : PySem.W.Frag} {mg : Str → Option Value} {base : Heap}
def flat1 (v : V) : Prop := v = .non ∨ (∃ i, v = .int i) ∨ ∃ z, v = .str z ∧ z.length ≤ 4000
theorem valK.flat {kd : Str} {v : V} (h : valK kd v) : flat1 v := by
  rcases h with rfl | ⟨_, i, rfl, _⟩ | ⟨_, z, rfl, hl, _⟩
  · exact .inl rfl
  · exact .inr (.inl ⟨i, rfl⟩)
  · exact .inr (.inr ⟨z, rfl, by omega⟩)
end
end K34
namespace K34
open PySem L2 PyProof.Rows My Vl Lw
section
variable {P : Program} {w : World} {K : PySem.W.Frag} {mg : Str → Option Value} {base : Heap}
def spIsWholeL : Sp := fun vs H Q _ => ∃ i : Int, vs = [.int i, .int i] ∧ Q (.bl true) H
theorem d__law_is_whole (T : Txt K mg) : Def P w K mg base true 1 "_law_is_whole" ["_law_found", pDue] spIsWholeL := by
  refine df__law_is_whole T (fun vs H Q E h => by obtain ⟨i, rfl, _⟩ := h; rfl) (fun f cdv A outer s H vs Q E hr h => ?_)
  obtain ⟨i, rfl, q⟩ := h
  have n1 := T.n_isinstance
  have n2 := T.n_int
  have n3 := T.n_bool
  refine sxs_one (sx_ret ?_)
  walk_at "go"
  rw [decide_eq_true rfl]
  exact q
def spSame1 (K : PySem.W.Frag) : Sp := fun vs H Q _ => ∃ (a b : Addr) (xs : List V), vs = [.ref a, .ref b] ∧ H a = some (.lst xs) ∧ H b = some (.lst xs) ∧ xs.length ≤ 1000 ∧ (∀ x ∈ xs, flat1 x) ∧ Q (.bl true) H
theorem d__law_same (T : Txt K mg) : Def P w K mg base true 1 "_law_same" ["_law_found", pDue] (spSame1 K) := by
  refine df__law_same T (fun vs H Q E h => by obtain ⟨a, b, xs, rfl, _⟩ := h; rfl) (fun f cdv A outer s H vs Q E hr h => ?_)
  obtain ⟨a, b, xs, rfl, ha, hb, hl, hf, q⟩ := h
  have nd := sc__law_same.nd
  have n1 := T.n_isinstance
  have n2 := T.n_list
  have n3 := T.n_len
  have n4 := T.n_range
  have n5 := T.n_bool
  have hsz : sizeLine = 16777216 := sizeLine_eq
  have sa : SqL K H a xs := SqL.of ha
  have sb : SqL K H b xs := SqL.of hb
  refine sxs_cons ?_
  walk_at "go"
  refine is_list_list ha ?_
  walk_at "go"
  refine ifN (fun h2 => ?_) (fun h2 => ?_)
  · exact absurd rfl h2
  refine sxs_nil (sxs_cons ?_)
  refine sx_forR (by walk_at "po") (by rfl) (by rfl) n4 (by rfl) ?_
  walk_at "go"
  refine ⟨by omega, by omega, fun i σ H' => (∃ o2, σ = [some (.ref a), some (.ref b), o2]) ∧ H' = H, ⟨⟨none, rfl⟩, rfl⟩, fun i σ H' hi hP => ?_, fun σ H' hP => ?_⟩
  · obtain ⟨⟨o2, rfl⟩, rfl⟩ := hP
    have hi' : i < xs.length := by simpa using hi
    have hg : xs[i]? = some xs[i] := List.getElem?_eq_getElem hi'
    have hx := hf xs[i] (List.getElem_mem hi')
    generalize xs[i] = x at hg hx
    refine eg_name nd (by rfl) (.inl rfl) (.inl rfl) ?_
    refine sxs_one ?_
    walk_at "go"
    refine i_list sa (atI_nat hg) ?_
    rcases hx with rfl | ⟨j, rfl⟩ | ⟨z, rfl, hz⟩
    · walk_at "go"
      refine i_list sa (atI_nat hg) ?_
      walk_at "go"
      refine i_list sb (atI_nat hg) ?_
      walk_at "go"
      refine i_list sa (atI_nat hg) ?_
      walk_at "go"
      refine i_list sb (atI_nat hg) ?_
      walk_at "go"
      exact ⟨⟨_, rfl⟩, rfl⟩
    · walk_at "go"
      refine i_list sa (atI_nat hg) ?_
      walk_at "go"
      refine i_list sa (atI_nat hg) ?_
      walk_at "go"
      refine i_list sb (atI_nat hg) ?_
      walk_at "go"
      refine ifN (fun h2 => ?_) (fun h2 => ?_)
      · exact absurd rfl h2
      · exact sxs_nil ⟨⟨_, rfl⟩, rfl⟩
    · walk_at "go"
      refine i_list sa (atI_nat hg) ?_
      walk_at "go"
      refine i_list sa (atI_nat hg) ?_
      walk_at "go"
      refine i_list sb (atI_nat hg) ?_
      walk_at "go"
      refine ifN (fun h2 => ?_) (fun h2 => ?_)
      · exact absurd rfl h2
      · exact sxs_nil ⟨⟨_, rfl⟩, rfl⟩
  · obtain ⟨⟨o2, rfl⟩, rfl⟩ := hP
    walk_at "go"
    exact q
end
end K34

namespace K34
open PySem L2 PyProof.Rows My Vl Lw
section
variable {P : Program} {w : World} {K : PySem.W.Frag} {mg : Str → Option Value} {base : Heap}
def RowT (H : Hp) (v : V) (p : Int × List V) : Prop := ∃ t l, v = .ref t ∧ H t = some (.tup [.int p.1, .ref l]) ∧ H l = some (.lst p.2)
def flatRow (p : Int × List V) : Prop := p.2.length ≤ 1000 ∧ ∀ x ∈ p.2, flat1 x
def spSameRows (K : PySem.W.Frag) : Sp := fun vs H Q _ => ∃ (a b : Addr) (ys zs : List V) (rs : List (Int × List V)), vs = [.ref a, .ref b] ∧ H a = some (.lst ys) ∧ H b = some (.lst zs) ∧ All2 (RowT H) ys rs ∧ All2 (RowT H) zs rs ∧ rs.length ≤ 1000 ∧ (∀ p ∈ rs, flatRow p) ∧ Q (.bl true) H
theorem d__law_same_rows (T : Txt K mg) : Def P w K mg base true 2 "_law_same_rows" ["_law_found", pDue] (spSameRows K) := by
  refine df__law_same_rows T (fun vs H Q E h => by obtain ⟨a, b, ys, zs, rs, rfl, _⟩ := h; rfl) (fun f cdv A outer s H vs Q E hr h => ?_)
  obtain ⟨a, b, ys, zs, rs, rfl, ha, hb, hA, hB, hl, hf, q⟩ := h
  have nd := sc__law_same_rows.nd
  have n1 := T.n_isinstance
  have n2 := T.n_list
  have n3 := T.n_len
  have n4 := T.n_range
  have n5 := T.n_tuple
  have D1 : Def P w K mg base true 1 "_law_same" ["_law_found", pDue] (spSame1 K) := d__law_same T
  have D2 : Def P w K mg base true 1 "_law_is_whole" ["_law_found", pDue] spIsWholeL := d__law_is_whole T
  have hsz : sizeLine = 16777216 := sizeLine_eq
  have sa : SqL K H a ys := SqL.of ha
  have sb : SqL K H b zs := SqL.of hb
  have l1 := hA.len
  have l2 := hB.len
  have hyz : (ys.length : Int) = (zs.length : Int) := by omega
  refine sxs_cons ?_
  walk_at "go"
  refine is_list_list ha ?_
  walk_at "go"
  refine ifN (fun h2 => ?_) (fun h2 => ?_)
  · exact absurd (by rw [hyz]) h2
  refine sxs_nil (sxs_cons ?_)
  refine sx_forR (by walk_at "po") (by rfl) (by rfl) n4 (by rfl) ?_
  walk_at "go"
  refine ⟨by omega, by omega, fun i σ H' => (∃ o2, σ = [some (.ref a), some (.ref b), o2]) ∧ H' = H, ⟨⟨none, rfl⟩, rfl⟩, fun i σ H' hi hP => ?_, fun σ H' hP => ?_⟩
  · obtain ⟨⟨o2, rfl⟩, rfl⟩ := hP
    have hi' : i < zs.length := by simpa using hi
    have hir : i < rs.length := by omega
    have hg : rs[i]? = some rs[i] := List.getElem?_eq_getElem hir
    have hfl := hf rs[i] (List.getElem_mem hir)
    generalize rs[i] = p at hg hfl
    obtain ⟨y, gy, t, l, rfl, ht, hlst⟩ := hA.get' hg
    obtain ⟨z, gz, t2, m, rfl, ht2, hm⟩ := hB.get' hg
    have st : SqT K H' t [.int p.1, .ref l] := SqT.of ht
    have st2 : SqT K H' t2 [.int p.1, .ref m] := SqT.of ht2
    have e0 : ∀ x, atI [V.int p.1, .ref x] 0 = some (.int p.1) := fun _ => rfl
    have e1 : ∀ x, atI [V.int p.1, .ref x] 1 = some (.ref x) := fun _ => rfl
    refine eg_name nd (by rfl) (.inl rfl) (.inl rfl) ?_
    refine sxs_cons ?_
    walk_at "go"
    refine i_list sa (atI_nat gy) ?_
    walk_at "go"
    refine is_tuple_tuple ht ?_
    walk_at "go"
    refine i_list sa (atI_nat gy) ?_
    walk_at "go"
    refine c_len (.inr st) ?_
    walk_at "go"
    refine ifN (fun h2 => ?_) (fun h2 => ?_)
    · exact absurd rfl h2
    refine sxs_nil ?_
    walk_at "go"
    refine i_list sa (atI_nat gy) ?_
    walk_at "go"
    refine i_tup st (e0 l) ?_
    walk_at "go"
    refine i_list sb (atI_nat gz) ?_
    walk_at "go"
    refine i_tup st2 (e0 m) ?_
    walk_at "go"
    refine ⟨p.1, rfl, ?_⟩
    walk_at "go"
    refine i_list sa (atI_nat gy) ?_
    walk_at "go"
    refine i_tup st (e1 l) ?_
    walk_at "go"
    refine i_list sb (atI_nat gz) ?_
    walk_at "go"
    refine i_tup st2 (e1 m) ?_
    walk_at "go"
    refine ⟨l, m, p.2, rfl, hlst, hm, hfl.1, hfl.2, ?_⟩
    walk_at "go"
    exact ⟨⟨_, rfl⟩, rfl⟩
  · obtain ⟨⟨o2, rfl⟩, rfl⟩ := hP
    walk_at "go"
    exact q
end
end K34

namespace K34
open PySem L2 PyProof.Rows My Vl Lw
section
variable {P : Program} {w : World} {K : PySem.W.Frag} {mg : Str → Option Value} {base : Heap}
/-! the law's own check of a line -/
theorem pair_eq : ∀ {l m : List Row}, l.Perm m → l.Pairwise (fun a b => a.1 < b.1) → m.Pairwise (fun a b => a.1 < b.1) → l = m
  | [], m, h, _, _ => (List.Perm.nil_eq h)
  | a :: l, [], h, _, _ => absurd h.length_eq (by simp)
  | a :: l, b :: m, h, h1, h2 => by
    have h1' := List.pairwise_cons.mp h1
    have h2' := List.pairwise_cons.mp h2
    have e : a = b := by
      have ha : a ∈ b :: m := h.mem_iff.mp (by simp)
      have hb : b ∈ a :: l := h.mem_iff.mpr (by simp)
      rcases List.mem_cons.mp ha with e | ha
      · exact e
      · rcases List.mem_cons.mp hb with e | hb
        · exact e.symm
        · have := h1'.1 b hb
          have := h2'.1 a ha
          omega
    subst e
    rw [pair_eq (List.Perm.cons_inv h) h1'.2 h2'.2]
theorem line_lt {cs : List Col} {rs : List Row} (h : Line cs [] rs) : rs.Pairwise (fun a b => a.1 < b.1) := h.imp fun {a b} e => of_decide_eq_true e
theorem d__law_number (T : Txt K mg) : Def P w K mg base true 1 "_law_number" ["_law_row"] (spNumberOf K) := by
  refine df__law_number T (fun vs H Q E h => by obtain ⟨t, n, x, rfl, _⟩ := h; rfl) (fun f cdv A outer s H vs Q E hr h => ?_)
  obtain ⟨t, n, x, rfl, ht, q⟩ := h
  refine sxs_one (sx_ret ?_)
  walk_at "ex"
  refine i_tup (SqT.of ht) (show atI [V.int n, x] 0 = some (V.int n) from rfl) ?_
  exact q
def spRight4 (K : PySem.W.Frag) : Sp := fun vs H Q _ => ∃ (c b p g : Addr) (cs : List Col) (os : List Ord) (rs ls : List Row), vs = [.ref c, .ref b, .ref p, .ref g] ∧ Cols H c cs ∧ Ords H b os ∧ Rws H p rs ∧ Rws H g ls ∧ cs.length ≤ 6 ∧ os.length ≤ 6 ∧ inC cs os ∧ rs.length < 64 ∧ (∀ r ∈ rs, fitK cs r) ∧ (rs.map Prod.fst).Nodup ∧ ls.Perm rs ∧ Line cs os ls ∧ ∀ H', Same H H' → Q (.bl true) H'
theorem d__law_right (T : Txt K mg) : Def P w K mg base true 6 "_law_right" ["_law_columns_here", "_law_order_here", "_law_rows_here", "_law_found"] (spRight4 K) := by
  refine df__law_right T (fun vs H Q E h => by obtain ⟨c, b, p, g, cs, os, rs, ls, rfl, _⟩ := h; rfl) (fun f cdv A outer s H vs Q E hr h => ?_)
  obtain ⟨c, b, p, g, cs, os, rs, ls, rfl, hC, hO, ⟨ws, hp, hws⟩, ⟨gw, hg, hgw⟩, hc6, ho6, hin, h64, hfit, hnd, hperm, hL, q⟩ := h
  have nd := sc__law_right.nd
  have n1 := T.n_sorted
  have n2 := T.n_len
  have n3 := T.n_range
  have n4 := T.n_isinstance
  have n5 := T.n_list
  have hsz : sizeLine = 16777216 := sizeLine_eq
  have hwl := hws.len
  have hgl := hgw.len
  have hll : ls.length = rs.length := hperm.length_eq
  have sqp : SqL K H p ws := SqL.of hp
  have sqg : SqL K H g gw := SqL.of hg
  have hfitL : ∀ r ∈ ls, fitK cs r := fun r hr => hfit r (hperm.mem_iff.mp hr)
  have hndL : (ls.map Prod.fst).Nodup := (hperm.map Prod.fst).nodup_iff.mpr hnd
  have D1 : Def P w K mg base true 1 "_law_number" ["_law_row"] (spNumberOf K) := d__law_number T
  have D2 : Def P w K mg base true 2 "_law_same_rows" ["_law_found", pDue] (spSameRows K) := d__law_same_rows T
  have D3 : Def P w K mg base true 1 "_law_key" ["_law_columns_here", "_law_order_here", "_law_row", "_law_values_here"] (spKeyL K) := d__law_key T
  have D4 : Def P w K mg base true 1 "_law_ahead" ["_law_order_here", "_law_one", "_law_other"] spAhead1 := d__law_ahead T
  have keyed : ∀ (σ : L2.St) (H1 : Hp) (xs : List V) (rs : List Row), All2 (RowAt H1) xs rs → ∃ fa : Addr, mg "_law_number" = some (.ref fa) ∧ KeyV (CxF true P w K mg base N__law_right "_law_right" (defScope s__law_right) f cdv A outer s H E) σ (.ref fa) xs H1 (KInt fun i => (rs.getD i (0, [])).1) := fun σ H1 xs rs h =>
    keyV_def (X := CxF true P w K mg base N__law_right "_law_right" (defScope s__law_right) f cdv A outer s H E) D1 (hr.mono (show 1 + 2 ≤ 5 by decide)) (fun i v H H' _ h => h) (fun i x H' hx sm => by
      obtain ⟨r, hr, t, l, rfl, ht, hl⟩ := h.get hx
      refine ⟨t, r.1, .ref l, rfl, sm _ _ ht, Same.refl _, ?_⟩
      show V.int r.1 = V.int (rs.getD i (0, [])).1
      rw [List.getD_eq_getElem?_getD, hr]
      rfl)
  refine sxs_cons (sx_if ?_)
  walk_at "ex"
  refine is_list_list hg ?_
  walk_at "ex"
  refine ifN (fun h => absurd (by rw [hgl, hwl, hll]) h) (fun _ => ?_)
  refine sxs_nil (sxs_cons (sx_if ?_))
  walk_at "ex"
  refine ev_sortK (by rfl) n1 (by rfl) ?_
  walk_at "e"
  obtain ⟨fa, hfa, hKV⟩ := keyed [some (.ref c), some (.ref b), some (.ref p), some (.ref g), none, none] H gw ls hgw
  refine ev_gfn hfa (by rfl) (by decide) ?_
  refine ⟨g, fa, gw, _, _, rfl, rfl, sqg, by omega, swo_int, hKV, cmp_int, fun p1 H1 q1 s1 hp1 hS1 => ?_⟩
  rw [hgl] at hS1
  have s01 : Same H (upd H1 p1 (.lst (outV gw q1))) := s1.trans (Same.upd hp1)
  have e1 : (upd H1 p1 (.lst (outV gw q1))) p1 = some (.lst (outV gw q1)) := upd_same
  generalize upd H1 p1 (.lst (outV gw q1)) = H2 at s01 e1 ⊢
  walk_at "ex"
  refine ev_sortK (by rfl) n1 (by rfl) ?_
  walk_at "e"
  obtain ⟨fb, hfb, hKW⟩ := keyed [some (.ref c), some (.ref b), some (.ref p), some (.ref g), none, none] H2 ws rs (hws.imp fun u r z => z.same s01)
  refine ev_gfn hfb (by rfl) (by decide) ?_
  refine ⟨p, fb, ws, _, _, rfl, rfl, s01.seq sqp, by omega, swo_int, hKW, cmp_int, fun p2 H3 q2 s3 hp2 hS2 => ?_⟩
  rw [hwl] at hS2
  have s23 : Same H2 (upd H3 p2 (.lst (outV ws q2))) := s3.trans (Same.upd hp2)
  have e2 : (upd H3 p2 (.lst (outV ws q2))) p2 = some (.lst (outV ws q2)) := upd_same
  generalize upd H3 p2 (.lst (outV ws q2)) = H4 at s23 e2 ⊢
  have s04 := s01.trans s23
  walk_at "ex"
  have eqr : outR ls q1 = outR rs q2 := pair_eq (((perm_out hS1).trans hperm).trans (perm_out hS2).symm) (line_lt (line_num0 (cs := cs) hndL hS1)) (line_lt (line_num0 (cs := cs) hnd hS2))
  have hol : (outR ls q1).length ≤ 1000 := by rw [(perm_out hS1).length_eq]; omega
  refine ⟨p1, p2, outV gw q1, outV ws q2, outR ls q1, rfl, s23 _ _ e1, e2, (all2_out hgw fun i hi => by rw [hgl]; exact sorted_mem hS1 hi).imp fun u r z => z.same s04, ?_, hol, fun r hr => ?_, ?_⟩
  · rw [eqr]
    exact (all2_out hws fun i hi => by rw [hwl]; exact sorted_mem hS2 hi).imp fun u r z => z.same s04
  · have hrf := hfitL r ((perm_out hS1).mem_iff.mp hr)
    have hlr := All2.len hrf
    refine ⟨by omega, fun x hx => ?_⟩
    obtain ⟨i, hi, e⟩ := List.getElem_of_mem hx
    obtain ⟨cc, _, hv⟩ := All2.get' hrf (show r.2[i]? = some x by rw [← e]; exact List.getElem?_eq_getElem hi)
    exact hv.flat
  walk_at "ex"
  refine sxs_nil (sxs_cons ?_)
  refine sx_forR2 (by walk_at "po") (by rfl) (by rfl) n3 (by rfl) (by rfl) ?_
  have sqg4 := s04.seq sqg
  walk_at "ex"
  refine ⟨1, gw.length, rfl, ⟨by decide, by decide, by omega, by omega⟩, fun i σ H' => (∃ o4 o5, σ = [some (.ref c), some (.ref b), some (.ref p), some (.ref g), o4, o5]) ∧ Same H H', ⟨⟨none, none, rfl⟩, s04⟩, fun i σ H' hi hP => ?_, fun σ H' hP => ?_⟩
  · obtain ⟨⟨o4, o5, rfl⟩, sm⟩ := hP
    have hi1 : i + 1 < ls.length := by omega
    have hi0 : i < ls.length := by omega
    obtain ⟨u0, g0, t0, l0, rfl, ht0, hl0⟩ := hgw.get' (List.getElem?_eq_getElem hi0)
    obtain ⟨u1, g1, t1, l1, rfl, ht1, hl1⟩ := hgw.get' (List.getElem?_eq_getElem hi1)
    have f0 := hfitL _ (List.getElem_mem hi0)
    have f1 := hfitL _ (List.getElem_mem hi1)
    have k0 := key_ok f0 hin
    have k1 := key_ok f1 hin
    have hlt : rowLt cs os ls[i] ls[i + 1] = true := List.pairwise_iff_getElem.mp hL i (i + 1) hi0 hi1 (by omega)
    obtain ⟨x1, x2, x3⟩ := k0.like k1
    have ee : ((1 : Int) + (i : Int)) - 1 = (i : Int) := by omega
    have ef : (1 : Int) + (i : Int) = ((i + 1 : Nat) : Int) := by omega
    refine eg_name nd (by rfl) (.inl rfl) (.inl rfl) ?_
    refine sxs_cons ?_
    walk_at "s"
    walk_at "ex"
    rw [ee]
    refine i_list (SqL.of (sm _ _ hg)) (atI_nat g0) ?_
    walk_at "ex"
    refine i_tup (SqT.of (sm _ _ ht0)) (show atI [V.int ls[i].1, V.ref l0] 0 = some (V.int ls[i].1) from rfl) ?_
    walk_at "ex"
    rw [ee]
    refine i_list (SqL.of (sm _ _ hg)) (atI_nat g0) ?_
    walk_at "ex"
    refine i_tup (SqT.of (sm _ _ ht0)) (show atI [V.int ls[i].1, V.ref l0] 1 = some (V.ref l0) from rfl) ?_
    walk_at "ex"
    refine ⟨c, b, l0, _, cs, os, ls[i].2, rfl, hC.same sm, hO.same sm, sm _ _ hl0, (All2.len f0).symm, by omega, by omega, hin, fun ka la H5 s5 _ _ hka hla => ?_⟩
    have s05 := sm.trans s5
    refine sxs_one (sx_if ?_)
    walk_at "ex"
    rw [ef]
    refine i_list (SqL.of (s05 _ _ hg)) (atI_nat g1) ?_
    walk_at "ex"
    refine i_tup (SqT.of (s05 _ _ ht1)) (show atI [V.int ls[i + 1].1, V.ref l1] 0 = some (V.int ls[i + 1].1) from rfl) ?_
    walk_at "ex"
    refine i_list (SqL.of (s05 _ _ hg)) (atI_nat g1) ?_
    walk_at "ex"
    refine i_tup (SqT.of (s05 _ _ ht1)) (show atI [V.int ls[i + 1].1, V.ref l1] 1 = some (V.ref l1) from rfl) ?_
    walk_at "ex"
    refine ⟨c, b, l1, _, cs, os, ls[i + 1].2, rfl, hC.same s05, hO.same s05, s05 _ _ hl1, (All2.len f1).symm, by omega, by omega, hin, fun kb lb H6 s6 _ _ hkb hlb => ?_⟩
    have s06 := s05.trans s6
    walk_at "ex"
    refine ⟨b, ka, kb, os, _, _, _, _, rfl, hO.same s06, ⟨la, s6 _ _ hka, s6 _ _ hla⟩, ⟨lb, hkb, hlb⟩, x1, x2, by omega, x3, ?_⟩
    have hlt' : aheadF os (keyL cs os ls[i].2) (keyL cs os ls[i + 1].2) ls[i].1 ls[i + 1].1 = true := hlt
    rw [hlt']
    walk_at "ex"
    exact sxs_nil ⟨⟨_, _, rfl⟩, s06⟩
  · obtain ⟨⟨o4, o5, rfl⟩, sm⟩ := hP
    refine sxs_one (sx_ret ?_)
    walk_at "ex"
    exact q H' sm
end
end K34

namespace K34
open PySem L2 PyProof.Rows My Vl Lw
section
variable {P : Program} {w : World} {K : PySem.W.Frag} {mg : Str → Option Value} {base : Heap}
def dRw (r : Row) : PyData := .tuple [.int r.1, .list (r.2.map dV)]
theorem fitK.lay {cs : List Col} {r : Row} (h : fitK cs r) : ∀ x ∈ r.2, sca x = true ∧ ∀ z, x = .str z → okS 4000 z := by
  obtain ⟨n, xs⟩ := r
  have h' : All2 (fun (c : Col) x => valK c.2 x) cs xs := h
  show ∀ x ∈ xs, _
  clear h
  induction h' with
  | nil => intro x hx; cases hx
  | cons r t ih =>
    intro x hx
    rcases List.mem_cons.mp hx with e | hx
    · subst e
      exact r.sca
    · exact ih x hx
theorem rows_rds {cs : List Col} {H : Hp} {vs : List V} {rs : List Row} (h : All2 (RowAt H) vs rs) (g : ∀ r ∈ rs, fitK cs r) : RDs K H vs (rs.map dRw) := by
  induction h with
  | nil => exact .nil
  | cons r t ih =>
    obtain ⟨p, l, rfl, h1, h2⟩ := r
    refine .cons (.tup (SqT.of h1) (.cons (.int _) (.cons (.lst (SqL.of h2) (rds_sca ?_)) .nil))) (ih fun r hr => g r (by simp [hr]))
    exact List.all_eq_true.mpr fun x hx => ((g _ (by simp)).lay x hx).1
theorem rows_rd {cs : List Col} {H : Hp} {p : Addr} {rs : List Row} (h : Rws H p rs) (g : ∀ r ∈ rs, fitK cs r) : RD K H (.ref p) (.list (rs.map dRw)) := by
  obtain ⟨vs, e, a⟩ := h
  exact .lst (SqL.of e) (rows_rds a g)
theorem row_lay {cs : List Col} {r : Row} (h : fitK cs r) : (dRw r).canLay0 = true := by
  show (true && ((PyData.list (r.2.map dV)).canLay0 && true)) = true
  rw [vals_lay fun x hx => h.lay x hx]
  rfl
theorem rows_lay {cs : List Col} : ∀ {rs : List Row}, (∀ r ∈ rs, fitK cs r) → (PyData.list (rs.map dRw)).canLay0 = true
  | [], _ => rfl
  | r :: rs, h => by
    have ih := rows_lay (rs := rs) fun d hd => h d (by simp [hd])
    show ((dRw r).canLay0 && PyData.canLayAll0 (rs.map dRw)) = true
    rw [row_lay (h r (by simp))]
    exact ih
theorem row_dep (r : Row) : (dRw r).depth ≤ 4 := by
  have := vals_depA r.2
  simp only [dRw, PyData.depth, PyData.depthAll]
  omega
theorem rows_depA : ∀ rs : List Row, PyData.depthAll (rs.map dRw) ≤ 4
  | [] => by show (0 : Nat) ≤ 4; omega
  | r :: rs => by
    have ih := rows_depA rs
    have h1 := row_dep r
    show max (dRw r).depth (PyData.depthAll (rs.map dRw)) ≤ 4
    omega
theorem rows_dep (rs : List Row) : (PyData.list (rs.map dRw)).depth ≤ 60 := by
  have := rows_depA rs
  simp only [PyData.depth]
  omega
end
end K34
namespace K34
open PySem L2 PyProof.Rows My Vl Lw
section
variable {P : Program} {w : World} {K : PySem.W.Frag} {mg : Str → Option Value} {base : Heap}
def dOrd (o : Ord) : PyData := .tuple [.str o.1, .bool o.2]
theorem ords_lay : ∀ {os : List Ord}, (∀ o ∈ os, okS 4000 o.1) → (PyData.list (os.map dOrd)).canLay0 = true
  | [], _ => rfl
  | o :: os, h => by
    have ih := ords_lay (os := os) fun d hd => h d (by simp [hd])
    show ((PyData.canLay0 (.str o.1) && (PyData.canLay0 (.bool o.2) && true)) && PyData.canLayAll0 (os.map dOrd)) = true
    rw [(h o (by simp)).lay]
    exact ih
theorem ords_depA : ∀ os : List Ord, PyData.depthAll (os.map dOrd) ≤ 2
  | [] => by show (0 : Nat) ≤ 2; omega
  | o :: os => by
    have ih := ords_depA os
    have h1 : (dOrd o).depth ≤ 2 := by show (_ : Nat) ≤ 2; exact Nat.le_of_ble_eq_true rfl
    show max (dOrd o).depth (PyData.depthAll (os.map dOrd)) ≤ 2
    omega
theorem ords_dep (os : List Ord) : (PyData.list (os.map dOrd)).depth ≤ 60 := by
  have := ords_depA os
  simp only [PyData.depth]
  omega
theorem ords_rd {K : PySem.W.Frag} {H : Hp} {vs : List V} {os : List Ord} (h : All2 (OrdAt H) vs os) : RDs K H vs (os.map dOrd) := by
  induction h with
  | nil => exact .nil
  | cons r t ih =>
    obtain ⟨p, rfl, hp⟩ := r
    exact .cons (.tup (SqT.of hp) (.cons (.str _) (.cons (.bl _) .nil))) ih
end
end K34
namespace K34
open PySem L2 PyProof.Rows My Vl Lw
section
variable {P : Program} {w : World} {K : PySem.W.Frag} {mg : Str → Option Value} {base : Heap}
theorem okC_len {cs : List Col} (h : okCols cs = true) : 1 ≤ cs.length ∧ cs.length ≤ 6 := by
  unfold okCols at h
  simp only [Bool.and_eq_true, decide_eq_true_eq] at h
  exact h.1.1
end
end K34

namespace K34
open PySem L2 PyProof.Rows My Vl Lw
section
variable {P : Program} {w : World} {K : PySem.W.Frag} {mg : Str → Option Value} {base : Heap}
theorem okC_names {cs : List Col} (h : okCols cs = true) {z : Str} (hz : z ∈ cs.map Prod.fst) : okS 4000 z := by
  obtain ⟨c, hc, rfl⟩ := List.mem_map.mp hz
  unfold okCols at h
  simp only [Bool.and_eq_true, decide_eq_true_eq] at h
  have h2 := List.all_eq_true.mp h.1.2 c hc
  simp only [Bool.and_eq_true] at h2
  have h3 := h2.1
  unfold isName at h3
  simp only [Bool.and_eq_true, decide_eq_true_eq] at h3
  refine ⟨by omega, fun x hx => ?_⟩
  have h4 : x ∈ LTs.cps.toList := of_decide_eq_true (List.all_eq_true.mp h3.2 x hx)
  exact (show ∀ y ∈ LTs.cps.toList, y < 1114112 by decide +kernel) x h4
theorem all2_rev {α β : Type} {R : α → β → Prop} : ∀ {l : List α} {m : List β}, All2 R l m → All2 R l.reverse m.reverse
  | _, _, .nil => .nil
  | _, _, .cons r t => by
    rw [List.reverse_cons, List.reverse_cons]
    exact (all2_rev t).app (.cons r .nil)
/-- the lists of the values in these rows -/
def inL (H : Hp) (us : List V) (b : Addr) : Prop := ∃ u ∈ us, ∃ t x, u = .ref t ∧ H t = some (.tup [x, .ref b])
def Mut4 (H1 : Hp) (us : List V) (H' : Hp) (n : Nat) : Prop := (∀ b o, H1 b = some o → ¬ inL H1 us b → H' b = some o) ∧ ∀ b, inL H1 us b → ∃ xs, H' b = some (.lst xs) ∧ xs.length ≤ n
theorem Mut4.put {H1 H' : Hp} {us : List V} {n m : Nat} {l : Addr} {zs : List V} (h : Mut4 H1 us H' n) (hl : inL H1 us l) (hz : zs.length ≤ m) (hnm : n ≤ m) : Mut4 H1 us (upd H' l (.lst zs)) m := by
  refine ⟨fun b o e1 e2 => ?_, fun b hb => ?_⟩
  · have hne : b ≠ l := fun e => e2 (e ▸ hl)
    rw [upd_ne hne]
    exact h.1 b o e1 e2
  · by_cases hbl : b = l
    · subst hbl
      exact ⟨_, upd_same, hz⟩
    · obtain ⟨ys, e1, e2⟩ := h.2 b hb
      exact ⟨ys, by rw [upd_ne hbl]; exact e1, by omega⟩
theorem inL_fr {q : Addr} {H2 H3 Hm : Hp} {us : List V} {rs : List Row} {b : Addr} (h : All2 (RowFr q H2 H3) us rs) (s : Same H3 Hm) (hb : inL Hm us b) : H2 b = none ∧ b ≠ q ∧ ∃ r ∈ rs, H3 b = some (.lst r.2) := by
  obtain ⟨u, hu, t, x, e, ht⟩ := hb
  obtain ⟨i, hi, e'⟩ := List.getElem_of_mem hu
  obtain ⟨r, hr, t', l, e2, _, h4, h5, h6, h7⟩ := h.get (show us[i]? = some u by rw [← e']; exact List.getElem?_eq_getElem hi)
  rw [e] at e2
  cases e2
  rw [s _ _ h6] at ht
  cases ht
  exact ⟨h4, h5, r, List.mem_of_getElem? hr, h7⟩
theorem Mut4.init {q : Addr} {H2 H3 Hm : Hp} {us : List V} {rs : List Row} {n : Nat} (h : All2 (RowFr q H2 H3) us rs) (s : Same H3 Hm) (hn : ∀ r ∈ rs, r.2.length ≤ n) : Mut4 Hm us Hm n :=
  ⟨fun b o e _ => e, fun b hb => by
    obtain ⟨_, _, r, hr, e⟩ := inL_fr h s hb
    exact ⟨_, s _ _ e, hn r hr⟩⟩
theorem law_fn (T : Txt K mg) (hN : Nst K mg base "sorted_by") {f : Addr} {fd : FuncData} (F : Fun K "law" "law" s_law f fd) : FnOk P w K mg base (CX1 P w) true 40 f fd ["_law_script"] (spLawT K "sorted_by" psR) := by
  refine fn_sx F sc_law (fun vs H Q E h => by obtain ⟨a, ns, rfl, _⟩ := h; rfl) (fun cdv A outer s H vs Q E hr h => ?_)
  obtain ⟨a, ns, rfl, hS, hl, hP, q⟩ := h
  have nd := sc_law.nd
  have hu := hr.units
  have n1 := T.n_list
  have n2 := T.n_reversed
  have hsz : sizeLine = 16777216 := sizeLine_eq
  have D0 : Def P w K mg base true 1 "_law_draw" ["_law_script", "_law_k", "_law_many"] (spDraw K) := d__law_draw T
  have D1 : Def P w K mg base true 2 "_law_columns" ["_law_script", "_law_base", "_law_most"] (spCols1 K) := d__law_columns T
  have D2 : Def P w K mg base true 2 "_law_order" ["_law_script", "_law_base", "_law_columns_here"] (spOrder1 K) := d__law_order T
  have D3 : Def P w K mg base true 4 "_law_rows" ["_law_script", "_law_base", "_law_columns_here", "_law_many"] (spRowsL K) := d__law_rows T
  have D4 : Def P w K mg base true 8 "line_of" ["columns", "order", "rows"] (spLineOf K) := d_line_of T hN
  have D5 : Def P w K mg base true 6 "_law_right" ["_law_columns_here", "_law_order_here", "_law_rows_here", "_law_found"] (spRight4 K) := d__law_right T
  have nd2 : (["_law_row", "_law_values_here"] : List Str).Nodup := by decide +kernel
  refine sxs_cons ?_
  walk_at "s"
  walk_at "ex"
  refine ⟨a, ns, 300, 6, rfl, hS, hl, by decide, by decide, by decide, by decide, fun c cs H1 s1 _ hC hok => ?_⟩
  obtain ⟨c1, c6⟩ := okC_len hok
  refine sxs_cons ?_
  walk_at "s"
  walk_at "ex"
  refine ⟨a, ns, 350, c, cs, rfl, s1.seq hS, hl, by decide, by decide, hC, hok, fun b os H2 s2 _ hO hoo => ?_⟩
  obtain ⟨ho4, _, hoin⟩ := hoo
  have hin : inC cs os := fun o ho => by
    obtain ⟨z, hz, e⟩ := List.mem_map.mp (hoin o ho)
    exact ⟨z, hz, e⟩
  have s12 := s1.trans s2
  refine sxs_cons ?_
  walk_at "s"
  walk_at "ex"
  refine ⟨a, ns, 1, 21, rfl, s12.seq hS, hl, by decide, by decide, by decide, ?_⟩
  have m0 := drawF_nn ns 1 (m := 21) (by decide)
  have m1 := drawF_lt ns 1 (m := 21) (by decide)
  generalize drawF ns 1 21 = m at m0 m1 ⊢
  walk_at "ex"
  refine ⟨a, ns, 500, c, cs, m, rfl, s12.seq hS, hl, by decide, by decide, m0, by omega, hC.same s2, c6, fun p ws rs H3 s3 _ hp3 hws hnd hfit hlen hnum => ?_⟩
  have s13 := s12.trans s3
  have s23 := s2.trans s3
  have hC3 := hC.same s23
  have hO3 := hO.same s3
  have hP3 := s13 _ _ hP
  have hR : Rws H3 p rs := ⟨ws, hp3, hws.imp fun u r z => z.row⟩
  have hwl := hws.len
  obtain ⟨cv, hcc, hcv⟩ := id hC3
  obtain ⟨ov, hob, hov⟩ := id hO3
  have hcvl := hcv.len
  have hovl := hov.len
  have hlay := rows_lay hfit
  have hdep := rows_dep rs
  have olay := ords_lay fun o ho => okC_names hok (hoin o ho)
  have odep := ords_dep os
  have r6 : ∀ r ∈ rs, r.2.length ≤ 6 := fun r hr => by
    have := All2.len (hfit r hr)
    omega
  refine sxs_cons ?_
  refine sx_compL ["_law_row", "_law_values_here"] (σ' := [none, none]) (by rfl) (by rfl) (by rfl) (compSc_of (defScope s_law) (by rfl) (by rfl) (by decide +kernel)) (by intro _; rfl) nd (by rfl) (by rfl) ?_
  walk_at "ex"
  refine ⟨p, ws, rfl, SqL.of hp3, by omega, fun τ => ∃ o1 o2, τ = [o1, o2], fun E2 k u H' => ∃ r, rs[k]? = some r ∧ RowFr E2 H3 H' u r, ⟨none, none, rfl⟩, fun E2 k u Ha Hb ys hE hk p => ?_, fun fp E2 C s3' H0 k τ x Ha Hb hE2 hi hτ sma hys hG => ?_, fun hd H4 us hhd hl4 hx4 e4 s4 => ?_⟩
  · obtain ⟨r, hr, t, l, e, h1, h2, h3, h4, h5⟩ := p
    exact ⟨r, hr, t, l, e, h1, h2, h3, hk _ _ (fun z => by rw [z, hE] at h4; cases h4) h4, hk _ _ h3 h5⟩
  · obtain ⟨o1, o2, rfl⟩ := hτ
    obtain ⟨hx3, rfl⟩ := hG
    obtain ⟨r, hr, t, l, rfl, _, _, _, ht, hl⟩ := hws.get hx3
    obtain ⟨ys, hys⟩ := hys
    refine eg_tup (by rfl) (by rfl) (by rfl) (SqT.of (sma _ _ ht)) (by rfl) (egs_cons (by rfl) (eg_name nd2 (by rfl) (.inl rfl) (.inr rfl) (egs_cons (by rfl) (eg_name nd2 (by rfl) (.inl rfl) (.inr rfl) (egs_nil ?_)))))
    walk_at "ex"
    refine c_list (.inl (SqL.of (sma _ _ hl))) fun l2 hl2 => ?_
    have s5 : Same Ha (upd Ha l2 (.lst r.2)) := Same.upd hl2
    have e5 : (upd Ha l2 (.lst r.2)) l2 = some (.lst r.2) := upd_same
    have nl : l2 ≠ E2 := fun e => by rw [e, hys] at hl2; cases hl2
    generalize upd Ha l2 (.lst r.2) = H5 at s5 e5 ⊢
    walk_at "ex"
    refine ⟨by show 2 ≤ sizeLine; omega, fun t2 ht2 => ?_⟩
    have s6 : Same H5 (upd H5 t2 (.tup [.int r.1, .ref l2])) := Same.upd ht2
    exact ⟨⟨_, _, rfl⟩, ⟨r, hr, t2, l2, rfl, (sma.trans s5).free ht2, sma.free hl2, nl, upd_same, s6 _ _ e5⟩, s5.trans s6⟩
  have hus : All2 (RowFr hd H3 H4) us rs := all2_of_get (by omega) fun k r hr => by
    have hk : k < us.length := by have := (List.getElem?_eq_some_iff.mp hr).1; omega
    obtain ⟨r', hr', hn⟩ := hx4 k _ (List.getElem?_eq_getElem hk)
    rw [hr] at hr'
    cases hr'
    exact ⟨_, List.getElem?_eq_getElem hk, hn⟩
  have hul := hus.len
  refine sxs_cons ?_
  walk_at "s"
  walk_at "ex"
  refine c_list (.inl (SqL.of (s4 _ _ hob))) fun gv hgv => ?_
  have s5 : Same H4 (upd H4 gv (.lst ov)) := Same.upd hgv
  have e5 : (upd H4 gv (.lst ov)) gv = some (.lst ov) := upd_same
  generalize upd H4 gv (.lst ov) = H5 at s5 e5 ⊢
  have s35 := s4.trans s5
  refine sxs_cons ?_
  walk_at "s"
  walk_at "ex"
  refine c_list (.inl (SqL.of (s35 _ _ hcc))) fun c2 hc2 => ?_
  have s6 : Same H5 (upd H5 c2 (.lst cv)) := Same.upd hc2
  have e6 : (upd H5 c2 (.lst cv)) c2 = some (.lst cv) := upd_same
  generalize upd H5 c2 (.lst cv) = H6 at s6 e6 ⊢
  have s36 := s35.trans s6
  have s46 := s5.trans s6
  walk_at "ex"
  have hO6 : Ords H6 gv os := ⟨ov, s6 _ _ e5, hov.imp fun u o z => z.same s36⟩
  have hC6 : Cols H6 c2 cs := ⟨cv, e6, hcv.imp fun u o z => z.same s36⟩
  have hHd6 : Rws H6 hd rs := ⟨us, s46 _ _ e4, hus.imp fun u r z => (z.same s46).row⟩
  refine ⟨c2, gv, hd, cs, os, rs, rfl, hC6, hO6, hHd6, c6, by omega, hin, by omega, hfit, hnd, s36 _ _ hP3, fun fq fw ls H7 s7 hfq0 hfq hfw hL hperm => ?_⟩
  have s37 := s36.trans s7
  have s47 := s46.trans s7
  have hfl := hfw.len
  have hll : ls.length = rs.length := hperm.length_eq
  have l6 : ∀ r ∈ ls, r.2.length ≤ 6 := fun r hr => r6 r (hperm.mem_iff.mp hr)
  refine sxs_cons (sx_if ?_)
  walk_at "ex"
  refine o_neD hu (rows_rd (hHd6.same s7) hfit) (rows_rd (hR.same s37) hfit) hlay hlay hdep ?_
  rw [SeqAt.eqv_refl _ hlay]
  walk_at "ex"
  obtain ⟨ov2, h2a, h2b⟩ := hO6.same s7
  obtain ⟨ov3, h3a, h3b⟩ := hO3.same s37
  refine o_neD hu (.lst (SqL.of h2a) (ords_rd h2b)) (.lst (SqL.of h3a) (ords_rd h3b)) olay olay odep ?_
  rw [SeqAt.eqv_refl _ olay]
  walk_at "ex"
  refine ⟨c, b, p, fq, cs, os, rs, ls, rfl, hC3.same s37, hO3.same s37, hR.same s37, ⟨fw, hfq, hfw.imp fun u r z => z.row⟩, c6, by omega, hin, by omega, hfit, hnd, hperm, hL, fun H8 s8 => ?_⟩
  walk_at "ex"
  have s38 := s37.trans s8
  have s48 := s47.trans s8
  have s68 := s7.trans s8
  refine sxs_nil (sxs_cons (sx_forL (by walk_at "po") (by rfl) (by intro _; rfl) ?_))
  walk_at "ex"
  have nhd : ¬ inL H8 us hd := fun h => (inL_fr hus s48 h).2.1 rfl
  refine ⟨hd, us, rfl, SqL.of (s48 _ _ e4), fun j σ H' => (∃ o7, σ = [some (.ref a), some (.ref c), some (.ref b), some (.ref p), some (.ref hd), some (.ref gv), some (.ref fq), o7, none]) ∧ Mut4 H8 us H' (6 + j), ⟨⟨_, rfl⟩, Mut4.init hus s48 r6⟩, fun j σ' H' _ hP => SqL.of (hP.2.1 _ _ (s48 _ _ e4) nhd), fun j x σ' H' hx hP => ?_, fun σ' H9 hP => ?_⟩
  · obtain ⟨⟨o7, rfl⟩, hM⟩ := hP
    have hjl := (List.getElem?_eq_some_iff.mp hx).1
    obtain ⟨r, hr, tt, l, rfl, _, _, _, htt, hll⟩ := hus.get hx
    have htt8 := s48 _ _ htt
    have hinl : inL H8 us l := ⟨_, List.mem_of_getElem? hx, tt, _, rfl, htt8⟩
    have nt : ¬ inL H8 us tt := fun h => by
      obtain ⟨_, _, r', _, e⟩ := inL_fr hus s48 h
      rw [htt] at e
      cases e
    have htt' := hM.1 _ _ htt8 nt
    obtain ⟨xs, hxs, hxn⟩ := hM.2 l hinl
    refine eg_name nd (by rfl) (.inl rfl) (.inl rfl) ?_
    refine sxs_one (sx_expr (by rfl) (ev_bm PySem.F.plainAttrs_list PySem.F.slot_list_append PySem.F.type_list_append (by rfl) (by rfl) (by rfl) (by rfl) (by rfl) ?_))
    walk_at "ex"
    refine i_tup (SqT.of htt') (show atI [V.int r.1, .ref l] 1 = some (.ref l) from rfl) ?_
    refine ⟨.inl ⟨rfl, _, SqL.of hxs⟩, ?_⟩
    walk_at "ex"
    refine mt_by mt_append ⟨l, xs, _, rfl, rfl, hxs, by omega, ?_⟩
    exact ⟨⟨_, rfl⟩, hM.put hinl (by simp; omega) (by omega)⟩
  obtain ⟨⟨o7, rfl⟩, hM⟩ := hP
  have e9 := hM.1 _ _ (s48 _ _ e4) nhd
  refine sxs_cons (sx_expr (by rfl) (ev_bm0 PySem.F.plainAttrs_list PySem.F.slot_list_clear PySem.F.type_list_clear (by rfl) (by rfl) ?_))
  walk_at "ex"
  refine ⟨.inl ⟨rfl, _, SqL.of e9⟩, ?_⟩
  refine mt_by mt_clear ⟨hd, _, rfl, rfl, e9, ?_⟩
  have sA : Same H3 (upd H9 hd (.lst [])) := fun e u he => by
    rw [upd_ne (ne_of_none he hhd)]
    refine hM.1 _ _ (s38 _ _ he) fun h => ?_
    have := (inL_fr hus s48 h).1
    rw [he] at this
    cases this
  have h6hd : H6 hd = some (.lst us) := s46 _ _ e4
  have old : ∀ (x : Addr) (u : HO), H7 x = some u → (∀ zs, u = .lst zs → H6 x = none) → (upd H9 hd (.lst [])) x = some u := fun x u e1 e2 => by
    have hx : ¬ inL H8 us x := fun h => by
      obtain ⟨_, _, r', _, e⟩ := inL_fr hus s48 h
      have e3 := s47 _ _ e
      rw [e1] at e3
      cases e3
      have := e2 _ rfl
      rw [s46 _ _ e] at this
      cases this
    have hxd : x ≠ hd := fun z => by
      rw [z, s47 _ _ e4] at e1
      cases e1
      have := e2 _ rfl
      rw [z, h6hd] at this
      cases this
    rw [upd_ne hxd]
    exact hM.1 _ _ (s8 _ _ e1) hx
  have hfwA : All2 (RowFr fq H6 (upd H9 hd (.lst []))) fw ls := hfw.imp fun u r z => by
    obtain ⟨t, l, e, a1, a2, a3, a4, a5⟩ := z
    exact ⟨t, l, e, a1, a2, a3, old _ _ a4 (fun zs h => by cases h), old _ _ a5 (fun _ _ => a2)⟩
  have hfqA : (upd H9 hd (.lst [])) fq = some (.lst fw) := old _ _ hfq (fun _ _ => hfq0)
  generalize upd H9 hd (.lst []) = HA at sA hfwA hfqA ⊢
  refine sxs_cons (sx_if ?_)
  walk_at "ex"
  refine ⟨c, b, p, fq, cs, os, rs, ls, rfl, hC3.same sA, hO3.same sA, hR.same sA, ⟨fw, hfqA, hfwA.imp fun u r z => z.row⟩, c6, by omega, hin, by omega, hfit, hnd, hperm, hL, fun HB sB => ?_⟩
  walk_at "ex"
  have sAB := sA.trans sB
  have nfq : ¬ inL HB fw fq := fun h => (inL_fr hfwA sB h).2.1 rfl
  refine sxs_nil (sxs_cons (sx_forL (by walk_at "po") (by rfl) (by intro _; rfl) ?_))
  walk_at "ex"
  refine ⟨fq, fw, rfl, SqL.of (sB _ _ hfqA), fun j σ H' => (∃ o7, σ = [some (.ref a), some (.ref c), some (.ref b), some (.ref p), some (.ref hd), some (.ref gv), some (.ref fq), o7, none]) ∧ Mut4 HB fw H' 6, ⟨⟨_, rfl⟩, Mut4.init hfwA sB l6⟩, fun j σ' H' _ hP => SqL.of (hP.2.1 _ _ (sB _ _ hfqA) nfq), fun j x σ' H' hx hP => ?_, fun σ' HC hP => ?_⟩
  · obtain ⟨⟨o7, rfl⟩, hM2⟩ := hP
    obtain ⟨r, hr, tt, l, rfl, _, _, _, htt, hll2⟩ := hfwA.get hx
    have htt8 := sB _ _ htt
    have hinl : inL HB fw l := ⟨_, List.mem_of_getElem? hx, tt, _, rfl, htt8⟩
    have nt : ¬ inL HB fw tt := fun h => by
      obtain ⟨_, _, r', _, e⟩ := inL_fr hfwA sB h
      rw [htt] at e
      cases e
    have htt' := hM2.1 _ _ htt8 nt
    obtain ⟨xs, hxs, hxn⟩ := hM2.2 l hinl
    refine eg_name nd (by rfl) (.inl rfl) (.inl rfl) ?_
    refine sxs_one (sx_expr (by rfl) (ev_bm0 PySem.F.plainAttrs_list PySem.F.slot_list_clear PySem.F.type_list_clear (by rfl) (by rfl) ?_))
    walk_at "ex"
    refine i_tup (SqT.of htt') (show atI [V.int r.1, .ref l] 1 = some (.ref l) from rfl) ?_
    refine ⟨.inl ⟨rfl, _, SqL.of hxs⟩, ?_⟩
    refine mt_by mt_clear ⟨l, xs, rfl, rfl, hxs, ?_⟩
    exact ⟨⟨_, rfl⟩, hM2.put hinl (by simp) (by omega)⟩
  obtain ⟨⟨o7, rfl⟩, hM2⟩ := hP
  have sC : Same H3 HC := fun e u he => hM2.1 _ _ (sAB _ _ he) fun h => by
    have := (inL_fr hfwA sB h).1
    rw [s36 _ _ he] at this
    cases this
  refine sxs_cons ?_
  walk_at "s"
  walk_at "e"
  refine ea_cons (by rfl) ?_
  walk_at "e"
  refine ea_cons (by rfl) ?_
  walk_at "e"
  refine ea_cons (by rfl) ?_
  refine ev_listRev (by rfl) (by rfl) n1 (by rfl) n2 (by rfl) (by rfl) ?_
  walk_at "e"
  refine ⟨p, ws, rfl, SqL.of (sC _ _ hp3), by omega, fun rv hrv => ?_⟩
  have sD : Same HC (upd HC rv (.lst ws.reverse)) := Same.upd hrv
  have eD : (upd HC rv (.lst ws.reverse)) rv = some (.lst ws.reverse) := upd_same
  generalize upd HC rv (.lst ws.reverse) = HD at sD eD ⊢
  have s3D := sC.trans sD
  walk_at "ex"
  have hmr : ∀ r ∈ rs.reverse, fitK cs r := fun r hr => hfit r (List.mem_reverse.mp hr)
  refine ⟨c, b, rv, cs, os, rs.reverse, rfl, hC3.same s3D, hO3.same s3D, ⟨ws.reverse, eD, all2_rev (hws.imp fun u r z => (z.same s3D).row)⟩, c6, by omega, hin, by rw [List.length_reverse]; omega, hmr, ?_, s3D _ _ hP3, fun g2 gw l2 HE sE _ hg2 hgw hL2 hperm2 => ?_⟩
  · rw [List.map_reverse]
    exact (List.reverse_perm _).nodup_iff.mpr hnd
  have s3E := s3D.trans sE
  refine sxs_one (sx_ret ?_)
  walk_at "ex"
  refine ⟨c, b, p, g2, cs, os, rs, l2, rfl, hC3.same s3E, hO3.same s3E, hR.same s3E, ⟨gw, hg2, hgw.imp fun u r z => z.row⟩, c6, by omega, hin, by omega, hfit, hnd, hperm2.trans (List.reverse_perm rs), hL2, fun HF sF => ?_⟩
  exact q HF
end
end K34

namespace K34
open PySem L2 PyProof.Rows
abbrev NSA (K : PySem.W.Frag) (s : String) (a : Addr) : Prop := PySem.W.nsIn K mainGlobals s = some (some (.ref a))
theorem txt_mk {K : PySem.W.Frag} {h : Heap} {mg : Str → Option Value} (X : K.In h) (G : h.Ns mainGlobals mg) {f0 : Addr} {od0 an0 : Option Addr} {sl0 : Array (Option Value)} {oc0 kV0 dc0 pm0 cd0 ct0 : Value} {f1 : Addr} {od1 an1 : Option Addr} {sl1 : Array (Option Value)} {oc1 kV1 dc1 pm1 cd1 ct1 : Value} {f2 : Addr} {od2 an2 : Option Addr} {sl2 : Array (Option Value)} {oc2 kV2 dc2 pm2 cd2 ct2 : Value} {f3 : Addr} {od3 an3 : Option Addr} {sl3 : Array (Option Value)} {oc3 kV3 dc3 pm3 cd3 ct3 : Value} {f4 : Addr} {od4 an4 : Option Addr} {sl4 : Array (Option Value)} {oc4 kV4 dc4 pm4 cd4 ct4 : Value} {f5 : Addr} {od5 an5 : Option Addr} {sl5 : Array (Option Value)} {oc5 kV5 dc5 pm5 cd5 ct5 : Value} {f6 : Addr} {od6 an6 : Option Addr} {sl6 : Array (Option Value)} {oc6 kV6 dc6 pm6 cd6 ct6 : Value} {f7 : Addr} {od7 an7 : Option Addr} {sl7 : Array (Option Value)} {oc7 kV7 dc7 pm7 cd7 ct7 : Value} {f8 : Addr} {od8 an8 : Option Addr} {sl8 : Array (Option Value)} {oc8 kV8 dc8 pm8 cd8 ct8 : Value} {f9 : Addr} {od9 an9 : Option Addr} {sl9 : Array (Option Value)} {oc9 kV9 dc9 pm9 cd9 ct9 : Value} {f10 : Addr} {od10 an10 : Option Addr} {sl10 : Array (Option Value)} {oc10 kV10 dc10 pm10 cd10 ct10 : Value} {f11 : Addr} {od11 an11 : Option Addr} {sl11 : Array (Option Value)} {oc11 kV11 dc11 pm11 cd11 ct11 : Value} {f12 : Addr} {od12 an12 : Option Addr} {sl12 : Array (Option Value)} {oc12 kV12 dc12 pm12 cd12 ct12 : Value} {f13 : Addr} {od13 an13 : Option Addr} {sl13 : Array (Option Value)} {oc13 kV13 dc13 pm13 cd13 ct13 : Value} {f14 : Addr} {od14 an14 : Option Addr} {sl14 : Array (Option Value)} {oc14 kV14 dc14 pm14 cd14 ct14 : Value} {f15 : Addr} {od15 an15 : Option Addr} {sl15 : Array (Option Value)} {oc15 kV15 dc15 pm15 cd15 ct15 : Value} {f16 : Addr} {od16 an16 : Option Addr} {sl16 : Array (Option Value)} {oc16 kV16 dc16 pm16 cd16 ct16 : Value} {f17 : Addr} {od17 an17 : Option Addr} {sl17 : Array (Option Value)} {oc17 kV17 dc17 pm17 cd17 ct17 : Value} {f18 : Addr} {od18 an18 : Option Addr} {sl18 : Array (Option Value)} {oc18 kV18 dc18 pm18 cd18 ct18 : Value}
    (aq0 : NSA K "place_of" f0)
    (lq0 : K.lookup f0 = some ⟨oc0, od0, .func (PySem.W.fnOf "place_of" "place_of" (defArgs s_place_of) (defBody s_place_of) (defScope s_place_of) .none kV0 dc0 pm0 an0 cd0 ct0), sl0⟩)
    (cq0 : PySem.W.codeIn K cd0 "place_of" = true)
    (kq0 : PySem.W.keepIn K (.ref f0) = true)
    (aq1 : NSA K "number_of" f1)
    (lq1 : K.lookup f1 = some ⟨oc1, od1, .func (PySem.W.fnOf "number_of" "number_of" (defArgs s_number_of) (defBody s_number_of) (defScope s_number_of) .none kV1 dc1 pm1 an1 cd1 ct1), sl1⟩)
    (cq1 : PySem.W.codeIn K cd1 "number_of" = true)
    (kq1 : PySem.W.keepIn K (.ref f1) = true)
    (aq2 : NSA K "rank_of" f2)
    (lq2 : K.lookup f2 = some ⟨oc2, od2, .func (PySem.W.fnOf "rank_of" "rank_of" (defArgs s_rank_of) (defBody s_rank_of) (defScope s_rank_of) .none kV2 dc2 pm2 an2 cd2 ct2), sl2⟩)
    (cq2 : PySem.W.codeIn K cd2 "rank_of" = true)
    (kq2 : PySem.W.keepIn K (.ref f2) = true)
    (aq3 : NSA K "sorted_by" f3)
    (lq3 : K.lookup f3 = some ⟨oc3, od3, .func (PySem.W.fnOf "sorted_by" "sorted_by" (defArgs s_sorted_by) (defBody s_sorted_by) (defScope s_sorted_by) .none kV3 dc3 pm3 an3 cd3 ct3), sl3⟩)
    (cq3 : PySem.W.codeIn K cd3 "sorted_by" = true)
    (kq3 : PySem.W.keepIn K (.ref f3) = true)
    (aq4 : NSA K "line_of" f4)
    (lq4 : K.lookup f4 = some ⟨oc4, od4, .func (PySem.W.fnOf "line_of" "line_of" (defArgs s_line_of) (defBody s_line_of) (defScope s_line_of) .none kV4 dc4 pm4 an4 cd4 ct4), sl4⟩)
    (cq4 : PySem.W.codeIn K cd4 "line_of" = true)
    (kq4 : PySem.W.keepIn K (.ref f4) = true)
    (aq5 : NSA K "_law_draw" f5)
    (lq5 : K.lookup f5 = some ⟨oc5, od5, .func (PySem.W.fnOf "_law_draw" "_law_draw" (defArgs s__law_draw) (defBody s__law_draw) (defScope s__law_draw) .none kV5 dc5 pm5 an5 cd5 ct5), sl5⟩)
    (cq5 : PySem.W.codeIn K cd5 "_law_draw" = true)
    (kq5 : PySem.W.keepIn K (.ref f5) = true)
    (aq6 : NSA K "_law_columns" f6)
    (lq6 : K.lookup f6 = some ⟨oc6, od6, .func (PySem.W.fnOf "_law_columns" "_law_columns" (defArgs s__law_columns) (defBody s__law_columns) (defScope s__law_columns) .none kV6 dc6 pm6 an6 cd6 ct6), sl6⟩)
    (cq6 : PySem.W.codeIn K cd6 "_law_columns" = true)
    (kq6 : PySem.W.keepIn K (.ref f6) = true)
    (aq7 : NSA K "_law_value" f7)
    (lq7 : K.lookup f7 = some ⟨oc7, od7, .func (PySem.W.fnOf "_law_value" "_law_value" (defArgs s__law_value) (defBody s__law_value) (defScope s__law_value) .none kV7 dc7 pm7 an7 cd7 ct7), sl7⟩)
    (cq7 : PySem.W.codeIn K cd7 "_law_value" = true)
    (kq7 : PySem.W.keepIn K (.ref f7) = true)
    (aq8 : NSA K "_law_values" f8)
    (lq8 : K.lookup f8 = some ⟨oc8, od8, .func (PySem.W.fnOf "_law_values" "_law_values" (defArgs s__law_values) (defBody s__law_values) (defScope s__law_values) .none kV8 dc8 pm8 an8 cd8 ct8), sl8⟩)
    (cq8 : PySem.W.codeIn K cd8 "_law_values" = true)
    (kq8 : PySem.W.keepIn K (.ref f8) = true)
    (aq9 : NSA K "_law_is_whole" f9)
    (lq9 : K.lookup f9 = some ⟨oc9, od9, .func (PySem.W.fnOf "_law_is_whole" "_law_is_whole" (defArgs s__law_is_whole) (defBody s__law_is_whole) (defScope s__law_is_whole) .none kV9 dc9 pm9 an9 cd9 ct9), sl9⟩)
    (cq9 : PySem.W.codeIn K cd9 "_law_is_whole" = true)
    (kq9 : PySem.W.keepIn K (.ref f9) = true)
    (aq10 : NSA K "_law_same" f10)
    (lq10 : K.lookup f10 = some ⟨oc10, od10, .func (PySem.W.fnOf "_law_same" "_law_same" (defArgs s__law_same) (defBody s__law_same) (defScope s__law_same) .none kV10 dc10 pm10 an10 cd10 ct10), sl10⟩)
    (cq10 : PySem.W.codeIn K cd10 "_law_same" = true)
    (kq10 : PySem.W.keepIn K (.ref f10) = true)
    (aq11 : NSA K "_law_same_rows" f11)
    (lq11 : K.lookup f11 = some ⟨oc11, od11, .func (PySem.W.fnOf "_law_same_rows" "_law_same_rows" (defArgs s__law_same_rows) (defBody s__law_same_rows) (defScope s__law_same_rows) .none kV11 dc11 pm11 an11 cd11 ct11), sl11⟩)
    (cq11 : PySem.W.codeIn K cd11 "_law_same_rows" = true)
    (kq11 : PySem.W.keepIn K (.ref f11) = true)
    (aq12 : NSA K "_law_order" f12)
    (lq12 : K.lookup f12 = some ⟨oc12, od12, .func (PySem.W.fnOf "_law_order" "_law_order" (defArgs s__law_order) (defBody s__law_order) (defScope s__law_order) .none kV12 dc12 pm12 an12 cd12 ct12), sl12⟩)
    (cq12 : PySem.W.codeIn K cd12 "_law_order" = true)
    (kq12 : PySem.W.keepIn K (.ref f12) = true)
    (aq13 : NSA K "_law_key" f13)
    (lq13 : K.lookup f13 = some ⟨oc13, od13, .func (PySem.W.fnOf "_law_key" "_law_key" (defArgs s__law_key) (defBody s__law_key) (defScope s__law_key) .none kV13 dc13 pm13 an13 cd13 ct13), sl13⟩)
    (cq13 : PySem.W.codeIn K cd13 "_law_key" = true)
    (kq13 : PySem.W.keepIn K (.ref f13) = true)
    (aq14 : NSA K "_law_ahead" f14)
    (lq14 : K.lookup f14 = some ⟨oc14, od14, .func (PySem.W.fnOf "_law_ahead" "_law_ahead" (defArgs s__law_ahead) (defBody s__law_ahead) (defScope s__law_ahead) .none kV14 dc14 pm14 an14 cd14 ct14), sl14⟩)
    (cq14 : PySem.W.codeIn K cd14 "_law_ahead" = true)
    (kq14 : PySem.W.keepIn K (.ref f14) = true)
    (aq15 : NSA K "_law_rows" f15)
    (lq15 : K.lookup f15 = some ⟨oc15, od15, .func (PySem.W.fnOf "_law_rows" "_law_rows" (defArgs s__law_rows) (defBody s__law_rows) (defScope s__law_rows) .none kV15 dc15 pm15 an15 cd15 ct15), sl15⟩)
    (cq15 : PySem.W.codeIn K cd15 "_law_rows" = true)
    (kq15 : PySem.W.keepIn K (.ref f15) = true)
    (aq16 : NSA K "_law_right" f16)
    (lq16 : K.lookup f16 = some ⟨oc16, od16, .func (PySem.W.fnOf "_law_right" "_law_right" (defArgs s__law_right) (defBody s__law_right) (defScope s__law_right) .none kV16 dc16 pm16 an16 cd16 ct16), sl16⟩)
    (cq16 : PySem.W.codeIn K cd16 "_law_right" = true)
    (kq16 : PySem.W.keepIn K (.ref f16) = true)
    (aq17 : NSA K "_law_number" f17)
    (lq17 : K.lookup f17 = some ⟨oc17, od17, .func (PySem.W.fnOf "_law_number" "_law_number" (defArgs s__law_number) (defBody s__law_number) (defScope s__law_number) .none kV17 dc17 pm17 an17 cd17 ct17), sl17⟩)
    (cq17 : PySem.W.codeIn K cd17 "_law_number" = true)
    (kq17 : PySem.W.keepIn K (.ref f17) = true)
    (aq18 : NSA K "law" f18)
    (lq18 : K.lookup f18 = some ⟨oc18, od18, .func (PySem.W.fnOf "law" "law" (defArgs s_law) (defBody s_law) (defScope s_law) .none kV18 dc18 pm18 an18 cd18 ct18), sl18⟩)
    (cq18 : PySem.W.codeIn K cd18 "law" = true)
    (kq18 : PySem.W.keepIn K (.ref f18) = true)
    (zq0 : PySem.W.nsIn K mainGlobals "bool" = some none)
    (zq1 : PySem.W.nsIn K mainGlobals "enumerate" = some none)
    (zq2 : PySem.W.nsIn K mainGlobals "int" = some none)
    (zq3 : PySem.W.nsIn K mainGlobals "isinstance" = some none)
    (zq4 : PySem.W.nsIn K mainGlobals "len" = some none)
    (zq5 : PySem.W.nsIn K mainGlobals "list" = some none)
    (zq6 : PySem.W.nsIn K mainGlobals "min" = some none)
    (zq7 : PySem.W.nsIn K mainGlobals "range" = some none)
    (zq8 : PySem.W.nsIn K mainGlobals "reversed" = some none)
    (zq9 : PySem.W.nsIn K mainGlobals "sorted" = some none)
    (zq10 : PySem.W.nsIn K mainGlobals "tuple" = some none)
    : Txt K mg :=
  ⟨⟨_, _, fun_mk (st := s_place_of) lq0 cq0 kq0, PySem.W.mg_of X G aq0⟩,
   ⟨_, _, fun_mk (st := s_number_of) lq1 cq1 kq1, PySem.W.mg_of X G aq1⟩,
   ⟨_, _, fun_mk (st := s_rank_of) lq2 cq2 kq2, PySem.W.mg_of X G aq2⟩,
   ⟨_, _, fun_mk (st := s_sorted_by) lq3 cq3 kq3, PySem.W.mg_of X G aq3⟩,
   ⟨_, _, fun_mk (st := s_line_of) lq4 cq4 kq4, PySem.W.mg_of X G aq4⟩,
   ⟨_, _, fun_mk (st := s__law_draw) lq5 cq5 kq5, PySem.W.mg_of X G aq5⟩,
   ⟨_, _, fun_mk (st := s__law_columns) lq6 cq6 kq6, PySem.W.mg_of X G aq6⟩,
   ⟨_, _, fun_mk (st := s__law_value) lq7 cq7 kq7, PySem.W.mg_of X G aq7⟩,
   ⟨_, _, fun_mk (st := s__law_values) lq8 cq8 kq8, PySem.W.mg_of X G aq8⟩,
   ⟨_, _, fun_mk (st := s__law_is_whole) lq9 cq9 kq9, PySem.W.mg_of X G aq9⟩,
   ⟨_, _, fun_mk (st := s__law_same) lq10 cq10 kq10, PySem.W.mg_of X G aq10⟩,
   ⟨_, _, fun_mk (st := s__law_same_rows) lq11 cq11 kq11, PySem.W.mg_of X G aq11⟩,
   ⟨_, _, fun_mk (st := s__law_order) lq12 cq12 kq12, PySem.W.mg_of X G aq12⟩,
   ⟨_, _, fun_mk (st := s__law_key) lq13 cq13 kq13, PySem.W.mg_of X G aq13⟩,
   ⟨_, _, fun_mk (st := s__law_ahead) lq14 cq14 kq14, PySem.W.mg_of X G aq14⟩,
   ⟨_, _, fun_mk (st := s__law_rows) lq15 cq15 kq15, PySem.W.mg_of X G aq15⟩,
   ⟨_, _, fun_mk (st := s__law_right) lq16 cq16 kq16, PySem.W.mg_of X G aq16⟩,
   ⟨_, _, fun_mk (st := s__law_number) lq17 cq17 kq17, PySem.W.mg_of X G aq17⟩,
   ⟨_, _, fun_mk (st := s_law) lq18 cq18 kq18, PySem.W.mg_of X G aq18⟩,
   PySem.W.mg_none_of X G zq0,
   PySem.W.mg_none_of X G zq1,
   PySem.W.mg_none_of X G zq2,
   PySem.W.mg_none_of X G zq3,
   PySem.W.mg_none_of X G zq4,
   PySem.W.mg_none_of X G zq5,
   PySem.W.mg_none_of X G zq6,
   PySem.W.mg_none_of X G zq7,
   PySem.W.mg_none_of X G zq8,
   PySem.W.mg_none_of X G zq9,
   PySem.W.mg_none_of X G zq10⟩
end K34
open PySem PySem.W PyProof.Rows
set_option maxRecDepth 100000 in
set_option maxHeartbeats 0 in
theorem PySem.Challenge.cw_turnleaf_k34_lines_holds : PySem.Challenge.rw_turnleaf_k34_lines.Holds := by
  w_on; o_law; k_head; (case hw => w_witness2)
  k_fill
  refine L2.walk_ofT (l := PySem.Challenge.rw_turnleaf_k34_lines) (n := 63) (k := 40) (x := "_law_script") (xn := "sorted_by") (ps := K34.psR) (CX := fun w => L2.CX1 PySem.Challenge.rw_turnleaf_k34_lines.prog w) (cc := true) (sp := fun w => L2.spLawT _ "sorted_by" K34.psR) rfl (by decide) rfl ⟨fun _ => rfl, by decide, by decide⟩ (fun w h Y => PySem.W.km_in_of Y) ?R ?B ?F (fun _ _ a ns hl hS hH => ⟨a, ns, rfl, hS, hl, hH, fun _ => rfl⟩) (fun _ _ _ _ _ z => L2.CX1.never z)
  case R => kernel_rfl
  case B => intro w; kernel_rfl
  case F =>
    intro w mg fa h KX G hmg
    have T : K34.Txt (L2.KOf KX) mg := by
      dsimp only [L2.KOf]
      refine' K34.txt_mk KX G ..
      any_goals try delta K34.NSA
      any_goals first | k_is | k_exc | kernel_rfl | decide
    obtain ⟨f, fd, F, hm⟩ := T.d_law
    have e0 := hmg.symm.trans hm
    cases e0
    obtain ⟨oc, od, kV, doc, pm, an, cdv, ct, osl, rfl, lk, hcd⟩ := id F.ex
    exact ⟨_, fun s u => .of_eq rfl, fun base kb nb hN => K34.law_fn T hN F⟩
#print axioms PySem.Challenge.cw_turnleaf_k34_lines_holds
