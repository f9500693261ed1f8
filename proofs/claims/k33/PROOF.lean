import PyProof.Rows.All
import Wide.All
import OpenK.AllK
import Wide.FinOn
import Lean
import PyProof.EqAt
import PyProof.EqKinds
import PyProof.TupleCall
import PyProof.NeData
import PyProof.ZipIter
import PyProof.WalksEnum
import PyProof.Rows.SetFrom
import PyProof.StrLawsTight
import PyProof.StrLawsChain
import PyProof.StrCalls2
import PyProof.ListStr
import PyProof.Rows.StrOrd
import KE.KRevIter
import PyProof.ExcInit
import PyProof.InstStoreFacts
import PyProof.ExcArgs
import PyProof.ExcAttrAll.ValueError
import PyProof.NsDelKeeps
import PyProof.RulesAs
import OpenK.KCls
import PyProof.Rows.TupAssign
import PyProof.StrLawsIn
import KE.KDictSum
import PyProof.DictWalks
import PyProof.Rows.CountFlat
import PySem.Challenge.RW_turnleaf_k33_moments_let_go
set_option maxHeartbeats 4000000
set_option Elab.async false
set_option linter.all false
set_option maxRecDepth 100000
namespace L2
open PySem PySem.Spec PyProof.Rows
abbrev Key := Sum Int Str
def keyIs : Key -> Value -> Bool
 | .inl k, v => Value.isInt k v
 | .inr x, v => Value.isStrOf x v
def keyH (w : World) : Key -> Int
 | .inl k => hashInt k
 | .inr x => hashStr w x
theorem keyIs_shape : ∀ {k : Key} {v : Value}, keyIs k v = true -> (∃ i t, k = Sum.inl i /\ v = Value.int i t) \/ (∃ x t, k = Sum.inr x /\ v = Value.str x t)
 | .inl i, v, h => by
   obtain ⟨t, e⟩ := Value.isInt_shape (k := i) (v := v) h
   exact .inl ⟨i, t, rfl, e⟩
 | .inr x, v, h => by
   obtain ⟨t, e⟩ := Value.isStrOf_shape (x := x) (v := v) h
   exact .inr ⟨x, t, rfl, e⟩
theorem keyIs_int (i : Int) (t : Tok) : keyIs (.inl i) (.int i t) = true := by simp [keyIs, Value.isInt]
theorem keyIs_str (x : Str) (t : Tok) : keyIs (.inr x) (.str x t) = true := by simp [keyIs, Value.isStrOf]
theorem key_ll (a b : Int) : decide ((Sum.inl a : Key) = Sum.inl b) = (a == b) := by
 by_cases e : a = b
 ·subst e; simp
 ·have h : ¬ (Sum.inl a : Key) = Sum.inl b := fun q => e (Sum.inl.inj q)
  rw [decide_eq_false h]
  exact (beq_eq_false_iff_ne.mpr e).symm
theorem key_rr (a b : Str) : decide ((Sum.inr a : Key) = Sum.inr b) = decide (a = b) := by
 by_cases e : a = b
 ·subst e; simp
 ·have h : ¬ (Sum.inr a : Key) = Sum.inr b := fun q => e (Sum.inr.inj q)
  rw [decide_eq_false h, decide_eq_false e]
theorem key_lr (a : Int) (b : Str) : decide ((Sum.inl a : Key) = Sum.inr b) = false := decide_eq_false (fun q => nomatch q)
theorem key_rl (a : Str) (b : Int) : decide ((Sum.inr a : Key) = Sum.inl b) = false := decide_eq_false (fun q => nomatch q)
def mixKind (prog : Program) (w : World) : PySem.KeyKind prog w Key where
 is := keyIs
 hash := keyH w
 inj := fun v a b ha hb => by
  rcases keyIs_shape ha with ⟨i, t, rfl, rfl⟩ | ⟨x, t, rfl, rfl⟩
  ·rcases keyIs_shape hb with ⟨j, u, rfl, e⟩ | ⟨y, u, rfl, e⟩
   ·injection e with e1 _; rw [e1]
   ·exact nomatch e
  ·rcases keyIs_shape hb with ⟨j, u, rfl, e⟩ | ⟨y, u, rfl, e⟩
   ·exact nomatch e
   ·injection e with e1 _; rw [e1]
 byValue := fun k v h => by
  rcases keyIs_shape h with ⟨i, t, rfl, rfl⟩ | ⟨x, t, rfl, rfl⟩ <;> rfl
 pyHash := fun hv h => by
  rcases keyIs_shape hv with ⟨i, t, rfl, rfl⟩ | ⟨x, t, rfl, rfl⟩
  ·exact wpAny_pyHash_int h
  ·exact wpAny_pyHash_str h
 eqBool := fun hu hv h => by
  rcases keyIs_shape hu with ⟨i, t, rfl, rfl⟩ | ⟨x, t, rfl, rfl⟩
  ·rcases keyIs_shape hv with ⟨j, u, rfl, rfl⟩ | ⟨y, u, rfl, rfl⟩
   ·rw [key_ll] at h; exact wpAny_eqBool_int h
   ·rw [key_lr] at h; exact SeqAt.EqAt.int_str i t y u _ _ _ _ h
  ·rcases keyIs_shape hv with ⟨j, u, rfl, rfl⟩ | ⟨y, u, rfl, rfl⟩
   ·rw [key_rl] at h; exact SeqAt.EqAt.str_int x t j u _ _ _ _ h
   ·rw [key_rr] at h; exact wpAny_eqBool_str h
 «strs» := fun k x t v h => by
  rcases keyIs_shape h with ⟨i, u, rfl, e⟩ | ⟨y, u, rfl, e⟩
  ·exact nomatch e
  ·injection e with e1 _
   subst e1
   cases v <;> rfl
theorem mixKind_int (prog : Program) (w : World) (i : Int) (t : Tok) : (mixKind prog w).is (.inl i) (.int i t) = true := keyIs_int i t
theorem mixKind_str (prog : Program) (w : World) (x : Str) (t : Tok) : (mixKind prog w).is (.inr x) (.str x t) = true := keyIs_str x t
end L2
namespace L2
open PySem PySem.Spec PyProof.Rows
inductive V where
 | non | bl (b : Bool) | int (i : Int) | str (x : Str) | byt (b : Array UInt8) | flt (b : UInt64) | ref (a : Addr) | ty (n : String)
 deriving DecidableEq
def RelV : V -> Value -> Prop
 | .non, u => u = Value.none
 | .bl b, u => u = Value.bool b
 | .int i, u => ∃ t, u = Value.int i t
 | .str x, u => ∃ t, u = Value.str x t
 | .byt b, u => ∃ t, u = Value.bytes b t
 | .flt b, u => ∃ t, u = Value.float b t
 | .ref a, u => u = Value.ref a
 | .ty n, u => u = Value.type n
abbrev Vals : List V -> List Value -> Prop := Paired RelV
theorem Vals.length {xs : List V} {us : List Value} (r : Vals xs us) : xs.length = us.length := Paired.length r
theorem Vals.get : ∀ {xs : List V} {us : List Value} {i : Nat} {x : V}, Vals xs us -> xs[i]? = some x -> ∃ u, us[i]? = some u /\ RelV x u
 | _, _, _, _, .nil, e => by simp at e
 | _, _, 0, _, .cons r _, e => by simp at e; subst e; exact ⟨_, rfl, r⟩
 | _, _, i + 1, x, .cons _ t, e => by
   obtain ⟨u, h1, h2⟩ := Vals.get (i := i) (x := x) t (by simpa using e)
   exact ⟨u, by simpa using h1, h2⟩
theorem Vals.append : ∀ {xs ys : List V} {us ws : List Value}, Vals xs us -> Vals ys ws -> Vals (xs ++ ys) (us ++ ws)
 | _, _, _, _, .nil, s => s
 | _, _, _, _, .cons r t, s => .cons r (Vals.append t s)
theorem Vals.take : ∀ {xs : List V} {us : List Value} (n : Nat), Vals xs us -> Vals (xs.take n) (us.take n)
 | _, _, 0, _ => .nil
 | _, _, _ + 1, .nil => .nil
 | _, _, n + 1, .cons r t => .cons r (Vals.take n t)
theorem Vals.drop : ∀ {xs : List V} {us : List Value} (n : Nat), Vals xs us -> Vals (xs.drop n) (us.drop n)
 | _, _, 0, r => r
 | _, _, _ + 1, .nil => .nil
 | _, _, n + 1, .cons _ t => Vals.drop n t
def RelO : Option V -> Option Value -> Prop
 | some v, some u => RelV v u
 | none, none => True
 | _, _ => False
def KV {κ : Type} : List (κ × V) -> List (κ × Value) -> Prop := Paired fun (p : κ × V) (q : κ × Value) => p.1 = q.1 /\ RelV p.2 q.2
def kV : Key -> V
 | .inl i => .int i
 | .inr x => .str x
inductive HO where
 | lst (xs : List V)
 | tup (xs : List V)
 | dK (kvs : List (Key × V)) | dT (kvs : List (List Key × V))
 | set (S : Int -> Bool) (n : Nat)
 | ins (C dx : Addr) (fs : List (Str × V))
 | own (x : Addr)
 | xd (fs : List (Str × V))
 | met (f x : Addr)
 | rng (lo hi : Int)
 | frz (o : Obj) (u : HO)
 | tbl (ps : Array Value)
 | ext (φ : Heap -> Prop)
abbrev Hp := Addr -> Option HO
def upd (H : Hp) (a : Addr) (o : HO) : Hp := fun b => if b = a then some o else H b
theorem upd_same {H : Hp} {a : Addr} {o : HO} : upd H a o a = some o := by unfold upd; rw [if_pos rfl]
theorem upd_ne {H : Hp} {a b : Addr} {o : HO} (h : b ≠ a) : upd H a o b = H b := by unfold upd; rw [if_neg h]
theorem ne_of {H : Hp} {a b : Addr} {o u : HO} (h : H a = some o) (h' : H b = some u) (d : o ≠ u) : a ≠ b := by
 intro e; subst e; rw [h] at h'; exact d (Option.some.inj h')
theorem ne_of_none {H : Hp} {a b : Addr} {o : HO} (h : H a = some o) (h' : H b = none) : a ≠ b := by
 intro e; subst e; rw [h] at h'; cases h'
section
variable (P : Program) (w : World)
def ObjOk (H : Hp) (h : Heap) (a : Addr) : HO -> Prop
 | .lst xs => xs.length ≤ sizeLine /\ ∃ (its : List Value) (n : Nat), Vals xs its /\ h.get? a = some { cls := .type "list", data := .seq its.toArray n }
 | .tup xs => xs.length ≤ sizeLine /\ ∃ its : List Value, Vals xs its /\ IsTup h a its.toArray
 | .dK kvs => kvs.length ≤ sizeLine /\ (a == sysModules) = false /\ ∃ vs, KV kvs vs /\ h.DictOf (mixKind P w) a vs
 | .dT kvs => kvs.length ≤ sizeLine /\ (a == sysModules) = false /\ ∃ xs : List (List Key × Addr × Value),
   Paired (fun (p : List Key × V) (q : List Key × Addr × Value) => p.1 = q.1 /\ H q.2.1 = some (.tup (p.1.map kV)) /\ RelV p.2 q.2.2) kvs xs /\
   ∃ o es ep, h.get? a = some o /\ o.ExactDict /\ o.data = .dict es ep /\ es.toList = xs.map (entryOfKey (tupleKind (mixKind P w))) /\ (xs.map (·.1)).Nodup
 | .set S n => h.SetOf (intKind P w) a S n
 | .ins C dx fs => H dx = some (.own a) /\ fs.length ≤ 1000 /\ dx ≠ a /\ h.get? a = some (PySem.W.instObj C dx) /\
   ∃ mA, h.Ns1 dx mA /\ (∀ f, RelO (fs.lookup f) (mA f)) /\ PySem.Within mA (fs.map (·.1))
 | .own _ => ∃ o, h.get? a = some o
 | .xd fs => ∃ mA, h.Ns1 a mA /\ ∀ f, RelO (fs.lookup f) (mA f)
 | .rng lo hi => ∃ t u v, h.get? a = some { cls := .type "range", data := .fields #[.int lo t, .int hi u, .int 1 v] }
 | .frz o u => h.get? a = some o /\ ObjOk H h a u
 | .tbl ps => h.get? a = some { cls := .none, data := .fields ps }
 | .met f x => h.get? a = some (PySem.W.methodObj (.ref f) (.ref x))
 | .ext φ => φ h /\ (∃ o, h.get? a = some o) /\ ∀ h1 h2 : Heap, φ h1 -> (∀ o, h1.get? a = some o -> h2.get? a = some o) -> φ h2
def HOk (H : Hp) (h : Heap) : Prop := ∀ a o, H a = some o -> ObjOk P w H h a o
end
section
variable {P : Program} {w : World} {H H' : Hp} {h h' : Heap} {a : Addr} {o : HO}
theorem ObjOk.lt (x : ObjOk P w H h a o) : a < h.objs.size := by
 cases o with
 | lst xs => obtain ⟨_, _, _, _, e⟩ := x; exact Heap.lt_size e
 | tup xs => obtain ⟨_, _, _, p⟩ := x; exact p.lt
 | dK kvs => obtain ⟨_, _, _, _, o, _, _, e, _⟩ := x; exact Heap.lt_size e
 | dT kvs => obtain ⟨_, _, _, _, o, _, _, e, _⟩ := x; exact Heap.lt_size e
 | set S n => obtain ⟨o, _, _, _, e, _⟩ := x; exact Heap.lt_size e
 | ins C dx fs => obtain ⟨_, _, _, e, _⟩ := x; exact Heap.lt_size e
 | own y => obtain ⟨_, e⟩ := x; exact Heap.lt_size e
 | xd fs => obtain ⟨_, ⟨_, _, _, e, _⟩, _⟩ := x; exact Heap.lt_size e
 | rng lo hi => obtain ⟨_, _, _, e⟩ := x; exact Heap.lt_size e
 | frz ob u => obtain ⟨e, _⟩ := x; exact Heap.lt_size e
 | tbl ps => exact Heap.lt_size (show h.get? a = some _ from x)
 | met f y => exact Heap.lt_size (show h.get? a = some _ from x)
 | ext φ => obtain ⟨_, ⟨_, e⟩, _⟩ := x; exact Heap.lt_size e
theorem Paired.mapP {α β : Type} {F G : α -> β -> Prop} : ∀ {l₁ : List α} {l₂ : List β}, Paired F l₁ l₂ -> (∀ a b, F a b -> G a b) -> Paired G l₁ l₂
 | _, _, .nil, _ => .nil
 | _, _, .cons r t, f => .cons (f _ _ r) (Paired.mapP t f)
theorem ObjOk.stay (x : ObjOk P w H h a o) (k : ∀ b u, (b = a \/ H b = some (.own a)) -> h.get? b = some u -> h'.get? b = some u)
  (ho : ∀ b, H b = some (.own a) -> H' b = some (.own a)) (ht : ∀ b xs, H b = some (.tup xs) -> H' b = some (.tup xs)) : ObjOk P w H' h' a o := by
 induction o with
 | lst xs => obtain ⟨z, its, n, r, e⟩ := x; exact ⟨z, its, n, r, k _ _ (.inl rfl) e⟩
 | tup xs => obtain ⟨z, its, r, ob, e, c⟩ := x; exact ⟨z, its, r, ob, k _ _ (.inl rfl) e, c⟩
 | dK kvs => obtain ⟨z, y, vs, r, ob, es, ep, e, c⟩ := x; exact ⟨z, y, vs, r, ob, es, ep, k _ _ (.inl rfl) e, c⟩
 | dT kvs =>
   obtain ⟨z, y, xs, r, ob, es, ep, e, c⟩ := x
   exact ⟨z, y, xs, Paired.mapP r fun p q z => ⟨z.1, ht _ _ z.2.1, z.2.2⟩, ob, es, ep, k _ _ (.inl rfl) e, c⟩
 | set S n => obtain ⟨ob, es, ep, t, e, c⟩ := x; exact ⟨ob, es, ep, t, k _ _ (.inl rfl) e, c⟩
 | ins C dx fs =>
   obtain ⟨d, z, ne, e, mA, ⟨od, es, ep, e2, c⟩, r⟩ := x
   exact ⟨ho _ d, z, ne, k _ _ (.inl rfl) e, mA, ⟨od, es, ep, k _ _ (.inr d) e2, c⟩, r⟩
 | own y => obtain ⟨ob, e⟩ := x; exact ⟨ob, k _ _ (.inl rfl) e⟩
 | xd fs => obtain ⟨mA, ⟨od, es, ep, e, c⟩, r⟩ := x; exact ⟨mA, ⟨od, es, ep, k _ _ (.inl rfl) e, c⟩, r⟩
 | rng lo hi => obtain ⟨t, u, v, e⟩ := x; exact ⟨t, u, v, k _ _ (.inl rfl) e⟩
 | frz ob u ih => obtain ⟨e, q⟩ := x; exact ⟨k _ _ (.inl rfl) e, ih q⟩
 | tbl ps =>
   have e : h.get? a = some { cls := .none, data := .fields ps } := x
   show h'.get? a = some { cls := .none, data := .fields ps }
   exact k a _ (.inl rfl) e
 | met f y =>
   have e : h.get? a = some (PySem.W.methodObj (.ref f) (.ref y)) := x
   show h'.get? a = some (PySem.W.methodObj (.ref f) (.ref y))
   exact k a _ (.inl rfl) e
 | ext φ => obtain ⟨p, ⟨o, e⟩, st⟩ := x; exact ⟨st _ _ p fun o q => k _ _ (.inl rfl) q, ⟨o, k _ _ (.inl rfl) e⟩, st⟩
theorem HOk.lt (x : HOk P w H h) (e : H a = some o) : a < h.objs.size := (x a o e).lt
theorem HOk.fresh (x : HOk P w H h) (e : h.objs.size ≤ a) : H a = none := by
 cases q : H a with
 | none => rfl
 | some u => exact absurd (Nat.lt_of_lt_of_le (x.lt q) e) (Nat.lt_irrefl _)
theorem HOk.kept (x : HOk P w H h) (k : ∀ b u, h.get? b = some u -> h'.get? b = some u) : HOk P w H h' := fun a o e =>
 (x a o e).stay (fun b u _ q => k b u q) (fun _ q => q) fun _ _ q => q
theorem HOk.laid (x : HOk P w H h) (k : ∀ b u, h.get? b = some u -> h'.get? b = some u) (hp : h.objs.size ≤ a) (new : ObjOk P w (upd H a o) h' a o) : HOk P w (upd H a o) h' := fun b u e => by
 have hn := x.fresh hp
 by_cases hb : b = a
 ·subst hb; rw [upd_same] at e; cases e; exact new
 ·rw [upd_ne hb] at e
  exact (x b u e).stay (fun c v _ q => k c v q) (fun c q => by rw [upd_ne (ne_of_none q hn)]; exact q) fun c xs q => by rw [upd_ne (ne_of_none q hn)]; exact q
end
def Rd (H : Hp) (a : Addr) (u : HO) : Prop := H a = some u \/ ∃ o, H a = some (.frz o u)
theorem Rd.ok {P : Program} {w : World} {H : Hp} {h : Heap} {a : Addr} {u : HO} (r : Rd H a u) (x : HOk P w H h) : ObjOk P w H h a u := by
 rcases r with r | ⟨o, r⟩
 ·exact x a u r
 ·obtain ⟨_, q⟩ := x a _ r
  exact q
def Mut : Option HO -> Prop
 | some (.lst _) => True
 | some (.dK _) => True
 | some (.dT _) => True
 | some (.set _ _) => True
 | some (.ins _ _ _) => True
 | some (.ext _) => True
 | _ => False
section
variable {P : Program} {w : World} {H : Hp} {h h' : Heap} {x e : Addr} {o' : HO}
theorem HOk.write (ok : HOk P w H h) (mu : Mut (H x)) (he : e = x \/ H e = some (.own x)) (k : ∀ b u, b ≠ e -> h.get? b = some u -> h'.get? b = some u) (heo : ∃ u, h'.get? e = some u)
  (new : ObjOk P w (upd H x o') h' x o') : HOk P w (upd H x o') h' := fun b u q => by
 have nown : ∀ c y, H c = some (.own y) -> c ≠ x := fun c y r z => by subst z; rw [r] at mu; exact mu
 have ntup : ∀ c xs, H c = some (.tup xs) -> c ≠ x := fun c xs r z => by subst z; rw [r] at mu; exact mu
 by_cases hb : b = x
 ·subst hb; rw [upd_same] at q; cases q; exact new
 ·rw [upd_ne hb] at q
  by_cases hbe : b = e
  ·have q' : H b = some (.own x) := by
    rcases he with z | z
    ·exact absurd (hbe.trans z) hb
    ·rw [hbe]; exact z
   rw [q] at q'; cases q'
   obtain ⟨v, hv⟩ := heo
   exact ⟨v, by rw [hbe]; exact hv⟩
  ·refine (ok b u q).stay (fun c v hc r => k c v ?_ r) (fun c r => by rw [upd_ne (nown c b r)]; exact r) fun c xs r => by rw [upd_ne (ntup c xs r)]; exact r
   rcases hc with rfl | hc
   ·exact hbe
   ·rintro rfl
    rcases he with z | z
    ·exact nown c b hc z
    ·rw [hc] at z; cases z; exact hb rfl
end
structure Un (fs ex : List Addr) (H H' : Hp) (h h' : Heap) : Prop where
 keep : ∀ b o, h.get? b = some o -> H b = none -> b ∉ fs -> b ∉ ex -> h'.get? b = some o
 slot : ∀ b o, h.get? b = some o -> H b = none -> b ∈ fs -> b ∉ ex -> ∃ sl, h'.get? b = some { o with slots := sl }
 free : ∀ b o, h.get? b = some o -> H b = none -> b ∉ ex -> H' b = none
 there : ∀ b o, h.get? b = some o -> b ∉ ex -> ∃ o', h'.get? b = some o'
 tups : ∀ b xs, H b = some (.tup xs) -> H' b = some (.tup xs)
 frzs : ∀ b o u, H b = some (.frz o u) -> H' b = some (.frz o u)
 tbls : ∀ b ps, H b = some (.tbl ps) -> ∃ more, H' b = some (.tbl (ps ++ more))
section
variable {fs fs' ex ex' : List Addr} {H H1 H2 : Hp} {h h1 h2 h' : Heap} {a x e : Addr} {o : HO}
theorem Un.any (u : Un fs ex H H1 h h1) {b : Addr} {ob : Obj} (q : h.get? b = some ob) (n : H b = none) (hx : b ∉ ex) : ∃ sl, h1.get? b = some { ob with slots := sl } := by
 by_cases hb : b ∈ fs
 ·exact u.slot b ob q n hb hx
 ·exact ⟨ob.slots, u.keep b ob q n hb hx⟩
theorem Un.kept (k : ∀ b u, h.get? b = some u -> h'.get? b = some u) : Un fs ex H H h h' :=
 ⟨fun b ob q _ _ _ => k b ob q, fun b ob q _ _ _ => ⟨ob.slots, k b ob q⟩, fun _ _ _ n _ => n, fun b ob q _ => ⟨ob, k b ob q⟩, fun _ _ q => q, fun _ _ _ q => q, fun _ ps q => ⟨#[], by rw [q]; simp⟩⟩
theorem Un.refl : Un fs ex H H h h := Un.kept fun _ _ q => q
theorem Un.laid (k : ∀ b u, h.get? b = some u -> h'.get? b = some u) (hp : h.objs.size ≤ a) (hn : H a = none) : Un fs ex H (upd H a o) h h' where
 keep := fun b u q _ _ _ => k b u q
 slot := fun b u q _ _ _ => ⟨u.slots, k b u q⟩
 free := fun b u q n _ => by rw [upd_ne (Nat.ne_of_lt (Nat.lt_of_lt_of_le (Heap.lt_size q) hp))]; exact n
 there := fun b u q _ => ⟨u, k b u q⟩
 tups := fun b xs q => by rw [upd_ne (ne_of_none q hn)]; exact q
 frzs := fun b u xs q => by rw [upd_ne (ne_of_none q hn)]; exact q
 tbls := fun b ps q => ⟨#[], by rw [upd_ne (ne_of_none q hn), q]; simp⟩
theorem Un.write (mu : Mut (H x)) (he : e = x \/ H e = some (.own x)) (k : ∀ b u, b ≠ e -> h.get? b = some u -> h'.get? b = some u) (heo : ∃ u, h'.get? e = some u) : Un fs ex H (upd H x o) h h' := by
 have hx : ∀ b, H b = none -> b ≠ x := fun b n z => by subst z; rw [n] at mu; exact mu
 have hb : ∀ b, H b = none -> b ≠ e := fun b n z => by
  subst z
  rcases he with r | r
  ·exact hx b n r
  ·rw [n] at r; cases r
 have hm : ∀ b u, H b = some u -> ¬ Mut (some u) -> b ≠ x := fun b u q nm z => by subst z; rw [q] at mu; exact nm mu
 refine ⟨fun b u q n _ _ => k b u (hb b n) q, fun b u q n _ _ => ⟨u.slots, k b u (hb b n) q⟩, fun b u q n _ => by rw [upd_ne (hx b n)]; exact n, fun b u q _ => ?_,
  fun b xs q => by rw [upd_ne (hm b _ q fun z => z)]; exact q, fun b u xs q => by rw [upd_ne (hm b _ q fun z => z)]; exact q, fun b ps q => ⟨#[], by rw [upd_ne (hm b _ q fun z => z), q]; simp⟩⟩
 by_cases hbe : b = e
 ·subst hbe; exact heo
 ·exact ⟨u, k b u hbe q⟩
end
def trk (h : Heap) (H : Hp) : List Addr := (List.range h.objs.size).filter fun a => (H a).isSome
def hidT (h : Heap) (H : Hp) : Heap := PySem.W.hideAll h (trk h H)
theorem hidT_size (h : Heap) (H : Hp) : (hidT h H).objs.size = h.objs.size := PySem.W.hideAll_size _ _
theorem hidT_get {h : Heap} {H : Hp} {b : Addr} {o : Obj} (e : h.get? b = some o) (n : H b = none) : (hidT h H).get? b = some o :=
 PySem.W.hideAll_get _ e fun hm => by
  have q : (H b).isSome = true := (List.mem_filter.mp hm).2
  rw [n] at q; simp at q
theorem of_hidT {h : Heap} {H : Hp} {b : Addr} {o : Obj} (e : (hidT h H).get? b = some o) : h.get? b = some o /\ H b = none := by
 have e' : h.get? b = some o := PySem.W.of_hideAll (trk h H) e
 refine ⟨e', ?_⟩
 cases q : H b with
 | none => rfl
 | some x =>
   have hm : b ∈ trk h H := List.mem_filter.mpr ⟨List.mem_range.mpr (Heap.lt_size e'), by simp [q]⟩
   have z : (hidT h H).get? b = none := PySem.W.hideAll_none (trk h H) hm
   rw [z] at e; cases e
def allNews (g h : Heap) (L : Addr) : List (Addr × Obj) := (List.range h.objs.size).filterMap fun a => if a = L \/ (g.get? a).isSome = true then none else (h.get? a).map fun o => (a, o)
def rest (g h : Heap) (L d : Addr) : List (Addr × Obj) := (allNews g h L).filter fun p => decide (p.1 ≠ d)
end L2
namespace L2
open PySem PySem.Spec PyProof.Rows
structure Mod (K : PySem.W.Frag) (mg : Str -> Option Value) (base : Heap) : Prop where
 kin : K.In base
 glob : base.Ns mainGlobals mg
 blt : ∃ mb, base.Ns builtinsNs mb /\ ∀ x : Str, x ≠ "__name__" -> mb x = bootBuiltins x
 nolimit : base.NoLimit
structure Cx where
 prog : Program
 w : World
 K : PySem.W.Frag
 mg : Str -> Option Value
 base : Heap
 A : Around
 N : List Str
 s₀ : Shared
 H₀ : Hp
 env : Env
 outer : List Env
 stack : List Env
 ex : List Addr
 fn : Str -> Bool
 calm : Bool
 pn : List (Addr × Obj)
 xe : Value -> Shared -> Prop
def frs (l : List Env) : List Addr := l.filterMap (·.frame)
abbrev Cx.fs (X : Cx) : List Addr := frs X.outer
def Vis (sc : Scope) (x : Str) : Prop := sc.names.lookup x = some .local \/ sc.names.lookup x = some .cell \/ sc.names.lookup x = some .free
def Loc (sc : Scope) (x : Str) : Prop := sc.names.lookup x = some .local \/ sc.names.lookup x = some .cell
def Look (env : Env) (h : Heap) (m : Str -> Option Value) (x : Str) (u : Value) : Prop :=
 (env.kindOf x = some .local /\ m x = some u) \/ ((env.kindOf x = some .cell \/ env.kindOf x = some .free) /\ ∃ c, env.cells.lookup x = some c /\ h.IsCell c (some u))
structure Cx.Ok (X : Cx) : Prop where
 mod : Mod X.K X.mg X.base
 kind : X.env.scope.kind = .function
 glob : X.env.globals = mainGlobals
 blt : X.env.builtins = builtinsNs
 above : X.s₀.heap.objs.size ≤ X.env.locals
 inj : ∀ x y c, X.env.cells.lookup x = some c -> X.env.cells.lookup y = some c -> x = y
 has : ∀ x, (X.env.kindOf x = some .cell \/ X.env.kindOf x = some .free) -> ∃ c, X.env.cells.lookup x = some c
 cab : ∀ x c, X.fn x = true -> X.env.cells.lookup x = some c -> X.s₀.heap.objs.size ≤ c
 hd : X.calm = true -> X.A.handled = none
 frames : X.A.frames = some X.stack
 stk : X.stack = X.outer \/ (X.stack = X.env :: X.outer /\ X.env.frame = some X.env.locals)
 exf : ∀ b ∈ X.ex, b ≠ X.env.locals /\ ∀ x c, X.env.cells.lookup x = some c -> c ≠ b
 bs : ∀ b o, X.base.get? b = some o -> X.s₀.heap.get? b = some o /\ X.H₀ b = none
 bsz : X.base.objs.size ≤ X.s₀.heap.objs.size
 noex : ∀ b o, X.base.get? b = some o -> b ∉ X.ex
 exfs : ∀ b ∈ X.ex, b ∉ X.fs
 funs : X.s₀.heap.FunFrames X.base X.outer
 frf : ∀ b ∈ X.fs, X.H₀ b = none
structure Inv (X : Cx) (pins : List (Addr × Obj)) (σ : List (Option V)) (H : Hp) (s : Shared) : Prop where
 ok : X.Ok
 os : s.os = X.s₀.os
 bare : AllBare s.gens
 base : Un X.fs X.ex X.H₀ H X.s₀.heap s.heap
 loc : ∃ m, s.heap.Ns X.env.locals m /\ ∀ (i : Nat) (x : Str) (v : V), X.N[i]? = some x -> σ[i]? = some (some v) -> Vis X.env.scope x -> ∃ u, RelV v u /\ Look X.env s.heap m x u
 cell : ∀ x c, X.env.cells.lookup x = some c -> ∃ v, s.heap.IsCell c v
 free : H X.env.locals = none
 freeC : ∀ x c, X.env.cells.lookup x = some c -> H c = none
 pin : ∀ p ∈ X.pn ++ pins, s.heap.get? p.1 = some p.2 /\ H p.1 = none /\ p.1 ≠ X.env.locals /\ p.1 ∉ X.fs /\ ∀ v, p.2.data ≠ .cell v
 hok : HOk X.prog X.w H s.heap
 len : σ.length = X.N.length
section
variable {X : Cx} {pins : List (Addr × Obj)} {σ : List (Option V)} {H H' : Hp} {s : Shared} {h' : Heap}
theorem Cx.Ok.nofr (ok : X.Ok) {b : Addr} {o : Obj} (e : X.base.get? b = some o) : b ∉ X.fs := fun hb => by
 have := (ok.funs.mem hb).1
 rw [e] at this; cases this
theorem Inv.bs (I : Inv X pins σ H s) : ∀ b o, X.base.get? b = some o -> s.heap.get? b = some o /\ H b = none := fun b o e =>
 ⟨I.base.keep b o (I.ok.bs b o e).1 (I.ok.bs b o e).2 (I.ok.nofr e) (I.ok.noex b o e), I.base.free b o (I.ok.bs b o e).1 (I.ok.bs b o e).2 (I.ok.noex b o e)⟩
theorem Inv.bk (I : Inv X pins σ H s) : ∀ b o, X.base.get? b = some o -> s.heap.get? b = some o := fun b o e => (I.bs b o e).1
theorem Inv.mod (I : Inv X pins σ H s) : Mod X.K X.mg X.base := I.ok.mod
theorem Inv.kIn (I : Inv X pins σ H s) : X.K.In s.heap := I.ok.mod.kin.keeps I.bk
theorem Inv.lt (I : Inv X pins σ H s) : X.env.locals < s.heap.objs.size := let ⟨_, hn, _⟩ := I.loc; hn.lt
theorem Inv.sz (I : Inv X pins σ H s) : X.s₀.heap.objs.size ≤ s.heap.objs.size := Nat.le_trans I.ok.above (Nat.le_of_lt I.lt)
theorem Inv.nofs (I : Inv X pins σ H s) {a : Addr} (h : s.heap.objs.size ≤ a) : a ∉ X.fs := fun hb => by
 obtain ⟨_, o, ho, _⟩ := I.ok.funs.mem hb
 exact absurd (Nat.lt_of_lt_of_le (Heap.lt_size ho) (Nat.le_trans I.sz h)) (Nat.lt_irrefl _)
theorem Inv.cne (I : Inv X pins σ H s) : ∀ x c, X.env.cells.lookup x = some c -> c ≠ X.env.locals := fun x c e z => by
 obtain ⟨v, o, ho, hd⟩ := I.cell x c e
 obtain ⟨m, ⟨o', es, ep, ho', hd', _⟩, _⟩ := I.loc
 rw [z, ho'] at ho; cases ho; rw [hd'] at hd; cases hd
theorem Inv.funs (I : Inv X pins σ H s) : s.heap.FunFrames X.base X.outer := by
 have all : ∀ (l : List Env), (∀ b ∈ frs l, b ∈ X.fs) -> X.s₀.heap.FunFrames X.base l -> s.heap.FunFrames X.base l := by
  intro l
  induction l with
  | nil => intro _ _; trivial
  | cons env r ih =>
    intro hs hl
    obtain ⟨hk, ⟨L, o, hf, hn, ho, hd⟩, hr⟩ := hl
    have hL : L ∈ X.fs := hs L (by unfold frs; rw [List.filterMap_cons, hf]; exact List.mem_cons_self)
    obtain ⟨sl, e⟩ := I.base.slot L o ho (I.ok.frf L hL) hL fun z => I.ok.exfs L z hL
    exact ⟨hk, ⟨L, _, hf, hn, e, hd⟩, ih (fun b hb => hs b (by unfold frs; rw [List.filterMap_cons, hf]; exact List.mem_cons_of_mem _ hb)) hr⟩
 exact all X.outer (fun _ hb => hb) I.ok.funs
theorem Inv.stack (I : Inv X pins σ H s) : s.heap.FunFrames X.base X.stack := by
 rcases I.ok.stk with e | ⟨e, hf⟩
 ·rw [e]; exact I.funs
 ·rw [e]
  obtain ⟨m, hn, _⟩ := I.loc
  refine .cons (by rw [I.ok.kind]; decide) hf hn ?_ I.funs
  exact Heap.get?_none_of_le (Nat.le_trans I.ok.bsz I.ok.above)
theorem Inv.stkSub (I : Inv X pins σ H s) : ∀ b ∈ frs X.stack, b ∈ X.env.locals :: X.fs := fun b hb => by
 rcases I.ok.stk with e | ⟨e, hf⟩
 ·rw [e] at hb; exact List.mem_cons_of_mem _ hb
 ·rw [e] at hb
  unfold frs at hb
  rw [List.filterMap_cons, hf] at hb
  exact hb
theorem Inv.stkFree (I : Inv X pins σ H s) : ∀ b ∈ frs X.stack, H b = none := fun b hb => by
 rcases List.mem_cons.mp (I.stkSub b hb) with e | hb
 ·rw [e]; exact I.free
 ·obtain ⟨_, o, ho, _⟩ := I.ok.funs.mem hb
  exact I.base.free b o ho (I.ok.frf b hb) fun z => I.ok.exfs b z hb
theorem Inv.step {g' : Array GenState} {t' : Nat} {d' : Drawn} {ch : List Addr} (I : Inv X pins σ H s)
  (hch : ∀ b ∈ ch, (b ∈ X.ex \/ X.s₀.heap.get? b = none) /\ b ≠ X.env.locals /\ (∀ x c, X.env.cells.lookup x = some c -> c ≠ b) /\ ∀ p ∈ X.pn ++ pins, p.1 ≠ b)
  (keep : ∀ b o, b ≠ X.env.locals -> b ∉ X.fs -> b ∉ ch -> s.heap.get? b = some o -> H b = none -> h'.get? b = some o)
  (slot : ∀ b o, b ≠ X.env.locals -> b ∈ X.fs -> b ∉ ch -> s.heap.get? b = some o -> H b = none -> ∃ sl, h'.get? b = some { o with slots := sl }) (free : ∀ b o, b ∉ ch -> s.heap.get? b = some o -> H b = none -> H' b = none)
  (there : ∀ b o, b ∉ ch -> s.heap.get? b = some o -> ∃ o', h'.get? b = some o')
  (tups : ∀ b xs, H b = some (.tup xs) -> H' b = some (.tup xs)) (frzs : ∀ b o u, H b = some (.frz o u) -> H' b = some (.frz o u)) (tbls : ∀ b ps, H b = some (.tbl ps) -> ∃ more, H' b = some (.tbl (ps ++ more)))
  (ns : ∀ m, s.heap.Ns X.env.locals m -> h'.Ns X.env.locals m) (hok : HOk X.prog X.w H' h') (hg : AllBare g') :
  Inv X pins σ H' { s with heap := h', gens := g', drawn := d', toks := t' } := by
 have neL : ∀ b o, X.s₀.heap.get? b = some o -> b ≠ X.env.locals := fun b o e => Nat.ne_of_lt (Nat.lt_of_lt_of_le (Heap.lt_size e) I.ok.above)
 have neC : ∀ b o, X.s₀.heap.get? b = some o -> b ∉ X.ex -> b ∉ ch := fun b o e hx hb => by
  rcases (hch b hb).1 with z | z
  ·exact hx z
  ·rw [e] at z; cases z
 have cellK : ∀ x c, X.env.cells.lookup x = some c -> ∀ v, s.heap.IsCell c v -> h'.IsCell c v := fun x c e v ⟨o, ho, hd⟩ => by
  have nch : c ∉ ch := fun z => (hch c z).2.2.1 x c e rfl
  by_cases hc : c ∈ X.fs
  ·obtain ⟨sl, q⟩ := slot c o (I.cne x c e) hc nch ho (I.freeC x c e)
   exact ⟨_, q, hd⟩
  ·exact ⟨o, keep c o (I.cne x c e) hc nch ho (I.freeC x c e), hd⟩
 refine ⟨I.ok, I.os, hg, ⟨fun b o e n hb hx => ?_, fun b o e n hb hx => ?_, fun b o e n hx => ?_, fun b o e hx => ?_, fun b xs e => tups b xs (I.base.tups b xs e), fun b o xs e => frzs b o xs (I.base.frzs b o xs e), fun b ps e => ?_⟩, ?_, fun x c e => ?_, ?_, fun x c e => ?_, fun p hp => ?_, hok, I.len⟩
 ·exact keep b o (neL b o e) hb (neC b o e hx) (I.base.keep b o e n hb hx) (I.base.free b o e n hx)
 ·obtain ⟨sl, e1⟩ := I.base.slot b o e n hb hx
  obtain ⟨sl', e2⟩ := slot b _ (neL b o e) hb (neC b o e hx) e1 (I.base.free b o e n hx)
  exact ⟨sl', e2⟩
 ·obtain ⟨o', e1⟩ := I.base.there b o e hx
  exact free b o' (neC b o e hx) e1 (I.base.free b o e n hx)
 ·obtain ⟨o', e1⟩ := I.base.there b o e hx
  exact there b o' (neC b o e hx) e1
 ·obtain ⟨m1, e1⟩ := I.base.tbls b ps e
  obtain ⟨m2, e2⟩ := tbls b _ e1
  exact ⟨m1 ++ m2, by rw [e2, Array.append_assoc]⟩
 ·obtain ⟨m, hn, hl⟩ := I.loc
  refine ⟨m, ns m hn, fun i x v e1 e2 e3 => ?_⟩
  obtain ⟨u, r, l⟩ := hl i x v e1 e2 e3
  refine ⟨u, r, ?_⟩
  rcases l with l | ⟨k, c, e, z⟩
  ·exact .inl l
  ·exact .inr ⟨k, c, e, cellK x c e _ z⟩
 ·obtain ⟨v, z⟩ := I.cell x c e
  exact ⟨v, cellK x c e v z⟩
 ·obtain ⟨m, ⟨o, _, _, ho, _⟩, _⟩ := I.loc
  exact free _ o (fun z => (hch _ z).2.1 rfl) ho I.free
 ·obtain ⟨v, o, ho, hd⟩ := I.cell x c e
  exact free c o (fun z => (hch c z).2.2.1 x c e rfl) ho (I.freeC x c e)
 ·obtain ⟨e, n, ne, nf, d⟩ := I.pin p hp
  have nch : p.1 ∉ ch := fun z => (hch p.1 z).2.2.2 p hp rfl
  exact ⟨keep p.1 p.2 ne nf nch e n, free p.1 p.2 nch e n, ne, nf, d⟩
theorem Inv.un {t' : Nat} (I : Inv X pins σ H s) (u : Un X.fs [] H H' s.heap h') (hok : HOk X.prog X.w H' h') : Inv X pins σ H' { s with heap := h', toks := t' } := by
 obtain ⟨m, ⟨o, es, ep, ho, r⟩, _⟩ := id I.loc
 obtain ⟨sl, hL⟩ := u.any ho I.free (by simp)
 exact I.step (g' := s.gens) (d' := s.drawn) (ch := []) (fun _ z => nomatch z) (fun b o _ hb _ e n => u.keep b o e n hb (by simp)) (fun b o _ hb _ e n => u.slot b o e n hb (by simp)) (fun b o _ e n => u.free b o e n (by simp)) (fun b o _ e => u.there b o e (by simp)) u.tups u.frzs u.tbls (fun m' hm => by
  obtain ⟨o', es', ep', ho', r'⟩ := hm
  rw [ho] at ho'; cases ho'
  exact ⟨_, es', ep', hL, r'⟩) hok I.bare
theorem Inv.call {g' : Array GenState} {t' : Nat} {d' : Drawn} {ch : List Addr} (I : Inv X pins σ H s) (u : Un (frs X.stack) ch H H' s.heap h') (hok : HOk X.prog X.w H' h') (hg : AllBare g')
  (hch : ∀ b ∈ ch, (b ∈ X.ex \/ X.s₀.heap.get? b = none) /\ b ≠ X.env.locals /\ (∀ x c, X.env.cells.lookup x = some c -> c ≠ b) /\ ∀ p ∈ X.pn ++ pins, p.1 ≠ b) :
  Inv X pins σ H' { s with heap := h', gens := g', drawn := d', toks := t' } := by
 obtain ⟨m, ⟨o, es, ep, ho, r⟩, _⟩ := id I.loc
 obtain ⟨sl, hL⟩ := u.any ho I.free fun z => (hch _ z).2.1 rfl
 exact I.step (ch := ch) hch (fun b o hL hb hc e n => u.keep b o e n (fun z => (List.mem_cons.mp (I.stkSub b z)).elim hL hb) hc) (fun b o _ _ hc e n => u.any e n hc) (fun b o hc e n => u.free b o e n hc) (fun b o hc e => u.there b o e hc) u.tups u.frzs u.tbls (fun m' hm => by
  obtain ⟨o', es', ep', ho', r'⟩ := hm
  rw [ho] at ho'; cases ho'
  exact ⟨_, es', ep', hL, r'⟩) hok hg
theorem Inv.turned {t' : Nat} {it : Addr} (I : Inv X pins σ H s) (k : ∀ b o, b ≠ it -> s.heap.get? b = some o -> h'.get? b = some o) (hn : H it = none) (hL : it ≠ X.env.locals)
  (h1 : it ∈ X.ex \/ X.s₀.heap.get? it = none) (h2 : ∀ x c, X.env.cells.lookup x = some c -> c ≠ it) (h3 : ∀ p ∈ X.pn ++ pins, p.1 ≠ it) : Inv X pins σ H { s with heap := h', toks := t' } := by
 have nit : ∀ b u, H b = some u -> b ≠ it := fun b u e z => by rw [z, hn] at e; cases e
 refine I.step (g' := s.gens) (d' := s.drawn) (ch := [it]) (fun b hb => ?_) (fun b o _ _ hc e _ => k b o (fun z => hc (by simp [z])) e) (fun b o _ _ hc e _ => ⟨o.slots, k b o (fun z => hc (by simp [z])) e⟩) (fun _ _ _ _ n => n)
  (fun b o hc e => ⟨o, k b o (fun z => hc (by simp [z])) e⟩) (fun _ _ e => e) (fun _ _ _ e => e) (fun b ps e => ⟨#[], by rw [e]; simp⟩) (fun m hm => ?_) (fun b u e => ?_) I.bare
 ·have e : b = it := by simpa using hb
  subst e
  exact ⟨h1, hL, h2, h3⟩
 ·obtain ⟨o, es, ep, ho, r⟩ := hm
  exact ⟨o, es, ep, k _ o (Ne.symm hL) ho, r⟩
 ·refine (I.hok b u e).stay (fun c v hc q => k c v ?_ q) (fun _ q => q) fun _ _ q => q
  rcases hc with z | z
  ·rw [z]; exact nit b u e
  ·exact nit c _ z
theorem Inv.tok (I : Inv X pins σ H s) (t : Nat) : Inv X pins σ H { s with toks := t } := I.un (h' := s.heap) (t' := t) Un.refl I.hok
theorem Inv.kept {t' : Nat} (I : Inv X pins σ H s) (k : ∀ b u, s.heap.get? b = some u -> h'.get? b = some u) : Inv X pins σ H { s with heap := h', toks := t' } := I.un (Un.kept k) (I.hok.kept k)
theorem Inv.laid {a : Addr} {o : HO} {t' : Nat} (I : Inv X pins σ H s) (k : ∀ b u, s.heap.get? b = some u -> h'.get? b = some u) (hp : s.heap.objs.size ≤ a) (new : ObjOk X.prog X.w (upd H a o) h' a o) :
  Inv X pins σ (upd H a o) { s with heap := h', toks := t' } := I.un (Un.laid k hp (I.hok.fresh hp)) (I.hok.laid k hp new)
theorem Inv.write {x e : Addr} {o : HO} {t' : Nat} (I : Inv X pins σ H s) (mu : Mut (H x)) (he : e = x \/ H e = some (.own x)) (k : ∀ b u, b ≠ e -> s.heap.get? b = some u -> h'.get? b = some u) (heo : ∃ u, h'.get? e = some u)
  (new : ObjOk X.prog X.w (upd H x o) h' x o) : Inv X pins σ (upd H x o) { s with heap := h', toks := t' } := I.un (Un.write mu he k heo) (I.hok.write mu he k heo new)
theorem Inv.weak {σ' : List (Option V)} (I : Inv X pins σ H s) (hl : σ'.length = σ.length) (w : ∀ (i : Nat) v, σ'[i]? = some (some v) -> σ[i]? = some (some v)) : Inv X pins σ' H s :=
 ⟨I.ok, I.os, I.bare, I.base, let ⟨m, hn, hl'⟩ := I.loc; ⟨m, hn, fun i x v e1 e2 e3 => hl' i x v e1 (w i v e2) e3⟩, I.cell, I.free, I.freeC, I.pin, I.hok, hl.trans I.len⟩
theorem Inv.pins_of {pins' : List (Addr × Obj)} (I : Inv X pins σ H s) (h : ∀ p ∈ pins', s.heap.get? p.1 = some p.2 /\ H p.1 = none /\ p.1 ≠ X.env.locals /\ p.1 ∉ X.fs /\ ∀ v, p.2.data ≠ .cell v) : Inv X pins' σ H s :=
 ⟨I.ok, I.os, I.bare, I.base, I.loc, I.cell, I.free, I.freeC, fun p hp => (List.mem_append.mp hp).elim (fun z => I.pin p (List.mem_append_left _ z)) (h p), I.hok, I.len⟩
theorem nodup_ix {N : List Str} (hN : N.Nodup) {i j : Nat} {x : Str} (a : N[i]? = some x) (b : N[j]? = some x) : i = j := by
 obtain ⟨h1, e1⟩ := List.getElem?_eq_some_iff.mp a
 obtain ⟨h2, e2⟩ := List.getElem?_eq_some_iff.mp b
 exact (List.getElem_inj hN).mp (e1.trans e2.symm)
theorem store_ok2 {M : Model} {A : Around} {E : Value -> Shared -> Prop} {i : Nat} {x : Str} {v : V} {u : Value} {Q : Unit -> Shared -> Prop} (I : Inv X pins σ H s) (hN : X.N.Nodup) (hi : X.N[i]? = some x) (hx : Loc X.env.scope x) (r : RelV v u)
  (h : ∀ s', Inv X pins (σ.set i (some v)) H s' -> (∃ a, Heap.SameBut a s.heap s'.heap /\ (a = X.env.locals \/ X.env.cells.lookup x = some a)) -> Q () s') (hf : X.fn x = true \/ X.env.scope.names.lookup x = some .local := by first | exact .inl rfl | exact .inr rfl | assumption) : wpAny M A (storeName X.env x u) Q E s := by
 obtain ⟨m, hn, hl⟩ := id I.loc
 have hcls : (X.env.scope.kind == .class || (X.env.scope.kind == .module && X.env.locals != X.env.globals)) = false := by rw [I.ok.kind]; rfl
 have hiσ : i < σ.length := by rw [I.len]; exact (List.getElem?_eq_some_iff.mp hi).1
 have cne := I.cne
 have tracked : ∀ {a : Addr} {h' : Heap}, (∃ o, s.heap.get? a = some o /\ H a = none) -> Heap.SameBut a s.heap h' -> HOk X.prog X.w H h' := fun {a h'} ha hs b ob e => by
  obtain ⟨_, _, hfree⟩ := ha
  refine (I.hok b ob e).stay (fun c w' hc q => (hs.2 c ?_).trans q) (fun _ q => q) fun _ _ q => q
  rintro rfl
  rcases hc with rfl | hc
  ·rw [hfree] at e; cases e
  ·rw [hfree] at hc; cases hc
 rcases hx with hk | hk
 ·refine wpAny_storeName_local hk hn (fun h' hn' hs => ?_) hcls
  obtain ⟨oL, _, _, hoL, _⟩ := id hn
  refine h _ ⟨I.ok, I.os, I.bare, ⟨fun b o e n hb hx => ?_, fun b o e n hb hx => ?_, I.base.free, fun b o e hx => ?_, I.base.tups, I.base.frzs, I.base.tbls⟩, ⟨_, hn', fun j y v' e1 e2 e3 => ?_⟩, fun y c e => ?_, I.free, I.freeC, fun p hp => ?_, tracked ⟨oL, hoL, I.free⟩ hs, by simpa using I.len⟩ ⟨_, hs, .inl rfl⟩
  ·exact (hs.2 b (Nat.ne_of_lt (Nat.lt_of_lt_of_le (Heap.lt_size e) I.ok.above))).trans (I.base.keep b o e n hb hx)
  ·obtain ⟨sl, e1⟩ := I.base.slot b o e n hb hx
   exact ⟨sl, (hs.2 b (Nat.ne_of_lt (Nat.lt_of_lt_of_le (Heap.lt_size e) I.ok.above))).trans e1⟩
  ·obtain ⟨o', e1⟩ := I.base.there b o e hx
   exact ⟨o', (hs.2 b (Nat.ne_of_lt (Nat.lt_of_lt_of_le (Heap.lt_size e) I.ok.above))).trans e1⟩
  ·by_cases hj : j = i
   ·subst hj
    rw [hi] at e1; cases e1
    rw [List.getElem?_set_self hiσ] at e2
    cases e2
    exact ⟨u, r, .inl ⟨hk, by simp⟩⟩
   ·rw [List.getElem?_set_ne (Ne.symm hj)] at e2
    obtain ⟨u', r', q⟩ := hl j y v' e1 e2 e3
    refine ⟨u', r', ?_⟩
    rcases q with ⟨k, e⟩ | ⟨k, c, e, z⟩
    ·refine .inl ⟨k, ?_⟩
     have : y ≠ x := fun e => hj (nodup_ix hN e1 (e ▸ hi))
     simp [this, e]
    ·exact .inr ⟨k, c, e, z.sameBut hs (cne y c e)⟩
  ·obtain ⟨w', z⟩ := I.cell y c e
   exact ⟨w', z.sameBut hs (cne y c e)⟩
  ·obtain ⟨e, n, ne, nf, d⟩ := I.pin p hp
   exact ⟨(hs.2 p.1 ne).trans e, n, ne, nf, d⟩
 ·have hfn : X.fn x = true := by
   rcases hf with z | z
   ·exact z
   ·rw [z] at hk; cases hk
  obtain ⟨c, hc⟩ := I.ok.has x (.inl hk)
  obtain ⟨w', z⟩ := I.cell x c hc
  refine wpAny_storeName_cell I.ok.kind hk hc z (fun h' hc' hs => ?_)
  obtain ⟨oc, hoc, hocd⟩ := id z
  refine h { s with heap := h' } ⟨I.ok, I.os, I.bare, ⟨fun b o e n hb hx => ?_, fun b o e n hb hx => ?_, I.base.free, fun b o e hx => ?_, I.base.tups, I.base.frzs, I.base.tbls⟩, ⟨m, hn.sameBut hs (Ne.symm (cne x c hc)), fun j y v' e1 e2 e3 => ?_⟩, fun y c' e => ?_, I.free, I.freeC, fun p hp => ?_, tracked ⟨oc, hoc, I.freeC x c hc⟩ hs, by simpa using I.len⟩ ⟨c, hs, .inr hc⟩
  ·exact (hs.2 b (Nat.ne_of_lt (Nat.lt_of_lt_of_le (Heap.lt_size e) (I.ok.cab x c hfn hc)))).trans (I.base.keep b o e n hb hx)
  ·obtain ⟨sl, e1⟩ := I.base.slot b o e n hb hx
   exact ⟨sl, (hs.2 b (Nat.ne_of_lt (Nat.lt_of_lt_of_le (Heap.lt_size e) (I.ok.cab x c hfn hc)))).trans e1⟩
  ·obtain ⟨o', e1⟩ := I.base.there b o e hx
   exact ⟨o', (hs.2 b (Nat.ne_of_lt (Nat.lt_of_lt_of_le (Heap.lt_size e) (I.ok.cab x c hfn hc)))).trans e1⟩
  ·by_cases hj : j = i
   ·subst hj
    rw [hi] at e1; cases e1
    rw [List.getElem?_set_self hiσ] at e2
    cases e2
    exact ⟨u, r, .inr ⟨.inl hk, c, hc, hc'⟩⟩
   ·rw [List.getElem?_set_ne (Ne.symm hj)] at e2
    obtain ⟨u', r', q⟩ := hl j y v' e1 e2 e3
    refine ⟨u', r', ?_⟩
    rcases q with q | ⟨k, c', e, z'⟩
    ·exact .inl q
    ·refine .inr ⟨k, c', e, z'.sameBut hs ?_⟩
     rintro rfl
     exact hj (nodup_ix hN e1 (I.ok.inj _ _ _ e hc ▸ hi))
  ·by_cases hcc : c' = c
   ·subst hcc; exact ⟨_, hc'⟩
   ·obtain ⟨w2, z2⟩ := I.cell y c' e
    exact ⟨w2, z2.sameBut hs hcc⟩
  ·obtain ⟨e, n, ne, nf, d⟩ := I.pin p hp
   refine ⟨(hs.2 p.1 ?_).trans e, n, ne, nf, d⟩
   intro q
   rw [q, hoc] at e
   have q' : oc = p.2 := Option.some.inj e
   exact d w' (by rw [<- q']; exact hocd)
theorem store_ok {M : Model} {A : Around} {E : Value -> Shared -> Prop} {i : Nat} {x : Str} {v : V} {u : Value} {Q : Unit -> Shared -> Prop} (I : Inv X pins σ H s) (hN : X.N.Nodup) (hi : X.N[i]? = some x) (hx : Loc X.env.scope x) (r : RelV v u)
  (h : ∀ s', Inv X pins (σ.set i (some v)) H s' -> Q () s') (hf : X.fn x = true \/ X.env.scope.names.lookup x = some .local := by first | exact .inl rfl | exact .inr rfl | assumption) : wpAny M A (storeName X.env x u) Q E s :=
 store_ok2 I hN hi hx r (fun s' I' _ => h s' I') hf
theorem Inv.call' {s' : Shared} {ch : List Addr} (I : Inv X pins σ H s) (ho : s'.os = s.os) (u : Un (frs X.stack) ch H H' s.heap s'.heap) (hok : HOk X.prog X.w H' s'.heap) (hg : AllBare s'.gens)
  (hch : ∀ b ∈ ch, (b ∈ X.ex \/ X.s₀.heap.get? b = none) /\ b ≠ X.env.locals /\ (∀ x c, X.env.cells.lookup x = some c -> c ≠ b) /\ ∀ p ∈ X.pn ++ pins, p.1 ≠ b) : Inv X pins σ H' s' := by
 obtain ⟨h', g', d', t', o'⟩ := s'
 have e : o' = s.os := ho
 subst e
 exact I.call (g' := g') (t' := t') (d' := d') u hok hg hch
end
abbrev XK := Value -> Option Addr × Bool -> Hp -> Prop
abbrev St := List (Option V)
abbrev VK := V -> Hp -> Prop
abbrev TE := St -> Hp -> VK -> Prop
abbrev TT := St -> Hp -> (Bool -> Hp -> Prop) -> Prop
abbrev TA := St -> Hp -> (List V -> Hp -> Prop) -> Prop
structure Ends where
 nx : St -> Hp -> Prop
 rt : VK
 bk : St -> Hp -> Prop := fun _ _ => False
 ct : St -> Hp -> Prop := fun _ _ => False
abbrev TS := Ends -> St -> Hp -> Prop
def EP (X : Cx) (pins : List (Addr × Obj)) (σ : St) (Q : VK) (u : Value) (s' : Shared) : Prop := ∃ v H', Inv X pins σ H' s' /\ RelV v u /\ Q v H'
def TP (X : Cx) (pins : List (Addr × Obj)) (σ : St) (Q : Bool -> Hp -> Prop) (b : Bool) (s' : Shared) : Prop := ∃ H', Inv X pins σ H' s' /\ Q b H'
def AP (X : Cx) (pins : List (Addr × Obj)) (σ : St) (Q : List V -> Hp -> Prop) (us : List Value) (s' : Shared) : Prop := ∃ vs H', Inv X pins σ H' s' /\ Vals vs us /\ Q vs H'
def SP (X : Cx) (pins : List (Addr × Obj)) (D : Ends) (f : Flow) (s' : Shared) : Prop :=
 match f with
 | .next => ∃ σ' H', Inv X pins σ' H' s' /\ D.nx σ' H'
 | .brk => ∃ σ' H', Inv X pins σ' H' s' /\ D.bk σ' H'
 | .cont => ∃ σ' H', Inv X pins σ' H' s' /\ D.ct σ' H'
 | .ret u => ∃ v σ' H', Inv X pins σ' H' s' /\ RelV v u /\ D.rt v H'
def PE (X : Cx) (e : Expr) (t : TE) : Prop :=
 ∀ (pins : List (Addr × Obj)) (s : Shared) (σ : St) (H : Hp) (Q : VK), Inv X pins σ H s -> t σ H Q -> wpAny (model X.prog X.w) X.A (eval e X.env) (EP X pins σ Q) X.xe s
def PT (X : Cx) (e : Expr) (t : TT) : Prop :=
 ∀ (pins : List (Addr × Obj)) (s : Shared) (σ : St) (H : Hp) (Q : Bool -> Hp -> Prop), Inv X pins σ H s -> t σ H Q -> wpAny (model X.prog X.w) X.A (isTrue e X.env (eval e X.env)) (TP X pins σ Q) X.xe s
def PW (X : Cx) (e : Expr) (t : TT) : Prop :=
 ∀ (whole : Sem Value) (pins : List (Addr × Obj)) (s : Shared) (σ : St) (H : Hp) (Q : Bool -> Hp -> Prop), Inv X pins σ H s -> t σ H Q -> wpAny (model X.prog X.w) X.A (isTrue e X.env whole) (TP X pins σ Q) X.xe s
theorem PW.pt {X : Cx} {e : Expr} {t : TT} (h : PW X e t) : PT X e t := h _
def PA (X : Cx) (es : List Expr) (t : TA) : Prop :=
 ∀ (pos : Pos) (pins : List (Addr × Obj)) (s : Shared) (σ : St) (H : Hp) (Q : List V -> Hp -> Prop), Inv X pins σ H s -> t σ H Q -> wpAny (model X.prog X.w) X.A (spliced (backTo pos (starEach es X.env))) (AP X pins σ Q) X.xe s
def PS (X : Cx) (st : Stmt) (t : TS) : Prop :=
 ∀ (pins : List (Addr × Obj)) (s : Shared) (σ : St) (H : Hp) (D : Ends), Inv X pins σ H s -> t D σ H -> wpAny (model X.prog X.w) X.A (exec st X.env) (SP X pins D) X.xe s
def PSs (X : Cx) (st : List Stmt) (t : TS) : Prop :=
 ∀ (pins : List (Addr × Obj)) (s : Shared) (σ : St) (H : Hp) (D : Ends), Inv X pins σ H s -> t D σ H -> wpAny (model X.prog X.w) X.A (execs st X.env) (SP X pins D) X.xe s
theorem thn {α : Type} {t : Sem α} {Q Q' : α -> Shared -> Prop} {M : Model} {A : Around} {E : Value -> Shared -> Prop} {s : Shared} (h : wpAny M A t Q E s) (hQ : ∀ a s, Q a s -> Q' a s) : wpAny M A t Q' E s := wpAny_mono h hQ fun _ _ x => x
end L2
namespace L2
open PySem PySem.Spec PyProof.Rows
section
variable {X : Cx}
def tVar (i : Nat) : TE := fun σ H Q => ∃ v, σ[i]? = some (some v) /\ Q v H
def tC (v : V) : TE := fun _ H Q => Q v H
theorem pe_var {i : Nat} {x : Str} {pos : Pos} (hN : X.N[i]? = some x) (hv : Vis X.env.scope x) (hd : (x == ("__debug__" : Str)) = false := by decide) (hcd : (x == ("__classdict__" : Str)) = false := by decide) : PE X (.Name x pos) (tVar i) := by
 intro pins s σ H Q I h
 obtain ⟨v, e, h⟩ := h
 obtain ⟨m, hn, hl⟩ := I.loc
 obtain ⟨u, r, l⟩ := hl i x v hN e hv
 have fin : EP X pins σ Q u s := ⟨v, H, I, r, h⟩
 rcases l with ⟨hk, hm⟩ | ⟨hk, c, hc, hcell⟩
 ·exact wpAny_Name (wpAny_loadName_local I.ok.kind hk hn hm fin) hd
 ·rcases hk with hk | hk
  ·exact wpAny_Name (wpAny_loadName_cell I.ok.kind hk hc hcell fin) hd
  ·exact wpAny_Name (wpAny_loadName_free I.ok.kind hk hc hcell fin hcd) hd
theorem pe_int {i j pos} : PE X (.Constant (.int i) j pos) (tC (.int i)) := fun _ _ _ H _ I h => wpAny_Constant_int ⟨.int i, H, I.tok _, ⟨_, rfl⟩, h⟩
theorem pe_bl {b j pos} : PE X (.Constant (.bool b) j pos) (tC (.bl b)) := fun _ _ _ H _ I h => Constant_bool ⟨.bl b, H, I, rfl, h⟩
theorem pe_non {j pos} : PE X (.Constant .none j pos) (tC .non) := fun _ _ _ H _ I h => Constant_none ⟨.non, H, I, rfl, h⟩
theorem pe_str {x j pos} : PE X (.Constant (.str x) j pos) (tC (.str x)) := fun _ _ _ H _ I h => Calls.Constant_str ⟨.str x, H, I.tok _, ⟨_, rfl⟩, h⟩
def Gl (X : Cx) (x : Str) : Prop := X.env.kindOf x = some .globalImplicit
theorem ld_glob {E : Value -> Shared -> Prop} {pins : List (Addr × Obj)} {s : Shared} {σ : St} {H : Hp} {x : Str} {u : Value} {pos : Pos} {Q : Value -> Shared -> Prop} (I : Inv X pins σ H s) (hg : Gl X x) (hm : X.mg x = some u) (h : Q u s)
  (hd : (x == ("__debug__" : Str)) = false := by decide) : wpAny (model X.prog X.w) X.A (eval (.Name x pos) X.env) Q E s :=
 Calls.Name_function_global I.ok.kind hg (Calls.loadGlobal_global (by rw [I.ok.glob]; exact I.mod.glob.keeps I.bk) hm h) hd
theorem ld_blt {E : Value -> Shared -> Prop} {pins : List (Addr × Obj)} {s : Shared} {σ : St} {H : Hp} {x : Str} {u : Value} {pos : Pos} {Q : Value -> Shared -> Prop} (I : Inv X pins σ H s) (hg : Gl X x) (hm : X.mg x = none) (hv : bootBuiltins x = some u) (h : Q u s)
  (hn : x ≠ "__name__" := by decide) (hd : (x == ("__debug__" : Str)) = false := by decide) : wpAny (model X.prog X.w) X.A (eval (.Name x pos) X.env) Q E s := by
 obtain ⟨mb, h1, h2⟩ := I.mod.blt
 exact Calls.Name_function_global I.ok.kind hg (Calls.loadGlobal_builtin (by rw [I.ok.glob]; exact I.mod.glob.keeps I.bk) hm (by rw [I.ok.blt]; exact h1.keeps I.bk) ((h2 x hn).trans hv) h) hd
theorem pe_glob {x : Str} {v : V} {u : Value} {pos : Pos} (hg : Gl X x) (hm : X.mg x = some u) (r : RelV v u) (hd : (x == ("__debug__" : Str)) = false := by decide) : PE X (.Name x pos) (tC v) :=
 fun _ _ _ H _ I h => ld_glob I hg hm ⟨v, H, I, r, h⟩ hd
theorem pe_bltn {x : Str} {v : V} {u : Value} {pos : Pos} (hg : Gl X x) (hm : X.mg x = none) (hv : bootBuiltins x = some u) (r : RelV v u) (hn : x ≠ "__name__" := by decide) (hd : (x == ("__debug__" : Str)) = false := by decide) : PE X (.Name x pos) (tC v) :=
 fun _ _ _ H _ I h => ld_blt I hg hm hv ⟨v, H, I, r, h⟩ hn hd
def t2I (ta tb : TE) (k : Int -> Int -> Hp -> Prop) : St -> Hp -> Prop := fun σ H => ta σ H fun x H1 => tb σ H1 fun y H2 => ∃ i j, x = .int i /\ y = .int j /\ k i j H2
def tAdd (ta tb : TE) : TE := fun σ H Q => t2I ta tb (fun i j H2 => Q (.int (i + j)) H2) σ H
def tSub (ta tb : TE) : TE := fun σ H Q => t2I ta tb (fun i j H2 => Q (.int (i - j)) H2) σ H
def tMul (ta tb : TE) : TE := fun σ H Q => t2I ta tb (fun i j H2 => (-(2 ^ 64) < i /\ i < 2 ^ 64) /\ Q (.int (i * j)) H2) σ H
variable {a b : Expr} {ta tb : TE} {pos : Pos}
def PC (X : Cx) (op : CmpOp) (a b : Expr) (t : TE) : Prop :=
 ∀ (pins : List (Addr × Obj)) (s : Shared) (σ : St) (H : Hp) (Q : VK), Inv X pins σ H s -> t σ H Q ->
   wpAny (model X.prog X.w) X.A (eval a X.env) (fun v s₁ => wpAny (model X.prog X.w) X.A (eval b X.env) (fun u s₂ => wpAny (model X.prog X.w) X.A (compareOp op v u) (EP X pins σ Q) X.xe s₂) X.xe s₁) X.xe s
def tCmp (p : Int -> Int -> Bool) (ta tb : TE) : TE := fun σ H Q => t2I ta tb (fun i j H2 => Q (.bl (p i j)) H2) σ H
abbrev tLt : TE -> TE -> TE := tCmp fun i j => decide (i < j)
abbrev tLe : TE -> TE -> TE := tCmp fun i j => decide (i ≤ j)
abbrev tGt : TE -> TE -> TE := tCmp fun i j => decide (j < i)
abbrev tGe : TE -> TE -> TE := tCmp fun i j => decide (j ≤ i)
abbrev tEqI : TE -> TE -> TE := tCmp fun i j => decide (i = j)
abbrev tNeI : TE -> TE -> TE := tCmp fun i j => !decide (i = j)
def tIsN (ta : TE) : TE := fun σ H Q => ta σ H fun x H1 => Q (.bl (decide (x = .non))) H1
def tNotN (ta : TE) : TE := fun σ H Q => ta σ H fun x H1 => Q (.bl (!decide (x = .non))) H1
def tB (t : TE) : TT := fun σ H Q => t σ H fun x H1 => ∃ c, x = .bl c /\ Q c H1
variable {tA tB' : TT} {rest : List Expr}
def tAnd (t u : TT) : TT := fun σ H Q => t σ H fun c H1 => if c = true then u σ H1 Q else Q false H1
def tOr (t u : TT) : TT := fun σ H Q => t σ H fun c H1 => if c = true then Q true H1 else u σ H1 Q
def tNot (t : TT) : TT := fun σ H Q => t σ H fun c H1 => Q (!c) H1
theorem pw_and1 (ha : PT X a tA) : PW X (.BoolOp .And [a] pos) tA := by
 intro wh pins s σ H Q I h
 refine isTrue_and (thn (ha pins s σ H Q I h) fun c s1 e => ?_)
 cases c with
 | true => exact isTrue_and_nil e
 | false => exact e
theorem pw_or1 (ha : PT X a tA) : PW X (.BoolOp .Or [a] pos) tA := by
 intro wh pins s σ H Q I h
 refine isTrue_or (thn (ha pins s σ H Q I h) fun c s1 e => ?_)
 cases c with
 | false => exact isTrue_or_nil e
 | true => exact e
theorem pw_and (ha : PT X a tA) (hb : PW X (.BoolOp .And (b :: rest) pos) tB') : PW X (.BoolOp .And (a :: b :: rest) pos) (tAnd tA tB') := by
 intro wh pins s σ H Q I h
 refine isTrue_and (thn (ha pins s σ H _ I h) fun c s1 ⟨H1, I1, q1⟩ => ?_)
 cases c with
 | true => exact hb wh pins s1 σ H1 Q I1 q1
 | false => exact ⟨H1, I1, q1⟩
theorem pw_or (ha : PT X a tA) (hb : PW X (.BoolOp .Or (b :: rest) pos) tB') : PW X (.BoolOp .Or (a :: b :: rest) pos) (tOr tA tB') := by
 intro wh pins s σ H Q I h
 refine isTrue_or (thn (ha pins s σ H _ I h) fun c s1 ⟨H1, I1, q1⟩ => ?_)
 cases c with
 | true => exact ⟨H1, I1, q1⟩
 | false => exact hb wh pins s1 σ H1 Q I1 q1
theorem pt_not (ha : PT X a tA) : PT X (.UnaryOp .Not a pos) (tNot tA) := by
 intro pins s σ H Q I h
 exact isTrue_not (ha pins s σ H (fun c H1 => Q (!c) H1) I h)
def tAndV (ta tb : TE) : TE := fun σ H Q => ta σ H fun x H1 => ∃ c, x = .bl c /\ if c = true then tb σ H1 Q else Q (.bl false) H1
def tOrV (ta tb : TE) : TE := fun σ H Q => ta σ H fun x H1 => ∃ c, x = .bl c /\ if c = true then Q (.bl true) H1 else tb σ H1 Q
def tNotV (ta : TE) : TE := fun σ H Q => ta σ H fun x H1 => ∃ c, x = .bl c /\ Q (.bl (!c)) H1
theorem pe_one {op} {t : TE} (h : PE X a t) : PE X (.BoolOp op [a] pos) t := fun pins s σ H Q I hw => BoolOp_one (h pins s σ H Q I hw)
theorem pe_and (ha : PE X a ta) (hb : PE X (.BoolOp .And (b :: rest) pos) tb) : PE X (.BoolOp .And (a :: b :: rest) pos) (tAndV ta tb) := by
 intro pins s σ H Q I h
 refine BoolOp_and (thn (ha pins s σ H _ I h) fun v s1 ⟨x, H1, I1, r1, q1⟩ => ?_)
 obtain ⟨c, rfl, q1⟩ := q1
 cases r1
 refine wpAny_truthy_bool ?_
 cases c with
 | true => exact hb pins s1 σ H1 Q I1 q1
 | false => exact ⟨.bl false, H1, I1, rfl, q1⟩
theorem pe_not (ha : PE X a ta) : PE X (.UnaryOp .Not a pos) (tNotV ta) := by
 intro pins s σ H Q I h
 refine UnaryOp_ (thn (ha pins s σ H _ I h) fun v s1 ⟨x, H1, I1, r1, q1⟩ => ?_)
 obtain ⟨c, rfl, q1⟩ := q1
 cases r1
 exact not_of (wpAny_truthy_bool ⟨.bl (!c), H1, I1, rfl, q1⟩)
def tIf (t : TT) (ta tb : TE) : TE := fun σ H Q => t σ H fun c H1 => if c = true then ta σ H1 Q else tb σ H1 Q
theorem pe_ifExp {c : Expr} (hc : PT X c tA) (ha : PE X a ta) (hb : PE X b tb) : PE X (.IfExp c a b pos) (tIf tA ta tb) := by
 intro pins s σ H Q I h
 refine wpAny_IfExp (thn (hc pins s σ H _ I h) fun d s1 ⟨H1, I1, q1⟩ => ?_)
 cases d with
 | true => exact ha pins s1 σ H1 Q I1 q1
 | false => exact hb pins s1 σ H1 Q I1 q1
end
end L2
namespace L2
open PySem PySem.Spec PyProof.Rows
def SqL (K : PySem.W.Frag) (H : Hp) (a : Addr) (xs : List V) : Prop :=
 Rd H a (.lst xs) \/
  ∃ (o : Obj) (its : Array Value) (n : Nat), K.lookup a = some o /\ o.cls = .type "list" /\ o.dict = none /\ o.data = .seq its n /\ its.size ≤ sizeLine /\ Vals xs its.toList
def SqT (K : PySem.W.Frag) (H : Hp) (a : Addr) (xs : List V) : Prop :=
 Rd H a (.tup xs) \/
  ∃ (o : Obj) (its : Array Value) (n : Nat), K.lookup a = some o /\ o.cls = .type "tuple" /\ o.data = .seq its n /\ its.size ≤ sizeLine /\ Vals xs its.toList
def absV : Value -> Option V
 | .none => some .non
 | .bool b => some (.bl b)
 | .int i _ => some (.int i)
 | .str x _ => some (.str x)
 | .bytes b _ => some (.byt b)
 | .float b _ => some (.flt b)
 | .ref a => some (.ref a)
 | .type n => some (.ty n)
 | _ => none
theorem RelV.abs {x : V} {u : Value} (r : RelV x u) : absV u = some x := by
 cases x with
 | non => cases r; rfl
 | bl _ => cases r; rfl
 | int _ => obtain ⟨t, rfl⟩ := r; rfl
 | str _ => obtain ⟨t, rfl⟩ := r; rfl
 | byt _ => obtain ⟨t, rfl⟩ := r; rfl
 | flt _ => obtain ⟨t, rfl⟩ := r; rfl
 | ref _ => cases r; rfl
 | ty _ => cases r; rfl
theorem RelV.inj {x y : V} {u : Value} (r : RelV x u) (q : RelV y u) : x = y := Option.some.inj (r.abs.symm.trans q.abs)
theorem Vals.inj : ∀ {xs ys : List V} {us : List Value}, Vals xs us -> Vals ys us -> xs = ys
 | _, _, _, .nil, .nil => rfl
 | _, _, _, .cons r t, .cons r' t' => by rw [r.inj r', Vals.inj t t']
section
variable {X : Cx} {pins : List (Addr × Obj)} {σ : St} {H : Hp} {s : Shared} {a : Addr} {xs ys : List V}
theorem SqL.of {K : PySem.W.Frag} (h : H a = some (.lst xs)) : SqL K H a xs := .inl (.inl h)
theorem SqT.of {K : PySem.W.Frag} (h : H a = some (.tup xs)) : SqT K H a xs := .inl (.inl h)
theorem Inv.list (I : Inv X pins σ H s) (h : SqL X.K H a xs) : ∃ its : List Value, Vals xs its /\ PlainL s.heap a its.toArray /\ xs.length ≤ sizeLine := by
 rcases h with h | ⟨o, its, n, hk, hc, hd, hs, hz, r⟩
 ·obtain ⟨z, its, n, r, e⟩ := h.ok I.hok
  exact ⟨its, r, ⟨_, n, e, rfl, rfl, rfl⟩, z⟩
 ·refine ⟨its.toList, r, ⟨o, n, I.kIn a o hk, hc, hd, by simpa using hs⟩, ?_⟩
  have e := r.length
  simp only [Array.length_toList] at e
  omega
theorem Inv.tuple (I : Inv X pins σ H s) (h : SqT X.K H a xs) : ∃ its : List Value, Vals xs its /\ IsTup s.heap a its.toArray /\ xs.length ≤ sizeLine := by
 rcases h with h | ⟨o, its, n, hk, hc, hs, hz, r⟩
 ·obtain ⟨z, its, r, p⟩ := h.ok I.hok
  exact ⟨its, r, p, z⟩
 ·refine ⟨its.toList, r, ⟨o, I.kIn a o hk, hc, n, by simpa using hs⟩, ?_⟩
  have e := r.length
  simp only [Array.length_toList] at e
  omega
theorem Inv.list_inj (I : Inv X pins σ H s) (h : SqL X.K H a xs) (h' : SqL X.K H a ys) : xs = ys := by
 obtain ⟨its, r, ⟨o, n, e, _, _, d⟩, _⟩ := I.list h
 obtain ⟨its', r', ⟨o', n', e', _, _, d'⟩, _⟩ := I.list h'
 rw [e] at e'; cases e'
 rw [d] at d'
 injection d' with d1 _
 have : its = its' := by simpa using congrArg Array.toList d1
 subst this
 exact r.inj r'
end
abbrev Cx.wish (X : Cx) (E : Value -> Shared -> Prop) : Cx := { X with xe := E }
abbrev Cx.nox (X : Cx) : Cx := X.wish fun _ _ => False
section
variable {X : Cx} {pins : List (Addr × Obj)} {σ : St} {H : Hp} {s : Shared} {E : Value -> Shared -> Prop}
end
section
variable {X : Cx} {st : Stmt} {rest : List Stmt} {t u : TS} {e : Expr} {te : TE} {pos : Pos}
def tNext : TS := fun D σ H => D.nx σ H
def tSeq (t u : TS) : TS := fun D σ H => t { D with nx := u D } σ H
theorem pss_nil : PSs X [] tNext := fun _ _ σ H _ I h => wpAny_execs_nil ⟨σ, H, I, h⟩
theorem pss_cons (h1 : PS X st t) (h2 : PSs X rest u) : PSs X (st :: rest) (tSeq t u) := by
 intro pins s σ H D I h
 refine wpAny_execs_cons (thn (h1 pins s σ H { D with nx := u D } I h) fun f s1 q => ?_)
 cases f with
 | next =>
   obtain ⟨σ', H', I', q⟩ := q
   exact h2 pins s1 σ' H' D I' q
 | ret v => exact q
 | brk => exact q
 | cont => exact q
theorem pss_one (h1 : PS X st t) : PSs X [st] t := by
 intro pins s σ H D I h
 refine wpAny_execs_cons (thn (h1 pins s σ H D I h) fun f s1 q => ?_)
 cases f with
 | next => exact wpAny_execs_nil q
 | ret v => exact q
 | brk => exact q
 | cont => exact q
def tBreak : TS := fun D σ H => D.bk σ H
def tCont : TS := fun D σ H => D.ct σ H
theorem Inv.quiet {pins : List (Addr × Obj)} {σ : St} {H : Hp} {s : Shared} (I : Inv X pins σ H s) : interactive X.env = false := by simp [interactive, I.ok.kind]
def tDrop (te : TE) : TS := fun D σ H => te σ H fun _ H1 => D.nx σ H1
theorem ps_expr (he : PE X e te) (hs : swapsWith e none pos.line X.env = pure false := by rfl) : PS X (.Expr e pos) (tDrop te) := by
 intro pins s σ H D I h
 exact wpAny_Expr_any (thn (he pins s σ H _ I h) fun v s1 ⟨x, H1, I1, r1, q1⟩ => ⟨σ, H1, I1, q1⟩) I.quiet hs
def tRet (te : TE) : TS := fun D σ H => te σ H D.rt
theorem ps_ret (he : PE X e te) : PS X (.Return (some e) pos) (tRet te) := by
 intro pins s σ H D I h
 exact wpAny_Return_some (thn (he pins s σ H _ I h) fun v s1 ⟨x, H1, I1, r1, q1⟩ => ⟨x, σ, H1, I1, r1, q1⟩)
def tRetN : TS := fun D _ H => D.rt .non H
def tIfS (c : TT) (t u : TS) : TS := fun D σ H => c σ H fun b H1 => if b = true then t D σ H1 else u D σ H1
theorem ps_if {c : Expr} {a b : List Stmt} {tc : TT} (hc : PT X c tc) (ha : PSs X a t) (hb : PSs X b u) : PS X (.If c a b pos) (tIfS tc t u) := by
 intro pins s σ H D I h
 refine wpAny_If (thn (hc pins s σ H _ I h) fun d s1 ⟨H1, I1, q1⟩ => ?_)
 cases d with
 | true => exact ha pins s1 σ H1 D I1 q1
 | false => exact hb pins s1 σ H1 D I1 q1
def tNever : TS := fun _ _ _ => False
end
abbrev TG := V -> St -> Hp -> (St -> Hp -> Prop) -> Prop
abbrev TGs := List V -> St -> Hp -> (St -> Hp -> Prop) -> Prop
def PG (X : Cx) (target : Expr) (t : TG) : Prop :=
 ∀ (pins : List (Addr × Obj)) (s : Shared) (σ : St) (H : Hp) (v : V) (u : Value) (Q : St -> Hp -> Prop), Inv X pins σ H s -> RelV v u -> t v σ H Q ->
   wpAny (model X.prog X.w) X.A (assign target X.env u) (fun _ s' => ∃ σ' H', Inv X pins σ' H' s' /\ Q σ' H') X.xe s
def PGs (X : Cx) (ts : List Expr) (t : TGs) : Prop :=
 ∀ (pins : List (Addr × Obj)) (s : Shared) (σ : St) (H : Hp) (vs : List V) (us : List Value) (Q : St -> Hp -> Prop), Inv X pins σ H s -> Vals vs us -> t vs σ H Q ->
   wpAny (model X.prog X.w) X.A (assignInOrder ((assignEach ts X.env).map (·.2)) us) (fun _ s' => ∃ σ' H', Inv X pins σ' H' s' /\ Q σ' H') X.xe s
abbrev TSet := V -> V -> V -> Hp -> (Hp -> Prop) -> Prop
def PSet (X : Cx) (t : TSet) : Prop :=
 ∀ (pins : List (Addr × Obj)) (s : Shared) (σ : St) (H : Hp) (o i v : V) (ov iv u : Value) (Q : Hp -> Prop), Inv X pins σ H s -> RelV o ov -> RelV i iv -> RelV v u -> t o i v H Q ->
   wpAny (model X.prog X.w) X.A (setItem ov iv u) (fun _ s' => ∃ H', Inv X pins σ H' s' /\ Q H') X.xe s
abbrev TIp := V -> V -> Hp -> VK -> Prop
def PIp (X : Cx) (op : Operator) (t : TIp) : Prop :=
 ∀ (pins : List (Addr × Obj)) (s : Shared) (σ : St) (H : Hp) (x y : V) (v u : Value) (Q : VK), Inv X pins σ H s -> RelV x v -> RelV y u -> t x y H Q ->
   wpAny (model X.prog X.w) X.A (inplaceOp op v u) (EP X pins σ Q) X.xe s
section
variable {X : Cx} {pos : Pos}
def gName (i : Nat) : TG := fun v σ H Q => Q (σ.set i (some v)) H
theorem pg_name {i : Nat} {x : Str} (hN : X.N.Nodup) (hi : X.N[i]? = some x) (hx : Loc X.env.scope x) (hf : X.fn x = true \/ X.env.scope.names.lookup x = some .local := by first | exact .inl rfl | exact .inr rfl | assumption) : PG X (.Name x pos) (gName i) := by
 intro pins s σ H v u Q I r h
 exact wpAny_assign_Name (store_ok I hN hi hx r (fun s' I' => ⟨_, H, I', h⟩) hf)
def gNil : TGs := fun vs σ H Q => vs = [] /\ Q σ H
def gCons (t : TG) (u : TGs) : TGs := fun vs σ H Q => ∃ v r, vs = v :: r /\ t v σ H fun σ' H' => u r σ' H' Q
theorem pgs_nil : PGs X [] gNil := by
 intro pins s σ H vs us Q I r h
 obtain ⟨e, h⟩ := h
 subst e
 cases r
 exact assignInOrder_nil ⟨σ, H, I, h⟩
theorem pgs_cons {e : Expr} {es : List Expr} {t : TG} {u : TGs} (h1 : PG X e t) (h2 : PGs X es u)
  (hs : (assignEach (e :: es) X.env).map (·.2) = assign e X.env :: (assignEach es X.env).map (·.2) := by rfl) : PGs X (e :: es) (gCons t u) := by
 intro pins s σ H vs us Q I r h
 obtain ⟨v, vr, e1, h⟩ := h
 subst e1
 cases r with
 | cons r rr =>
   rw [hs]
   refine assignInOrder_cons (thn (h1 pins s σ H _ _ _ I r h) fun _ s1 ⟨σ1, H1, I1, q1⟩ => ?_)
   exact h2 pins s1 σ1 H1 _ _ Q I1 rr q1
def gTup (K : PySem.W.Frag) (n : Nat) (t : TGs) : TG := fun v σ H Q => ∃ a xs, v = .ref a /\ SqT K H a xs /\ xs.length = n /\ t xs σ H Q
theorem pg_tup {es : List Expr} {k : Nat} {t : TGs} {n : Nat} (hc : X.calm = true) (h : PGs X es t)
  (hn : (assignEach es X.env).length = n := by rfl) (hst : (assignEach es X.env).findIdx? (·.1) = none := by rfl) : PG X (.Tuple es k pos) (gTup X.K n t) := by
 intro pins s σ H v u Q I r hw
 obtain ⟨a, xs, e1, hq, hl, hw⟩ := hw
 subst e1
 cases r
 obtain ⟨its, rv, ht, hz⟩ := I.tuple hq
 refine assign_Tuple_tuple (I.ok.hd hc) ht (by simp [hn, <- hl, rv.length]) hst fun h' hx => ?_
 have I1 : Inv X pins σ H { s with heap := h' } := I.kept (t' := s.toks) fun b o e => hx b o (Nat.ne_of_lt (Heap.lt_size e)) e
 exact h pins _ σ H xs _ Q I1 (by simpa using rv) hw
def gSub (to ti : TE) (t : TSet) : TG := fun v σ H Q => to σ H fun o H1 => ti σ H1 fun i H2 => t o i v H2 fun H3 => Q σ H3
def tAsg (te : TE) (g : TG) : TS := fun D σ H => te σ H fun x H1 => g x σ H1 D.nx
theorem ps_set {i : Nat} {x : Str} {e : Expr} {te : TE} {pos' : Pos} (hN : X.N.Nodup) (hi : X.N[i]? = some x) (hx : Loc X.env.scope x) (he : PE X e te) (hs : swapsWith e (some (.Name x pos')) pos.line X.env = pure false := by rfl) (hf : X.fn x = true \/ X.env.scope.names.lookup x = some .local := by first | exact .inl rfl | exact .inr rfl | assumption) :
  PS X (.Assign [.Name x pos'] e pos) (tAsg te (gName i)) := by
 intro pins s σ H D I h
 refine wpAny_Assign_Name (thn (he pins s σ H _ I h) fun v s1 ⟨y, H1, I1, r1, q1⟩ => ?_) hs
 exact store_ok I1 hN hi hx r1 (fun s2 I2 => ⟨_, H1, I2, q1⟩) hf
def tPar (i j : Nat) (ta : TA) : TS := fun D σ H => ta σ H fun vs H1 => ∃ v w, vs = [v, w] /\ D.nx ((σ.set i (some v)).set j (some w)) H1
def tAug (i : Nat) (te : TE) (ti : TIp) : TS := fun D σ H => ∃ x, σ[i]? = some (some x) /\ te σ H fun y H1 => ti x y H1 fun z H2 => D.nx (σ.set i (some z)) H2
def tAugS (to ti te : TE) (tget : V -> V -> Hp -> VK -> Prop) (tip : TIp) (tset : TSet) : TS := fun D σ H => to σ H fun o H1 => ti σ H1 fun i H2 => tget o i H2 fun x H3 => te σ H3 fun y H4 => tip x y H4 fun z H5 => tset o i z H5 fun H6 => D.nx σ H6
def PGet (X : Cx) (t : V -> V -> Hp -> VK -> Prop) : Prop :=
 ∀ (pins : List (Addr × Obj)) (s : Shared) (σ : St) (H : Hp) (o i : V) (ov iv : Value) (Q : VK), Inv X pins σ H s -> RelV o ov -> RelV i iv -> t o i H Q ->
   wpAny (model X.prog X.w) X.A (getItem ov iv) (EP X pins σ Q) X.xe s
def ipI (f : Int -> Int -> Int) : TIp := fun x y H Q => ∃ i j, x = .int i /\ y = .int j /\ Q (.int (f i j)) H
end
section
variable {X : Cx} {pos : Pos}
def tWhile (c : TT) (tb : TS) : TS := fun D σ H => ∃ W : Nat -> St -> Hp -> Prop, (∃ m, W m σ H) /\ ∀ m σ H, W m σ H ->
 c σ H fun b H1 => if b = true then ∃ N : St -> Hp -> Prop, (∀ σ' H', N σ' H' -> ∃ m', m' < m /\ W m' σ' H') /\ tb { D with nx := N, ct := N, bk := D.nx } σ H1 else D.nx σ H1
end
structure It where
 go : Nat -> Hp -> Prop
 yld : Nat -> Hp -> V -> Hp -> Prop
 stop : Nat -> Hp -> Prop
def FpOk (X : Cx) (pins : List (Addr × Obj)) (H : Hp) (b : Addr) : Prop :=
 H b = none /\ b ≠ X.env.locals /\ b ∉ X.fs /\ (b ∈ X.ex \/ X.s₀.heap.get? b = none) /\ (∀ x c, X.env.cells.lookup x = some c -> c ≠ b) /\ ∀ p ∈ X.pn ++ pins, p.1 ≠ b
theorem Inv.fpOk {X : Cx} {pins : List (Addr × Obj)} {σ : St} {H H' : Hp} {s : Shared} {b : Addr} (I : Inv X pins σ H s) (hb : s.heap.objs.size ≤ b) (hn : H' b = none) : FpOk X pins H' b := by
 refine ⟨hn, Nat.ne_of_gt (Nat.lt_of_lt_of_le I.lt hb), I.nofs hb, .inr (Heap.get?_none_of_le (Nat.le_trans I.sz hb)), fun x c e z => ?_, fun p hp z => ?_⟩
 ·obtain ⟨v, q⟩ := I.cell x c e
  exact absurd (Nat.lt_of_lt_of_le q.lt (by rw [z]; exact hb)) (Nat.lt_irrefl _)
 ·exact absurd (Nat.lt_of_lt_of_le (Heap.lt_size (I.pin p hp).1) (by rw [z]; exact hb)) (Nat.lt_irrefl _)
structure Turn (P : Program) (w : World) (K : PySem.W.Frag) (tg : Expr) (J : It) (fp : List Addr) (it : Addr) (tn : Nat -> Heap -> Prop) : Prop where
 mem : it ∈ fp
 obj : ∀ i h, tn i h -> ∀ b ∈ fp, ∃ o, h.get? b = some o /\ ∀ v, o.data ≠ .cell v
 keep : ∀ i h h', tn i h -> (∀ b ∈ fp, ∀ o, h.get? b = some o -> h'.get? b = some o) -> tn i h'
 item : ∀ (X : Cx), X.prog = P -> X.w = w -> X.K = K -> X.calm = true -> ∀ (i : Nat) (pins : List (Addr × Obj)) (s : Shared) (σ : St) (H : Hp) (E : Value -> Shared -> Prop), Inv X pins σ H s -> (∀ b ∈ fp, FpOk X pins H b) -> tn i s.heap -> J.go i H ->
  wpAny (model P w) X.A (pyNext (.ref it)) (fun r s1 => ∃ u, r = some u /\
   wpAny (model P w) X.A (letOwnedTupleGo tg (.ref it) u) (fun _ s2 => ∃ x H', Inv X pins σ H' s2 /\ RelV x u /\ J.yld i H x H' /\ tn (i + 1) s2.heap /\ ∀ b ∈ fp, H' b = none) E s1) E s
 done : ∀ (X : Cx), X.prog = P -> X.w = w -> X.K = K -> X.calm = true -> ∀ (i : Nat) (pins : List (Addr × Obj)) (s : Shared) (σ : St) (H : Hp) (E : Value -> Shared -> Prop), Inv X pins σ H s -> (∀ b ∈ fp, FpOk X pins H b) -> tn i s.heap -> J.stop i H ->
  wpAny (model P w) X.A (pyNext (.ref it)) (fun r s1 => r = none /\ Inv X pins σ H s1) E s
 self : ∀ (A : Around) (i : Nat) (s : Shared) (Q : Value -> Shared -> Prop) (E : Value -> Shared -> Prop), tn i s.heap -> Q (.ref it) s -> wpAny (model P w) A (pyIter (.ref it)) Q E s
abbrev TI := St -> Hp -> (It -> Hp -> Prop) -> Prop
def PIE (X : Cx) (pins : List (Addr × Obj)) (σ : St) (tg : Expr) (R : It -> Hp -> Prop) (itv : Value) (s2 : Shared) : Prop :=
 ∃ (it : Addr) (fp : List Addr) (tn : Nat -> Heap -> Prop) (J : It) (H' : Hp), itv = .ref it /\ Inv X pins σ H' s2 /\ Turn X.prog X.w X.K tg J fp it tn /\ tn 0 s2.heap /\ (∀ b ∈ fp, FpOk X pins H' b) /\ R J H'
def PI (X : Cx) (tg iter : Expr) (wi : TI) : Prop :=
 ∀ (pins : List (Addr × Obj)) (s : Shared) (σ : St) (H : Hp) (R : It -> Hp -> Prop), Inv X pins σ H s -> wi σ H R ->
   wpAny (model X.prog X.w) X.A (eval iter X.env) (fun v s1 => wpAny (model X.prog X.w) X.A (pyIter v) (PIE X pins σ tg R) X.xe s1) X.xe s
theorem go_of {M : Model} {A : Around} {E : Value -> Shared -> Prop} {s : Shared} {tg : Expr} {it : Addr} {u : Value} {o : Obj} {n : String} {vs : Array Value} {Q : Unit -> Shared -> Prop} (ho : s.heap.get? it = some o) (hc : o.cls = .type n) (hd : o.data = .fields vs)
  (hn : ["enumerate", "zip", "dict_itemiterator", "dict_reverseitemiterator", "odict_iterator", "itertools.zip_longest", "itertools.pairwise"].contains n = false) (hQ : Q () s) : wpAny M A (letOwnedTupleGo tg (.ref it) u) Q E s := by
 unfold letOwnedTupleGo
 cases tg <;> first
  | exact wpAny_pure hQ
  | (cases u <;> first
    | exact wpAny_pure hQ
    | (refine wpAny_bind (wpAny_load ho ?_)
       rw [hc, hd]
       show wpAny M A (if (["enumerate", "zip", "dict_itemiterator", "dict_reverseitemiterator", "odict_iterator", "itertools.zip_longest", "itertools.pairwise"].contains n && vs[0]? == some (rawInt _)) = true then _ else _) Q E s
       rw [if_neg (by intro h; rw [hn, Bool.false_and] at h; cases h)]
       exact wpAny_pure hQ))
def Itl (K : PySem.W.Frag) (a : Addr) : It :=
 ⟨fun i H => ∃ xs x, SqL K H a xs /\ xs[i]? = some x, fun i H x H' => H' = H /\ ∀ xs, SqL K H a xs -> xs[i]? = some x, fun i H => ∃ xs, SqL K H a xs /\ xs.length ≤ i⟩
def Itt (K : PySem.W.Frag) (a : Addr) : It :=
 ⟨fun i H => ∃ xs x, SqT K H a xs /\ xs[i]? = some x, fun i H x H' => H' = H /\ ∀ xs, SqT K H a xs -> xs[i]? = some x, fun i H => ∃ xs, SqT K H a xs /\ xs.length ≤ i⟩
def Itr (lo : Int) (n : Nat) : It := ⟨fun i _ => i < n, fun i H x H' => H' = H /\ x = .int (lo + i), fun i _ => n ≤ i⟩
theorem turn_list {P : Program} {w : World} {K : PySem.W.Frag} {tg : Expr} (a it : Addr) : Turn P w K tg (Itl K a) [it] it (fun i h => h.IsListIter it a i) where
 mem := by simp
 obj := fun i h st b hb => by
  have e : b = it := by simpa using hb
  subst e
  obtain ⟨o, e, c, d⟩ := st
  exact ⟨o, e, fun v z => by rw [d] at z; cases z⟩
 keep := fun i h h' st k => st.at fun o e => k it (by simp) o e
 item := by
  intro X hP hw hK hc i pins s σ H E I hf st hg
  subst hP hw hK
  obtain ⟨xs, x, hq, hx⟩ := hg
  obtain ⟨its, rv, p, hz⟩ := I.list hq
  obtain ⟨u, hu, ru⟩ := rv.get hx
  obtain ⟨f0, f1, f2, f3, f4, f5⟩ := hf it (by simp)
  refine wpAny_pyNext_list_item st p.isList (x := u) (by simpa using hu) fun h' st' sb => ?_
  have I1 : Inv X pins σ H { s with heap := h' } := I.turned (t' := s.toks) (fun b o hb e => (sb.2 b hb).trans e) f0 f1 f3 f4 f5
  obtain ⟨o, e, c, d⟩ := id st'
  exact ⟨u, rfl, go_of (s := { s with heap := h' }) e c d (by decide) ⟨x, H, I1, ru, ⟨rfl, fun ys hy => by rw [I.list_inj hy hq]; exact hx⟩, st', fun b hb => (hf b hb).1⟩⟩
 done := by
  intro X hP hw hK hc i pins s σ H E I hf st hg
  subst hP hw hK
  obtain ⟨xs, hq, hx⟩ := hg
  obtain ⟨its, rv, p, hz⟩ := I.list hq
  obtain ⟨f0, f1, f2, f3, f4, f5⟩ := hf it (by simp)
  have hl := rv.length
  exact wpAny_pyNext_list_end (I.ok.hd hc) st p.isList (by simp; omega) fun h' eb => ⟨rfl, I.turned (t' := s.toks) (fun b o hb e => eb b o hb e) f0 f1 f3 f4 f5⟩
 self := fun _ _ _ _ _ st h => wpAny_pyIter_listiter st h
theorem turn_range {P : Program} {w : World} {K : PySem.W.Frag} {tg : Expr} (it : Addr) (lo : Int) (n : Nat) : Turn P w K tg (Itr lo n) [it] it (fun i h => IsRangeIter h it (lo + (i : Nat) * 1) ((n : Int) - (i : Nat)) 1) where
 mem := by simp
 obj := fun i h st b hb => by
  have e : b = it := by simpa using hb
  subst e
  exact ⟨_, st, fun v z => by
   have z' : Data.fields _ = Data.cell v := z
   cases z'⟩
 keep := fun i h h' st k => k it (by simp) _ st
 item := by
  intro X hP hw hK hc i pins s σ H E I hf st hg
  subst hP hw hK
  obtain ⟨f0, f1, f2, f3, f4, f5⟩ := hf it (by simp)
  have W := Walks.range (prog := X.prog) (w := X.w) (I.ok.hd hc) it lo 1 n
  refine W.item i s _ _ hg st fun v h' tk hv st' kk => ?_
  obtain ⟨t, rfl⟩ := hv
  have I1 : Inv X pins σ H { s with heap := h', toks := tk } := I.turned (fun b o hb e => kk b o (by simpa using hb) e) f0 f1 f3 f4 f5
  refine ⟨_, rfl, go_of (s := { s with heap := h', toks := tk }) (n := "range_iterator") st' rfl rfl (by decide) ⟨.int (lo + i), H, I1, ⟨t, ?_⟩, ⟨rfl, rfl⟩, st', fun b hb => (hf b hb).1⟩⟩
  rw [Int.mul_one]
 done := by
  intro X hP hw hK hc i pins s σ H E I hf st hg
  subst hP hw hK
  obtain ⟨f0, f1, f2, f3, f4, f5⟩ := hf it (by simp)
  exact wpAny_pyNext_range_end (I.ok.hd hc) st (by have : n ≤ i := hg; omega) fun h' eb => ⟨rfl, I.turned (t' := s.toks) (fun b o hb e => eb b o hb e) f0 f1 f3 f4 f5⟩
 self := fun _ _ _ _ _ st h => wpAny_pyIter_rangeiter st h
end L2
namespace L2
open PySem PySem.Spec PyProof.Rows
section
variable {X : Cx} {tg : Expr}
def iList (K : PySem.W.Frag) (tl : TE) : TI := fun σ H R => tl σ H fun x H1 => ∃ a, x = .ref a /\ (∃ xs, SqL K H1 a xs) /\ R (Itl K a) H1
def iTup (K : PySem.W.Frag) (tl : TE) : TI := fun σ H R => tl σ H fun x H1 => ∃ a, x = .ref a /\ (∃ xs, SqT K H1 a xs) /\ R (Itt K a) H1
theorem pi_list {l : Expr} {tl : TE} (hl : PE X l tl) : PI X tg l (iList X.K tl) := by
 intro pins s σ H R I h
 refine thn (hl pins s σ H _ I h) fun v s1 ⟨x, H1, I1, r1, q1⟩ => ?_
 obtain ⟨a, e, ⟨xs, hq⟩, q⟩ := q1
 subst e
 cases r1
 obtain ⟨its, rv, p, hz⟩ := I1.list hq
 refine wpAny_pyIter_list p.isList ?_
 refine ⟨s1.heap.objs.size, [s1.heap.objs.size], _, _, H1, rfl, I1.kept (t' := s1.toks) fun b o e => Heap.get?_push_of_some _ e, turn_list a _, ⟨_, Heap.get?_push_size _ rfl, rfl, rfl⟩, fun b hb => ?_, q⟩
 have e : b = s1.heap.objs.size := by simpa using hb
 subst e
 exact I1.fpOk (Nat.le_refl _) (I1.hok.fresh (Nat.le_refl _))
theorem range_it {pins : List (Addr × Obj)} {σ : St} {H : Hp} {s : Shared} {R : It -> Hp -> Prop} {E : Value -> Shared -> Prop} {lo hi : Int} {t u v : Tok} {tk : Nat} (I : Inv X pins σ H s) (h1 : -(2 ^ 62) ≤ lo) (h2 : lo < 2 ^ 62) (h3 : -(2 ^ 62) ≤ hi) (h4 : hi < 2 ^ 62)
  (q : R (Itr lo (hi - lo).toNat) H) : wpAny (model X.prog X.w) X.A (pyIter (.ref s.heap.objs.size)) (PIE X pins σ tg R) E { s with heap := s.heap.push { cls := .type "range", data := .fields #[.int lo t, .int hi u, .int 1 v] }, toks := tk } := by
 refine wpAny_pyIter_range (IsRange.new ..) (small_one h1 h2 h3 h4) ?_
 have I1 : Inv X pins σ H { s with heap := s.heap.push { cls := .type "range", data := .fields #[.int lo t, .int hi u, .int 1 v] }, toks := tk } := I.kept fun b o e => Heap.get?_push_of_some _ e
 refine ⟨(s.heap.push { cls := .type "range", data := .fields #[.int lo t, .int hi u, .int 1 v] }).objs.size, [(s.heap.push { cls := .type "range", data := .fields #[.int lo t, .int hi u, .int 1 v] }).objs.size], _, _, H, rfl,
  I1.kept (t' := tk) fun b o e => Heap.get?_push_of_some _ e, turn_range _ lo (hi - lo).toNat, ?_, fun b hb => ?_, q⟩
 ·have e1 : lo + ((0 : Nat) : Int) * 1 = lo := by simp
  have e2 : (((hi - lo).toNat : Nat) : Int) - ((0 : Nat) : Int) = Builtin.Range.rangeSize lo hi 1 := by rw [rangeSize_one]; split <;> omega
  show IsRangeIter _ _ (lo + ((0 : Nat) : Int) * 1) ((((hi - lo).toNat : Nat) : Int) - ((0 : Nat) : Int)) 1
  rw [e1, e2]
  exact Heap.get?_push_size _ rfl
 ·have e : b = (s.heap.push { cls := .type "range", data := .fields #[.int lo t, .int hi u, .int 1 v] }).objs.size := by simpa using hb
  subst e
  exact I1.fpOk (Nat.le_refl _) (I1.hok.fresh (Nat.le_refl _))
def iRng1 (ta : TA) : TI := fun σ H R => ta σ H fun vs H1 => ∃ j : Int, vs = [.int j] /\ -(2 ^ 62) ≤ j /\ j < 2 ^ 62 /\ R (Itr 0 j.toNat) H1
def iRng2 (ta : TA) : TI := fun σ H R => ta σ H fun vs H1 => ∃ i j : Int, vs = [.int i, .int j] /\ (-(2 ^ 62) ≤ i /\ i < 2 ^ 62 /\ -(2 ^ 62) ≤ j /\ j < 2 ^ 62) /\ R (Itr i (j - i).toNat) H1
theorem pi_range1 {a : Expr} {ta : TA} {p pos : Pos} (hg : Gl X "range") (hm : X.mg "range" = none) (ha : PA X [a] ta) (hs : starEach [a] X.env = [(false, eval a X.env)] := by rfl) : PI X tg (.Call (.Name "range" p) [a] [] pos) (iRng1 ta) := by
 intro pins s σ H R I h
 refine Call_ (ld_blt I hg hm boot_range (PyProof.Rows.callWith_type1 (thn (ha pos pins s σ H _ I h) fun us s1 ⟨vs, H1, I1, r1, q1⟩ => ?_) hs rfl))
 obtain ⟨j, e, q1, q2, q⟩ := q1
 subst e
 cases r1 with
 | cons r rr =>
   cases rr
   obtain ⟨t, rfl⟩ := r
   exact call_range_1 (range_it I1 (by omega) (by omega) q1 q2 (by simpa using q))
theorem pi_range2 {a b : Expr} {ta : TA} {p pos : Pos} (hg : Gl X "range") (hm : X.mg "range" = none) (ha : PA X [a, b] ta) (hs : starEach [a, b] X.env = [(false, eval a X.env), (false, eval b X.env)] := by rfl) (hs2 : starEach [b] X.env = [(false, eval b X.env)] := by rfl) :
  PI X tg (.Call (.Name "range" p) [a, b] [] pos) (iRng2 ta) := by
 intro pins s σ H R I h
 refine Call_ (ld_blt I hg hm boot_range (PyProof.Rows.callWith_type1 (thn (ha pos pins s σ H _ I h) fun us s1 ⟨vs, H1, I1, r1, q1⟩ => ?_) (by rw [hs, hs2]) (by rw [hs2]; rfl)))
 obtain ⟨i, j, e, ⟨q1, q2, q3, q4⟩, q⟩ := q1
 subst e
 cases r1 with
 | cons r rr =>
   cases rr with
   | cons r' rr =>
     cases rr
     obtain ⟨t, rfl⟩ := r
     obtain ⟨t', rfl⟩ := r'
     exact call_range_2 (range_it I1 q1 q2 q3 q4 q)
def tFor (wi : TI) (g : TG) (tb : TS) : TS := fun D σ H => wi σ H fun J H1 => ∃ W : Nat -> Nat -> St -> Hp -> Prop, (∃ m, W 0 m σ H1) /\ ∀ i m σ H, W i m σ H ->
 (J.stop i H /\ D.nx σ H) \/ (J.go i H /\ ∃ N : St -> Hp -> Prop, (∀ σ' H', N σ' H' -> ∃ m', m' < m /\ W (i + 1) m' σ' H') /\ ∀ x H', J.yld i H x H' -> g x σ H' fun σ2 H2 => tb { D with nx := N, ct := N, bk := D.nx } σ2 H2)
def pinsAt (fp : List Addr) (h : Heap) : List (Addr × Obj) := fp.filterMap fun b => (h.get? b).map fun o => (b, o)
theorem mem_pinsAt {fp : List Addr} {h : Heap} {b : Addr} {o : Obj} (hb : b ∈ fp) (e : h.get? b = some o) : (b, o) ∈ pinsAt fp h := List.mem_filterMap.mpr ⟨b, hb, by rw [e]; rfl⟩
theorem of_pinsAt {fp : List Addr} {h : Heap} {p : Addr × Obj} (hp : p ∈ pinsAt fp h) : p.1 ∈ fp /\ h.get? p.1 = some p.2 := by
 obtain ⟨b, hb, e⟩ := List.mem_filterMap.mp hp
 cases q : h.get? b with
 | none => rw [q] at e; cases e
 | some o =>
   rw [q] at e
   have e' : (b, o) = p := Option.some.inj e
   subst e'
   exact ⟨hb, q⟩
theorem Inv.pinned {pins : List (Addr × Obj)} {σ : St} {H : Hp} {s : Shared} {fp : List Addr} (I : Inv X pins σ H s) (hf : ∀ b ∈ fp, FpOk X pins H b) (ho : ∀ b ∈ fp, ∃ o, s.heap.get? b = some o /\ ∀ v, o.data ≠ .cell v) : Inv X (pins ++ pinsAt fp s.heap) σ H s :=
 I.pins_of fun p hp => (List.mem_append.mp hp).elim (fun z => I.pin p (List.mem_append_right _ z)) fun z => by
  obtain ⟨hb, e⟩ := of_pinsAt z
  obtain ⟨f0, f1, f2, _⟩ := hf p.1 hb
  obtain ⟨o, e', d⟩ := ho p.1 hb
  rw [e] at e'; cases e'
  exact ⟨e, f0, f1, f2, d⟩
theorem Inv.unpinned {pins pl : List (Addr × Obj)} {σ : St} {H : Hp} {s : Shared} (I : Inv X (pins ++ pl) σ H s) : Inv X pins σ H s := I.pins_of fun p hp => I.pin p (List.mem_append_right _ (List.mem_append_left _ hp))
theorem ps_for {iter : Expr} {body : List Stmt} {wi : TI} {g : TG} {tb : TS} {pos : Pos} (hp : PassesOwn (model X.prog X.w) X.A X.env X.xe) (hc : X.calm = true) (hi : PI X tg iter wi) (hg : PG X tg g) (hb : PSs X body tb)
  (hs : ∀ x, foldedSetIterable iter X.env x = pure x := by intro _; rfl) : PS X (.For tg iter body [] pos) (tFor wi g tb) := by
 intro pins s σ H D I h
 refine wpAny_For (thn (hi pins s σ H _ I h) fun v s1 h1 => thn h1 fun itv s2 h2 => ?_) hs
 obtain ⟨it, fp, tn, J, H2, e, I2, T, st2, f2, W, ⟨m0, w0⟩, turn⟩ := h2
 subst e
 have stat : ∀ {H' : Hp}, (∀ b ∈ fp, H' b = none) -> ∀ b ∈ fp, FpOk X pins H' b := fun hn b hb => ⟨hn b hb, (f2 b hb).2⟩
 refine codeAny_forLoop_any (fun n s' => ∃ i σ' H', Inv X pins σ' H' s' /\ tn i s'.heap /\ (∀ b ∈ fp, H' b = none) /\ W i n σ' H') ?_ m0 ⟨0, σ, H2, I2, st2, fun b hb => (f2 b hb).1, w0⟩
 rintro n s3 ⟨i, σ3, H3, I3, st3, fr3, w3⟩
 rcases turn i n σ3 H3 w3 with ⟨stop, qn⟩ | ⟨go, N, hN, step⟩
 ·refine wpAny_passesOwn hp (thn (T.done X rfl rfl rfl hc i pins s3 σ3 H3 X.xe I3 (stat fr3) st3 stop) fun r s4 ⟨hr, I4⟩ => ?_)
  subst hr
  exact wpAny_execs_nil ⟨σ3, H3, I4, qn⟩
 ·refine wpAny_passesOwn hp (thn (T.item X rfl rfl rfl hc i pins s3 σ3 H3 X.xe I3 (stat fr3) st3 go) fun r s4 ⟨u, hr, h4⟩ => ?_)
  subst hr
  refine wpAny_passesOwn hp (thn h4 fun _ s5 ⟨x, H5, I5, r5, y5, st5, fr5⟩ => ?_)
  have I5' := I5.pinned (stat fr5) (T.obj _ _ st5)
  refine wpAny_passesOwn hp (thn (hg _ s5 σ3 H5 x u _ I5' r5 (step x H5 y5)) fun _ s6 ⟨σ6, H6, I6, q6⟩ => ?_)
  refine wpAny_passesOwn hp (thn (hb _ s6 σ6 H6 _ I6 q6) fun f s7 q7 => ?_)
  have again : ∀ {σ7 : St} {H7 : Hp}, Inv X (pins ++ pinsAt fp s5.heap) σ7 H7 s7 -> N σ7 H7 -> ∃ m, m < n /\ ∃ i σ' H', Inv X pins σ' H' s7 /\ tn i s7.heap /\ (∀ b ∈ fp, H' b = none) /\ W i m σ' H' := fun {σ7 H7} I7 n7 => by
   obtain ⟨m', hm, w7⟩ := hN σ7 H7 n7
   refine ⟨m', hm, i + 1, σ7, H7, I7.unpinned, T.keep _ _ _ st5 fun b hb o e => (I7.pin (b, o) (List.mem_append_right _ (List.mem_append_right _ (mem_pinsAt hb e)))).1, fun b hb => ?_, w7⟩
   obtain ⟨o, e, d⟩ := T.obj _ _ st5 b hb
   exact (I7.pin (b, o) (List.mem_append_right _ (List.mem_append_right _ (mem_pinsAt hb e)))).2.1
  cases f with
  | next => obtain ⟨σ7, H7, I7, n7⟩ := q7; exact again I7 n7
  | cont => obtain ⟨σ7, H7, I7, n7⟩ := q7; exact again I7 n7
  | brk => obtain ⟨σ7, H7, I7, q7⟩ := q7; exact ⟨σ7, H7, I7.unpinned, q7⟩
  | ret v => obtain ⟨x7, σ7, H7, I7, r7, q7⟩ := q7; exact ⟨x7, σ7, H7, I7.unpinned, r7, q7⟩
end
theorem for_list {K : PySem.W.Frag} {a : Addr} {xs : List V} {g : TG} {tb : TS} {D : Ends} {σ : St} {H : Hp} (Pv : Nat -> St -> Hp -> Prop) (h0 : Pv 0 σ H) (hl : ∀ i σ H, i ≤ xs.length -> Pv i σ H -> SqL K H a xs)
  (hs : ∀ i x σ H, xs[i]? = some x -> Pv i σ H -> g x σ H fun σ2 H2 => tb { D with nx := Pv (i + 1), ct := Pv (i + 1), bk := D.nx } σ2 H2) (hd : ∀ σ H, Pv xs.length σ H -> D.nx σ H) :
  ∃ W : Nat -> Nat -> St -> Hp -> Prop, (∃ m, W 0 m σ H) /\ ∀ i m σ H, W i m σ H ->
    ((Itl K a).stop i H /\ D.nx σ H) \/ ((Itl K a).go i H /\ ∃ N : St -> Hp -> Prop, (∀ σ' H', N σ' H' -> ∃ m', m' < m /\ W (i + 1) m' σ' H') /\ ∀ x H', (Itl K a).yld i H x H' -> g x σ H' fun σ2 H2 => tb { D with nx := N, ct := N, bk := D.nx } σ2 H2) := by
 refine ⟨fun i m σ H => m = xs.length - i /\ i ≤ xs.length /\ Pv i σ H, ⟨xs.length, by simp, Nat.zero_le _, h0⟩, ?_⟩
 rintro i m σ H ⟨rfl, hi, p⟩
 have q := hl i σ H hi p
 by_cases hlt : i < xs.length
 ·refine .inr ⟨⟨xs, xs[i], q, by simp [hlt]⟩, Pv (i + 1), fun σ' H' p' => ⟨xs.length - (i + 1), by omega, rfl, hlt, p'⟩, fun x H' y => ?_⟩
  obtain ⟨e, y⟩ := y
  subst e
  exact hs i x σ _ (y xs q) p
 ·have e : i = xs.length := by omega
  subst e
  exact .inl ⟨⟨xs, q, Nat.le_refl _⟩, hd σ H p⟩
theorem for_range {lo : Int} {n : Nat} {g : TG} {tb : TS} {D : Ends} {σ : St} {H : Hp} (Pv : Nat -> St -> Hp -> Prop) (h0 : Pv 0 σ H)
  (hs : ∀ i σ H, i < n -> Pv i σ H -> g (.int (lo + i)) σ H fun σ2 H2 => tb { D with nx := Pv (i + 1), ct := Pv (i + 1), bk := D.nx } σ2 H2) (hd : ∀ σ H, Pv n σ H -> D.nx σ H) :
  ∃ W : Nat -> Nat -> St -> Hp -> Prop, (∃ m, W 0 m σ H) /\ ∀ i m σ H, W i m σ H ->
    ((Itr lo n).stop i H /\ D.nx σ H) \/ ((Itr lo n).go i H /\ ∃ N : St -> Hp -> Prop, (∀ σ' H', N σ' H' -> ∃ m', m' < m /\ W (i + 1) m' σ' H') /\ ∀ x H', (Itr lo n).yld i H x H' -> g x σ H' fun σ2 H2 => tb { D with nx := N, ct := N, bk := D.nx } σ2 H2) := by
 refine ⟨fun i m σ H => m = n - i /\ i ≤ n /\ Pv i σ H, ⟨n, by simp, Nat.zero_le _, h0⟩, ?_⟩
 rintro i m σ H ⟨rfl, hi, p⟩
 by_cases hlt : i < n
 ·refine .inr ⟨hlt, Pv (i + 1), fun σ' H' p' => ⟨n - (i + 1), by omega, rfl, hlt, p'⟩, fun x H' y => ?_⟩
  obtain ⟨e, y⟩ := y
  subst e y
  exact hs i σ _ hlt p
 ·have e : i = n := by omega
  subst e
  exact .inl ⟨Nat.le_refl _, hd σ H p⟩
end L2
namespace L2
open PySem PySem.Spec PyProof.Rows
abbrev R2 := V -> V -> Hp -> VK -> Prop
def OpR (X : Cx) (f : Value -> Value -> Sem Value) (r : R2) : Prop :=
 ∀ (pins : List (Addr × Obj)) (s : Shared) (σ : St) (H : Hp) (x y : V) (v u : Value) (Q : VK), Inv X pins σ H s -> RelV x v -> RelV y u -> r x y H Q ->
   wpAny (model X.prog X.w) X.A (f v u) (EP X pins σ Q) X.xe s
def UnR (X : Cx) (f : Value -> Sem Value) (r : V -> Hp -> VK -> Prop) : Prop :=
 ∀ (pins : List (Addr × Obj)) (s : Shared) (σ : St) (H : Hp) (x : V) (v : Value) (Q : VK), Inv X pins σ H s -> RelV x v -> r x H Q ->
   wpAny (model X.prog X.w) X.A (f v) (EP X pins σ Q) X.xe s
def CallR (X : Cx) (f : Value) (r : List V -> Hp -> VK -> Prop) : Prop :=
 ∀ (pins : List (Addr × Obj)) (s : Shared) (σ : St) (H : Hp) (xs : List V) (us : List Value) (Q : VK), Inv X pins σ H s -> Vals xs us -> r xs H Q ->
   wpAny (model X.prog X.w) X.A (call f us) (EP X pins σ Q) X.xe s
def TruR (X : Cx) (r : V -> Hp -> (Bool -> Hp -> Prop) -> Prop) : Prop :=
 ∀ (pins : List (Addr × Obj)) (s : Shared) (σ : St) (H : Hp) (x : V) (v : Value) (Q : Bool -> Hp -> Prop), Inv X pins σ H s -> RelV x v -> r x H Q ->
   wpAny (model X.prog X.w) X.A (truthy v) (TP X pins σ Q) X.xe s
def tOp (r : R2) (ta tb : TE) : TE := fun σ H Q => ta σ H fun x H1 => tb σ H1 fun y H2 => r x y H2 Q
def tUn (r : V -> Hp -> VK -> Prop) (ta : TE) : TE := fun σ H Q => ta σ H fun x H1 => r x H1 Q
def rI (C : Int -> Int -> Prop) (g : Int -> Int -> V) : R2 := fun x y H Q => ∃ i j, x = .int i /\ y = .int j /\ C i j /\ Q (g i j) H
def rI0 (g : Int -> Int -> V) : R2 := fun x y H Q => ∃ i j, x = .int i /\ y = .int j /\ Q (g i j) H
def rU (g : Int -> V) : V -> Hp -> VK -> Prop := fun x H Q => ∃ i, x = .int i /\ Q (g i) H
section
variable {X : Cx} {a b c : Expr} {ta tb tc : TE} {pos : Pos}
theorem binT (ha : PE X a ta) (hb : PE X b tb) {pins : List (Addr × Obj)} {s : Shared} {σ : St} {H : Hp} {R : V -> V -> Hp -> Prop} (I : Inv X pins σ H s)
  (h : ta σ H fun x H1 => tb σ H1 fun y H2 => R x y H2) {Q : Value -> Shared -> Prop} {f : Value -> Value -> Sem Value}
  (hf : ∀ v u s2 x y H2, Inv X pins σ H2 s2 -> RelV x v -> RelV y u -> R x y H2 -> wpAny (model X.prog X.w) X.A (f v u) Q X.xe s2) :
  wpAny (model X.prog X.w) X.A (eval a X.env) (fun v s₁ => wpAny (model X.prog X.w) X.A (eval b X.env) (fun u s₂ => wpAny (model X.prog X.w) X.A (f v u) Q X.xe s₂) X.xe s₁) X.xe s := by
 refine thn (ha pins s σ H _ I h) fun v s1 ⟨x, H1, I1, r1, q1⟩ => ?_
 refine thn (hb pins s1 σ H1 _ I1 q1) fun u s2 ⟨y, H2, I2, r2, q2⟩ => ?_
 exact hf v u s2 x y H2 I2 r1 r2 q2
theorem pe_op {op : Operator} {r : R2} (ho : OpR X (binaryOp op) r) (ha : PE X a ta) (hb : PE X b tb) : PE X (.BinOp a op b pos) (tOp r ta tb) := by
 intro pins s σ H Q I h
 exact wpAny_BinOp (binT ha hb I h fun v u s2 x y H2 I2 rx ry q => ho pins s2 σ H2 x y v u Q I2 rx ry q)
theorem pe_un {op : UnaryOp} {r : V -> Hp -> VK -> Prop} (ho : UnR X (unaryOp op) r) (ha : PE X a ta) : PE X (.UnaryOp op a pos) (tUn r ta) := by
 intro pins s σ H Q I h
 exact UnaryOp_ (thn (ha pins s σ H _ I h) fun v s1 ⟨x, H1, I1, r1, q1⟩ => ho pins s1 σ H1 x v Q I1 r1 q1)
theorem opI {f : Value -> Value -> Sem Value} {C : Int -> Int -> Prop} {g : Int -> Int -> Int}
  (rule : ∀ (i j : Int) (t u : Tok) (s : Shared) (Q : Value -> Shared -> Prop) (E : Value -> Shared -> Prop), C i j -> Q (.int (g i j) s.toks) { s with toks := s.toks + 1 } -> wpAny (model X.prog X.w) X.A (f (.int i t) (.int j u)) Q E s) :
  OpR X f (rI C fun i j => .int (g i j)) := by
 intro pins s σ H x y v u Q I rx ry h
 obtain ⟨i, j, rfl, rfl, hc, q⟩ := h
 obtain ⟨t, rfl⟩ := rx
 obtain ⟨t', rfl⟩ := ry
 exact rule i j t t' s _ _ hc ⟨.int (g i j), H, I.tok _, ⟨_, rfl⟩, q⟩
theorem opI0 {f : Value -> Value -> Sem Value} {g : Int -> Int -> Int}
  (rule : ∀ (i j : Int) (t u : Tok) (s : Shared) (Q : Value -> Shared -> Prop) (E : Value -> Shared -> Prop), Q (.int (g i j) s.toks) { s with toks := s.toks + 1 } -> wpAny (model X.prog X.w) X.A (f (.int i t) (.int j u)) Q E s) :
  OpR X f (rI0 fun i j => .int (g i j)) := by
 intro pins s σ H x y v u Q I rx ry h
 obtain ⟨i, j, rfl, rfl, q⟩ := h
 obtain ⟨t, rfl⟩ := rx
 obtain ⟨t', rfl⟩ := ry
 exact rule i j t t' s _ _ ⟨.int (g i j), H, I.tok _, ⟨_, rfl⟩, q⟩
theorem opB0 {f : Value -> Value -> Sem Value} {g : Int -> Int -> Bool}
  (rule : ∀ (i j : Int) (t u : Tok) (s : Shared) (Q : Value -> Shared -> Prop) (E : Value -> Shared -> Prop), Q (.bool (g i j)) s -> wpAny (model X.prog X.w) X.A (f (.int i t) (.int j u)) Q E s) :
  OpR X f (rI0 fun i j => .bl (g i j)) := by
 intro pins s σ H x y v u Q I rx ry h
 obtain ⟨i, j, rfl, rfl, q⟩ := h
 obtain ⟨t, rfl⟩ := rx
 obtain ⟨t', rfl⟩ := ry
 exact rule i j t t' s _ _ ⟨.bl (g i j), H, I, rfl, q⟩
def CDiv (i j : Int) : Prop := 0 < j /\ j < 1073741824
def CDivN (i j : Int) : Prop := j ≠ 0 /\ j.natAbs < 1073741824
def CPow (i j : Int) : Prop := 0 ≤ j /\ j ≤ 1000000 /\ i.natAbs < 2 ^ 64
def CMul (i j : Int) : Prop := (-(2 ^ 64) < i /\ i < 2 ^ 64) \/ (-(2 ^ 64) < j /\ j < 2 ^ 64)
theorem CMul.ok {i j : Int} (h : CMul i j) : IntMulOk i j := by
 rcases h with ⟨h1, h2⟩ | ⟨h1, h2⟩
 ·exact .of_left (intBits_le_64 h1 h2)
 ·exact .of_right (intBits_le_64 h1 h2)
theorem op_add : OpR X (binaryOp .Add) (rI0 fun i j => .int (i + j)) := opI0 fun _ _ _ _ _ _ _ q => add_int q
theorem op_sub : OpR X (binaryOp .Sub) (rI0 fun i j => .int (i - j)) := opI0 fun _ _ _ _ _ _ _ q => sub_int q
theorem op_mul : OpR X (binaryOp .Mult) (rI CMul fun i j => .int (i * j)) := opI fun _ _ _ _ _ _ _ hc q => mul_int q hc.ok
theorem op_fdiv : OpR X (binaryOp .FloorDiv) (rI CDiv fun i j => .int (i / j)) := opI fun i j _ _ _ _ _ hc q => by
 have h1 : (0 : Int) < j := hc.1
 have h2 : j < 1073741824 := hc.2
 exact floordiv_int (by omega) (by rw [Int.fdiv_eq_ediv_of_nonneg i (by omega)]; exact q) (.inl (PyProof.noPylong_small (by omega)))
theorem op_mod : OpR X (binaryOp .Mod) (rI (fun _ j => 0 < j) fun i j => .int (i % j)) := opI fun i j _ _ _ _ _ hc q => by
 have h1 : (0 : Int) < j := hc
 exact mod_int' (by omega) (by rw [Int.fmod_eq_emod_of_nonneg i (by omega)]; exact q)
theorem op_pow : OpR X (binaryOp .Pow) (rI CPow fun i j => .int (i ^ j.toNat)) := opI fun _ _ _ _ _ _ _ hc q => pow_int_small hc.1 hc.2.1 hc.2.2 q
theorem unI {f : Value -> Sem Value} {g : Int -> Int}
  (rule : ∀ (i : Int) (t : Tok) (s : Shared) (Q : Value -> Shared -> Prop) (E : Value -> Shared -> Prop), Q (.int (g i) s.toks) { s with toks := s.toks + 1 } -> wpAny (model X.prog X.w) X.A (f (.int i t)) Q E s) :
  UnR X f (rU fun i => .int (g i)) := by
 intro pins s σ H x v Q I rx h
 obtain ⟨i, rfl, q⟩ := h
 obtain ⟨t, rfl⟩ := rx
 exact rule i t s _ _ ⟨.int (g i), H, I.tok _, ⟨_, rfl⟩, q⟩
theorem un_neg : UnR X (unaryOp .USub) (rU fun i => .int (-i)) := unI fun _ _ _ _ _ q => neg_int q
end
def scal : V -> V -> Bool
 | .non, .non => true | .non, .int _ => true | .int _, .non => true | .non, .bl _ => true | .bl _, .non => true | .non, .str _ => true | .str _, .non => true
 | .int _, .int _ => true | .bl _, .bl _ => true | .str _, .str _ => true | .byt _, .byt _ => true
 | .int _, .str _ => true | .str _, .int _ => true | .bl _, .str _ => true | .str _, .bl _ => true
 | _, _ => false
def rEq : R2 := fun x y H Q => scal x y = true /\ Q (.bl (decide (x = y))) H
def rNe : R2 := fun x y H Q => scal x y = true /\ Q (.bl (!decide (x = y))) H
theorem dec_int {i j : Int} : decide (V.int i = V.int j) = (i == j) := by
 rw [Bool.eq_iff_iff]
 simp
theorem dec_bl {i j : Bool} : decide (V.bl i = V.bl j) = (i == j) := by
 rw [Bool.eq_iff_iff]
 simp
theorem dec_str {i j : Str} : decide (V.str i = V.str j) = (i == j) := by
 rw [Bool.eq_iff_iff]
 simp
theorem dec_byt {i j : Array UInt8} : decide (V.byt i = V.byt j) = (i.toList == j.toList) := by
 rw [Bool.eq_iff_iff]
 cases i
 cases j
 simp
section
variable {X : Cx} {a b c : Expr} {ta tb tc : TE} {pos : Pos}
theorem fin_bl {pins : List (Addr × Obj)} {σ : St} {H : Hp} {s : Shared} {Q : VK} {k k' : Bool} (I : Inv X pins σ H s) (q : Q (.bl k) H) (e : k = k') : EP X pins σ Q (.bool k') s := by
 subst e
 exact ⟨.bl k, H, I, rfl, q⟩
theorem op_eq : OpR X (compareOp .Eq) rEq := by
 intro pins s σ H x y v u Q I rx ry h
 obtain ⟨hs, q⟩ := h
 cases x with
 | non =>
   cases rx
   cases y with
   | non => cases ry; exact PySem.EqNone.eq_none_none (fin_bl I q (by simp))
   | bl j => cases ry; exact PySem.EqNone.eq_none_bool (fin_bl I q (by simp))
   | int j => obtain ⟨t', rfl⟩ := ry; exact PySem.EqNone.eq_none_int (fin_bl I q (by simp))
   | str j => obtain ⟨t', rfl⟩ := ry; exact PySem.EqNone.eq_none_str (fin_bl I q (by simp))
   | _ => exact absurd (show false = true from hs) Bool.false_ne_true
 | bl i =>
   cases rx
   cases y with
   | non => cases ry; exact PySem.EqNone.eq_bool_none (fin_bl I q (by simp))
   | bl j => cases ry; exact eq_bool (fin_bl I q dec_bl)
   | str j => obtain ⟨t', rfl⟩ := ry; exact PySem.EqMixed.eq_bool_str (fin_bl I q (by simp))
   | _ => exact absurd (show false = true from hs) Bool.false_ne_true
 | int i =>
   obtain ⟨t, rfl⟩ := rx
   cases y with
   | non => cases ry; exact PySem.EqNone.eq_int_none (fin_bl I q (by simp))
   | int j => obtain ⟨t', rfl⟩ := ry; exact eq_int (fin_bl I q dec_int)
   | str j => obtain ⟨t', rfl⟩ := ry; exact PySem.EqMixed.eq_int_str (fin_bl I q (by simp))
   | _ => exact absurd (show false = true from hs) Bool.false_ne_true
 | str i =>
   obtain ⟨t, rfl⟩ := rx
   cases y with
   | non => cases ry; exact PySem.EqNone.eq_str_none (fin_bl I q (by simp))
   | bl j => cases ry; exact PySem.EqMixed.eq_str_bool (fin_bl I q (by simp))
   | int j => obtain ⟨t', rfl⟩ := ry; exact PySem.EqMixed.eq_str_int (fin_bl I q (by simp))
   | str j => obtain ⟨t', rfl⟩ := ry; exact eq_str (fin_bl I q dec_str)
   | _ => exact absurd (show false = true from hs) Bool.false_ne_true
 | byt i =>
   obtain ⟨t, rfl⟩ := rx
   cases y with
   | byt j => obtain ⟨t', rfl⟩ := ry; exact PySem.W.eq_bytes (fin_bl I q dec_byt)
   | _ => exact absurd (show false = true from hs) Bool.false_ne_true
 | _ => cases y <;> exact absurd (show false = true from hs) Bool.false_ne_true
theorem op_ne : OpR X (compareOp .NotEq) rNe := by
 intro pins s σ H x y v u Q I rx ry h
 obtain ⟨hs, q⟩ := h
 cases x with
 | non =>
   cases rx
   cases y with
   | non => cases ry; exact PySem.EqNone.ne_none_none (fin_bl I q (by simp))
   | bl j => cases ry; exact PySem.EqNone.ne_none_bool (fin_bl I q (by simp))
   | int j => obtain ⟨t', rfl⟩ := ry; exact PySem.EqNone.ne_none_int (fin_bl I q (by simp))
   | str j => obtain ⟨t', rfl⟩ := ry; exact PySem.EqNone.ne_none_str (fin_bl I q (by simp))
   | _ => exact absurd (show false = true from hs) Bool.false_ne_true
 | bl i =>
   cases rx
   cases y with
   | non => cases ry; exact PySem.EqNone.ne_bool_none (fin_bl I q (by simp))
   | bl j => cases ry; exact ne_bool (fin_bl I q (congrArg not dec_bl))
   | str j => obtain ⟨t', rfl⟩ := ry; exact PySem.EqMixed.ne_bool_str (fin_bl I q (by simp))
   | _ => exact absurd (show false = true from hs) Bool.false_ne_true
 | int i =>
   obtain ⟨t, rfl⟩ := rx
   cases y with
   | non => cases ry; exact PySem.EqNone.ne_int_none (fin_bl I q (by simp))
   | int j => obtain ⟨t', rfl⟩ := ry; exact ne_int (fin_bl I q (congrArg not dec_int))
   | str j => obtain ⟨t', rfl⟩ := ry; exact PySem.EqMixed.ne_int_str (fin_bl I q (by simp))
   | _ => exact absurd (show false = true from hs) Bool.false_ne_true
 | str i =>
   obtain ⟨t, rfl⟩ := rx
   cases y with
   | non => cases ry; exact PySem.EqNone.ne_str_none (fin_bl I q (by simp))
   | bl j => cases ry; exact PySem.EqMixed.ne_str_bool (fin_bl I q (by simp))
   | int j => obtain ⟨t', rfl⟩ := ry; exact PySem.EqMixed.ne_str_int (fin_bl I q (by simp))
   | str j => obtain ⟨t', rfl⟩ := ry; exact ne_str (fin_bl I q (congrArg not dec_str))
   | _ => exact absurd (show false = true from hs) Bool.false_ne_true
 | byt i =>
   obtain ⟨t, rfl⟩ := rx
   cases y with
   | byt j => obtain ⟨t', rfl⟩ := ry; exact PySem.W.ne_bytes (fin_bl I q (congrArg not dec_byt))
   | _ => exact absurd (show false = true from hs) Bool.false_ne_true
 | _ => cases y <;> exact absurd (show false = true from hs) Bool.false_ne_true
theorem op_lt : OpR X (compareOp .Lt) (rI0 fun i j => .bl (decide (i < j))) := opB0 fun _ _ _ _ _ _ _ q => lt_int q
theorem op_le : OpR X (compareOp .LtE) (rI0 fun i j => .bl (decide (i ≤ j))) := opB0 fun _ _ _ _ _ _ _ q => le_int q
theorem op_gt : OpR X (compareOp .Gt) (rI0 fun i j => .bl (decide (j < i))) := opB0 fun _ _ _ _ _ _ _ q => gt_int q
theorem op_in_str : OpR X (compareOp .In) (fun x y H Q => ∃ i j, x = .str i /\ y = .str j /\ Q (.bl (!(Builtin.Str.occurrences j i 0 j.length 1).isEmpty)) H) := by
 intro pins s σ H x y v u Q I rx ry h
 obtain ⟨i, j, rfl, rfl, q⟩ := h
 obtain ⟨t, rfl⟩ := rx
 obtain ⟨t', rfl⟩ := ry
 exact in_str (fin_bl I q rfl)
theorem op_isN : OpR X (compareOp .Is) (fun x y H Q => y = .non /\ Q (.bl (decide (x = .non))) H) := by
 intro pins s σ H x y v u Q I rx ry h
 obtain ⟨rfl, q⟩ := h
 cases ry
 refine is_none_gen (fin_bl I q ?_)
 cases x <;> first
  | (cases rx; rfl)
  | (obtain ⟨t, rfl⟩ := rx; rfl)
theorem op_notN : OpR X (compareOp .IsNot) (fun x y H Q => y = .non /\ Q (.bl (!decide (x = .non))) H) := by
 intro pins s σ H x y v u Q I rx ry h
 obtain ⟨rfl, q⟩ := h
 cases ry
 refine isnot_none_gen (fin_bl I q ?_)
 cases x <;> first
  | (cases rx; rfl)
  | (obtain ⟨t, rfl⟩ := rx; rfl)
def isObj : HO -> Bool
 | .lst _ => true
 | .ins _ _ _ => true
 | _ => false
theorem nomark (b : Expr) {op : CmpOp} (h : op ≠ .In := by decide) (h2 : op ≠ .NotIn := by decide) : behindInMarks op b = false := by
 have e1 : (op == CmpOp.In) = false := by cases op <;> first | rfl | exact absurd rfl h
 have e2 : (op == CmpOp.NotIn) = false := by cases op <;> first | rfl | exact absurd rfl h2
 cases b <;> simp [behindInMarks, e1, e2]
theorem pe_cmpR {op : CmpOp} {r : R2} (ho : OpR X (compareOp op) r) (ha : PE X a ta) (hb : PE X b tb) (hm : behindInMarks op b = false) : PE X (.Compare a [op] [b] pos) (tOp r ta tb) := by
 intro pins s σ H Q I h
 exact wpAny_Compare1 (binT ha hb I h fun v u s2 x y H2 I2 rx ry q => ho pins s2 σ H2 x y v u Q I2 rx ry q) hm
def tTest (t : TE) : TT := fun σ H Q => t σ H fun x H' => ∃ k, x = .bl k /\ Q k H'
theorem pt_cmpR {op : CmpOp} {r : R2} (ho : OpR X (compareOp op) r) (ha : PE X a ta) (hb : PE X b tb) (hm : behindInMarks op b = false) : PT X (.Compare a [op] [b] pos) (tTest (tOp r ta tb)) := by
 intro pins s σ H Q I h
 refine wpAny_isTrue_Compare1 (thn (ha pins s σ H _ I h) fun v s1 ⟨x, H1, I1, r1, q1⟩ => thn (hb pins s1 σ H1 _ I1 q1) fun u s2 ⟨y, H2, I2, r2, q2⟩ =>
  thn (ho pins s2 σ H2 x y v u _ I2 r1 r2 q2) fun c s3 ⟨z, H3, I3, r3, k, e, q3⟩ => ?_) hm
 subst e
 cases r3
 exact wpAny_truthy_bool ⟨H3, I3, q3⟩
def tChain (r r' : R2) (ta tb tc : TE) : TE := fun σ H Q => ta σ H fun x H1 => tb σ H1 fun y H2 => r x y H2 fun z H3 => ∃ k, z = .bl k /\
 (if k = true then tc σ H3 fun w' H4 => r' y w' H4 Q else Q (.bl false) H3)
theorem pe_chain {op op' : CmpOp} {r r' : R2} (ho : OpR X (compareOp op) r) (ho' : OpR X (compareOp op') r') (ha : PE X a ta) (hb : PE X b tb) (hc : PE X c tc)
  (hm : lastMarks [op, op'] [b, c] = false := by with_unfolding_all rfl) : PE X (.Compare a [op, op'] [b, c] pos) (tChain r r' ta tb tc) := by
 intro pins s σ H Q I h
 refine Compare_chain (thn (ha pins s σ H _ I h) fun v s1 ⟨x, H1, I1, r1, q1⟩ => chain_link (thn (hb pins s1 σ H1 _ I1 q1) fun u s2 ⟨y, H2, I2, r2, q2⟩ =>
  thn (ho pins s2 σ H2 x y v u _ I2 r1 r2 q2) fun d s3 ⟨z, H3, I3, r3, k, e, q3⟩ => ?_)) hm
 subst e
 cases r3
 refine wpAny_truthy_bool ?_
 cases k with
 | false => exact ite_ff ⟨.bl false, H3, I3, rfl, q3⟩
 | true => exact ite_tt (chain_last (thn (hc pins s3 σ H3 _ I3 q3) fun w' s4 ⟨z', H4, I4, r4, q4⟩ => ho' pins s4 σ H4 y z' u w' Q I4 r2 r4 q4))
theorem pt_chain {op op' : CmpOp} {r r' : R2} (ho : OpR X (compareOp op) r) (ho' : OpR X (compareOp op') r') (ha : PE X a ta) (hb : PE X b tb) (hc : PE X c tc)
  (hm : lastMarks [op, op'] [b, c] = false := by with_unfolding_all rfl) : PT X (.Compare a [op, op'] [b, c] pos) (tTest (tChain r r' ta tb tc)) := by
 intro pins s σ H Q I h
 refine isTrue_chain (thn (ha pins s σ H _ I h) fun v s1 ⟨x, H1, I1, r1, q1⟩ => test_link (thn (hb pins s1 σ H1 _ I1 q1) fun u s2 ⟨y, H2, I2, r2, q2⟩ =>
  thn (ho pins s2 σ H2 x y v u _ I2 r1 r2 q2) fun d s3 ⟨z, H3, I3, r3, k, e, q3⟩ => ?_)) hm
 subst e
 cases r3
 refine wpAny_truthy_bool ?_
 cases k with
 | false =>
   obtain ⟨k', e', q'⟩ := q3
   cases e'
   exact ite_ff ⟨H3, I3, q'⟩
 | true =>
   refine ite_tt (test_last (thn (hc pins s3 σ H3 _ I3 q3) fun w' s4 ⟨z', H4, I4, r4, q4⟩ => thn (ho' pins s4 σ H4 y z' u w' _ I4 r2 r4 q4) fun d' s5 ⟨z2, H5, I5, r5, k2, e2, q5⟩ => ?_))
   subst e2
   cases r5
   exact wpAny_truthy_bool ⟨H5, I5, q5⟩
def TruV (K : PySem.W.Frag) (x : V) (H : Hp) (k : Bool) : Prop :=
 match x with
 | .non => k = false
 | .bl b => k = b
 | .int i => k = (i != 0)
 | .str y => y.length ≤ sizeLine /\ k = ((y.length : Int) != 0)
 | .byt y => y.size ≤ sizeLine /\ k = ((y.size : Int) != 0)
 | .ref p => (∃ xs, SqL K H p xs /\ k = !xs.isEmpty) \/ (∃ xs, SqT K H p xs /\ k = !xs.isEmpty) \/ ∃ kvs, H p = some (.dK kvs) /\ k = !kvs.isEmpty
 | _ => False
theorem isEmpty_kv {κ : Type} {kvs : List (κ × V)} {vs : List (κ × Value)} (r : KV kvs vs) : (!vs.isEmpty) = !kvs.isEmpty := by
 cases r <;> rfl
theorem isEmpty_of {xs : List V} {its : List Value} (r : Vals xs its) : (!its.toArray.isEmpty) = !xs.isEmpty := by
 cases r <;> simp
theorem line63 : (sizeLine : Nat) < 2 ^ 63 := by rw [sizeLine_eq]; decide
theorem tru_ok : TruR X (fun x H Q => ∃ k, TruV X.K x H k /\ Q k H) := by
 intro pins s σ H x v Q I rx h
 obtain ⟨k, e, q⟩ := h
 have hl := line63
 have hs : sizeLine = 16777216 := sizeLine_eq
 cases x with
 | non =>
   cases rx
   have e' : k = false := e
   subst e'
   exact truthy_none ⟨H, I, q⟩
 | bl b =>
   cases rx
   have e' : k = b := e
   subst e'
   exact wpAny_truthy_bool ⟨H, I, q⟩
 | int i =>
   obtain ⟨t, rfl⟩ := rx
   have e' : k = (i != 0) := e
   subst e'
   exact PySem.P.truthy_int ⟨H, I, q⟩
 | str y =>
   obtain ⟨t, rfl⟩ := rx
   obtain ⟨hy, e'⟩ : y.length ≤ sizeLine /\ k = ((y.length : Int) != 0) := e
   subst e'
   exact PySem.P.truthy_str (by omega) ⟨H, I.tok _, q⟩
 | byt y =>
   obtain ⟨t, rfl⟩ := rx
   obtain ⟨hy, e'⟩ : y.size ≤ sizeLine /\ k = ((y.size : Int) != 0) := e
   subst e'
   exact PySem.W.truthy_bytes (by omega) ⟨H, I.tok _, q⟩
 | ref p =>
   cases rx
   have e' : (∃ xs, SqL X.K H p xs /\ k = !xs.isEmpty) \/ (∃ xs, SqT X.K H p xs /\ k = !xs.isEmpty) \/ ∃ kvs, H p = some (.dK kvs) /\ k = !kvs.isEmpty := e
   rcases e' with ⟨xs, hx, e'⟩ | ⟨xs, hx, e'⟩ | ⟨kvs, hx, e'⟩
   ·subst e'
    obtain ⟨its, r, pl, hz⟩ := I.list hx
    have hlen := r.length
    exact wpAny_truthy_list pl.isList (by simp only [List.size_toArray]; omega) ⟨H, I.tok _, by rw [isEmpty_of r]; exact q⟩
   ·subst e'
    obtain ⟨its, r, pl, hz⟩ := I.tuple hx
    have hlen := r.length
    exact truthy_tuple pl (by simp only [List.size_toArray]; omega) ⟨H, I.tok _, by rw [isEmpty_of r]; exact q⟩
   ·subst e'
    obtain ⟨hz, hS, vs, r, m⟩ : kvs.length ≤ sizeLine /\ (p == sysModules) = false /\ ∃ vs, KV kvs vs /\ s.heap.DictOf (mixKind X.prog X.w) p vs := I.hok p _ hx
    have hlen : kvs.length = vs.length := Paired.length r
    exact wpAny_truthy_dict hS m (by omega) ⟨H, I.tok _, by rw [isEmpty_kv r]; exact q⟩
 | _ => exact (show False from e).elim
theorem pt_truth (ha : PE X a ta) (he : ∀ whole, isTrue a X.env whole = (do let v <- whole; standAt a.pos; holding [v] (truthy v))) :
  PT X a (fun σ H Q => ta σ H fun x H' => ∃ k, TruV X.K x H' k /\ Q k H') := by
 intro pins s σ H Q I h
 exact isTrue_plain (thn (ha pins s σ H _ I h) fun v s1 ⟨x, H1, I1, r1, q1⟩ => tru_ok pins s1 σ H1 x v Q I1 r1 q1) (he _)
theorem op_add_str : OpR X (binaryOp .Add) (fun x y H Q => ∃ i j, x = .str i /\ y = .str j /\ i.length + j.length ≤ sizeLine /\ Q (.str (i ++ j)) H) := by
 intro pins s σ H x y v u Q I rx ry h
 obtain ⟨i, j, rfl, rfl, hz, q⟩ := h
 obtain ⟨t, rfl⟩ := rx
 obtain ⟨t', rfl⟩ := ry
 exact add_str (fun t' tk => ⟨.str (i ++ j), H, I.tok _, ⟨_, rfl⟩, q⟩) hz
def PlainIxT (b : Expr) : Prop := ∀ o i, subscripted b false o i = operate [o, i] (getItem o i)
theorem vals1 {x : V} {us : List Value} (r : Vals [x] us) : ∃ u, us = [u] /\ RelV x u := by
 cases r with
 | cons r1 r2 => cases r2; exact ⟨_, rfl, r1⟩
theorem vals2 {x y : V} {us : List Value} (r : Vals [x, y] us) : ∃ u w', us = [u, w'] /\ RelV x u /\ RelV y w' := by
 cases r with
 | cons r1 r2 =>
   cases r2 with
   | cons r3 r4 => cases r4; exact ⟨_, _, rfl, r1, r3⟩
theorem call_max2 (hc : X.calm = true) : CallR X (.builtin "max") (fun xs H Q => ∃ i j, xs = [.int i, .int j] /\ Q (.int (if j > i then j else i)) H) := by
 intro pins s σ H xs us Q I r h
 obtain ⟨i, j, rfl, q⟩ := h
 obtain ⟨u, w', rfl, ⟨t, rfl⟩, ⟨t', rfl⟩⟩ := vals2 r
 refine max_two_ints (I.ok.hd hc) fun h' tk k => ⟨_, H, I.kept k, ?_, q⟩
 by_cases hj : j > i
 ·rw [if_pos hj, if_pos hj]; exact ⟨_, rfl⟩
 ·rw [if_neg hj, if_neg hj]; exact ⟨_, rfl⟩
def LenV (K : PySem.W.Frag) (x : V) (H : Hp) (n : Nat) : Prop :=
 match x with
 | .str y => y.length ≤ sizeLine /\ n = y.length
 | .byt y => y.size ≤ sizeLine /\ n = y.size
 | .ref p => (∃ xs, SqL K H p xs /\ n = xs.length) \/ ∃ xs, SqT K H p xs /\ n = xs.length
 | _ => False
end
end L2
namespace L2
open PySem PySem.Spec PyProof.Rows
structure ObjM (h : Heap) (x dx C : Addr) (mA : Str -> Option Value) : Prop where
 obj : h.get? x = some (PySem.W.instObj C dx)
 ns : h.Ns1 dx mA
 ne : dx ≠ x
theorem lookIn_ns {h : Heap} {dx : Addr} {mA : Str -> Option Value} (n : h.Ns1 dx mA) : ∃ od, h.get? dx = some od /\ ∀ name, PySem.W.lookIn name od = some (mA name) := by
 obtain ⟨o, es, ep, ho, hd, hk, _, hm⟩ := n
 refine ⟨o, ho, fun name => ?_⟩
 have e := hm name
 unfold nsFind findBy at e
 rw [<- Array.find?_toList] at e
 unfold PySem.W.lookIn
 rw [hd]
 dsimp only
 split
 ·rename_i y q
  rw [q] at e
  exact congrArg some e
 ·rename_i q
  rw [q] at e
  have a : es.toList.any (·.refKey) = false := by
   rw [List.any_eq_false]
   intro y hy
   obtain ⟨z, t, hkey⟩ := hk y (Array.mem_toList_iff.mp hy)
   simp [DictEntry.refKey, hkey]
  have a' : ¬ es.toList.any (·.refKey) = true := by rw [a]; exact Bool.false_ne_true
  rw [if_neg a']
  exact congrArg some e
theorem ObjM.look {h : Heap} {x dx C : Addr} {mA : Str -> Option Value} (I : ObjM h x dx C mA) : ∃ od, PySem.W.InstAt h x (PySem.W.instObj C dx) C (some od) /\ ∀ name, PySem.W.lookIn name od = some (mA name) :=
 let ⟨od, ho, hl⟩ := lookIn_ns I.ns
 ⟨od, ⟨I.obj, rfl, rfl, ho⟩, hl⟩
section
variable {prog : Program} {w : World} {A : Around} {E : Value -> Shared -> Prop} {s : Shared} {K : PySem.W.Frag} {x dx C f : Addr} {mA : Str -> Option Value} {name : Str} {v : Value}
theorem get_map {expr : Bool} {Q : Value -> Shared -> Prop} (X : K.In s.heap) (I : ObjM s.heap x dx C mA) (hg : PySem.W.plainGet K C name = true) (hh : PySem.W.hasDictIn K C = true)
  (ha : PySem.W.findIn K (.ref C) name = some none) (hv : mA name = some v) (hv' : PySem.W.handedIn v = true) (h : Q v { s with toks := s.toks + 1 }) :
  wpAny (model prog w) A (getAttr (.ref x) name expr) Q E s := by
 obtain ⟨od, J, hl⟩ := I.look
 exact PySem.W.get_value X J (PySem.W.plainGet_of hg).1 (PySem.W.findObj_own hh ha rfl (by rw [hl, hv])) hv' h
theorem get_meth {pl : Sem Bool} {Q : Value × List Value -> Shared -> Prop} (X : K.In s.heap) (I : ObjM s.heap x dx C mA) (hg : PySem.W.plainGet K C name = true)
  (hf : PySem.W.findIn K (.ref C) name = some (some (.ref f))) (ht : PySem.W.isFn K (.ref f) = true) (hv : mA name = none) (h : Q (.ref f, [.ref x]) s) :
  wpAny (model prog w) A (getMethod (.ref x) name pl) Q E s := by
 obtain ⟨od, J, hl⟩ := I.look
 exact PySem.W.method_fn X J (PySem.W.plainGet_of hg).1 (PySem.W.plainGet_of hg).2 hf (beq_iff_eq.mp ht) (by show (PySem.W.lookIn name od).map (·.isSome) = some false; rw [hl, hv]; rfl) h
theorem set_map {ns : List Str} {Q : Unit -> Shared -> Prop} (X : K.In s.heap) (I : ObjM s.heap x dx C mA)
  (hs : PySem.W.findIn K (.ref C) "__setattr__" = some (some (.builtin "object.__setattr__"))) (hp : PySem.W.plainOver K C = true) (ht : PySem.W.takerIn K C name = some none) (hh : PySem.W.hasDictIn K C = true)
  (hw : PySem.Within mA ns) (hsz : ns.length ≤ sizeLine)
  (h : ∀ h', ObjM h' x dx C (fun y => if y = name then some v else mA y) -> Heap.SameBut dx s.heap h' -> Q () { s with heap := h', toks := s.toks + 2 }) :
  wpAny (model prog w) A (setAttr (.ref x) name v) Q E s := by
 obtain ⟨od, J, hl⟩ := I.look
 refine PySem.W.set_plain X J hs (PySem.W.osa_open (s := { s with toks := s.toks + 1 }) (r := none) X J hp ht fun b => ?_)
 obtain ⟨cd, hc, hd'⟩ := PySem.W.any_some hh
 have hx : s.heap.get? x = some ⟨.ref C, some dx, .plain, #[]⟩ := I.obj
 refine wpAny_bind (wpAny_pure (wpAny_bind (wpAny_bind (wpAny_loadPart hx (wpAny_bind (PySem.W.Looks.here (s := { s with toks := s.toks + 1 }) (PySem.W.looks_clsIn X hc) ?_))))))
 rw [hd']
 refine wpAny_pure (a := some dx) (wpAny_bind (wpAny_pure (wpAny_bind ?_)))
 refine wpAny_nsSet1 (s := { s with toks := s.toks + 1 }) I.ns fun h' hn2 hs2 => ?_
 obtain ⟨oD, esD, epD, hoD, hdD, hcD⟩ := hn2.count (PySem.Within.cons name v hw)
 refine wpAny_bind (wpAny_lookBehind hoD (by rw [hdD]; exact pastItsLine_dict (Nat.le_trans hcD (by rw [List.length_cons]; omega))) ?_)
 exact wpAny_pure (h _ ⟨(hs2.2 _ (Ne.symm I.ne)).trans I.obj, hn2, I.ne⟩ hs2)
theorem make_map {R : Result -> Shared -> Prop} {vs : List Value} {kw : List (Str × Value)} (X : K.In s.heap) (hm : PySem.W.makesIn K C = true)
  (hi : PySem.W.findIn K (.ref C) "__init__" = some (some (.ref f))) (hf : PySem.W.typeIn K (.ref f) = some (.type "function"))
  (h : codeAny (model prog w) (A.under (.builtin "type.__call__" ⟨.ref C :: vs, kw⟩)) (.call (.ref f) ⟨.ref (s.heap.objs.size + 1) :: vs, kw⟩) (PySem.W.InitBack (s.heap.objs.size + 1) R)
   { s with heap := (s.heap.push PySem.W.emptyDict).push (PySem.W.instObj C s.heap.objs.size) }) :
  codeAny (model prog w) A (.call (.ref C) ⟨vs, kw⟩) R s := by
 obtain ⟨hh, g, d, t, os⟩ := s
 exact PySem.W.make_core (PySem.W.makes_of X hm) (PySem.W.looks_findIn X hi) (fun self => PySem.W.bind_fn X self hf) (.inl rfl) h
end
def putF (f : Str) (v : V) : List (Str × V) -> List (Str × V)
 | [] => [(f, v)]
 | (g, x) :: r => if g = f then (g, v) :: r else (g, x) :: putF f v r
theorem lookup_putF (f g : Str) (v : V) : ∀ fs : List (Str × V), (putF f v fs).lookup g = if g = f then some v else fs.lookup g
 | [] => by
   show List.lookup g [(f, v)] = _
   by_cases h : g = f
   ·have hb : (g == f) = true := beq_iff_eq.mpr h
    simp only [List.lookup, hb, if_pos h]
   ·have hb : (g == f) = false := beq_eq_false_iff_ne.mpr h
    simp only [List.lookup, hb, if_neg h]
 | (k, x) :: r => by
   have ih := lookup_putF f g v r
   rw [show putF f v ((k, x) :: r) = (if k = f then (k, v) :: r else (k, x) :: putF f v r) from rfl]
   by_cases hk : k = f
   ·rw [if_pos hk]
    by_cases h : g = k
    ·have hb : (g == k) = true := beq_iff_eq.mpr h
     simp only [List.lookup, hb, if_pos (h.trans hk)]
    ·have hb : (g == k) = false := beq_eq_false_iff_ne.mpr h
     simp only [List.lookup, hb, if_neg (fun e : g = f => h (e.trans hk.symm))]
   ·rw [if_neg hk]
    by_cases h : g = k
    ·have hb : (g == k) = true := beq_iff_eq.mpr h
     simp only [List.lookup, hb, if_neg (fun e : g = f => hk (h.symm.trans e))]
    ·have hb : (g == k) = false := beq_eq_false_iff_ne.mpr h
     simp only [List.lookup, hb]
     exact ih
theorem keys_putF (f : Str) (v : V) : ∀ fs : List (Str × V), f ∈ (putF f v fs).map (·.1) /\ ∀ g, g ∈ fs.map (·.1) -> g ∈ (putF f v fs).map (·.1)
 | [] => ⟨by simp [putF], fun g h => by simp at h⟩
 | (k, x) :: r => by
   obtain ⟨i1, i2⟩ := keys_putF f v r
   rw [show putF f v ((k, x) :: r) = (if k = f then (k, v) :: r else (k, x) :: putF f v r) from rfl]
   by_cases hk : k = f
   ·rw [if_pos hk]
    subst hk
    exact ⟨by simp, fun g h => by simpa using h⟩
   ·rw [if_neg hk]
    refine ⟨?_, fun g h => ?_⟩
    ·rw [List.map_cons]
     exact List.mem_cons_of_mem _ i1
    ·rw [List.map_cons] at h ⊢
     rcases List.mem_cons.mp h with e | e
     ·exact List.mem_cons.mpr (.inl e)
     ·exact List.mem_cons_of_mem _ (i2 g e)
theorem length_putF (f : Str) (v : V) : ∀ fs : List (Str × V), (putF f v fs).length ≤ fs.length + 1
 | [] => by simp [putF]
 | (k, x) :: r => by
   have ih := length_putF f v r
   rw [show putF f v ((k, x) :: r) = (if k = f then (k, v) :: r else (k, x) :: putF f v r) from rfl]
   by_cases hk : k = f
   ·rw [if_pos hk, List.length_cons, List.length_cons]; omega
   ·rw [if_neg hk, List.length_cons, List.length_cons]; omega
theorem RelO.some_of {v : V} {o : Option Value} (r : RelO (some v) o) : ∃ u, o = some u /\ RelV v u := by
 cases o with
 | none => exact (show False from r).elim
 | some u => exact ⟨u, rfl, r⟩
theorem RelO.none_of {o : Option Value} (r : RelO none o) : o = none := by
 cases o with
 | none => rfl
 | some u => exact (show False from r).elim
theorem handed_of {v : V} {u : Value} (r : RelV v u) : PySem.W.handedIn u = true := by
 cases v with
 | non => cases (show u = Value.none from r); rfl
 | bl b => cases (show u = Value.bool b from r); rfl
 | int i => obtain ⟨t, e⟩ := (show ∃ t, u = Value.int i t from r); cases e; rfl
 | str x => obtain ⟨t, e⟩ := (show ∃ t, u = Value.str x t from r); cases e; rfl
 | byt b => obtain ⟨t, e⟩ := (show ∃ t, u = Value.bytes b t from r); cases e; rfl
 | flt b => obtain ⟨t, e⟩ := (show ∃ t, u = Value.float b t from r); cases e; rfl
 | ref a => cases (show u = Value.ref a from r); rfl
 | ty n => cases (show u = Value.type n from r); rfl
section
variable {P : Program} {w : World} {H H' : Hp} {h h' : Heap} {a C dx : Addr} {fs fs' : List (Str × V)}
theorem ins_get (hok : HOk P w H h) (e : H a = some (.ins C dx fs)) : ∃ mA, ObjM h a dx C mA /\ (∀ f, RelO (fs.lookup f) (mA f)) /\ PySem.Within mA (fs.map (·.1)) /\ fs.length ≤ 1000 /\ H dx = some (.own a) := by
 obtain ⟨d, z, ne, ob, mA, n, r, q⟩ := (show ObjOk P w H h a (.ins C dx fs) from hok a _ e)
 exact ⟨mA, ⟨ob, n, ne⟩, r, q, z, d⟩
end
structure Cls (K : PySem.W.Frag) (C : Addr) : Prop where
 pg : PySem.W.plainGet K C Str.empty = true
 hd : PySem.W.hasDictIn K C = true
 po : PySem.W.plainOver K C = true
 sa : PySem.W.findIn K (.ref C) "__setattr__" = some (some (.builtin "object.__setattr__"))
theorem Cls.get {K : PySem.W.Frag} {C : Addr} (c : Cls K C) (f : Str) : PySem.W.plainGet K C f = true := c.pg
def NoAttr (K : PySem.W.Frag) (C : Addr) (f : Str) : Prop := PySem.W.findIn K (.ref C) f = some none
theorem NoAttr.taker {K : PySem.W.Frag} {C : Addr} {f : Str} (n : NoAttr K C f) : PySem.W.takerIn K C f = some none := by
 unfold PySem.W.takerIn
 rw [show PySem.W.findIn K (.ref C) f = some none from n]
 rfl
structure Con (K : PySem.W.Frag) (C : Addr) (f : Str) (v : V) (u : Value) : Prop where
 at_ : PySem.W.findIn K (.ref C) f = some (some u)
 rel : RelV v u
 get : PySem.W.specialIn K u "__get__" = some none
 cp : PySem.W.copiedNames.contains f = false
structure Meth (K : PySem.W.Frag) (C : Addr) (m : Str) (f : Addr) : Prop where
 at_ : PySem.W.findIn K (.ref C) m = some (some (.ref f))
 fn : PySem.W.isFn K (.ref f) = true
 kp : PySem.W.keepIn K (.ref f) = true
section
variable {X : Cx} {pins : List (Addr × Obj)} {σ : St} {H : Hp} {s : Shared} {a C dx : Addr} {fs : List (Str × V)} {f : Str} {v : V} {A : Around} {E : Value -> Shared -> Prop}
theorem getattr_ok {b : Bool} {Q : Value -> Shared -> Prop} (I : Inv X pins σ H s) (e : H a = some (.ins C dx fs)) (c : Cls X.K C) (n : NoAttr X.K C f) (l : fs.lookup f = some v)
  (h : ∀ u s', Inv X pins σ H s' -> RelV v u -> Q u s') : wpAny (model X.prog X.w) A (getAttr (.ref a) f b) Q E s := by
 obtain ⟨mA, O, r, _, _, _⟩ := ins_get I.hok e
 obtain ⟨u, hu, ru⟩ := RelO.some_of (v := v) (o := mA f) (by rw [<- l]; exact r f)
 exact get_map I.kIn O (c.get f) c.hd n hu (handed_of ru) (h u _ (I.tok _) ru)
theorem getmeth_ok {m : Str} {g : Addr} {pl : Sem Bool} {Q : Value × List Value -> Shared -> Prop} (I : Inv X pins σ H s) (e : H a = some (.ins C dx fs)) (c : Cls X.K C) (k : Meth X.K C m g) (l : fs.lookup m = none)
  (h : Q (.ref g, [.ref a]) s) : wpAny (model X.prog X.w) A (getMethod (.ref a) m pl) Q E s := by
 obtain ⟨mA, O, r, _, _, _⟩ := ins_get I.hok e
 have hn : mA m = none := RelO.none_of (by rw [<- l]; exact r m)
 exact get_meth I.kIn O (c.get m) k.at_ k.fn hn h
theorem setattr_ok {y : V} {u : Value} {Q : Unit -> Shared -> Prop} (I : Inv X pins σ H s) (e : H a = some (.ins C dx fs)) (c : Cls X.K C) (n : NoAttr X.K C f) (hl : fs.length < 1000) (ry : RelV y u)
  (h : ∀ s', Inv X pins σ (upd H a (.ins C dx (putF f y fs))) s' -> Q () s') : wpAny (model X.prog X.w) A (setAttr (.ref a) f u) Q E s := by
 obtain ⟨mA, O, r, wi, _, ho⟩ := ins_get I.hok e
 have hz : (fs.map (·.1)).length ≤ sizeLine := by rw [List.length_map, sizeLine_eq]; omega
 refine set_map I.kIn O c.sa c.po n.taker c.hd wi hz fun h' O' sb => h _ ?_
 have hd : ∃ o, h'.get? dx = some o := let ⟨o, _, _, e', _⟩ := O'.ns; ⟨o, e'⟩
 refine I.write (x := a) (e := dx) (by rw [e]; exact True.intro) (.inr ho) (fun b q hb z => (sb.2 b hb).trans z) hd ?_
 refine ⟨by rw [upd_ne O.ne]; exact ho, ?_, O.ne, O'.obj, _, O'.ns, fun g => ?_, fun g hg => ?_⟩
 ·have := length_putF f y fs; omega
 ·show RelO ((putF f y fs).lookup g) (if g = f then some u else mA g)
  rw [lookup_putF]
  by_cases q : g = f
  ·rw [if_pos q, if_pos q]; exact ry
  ·rw [if_neg q, if_neg q]; exact r g
 ·by_cases q : g = f
  ·rw [q]; exact (keys_putF f y fs).1
  ·refine (keys_putF f y fs).2 g (wi g fun z => hg ?_)
   show (if g = f then some u else mA g) = none
   rw [if_neg q]; exact z
theorem Inv.made (I : Inv X pins σ H s) : Inv X pins σ (upd (upd H s.heap.objs.size (.own (s.heap.objs.size + 1))) (s.heap.objs.size + 1) (.ins C s.heap.objs.size []))
  { s with heap := (s.heap.push PySem.W.emptyDict).push (PySem.W.instObj C s.heap.objs.size) } := by
 have e1 : (s.heap.push PySem.W.emptyDict).get? s.heap.objs.size = some PySem.W.emptyDict := Heap.get?_push_size s.heap rfl
 have e2 : ((s.heap.push PySem.W.emptyDict).push (PySem.W.instObj C s.heap.objs.size)).get? (s.heap.objs.size + 1) = some (PySem.W.instObj C s.heap.objs.size) := by
  have := Heap.get?_push_size (s.heap.push PySem.W.emptyDict) (o := PySem.W.instObj C s.heap.objs.size) rfl
  rwa [Heap.size_push] at this
 have e3 : (s.heap.push PySem.W.emptyDict).Ns s.heap.objs.size (fun _ => none) := ⟨PySem.W.emptyDict, #[], _, e1, rfl, (fun e he => absurd he (by simp)), fun _ => rfl⟩
 have I1 := I.laid (a := s.heap.objs.size) (o := .own (s.heap.objs.size + 1)) (h' := s.heap.push PySem.W.emptyDict) (t' := s.toks) (fun b u q => Heap.get?_push_of_some _ q) (Nat.le_refl _) ⟨_, e1⟩
 refine I1.laid (a := s.heap.objs.size + 1) (o := .ins C s.heap.objs.size []) (t' := s.toks) (fun b u q => Heap.get?_push_of_some _ q) (Nat.le_of_eq (Heap.size_push _ _)) ?_
 have ne : s.heap.objs.size ≠ s.heap.objs.size + 1 := Nat.ne_of_lt (Nat.lt_succ_self _)
 refine ⟨by rw [upd_ne ne, upd_same], Nat.zero_le _, ne, e2, fun _ => none, (Heap.Ns1.of_empty e3).at fun o q => Heap.get?_push_of_some _ q, fun _ => True.intro, fun y hy => absurd rfl hy⟩
theorem attr_of {prog : Program} {w : World} {env : Env} {e : Expr} {f : Str} {pos : Pos} {s : Shared} {Q : Value -> Shared -> Prop} (hb : attributeBase e f env (eval e env) = eval e env)
  (h : wpAny (model prog w) A (eval e env) (fun o s₁ => wpAny (model prog w) A (getAttr o f true) Q E s₁) E s) : wpAny (model prog w) A (eval (.Attribute e f pos) env) Q E s :=
 Attribute_any_ h (by rw [arm_eval_Attribute, hb])
end
def tFld (K : PySem.W.Frag) (ta : TE) (f : Str) : TE := fun σ H Q => ta σ H fun x H1 => ∃ a C dx fs v, x = .ref a /\ H1 a = some (.ins C dx fs) /\ Cls K C /\ NoAttr K C f /\ fs.lookup f = some v /\ Q v H1
def tCon (K : PySem.W.Frag) (ta : TE) (f : Str) : TE := fun σ H Q => ta σ H fun x H1 => ∃ a C dx fs v u, x = .ref a /\ H1 a = some (.ins C dx fs) /\ Cls K C /\ Con K C f v u /\ fs.lookup f = none /\ Q v H1
def sFld (K : PySem.W.Frag) (ta tv : TE) (f : Str) : TS := fun D σ H => tv σ H fun y H1 => ta σ H1 fun x H2 => ∃ a C dx fs, x = .ref a /\ H2 a = some (.ins C dx fs) /\ Cls K C /\ NoAttr K C f /\ fs.length < 1000 /\
 D.nx σ (upd H2 a (.ins C dx (putF f y fs)))
def InOp (X : Cx) (op : Operator) (rd : V -> V -> Hp -> VK -> Prop) : Prop :=
 ∀ (pins : List (Addr × Obj)) (s : Shared) (σ : St) (H : Hp) (x y : V) (u v : Value) (Q : VK), Inv X pins σ H s -> RelV x u -> RelV y v -> rd x y H Q -> wpAny (model X.prog X.w) X.A (inplaceOp op u v) (EP X pins σ Q) X.xe s
def sFldAug (K : PySem.W.Frag) (ta tv : TE) (rd : V -> V -> Hp -> VK -> Prop) (f : Str) : TS := fun D σ H => ta σ H fun x H1 => ∃ a C dx fs v, x = .ref a /\ H1 a = some (.ins C dx fs) /\ Cls K C /\ NoAttr K C f /\ fs.lookup f = some v /\
 tv σ H1 fun y H2 => rd v y H2 fun z H3 => ∃ dx' fs', H3 a = some (.ins C dx' fs') /\ fs'.length < 1000 /\ D.nx σ (upd H3 a (.ins C dx' (putF f z fs')))
section
variable {X : Cx} {o e value : Expr} {f : Str} {pos pos' tpos : Pos} {ta tv : TE}
theorem pe_fld (he : PE X e ta) (hb : attributeBase e f X.env (eval e X.env) = eval e X.env) : PE X (.Attribute e f pos) (tFld X.K ta f) := by
 intro pins s σ H Q I h
 refine attr_of hb (thn (he pins s σ H _ I h) fun u s1 ⟨x, H1, I1, rx, a, C, dx, fs, v, ex, ea, c, n, l, q⟩ => ?_)
 subst ex
 obtain rfl : u = Value.ref a := rx
 exact getattr_ok I1 ea c n l fun u' s2 I2 ru => ⟨v, H1, I2, ru, q⟩
theorem ps_fld (ha : PE X o ta) (hv : PE X value tv) (hs : swapsWith value (some (.Attribute o f pos')) pos.line X.env = pure false) : PS X (.Assign [.Attribute o f pos'] value pos) (sFld X.K ta tv f) := by
 intro pins s σ H D I h
 refine plainObj_wpAny_Assign_Attribute (thn (hv pins s σ H _ I h) fun u s1 ⟨y, H1, I1, ry, q⟩ => thn (ha pins s1 σ H1 _ I1 q) fun ov s2 ⟨x, H2, I2, rx, a, C, dx, fs, ex, ea, c, n, l, q2⟩ => ?_) hs
 subst ex
 obtain rfl : ov = Value.ref a := rx
 exact setattr_ok I2 ea c n l ry fun s3 I3 => ⟨σ, _, I3, q2⟩
theorem ps_fldaug {op : Operator} {rd : V -> V -> Hp -> VK -> Prop} (ha : PE X o ta) (hv : PE X value tv) (hop : InOp X op rd) : PS X (.AugAssign (.Attribute o f tpos) op value pos) (sFldAug X.K ta tv rd f) := by
 intro pins s σ H D I h
 refine wpAny_AugAssign_AttributeAny (thn (ha pins s σ H _ I h) fun ov s1 ⟨x, H1, I1, rx, a, C, dx, fs, v, ex, ea, c, n, l, q⟩ => ?_)
 subst ex
 obtain rfl : ov = Value.ref a := rx
 refine getattr_ok I1 ea c n l fun u s2 I2 ru => thn (hv pins s2 σ H1 _ I2 q) fun w3 s3 ⟨y, H2, I3, ry, q3⟩ => thn (hop pins s3 σ H2 v y u w3 _ I3 ru ry q3) fun w4 s4 ⟨z, H3, I4, rz, dx', fs', ea', l', q4⟩ => ?_
 exact setattr_ok I4 ea' c n l' rz fun s5 I5 => ⟨σ, _, I5, q4⟩
def rAdd : V -> V -> Hp -> VK -> Prop := fun x y H Q => ∃ i j, x = .int i /\ y = .int j /\ Q (.int (i + j)) H
def rSub : V -> V -> Hp -> VK -> Prop := fun x y H Q => ∃ i j, x = .int i /\ y = .int j /\ Q (.int (i - j)) H
theorem in_add : InOp X .Add rAdd := by
 rintro pins s σ H x y u v Q I rx ry ⟨i, j, rfl, rfl, q⟩
 obtain ⟨t, rfl⟩ := (show ∃ t, u = Value.int i t from rx)
 obtain ⟨t', rfl⟩ := (show ∃ t', v = Value.int j t' from ry)
 exact PyProof.Rows.iadd_int ⟨.int (i + j), H, I.tok _, ⟨_, rfl⟩, q⟩
end
section
variable {X : Cx} {pins : List (Addr × Obj)} {σ : St} {H : Hp} {s : Shared} {A : Around} {E : Value -> Shared -> Prop} {Q : Value -> Shared -> Prop} {c : Value} {b : Bool}
inductive TyOf (K : PySem.W.Frag) (H : Hp) : V -> Value -> Prop where
 | non : TyOf K H .non (.type "NoneType")
 | bl (x : Bool) : TyOf K H (.bl x) (.type "bool")
 | int (i : Int) : TyOf K H (.int i) (.type "int")
 | str (x : Str) : TyOf K H (.str x) (.type "str")
 | flt (x : UInt64) : TyOf K H (.flt x) (.type "float")
 | lst {a : Addr} {xs : List V} (e : H a = some (.lst xs)) : TyOf K H (.ref a) (.type "list")
 | frz {a : Addr} {o : Obj} {xs : List V} (e : H a = some (.frz o (.lst xs))) : TyOf K H (.ref a) (.type "list")
 | tup {a : Addr} {xs : List V} (e : H a = some (.tup xs)) : TyOf K H (.ref a) (.type "tuple")
 | dK {a : Addr} {kvs : List (Key × V)} (e : H a = some (.dK kvs)) : TyOf K H (.ref a) (.type "dict")
 | dT {a : Addr} {kvs : List (List Key × V)} (e : H a = some (.dT kvs)) : TyOf K H (.ref a) (.type "dict")
 | ins {a C dx : Addr} {fs : List (Str × V)} (e : H a = some (.ins C dx fs)) (cl : Cls K C) (ha : PySem.W.findIn K (.ref C) "__class__" = some (some (.builtin "object.__class__")))
   (hn : PySem.W.specialIn K (.builtin "object.__class__") "__get__" = some (some (.builtin "getset_descriptor.__get__"))) (htk : PySem.W.takesIn K (.builtin "object.__class__") = some true)
   (hm : PySem.W.mroIn K C (.type "object") = some true) : TyOf K H (.ref a) (.ref C)
theorem isinst_ok {x : V} {u t : Value} (I : Inv X pins σ H s) (rx : RelV x u) (ty : TyOf X.K H x t) (e : PySem.W.kitOne X.K t c = some b) (h : ∀ tk, Q (.bool b) { s with toks := tk }) :
  wpAny (model X.prog X.w) A (call (.builtin "isinstance") [u, c]) Q E s := by
 cases ty with
 | non => cases (show u = Value.none from rx); exact PySem.W.kia_one PySem.W.kitx_none I.kIn True.intro e (fun z => nomatch z) h
 | bl y => cases (show u = Value.bool y from rx); exact PySem.W.kia_one PySem.W.kitx_bool I.kIn True.intro e (fun z => nomatch z) h
 | int i => obtain ⟨t, q⟩ := (show ∃ t, u = Value.int i t from rx); cases q; exact PySem.W.kia_one PySem.W.kitx_int I.kIn True.intro e (fun z => nomatch z) h
 | str y => obtain ⟨t, q⟩ := (show ∃ t, u = Value.str y t from rx); cases q; exact PySem.W.kia_one PySem.W.kitx_str I.kIn True.intro e (fun z => nomatch z) h
 | flt y => obtain ⟨t, q⟩ := (show ∃ t, u = Value.float y t from rx); cases q; exact PySem.W.kia_one PySem.W.kitx_float I.kIn True.intro e (fun z => nomatch z) h
 | @lst a xs ea =>
   cases (show u = Value.ref a from rx)
   obtain ⟨_, _, n, _, h1⟩ := (show ObjOk X.prog X.w H s.heap a (.lst xs) from I.hok a _ ea)
   exact PySem.W.kia_one PySem.W.kitx_list I.kIn ⟨_, h1, rfl⟩ e (fun z => nomatch z) h
 | @frz a ob xs ea =>
   cases (show u = Value.ref a from rx)
   obtain ⟨_, _, _, n, _, h1⟩ := (show ObjOk X.prog X.w H s.heap a (.frz ob (.lst xs)) from I.hok a _ ea)
   exact PySem.W.kia_one PySem.W.kitx_list I.kIn ⟨_, h1, rfl⟩ e (fun z => nomatch z) h
 | @tup a xs ea =>
   cases (show u = Value.ref a from rx)
   obtain ⟨_, _, _, p⟩ := (show ObjOk X.prog X.w H s.heap a (.tup xs) from I.hok a _ ea)
   obtain ⟨o, h1, h2, _⟩ := p
   exact PySem.W.kia_one PySem.W.kitx_tuple I.kIn ⟨o, h1, h2⟩ e (fun z => nomatch z) h
 | @dK a kvs ea =>
   cases (show u = Value.ref a from rx)
   obtain ⟨_, _, vs, _, p⟩ := (show ObjOk X.prog X.w H s.heap a (.dK kvs) from I.hok a _ ea)
   obtain ⟨o, es, ep, h1, h2, _⟩ := p
   exact PySem.W.kia_one PySem.W.kitx_dict I.kIn ⟨o, h1, h2.1⟩ e (fun z => nomatch z) h
 | @dT a kvs ea =>
   cases (show u = Value.ref a from rx)
   obtain ⟨_, _, xs, _, o, es, ep, h1, h2, _⟩ := (show ObjOk X.prog X.w H s.heap a (.dT kvs) from I.hok a _ ea)
   exact PySem.W.kia_one PySem.W.kitx_dict I.kIn ⟨o, h1, h2.1⟩ e (fun z => nomatch z) h
 | @ins a C dx fs ea cl ha hn htk hm =>
   cases (show u = Value.ref a from rx)
   obtain ⟨mA, O, _⟩ := ins_get I.hok ea
   obtain ⟨od, J, _⟩ := O.look
   exact PySem.W.kia_one (PySem.W.kitx_own (cl.get _) cl.hd ha hn htk hm) I.kIn J e (fun z => nomatch z) h
end
end L2
namespace L2
open PySem PySem.Spec PyProof.Rows
structure Room (cc : Bool) (k : Nat) (A : Around) : Prop where
 hd : cc = true -> A.handled = none
 dp : A.depth + 3 * k + 5 < recursionLimit
 un : A.units + 16 * k + 200 < cLine
theorem Room.mono {j k : Nat} {A : Around} (r : Room cc k A) (h : j ≤ k) : Room cc j A := ⟨r.hd, by have := r.dp; omega, by have := r.un; omega⟩
theorem Room.deeper {k : Nat} {A : Around} (r : Room cc (k + 1) A) (env : Env) : Room cc k (A.deeper env) :=
 ⟨r.hd, by have := r.dp; show A.depth + 1 + 3 * k + 5 < _; omega, by have := r.un; show A.units + 3 + 16 * k + 200 < _; omega⟩
theorem make_depth {A : Around} {C : Addr} {us : List Value} {kw : List (Str × Value)} : (A.under (.builtin "type.__call__" ⟨.ref C :: us, kw⟩)).depth = A.depth + 1 := by
 first | rfl | simp [Around.under, Code.weight, Code.isCreation, Code.isGuard, Code.isCaller, Code.frames, Code.isFrame, guardIds]
theorem make_units {A : Around} {C : Addr} {us : List Value} {kw : List (Str × Value)} : (A.under (.builtin "type.__call__" ⟨.ref C :: us, kw⟩)).units = A.units + 1 := by
 first | rfl | simp [Around.under, Code.cUnits, Code.frames, Code.isFrame]
theorem Room.make {k : Nat} {A : Around} (r : Room cc (k + 1) A) (C : Addr) (us : List Value) (kw : List (Str × Value)) : Room cc k (A.under (.builtin "type.__call__" ⟨.ref C :: us, kw⟩)) :=
 ⟨r.hd, by have := r.dp; rw [make_depth]; omega, by have := r.un; rw [make_units]; omega⟩
theorem Room.depth {k : Nat} {A : Around} (r : Room cc k A) : A.depth < recursionLimit := by have := r.dp; omega
theorem Room.units {k : Nat} {A : Around} (r : Room cc k A) : A.units + 64 < cLine := by have := r.un; omega
def tNil : TA := fun _ H Q => Q [] H
def tCons (ta : TE) (tr : TA) : TA := fun σ H Q => ta σ H fun x H1 => tr σ H1 fun xs H2 => Q (x :: xs) H2
section
variable {X : Cx} {e : Expr} {es : List Expr} {te : TE} {t : TA} {pos : Pos}
theorem pa_nil : PA X [] tNil := fun _ _ _ _ H Q I h => Calls.spliced_nil ⟨[], H, I, .nil, h⟩
theorem pa_cons (ha : PE X e te) (hr : PA X es t) (hs : starEach (e :: es) X.env = (false, eval e X.env) :: starEach es X.env := by rfl) : PA X (e :: es) (tCons te t) := by
 intro pos pins s σ H Q I h
 rw [hs]
 show wpAny _ _ (spliced ((false, eval e X.env) :: backTo pos (starEach es X.env))) _ _ s
 refine Calls.spliced_cons (thn (ha pins s σ H _ I h) fun u s1 ⟨x, H1, I1, r1, q1⟩ => ?_)
 exact thn (hr pos pins s1 σ H1 _ I1 q1) fun us s2 ⟨xs, H2, I2, r2, q2⟩ => ⟨x :: xs, H2, I2, .cons r1 r2, q2⟩
def tTup (t : TA) : TE := fun σ H Q => t σ H fun xs H1 => xs.length ≤ sizeLine /\ ∀ p, H1 p = none -> Q (.ref p) (upd H1 p (.tup xs))
def tLst (t : TA) : TE := fun σ H Q => t σ H fun xs H1 => xs.length ≤ sizeLine /\ ∀ p, H1 p = none -> Q (.ref p) (upd H1 p (.lst xs))
theorem pe_tup {x1} (h : PA X es t) : PE X (.Tuple es x1 pos) (tTup t) := by
 intro pins s σ H Q I hq
 refine wpAny_Tuple_spliced (thn (h pos pins s σ H _ I hq) fun us s1 ⟨xs, H1, I1, r, z, q⟩ => ⟨by rw [<- r.length]; exact z, ?_⟩)
 have hf : H1 s1.heap.objs.size = none := I1.hok.fresh (Nat.le_refl _)
 refine ⟨.ref s1.heap.objs.size, upd H1 s1.heap.objs.size (.tup xs), I1.laid (t' := s1.toks) (fun b u e => Heap.get?_push_of_some _ e) (Nat.le_refl _) ?_, rfl, q _ hf⟩
 exact ⟨z, us, r, ⟨_, Heap.get?_push_size _ rfl, rfl, _, rfl⟩⟩
theorem pe_lst (h : PA X es t) : PE X (.List es pos) (tLst t) := by
 intro pins s σ H Q I hq
 refine wpAny_List_spliced (thn (h pos pins s σ H _ I hq) fun us s1 ⟨xs, H1, I1, r, z, q⟩ => ⟨by rw [<- r.length]; exact z, ?_⟩)
 have hf : H1 s1.heap.objs.size = none := I1.hok.fresh (Nat.le_refl _)
 refine ⟨.ref s1.heap.objs.size, upd H1 s1.heap.objs.size (.lst xs), I1.laid (t' := s1.toks) (fun b u e => Heap.get?_push_of_some _ e) (Nat.le_refl _) ?_, rfl, q _ hf⟩
 exact ⟨z, us, 0, r, Heap.get?_push_size _ rfl⟩
end
abbrev Sp := List V -> Hp -> VK -> XK -> Prop
abbrev CXT := List Env -> Hp -> Shared -> XK -> Value -> Shared -> Prop
structure Env0 (P : Program) (w : World) (K : PySem.W.Frag) (mg : Str -> Option Value) (base : Heap) (A : Around) (outer : List Env) (s : Shared) (H : Hp) : Prop where
 frames : A.frames = some outer
 mod : Mod K mg base
 bs : ∀ b o, base.get? b = some o -> s.heap.get? b = some o /\ H b = none
 bsz : base.objs.size ≤ s.heap.objs.size
 funs : s.heap.FunFrames base outer
 frf : ∀ b ∈ frs outer, H b = none
 hok : HOk P w H s.heap
 bare : AllBare s.gens
def CE (outer : List Env) (P : Program) (w : World) (H : Hp) (s : Shared) (Q : VK) (u : Value) (s' : Shared) : Prop :=
 ∃ v H', s'.os = s.os /\ AllBare s'.gens /\ Un (frs outer) [] H H' s.heap s'.heap /\ HOk P w H' s'.heap /\ RelV v u /\ Q v H'
def CR (CX : CXT) (outer : List Env) (P : Program) (w : World) (H : Hp) (s : Shared) (Q : VK) (E : XK) (r : Result) (s' : Shared) : Prop :=
 match r with
 | .ok (.ret u) => CE outer P w H s Q u s'
 | .ok _ => False
 | .error e => CX outer H s E e s'
structure FnOk (P : Program) (w : World) (K : PySem.W.Frag) (mg : Str -> Option Value) (base : Heap) (CX : CXT) (cc : Bool) (k : Nat) (f : Addr) (fd : FuncData) (ps : List Str) (sp : Sp) : Prop where
 len : ∀ vs H Q E, sp vs H Q E -> vs.length = ps.length
 run : ∀ (A : Around) (outer : List Env) (s : Shared) (H : Hp) (args : Args) (us : List Value) (vs : List V) (Q : VK) (E : XK), Room cc k A -> Env0 P w K mg base A outer s H -> BindsTo s fd args (ps.zip us) -> Vals vs us -> sp vs H Q E ->
  codeAny (model P w) A (.call (.ref f) args) (CR CX outer P w H s Q E) s
theorem Env0.make {P : Program} {w : World} {K : PySem.W.Frag} {mg : Str -> Option Value} {base : Heap} {A : Around} {outer : List Env} {s : Shared} {H : Hp} (e : Env0 P w K mg base A outer s H) (C : Addr) (us : List Value) (kw : List (Str × Value)) :
  Env0 P w K mg base (A.under (.builtin "type.__call__" ⟨.ref C :: us, kw⟩)) outer s H := ⟨by first | exact e.frames | (simpa [Around.under, Code.envs, Code.isFrame, pushEnvs] using e.frames), e.mod, e.bs, e.bsz, e.funs, e.frf, e.hok, e.bare⟩
section
variable {X : Cx} {pins : List (Addr × Obj)} {σ : St} {H : Hp} {s s' : Shared}
theorem Inv.env0 (I : Inv X pins σ H s) : Env0 X.prog X.w X.K X.mg X.base X.A X.stack s H :=
 ⟨I.ok.frames, I.ok.mod, I.bs, Nat.le_trans I.ok.bsz I.sz, I.stack, I.stkFree, I.hok, I.bare⟩
theorem Inv.after {Q : VK} {u : Value} (I : Inv X pins σ H s) (h : CE X.stack X.prog X.w H s Q u s') : EP X pins σ Q u s' := by
 obtain ⟨v, H', os, bare, un, hok, r, q⟩ := h
 obtain ⟨hh, g, d, t, os'⟩ := s'
 obtain rfl : os' = s.os := os
 exact ⟨v, H', I.call (h' := hh) (g' := g) (d' := d) (t' := t) (ch := []) un hok bare (fun b z => absurd z (by simp)), r, q⟩
end
def tCall (sp : Sp) (dvs : List V) (E : XK) (t : TA) : TE := fun σ H Q => t σ H fun vs H1 => sp (vs ++ dvs) H1 Q E
def tMeth (C : Addr) (m : Str) (sp : Sp) (dvs : List V) (E : XK) (ta : TE) (t : TA) : TE := fun σ H Q => ta σ H fun x H1 => ∃ a dx fs, x = .ref a /\ H1 a = some (.ins C dx fs) /\ fs.lookup m = none /\
 t σ H1 fun vs H2 => sp (x :: (vs ++ dvs)) H2 Q E
def tMake (C : Addr) (sp : Sp) (dvs : List V) (E : XK) (t : TA) : TE := fun σ H Q => t σ H fun vs H1 => ∀ x dx, H1 x = none -> H1 dx = none -> dx ≠ x ->
 sp (.ref x :: (vs ++ dvs)) (upd (upd H1 dx (.own x)) x (.ins C dx [])) (fun v H2 => v = .non /\ Q (.ref x) H2) E
def Binds (K : PySem.W.Frag) (fd : FuncData) (ps : List Str) (ds : List Value) : Prop :=
 ∀ (s : Shared) (us : List Value), K.In s.heap -> (us ++ ds).length = ps.length -> BindsTo s fd ⟨us, []⟩ (ps.zip (us ++ ds))
theorem Binds.all {K : PySem.W.Frag} {fd : FuncData} {ps : List Str} (h : ∀ us : List Value, us.length = ps.length -> bindArgs fd ⟨us, []⟩ = pure (ps.zip us)) : Binds K fd ps [] := fun s us _ hl => by
 rw [List.append_nil] at hl ⊢
 exact .of_eq (h us hl)
def Passes (CX : CXT) (X : Cx) (E : XK) : Prop := ∀ (pins : List (Addr × Obj)) (σ : St) (H : Hp) (s : Shared) (e : Value) (s' : Shared), Inv X pins σ H s -> CX X.stack H s E e s' -> X.xe e s'
section
variable {X : Cx} {CX : CXT} {k : Nat} {f C : Addr} {fd : FuncData} {ps : List Str} {sp : Sp} {dvs : List V} {ds : List Value} {E : XK} {x m : Str} {p pos apos : Pos} {e o : Expr} {es : List Expr} {ta : TE} {t : TA}
structure Mk (K : PySem.W.Frag) (C f : Addr) : Prop where
 makes : PySem.W.makesIn K C = true
 init : PySem.W.findIn K (.ref C) "__init__" = some (some (.ref f))
 fn : PySem.W.isFn K (.ref f) = true
 kp : PySem.W.keepIn K (.ref C) = true
end
def PK (X : Cx) (kws : List Keyword) (t : TA) : Prop :=
 ∀ (pos : Pos) (pins : List (Addr × Obj)) (s : Shared) (σ : St) (H : Hp) (Q : List V -> Hp -> Prop), Inv X pins σ H s -> t σ H Q -> wpAny (model X.prog X.w) X.A (evalAll ((backToKw pos (keywordEach kws X.env)).map (·.2))) (AP X pins σ Q) X.xe s
section
variable {X : Cx} {CX : CXT} {k : Nat} {f C : Addr} {fd : FuncData} {ps ks : List Str} {sp : Sp} {E : XK} {x m : Str} {p pos apos kpos : Pos} {e o : Expr} {es : List Expr} {kws : List Keyword} {te ta : TE} {t tk : TA} {nm : Option Str}
structure KBinds (K : PySem.W.Frag) (fd : FuncData) (ps ks : List Str) (g : List Value -> List Value -> List Value) (gV : List V -> List V -> List V) : Prop where
 to : ∀ (s : Shared) (us ws : List Value), K.In s.heap -> (g us ws).length = ps.length -> BindsTo s fd ⟨us, ks.zip ws⟩ (ps.zip (g us ws))
 rel : ∀ {vs : List V} {us : List Value} {zs : List V} {ws : List Value}, Vals vs us -> Vals zs ws -> Vals (gV vs zs) (g us ws)
def tCallK (sp : Sp) (gV : List V -> List V -> List V) (E : XK) (t tk : TA) : TE := fun σ H Q => t σ H fun vs H1 => tk σ H1 fun zs H2 => sp (gV vs zs) H2 Q E
variable {g : List Value -> List Value -> List Value} {gV : List V -> List V -> List V}
end
structure FnScope (N P : List Str) (sc : Scope) : Prop where
 kind : sc.kind = .function
 co : sc.isCoroutine = false
 gen : sc.isGenerator = false
 nd : N.Nodup
 pre : N.take P.length = P
 par : ∀ x ∈ P, sc.names.lookup x = some .local \/ sc.names.lookup x = some .cell
 nofree : ∀ y ∈ sc.names, y.2 ≠ .free
theorem bindL_out {kindOf : Str -> Option NameKind} {x : Str} : ∀ {binds : List (Str × Value)} {m : Str -> Option Value}, (∀ v, (x, v) ∉ binds) -> bindL kindOf binds m x = m x
 | [], _, _ => rfl
 | (n, v) :: r, m, h => by
   unfold bindL
   rw [bindL_out fun w hw => h w (List.mem_cons_of_mem _ hw)]
   split
   ·have : x ≠ n := by rintro rfl; exact h v List.mem_cons_self
    simp [this]
   ·rfl
theorem bindC_out {kindOf : Str -> Option NameKind} {x : Str} : ∀ {binds : List (Str × Value)} {m : Str -> Option Value}, (∀ v, (x, v) ∉ binds) -> bindC kindOf binds m x = m x
 | [], _, _ => rfl
 | (n, v) :: r, m, h => by
   unfold bindC
   rw [bindC_out fun w hw => h w (List.mem_cons_of_mem _ hw)]
   split
   ·rfl
   ·have : x ≠ n := by rintro rfl; exact h v List.mem_cons_self
    simp [this]
theorem bindL_get {kindOf : Str -> Option NameKind} {x : Str} {v : Value} : ∀ {P : List Str} {vs : List Value} {i : Nat} {m : Str -> Option Value}, P.Nodup -> P[i]? = some x -> vs[i]? = some v -> kindOf x = some .local ->
  bindL kindOf (P.zip vs) m x = some v
 | [], _, _, _, _, h, _, _ => by simp at h
 | _ :: _, [], _, _, _, _, h, _ => by simp at h
 | p :: P, w :: vs, 0, m, nd, h1, h2, hk => by
   simp at h1 h2; subst h1; subst h2
   show bindL kindOf ((p, w) :: P.zip vs) m p = _
   unfold bindL
   rw [bindL_out fun v hv => (List.nodup_cons.mp nd).1 (List.of_mem_zip hv).1, if_pos hk]
   simp
 | p :: P, w :: vs, i + 1, m, nd, h1, h2, hk => by
   show bindL kindOf ((p, w) :: P.zip vs) m x = _
   unfold bindL
   exact bindL_get (i := i) (List.nodup_cons.mp nd).2 (by simpa using h1) (by simpa using h2) hk
theorem bindC_get {kindOf : Str -> Option NameKind} {x : Str} {v : Value} : ∀ {P : List Str} {vs : List Value} {i : Nat} {m : Str -> Option Value}, P.Nodup -> P[i]? = some x -> vs[i]? = some v -> kindOf x ≠ some .local ->
  bindC kindOf (P.zip vs) m x = some v
 | [], _, _, _, _, h, _, _ => by simp at h
 | _ :: _, [], _, _, _, _, h, _ => by simp at h
 | p :: P, w :: vs, 0, m, nd, h1, h2, hk => by
   simp at h1 h2; subst h1; subst h2
   show bindC kindOf ((p, w) :: P.zip vs) m p = _
   unfold bindC
   rw [bindC_out fun v hv => (List.nodup_cons.mp nd).1 (List.of_mem_zip hv).1, if_neg hk]
   simp
 | p :: P, w :: vs, i + 1, m, nd, h1, h2, hk => by
   show bindC kindOf ((p, w) :: P.zip vs) m x = _
   unfold bindC
   exact bindC_get (i := i) (List.nodup_cons.mp nd).2 (by simpa using h1) (by simpa using h2) hk
def start (N : List Str) (vs : List V) : St := vs.map some ++ List.replicate (N.length - vs.length) none
def cxOf (cc : Bool) (CX : CXT) (P : Program) (w : World) (K : PySem.W.Frag) (mg : Str -> Option Value) (base : Heap) (N : List Str) (qual : Str) (scope : Scope) (f : Addr) (cd : Value) (A : Around) (outer : List Env) (s : Shared) (H : Hp) (E : XK) : Cx where
 prog := P
 w := w
 K := K
 mg := mg
 base := base
 A := A.deeper (envOfC qual scope s.heap.objs.size f cd)
 N := N
 s₀ := s
 H₀ := H
 env := envOfC qual scope s.heap.objs.size f cd
 outer := outer
 stack := envOfC qual scope s.heap.objs.size f cd :: outer
 ex := []
 calm := cc
 fn := fun _ => true
 pn := []
 xe := fun e s' => wpAny (model P w) (A.deeper (envOfC qual scope s.heap.objs.size f cd)) (leaving (envOfC qual scope s.heap.objs.size f cd) e) (fun _ s'' => CX outer H s E e s'') (fun e' s'' => CX outer H s E e' s'') s'
theorem cell_has {sc : Scope} {n : Nat} {x : Str} (h : sc.names.lookup x = some .cell) : ∃ c, (cellsFrom n sc.names []).lookup x = some c := by
 have q := PySem.W.cellsFrom_some sc.names n [] (.inl h)
 exact Option.isSome_iff_exists.mp q
theorem inv_start {CX : CXT} {P : Program} {w : World} {K : PySem.W.Frag} {mg : Str -> Option Value} {base : Heap} {N ps : List Str} {qual : Str} {scope : Scope} {f : Addr} {cd : Value} {A : Around} {outer : List Env} {s s1 : Shared} {H : Hp} {E : XK} {us : List Value} {vs : List V}
  (S : FnScope N ps scope) (hd : cc = true -> A.handled = none) (e0 : Env0 P w K mg base A outer s H) (hl : vs.length = ps.length) (r : Vals vs us)
  (x : InCallC s s.heap.objs.size (bindL (envOfC qual scope s.heap.objs.size f cd).kindOf (ps.zip us) fun _ => none) (cellsFrom (s.heap.objs.size + 1) scope.names []) (bindC (envOfC qual scope s.heap.objs.size f cd).kindOf (ps.zip us) fun _ => none) s1) :
  Inv (cxOf cc CX P w K mg base N qual scope f cd A outer s H E) [] (start N vs) H s1 := by
 have hpl : ps.length ≤ N.length := by have := congrArg List.length S.pre; rw [List.length_take] at this; omega
 obtain ⟨h1, tk, rfl, hk⟩ := x.done
 have noA : ∀ b : Addr, b ∉ (cxOf cc CX P w K mg base N qual scope f cd A outer s H E).ex := fun b z => absurd (show b ∈ ([] : List Addr) from z) (by simp)
 refine ⟨⟨e0.mod, S.kind, rfl, rfl, Nat.le_refl _, fun y z c h1 h2 => ?_, fun y hy => ?_, fun y c _ h => ?_, hd, Around.frames_deeper e0.frames, .inr ⟨rfl, rfl⟩, fun b z => absurd z (noA b), e0.bs, e0.bsz, fun b _ _ => noA b, fun b z => absurd z (noA b), e0.funs, e0.frf⟩,
  rfl, e0.bare, Un.kept hk, ⟨_, x.toInCall.ns, fun i y v h1 h2 h3 => ?_⟩, fun y c h => ⟨_, x.cell y c h⟩, e0.hok.fresh (Nat.le_refl _), fun y c h => ?_, fun p hp => absurd (show p ∈ ([] : List (Addr × Obj)) from hp) (by simp), e0.hok.kept hk, ?_⟩
 ·exact name_of_addr x.apart (PySem.mem_of_lookup h1) (PySem.mem_of_lookup h2)
 ·have hy : scope.names.lookup y = some .cell \/ scope.names.lookup y = some .free := hy
  rcases hy with hy | hy
  ·exact cell_has hy
  ·exact absurd rfl (S.nofree _ (PySem.mem_of_lookup hy))
 ·exact Nat.le_of_lt (x.above y c (PySem.mem_of_lookup h))
 ·have hi : i < vs.length := by
   unfold start at h2
   by_cases hi : i < vs.length
   ·exact hi
   ·rw [List.getElem?_append_right (by simpa using hi)] at h2
    rw [List.getElem?_replicate] at h2
    split at h2 <;> cases h2
  have ha : vs[i]? = some v := by
   unfold start at h2
   rw [List.getElem?_append_left (by simpa using hi), List.getElem?_map] at h2
   cases e : vs[i]? with
   | none => rw [e] at h2; cases h2
   | some a => rw [e] at h2; cases h2; rfl
  obtain ⟨u, hu, rv⟩ := r.get ha
  have hp : ps[i]? = some y := by
   rw [<- S.pre, List.getElem?_take_of_lt (by omega)]; exact h1
  have ndP : ps.Nodup := by rw [<- S.pre]; exact S.nd.sublist (List.take_sublist _ _)
  refine ⟨u, rv, ?_⟩
  rcases S.par y (List.mem_of_getElem? hp) with k | k
  ·exact .inl ⟨k, bindL_get ndP hp hu k⟩
  ·obtain ⟨c, e⟩ := cell_has (n := s.heap.objs.size + 1) k
   refine .inr ⟨.inl k, c, e, ?_⟩
   have q := x.cell y c e
   rw [bindC_get ndP hp hu (by show scope.names.lookup y ≠ _; rw [k]; decide)] at q
   exact q
 ·exact e0.hok.fresh (Nat.le_of_lt (x.above y c (PySem.mem_of_lookup h)))
 ·unfold start
  show _ = N.length
  rw [List.length_append, List.length_map, List.length_replicate]
  omega
theorem fn_of {CX : CXT} {P : Program} {w : World} {K : PySem.W.Frag} {mg : Str -> Option Value} {base : Heap} {k : Nat} {f : Addr} {name qual : Str} {params : Arguments} {body : List Stmt} {scope : Scope} {dV kV doc pm cdv ct oc : Value} {an od : Option Addr}
  {osl : Array (Option Value)} {N ps : List Str} {sp : Sp} (lk : K.lookup f = some ⟨oc, od, .func (PySem.W.fnOf name qual params body scope dV kV doc pm an cdv ct), osl⟩) (hcd : PySem.W.codeIn K cdv qual = true) (S : FnScope N ps scope)
  (len : ∀ vs H Q E, sp vs H Q E -> vs.length = ps.length)
  (hbody : ∀ (A : Around) (outer : List Env) (s : Shared) (H : Hp) (vs : List V) (Q : VK) (E : XK), Room cc k (A.deeper (envOfC qual scope s.heap.objs.size f cdv)) -> sp vs H Q E ->
   ∃ t, PSs (cxOf cc CX P w K mg base N qual scope f cdv A outer s H E) body t /\ t { nx := fun _ H' => Q .non H', rt := Q } (start N vs) H) :
  FnOk P w K mg base CX cc (k + 1) f (PySem.W.fnOf name qual params body scope dV kV doc pm an cdv ct) ps sp := by
 refine ⟨len, fun A outer s H args us vs Q E hr e0 hb r hsp => ?_⟩
 have hl := len _ _ _ _ hsp
 have KX : K.In s.heap := e0.mod.kin.keeps fun b o e => (e0.bs b o e).1
 have lim : s.heap.NoLimit := e0.mod.nolimit.keeps fun b o e => (e0.bs b o e).1
 have hkind : ∀ y ∈ ps.zip us, scope.names.lookup y.1 = some .local \/ (scope.names.lookup y.1 = some .cell /\ ((cellsFrom (s.heap.objs.size + 1) scope.names []).lookup y.1).isSome = true) := fun ⟨n, v⟩ hy => by
  rcases S.par n (List.of_mem_zip hy).1 with q | q
  ·exact .inl q
  ·exact .inr ⟨q, PySem.W.cellsFrom_some _ _ _ (.inl q)⟩
 refine codeAny_call_function hr.depth (KX _ _ lk) rfl S.co S.gen rfl (PySem.W.codeRec_of KX hcd) (hb _ _ _ _ ?_)
 refine wpAny_newFunctionEnv_cells S.kind hkind fun env he s1 x => ?_
 subst he
 refine ⟨lim.keeps x.toInCall.keep, codeAny_func ?_⟩
 obtain ⟨t, ht, hq⟩ := hbody A outer s H vs Q E (hr.deeper _) hsp
 have I : Inv (cxOf cc CX P w K mg base N qual scope f cdv A outer s H E) [] (start N vs) H s1 := inv_start S hr.hd e0 hl r x
 refine wpAny_mono (ht [] s1 (start N vs) H _ I hq) (fun fl s' hs => ?_) fun e s' hs => hs
 have fin : ∀ {σ' : St} {H' : Hp} {v : V} {u : Value}, Inv (cxOf cc CX P w K mg base N qual scope f cdv A outer s H E) [] σ' H' s' -> RelV v u -> Q v H' -> CE outer P w H s Q u s' :=
  fun {σ' H' v u} J rv q => ⟨v, H', J.os, J.bare, J.base, J.hok, rv, q⟩
 cases fl with
 | ret u =>
   obtain ⟨v, σ', H', J, rv, q⟩ := hs
   exact fin J rv q
 | next =>
   obtain ⟨σ', H', J, q⟩ := hs
   exact fin (v := V.non) (u := Value.none) J rfl q
 | brk =>
   obtain ⟨_, _, _, q⟩ := hs
   exact False.elim q
 | cont =>
   obtain ⟨_, _, _, q⟩ := hs
   exact False.elim q
end L2
namespace L2
open PySem PySem.Spec PyProof.Rows
section
variable {X : Cx} {x : Str} {p pos : Pos} {e : Expr} {es : List Expr} {t : TA} {id T : String} {r : List V -> Hp -> VK -> Prop}
def tCB (r : List V -> Hp -> VK -> Prop) (t : TA) : TE := fun σ H Q => t σ H fun vs H1 => r vs H1 Q
theorem pe_callB (hc : CallR X (.builtin id) r) (hg : Gl X x) (hm : X.mg x = none) (hv : bootBuiltins x = some (.builtin id)) (ha : PA X (e :: es) t) (hn : x ≠ "__name__" := by decide) (hdb : (x == ("__debug__" : Str)) = false := by decide)
  (he : starEach (e :: es) X.env = (false, eval e X.env) :: starEach es X.env := by rfl) (hpl : (backTo pos (starEach es X.env)).any (·.1) = false := by rfl) : PE X (.Call (.Name x p) (e :: es) [] pos) (tCB r t) := by
 intro pins s σ H Q I h
 refine wpAny_Call_Name_kw (ld_blt I hg hm hv ?_ hn hdb)
 exact PyProof.Rows.callWith_builtin1 (thn (ha pos pins s σ H _ I h) fun us s1 ⟨vs, H1, I1, r1, q1⟩ => hc pins s1 σ H1 vs us Q I1 r1 q1) he hpl
theorem pe_callTy (hc : CallR X (.type T) r) (hg : Gl X x) (hm : X.mg x = none) (hv : bootBuiltins x = some (.type T)) (ha : PA X (e :: es) t) (hn : x ≠ "__name__" := by decide) (hdb : (x == ("__debug__" : Str)) = false := by decide)
  (he : starEach (e :: es) X.env = (false, eval e X.env) :: starEach es X.env := by rfl) (hpl : (backTo pos (starEach es X.env)).any (·.1) = false := by rfl) : PE X (.Call (.Name x p) (e :: es) [] pos) (tCB r t) := by
 intro pins s σ H Q I h
 refine wpAny_Call_Name_kw (ld_blt I hg hm hv ?_ hn hdb)
 exact PyProof.Rows.callWith_type1 (thn (ha pos pins s σ H _ I h) fun us s1 ⟨vs, H1, I1, r1, q1⟩ => hc pins s1 σ H1 vs us Q I1 r1 q1) he hpl
end
end L2
namespace HT
open PySem PyProof.Rows
def lexLt : List Int -> List Int -> Bool
 | [], [] => false
 | [], _ :: _ => true
 | _ :: _, [] => false
 | x :: xs, y :: ys => if x = y then lexLt xs ys else decide (x < y)
section
open PySem.SeqAt
open PySem.AutoSeq1 (wpAny_loadPart')
open PySem.MeetsSeq PySem.MeetsSeq2 PySem.MeetsSeq3
end
section
variable {prog : Program} {w : World} {A : Around} {E : Value -> Shared -> Prop} {s : Shared}
def sIx (n d : Nat) : Option Int -> Nat
 | none => d
 | some v => if v < 0 then (v + (n : Int)).toNat else min v.toNat n
theorem sIx_none (n d : Nat) : sIx n d none = d := rfl
theorem sIx_nat (n d k : Nat) : sIx n d (some (k : Int)) = min k n := by
 show (if (k : Int) < 0 then ((k : Int) + (n : Int)).toNat else min (k : Int).toNat n) = min k n
 rw [if_neg (by omega), Int.toNat_natCast]
theorem sIx_le (n d : Nat) (hd : d ≤ n) (o : Option Int) : sIx n d o ≤ n := by
 cases o with
 | none => exact hd
 | some v =>
   show (if v < 0 then (v + (n : Int)).toNat else min v.toNat n) ≤ n
   by_cases hv : v < 0
   ·rw [if_pos hv]; omega
   ·rw [if_neg hv]; exact Nat.min_le_right _ _
theorem clip_eq (v : Int) (n d : Nat) : (if v < 0 then max (v + (n : Int)) 0 else min v (n : Int)) = ((sIx n d (some v) : Nat) : Int) := by
 show (if v < 0 then max (v + (n : Int)) 0 else min v (n : Int)) = (((if v < 0 then (v + (n : Int)).toNat else min v.toNat n) : Nat) : Int)
 by_cases hv : v < 0
 ·simp only [if_pos hv]; omega
 ·simp only [if_neg hv]; omega
theorem adjust_gen (lo hi : Option Int) (n : Nat) : Builtin.Slice.sliceAdjust lo hi 1 (n : Int) = (((sIx n 0 lo : Nat) : Int), ((sIx n n hi : Nat) : Int)) := by
 have h1 : ¬ ((1 : Int) < 0) := by omega
 unfold Builtin.Slice.sliceAdjust
 simp only [h1, if_false]
 refine Prod.ext ?_ ?_
 ·cases lo with
  | none => rfl
  | some v => exact clip_eq v n 0
 ·cases hi with
  | none => rfl
  | some v => exact clip_eq v n n
theorem places_gen (i j : Nat) : Builtin.Slice.slicePlaces (i : Int) (j : Int) 1 = j - i := by
 unfold Builtin.Slice.slicePlaces
 have h1 : (1 : Int) > 0 := by omega
 simp only [h1, if_true, Int.ediv_one]
 split <;> omega
theorem slicePart_ {v : Value} {o : Option Int} {Q : Option Int -> Shared -> Prop} (p : IsPart v o) (h : Q o s) : wpAny (model prog w) A (Builtin.Slice.slicePartIndex v) Q E s := by
 cases p with
 | none => exact slicePart_none h
 | int i t => exact slicePart_int h
theorem sliceApplied_gen {sl : Addr} {vl vu : Value} {lo hi : Option Int} {n : Nat} {Q : Int × Int × Nat -> Shared -> Prop} (hs : s.heap.IsSliceOf sl vl vu .none) (pl : IsPart vl lo) (pu : IsPart vu hi)
  (h : Q (((sIx n 0 lo : Nat) : Int), 1, sIx n n hi - sIx n 0 lo) s) : wpAny (model prog w) A (Builtin.Slice.sliceApplied (.ref sl) (pure (n : Int))) Q E s := by
 obtain ⟨os, hos, hcs, hds⟩ := id hs
 unfold Builtin.Slice.sliceApplied Builtin.Slice.sliceFields
 refine wpAny_bind (wpAny_bind (wpAny_field hos hds (x := vl) rfl (wpAny_bind (wpAny_field hos hds (x := vu) rfl (wpAny_bind (wpAny_field hos hds (x := .none) rfl (wpAny_pure ?_)))))))
 refine wpAny_bind (slicePart_none ?_)
 show wpAny _ _ (if ((1 : Int) == 0) = true then _ else _) _ _ s
 rw [if_neg (by decide)]
 refine wpAny_bind (slicePart_ pl (wpAny_bind (slicePart_ pu (wpAny_bind (wpAny_pure ?_)))))
 show wpAny _ _ (match Builtin.Slice.sliceAdjust lo hi 1 (n : Int) with | (lo, hi) => pure (lo, (1 : Int), Builtin.Slice.slicePlaces lo hi 1)) _ _ s
 rw [adjust_gen lo hi n]
 show wpAny _ _ (pure (((sIx n 0 lo : Nat) : Int), (1 : Int), Builtin.Slice.slicePlaces ((sIx n 0 lo : Nat) : Int) ((sIx n n hi : Nat) : Int) 1)) _ _ s
 rw [places_gen]
 exact wpAny_pure h
theorem pick_gen (xs : Array Value) (i k : Nat) : ((List.range k).filterMap fun (m : Nat) => xs[((i : Int) + (m : Int) * 1).toNat]?).toArray = ((xs.toList.drop i).take k).toArray := by
 have e : (fun (m : Nat) => xs[((i : Int) + (m : Int) * 1).toNat]?) = fun m => xs[i + m]? := by
  funext m
  have : ((i : Int) + (m : Int) * 1).toNat = i + m := by omega
  rw [this]
 rw [e]
 have := pick_run xs i k
 rw [List.filterMap_map] at this
 have e2 : ((fun x => xs[x]?) ∘ fun x => i + x) = fun m => xs[i + m]? := rfl
 rw [e2] at this
 rw [this]
theorem getItem_tuple_cut {t sl : Addr} {items : Array Value} {vl vu : Value} {lo hi : Option Int} {Q : Value -> Shared -> Prop} (ht : IsTup s.heap t items) (hs : s.heap.IsSliceOf sl vl vu .none) (pl : IsPart vl lo) (pu : IsPart vu hi)
  (hw : ¬ (sIx items.size 0 lo = 0 /\ sIx items.size items.size hi = items.size))
  (h : Q (.ref s.heap.objs.size) { s with heap := s.heap.push { cls := .type "tuple", data := .seq ((items.toList.drop (sIx items.size 0 lo)).take (sIx items.size items.size hi - sIx items.size 0 lo)).toArray } })
  (hsz : items.size ≤ sizeLine) : wpAny (model prog w) A (getItem (.ref t) (.ref sl)) Q E s := by
 have htake : sizeOk (.seq ((items.toList.drop (sIx items.size 0 lo)).take (sIx items.size items.size hi - sIx items.size 0 lo)).toArray) := by
  show ((items.toList.drop (sIx items.size 0 lo)).take (sIx items.size items.size hi - sIx items.size 0 lo)).toArray.size ≤ sizeLine
  rw [List.size_toArray, List.length_take, List.length_drop, Array.length_toList]
  omega
 have hj : sIx items.size items.size hi ≤ items.size := sIx_le _ _ (Nat.le_refl _) hi
 obtain ⟨os, hos, hcs, hds⟩ := id hs
 have hTs : s.TypeIs (.ref sl) "slice" := ⟨os, hos, hcs⟩
 unfold getItem
 try with_reducible refine wpAny_holding ?_
 first | refine wpAny_bind (wpAny_pure ?_) | skip
 refine wpAny_bind (wpAny_sequenceKey ht.typeIs (by decide) ?_)
 refine wpAny_bind (wpAny_callSpecial?_slot (name := Str.ofString "__getitem__") ht.typeIs PyProof.Rows.slot_tuple_getitem
  (wpAny_call_entry PyProof.Rows.slot_tuple_getitem ht.typeIs entry_tuple_getitem ?_ (args_tuple_getitem _ _)))
 show wpAny _ _ (Builtin.Tuple.tupleItemsOf (.ref t) >>= _) _ _ s
 refine wpAny_bind (tupleItemsOf_ ht ?_)
 refine wpAny_bind (wpAny_typeOf hTs ?_)
 rw [if_pos (by decide)]
 refine wpAny_bind (sliceApplied_gen hs pl pu ?_)
 have hno : ¬ ((((sIx items.size 0 lo : Nat) : Int) == 0 && (1 : Int) == 1 && (sIx items.size items.size hi - sIx items.size 0 lo) == items.size) = true) := by
  intro q
  rw [Bool.and_eq_true, Bool.and_eq_true] at q
  have q1 : ((sIx items.size 0 lo : Nat) : Int) = 0 := eq_of_beq q.1.1
  have q2 : sIx items.size items.size hi - sIx items.size 0 lo = items.size := eq_of_beq q.2
  exact hw ⟨by omega, by omega⟩
 show wpAny _ _ (if (((sIx items.size 0 lo : Nat) : Int) == 0 && (1 : Int) == 1 && (sIx items.size items.size hi - sIx items.size 0 lo) == items.size) = true then _ else _) _ _ s
 rw [if_neg hno, pick_gen]
 first
  | exact wpAny_bind (m := Builtin.Tuple.tupleExact _) (wpAny_newObj_type (wpAny_pure ⟨_, rfl, wpAny_pure h⟩) htake)
  | exact wpAny_bind (m := Builtin.Tuple.tupleExact _) (wpAny_newObj_type (wpAny_bind (wpAny_pure (wpAny_pure ⟨_, rfl, wpAny_pure h⟩))) htake)
  | exact wpAny_bind (wpAny_bind (m := Builtin.Tuple.tupleExact _) (wpAny_newObj_type (wpAny_pure (wpAny_pure ⟨_, rfl, wpAny_pure h⟩)) htake))
  | exact wpAny_bind (wpAny_bind (m := Builtin.Tuple.tupleExact _) (wpAny_newObj_type (wpAny_pure ⟨_, rfl, wpAny_pure h⟩) htake))
end
end HT
namespace L2
open PySem PySem.Spec PyProof.Rows
abbrev TO := St -> Hp -> (Option Int -> Hp -> Prop) -> Prop
def PO (X : Cx) (e : Option Expr) (t : TO) : Prop :=
 ∀ (pins : List (Addr × Obj)) (s : Shared) (σ : St) (H : Hp) (Q : Option Int -> Hp -> Prop), Inv X pins σ H s -> t σ H Q ->
   wpAny (model X.prog X.w) X.A (evalPart e X.env) (fun u s' => ∃ o H', Inv X pins σ H' s' /\ IsPart u o /\ Q o H') X.xe s
def tNoPart : TO := fun _ H Q => Q none H
def tPart (t : TE) : TO := fun σ H Q => t σ H fun x H1 => ∃ i, x = .int i /\ Q (some i) H1
section
variable {X : Cx} {e : Expr} {te : TE} {lo hi : Option Expr} {tl th : TO} {pos p2 : Pos}
theorem po_none : PO X none tNoPart := by
 intro pins s σ H Q I h
 rw [evalPart_none]
 exact wpAny_pure ⟨none, H, I, .none, h⟩
theorem po_some (h : PE X e te) : PO X (some e) (tPart te) := by
 intro pins s σ H Q I hw
 rw [evalPart_some]
 refine thn (h pins s σ H _ I hw) fun u s1 ⟨x, H1, I1, r1, q1⟩ => ?_
 obtain ⟨i, rfl, q⟩ := q1
 obtain ⟨t, rfl⟩ := r1
 exact ⟨some i, H1, I1, .int i t, q⟩
def SlR (X : Cx) (r : V -> Option Int -> Option Int -> Hp -> VK -> Prop) : Prop :=
 ∀ (pins : List (Addr × Obj)) (s : Shared) (σ : St) (H : Hp) (x : V) (v vl vu : Value) (lo hi : Option Int) (sl : Addr) (Q : VK), Inv X pins σ H s -> RelV x v -> s.heap.IsSliceOf sl vl vu .none -> IsPart vl lo -> IsPart vu hi -> r x lo hi H Q ->
   ∃ T id, typeLookup (.type T) "__getitem__" = pure (some (.builtin id)) /\ s.TypeIs v T /\ wpAny (model X.prog X.w) X.A (getItem v (.ref sl)) (EP X pins σ Q) X.xe s
def tSl (r : V -> Option Int -> Option Int -> Hp -> VK -> Prop) (te : TE) (tl th : TO) : TE := fun σ H Q => te σ H fun x H1 => tl σ H1 fun l H2 => th σ H2 fun u H3 => r x l u H3 Q
theorem pe_slice {r : V -> Option Int -> Option Int -> Hp -> VK -> Prop} (hr : SlR X r) (he : PE X e te) (hl : PO X lo tl) (hu : PO X hi th) : PE X (.Subscript e (.Slice lo hi none p2) pos) (tSl r te tl th) := by
 intro pins s σ H Q I h
 refine Subscript_ (thn (he pins s σ H _ I h) fun v s1 ⟨x, H1, I1, r1, q1⟩ => ?_)
 refine wpAny_Slice (thn (hl pins s1 σ H1 _ I1 q1) fun vl s2 ⟨l, H2, I2, pl, q2⟩ => thn (hu pins s2 σ H2 _ I2 q2) fun vu s3 ⟨u, H3, I3, pu, q3⟩ => ?_)
 rw [evalPart_none]
 refine wpAny_pure ?_
 have I4 : Inv X pins σ H3 { s3 with heap := s3.heap.push { cls := .type "slice", data := .fields #[vl, vu, .none] } } := I3.kept (t' := s3.toks) fun b ob q => Heap.get?_push_of_some _ q
 obtain ⟨T, id, hT, ht, hg⟩ := hr pins { s3 with heap := s3.heap.push { cls := .type "slice", data := .fields #[vl, vu, .none] } } σ H3 x v vl vu l u s3.heap.objs.size Q I4 r1 (Heap.IsSliceOf.new ..) pl pu q3
 show wpAny (model X.prog X.w) X.A (subscriptTail e (.Slice lo hi none p2) v (.ref s3.heap.objs.size)) (EP X pins σ Q) X.xe { s3 with heap := s3.heap.push { cls := .type "slice", data := .fields #[vl, vu, .none] } }
 exact tail_any (ops := [.ref s3.heap.objs.size, v]) ht hT hg (by with_unfolding_all rfl)
def cutV (xs : List V) (lo hi : Option Int) : List V := (xs.drop (HT.sIx xs.length 0 lo)).take (HT.sIx xs.length xs.length hi - HT.sIx xs.length 0 lo)
theorem cutV_length (xs : List V) (lo hi : Option Int) : (cutV xs lo hi).length ≤ xs.length := by
 unfold cutV
 rw [List.length_take, List.length_drop]
 omega
def rSlT (K : PySem.W.Frag) : V -> Option Int -> Option Int -> Hp -> VK -> Prop := fun x lo hi H Q => ∃ a xs, x = .ref a /\ SqT K H a xs /\
 ¬ (HT.sIx xs.length 0 lo = 0 /\ HT.sIx xs.length xs.length hi = xs.length) /\ ∀ p, H p = none -> Q (.ref p) (upd H p (.tup (cutV xs lo hi)))
theorem sl_tup : SlR X (rSlT X.K) := by
 intro pins s σ H x v vl vu lo hi sl Q I rx hs pl pu h
 obtain ⟨a, xs, rfl, hx, hw, q⟩ := h
 cases rx
 obtain ⟨its, r, ht, hz⟩ := I.tuple hx
 have hlen : its.toArray.size = xs.length := by rw [List.size_toArray]; exact r.length.symm
 refine ⟨"tuple", _, PyProof.Rows.slot_tuple_getitem.lookup, ht.typeIs, ?_⟩
 refine HT.getItem_tuple_cut ht hs pl pu (by rw [hlen]; exact hw) ?_ (by rw [hlen]; exact hz)
 rw [hlen]
 refine ⟨.ref s.heap.objs.size, _, I.laid (t' := s.toks) (o := .tup (cutV xs lo hi)) (fun b ob q => Heap.get?_push_of_some _ q) (Nat.le_refl _) ?_, rfl, q _ (I.hok.fresh (Nat.le_refl _))⟩
 exact ⟨Nat.le_trans (cutV_length xs lo hi) hz, _, (r.drop (HT.sIx xs.length 0 lo)).take (HT.sIx xs.length xs.length hi - HT.sIx xs.length 0 lo), IsTup.new _ _⟩
def rLtT (K : PySem.W.Frag) : R2 := fun x y H Q => ∃ a b ns ms, x = .ref a /\ y = .ref b /\ SqT K H a (ns.map V.int) /\ SqT K H b (ms.map V.int) /\ Q (.bl (HT.lexLt ns ms)) H
def rCatT (K : PySem.W.Frag) : R2 := fun x y H Q => ∃ a b xs ys, x = .ref a /\ y = .ref b /\ SqT K H a xs /\ SqT K H b ys /\ xs ≠ [] /\ xs.length + ys.length ≤ sizeLine /\
 (ys = [] -> Q (.ref a) H) /\ (ys ≠ [] -> ∀ p, H p = none -> Q (.ref p) (upd H p (.tup (xs ++ ys))))
end
end L2
namespace L2
open PySem PySem.Spec PyProof.Rows
def ixN (n : Nat) (i : Int) : Option Nat := if 0 ≤ i then (if i < n then some i.toNat else none) else if -(n : Int) ≤ i then some (i + n).toNat else none
def atI {α : Type} (xs : List α) (i : Int) : Option α := (ixN xs.length i).bind fun j => xs[j]?
theorem ixN_seq {n : Nat} {i : Int} {j : Nat} (h : ixN n i = some j) : seqIndex? i n = some j /\ j < n /\ -(n : Int) ≤ i /\ i < n := by
 unfold ixN at h
 by_cases h0 : 0 ≤ i
 ·rw [if_pos h0] at h
  by_cases h1 : i < n
  ·rw [if_pos h1] at h
   have e : i.toNat = j := Option.some.inj h
   exact ⟨by rw [seqIndex_of h0 h1, e], by omega, by omega, h1⟩
  ·rw [if_neg h1] at h; cases h
 ·rw [if_neg h0] at h
  by_cases h1 : -(n : Int) ≤ i
  ·rw [if_pos h1] at h
   have e : (i + n).toNat = j := Option.some.inj h
   exact ⟨by rw [seqIndex_neg (by omega) h1, e], by omega, h1, by omega⟩
  ·rw [if_neg h1] at h; cases h
theorem atI_get {α : Type} {xs : List α} {i : Int} {v : α} (h : atI xs i = some v) : ∃ j, seqIndex? i xs.length = some j /\ xs[j]? = some v /\ j < xs.length /\ -(xs.length : Int) ≤ i /\ i < xs.length := by
 unfold atI at h
 cases e : ixN xs.length i with
 | none => rw [e] at h; cases h
 | some j =>
   rw [e] at h
   obtain ⟨h1, h2, h3, h4⟩ := ixN_seq e
   exact ⟨j, h1, h, h2, h3, h4⟩
theorem atI_nat {α : Type} {xs : List α} {j : Nat} {v : α} (h : xs[j]? = some v) : atI xs (j : Int) = some v := by
 have hj : j < xs.length := (List.getElem?_eq_some_iff.mp h).1
 have e : ixN xs.length (j : Int) = some j := by
  unfold ixN
  rw [if_pos (by omega), if_pos (by omega)]; simp
 unfold atI; rw [e]; exact h
def PlainIx (b : Expr) : Prop := ∀ o i, subscripted b false o i = operate [o, i] (getItem o i)
def IxR (X : Cx) (r : R2) : Prop :=
 ∀ (value slice : Expr) (pins : List (Addr × Obj)) (s : Shared) (σ : St) (H : Hp) (x y : V) (v u : Value) (Q : VK), Inv X pins σ H s -> RelV x v -> RelV y u -> r x y H Q ->
   subscripted slice false v u = operate [v, u] (getItem v u) -> wpAny (model X.prog X.w) X.A (subscriptTail value slice v u) (EP X pins σ Q) X.xe s
def MtR (X : Cx) (id : String) (r : V -> List V -> Hp -> VK -> Prop) : Prop :=
 ∀ (pins : List (Addr × Obj)) (s : Shared) (σ : St) (H : Hp) (x : V) (xs : List V) (v : Value) (us : List Value) (Q : VK), Inv X pins σ H s -> RelV x v -> Vals xs us -> r x xs H Q ->
   wpAny (model X.prog X.w) X.A (call (.builtin id) (v :: us)) (EP X pins σ Q) X.xe s
section
variable {X : Cx} {a b : Expr} {ta tb : TE} {pos : Pos}
theorem pe_ix {r : R2} (hr : IxR X r) (ha : PE X a ta) (hb : PE X b tb) (hs : PlainIx b) : PE X (.Subscript a b pos) (tOp r ta tb) := by
 intro pins s σ H Q I h
 exact Subscript_ (binT ha hb I h fun v u s2 x y H2 I2 rx ry q => hr a b pins s2 σ H2 x y v u Q I2 rx ry q (hs _ _))
def rIxL (K : PySem.W.Frag) : R2 := fun x y H Q => ∃ p xs i v, x = .ref p /\ y = .int i /\ SqL K H p xs /\ atI xs i = some v /\ Q v H
def rIxT (K : PySem.W.Frag) : R2 := fun x y H Q => ∃ p xs i v, x = .ref p /\ y = .int i /\ SqT K H p xs /\ atI xs i = some v /\ Q v H
def rIxS : R2 := fun x y H Q => ∃ z i c, x = .str z /\ y = .int i /\ z.length ≤ sizeLine /\ atI z.cps.toList i = some c /\ Q (.str ⟨#[c]⟩) H
theorem ix_list : IxR X (rIxL X.K) := by
 intro value slice pins s σ H x y v u Q I rx ry h hs
 obtain ⟨p, xs, i, z, rfl, rfl, hq, he, q⟩ := h
 cases rx
 obtain ⟨t, rfl⟩ := ry
 obtain ⟨its, r, pl, hz⟩ := I.list hq
 obtain ⟨j, h1, h2, h3, h4, h5⟩ := atI_get he
 obtain ⟨w, ew, rw'⟩ := r.get h2
 have hl := r.length
 have hn := line63
 have fin : EP X pins σ Q w s := ⟨z, H, I, rw', q⟩
 by_cases h0 : 0 ≤ i
 ·have hj : i.toNat = j := by
   rw [seqIndex_of h0 h5] at h1
   exact Option.some.inj h1
  exact item_listR pl.isList h0 (by omega) (by rw [hj]; simpa using ew) fin hs
 ·have hj : (i + (its.toArray.size : Int)).toNat = j := by
   rw [seqIndex_neg (by omega) h4] at h1
   rw [List.size_toArray, <- hl]
   exact Option.some.inj h1
  exact subscriptTail_builtinR (x := w) pl.isList.typeIs slot_list_getitem.lookup
   (wpAny_getItem_list_neg (Q := fun r s' => r = w /\ EP X pins σ Q r s') pl.isList (by omega) (by rw [List.size_toArray] <;> omega) (by omega) (by rw [hj]; simpa using ew) ⟨rfl, fin⟩) hs
theorem ix_tup : IxR X (rIxT X.K) := by
 intro value slice pins s σ H x y v u Q I rx ry h hs
 obtain ⟨p, xs, i, z, rfl, rfl, hq, he, q⟩ := h
 cases rx
 obtain ⟨t, rfl⟩ := ry
 obtain ⟨its, r, pl, hz⟩ := I.tuple hq
 obtain ⟨j, h1, h2, h3, h4, h5⟩ := atI_get he
 obtain ⟨w, ew, rw'⟩ := r.get h2
 have hl := r.length
 have hn := line63
 have fin : EP X pins σ Q w s := ⟨z, H, I, rw', q⟩
 exact subscriptTail_builtinR (x := w) pl.typeIs slot_tuple_getitem.lookup
  (getItem_tuple (j := j) (Q := fun r s' => r = w /\ EP X pins σ Q r s') pl (by omega) (by omega) (by rw [List.size_toArray, <- hl]; exact h1) (by simpa using ew) ⟨rfl, fin⟩) hs
theorem ix_str : IxR X rIxS := by
 intro value slice pins s σ H x y v u Q I rx ry h hs
 obtain ⟨z, i, c, rfl, rfl, hz, he, q⟩ := h
 obtain ⟨t, rfl⟩ := rx
 obtain ⟨t', rfl⟩ := ry
 obtain ⟨j, h1, h2, h3, h4, h5⟩ := atI_get he
 have hl : z.cps.toList.length = z.length := by simp [Str.length]
 rw [hl] at h1 h4 h5
 have hn := line63
 exact tail_any (typeIs_str s z t) slot_str_getitem.lookup (getItem_str (c := c) (by
  have e1 : decide (i < -(2 ^ 63 : Int)) = false := decide_eq_false (by omega)
  have e2 : decide (i ≥ 2 ^ 63) = false := decide_eq_false (by omega)
  rw [e1, e2, Bool.or_false]) (by rw [h1]; simpa using h2) ⟨.str ⟨#[c]⟩, H, I.tok _, ⟨_, rfl⟩, q⟩) hs
def rIx (K : PySem.W.Frag) : R2 := fun x y H Q => rIxL K x y H Q \/ rIxT K x y H Q \/ rIxS x y H Q
def rSetL : V -> V -> V -> Hp -> (Hp -> Prop) -> Prop := fun o i v H Q => ∃ p xs k j, o = .ref p /\ i = .int k /\ H p = some (.lst xs) /\ ixN xs.length k = some j /\ Q (upd H p (.lst (xs.set j v)))
theorem slice_bounds (lo hi : Option Int) (n : Nat) : (sliceBounds lo hi none n).1 = ((HT.sIx n 0 lo : Nat) : Int) /\ (sliceBounds lo hi none n).2.1 = ((HT.sIx n n hi : Nat) : Int) /\ (sliceBounds lo hi none n).2.2 = 1 := by
 refine ⟨?_, ?_, rfl⟩
 ·cases lo with
  | none => simp [sliceBounds, HT.sIx]
  | some i =>
    simp only [sliceBounds, HT.sIx, Option.getD_none, show (1 : Int) > 0 by decide, if_true]
    by_cases h : i < 0
    ·simp only [h, if_true] <;> omega
    ·simp only [h, if_false] <;> omega
 ·cases hi with
  | none => simp [sliceBounds, HT.sIx]
  | some i =>
    simp only [sliceBounds, HT.sIx, Option.getD_none, show (1 : Int) > 0 by decide, if_true]
    by_cases h : i < 0
    ·simp only [h, if_true] <;> omega
    ·simp only [h, if_false] <;> omega
theorem slicePick_cut (its : List Value) (lo hi : Option Int) : slicePick its.toArray lo hi none = ((its.drop (HT.sIx its.length 0 lo)).take (HT.sIx its.length its.length hi - HT.sIx its.length 0 lo)).toArray := by
 obtain ⟨h1, h2, h3⟩ := slice_bounds lo hi its.toArray.size
 unfold slicePick
 rw [h1, h2, h3]
 simp only [sliceRange_one, pick_run, List.size_toArray] <;> rfl
def rSlL (K : PySem.W.Frag) : V -> Option Int -> Option Int -> Hp -> VK -> Prop := fun x lo hi H Q => ∃ a xs, x = .ref a /\ SqL K H a xs /\ ∀ p, H p = none -> Q (.ref p) (upd H p (.lst (cutV xs lo hi)))
theorem sl_list : SlR X (rSlL X.K) := by
 intro pins s σ H x v vl vu lo hi sl Q I rx hs pl pu h
 obtain ⟨a, xs, rfl, hx, q⟩ := h
 cases rx
 obtain ⟨its, r, ht, hz⟩ := I.list hx
 have hlen := r.length
 refine ⟨"list", _, slot_list_getitem.lookup, ht.isList.typeIs, ?_⟩
 refine wpAny_getItem_list_slice ht.isList hs pl pu .none (by simp) ?_ (by rw [List.size_toArray] <;> omega)
 rw [slicePick_cut, <- hlen]
 refine ⟨.ref s.heap.objs.size, _, I.laid (t' := s.toks) (o := .lst (cutV xs lo hi)) (fun b ob q => Heap.get?_push_of_some _ q) (Nat.le_refl _) ?_, rfl, q _ (I.hok.fresh (Nat.le_refl _))⟩
 exact ⟨Nat.le_trans (cutV_length xs lo hi) hz, _, 0, (r.drop (HT.sIx xs.length 0 lo)).take (HT.sIx xs.length xs.length hi - HT.sIx xs.length 0 lo), Heap.get?_push_size _ rfl⟩
def flatV : V -> Bool
 | .non => true
 | .bl _ => true
 | .int _ => true
 | .str _ => true
 | _ => false
def eqV : V -> V -> Bool
 | .non, .non => true
 | .bl a, .bl b => a == b
 | .bl a, .int b => (if a then 1 else 0) == b
 | .int a, .bl b => a == (if b then 1 else 0)
 | .int a, .int b => a == b
 | .str a, .str b => a == b
 | _, _ => false
theorem eqAt_V {A : Around} {s : Shared} {y x : V} {u v : Value} (ry : RelV y u) (rx : RelV x v) (fy : flatV y = true) (fx : flatV x = true) : SeqAt.EqAt A s u v (eqV y x) := by
 cases y with
 | non =>
   cases ry
   cases x with
   | non => cases rx; exact SeqAt.EqAt.same _
   | bl b => cases rx; exact SeqAt.EqAt.none_bool b
   | int b => obtain ⟨t, rfl⟩ := rx; exact SeqAt.EqAt.none_int b t
   | str b => obtain ⟨t, rfl⟩ := rx; exact SeqAt.EqAt.none_str b t
   | _ => exact absurd (show false = true from fx) Bool.false_ne_true
 | bl a =>
   cases ry
   cases x with
   | non => cases rx; exact SeqAt.EqAt.bool_none a
   | bl b => cases rx; exact SeqAt.EqAt.bool_bool a b
   | int b => obtain ⟨t, rfl⟩ := rx; exact SeqAt.EqAt.bool_int a b t
   | str b => obtain ⟨t, rfl⟩ := rx; exact SeqAt.EqAt.bool_str a b t
   | _ => exact absurd (show false = true from fx) Bool.false_ne_true
 | int a =>
   obtain ⟨t', rfl⟩ := ry
   cases x with
   | non => cases rx; exact SeqAt.EqAt.int_none a t'
   | bl b => cases rx; exact SeqAt.EqAt.int_bool a t' b
   | int b => obtain ⟨t, rfl⟩ := rx; exact SeqAt.EqAt.int_int a t' b t
   | str b => obtain ⟨t, rfl⟩ := rx; exact SeqAt.EqAt.int_str a t' b t
   | _ => exact absurd (show false = true from fx) Bool.false_ne_true
 | str a =>
   obtain ⟨t', rfl⟩ := ry
   cases x with
   | non => cases rx; exact SeqAt.EqAt.str_none a t'
   | bl b => cases rx; exact SeqAt.EqAt.str_bool a t' b
   | int b => obtain ⟨t, rfl⟩ := rx; exact SeqAt.EqAt.str_int a t' b t
   | str b => obtain ⟨t, rfl⟩ := rx; exact SeqAt.EqAt.str_str a t' b t
   | _ => exact absurd (show false = true from fx) Bool.false_ne_true
 | _ => exact absurd (show false = true from fy) Bool.false_ne_true
def eqU (x : V) (u : Value) : Bool := match u with
 | .none => eqV .non x
 | .bool b => eqV (.bl b) x
 | .int i _ => eqV (.int i) x
 | .str z _ => eqV (.str z) x
 | _ => false
theorem eqU_of {x y : V} {u : Value} (r : RelV y u) (f : flatV y = true) : eqU x u = eqV y x := by
 cases y with
 | non => cases r; rfl
 | bl b => cases r; rfl
 | int i => obtain ⟨t, rfl⟩ := r; rfl
 | str z => obtain ⟨t, rfl⟩ := r; rfl
 | _ => exact absurd (show false = true from f) Bool.false_ne_true
theorem any_eqU {x : V} : ∀ {xs : List V} {us : List Value}, Vals xs us -> xs.all flatV = true -> us.any (eqU x) = xs.any fun y => eqV y x
 | _, _, .nil, _ => rfl
 | y :: xs, u :: us, .cons r t, f => by
   rw [List.all_cons, Bool.and_eq_true] at f
   rw [List.any_cons, List.any_cons, eqU_of r f.1, any_eqU t f.2]
theorem mem_eqAt {A : Around} {s : Shared} {x : V} {v : Value} (rx : RelV x v) (fx : flatV x = true) : ∀ {xs : List V} {us : List Value}, Vals xs us -> xs.all flatV = true -> ∀ u ∈ us, SeqAt.EqAt A s u v (eqU x u)
 | _, _, .nil, _ => fun u hu => by cases hu
 | y :: xs, u :: us, .cons r t, f => fun u' hu => by
   rw [List.all_cons, Bool.and_eq_true] at f
   rcases List.mem_cons.mp hu with rfl | hu
   ·rw [eqU_of r f.1]; exact eqAt_V r rx f.1 fx
   ·exact mem_eqAt rx fx t f.2 u' hu
def inV (x : V) (xs : List V) : Bool := xs.any fun y => eqV y x
def rIn (K : PySem.W.Frag) (neg : Bool) : R2 := fun x y H Q => ∃ p xs, y = .ref p /\ (SqL K H p xs \/ SqT K H p xs) /\ flatV x = true /\ xs.all flatV = true /\ Q (.bl (if neg then !inV x xs else inV x xs)) H
theorem op_notIn_seq : OpR X (compareOp .NotIn) (rIn X.K true) := by
 intro pins s σ H x y v u Q I rx ry h
 obtain ⟨p, xs, rfl, hq, fx, fs, q⟩ := h
 cases ry
 rcases hq with hq | hq
 ·obtain ⟨its, r, pl, hz⟩ := I.list hq
  refine SeqAt.notIn_listAt (eqU x) pl.isList (fun w hw => mem_eqAt rx fx r fs w (by simpa using hw)) ⟨.bl _, H, I, rfl, ?_⟩
  rw [show its.toArray.any (eqU x) = its.any (eqU x) by simp, any_eqU r fs]
  exact q
 ·obtain ⟨its, r, pl, hz⟩ := I.tuple hq
  refine SeqAt.notIn_tupleAt (eqU x) pl (fun w hw => mem_eqAt rx fx r fs w (by simpa using hw)) ⟨.bl _, H, I, rfl, ?_⟩
  rw [show its.toArray.any (eqU x) = its.any (eqU x) by simp, any_eqU r fs]
  exact q
theorem call_len_seq : CallR X (.builtin "len") (fun xs H Q => ∃ p ys, xs = [.ref p] /\ (SqL X.K H p ys \/ SqT X.K H p ys) /\ Q (.int ys.length) H) := by
 intro pins s σ H xs us Q I r h
 obtain ⟨p, ys, rfl, hq, q⟩ := h
 obtain ⟨u, rfl, rx⟩ := vals1 r
 cases rx
 have hn := line63
 rcases hq with hq | hq
 ·obtain ⟨its, r', pl, hz⟩ := I.list hq
  have hlen := r'.length
  exact Calls.call_len_list pl.isList (by simp only [List.size_toArray] <;> omega) ⟨.int ys.length, H, I.tok _, ⟨s.toks + 1, by rw [List.size_toArray, hlen]⟩, q⟩
 ·obtain ⟨its, r', pl, hz⟩ := I.tuple hq
  have hlen := r'.length
  exact len_tuple pl (by simp only [List.size_toArray] <;> omega) ⟨.int ys.length, H, I.tok _, ⟨s.toks + 1, by rw [List.size_toArray, hlen]⟩, q⟩
theorem call_len_str : CallR X (.builtin "len") (fun xs H Q => ∃ z, xs = [.str z] /\ z.length ≤ sizeLine /\ Q (.int z.length) H) := by
 intro pins s σ H xs us Q I r h
 obtain ⟨z, rfl, hz, q⟩ := h
 obtain ⟨u, rfl, t, rfl⟩ := vals1 r
 have hn := line63
 exact len_str (by omega) ⟨.int z.length, H, I.tok _, ⟨_, rfl⟩, q⟩
theorem call_list_of : CallR X (.type "list") (fun xs H Q => ∃ p ys, xs = [.ref p] /\ (SqL X.K H p ys \/ SqT X.K H p ys) /\ ∀ l, H l = none -> Q (.ref l) (upd H l (.lst ys))) := by
 intro pins s σ H xs us Q I r h
 obtain ⟨p, ys, rfl, hq, q⟩ := h
 obtain ⟨u, rfl, rx⟩ := vals1 r
 cases rx
 have fin : ∀ (its : List Value), Vals ys its -> ys.length ≤ sizeLine -> ∀ (h' : Heap) (c' : Nat), (∀ b o', s.heap.get? b = some o' -> h'.get? b = some o') ->
   h'.get? s.heap.objs.size = some { cls := .type "list", dict := none, data := .seq its.toArray c', slots := #[] } -> EP X pins σ Q (.ref s.heap.objs.size) { s with heap := h' } := fun its r' hz h' c' kp e =>
  ⟨.ref s.heap.objs.size, _, I.laid (t' := s.toks) kp (Nat.le_refl _) (show ObjOk X.prog X.w _ h' _ (.lst ys) from ⟨hz, its, c', r', e⟩), rfl, q _ (I.hok.fresh (Nat.le_refl _))⟩
 rcases hq with hq | hq
 ·obtain ⟨its, r', pl, hz⟩ := I.list hq
  have hlen := r'.length
  obtain ⟨o, ho, hc, n, hd⟩ := pl.isList
  exact call_list_seq p (.inl rfl) ho hc hd (fun h' c' kp e => fin its r' hz h' c' kp e) (by simp only [List.size_toArray] <;> omega)
 ·obtain ⟨its, r', pl, hz⟩ := I.tuple hq
  have hlen := r'.length
  obtain ⟨o, ho, hc, n, hd⟩ := pl
  exact call_list_seq p (.inr rfl) ho hc hd (fun h' c' kp e => fin its r' hz h' c' kp e) (by simp only [List.size_toArray] <;> omega)
theorem call_tuple_of : CallR X (.type "tuple") (fun xs H Q => ∃ p ys, xs = [.ref p] /\ ((SqL X.K H p ys /\ ∀ l, H l = none -> Q (.ref l) (upd H l (.tup ys))) \/ (SqT X.K H p ys /\ Q (.ref p) H))) := by
 intro pins s σ H xs us Q I r h
 obtain ⟨p, ys, rfl, h⟩ := h
 obtain ⟨u, rfl, rx⟩ := vals1 r
 cases rx
 rcases h with ⟨hq, q⟩ | ⟨hq, q⟩
 ·obtain ⟨its, r', pl, hz⟩ := I.list hq
  have hlen := r'.length
  refine call_tuple_list pl.isList (fun h' kp => ?_) (by simp only [List.size_toArray] <;> omega)
  have I1 : Inv X pins σ H { s with heap := h' } := I.kept (t' := s.toks) kp
  have I2 : Inv X pins σ (upd H h'.objs.size (.tup ys)) { s with heap := h'.push { cls := .type "tuple", data := .seq its.toArray } } :=
   I1.laid (t' := s.toks) (fun b o e => Heap.get?_push_of_some _ e) (Nat.le_refl _) (show ObjOk X.prog X.w _ _ _ (.tup ys) from ⟨hz, its, r', IsTup.new _ _⟩)
  exact ⟨.ref h'.objs.size, _, I2, rfl, q _ (I1.hok.fresh (Nat.le_refl _))⟩
 ·obtain ⟨its, r', pl, hz⟩ := I.tuple hq
  exact call_tuple_same pl ⟨.ref p, H, I, rfl, q⟩
def tyV (K : PySem.W.Frag) (T : String) (x : V) (H : Hp) : Prop := match x with
 | .str _ => T = "str"
 | .int _ => T = "int"
 | .ref p => (T = "list" /\ ∃ xs, SqL K H p xs) \/ (T = "tuple" /\ ∃ o, K.lookup p = some o /\ o.cls = .type "tuple" /\ o.dict = none) \/
   (T = "dict" /\ ((∃ kvs, H p = some (.dK kvs)) \/ ∃ kvs, H p = some (.dT kvs))) \/ (T = "set" /\ ∃ S n, H p = some (.set S n))
 | _ => False
theorem tyV_is {pins : List (Addr × Obj)} {σ : St} {H : Hp} {s : Shared} {T : String} {x : V} {v : Value} (I : Inv X pins σ H s) (r : RelV x v) (ty : tyV X.K T x H) :
  s.TypeIs v T /\ ∀ a, v = .ref a -> ∃ ob, s.heap.get? a = some ob /\ ob.dict = none := by
 cases x with
 | str z =>
   obtain ⟨t, rfl⟩ := r
   cases (show T = "str" from ty)
   exact ⟨typeIs_str s z t, fun _ e => nomatch e⟩
 | int i =>
   obtain ⟨t, rfl⟩ := r
   cases (show T = "int" from ty)
   exact ⟨typeIs_int s i t, fun _ e => nomatch e⟩
 | ref p =>
   cases r
   rcases ty with ⟨rfl, xs, hq⟩ | ⟨rfl, o, hk, hc, hd⟩ | ⟨rfl, hk⟩ | ⟨rfl, S, n, hk⟩
   ·obtain ⟨its, _, pl, _⟩ := I.list hq
    refine ⟨pl.isList.typeIs, fun a e => ?_⟩
    cases e
    obtain ⟨o, n, e, c, hd, _⟩ := pl
    exact ⟨o, e, hd⟩
   ·refine ⟨⟨o, I.kIn p o hk, hc⟩, fun a e => ?_⟩
    cases e
    exact ⟨o, I.kIn _ o hk, hd⟩
   ·have z : ∃ o, s.heap.get? p = some o /\ o.ExactDict := by
     rcases hk with ⟨kvs, hk⟩ | ⟨kvs, hk⟩
     ·obtain ⟨_, _, _, _, o, _, _, e, ex, _⟩ := I.hok p _ hk
      exact ⟨o, e, ex⟩
     ·obtain ⟨_, _, _, _, o, _, _, e, ex, _⟩ := I.hok p _ hk
      exact ⟨o, e, ex⟩
    obtain ⟨o, e, ex⟩ := z
    refine ⟨⟨o, e, ex.1⟩, fun a e2 => ?_⟩
    cases e2
    exact ⟨o, e, ex.2.1⟩
   ·obtain ⟨o, _, _, _, e, ex, _⟩ := I.hok p _ hk
    refine ⟨⟨o, e, ex.1⟩, fun a e2 => ?_⟩
    cases e2
    exact ⟨o, e, ex.2.1⟩
 | _ => exact False.elim ty
def tBM0 (K : PySem.W.Frag) (T : String) (r : V -> List V -> Hp -> VK -> Prop) (to : TE) : TE := fun σ H Q => to σ H fun x H1 => tyV K T x H1 /\ r x [] H1 Q
def tBM (K : PySem.W.Frag) (T : String) (r : V -> List V -> Hp -> VK -> Prop) (to : TE) (t : TA) : TE := fun σ H Q => to σ H fun x H1 => tyV K T x H1 /\ t σ H1 fun xs H2 => r x xs H2 Q
variable {o e : Expr} {es : List Expr} {to : TE} {t : TA} {name : Str} {apos cpos : Pos} {T id : String} {r : V -> List V -> Hp -> VK -> Prop}
theorem pe_bm (pa : PlainAttrs T) (slot : Slot T name id) (hty : typeOf (.builtin id) = pure (.type "method_descriptor")) (hm : MtR X id r) (ho : PE X o to) (ha : PA X (e :: es) t)
  (hbase : attributeBase o name X.env (eval o X.env) = eval o X.env := by rfl)
  (hfew : ((backTo cpos (starEach (e :: es) X.env)).all (fun x => !x.1) && (backToKw cpos (keywordEach [] X.env)).all (fun x => x.1.isSome)
   && decide ((e :: es).length + ([] : List Keyword).length + (if ([] : List Keyword).isEmpty then 0 else 1) < 30)) = true := by rfl)
  (hline : (apos.endLine == cpos.line) = true := by rfl) (hs : starEach (e :: es) X.env = (false, eval e X.env) :: starEach es X.env := by rfl) (hplain : (backTo cpos (starEach es X.env)).any (·.1) = false := by rfl) :
  PE X (.Call (.Attribute o name apos) (e :: es) [] cpos) (tBM X.K T r to t) := by
 intro pins s σ H Q I h
 refine wpAny_Call_method_late hbase hfew hline rfl (thn (ho pins s σ H _ I h) fun v s1 ⟨x, H1, I1, r1, ty, q1⟩ => ?_)
 obtain ⟨h1, h2⟩ := tyV_is I1 r1 ty
 refine ⟨T, id, pa, slot, hty, h1, h2, ?_⟩
 have hA := ha cpos pins s1 σ H1 _ I1 q1
 rw [hs] at hA ⊢
 refine Calls.callWith_builtin (by show (false || (backTo cpos (starEach es X.env)).any (·.1)) = false; rw [hplain] <;> rfl) (Calls.evalArgs_plain ?_)
 exact thn hA fun us s2 ⟨vs, H2, I2, r2, q2⟩ => hm pins s2 σ H2 x vs v us Q I2 r1 r2 q2
end
end L2
namespace L2
open PySem PySem.Spec PyProof.Rows
def MtM (X : Cx) (id : String) (r : V -> List V -> Hp -> VK -> Prop) : Prop :=
 ∀ (pins : List (Addr × Obj)) (s : Shared) (σ : St) (H : Hp) (x : V) (xs : List V) (v : Value) (us : List Value) (Q : VK), Inv X pins σ H s -> RelV x v -> Vals xs us -> r x xs H Q ->
   wpAny (model X.prog X.w) X.A (call (.builtin id) (v :: us)) (EP X pins σ Q) X.xe s
theorem Vals.one : ∀ {x : V} {us : List Value}, Vals [x] us -> ∃ u, us = [u] /\ RelV x u
 | _, _, .cons r .nil => ⟨_, rfl, r⟩
theorem Vals.two : ∀ {x y : V} {us : List Value}, Vals [x, y] us -> ∃ u v, us = [u, v] /\ RelV x u /\ RelV y v
 | _, _, _, .cons r (.cons q .nil) => ⟨_, _, rfl, r, q⟩
section
variable {X : Cx} {pins : List (Addr × Obj)} {σ : St} {H : Hp} {s : Shared} {l b : Addr} {xs ys zs : List V}
theorem Inv.lset {its its' : List Value} {n : Nat} {f : Array Value -> Array Value} {t' : Nat} (I : Inv X pins σ H s) (hH : H l = some (.lst xs))
  (e : s.heap.get? l = some { cls := .type "list", data := .seq its.toArray n }) (hf : f its.toArray = its'.toArray) (hv : Vals ys its') (hz : ys.length ≤ sizeLine) :
  Inv X pins σ (upd H l (.lst ys)) { s with heap := s.heap.update l (Obj.mapSeq f), toks := t' } := by
 have q := PySem.IsL.update e f
 rw [hf] at q
 refine I.write (x := l) (e := l) (by rw [hH]; exact trivial) (.inl rfl) (fun b' u hb hu => (Heap.get?_update_other s.heap (Obj.mapSeq f) (Ne.symm hb)).trans hu) ⟨_, q⟩ ?_
 exact ⟨hz, its', _, hv, q⟩
theorem Inv.lstM (I : Inv X pins σ H s) (hH : H l = some (.lst xs)) : xs.length ≤ sizeLine /\ ∃ (its : List Value) (n : Nat), Vals xs its /\ xs.length = its.length /\ s.heap.get? l = some { cls := .type "list", data := .seq its.toArray n } := by
 obtain ⟨z, its, n, r, e⟩ := I.hok l _ hH
 exact ⟨z, its, n, r, r.length, e⟩
end
section
variable {X : Cx}
def rAppend : V -> List V -> Hp -> VK -> Prop := fun x vs H Q => ∃ l xs y, x = .ref l /\ vs = [y] /\ H l = some (.lst xs) /\ xs.length < sizeLine /\ Q .non (upd H l (.lst (xs ++ [y])))
theorem mt_append : MtM X "list.append" rAppend := by
 intro pins s σ H x vs v us Q I rx rv h
 obtain ⟨l, xs, y, rfl, rfl, hH, hz, q⟩ := h
 cases rx
 obtain ⟨u, rfl, ru⟩ := rv.one
 obtain ⟨z, its, n, r, hl, e⟩ := I.lstM hH
 refine call_meets F.slot_list_append ⟨_, e, rfl⟩ F.entry_list_append (F.args_list_append_2 _ _) (PySem.list_append l its.toArray n u (by rw [List.size_toArray]; omega)) ⟨e, ?_⟩
 refine ⟨.non, _, I.lset (its' := its ++ [u]) hH e (by simp) (r.append (.cons ru .nil)) ?_, rfl, q⟩
 rw [List.length_append, List.length_singleton]
 omega
def rExtend : V -> List V -> Hp -> VK -> Prop := fun x vs H Q => ∃ l b xs zs, x = .ref l /\ vs = [.ref b] /\ H l = some (.lst xs) /\ H b = some (.lst zs) /\ xs.length + zs.length ≤ sizeLine /\ Q .non (upd H l (.lst (xs ++ zs)))
def rPop : V -> List V -> Hp -> VK -> Prop := fun x vs H Q => ∃ l xs y, x = .ref l /\ vs = [] /\ H l = some (.lst xs) /\ xs[xs.length - 1]? = some y /\ Q y (upd H l (.lst xs.dropLast))
def rPopAt : V -> List V -> Hp -> VK -> Prop := fun x vs H Q => ∃ l xs i k y, x = .ref l /\ vs = [.int i] /\ H l = some (.lst xs) /\ -(2 ^ 63) ≤ i /\ i < 2 ^ 63 /\ seqIndex? i xs.length = some k /\ xs[k]? = some y /\ Q y (upd H l (.lst (xs.eraseIdx k)))
def rReverse : V -> List V -> Hp -> VK -> Prop := fun x vs H Q => ∃ l xs, x = .ref l /\ vs = [] /\ H l = some (.lst xs) /\ Q .non (upd H l (.lst xs.reverse))
def rClear : V -> List V -> Hp -> VK -> Prop := fun x vs H Q => ∃ l xs, x = .ref l /\ vs = [] /\ H l = some (.lst xs) /\ Q .non (upd H l (.lst []))
def rCat : R2 := fun x y H Q => ∃ l b xs zs, x = .ref l /\ y = .ref b /\ H l = some (.lst xs) /\ H b = some (.lst zs) /\ xs.length + zs.length ≤ sizeLine /\ ∀ p, H p = none -> Q (.ref p) (upd H p (.lst (xs ++ zs)))
def rRep : R2 := fun x y H Q => ∃ l k xs, x = .ref l /\ y = .int k /\ H l = some (.lst xs) /\ -(2 ^ 63) ≤ k /\ k < 2 ^ 63 /\ xs.length * k.toNat ≤ sizeLine /\
 ∀ p, H p = none -> Q (.ref p) (upd H p (.lst (List.replicate k.toNat xs).flatten))
end
section
variable {prog : Program} {w : World} {A : Around} {E : Value -> Shared -> Prop} {s : Shared}
end
section
variable {X : Cx}
end
end L2
namespace L2
open PySem PySem.Spec PyProof.Rows
section
variable {κ : Type} [DecidableEq κ]
def valV (kvs : List (κ × V)) (k : κ) : Option V := (kvs.find? fun kv => decide (kv.1 = k)).map (·.2)
def putK (kvs : List (κ × V)) (k : κ) (v : V) : List (κ × V) :=
 if (kvs.any fun kv => decide (kv.1 = k)) = true then kvs.map (fun kv => if kv.1 = k then (kv.1, v) else kv) else kvs ++ [(k, v)]
def dropK (kvs : List (κ × V)) (k : κ) : List (κ × V) := kvs.filter fun kv => decide (kv.1 ≠ k)
theorem valV_pos {p : κ × V} {r : List (κ × V)} {k : κ} (e : p.1 = k) : valV (p :: r) k = some p.2 := by simp [valV, List.find?_cons, e]
theorem valV_neg {p : κ × V} {r : List (κ × V)} {k : κ} (e : ¬ p.1 = k) : valV (p :: r) k = valV r k := by simp [valV, List.find?_cons, e]
theorem valV_any (k : κ) : ∀ kvs : List (κ × V), (kvs.any fun kv => decide (kv.1 = k)) = (valV kvs k).isSome
 | [] => rfl
 | p :: r => by
   rw [List.any_cons]
   by_cases e : p.1 = k
   ·simp only [valV_pos e, decide_eq_true e, Bool.true_or, Option.isSome_some]
   ·rw [valV_neg e, decide_eq_false e, Bool.false_or]; exact valV_any k r
theorem length_putK (kvs : List (κ × V)) (k : κ) (v : V) : (putK kvs k v).length ≤ kvs.length + 1 := by
 unfold putK
 split
 ·rw [List.length_map]; omega
 ·rw [List.length_append, List.length_cons, List.length_nil]; omega
theorem RelO.isSome_eq {o : Option V} {u : Option Value} (r : RelO o u) : o.isSome = u.isSome := by
 cases o with
 | none => cases u with
   | none => rfl
   | some _ => exact (show False from r).elim
 | some _ => cases u with
   | none => exact (show False from r).elim
   | some _ => rfl
theorem RelO.getD {o : Option V} {u : Option Value} {d : V} {d' : Value} (r : RelO o u) (rd : RelV d d') : RelV (o.getD d) (u.getD d') := by
 cases o with
 | none => cases u with
   | none => exact rd
   | some _ => exact (show False from r).elim
 | some _ => cases u with
   | none => exact (show False from r).elim
   | some _ => exact r
theorem KV.val {kvs : List (κ × V)} {vs : List (κ × Value)} (r : KV kvs vs) (k : κ) : RelO (valV kvs k) (valueAt vs k) := by
 unfold KV at r
 induction r with
 | nil => exact True.intro
 | @cons p q ps qs h t ih =>
   obtain ⟨h1, h2⟩ := h
   by_cases e : p.1 = k
   ·have e' : q.1 = k := h1.symm.trans e
    have b : valueAt (q :: qs) k = some q.2 := by simp [valueAt, List.find?_cons, e']
    rw [valV_pos e, b]; exact h2
   ·have e' : ¬ q.1 = k := fun z => e (h1.trans z)
    have b : valueAt (q :: qs) k = valueAt qs k := by simp [valueAt, List.find?_cons, e']
    rw [valV_neg e, b]; exact ih
theorem KV.any {kvs : List (κ × V)} {vs : List (κ × Value)} (r : KV kvs vs) (k : κ) : (kvs.any fun kv => decide (kv.1 = k)) = vs.any fun kv => decide (kv.1 = k) := by
 unfold KV at r
 induction r with
 | nil => rfl
 | cons h t ih => rw [List.any_cons, List.any_cons, ih, h.1]
theorem KV.repl {kvs : List (κ × V)} {vs : List (κ × Value)} (r : KV kvs vs) (k : κ) {y : V} {u : Value} (ry : RelV y u) :
  KV (kvs.map fun kv => if kv.1 = k then (kv.1, y) else kv) (vs.map fun kv => if kv.1 = k then (kv.1, u) else kv) := by
 unfold KV at r ⊢
 induction r with
 | nil => exact .nil
 | @cons p q ps qs h t ih =>
   rw [List.map_cons, List.map_cons]
   refine .cons ?_ ih
   obtain ⟨h1, h2⟩ := h
   by_cases e : p.1 = k
   ·rw [if_pos e, if_pos (h1.symm.trans e)]; exact ⟨h1, ry⟩
   ·rw [if_neg e, if_neg (fun z => e (h1.trans z))]; exact ⟨h1, h2⟩
theorem KV.put {kvs : List (κ × V)} {vs : List (κ × Value)} (r : KV kvs vs) (k : κ) {y : V} {u : Value} (ry : RelV y u) : KV (putK kvs k y) (stored vs k u) := by
 unfold putK stored
 rw [r.any k]
 by_cases e : (vs.any fun kv => decide (kv.1 = k)) = true
 ·rw [if_pos e, if_pos e]; exact r.repl k ry
 ·rw [if_neg e, if_neg e]; exact Paired.snoc r ⟨rfl, ry⟩
theorem KV.drop {kvs : List (κ × V)} {vs : List (κ × Value)} (r : KV kvs vs) (k : κ) : KV (dropK kvs k) (without vs k) := by
 unfold KV at r ⊢
 unfold dropK without
 induction r with
 | nil => exact .nil
 | @cons p q ps qs h t ih =>
   obtain ⟨h1, h2⟩ := h
   rw [List.filter_cons, List.filter_cons]
   by_cases e : p.1 = k
   ·have a : ¬ decide (p.1 ≠ k) = true := by simp [e]
    have b : ¬ decide (q.1 ≠ k) = true := by simp [h1.symm.trans e]
    rw [if_neg a, if_neg b]; exact ih
   ·have e' : ¬ q.1 = k := fun z => e (h1.trans z)
    have a : decide (p.1 ≠ k) = true := by simp [e]
    have b : decide (q.1 ≠ k) = true := by simp [e']
    rw [if_pos a, if_pos b]; exact .cons ⟨h1, h2⟩ ih
theorem KV.keys {kvs : List (κ × V)} {vs : List (κ × Value)} (r : KV kvs vs) : kvs.map (·.1) = vs.map (·.1) := by
 unfold KV at r
 induction r with
 | nil => rfl
 | cons h t ih => rw [List.map_cons, List.map_cons, ih, h.1]
theorem KV.length {kvs : List (κ × V)} {vs : List (κ × Value)} (r : KV kvs vs) : kvs.length = vs.length := Paired.length r
theorem dropK_le (kvs : List (κ × V)) (k : κ) : (dropK kvs k).length ≤ kvs.length := List.length_filter_le _ _
end
theorem kV_is {P : Program} {w : World} {k : Key} {u : Value} (r : RelV (kV k) u) : (mixKind P w).is k u = true := by
 cases k with
 | inl i => obtain ⟨t, e⟩ := (show ∃ t, u = Value.int i t from r); subst e; exact mixKind_int P w i t
 | inr x => obtain ⟨t, e⟩ := (show ∃ t, u = Value.str x t from r); subst e; exact mixKind_str P w x t
theorem items_are {P : Program} {w : World} : ∀ {ks : List Key} {us : List Value}, Vals (ks.map kV) us -> ItemsAre (mixKind P w) ks us
 | [], _, r => by rw [List.map_nil] at r; cases r; exact .nil
 | k :: ks, _, r => by
   rw [List.map_cons] at r
   cases r with
   | cons h t => exact .cons (kV_is h) (items_are t)
abbrev KT (H : Hp) : List (List Key × V) -> List (List Key × Addr × Value) -> Prop := Paired fun p q => p.1 = q.1 /\ H q.2.1 = some (.tup (p.1.map kV)) /\ RelV p.2 q.2.2
theorem KT.val {H : Hp} {kvs : List (List Key × V)} {xs : List (List Key × Addr × Value)} (r : KT H kvs xs) (k : List Key) : RelO (valV kvs k) ((atKey xs k).map (·.2)) := by
 induction r with
 | nil => exact True.intro
 | @cons p q ps qs h t ih =>
   obtain ⟨h1, _, h2⟩ := h
   by_cases e : p.1 = k
   ·have e' : q.1 = k := h1.symm.trans e
    have b : atKey (q :: qs) k = some q.2 := by simp [atKey, List.find?_cons, e']
    rw [valV_pos e, b]; exact h2
   ·have e' : ¬ q.1 = k := fun z => e (h1.trans z)
    have b : atKey (q :: qs) k = atKey qs k := by simp [atKey, List.find?_cons, e']
    rw [valV_neg e, b]; exact ih
theorem KT.repl {H : Hp} {kvs : List (List Key × V)} {xs : List (List Key × Addr × Value)} (r : KT H kvs xs) (k : List Key) {y : V} {u : Value} (ry : RelV y u) :
  KT H (kvs.map fun kv => if kv.1 = k then (kv.1, y) else kv) (xs.map (putAt k u)) := by
 induction r with
 | nil => exact .nil
 | @cons p q ps qs h t ih =>
   rw [List.map_cons, List.map_cons]
   refine .cons ?_ ih
   obtain ⟨h1, h2, h3⟩ := h
   unfold putAt
   by_cases e : p.1 = k
   ·rw [if_pos e, if_pos (h1.symm.trans e)]; exact ⟨h1, h2, ry⟩
   ·rw [if_neg e, if_neg (fun z => e (h1.trans z))]; exact ⟨h1, h2, h3⟩
theorem KT.put {H : Hp} {kvs : List (List Key × V)} {xs : List (List Key × Addr × Value)} (r : KT H kvs xs) (k : List Key) {b : Addr} {y : V} {u : Value} (hb : H b = some (.tup (k.map kV))) (ry : RelV y u) :
  KT H (putK kvs k y) (storedH xs k b u) := by
 have e : (kvs.any fun kv => decide (kv.1 = k)) = (atKey xs k).isSome := by
  rw [valV_any, (r.val k).isSome_eq, Option.isSome_map]
 unfold putK storedH
 rw [e]
 by_cases q : (atKey xs k).isSome = true
 ·rw [if_pos q, if_pos q]; exact r.repl k ry
 ·rw [if_neg q, if_neg q]; exact Paired.snoc r ⟨rfl, hb, ry⟩
theorem KT.keeps {H H' : Hp} {kvs : List (List Key × V)} {xs : List (List Key × Addr × Value)} (r : KT H kvs xs) (ht : ∀ b ys, H b = some (.tup ys) -> H' b = some (.tup ys)) : KT H' kvs xs :=
 Paired.mapP r fun _ _ z => ⟨z.1, ht _ _ z.2.1, z.2.2⟩
section
variable {P : Program} {w : World} {H : Hp} {h : Heap} {a : Addr}
theorem rd_of {u : HO} (ok : HOk P w H h) (e : Rd H a u) : ObjOk P w H h a u := e.ok ok
theorem dk_rd {kvs : List (Key × V)} (ok : HOk P w H h) (e : Rd H a (.dK kvs)) : kvs.length ≤ sizeLine /\ (a == sysModules) = false /\ ∃ vs, KV kvs vs /\ h.DictOf (mixKind P w) a vs :=
 show ObjOk P w H h a (.dK kvs) from rd_of ok e
theorem dk_of {kvs : List (Key × V)} (ok : HOk P w H h) (e : H a = some (.dK kvs)) : kvs.length ≤ sizeLine /\ (a == sysModules) = false /\ ∃ vs, KV kvs vs /\ h.DictOf (mixKind P w) a vs := dk_rd ok (.inl e)
theorem key_of {ks : List Key} (ok : HOk P w H h) (e : H a = some (.tup (ks.map kV))) : (tupleKind (mixKind P w)).is h ks a := by
 obtain ⟨_, its, r, o, h1, h2, n, h3⟩ := (show ObjOk P w H h a (.tup (ks.map kV)) from ok a _ e)
 exact ⟨o, its.toArray, n, h1, h2, h3, by simpa using items_are r⟩
theorem dt_rd {kvs : List (List Key × V)} (ok : HOk P w H h) (e : Rd H a (.dT kvs)) : kvs.length ≤ sizeLine /\ (a == sysModules) = false /\
  ∃ xs, KT H kvs xs /\ h.DictOfH (tupleKind (mixKind P w)) a xs := by
 obtain ⟨z, y, xs, r, o, es, ep, h1, h2, h3, h4, h5⟩ := (show ObjOk P w H h a (.dT kvs) from rd_of ok e)
 refine ⟨z, y, xs, r, o, es, ep, h1, h2, h3, h4, fun x hx => ?_, h5⟩
 have all : ∀ {l : List (List Key × V)} {m : List (List Key × Addr × Value)}, KT H l m -> ∀ x ∈ m, (tupleKind (mixKind P w)).is h x.1 x.2.1 := by
  intro l m q
  induction q with
  | nil => intro x hx; exact nomatch hx
  | @cons p q ps qs hq t ih =>
    intro x hx
    rcases List.mem_cons.mp hx with e | hx
    ·subst e
     exact key_of ok (by rw [<- hq.1]; exact hq.2.1)
    ·exact ih x hx
 exact all r x hx
theorem dt_of {kvs : List (List Key × V)} (ok : HOk P w H h) (e : H a = some (.dT kvs)) : kvs.length ≤ sizeLine /\ (a == sysModules) = false /\
  ∃ xs, KT H kvs xs /\ h.DictOfH (tupleKind (mixKind P w)) a xs := dt_rd ok (.inl e)
end
def DGet (H : Hp) (a : Addr) (y : V) (r : Option V) : Prop :=
 (∃ kvs k, Rd H a (.dK kvs) /\ y = kV k /\ r = valV kvs k) \/ ∃ kvs k b, Rd H a (.dT kvs) /\ y = .ref b /\ H b = some (.tup (k.map kV)) /\ r = valV kvs k
def DPut (H : Hp) (a : Addr) (y v : V) (H' : Hp) : Prop :=
 (∃ kvs k, H a = some (.dK kvs) /\ y = kV k /\ kvs.length < sizeLine /\ H' = upd H a (.dK (putK kvs k v))) \/
 ∃ kvs k b, H a = some (.dT kvs) /\ y = .ref b /\ H b = some (.tup (k.map kV)) /\ kvs.length < sizeLine /\ H' = upd H a (.dT (putK kvs k v))
theorem DGet.k {H : Hp} {a : Addr} {kvs : List (Key × V)} {k : Key} (e : H a = some (.dK kvs)) : DGet H a (kV k) (valV kvs k) := .inl ⟨kvs, k, .inl e, rfl, rfl⟩
theorem DPut.k {H : Hp} {a : Addr} {kvs : List (Key × V)} {k : Key} {v : V} (e : H a = some (.dK kvs)) (hl : kvs.length < sizeLine) : DPut H a (kV k) v (upd H a (.dK (putK kvs k v))) := .inl ⟨kvs, k, e, rfl, hl, rfl⟩
section
variable {X : Cx} {pins : List (Addr × Obj)} {σ : St} {H : Hp} {s : Shared} {a : Addr} {y v : V} {u r : Value} {o : Option V} {A : Around} {E : Value -> Shared -> Prop}
theorem Inv.big (I : Inv X pins σ H s) : sysModules < s.heap.objs.size := by
 have h : mainGlobals < s.heap.objs.size := (I.mod.glob.keeps I.bk).lt
 exact Nat.lt_trans (by decide) h
theorem d_getItem {Q : Value -> Shared -> Prop} (hu : A.units + 1 < cLine) (I : Inv X pins σ H s) (g : DGet H a y (some v)) (ry : RelV y u) (h : ∀ w' s', Inv X pins σ H s' -> RelV v w' -> Q w' s') :
  wpAny (model X.prog X.w) A (getItem (.ref a) u) Q E s := by
 rcases g with ⟨kvs, k, e, ey, l⟩ | ⟨kvs, k, b, e, ey, eb, l⟩
 ·subst ey
  obtain ⟨z, hd, vs, rel, dd⟩ := dk_rd I.hok e
  obtain ⟨w', hw, rw'⟩ := RelO.some_of (v := v) (o := valueAt vs k) (by rw [l]; exact rel.val k)
  exact wpAny_getItem_of (kV_is ry) dd.mapOf hw (h w' _ (I.tok _) rw')
 ·subst ey
  cases (show u = Value.ref b from ry)
  obtain ⟨z, hd, xs, rel, dd⟩ := dt_rd I.hok e
  obtain ⟨w', hw, rw'⟩ := RelO.some_of (v := v) (o := (atKey xs k).map (·.2)) (by rw [l]; exact rel.val k)
  obtain ⟨p, hp, hp2⟩ := Option.map_eq_some_iff.mp hw
  refine wpAny_getItem_heap (tupleKind_room_in1 hu) (key_of I.hok eb) dd hp ?_
  rw [hp2]
  exact h w' _ (I.tok _) rw'
theorem d_in {Q : Value -> Shared -> Prop} (hu : A.units + 1 < cLine) (I : Inv X pins σ H s) (g : DGet H a y o) (ry : RelV y u) (h : ∀ s', Inv X pins σ H s' -> Q (.bool o.isSome) s') :
  wpAny (model X.prog X.w) A (compareOp .In u (.ref a)) Q E s := by
 rcases g with ⟨kvs, k, e, ey, l⟩ | ⟨kvs, k, b, e, ey, eb, l⟩
 ·subst ey
  obtain ⟨z, hd, vs, rel, dd⟩ := dk_rd I.hok e
  refine wpAny_in_of (kV_is ry) hd dd.mapOf ?_
  rw [<- (rel.val k).isSome_eq, <- l]
  exact h _ (I.tok _)
 ·subst ey
  cases (show u = Value.ref b from ry)
  obtain ⟨z, hd, xs, rel, dd⟩ := dt_rd I.hok e
  refine wpAny_in_heap (tupleKind_room_in1 hu) (key_of I.hok eb) hd dd ?_
  have q := (rel.val k).isSome_eq
  rw [Option.isSome_map] at q
  rw [<- q, <- l]
  exact h _ (I.tok _)
theorem d_notIn {Q : Value -> Shared -> Prop} (hu : A.units + 1 < cLine) (I : Inv X pins σ H s) (g : DGet H a y o) (ry : RelV y u) (h : ∀ s', Inv X pins σ H s' -> Q (.bool (!o.isSome)) s') :
  wpAny (model X.prog X.w) A (compareOp .NotIn u (.ref a)) Q E s := by
 rcases g with ⟨kvs, k, e, ey, l⟩ | ⟨kvs, k, b, e, ey, eb, l⟩
 ·subst ey
  obtain ⟨z, hd, vs, rel, dd⟩ := dk_rd I.hok e
  refine wpAny_notIn_of (kV_is ry) hd dd.mapOf ?_
  rw [<- (rel.val k).isSome_eq, <- l]
  exact h _ (I.tok _)
 ·subst ey
  cases (show u = Value.ref b from ry)
  obtain ⟨z, hd, xs, rel, dd⟩ := dt_rd I.hok e
  refine wpAny_notIn_heap (tupleKind_room_in1 hu) (key_of I.hok eb) hd dd ?_
  have q := (rel.val k).isSome_eq
  rw [Option.isSome_map] at q
  rw [<- q, <- l]
  exact h _ (I.tok _)
theorem d_write {h' : Heap} {t' : Nat} {ob : HO} (I : Inv X pins σ H s) (mu : Mut (H a)) (hs : Heap.SameBut a s.heap h') (he : ∃ q, h'.get? a = some q) (new : ObjOk X.prog X.w (upd H a ob) h' a ob) :
  Inv X pins σ (upd H a ob) { s with heap := h', toks := t' } :=
 I.write (x := a) (e := a) mu (.inl rfl) (fun b q hb z => (hs.2 b hb).trans z) he new
theorem dk_new {P : Program} {w : World} {H' : Hp} {h' : Heap} {kvs : List (Key × V)} {vs : List (Key × Value)} (z : kvs.length ≤ sizeLine) (hd : (a == sysModules) = false) (rel : KV kvs vs) (dd : h'.DictOf (mixKind P w) a vs) :
  ObjOk P w H' h' a (.dK kvs) := ⟨z, hd, vs, rel, dd⟩
theorem d_setItem {H' : Hp} {Q : Unit -> Shared -> Prop} (hu : A.units + 1 < cLine) (I : Inv X pins σ H s) (g : DPut H a y v H') (ry : RelV y u) (rv : RelV v r) (h : ∀ s', Inv X pins σ H' s' -> Q () s') :
  wpAny (model X.prog X.w) A (setItem (.ref a) u r) Q E s := by
 rcases g with ⟨kvs, k, e, ey, l, eH⟩ | ⟨kvs, k, b, e, ey, eb, l, eH⟩
 ·subst ey eH
  obtain ⟨z, hd, vs, rel, dd⟩ := dk_of I.hok e
  have hz : vs.length ≤ sizeLine := by rw [<- rel.length]; exact z
  have hl : (putK kvs k v).length ≤ sizeLine := by have := length_putK kvs k v; omega
  refine wpAny_setItem_pairs (hsz := hz) (kV_is ry) dd fun h' dd' hs => h _ ?_
  have he : ∃ q, h'.get? a = some q := let ⟨q, _, _, hq, _⟩ := dd'; ⟨q, hq⟩
  exact d_write I (by rw [e]; exact True.intro) hs he (dk_new hl hd (rel.put k rv) dd')
 ·subst ey eH
  cases (show u = Value.ref b from ry)
  obtain ⟨z, hd, xs, rel, dd⟩ := dt_of I.hok e
  have hz : xs.length ≤ sizeLine := by rw [<- Paired.length rel]; exact z
  have hl : (putK kvs k v).length ≤ sizeLine := by have := length_putK kvs k v; omega
  refine wpAny_setItem_heap (hsz := hz) (tupleKind_room_in1 hu) (key_of I.hok eb) dd fun h' dd' hs => h _ ?_
  obtain ⟨q, es, ep, hq, h2, h3, h4, _, h5⟩ := dd'
  refine d_write I (by rw [e]; exact True.intro) hs ⟨q, hq⟩ ⟨hl, hd, _, (rel.put k eb rv).keeps fun c ys ec => ?_, q, es, ep, hq, h2, h3, h4, h5⟩
  rw [upd_ne (ne_of ec e (fun z => nomatch z))]
  exact ec
end
section
variable {X : Cx} {pins : List (Addr × Obj)} {σ : St} {H : Hp} {s : Shared} {a : Addr} {kvs : List (Key × V)} {k : Key} {u : Value} {A : Around} {E : Value -> Shared -> Prop}
theorem d_pop {v : V} {more : List Value} {Q : Value -> Shared -> Prop} (I : Inv X pins σ H s) (e : H a = some (.dK kvs)) (ry : RelV (kV k) u) (l : valV kvs k = some v) (hm : more = [] \/ ∃ x, more = [x])
  (h : ∀ w' s', Inv X pins σ (upd H a (.dK (dropK kvs k))) s' -> RelV v w' -> Q w' s') : wpAny (model X.prog X.w) A (call (.builtin "dict.pop") (.ref a :: u :: more)) Q E s := by
 obtain ⟨z, hd, vs, rel, dd⟩ := dk_of I.hok e
 obtain ⟨w', hw, rw'⟩ := RelO.some_of (v := v) (o := valueAt vs k) (by rw [<- l]; exact rel.val k)
 have hp : (keyPart u).isSome = true := by
  cases k with
  | inl i => obtain ⟨t, q⟩ := (show ∃ t, u = Value.int i t from ry); subst q; rfl
  | inr x => obtain ⟨t, q⟩ := (show ∃ t, u = Value.str x t from ry); subst q; rfl
 have ha : argsOk "dict.pop" ⟨.ref a :: u :: more, []⟩ := by
  rcases hm with q | ⟨x, q⟩
  ·subst q; exact PySem.F.args_dict_pop_2 _ _
  ·subst q; exact PySem.F.args_dict_pop_3 _ _ _
 refine call_meetsIn PySem.F.slot_dict_pop dd.typeIs PySem.F.entry_dict_pop ha (meets_dict_pop_there (mixKind X.prog X.w) a (kV_is ry) more hm hp)
  ⟨vs, w', dd, by rw [<- rel.length]; exact z, hw, fun h' dd' hs => h w' _ ?_ rw'⟩
 have he : ∃ q, h'.get? a = some q := let ⟨q, _, _, hq, _⟩ := dd'; ⟨q, hq⟩
 exact d_write I (by rw [e]; exact True.intro) hs he (dk_new (Nat.le_trans (dropK_le kvs k) z) hd (rel.drop k) dd')
end
def NoSl (i : Expr) : Prop := ∀ ov iv, subscripted i false ov iv = operate [ov, iv] (getItem ov iv)
theorem subD_of {prog : Program} {w : World} {A : Around} {E : Value -> Shared -> Prop} {s : Shared} {env : Env} {value slice : Expr} {pos : Pos} {T id : String} {Q : Value -> Shared -> Prop}
  (hl : typeLookup (.type T) "__getitem__" = pure (some (.builtin id))) (hs : NoSl slice)
  (h : wpAny (model prog w) A (eval value env) (fun o s₁ => wpAny (model prog w) A (eval slice env) (fun i s₂ => s₂.TypeIs o T /\ wpAny (model prog w) A (getItem o i) Q E s₂) E s₁) E s) :
  wpAny (model prog w) A (eval (.Subscript value slice pos) env) Q E s := by
 refine Subscript_ (wpAny_mono h (fun o s₁ h₁ => wpAny_mono h₁ (fun i s₂ h₂ => ?_) fun _ _ x => x) fun _ _ x => x)
 obtain ⟨hT, h₂⟩ := h₂
 unfold subscriptTail
 refine wpAny_bind ?_
 rw [getitemInPython_of_ne hT.not_modules]
 refine wpAny_bind (wpAny_specialOf hT hl ?_)
 have fin : wpAny (model prog w) A (subscripted slice false o i) (fun r s₃ => wpAny (model prog w) A (letTemporaryGo value o r >>= fun _ => pure r) Q E s₃) E s₂ := by
  rw [hs o i]
  exact wpAny_operating (wpAny_mono h₂ (fun r s₃ h₃ => wpAny_bind (wpAny_letTemporaryGo (wpAny_pure h₃))) fun _ _ x => x)
 first
  | exact wpAny_pure (wpAny_bind fin)
  | exact wpAny_bind (wpAny_pure (wpAny_bind fin))
  | exact wpAny_bind fin
theorem dict_typeIs {X : Cx} {pins : List (Addr × Obj)} {σ : St} {H : Hp} {s : Shared} {a : Addr} {y : V} {o : Option V} (I : Inv X pins σ H s) (g : DGet H a y o) : s.TypeIs (.ref a) "dict" := by
 rcases g with ⟨kvs, k, e, _, _⟩ | ⟨kvs, k, b, e, _, _, _⟩
 ·obtain ⟨_, _, vs, _, dd⟩ := dk_rd I.hok e
  exact dd.typeIs
 ·obtain ⟨_, _, xs, _, dd⟩ := dt_rd I.hok e
  exact dd.typeIs
def tDGet (td ty : TE) : TE := fun σ H Q => td σ H fun x H1 => ty σ H1 fun y H2 => ∃ a v, x = .ref a /\ DGet H2 a y (some v) /\ Q v H2
def tDIn (ty td : TE) : TE := fun σ H Q => ty σ H fun y H1 => td σ H1 fun x H2 => ∃ a o, x = .ref a /\ DGet H2 a y o /\ Q (.bl o.isSome) H2
def tDNotIn (ty td : TE) : TE := fun σ H Q => ty σ H fun y H1 => td σ H1 fun x H2 => ∃ a o, x = .ref a /\ DGet H2 a y o /\ Q (.bl (!o.isSome)) H2
def sDPut (td ty tv : TE) : TS := fun D σ H => tv σ H fun v H1 => td σ H1 fun x H2 => ty σ H2 fun y H3 => ∃ a H4, x = .ref a /\ DPut H3 a y v H4 /\ D.nx σ H4
def sDAug (td ty tv : TE) (rd : V -> V -> Hp -> VK -> Prop) : TS := fun D σ H => td σ H fun x H1 => ty σ H1 fun y H2 => ∃ a v, x = .ref a /\ DGet H2 a y (some v) /\
 tv σ H2 fun y2 H3 => rd v y2 H3 fun z H4 => ∃ H5, DPut H4 a y z H5 /\ D.nx σ H5
def sDDel (td ty : TE) : TS := fun D σ H => td σ H fun x H1 => ty σ H1 fun y H2 => ∃ a kvs k, x = .ref a /\ H2 a = some (.dK kvs) /\ y = kV k /\ (valV kvs k).isSome = true /\ D.nx σ (upd H2 a (.dK (dropK kvs k)))
section
variable {X : Cx} {o i e value : Expr} {pos pos' tpos : Pos} {td ty tv : TE}
theorem pe_dget (hu : X.A.units + 1 < cLine) (ho : PE X o td) (hi : PE X i ty) (hs : NoSl i) : PE X (.Subscript o i pos) (tDGet td ty) := by
 intro pins s σ H Q I h
 refine subD_of PySem.F.slot_dict_getitem.lookup hs (thn (ho pins s σ H _ I h) fun u s1 ⟨x, H1, I1, rx, q1⟩ => thn (hi pins s1 σ H1 _ I1 q1) fun iv s2 ⟨y, H2, I2, ry, a, v, ex, g, q2⟩ => ?_)
 subst ex
 obtain rfl : u = Value.ref a := rx
 exact ⟨dict_typeIs I2 g, d_getItem hu I2 g ry fun w' s3 I3 rw' => ⟨v, H2, I3, rw', q2⟩⟩
theorem ps_dput (hu : X.A.units + 1 < cLine) (ho : PE X o td) (hi : PE X i ty) (hv : PE X value tv) (hs : swapsWith value (some (.Subscript o i pos')) pos.line X.env = pure false) :
  PS X (.Assign [.Subscript o i pos'] value pos) (sDPut td ty tv) := by
 intro pins s σ H D I h
 refine wpAny_Assign_Subscript (thn (hv pins s σ H _ I h) fun r s1 ⟨v, H1, I1, rv, q1⟩ => thn (ho pins s1 σ H1 _ I1 q1) fun u s2 ⟨x, H2, I2, rx, q2⟩ => thn (hi pins s2 σ H2 _ I2 q2) fun iv s3 ⟨y, H3, I3, ry, a, H4, ex, g, q3⟩ => ?_) hs
 subst ex
 obtain rfl : u = Value.ref a := rx
 exact d_setItem hu I3 g ry rv fun s4 I4 => ⟨σ, H4, I4, q3⟩
end
theorem dk_empty {P : Program} {w : World} {H : Hp} (h : Heap) (hb : sysModules < h.objs.size) : ObjOk P w H (h.push { cls := .type "dict", data := .dict #[] }) h.objs.size (.dK []) :=
 ⟨Nat.zero_le _, beq_eq_false_iff_ne.mpr (Ne.symm (Nat.ne_of_lt hb)), [], .nil, Heap.DictOf.new h⟩
def tDNewK : TE := fun _ H Q => ∀ p, H p = none -> Q (.ref p) (upd H p (.dK []))
def tDNewT : TE := fun _ H Q => ∀ p, H p = none -> Q (.ref p) (upd H p (.dT []))
section
variable {X : Cx} {pos : Pos}
theorem pe_dnewK : PE X (.Dict [] [] pos) tDNewK := fun pins s σ H Q I h =>
 wpAny_Dict_empty ⟨.ref s.heap.objs.size, _, I.laid (a := s.heap.objs.size) (o := .dK []) (t' := s.toks) (fun _ _ q => Heap.get?_push_of_some _ q) (Nat.le_refl _) (dk_empty s.heap I.big), rfl, h _ (I.hok.fresh (Nat.le_refl _))⟩
end
def tPairs : List (TE × TE) -> St -> Hp -> (List (V × V) -> Hp -> Prop) -> Prop
 | [], _, H, Q => Q [] H
 | (tk, tv) :: r, σ, H, Q => tk σ H fun x H1 => tv σ H1 fun y H2 => tPairs r σ H2 fun ps H3 => Q ((x, y) :: ps) H3
abbrev VV : List (V × V) -> List (Value × Value) -> Prop := Paired fun p q => RelV p.1 q.1 /\ RelV p.2 q.2
def PPs (X : Cx) (pos : Pos) (keys : List (Option Expr)) (values : List Expr) (trs : List (TE × TE)) : Prop :=
 ∀ (pins : List (Addr × Obj)) (s : Shared) (σ : St) (H : Hp) (Q : List (V × V) -> Hp -> Prop), Inv X pins σ H s -> tPairs trs σ H Q ->
   wpAny (model X.prog X.w) X.A (evalPairs (pairTrees keys values X.env pos)) (fun vs s' => ∃ ps H', Inv X pins σ H' s' /\ VV ps vs /\ Q ps H') X.xe s
def mergeK (kvs more : List (Key × V)) : List (Key × V) := more.foldl (fun acc kv => putK acc kv.1 kv.2) kvs
def tDisp (trs : List (TE × TE)) : TE := fun σ H Q => ∀ p, H p = none -> tPairs trs σ (upd H p (.dK [])) fun ps H2 => H2 p = some (.dK []) /\ ∃ kvs : List (Key × V), ps = kvs.map (fun kv => (kV kv.1, kv.2)) /\ kvs.length ≤ 15 /\ Q (.ref p) (upd H2 p (.dK (mergeK [] kvs)))
structure M1 (X : Cx) (o : Expr) (m : Str) (apos : Pos) (e : Expr) (cpos : Pos) : Prop where
 base : attributeBase o m X.env (eval o X.env) = eval o X.env
 few : ((backTo cpos (starEach [e] X.env)).all (fun x => !x.1) && (backToKw cpos (keywordEach [] X.env)).all (fun x => x.1.isSome)
  && decide (([e] : List Expr).length + ([] : List Keyword).length + (if ([] : List Keyword).isEmpty then 0 else 1) < 30)) = true
 line : (apos.endLine == cpos.line) = true
 trees : backTo cpos (starEach [e] X.env) = [(false, eval e X.env)]
structure M2 (X : Cx) (o : Expr) (m : Str) (apos : Pos) (e f : Expr) (cpos : Pos) : Prop where
 base : attributeBase o m X.env (eval o X.env) = eval o X.env
 few : ((backTo cpos (starEach [e, f] X.env)).all (fun x => !x.1) && (backToKw cpos (keywordEach [] X.env)).all (fun x => x.1.isSome)
  && decide (([e, f] : List Expr).length + ([] : List Keyword).length + (if ([] : List Keyword).isEmpty then 0 else 1) < 30)) = true
 line : (apos.endLine == cpos.line) = true
 trees : backTo cpos (starEach [e, f] X.env) = [(false, eval e X.env), (false, eval f X.env)]
def IsD (H : Hp) (a : Addr) : Prop := (∃ kvs, Rd H a (.dK kvs)) \/ ∃ kvs, Rd H a (.dT kvs)
theorem isD_at {X : Cx} {pins : List (Addr × Obj)} {σ : St} {H : Hp} {s : Shared} {a : Addr} (I : Inv X pins σ H s) (d : IsD H a) :
  s.TypeIs (.ref a) "dict" /\ (∀ b, Value.ref a = .ref b -> ∃ ob, s.heap.get? b = some ob /\ ob.dict = none) /\ (a == sysModules) = false := by
 rcases d with ⟨kvs, e⟩ | ⟨kvs, e⟩
 ·obtain ⟨_, hd, vs, _, dd⟩ := dk_rd I.hok e
  refine ⟨dd.typeIs, fun b q => ?_, hd⟩
  cases q
  obtain ⟨ob, _, _, h1, h2, _⟩ := dd
  exact ⟨ob, h1, h2.2.1⟩
 ·obtain ⟨_, hd, xs, _, dd⟩ := dt_rd I.hok e
  refine ⟨dd.typeIs, fun b q => ?_, hd⟩
  cases q
  obtain ⟨ob, _, _, h1, h2, _⟩ := dd
  exact ⟨ob, h1, h2.2.1⟩
section
variable {X : Cx} {pins : List (Addr × Obj)} {σ : St} {H : Hp} {s : Shared} {a : Addr} {y d : V} {u r : Value} {o : Option V} {A : Around} {E : Value -> Shared -> Prop}
theorem d_get1 {Q : Value -> Shared -> Prop} (hu : A.units + 1 < cLine) (I : Inv X pins σ H s) (g : DGet H a y o) (ry : RelV y u) (h : ∀ w' s', Inv X pins σ H s' -> RelV (o.getD .non) w' -> Q w' s') :
  wpAny (model X.prog X.w) A (call (.builtin "dict.get") [.ref a, u]) Q E s := by
 rcases g with ⟨kvs, k, e, ey, l⟩ | ⟨kvs, k, b, e, ey, eb, l⟩
 ·subst ey
  obtain ⟨z, hd, vs, rel, dd⟩ := dk_rd I.hok e
  refine call_meetsIn PySem.F.slot_dict_get dd.typeIs PySem.F.entry_dict_get (PySem.F.args_dict_get_2 _ _) (meets_dict_get (mixKind X.prog X.w) a (kV_is ry) hd) ⟨_, dd.mapOf, h _ _ (I.tok _) ?_⟩
  rw [l]
  exact (rel.val k).getD rfl
 ·subst ey
  cases (show u = Value.ref b from ry)
  obtain ⟨z, hd, xs, rel, dd⟩ := dt_rd I.hok e
  refine call_meetsIn PySem.F.slot_dict_get dd.typeIs PySem.F.entry_dict_get (PySem.F.args_dict_get_2 _ _) (meetsH_dict_get (tupleKind (mixKind X.prog X.w)) a b hd) ⟨tupleKind_room_in1 hu, k, xs, key_of I.hok eb, dd, h _ _ (I.tok _) ?_⟩
  rw [l]
  exact (rel.val k).getD rfl
end
def tDGet1 (td ty : TE) : TE := fun σ H Q => td σ H fun x H1 => ∃ a, x = .ref a /\ IsD H1 a /\ ty σ H1 fun y H2 => ∃ o, DGet H2 a y o /\ Q (o.getD .non) H2
def tDGet2 (td ty tx : TE) : TE := fun σ H Q => td σ H fun x H1 => ∃ a, x = .ref a /\ IsD H1 a /\ ty σ H1 fun y H2 => tx σ H2 fun z H3 => ∃ o, DGet H3 a y o /\ Q (o.getD z) H3
def tDPop1 (td ty : TE) : TE := fun σ H Q => td σ H fun x H1 => ∃ a, x = .ref a /\ IsD H1 a /\ ty σ H1 fun y H2 => ∃ kvs k v, H2 a = some (.dK kvs) /\ y = kV k /\ valV kvs k = some v /\ Q v (upd H2 a (.dK (dropK kvs k)))
def tDPop2 (td ty tx : TE) : TE := fun σ H Q => td σ H fun x H1 => ∃ a, x = .ref a /\ IsD H1 a /\ ty σ H1 fun y H2 => tx σ H2 fun z H3 => ∃ kvs k, H3 a = some (.dK kvs) /\ y = kV k /\
 (∀ v, valV kvs k = some v -> Q v (upd H3 a (.dK (dropK kvs k)))) /\ (valV kvs k = none -> Q z H3)
section
variable {X : Cx} {o e f : Expr} {apos cpos : Pos} {td ty tx : TE}
theorem pe_dget1 (hu : X.A.units + 1 < cLine) (ho : PE X o td) (he : PE X e ty) (m : M1 X o "get" apos e cpos) : PE X (.Call (.Attribute o "get" apos) [e] [] cpos) (tDGet1 td ty) := by
 intro pins s σ H Q I h
 refine wpAny_Call_method m.base m.few m.line PySem.F.plainAttrs_dict PySem.F.slot_dict_get PySem.F.type_dict_get (thn (ho pins s σ H _ I h) fun u s1 ⟨x, H1, I1, rx, a, ex, d, q1⟩ => ?_)
 subst ex
 obtain rfl : u = Value.ref a := rx
 obtain ⟨t1, t2, _⟩ := isD_at I1 d
 refine ⟨t1, t2, ?_⟩
 rw [m.trees]
 refine Calls.callWith_builtin rfl (Calls.evalArgs_plain (Calls.spliced_cons (thn (he pins s1 σ H1 _ I1 q1) fun iv s2 ⟨y, H2, I2, ry, ov, g, q2⟩ => Calls.spliced_nil ?_)))
 exact d_get1 hu I2 g ry fun w' s3 I3 rw' => ⟨_, H2, I3, rw', q2⟩
theorem pe_dpop1 (ho : PE X o td) (he : PE X e ty) (m : M1 X o "pop" apos e cpos) : PE X (.Call (.Attribute o "pop" apos) [e] [] cpos) (tDPop1 td ty) := by
 intro pins s σ H Q I h
 refine wpAny_Call_method m.base m.few m.line PySem.F.plainAttrs_dict PySem.F.slot_dict_pop PySem.F.type_dict_pop (thn (ho pins s σ H _ I h) fun u s1 ⟨x, H1, I1, rx, a, ex, d, q1⟩ => ?_)
 subst ex
 obtain rfl : u = Value.ref a := rx
 obtain ⟨t1, t2, _⟩ := isD_at I1 d
 refine ⟨t1, t2, ?_⟩
 rw [m.trees]
 refine Calls.callWith_builtin rfl (Calls.evalArgs_plain (Calls.spliced_cons (thn (he pins s1 σ H1 _ I1 q1) fun iv s2 ⟨y, H2, I2, ry, kvs, k, v, ea, ey, l, q2⟩ => Calls.spliced_nil ?_)))
 subst ey
 exact d_pop I2 ea ry l (.inl rfl) fun w' s3 I3 rw' => ⟨v, _, I3, rw', q2⟩
end
section
variable {X : Cx} {pins : List (Addr × Obj)} {σ : St} {H : Hp} {s : Shared} {a : Addr} {kvs : List (Key × V)} {A : Around} {E : Value -> Shared -> Prop}
theorem d_copyOf {Q : Value -> Shared -> Prop} (I : Inv X pins σ H s) (e : Rd H a (.dK kvs)) (h : ∀ p s', H p = none -> Inv X pins σ (upd H p (.dK kvs)) s' -> Q (.ref p) s') : wpAny (model X.prog X.w) A (call (.type "dict") [.ref a]) Q E s := by
 obtain ⟨z, hd, vs, rel, dd⟩ := dk_rd I.hok e
 refine kt_call_dict hd dd (by rw [<- rel.length]; exact z) fun h' dd' hs => ?_
 refine h _ _ (I.hok.fresh (Nat.le_refl _)) (I.laid (a := s.heap.objs.size) (o := .dK kvs) (t' := s.toks) (fun b q hq => ?_) (Nat.le_refl _) (dk_new z (beq_eq_false_iff_ne.mpr (Ne.symm (Nat.ne_of_lt I.big))) rel dd'))
 exact (hs.2 b (Nat.ne_of_lt (Heap.lt_size hq))).trans (Heap.get?_push_of_some _ hq)
end
section
variable {X : Cx} {pins : List (Addr × Obj)} {σ : St} {H : Hp} {s : Shared} {a : Addr} {y : V} {u : Value} {A : Around} {E : Value -> Shared -> Prop}
end
end L2
namespace Att
open PySem PySem.W PySem.Calls PyProof.Rows
theorem ints_of_wellAll {P : Params} {h : Heap} : ∀ (ns : List Int) (vs : List Value), WellAll P h vs (ns.map WData.int) -> IntsAre vs ns := by
 intro ns
 induction ns with
 | nil =>
   intro vs w
   rw [List.map_nil] at w
   cases w
   exact .nil
 | cons n ns ih =>
   intro vs w
   rw [List.map_cons] at w
   cases w with
   | cons a b =>
     cases a
     exact .cons _ _ (ih _ b)
theorem script_of {l : OpenLaw} {n : Nat} (hn : l.most = some n) {P : Params} {h : Heap} {args : List WData} {vals : List Value}
  (hpre : l.row.toRowW.claim.pre args = true) (hwl : WellAll P h vals args) :
  ∃ a vs ns, vals = [Value.ref a] /\ args = [WData.list (ns.map WData.int)] /\ h.get? a = some { cls := .type "list", data := .seq vs.toArray } /\ IntsAre vs ns /\ ns.length ≤ n := by
 have hsh : WShape.hasAll [] args [.list .int] = true := (pre_splitW hpre).1
 have hc : l.pre.holds [] { args := args } = true := (pre_splitW hpre).2
 obtain ⟨d, r, rfl, h1, h2⟩ := hasAllW_cons hsh
 obtain rfl := hasAllW_nil h2
 obtain ⟨xs, rfl, h3⟩ := hasW_list h1
 obtain ⟨ns, rfl⟩ := items_int h3
 have hlen : ns.length ≤ n := by
  unfold OpenLaw.pre at hc
  have h4 : (WTm.not (.lt (.lit (.int (n : Int))) (.len (.arg 0)))).holds [] { args := [.list (ns.map .int)] } = true := by
   have h4 := (holds_andW hc).1
   rw [hn] at h4
   exact h4
  have h5 := condW_of h4 (w_not (w_lt w_lit (w_len_list (w_arg rfl))))
  rw [List.length_map] at h5
  refine Nat.le_of_not_lt fun q => ?_
  have q' : (n : Int) < ((ns.length : Nat) : Int) := by omega
  first
   | (rw [decide_eq_true q'] at h5; exact absurd h5 (by decide))
   | (simp at h5; omega)
 cases hwl with
 | cons w1 w2 =>
   cases w2
   cases w1 with
   | list ho hall => exact ⟨_, _, ns, rfl, rfl, ho, ints_of_wellAll ns _ hall, hlen⟩
theorem post_true (l : OpenLaw) (args : List WData) : l.row.toRowW.claim.post args (.bool true) args = true :=
 postW_of (r := l.row.toRowW) (X := (true == true))
  (show WShape.has [] (.bool true) .bool = true by first | rfl | decide | simp [WShape.has, WShape.arms, WShape.armsAll])
  (show (WTm.eq .res (.lit (.bool true))).value [] { args := args, res := some (.bool true), after := args } = some (.bool (true == true)) from w_eq_bool (w_res rfl) w_lit) rfl
theorem attach_call {l : OpenLaw} {n : Nat} {q : Program} {loose : List Str} {XP : (Str -> Option Value) -> Heap -> Prop} {YP : World -> Heap -> Prop} {d : DefRec}
  (hn : l.most = some n) (hdf : d.params.defaults = [])
  (call : ∀ (w : World) (s₀ s₁ : Shared) (mg mb : Str -> Option Value) (fa : Addr) (o : Obj) (pm cd doc : Value) (a : Addr) (vs : List Value) (ns : List Int),
   Ground q loose [] XP w s₀ mg mb s₁.heap -> YP w s₁.heap ->
   s₁.heap.get? fa = some o -> o.data = .func (docDef d.name d.params d.body d.scope pm cd doc) -> s₁.heap.CodeRec cd d.name -> mg d.name = some (.ref fa) ->
   s₁.heap.get? a = some { cls := .type "list", data := .seq vs.toArray } -> IntsAre vs ns -> ns.length ≤ n -> s₁.gens = #[] ->
   codeAny (model l.prog w) callerA (.call (.ref fa) ⟨[.ref a], []⟩) (fun r s' => r = .ok (.ret (.bool true)) /\ OldK s₁.heap s'.heap /\ s'.os = s₁.os /\ AllBare s'.gens) s₁) :
  WalkO q loose XP YP l.row.toRowW d [] (fun f vs => PySem.call f vs) := by
 intro w s₀ s₁ mg mb G Y fa o pm cd doc dV kV ho hd hcd hD hmg hg args vals as hpre hlay hrd hwl hlo
 obtain rfl : dV = .none := Dflts.none hD hdf
 obtain rfl : kV = .none := Dflts.noKw hD
 obtain ⟨a, vs, ns, rfl, rfl, hobj, hints, hlen⟩ := script_of hn hpre hwl
 refine enter_call (codeAny_mono (call w s₀ s₁ mg mb fa o pm cd doc a vs ns G Y ho (fd_plain hd) hcd hmg hobj hints hlen hg) fun r s' hq => ?_)
 obtain ⟨rfl, h2, h3, h4⟩ := hq
 exact ⟨.inl ⟨.bool true, .bool true, [], rfl, fun _ => rfl, .bool true, post_true l _, fun _ => ⟨List.Pairwise.nil, fun _ hm => (nomatch hm)⟩⟩, h2, h3, h4⟩
section
variable {prog : Program} {w : World} {A : Around} {E : Value -> Shared -> Prop} {s : Shared} {K : Frag}
def noObjs (h : Heap) : Heap := { h with objs := #[] }
def ledger (h : Heap) (L d : Addr) : List (Addr × Obj) := (List.range h.objs.size).filterMap fun a => if a = L \/ a = d then none else (h.get? a).map fun o => (a, o)
end
end Att
namespace L2
open PySem PySem.Spec PyProof.Rows
theorem vals_ints : ∀ {vs : List Value} {ns : List Int}, IntsAre vs ns -> Vals (ns.map V.int) vs
 | _, _, .nil => .nil
 | _, _, .cons n t h => .cons ⟨t, rfl⟩ (vals_ints h)
def Only (H : Hp) : Prop := ∀ b, H b = none \/ ∃ o xs, H b = some (.frz o (.lst xs))
theorem law_call {P : Program} {w : World} {K : PySem.W.Frag} {mg mb : Str -> Option Value} {CX : CXT} {k : Nat} {fa a : Addr} {fd : FuncData} {x : Str} {sp : Sp} {s₁ : Shared} {vs : List Value} {ns : List Int}
  (KX : K.In s₁.heap) (hns : s₁.heap.Ns mainGlobals mg) (hb : s₁.heap.Ns builtinsNs mb) (hbb : ∀ x : Str, x ≠ "__name__" -> mb x = bootBuiltins x) (hlim : s₁.heap.NoLimit) (hg : s₁.gens = #[])
  (ha : s₁.heap.get? a = some { cls := .type "list", data := .seq vs.toArray }) (hi : IntsAre vs ns) (hl : ns.length ≤ sizeLine) (hr : Room cc k callerA)
  (F : ∀ base : Heap, K.In base -> base.Ns mainGlobals mg -> FnOk P w K mg base CX cc k fa fd [x] sp) (hbind : ∀ (s : Shared) (u : Value), BindsTo s fd ⟨[u], []⟩ [(x, u)])
  (hsp : ∀ H : Hp, Only H -> SqL K H a (ns.map V.int) -> sp [.ref a] H (fun v _ => v = .bl true) fun _ _ _ => False)
  (hCX : ∀ H e s', CX [] H s₁ (fun _ _ _ => False) e s' -> False) :
  codeAny (model P w) callerA (.call (.ref fa) ⟨[.ref a], []⟩) (fun r s' => r = .ok (.ret (.bool true)) /\ OldK s₁.heap s'.heap /\ s'.os = s₁.os /\ AllBare s'.gens) s₁ := by
 have rv := vals_ints hi
 have lenV := hi.length
 have core : ∀ H : Hp, Only H -> SqL K H a (ns.map V.int) -> HOk P w H s₁.heap -> (∀ b, H b ≠ none -> b = a) -> (H a ≠ none -> K.lookup a = none) ->
   codeAny (model P w) callerA (.call (.ref fa) ⟨[.ref a], []⟩) (fun r s' => r = .ok (.ret (.bool true)) /\ OldK s₁.heap s'.heap /\ s'.os = s₁.os /\ AllBare s'.gens) s₁ := by
  intro H hO hS hok hA hK
  have base_of : ∀ {b : Addr} {o : Obj}, s₁.heap.get? b = some o -> H b = none -> (hidT s₁.heap H).get? b = some o := fun e n => hidT_get e n
  have noA : ∀ {b : Addr} {o : Obj} {es : Array DictEntry} {ep : Nat}, s₁.heap.get? b = some o -> o.data = .dict es ep -> H b = none := fun {b o es ep} e d => by
   cases q : H b with
   | none => rfl
   | some u =>
     have e' : b = a := hA b (by rw [q]; simp)
     subst e'
     rw [ha] at e; cases e
     have d' : Data.seq vs.toArray _ = Data.dict es ep := d
     cases d'
  have nsK : ∀ {b : Addr} {m : Str -> Option Value}, s₁.heap.Ns b m -> (hidT s₁.heap H).Ns b m := fun {b m} ⟨o, es, ep, e, d, r⟩ => ⟨o, es, ep, base_of e (noA e d), d, r⟩
  have hKb : K.In (hidT s₁.heap H) := fun b o e => base_of (KX b o e) (by
   cases q : H b with
   | none => rfl
   | some u =>
     have e' : b = a := hA b (by rw [q]; simp)
     subst e'
     rw [hK (by rw [q]; simp)] at e; cases e)
  have hM : Mod K mg (hidT s₁.heap H) := ⟨hKb, nsK hns, ⟨mb, nsK hb, hbb⟩, let ⟨mc, h1, h2⟩ := hlim; ⟨mc, nsK h1, h2⟩⟩
  have e0 : Env0 P w K mg (hidT s₁.heap H) callerA [] s₁ H := ⟨rfl, hM, fun b o e => of_hidT e, Nat.le_of_eq (hidT_size _ _), trivial, fun b hb => absurd (show b ∈ ([] : List Addr) from hb) (by simp), hok, .of_eq hg⟩
  refine codeAny_mono ((F _ hKb (nsK hns)).run callerA [] s₁ H ⟨[.ref a], []⟩ [.ref a] [.ref a] _ _ hr e0 (hbind s₁ (.ref a)) (.cons rfl .nil) (hsp H hO hS)) fun r s' h => ?_
  cases r with
  | error e => exact (hCX H e s' h).elim
  | ok fl =>
    cases fl with
    | next => exact False.elim h
    | brk => exact False.elim h
    | cont => exact False.elim h
    | ret u =>
      obtain ⟨v, H', os, bare, un, hok', r', q⟩ := h
      have q' : v = .bl true := q
      subst q'
      obtain rfl : u = Value.bool true := r'
      refine ⟨rfl, OldK.of_keep fun b o e => ?_, os, bare⟩
      cases q : H b with
      | none => exact un.keep b o e q (by intro z; exact absurd (show b ∈ ([] : List Addr) from z) (by simp)) (by simp)
      | some u =>
        rcases hO b with z | ⟨ob, xs, z⟩
        ·rw [q] at z; cases z
        ·have z2 := un.frzs b ob _ z
         obtain ⟨e1, _⟩ := hok b _ z
         obtain ⟨e2, _⟩ := hok' b _ z2
         rw [e] at e1; cases e1
         exact e2
 cases hk : K.lookup a with
 | some o =>
   have e := KX a o hk
   rw [ha] at e
   cases e
   refine core (fun _ => none) (fun _ => .inl rfl) (.inr ⟨_, vs.toArray, _, hk, rfl, rfl, rfl, by rw [List.size_toArray, lenV]; exact hl, by simpa using rv⟩) (fun b u z => by have z' : (none : Option HO) = some u := z; cases z') (fun b z => absurd rfl z) fun z => absurd rfl z
 | none =>
   refine core (fun b => if b = a then some (.frz { cls := .type "list", data := .seq vs.toArray } (.lst (ns.map V.int))) else none) (fun b => ?_) (.inl (.inr ⟨{ cls := .type "list", data := .seq vs.toArray }, if_pos rfl⟩)) (fun b u z => ?_) (fun b z => ?_) fun _ => hk
   ·by_cases hb : b = a
    ·exact .inr ⟨_, _, if_pos hb⟩
    ·exact .inl (if_neg hb)
   ·by_cases hb : b = a
    ·have z' := (if_pos hb).symm.trans z
     cases z'
     subst hb
     exact ⟨ha, by rw [List.length_map]; exact hl, vs, _, rv, ha⟩
    ·have z' := (if_neg hb).symm.trans z
     cases z'
   ·by_cases hb : b = a
    ·exact hb
    ·exact absurd (if_neg hb) z
end L2
namespace L2
open PySem PySem.Spec PyProof.Rows
abbrev KOf {K : PySem.W.Frag} {h : Heap} (_ : K.In h) : PySem.W.Frag := K
theorem walk_of {l : PySem.W.OpenLaw} {n k : Nat} {q : Program} {loose : List Str} {XP : (Str -> Option Value) -> Heap -> Prop} {YP : World -> Heap -> Prop} {d : DefRec} {K : Params -> PySem.W.Frag} {CX : World -> CXT} {sp : World -> Sp} {x : Str}
  (hn : l.most = some n) (hn2 : n ≤ sizeLine) (hdf : d.params.defaults = []) (hr : Room cc k callerA)
  (hY : ∀ (w : World) (h : Heap), YP w h -> (K w.params).In h)
  (F : ∀ (w : World) (mg : Str -> Option Value) (fa : Addr) (h : Heap), (K w.params).In h -> h.Ns mainGlobals mg -> mg d.name = some (.ref fa) ->
   ∃ fd : FuncData, (∀ (s : Shared) (u : Value), BindsTo s fd ⟨[u], []⟩ [(x, u)]) /\
     ∀ base : Heap, (K w.params).In base -> base.Ns mainGlobals mg -> FnOk l.prog w (K w.params) mg base (CX w) cc k fa fd [x] (sp w))
  (hsp : ∀ (w : World) (H : Hp) (a : Addr) (ns : List Int), ns.length ≤ n -> Only H -> SqL (K w.params) H a (ns.map V.int) -> sp w [.ref a] H (fun v _ => v = .bl true) fun _ _ _ => False)
  (hCX : ∀ (w : World) (H : Hp) (s : Shared) (e : Value) (s' : Shared), CX w [] H s (fun _ _ _ => False) e s' -> False) :
  PySem.W.WalkO q loose XP YP l.row.toRowW d [] (fun f vs => PySem.call f vs) := by
 refine Att.attach_call hn hdf fun w s₀ s₁ mg mb fa o pm cd doc a vs ns G Y ho hd hcd hmg hobj hints hlen hg => ?_
 have KX := hY w _ Y
 obtain ⟨fd, hb, hF⟩ := F w mg fa _ KX G.T.g hmg
 exact law_call KX G.T.g G.T.b G.T.builtins G.T.nolimit hg hobj hints (Nat.le_trans hlen hn2) hr hF hb (fun H hO hS => hsp w H a ns hlen hO hS) fun H e s' => hCX w H s₁ e s'
end L2
namespace L2
open PySem PySem.Spec PyProof.Rows
def inClass (s : Stmt) (j : Nat) : Stmt := match s with
 | .ClassDef _ _ _ body _ _ _ _ _ _ _ => body.getD j (.Pass ⟨0, 0, 0, 0⟩)
 | _ => .Pass ⟨0, 0, 0, 0⟩
def defArgs (s : Stmt) : Arguments := match s with
 | .FunctionDef _ a _ _ _ _ _ _ _ _ => a
 | _ => { posonlyargs := [], args := [], vararg := none, kwonlyargs := [], kw_defaults := [], kwarg := none, defaults := [] }
def defBody (s : Stmt) : List Stmt := match s with
 | .FunctionDef _ _ b _ _ _ _ _ _ _ => b
 | _ => []
def defScope (s : Stmt) : Scope := match s with
 | .FunctionDef _ _ _ _ _ _ sc _ _ _ => sc
 | _ => { kind := .function, names := [], isGenerator := false, isCoroutine := false }
abbrev CX0 : CXT := fun _ _ _ _ _ _ => False
abbrev E0 : XK := fun _ _ _ => False
structure Fun (K : PySem.W.Frag) (x qual : Str) (st : Stmt) (f : Addr) (fd : FuncData) : Prop where
 ex : ∃ (oc : Value) (od : Option Addr) (kV doc pm : Value) (an : Option Addr) (cdv ct : Value) (osl : Array (Option Value)),
  fd = PySem.W.fnOf x qual (defArgs st) (defBody st) (defScope st) .none kV doc pm an cdv ct /\ K.lookup f = some ⟨oc, od, .func fd, osl⟩ /\ PySem.W.codeIn K cdv qual = true
 kp : PySem.W.keepIn K (.ref f) = true
section
variable {P : Program} {w : World} {K : PySem.W.Frag} {mg : Str -> Option Value} {base : Heap}
theorem Fun.binds {x qual : Str} {st : Stmt} {f : Addr} {fd : FuncData} {ps : List Str} (F : Fun K x qual st f fd)
  (h : ∀ (kV doc pm : Value) (an : Option Addr) (cdv ct : Value) (us : List Value), us.length = ps.length -> bindArgs (PySem.W.fnOf x qual (defArgs st) (defBody st) (defScope st) .none kV doc pm an cdv ct) ⟨us, []⟩ = pure (ps.zip us)) : Binds K fd ps [] := by
 obtain ⟨oc, od, kV, doc, pm, an, cdv, ct, osl, rfl, lk, hcd⟩ := F.ex
 exact .all (h kV doc pm an cdv ct)
theorem fun_mk {x qual : Str} {st : Stmt} {f : Addr} {oc : Value} {od an : Option Addr} {osl : Array (Option Value)} {kV doc pm cdv ct : Value} (l : K.lookup f = some ⟨oc, od, .func (PySem.W.fnOf x qual (defArgs st) (defBody st) (defScope st) .none kV doc pm an cdv ct), osl⟩)
  (c : PySem.W.codeIn K cdv qual = true) (k : PySem.W.keepIn K (.ref f) = true) : Fun K x qual st f (PySem.W.fnOf x qual (defArgs st) (defBody st) (defScope st) .none kV doc pm an cdv ct) := ⟨⟨oc, od, kV, doc, pm, an, cdv, ct, osl, rfl, l, c⟩, k⟩
end
section
variable {X : Cx}
end
theorem iteF {A B : Prop} (h : B) : if false = true then A else B := by
 rw [if_neg Bool.false_ne_true]
 exact h
theorem iteT {A B : Prop} (h : A) : if true = true then A else B := by
 rw [if_pos rfl]
 exact h
def Same (H H' : Hp) : Prop := ∀ b o, H b = some o -> H' b = some o
theorem Same.refl (H : Hp) : Same H H := fun _ _ h => h
theorem Same.trans {H H1 H2 : Hp} (a : Same H H1) (b : Same H1 H2) : Same H H2 := fun c o h => b c o (a c o h)
theorem Same.free {H H' : Hp} (e : Same H H') {l : Addr} (h : H' l = Option.none) : H l = Option.none := by
 cases q : H l with
 | none => rfl
 | some o =>
   rw [e l o q] at h
   cases h
theorem Same.seq {K : PySem.W.Frag} {H H' : Hp} {a : Addr} {xs : List V} (e : Same H H') (h : SqL K H a xs) : SqL K H' a xs := by
 rcases h with (h | ⟨o, h⟩) | h
 ·exact .inl (.inl (e _ _ h))
 ·exact .inl (.inr ⟨o, e _ _ h⟩)
 ·exact .inr h
end L2
namespace L2
open PySem PySem.Spec PyProof.Rows
section
variable {X : Cx}
end
section
variable {κ : Type} [DecidableEq κ]
end
end L2
namespace L2
open PySem PySem.Spec PyProof.Rows
def Flies (h : Heap) (e : Addr) (cls : Value) (d : Option Addr × Bool) (tb : Option Addr) (fl : Value) : Prop :=
 ∃ oe vs, h.get? e = some oe /\ oe.cls = cls /\ oe.dict = d.1 /\ oe.data = .fields vs /\ vs[1]? = some (tb.elim Value.none Value.ref) /\ 2 < vs.size /\ (d.2 = true -> vs[2]? = some .none) /\
   ∀ T, tb = some T -> T ≠ e /\ ∃ oT ws, h.get? T = some oT /\ oT.data = .fields ws /\ ws[3]? = some fl
theorem ObjOk.there {P : Program} {w : World} {H : Hp} {h : Heap} {a : Addr} {o : HO} (x : ObjOk P w H h a o) : ∃ ob, h.get? a = some ob := by
 cases o with
 | lst xs => obtain ⟨_, _, _, _, e⟩ := x; exact ⟨_, e⟩
 | tup xs => obtain ⟨_, _, _, ob, e, _⟩ := x; exact ⟨_, e⟩
 | dK kvs => obtain ⟨_, _, _, _, o, _, _, e, _⟩ := x; exact ⟨_, e⟩
 | dT kvs => obtain ⟨_, _, _, _, o, _, _, e, _⟩ := x; exact ⟨_, e⟩
 | set S n => obtain ⟨o, _, _, _, e, _⟩ := x; exact ⟨_, e⟩
 | ins C dx fs => obtain ⟨_, _, _, e, _⟩ := x; exact ⟨_, e⟩
 | own y => obtain ⟨_, e⟩ := x; exact ⟨_, e⟩
 | xd fs => obtain ⟨_, ⟨_, _, _, e, _⟩, _⟩ := x; exact ⟨_, e⟩
 | rng lo hi => obtain ⟨_, _, _, e⟩ := x; exact ⟨_, e⟩
 | frz ob u => obtain ⟨e, _⟩ := x; exact ⟨_, e⟩
 | tbl ps => exact ⟨_, (show h.get? a = some _ from x)⟩
 | met f y => exact ⟨_, (show h.get? a = some _ from x)⟩
 | ext φ => obtain ⟨_, ⟨_, e⟩, _⟩ := x; exact ⟨_, e⟩
theorem HOk.free {P : Program} {w : World} {H : Hp} {h : Heap} {a : Addr} (x : HOk P w H h) (e : h.get? a = none) : H a = none := by
 cases q : H a with
 | none => rfl
 | some u =>
   obtain ⟨ob, z⟩ := (x a u q).there
   rw [e] at z; cases z
def CX1 (P : Program) (w : World) : CXT := fun outer H s E x s' => ∃ e tb cls d H', x = .ref e /\ s'.os = s.os /\ AllBare s'.gens /\ Un (frs outer) [] H H' s.heap s'.heap /\ HOk P w H' s'.heap /\ Flies s'.heap e cls d tb .none /\
 (∀ b ∈ e :: tb.toList, H' b = none /\ s.heap.get? b = none) /\ E cls d H'
theorem CX1.never {P : Program} {w : World} {outer : List Env} {H : Hp} {s s' : Shared} {e : Value} (h : CX1 P w outer H s (fun _ _ _ => False) e s') : False := by
 obtain ⟨_, _, _, _, _, _, _, _, _, _, _, _, z⟩ := h
 exact z
section
variable {M : Model} {A : Around} {E : Value -> Shared -> Prop} {s : Shared}
theorem entry_new {base : Heap} {env : Env} {outer : List Env} {L e : Addr} {oe : Obj} {vs : Array Value} {head : Value} {hadNext : Bool} {Q : Unit -> Shared -> Prop}
  (hfr : A.frames = some (env :: outer)) (hl : s.heap.FunFrames base (env :: outer)) (hf : env.frame = some L) (he : s.heap.get? e = some oe) (hd : oe.data = .fields vs) (hsz : 1 < vs.size)
  (k : ∀ (h' : Heap) (T : Addr) (oT : Obj) (ws : Array Value), s.heap.objs.size ≤ h'.objs.size -> (∀ b o, s.heap.get? b = some o -> b ≠ e -> b ∉ frs (env :: outer) -> h'.get? b = some o) ->
   (∀ b o, s.heap.get? b = some o -> b ≠ e -> ∃ sl, h'.get? b = some { o with slots := sl }) -> s.heap.objs.size ≤ T -> h'.get? e = some (oe.mapFields (·.setIfInBounds 1 (.ref T))) ->
   h'.get? T = some oT -> oT.data = .fields ws -> ws[3]? = some (rawInt L) -> Q () { s with heap := h' }) :
  wpAny M A (do
   let a <- frameOf env
   let pl <- entryPlaceOf L hadNext
   let b <- EntryCells.newEntry head a .none (rawInt L) .none pl
   setField (.ref e) 1 b) Q E s := by
 have hne : e ∉ (env :: outer).filterMap (·.frame) := fun m => by
  obtain ⟨_, o, ho, nf⟩ := hl.mem m
  rw [he] at ho
  cases ho
  exact nf vs hd
 refine wpAny_bind (wpAny_frameOf_fun hfr hl hf fun h1 so => wpAny_bind (wpAny_entryPlaceOf fun pl hp => ?_))
 unfold EntryCells.newEntry newFields
 refine wpAny_bind (wpAny_newObj_type ?_ (hp.sizeOk5 _ _ _ _ _))
 have e1 : h1.get? e = some oe := (so.2.1 e hne).trans he
 have hTe : e ≠ h1.objs.size := Nat.ne_of_lt (Heap.lt_size e1)
 refine wpAny_setField (Heap.get?_push_of_some _ e1) hd hsz (k _ h1.objs.size { cls := .type "traceback", dict := none, data := .fields (([head, .ref L, .none, rawInt L, .none] : List Value) ++ (if pl.isEmpty then List.replicate 6 Value.none else pl)).toArray } (([head, .ref L, .none, rawInt L, .none] : List Value) ++ (if pl.isEmpty then List.replicate 6 Value.none else pl)).toArray ?_ (fun b o hb hbe hbf => ?_) (fun b o hb hbe => ?_) (Nat.le_of_eq so.1.symm) ?_ ?_ ?_ ?_)
 ·rw [Heap.size_after_update, Heap.size_push, so.1]
  exact Nat.le_succ _
 ·rw [Heap.get?_update_other _ _ (Ne.symm hbe)]
  exact Heap.get?_push_of_some _ ((so.2.1 b hbf).trans hb)
 ·obtain ⟨sl, q⟩ := so.2.2 b o hb
  exact ⟨sl, by rw [Heap.get?_update_other _ _ (Ne.symm hbe)]; exact Heap.get?_push_of_some _ q⟩
 ·exact Heap.get?_update_self _ (Heap.get?_push_of_some _ e1) (Obj.isFreed_of_fields (Obj.data_mapFields hd _))
 ·rw [Heap.get?_update_other _ _ hTe]
  exact Heap.get?_push_size h1 rfl
 ·exact rfl
 ·first
   | (simp; done)
   | (rcases hp with rfl | ⟨_, _, _, _, _, _, _, rfl⟩ <;> simp)
structure Noted (h h' : Heap) (ch fs : List Addr) : Prop where
 keep : ∀ b o, h.get? b = some o -> b ∉ fs -> b ∉ ch -> h'.get? b = some o
 slot : ∀ b o, h.get? b = some o -> b ∉ ch -> ∃ sl, h'.get? b = some { o with slots := sl }
 there : ∀ b o, h.get? b = some o -> ∃ o', h'.get? b = some o'
theorem note_any {base : Heap} {env : Env} {outer : List Env} {L e : Addr} {cls : Value} {d : Option Addr × Bool} {tb : Option Addr} {fl : Value} {Q : Unit -> Shared -> Prop}
  (hfr : A.frames = some (env :: outer)) (hl : s.heap.FunFrames base (env :: outer)) (hf : env.frame = some L) (F : Flies s.heap e cls d tb fl) (hfl : (fl == rawInt L) = false)
  (k : ∀ (h' : Heap) (T : Addr), Noted s.heap h' (e :: tb.toList) (frs (env :: outer)) -> s.heap.objs.size ≤ T -> Flies h' e cls d (some T) (rawInt L) -> Q () { s with heap := h' }) :
  wpAny M A (noteFrame (.ref e) env) Q E s := by
 obtain ⟨oe, vs, he, hc, hdx, hd, h1, hz, h2, ht⟩ := F
 have fin : ∀ {hp : Heap} {h' : Heap} {T : Addr} {oT : Obj} {ws : Array Value}, hp.get? e = some oe -> hp.objs.size ≤ T -> h'.get? e = some (oe.mapFields (·.setIfInBounds 1 (.ref T))) -> h'.get? T = some oT -> oT.data = .fields ws ->
   ws[3]? = some (rawInt L) -> Flies h' e cls d (some T) (rawInt L) := fun {hp h' T oT ws} e0 hT q1 q2 q3 q4 => by
  have hd' := Obj.data_mapFields hd (·.setIfInBounds 1 (Value.ref T))
  refine ⟨_, _, q1, (Obj.cls_mapFields _ _).trans hc, ?_, hd', ?_, by simpa using hz, fun z => ?_, fun T' eT => ?_⟩
  ·obtain ⟨c0, d0, dt, sl⟩ := oe
   cases hd
   exact hdx
  ·have : 1 < vs.size := by omega
   simp [this]
  ·rw [Array.getElem?_setIfInBounds_ne (by decide)]
   exact h2 z
  ·cases eT
   exact ⟨fun z => Nat.lt_irrefl _ (Nat.lt_of_lt_of_le (Heap.lt_size e0) (z ▸ hT)), oT, ws, q2, q3, q4⟩
 unfold noteFrame
 simp only [hf]
 cases tb with
 | none =>
   have h1' : vs[1]? = some Value.none := h1
   refine wpAny_bind (wpAny_field he hd h1' ?_)
   rw [if_neg (by decide)]
   refine entry_new hfr hl hf he hd (by omega) fun h' T oT ws a1 a2 a3 a4 a5 a6 a7 a8 => k h' T ⟨fun b o q1 q2 q3 => a2 b o q1 (fun z => q3 (by simp [z])) q2, fun b o q1 q3 => a3 b o q1 fun z => q3 (by simp [z]), fun b o q1 => ?_⟩ a4 (fin he a4 a5 a6 a7 a8)
   by_cases z : b = e
   ·subst z; exact ⟨_, a5⟩
   ·obtain ⟨sl, q⟩ := a3 b o q1 z
    exact ⟨_, q⟩
 | some T0 =>
   obtain ⟨hne, oT0, ws0, t1, t2, t3⟩ := ht T0 rfl
   have h1' : vs[1]? = some (Value.ref T0) := h1
   refine wpAny_bind (wpAny_field he hd h1' ?_)
   rw [if_pos (show (Value.ref T0 != Value.none) = true from by simp)]
   refine wpAny_bind (wpAny_field t1 t2 t3 ?_)
   rw [if_neg (by rw [hfl]; exact Bool.false_ne_true)]
   refine wpAny_bind (wpAny_setField t1 t2 (Array.getElem?_eq_some_iff.mp t3).1 ?_)
   have oth : ∀ b, b ≠ T0 -> (s.heap.update T0 (Obj.mapFields (·.setIfInBounds 3 Value.none))).get? b = s.heap.get? b := fun b hb => Heap.get?_update_other _ _ (Ne.symm hb)
   have slf := Heap.get?_update_self (Obj.mapFields (·.setIfInBounds 3 Value.none)) t1 (Obj.isFreed_of_fields (Obj.data_mapFields t2 _))
   have hsz : (s.heap.update T0 (Obj.mapFields (·.setIfInBounds 3 Value.none))).objs.size = s.heap.objs.size := Heap.size_after_update ..
   have hl' : (s.heap.update T0 (Obj.mapFields (·.setIfInBounds 3 Value.none))).FunFrames base (env :: outer) := hl.of_keeps fun b o hb nf => ⟨o, (oth b fun z => by
    subst z
    rw [t1] at hb
    cases hb
    exact nf ws0 t2).trans hb, rfl⟩
   refine entry_new (s := { s with heap := s.heap.update T0 (Obj.mapFields (·.setIfInBounds 3 Value.none)) }) hfr hl' hf ((oth e (Ne.symm hne)).trans he) hd (by omega) fun h' T oT ws a1 a2 a3 a4 a5 a6 a7 a8 =>
    k h' T ⟨fun b o q1 q2 q3 => a2 b o ((oth b fun z => q3 (by simp [z])).trans q1) (fun z => q3 (by simp [z])) q2, fun b o q1 q3 => a3 b o ((oth b fun z => q3 (by simp [z])).trans q1) fun z => q3 (by simp [z]), fun b o q1 => ?_⟩ (hsz ▸ a4) (fin ((oth e (Ne.symm hne)).trans he) a4 a5 a6 a7 a8)
   by_cases z : b = e
   ·subst z; exact ⟨_, a5⟩
   ·by_cases z2 : b = T0
    ·subst z2
     obtain ⟨sl, q⟩ := a3 b _ slf z
     exact ⟨_, q⟩
    ·obtain ⟨sl, q⟩ := a3 b o ((oth b z2).trans q1) z
     exact ⟨_, q⟩
theorem note_new {base : Heap} {env : Env} {outer : List Env} {L e : Addr} {cls : Value} {d : Option Addr × Bool} {tb : Option Addr} {Q : Unit -> Shared -> Prop}
  (hfr : A.frames = some (env :: outer)) (hl : s.heap.FunFrames base (env :: outer)) (hf : env.frame = some L) (F : Flies s.heap e cls d tb .none)
  (k : ∀ (h' : Heap) (T : Addr), Noted s.heap h' (e :: tb.toList) (frs (env :: outer)) -> s.heap.objs.size ≤ T -> Flies h' e cls d (some T) (rawInt L) -> Q () { s with heap := h' }) :
  wpAny M A (noteFrame (.ref e) env) Q E s :=
 note_any hfr hl hf F (by simp [rawInt]) k
theorem note_held {env : Env} {L e : Addr} {cls : Value} {d : Option Addr × Bool} {tb : Option Addr} {Q : Unit -> Shared -> Prop} (hf : env.frame = some L) (F : Flies s.heap e cls d tb (rawInt L)) (ht : tb.isSome = true) (k : Q () s) :
  wpAny M A (noteFrame (.ref e) env) Q E s := by
 obtain ⟨oe, vs, he, hc, hdx, hd, h1, hz, h2, hT⟩ := F
 cases tb with
 | none => cases ht
 | some T =>
   obtain ⟨_, oT, ws, t1, t2, t3⟩ := hT T rfl
   exact wpAny_noteFrame_inFlight hf he hd h1 t1 t2 t3 k
theorem flight_off {e T : Addr} {cls : Value} {d : Option Addr × Bool} {fl : Value} {Q : Unit -> Shared -> Prop} (F : Flies s.heap e cls d (some T) fl)
  (k : ∀ h', Noted s.heap h' [T] [] -> Flies h' e cls d (some T) .none -> Q () { s with heap := h' }) : wpAny M A (setFlight (.ref e) none) Q E s := by
 obtain ⟨oe, vs, he, hc, hdx, hd, h1, hz, h2, hT⟩ := F
 obtain ⟨hne, oT, ws, t1, t2, t3⟩ := hT T rfl
 have h3 : 3 < ws.size := (Array.getElem?_eq_some_iff.mp t3).1
 refine wpAny_setFlight_none he hd h1 t1 t2 h3 (k _ ⟨fun b o q _ n => ?_, fun b o q n => ⟨o.slots, ?_⟩, fun b o q => ?_⟩ ?_)
 ·rw [Heap.get?_update_other _ _ (fun z => n (by simp [z]))]; exact q
 ·rw [Heap.get?_update_other _ _ (fun z => n (by simp [z]))]; exact q
 ·by_cases z : b = T
  ·subst z; exact ⟨_, Heap.get?_update_self _ t1 (Obj.isFreed_of_fields (Obj.data_mapFields t2 _))⟩
  ·exact ⟨o, by rw [Heap.get?_update_other _ _ (Ne.symm z)]; exact q⟩
 ·refine ⟨oe, vs, ?_, hc, hdx, hd, h1, hz, h2, fun T' eT => ?_⟩
  ·rw [Heap.get?_update_other _ _ hne]; exact he
  ·cases eT
   exact ⟨hne, _, _, Heap.get?_update_self _ t1 (Obj.isFreed_of_fields (Obj.data_mapFields t2 _)), Obj.data_mapFields t2 _, by simp [h3]⟩
end
section
variable {X : Cx} {pins : List (Addr × Obj)} {σ : St} {H H' : Hp} {s s' : Shared}
def Ch (X : Cx) (pins : List (Addr × Obj)) (b : Addr) : Prop := (b ∈ X.ex \/ X.s₀.heap.get? b = none) /\ b ≠ X.env.locals /\ (∀ x c, X.env.cells.lookup x = some c -> c ≠ b) /\ ∀ p ∈ X.pn ++ pins, p.1 ≠ b
theorem Inv.ch (I : Inv X pins σ H s) {b : Addr} (h : s.heap.get? b = none) : Ch X pins b := by
 refine ⟨?_, fun z => ?_, fun x c q z => ?_, fun p hp z => ?_⟩
 ·by_cases hx : b ∈ X.ex
  ·exact .inl hx
  ·refine .inr ?_
   cases q : X.s₀.heap.get? b with
   | none => rfl
   | some o =>
     obtain ⟨o', q'⟩ := I.base.there b o q hx
     rw [h] at q'; cases q'
 ·obtain ⟨_, ⟨o, _, _, ho, _⟩, _⟩ := I.loc
  rw [<- z, h] at ho; cases ho
 ·obtain ⟨_, o, ho, _⟩ := I.cell x c q
  rw [z, h] at ho; cases ho
 ·have := (I.pin p hp).1
  rw [z, h] at this; cases this
theorem Inv.noted {ch : List Addr} {h' : Heap} (I : Inv X pins σ H s) (N : Noted s.heap h' ch (frs X.stack)) (hc : ∀ b ∈ ch, H b = none /\ Ch X pins b) : Inv X pins σ H { s with heap := h' } := by
 have trk : ∀ b u, H b = some u -> b ∉ frs X.stack /\ b ∉ ch := fun b u e => ⟨(fun z => by rw [I.stkFree b z] at e; cases e), (fun z => by rw [(hc b z).1] at e; cases e)⟩
 refine I.call (g' := s.gens) (d' := s.drawn) (t' := s.toks) (ch := ch) (h' := h') ⟨fun b o e _ hb hx => N.keep b o e hb hx, fun b o e _ _ hx => N.slot b o e hx, fun _ _ _ n _ => n, fun b o e _ => N.there b o e, fun _ _ e => e, fun _ _ _ e => e, fun b ps e => ⟨#[], by rw [e]; simp⟩⟩ ?_ I.bare fun b hb => (hc b hb).2
 intro b u e
 refine (I.hok b u e).stay (fun c v hcv q => ?_) (fun _ q => q) fun _ _ q => q
 rcases hcv with z | z
 ·subst z; exact N.keep c v q (trk c u e).1 (trk c u e).2
 ·exact N.keep c v q (trk c _ z).1 (trk c _ z).2
def XAt (X : Cx) (pins : List (Addr × Obj)) (σ : St) (H : Hp) (s : Shared) (e : Addr) (cls : Value) (d : Option Addr × Bool) : Prop :=
 Inv X pins σ H s /\ ∃ tb fl, Flies s.heap e cls d tb fl /\ (fl = .none \/ (fl = rawInt X.env.locals /\ tb.isSome = true)) /\ ∀ b ∈ e :: tb.toList, H b = none /\ Ch X pins b
def XOk (X : Cx) (Kx : St -> XK) : Prop := ∀ (pins : List (Addr × Obj)) (σ : St) (H : Hp) (s : Shared) (e : Addr) (cls : Value) (d : Option Addr × Bool), XAt X pins σ H s e cls d -> Kx σ cls d H -> X.xe (.ref e) s
theorem Inv.flown {E : XK} {x : Value} (I : Inv X pins σ H s) (c : CX1 X.prog X.w X.stack H s E x s') : ∃ e cls d H', x = .ref e /\ XAt X pins σ H' s' e cls d /\ E cls d H' := by
 obtain ⟨e, tb, cls, d, H', rfl, os, bare, un, hok, F, ch, q⟩ := c
 have I' : Inv X pins σ H' s' := I.call' (ch := []) os un hok bare fun b z => absurd z (by simp)
 exact ⟨e, cls, d, H', rfl, ⟨I', tb, .none, F, .inl rfl, fun b hb => ⟨(ch b hb).1, I.ch (ch b hb).2⟩⟩, q⟩
theorem xok_false (h : X.xe = fun _ _ => False) : XOk X (fun _ _ _ _ => False) := fun _ _ _ _ _ _ _ _ z => z.elim
theorem XAt.note {M : Model} {E : Value -> Shared -> Prop} {e : Addr} {cls : Value} {d : Option Addr × Bool} {Q : Unit -> Shared -> Prop} (x : XAt X pins σ H s e cls d) (hst : X.stack = X.env :: X.outer) (hf : X.env.frame = some X.env.locals)
  (k : ∀ s' T, Inv X pins σ H s' -> Flies s'.heap e cls d (some T) (rawInt X.env.locals) -> (∀ b ∈ [e, T], H b = none /\ Ch X pins b) -> Q () s') : wpAny M X.A (noteFrame (.ref e) X.env) Q E s := by
 obtain ⟨I, tb, fl, F, hfl, ch⟩ := x
 rcases hfl with z | ⟨z, ht⟩
 ·subst z
  have hl := I.stack
  rw [hst] at hl
  refine note_new (base := X.base) (I.ok.frames.trans (by rw [hst])) hl hf F fun h' T N hT F' => k _ T (I.noted (by rw [hst]; exact N) ch) F' fun b hb => ?_
  rcases List.mem_cons.mp hb with z | z
  ·subst z; exact ch _ List.mem_cons_self
  ·have z' : b = T := by simpa using z
   subst z'
   exact ⟨I.hok.fresh hT, I.ch (Heap.get?_none_of_le hT)⟩
 ·subst z
  cases tb with
  | none => cases ht
  | some T => exact note_held hf F rfl (k s T I F ch)
theorem Inv.off {M : Model} {E : Value -> Shared -> Prop} {e T : Addr} {cls : Value} {d : Option Addr × Bool} {fl : Value} {Q : Unit -> Shared -> Prop} (I : Inv X pins σ H s) (F : Flies s.heap e cls d (some T) fl) (hc : ∀ b ∈ [e, T], H b = none /\ Ch X pins b)
  (k : ∀ s', Inv X pins σ H s' -> Flies s'.heap e cls d (some T) .none -> Q () s') {A : Around} : wpAny M A (setFlight (.ref e) none) Q E s := by
 refine flight_off F fun h' N F' => k _ (I.noted (ch := [T]) ⟨fun b o q _ n => N.keep b o q (by simp) n, N.slot, N.there⟩ fun b hb => ?_) F'
 have z : b = T := by simpa using hb
 subst z
 exact hc b (by simp)
end
theorem xok_fn {cc : Bool} {P : Program} {w : World} {K : PySem.W.Frag} {mg : Str -> Option Value} {base : Heap} {N : List Str} {qual : Str} {scope : Scope} {f : Addr} {cd : Value} {A : Around} {outer : List Env} {s₀ : Shared} {H₀ : Hp} {E : XK} :
  XOk (cxOf cc (CX1 P w) P w K mg base N qual scope f cd A outer s₀ H₀ E) (fun _ => E) := by
 intro pins σ H s e cls d x q
 show wpAny _ _ (leaving _ _) _ _ s
 unfold leaving
 refine wpAny_bind (x.note rfl rfl fun s1 T I1 F1 c1 => ?_)
 refine I1.off F1 c1 fun s2 I2 F2 => ?_
 refine ⟨e, some T, cls, d, H, rfl, I2.os, I2.bare, I2.base, I2.hok, F2, fun b hb => ?_, q⟩
 have z := c1 b (by simpa using hb)
 refine ⟨z.1, ?_⟩
 rcases z.2.1 with y | y
 ·exact absurd (show b ∈ ([] : List Addr) from y) (by simp)
 ·exact y
theorem passes_fn {cc : Bool} {P : Program} {w : World} {K : PySem.W.Frag} {mg : Str -> Option Value} {base : Heap} {N : List Str} {qual : Str} {scope : Scope} {f : Addr} {cd : Value} {A : Around} {outer : List Env} {s₀ : Shared} {H₀ : Hp} {E : XK} :
  PassesOwn (model P w) (A.deeper (envOfC qual scope s₀.heap.objs.size f cd)) (envOfC qual scope s₀.heap.objs.size f cd) (cxOf cc (CX1 P w) P w K mg base N qual scope f cd A outer s₀ H₀ E).xe := PassesOwn.leaving
section
variable {X : Cx} {Kx : St -> XK} {cc : Bool} {k k' : Nat} {f C : Addr} {fd : FuncData} {ps : List Str} {sp : Sp} {x m : Str} {p pos apos : Pos} {e o : Expr} {es : List Expr} {σ : St} {H : Hp} {Q : VK}
theorem run_fnX {pins : List (Addr × Obj)} {s : Shared} {us : List Value} {vs : List V} (F : FnOk X.prog X.w X.K X.mg X.base (CX1 X.prog X.w) cc k f fd ps sp) (hr : Room cc k X.A) (hb : Binds X.K fd ps []) (hx : XOk X Kx)
  (I : Inv X pins σ H s) (r : Vals vs us) (h : sp vs H Q (Kx σ)) : wpAny (model X.prog X.w) X.A (call (.ref f) us) (EP X pins σ Q) X.xe s := by
 have hl : us.length = ps.length := by rw [<- r.length]; exact F.len _ _ _ _ h
 have hb' := hb s us I.kIn (by simpa using hl)
 rw [List.append_nil] at hb'
 refine wpAny_call (codeAny_mono (F.run X.A X.stack s H ⟨us, []⟩ us vs Q (Kx σ) hr I.env0 hb' r h) fun r s' hq => ?_)
 cases r with
 | error e =>
   obtain ⟨a, cls, d, H', rfl, xa, q⟩ := I.flown hq
   exact hx pins σ H' s' a cls d xa q
 | ok fl =>
   cases fl with
   | ret u => exact I.after hq
   | next => exact False.elim hq
   | brk => exact False.elim hq
   | cont => exact False.elim hq
end
end L2
namespace L2
open PySem PySem.Spec PyProof.Rows
def EV (X : Cx) (e : Expr) (σ : St) (H : Hp) (Q : VK) : Prop :=
 ∀ (pins : List (Addr × Obj)) (s : Shared), Inv X pins σ H s -> wpAny (model X.prog X.w) X.A (eval e X.env) (EP X pins σ Q) X.xe s
def ET (X : Cx) (e : Expr) (σ : St) (H : Hp) (Q : Bool -> Hp -> Prop) : Prop :=
 ∀ (pins : List (Addr × Obj)) (s : Shared), Inv X pins σ H s -> wpAny (model X.prog X.w) X.A (isTrue e X.env (eval e X.env)) (TP X pins σ Q) X.xe s
def EW (X : Cx) (e : Expr) (σ : St) (H : Hp) (Q : Bool -> Hp -> Prop) : Prop :=
 ∀ (whole : Sem Value) (pins : List (Addr × Obj)) (s : Shared), Inv X pins σ H s -> wpAny (model X.prog X.w) X.A (isTrue e X.env whole) (TP X pins σ Q) X.xe s
def EA (X : Cx) (es : List Expr) (σ : St) (H : Hp) (Q : List V -> Hp -> Prop) : Prop :=
 ∀ (pos : Pos) (pins : List (Addr × Obj)) (s : Shared), Inv X pins σ H s -> wpAny (model X.prog X.w) X.A (spliced (backTo pos (starEach es X.env))) (AP X pins σ Q) X.xe s
def EO (X : Cx) (e : Option Expr) (σ : St) (H : Hp) (Q : Option Int -> Hp -> Prop) : Prop := ∃ t, PO X e t /\ t σ H Q
def SX (X : Cx) (st : Stmt) (D : Ends) (σ : St) (H : Hp) : Prop :=
 ∀ (pins : List (Addr × Obj)) (s : Shared), Inv X pins σ H s -> wpAny (model X.prog X.w) X.A (exec st X.env) (SP X pins D) X.xe s
def SXs (X : Cx) (st : List Stmt) (D : Ends) (σ : St) (H : Hp) : Prop :=
 ∀ (pins : List (Addr × Obj)) (s : Shared), Inv X pins σ H s -> wpAny (model X.prog X.w) X.A (execs st X.env) (SP X pins D) X.xe s
def EG (X : Cx) (tg : Expr) (v : V) (σ : St) (H : Hp) (Q : St -> Hp -> Prop) : Prop :=
 ∀ (pins : List (Addr × Obj)) (s : Shared) (u : Value), Inv X pins σ H s -> RelV v u -> wpAny (model X.prog X.w) X.A (assign tg X.env u) (fun _ s' => ∃ σ' H', Inv X pins σ' H' s' /\ Q σ' H') X.xe s
def EGs (X : Cx) (ts : List Expr) (vs : List V) (σ : St) (H : Hp) (Q : St -> Hp -> Prop) : Prop :=
 ∀ (pins : List (Addr × Obj)) (s : Shared) (us : List Value), Inv X pins σ H s -> Vals vs us -> wpAny (model X.prog X.w) X.A (assignInOrder ((assignEach ts X.env).map (·.2)) us) (fun _ s' => ∃ σ' H', Inv X pins σ' H' s' /\ Q σ' H') X.xe s
def EI (X : Cx) (tg iter : Expr) (σ : St) (H : Hp) (R : It -> Hp -> Prop) : Prop :=
 ∀ (pins : List (Addr × Obj)) (s : Shared), Inv X pins σ H s ->
   wpAny (model X.prog X.w) X.A (eval iter X.env) (fun v s1 => wpAny (model X.prog X.w) X.A (pyIter v) (PIE X pins σ tg R) X.xe s1) X.xe s
def OP (X : Cx) (f : Value -> Value -> Sem Value) (x y : V) (H : Hp) (Q : VK) : Prop := ∃ r, OpR X f r /\ r x y H Q
def UN (X : Cx) (f : Value -> Sem Value) (x : V) (H : Hp) (Q : VK) : Prop := ∃ r, UnR X f r /\ r x H Q
def CL (X : Cx) (f : Value) (xs : List V) (H : Hp) (Q : VK) : Prop := ∃ r, CallR X f r /\ r xs H Q
def IX (X : Cx) (x y : V) (H : Hp) (Q : VK) : Prop := ∃ r, IxR X r /\ r x y H Q
def SL (X : Cx) (x : V) (lo hi : Option Int) (H : Hp) (Q : VK) : Prop := ∃ r, SlR X r /\ r x lo hi H Q
def MT (X : Cx) (id : String) (x : V) (xs : List V) (H : Hp) (Q : VK) : Prop := ∃ r, MtR X id r /\ r x xs H Q
section
variable {X : Cx} {a b c e : Expr} {es : List Expr} {σ : St} {H : Hp} {Q : VK} {QT : Bool -> Hp -> Prop} {QA : List V -> Hp -> Prop} {D : Ends} {pos p apos : Pos} {x : Str} {v : V}
theorem pe_self : PE X e (EV X e) := fun pins s _ _ _ I h => h pins s I
theorem pt_self : PT X e (ET X e) := fun pins s _ _ _ I h => h pins s I
theorem pw_self : PW X e (EW X e) := fun whole pins s _ _ _ I h => h whole pins s I
theorem pa_self : PA X es (EA X es) := fun pos pins s _ _ _ I h => h pos pins s I
theorem po_self {o : Option Expr} : PO X o (EO X o) := fun pins s σ H Q I ⟨_, h, q⟩ => h pins s σ H Q I q
theorem ps_self {st : Stmt} : PS X st (SX X st) := fun pins s _ _ _ I h => h pins s I
theorem pss_self {st : List Stmt} : PSs X st (SXs X st) := fun pins s _ _ _ I h => h pins s I
theorem pg_self {tg : Expr} : PG X tg (EG X tg) := fun pins s _ _ _ u _ I r h => h pins s u I r
theorem pgs_self {ts : List Expr} : PGs X ts (EGs X ts) := fun pins s _ _ _ us _ I r h => h pins s us I r
theorem pi_self {tg iter : Expr} : PI X tg iter (EI X tg iter) := fun pins s _ _ _ I h => h pins s I
theorem op_self {f : Value -> Value -> Sem Value} : OpR X f (OP X f) := fun pins s σ H x y v u Q I rx ry ⟨_, h, q⟩ => h pins s σ H x y v u Q I rx ry q
theorem un_self {f : Value -> Sem Value} : UnR X f (UN X f) := fun pins s σ H x v Q I rx ⟨_, h, q⟩ => h pins s σ H x v Q I rx q
theorem cl_self {f : Value} : CallR X f (CL X f) := fun pins s σ H xs us Q I rx ⟨_, h, q⟩ => h pins s σ H xs us Q I rx q
theorem ix_self : IxR X (IX X) := fun va sl pins s σ H x y v u Q I rx ry ⟨_, h, q⟩ hs => h va sl pins s σ H x y v u Q I rx ry q hs
theorem sl_self : SlR X (SL X) := fun pins s σ H x v vl vu lo hi sl Q I rx hs pl pu ⟨_, h, q⟩ => h pins s σ H x v vl vu lo hi sl Q I rx hs pl pu q
theorem mt_self {id : String} : MtR X id (MT X id) := fun pins s σ H x xs v us Q I rx rs ⟨_, h, q⟩ => h pins s σ H x xs v us Q I rx rs q
theorem ev_of {t : TE} (h : PE X e t) (q : t σ H Q) : EV X e σ H Q := fun pins s I => h pins s σ H Q I q
theorem et_of {t : TT} (h : PT X e t) (q : t σ H QT) : ET X e σ H QT := fun pins s I => h pins s σ H QT I q
theorem ea_of {t : TA} (h : PA X es t) (q : t σ H QA) : EA X es σ H QA := fun pos pins s I => h pos pins s σ H QA I q
theorem sx_of {st : Stmt} {t : TS} (h : PS X st t) (q : t D σ H) : SX X st D σ H := fun pins s I => h pins s σ H D I q
theorem sxs_of {st : List Stmt} {t : TS} (h : PSs X st t) (q : t D σ H) : SXs X st D σ H := fun pins s I => h pins s σ H D I q
theorem eg_of {tg : Expr} {t : TG} {QG : St -> Hp -> Prop} (h : PG X tg t) (q : t v σ H QG) : EG X tg v σ H QG := fun pins s u I r => h pins s σ H v u QG I r q
theorem egs_of {ts : List Expr} {t : TGs} {vs : List V} {QG : St -> Hp -> Prop} (h : PGs X ts t) (q : t vs σ H QG) : EGs X ts vs σ H QG := fun pins s us I r => h pins s σ H vs us QG I r q
theorem ei_of {tg iter : Expr} {t : TI} {R : It -> Hp -> Prop} (h : PI X tg iter t) (q : t σ H R) : EI X tg iter σ H R := fun pins s I => h pins s σ H R I q
def nameV : List Str -> St -> Str -> Option V
 | n :: N, o :: σ, x => if n = x then o else nameV N σ x
 | _, _, _ => none
theorem nameV_get : ∀ {N : List Str} {σ : St} {x : Str} {v : V}, nameV N σ x = some v -> ∃ i : Nat, N[i]? = some x /\ σ[i]? = some (some v)
 | n :: N, o :: σ, x, v, h => by
   unfold nameV at h
   split at h
   ·rename_i e
    exact ⟨0, by simp [e], by simp [h]⟩
   ·obtain ⟨i, h1, h2⟩ := nameV_get h
    exact ⟨i + 1, by simpa using h1, by simpa using h2⟩
 | [], _, _, _, h => by simp [nameV] at h
 | _ :: _, [], _, _, h => by simp [nameV] at h
def nameAt : List Str -> Str -> Option Nat
 | n :: N, x => if n = x then some 0 else (nameAt N x).map (· + 1)
 | [], _ => none
theorem nameAt_get : ∀ {N : List Str} {x : Str} {i : Nat}, nameAt N x = some i -> N[i]? = some x
 | n :: N, x, i, h => by
   unfold nameAt at h
   split at h
   ·rename_i e
    cases h
    simp [e]
   ·cases q : nameAt N x with
    | none => rw [q] at h; cases h
    | some j =>
      rw [q] at h
      cases h
      simpa using nameAt_get q
 | [], _, _, h => by simp [nameAt] at h
theorem ev_name (hn : nameV X.N σ x = some v) (hv : Vis X.env.scope x) (q : Q v H) (hd : (x == ("__debug__" : Str)) = false) (hcd : (x == ("__classdict__" : Str)) = false) : EV X (.Name x pos) σ H Q := by
 obtain ⟨i, h1, h2⟩ := nameV_get hn
 exact ev_of (pe_var h1 hv hd hcd) ⟨v, h2, q⟩
def Gc (mg : Str -> Option Value) (x : Str) (v : V) : Prop := ∃ u, mg x = some u /\ RelV v u
theorem ev_gc (g : Gc X.mg x v) (hg : Gl X x) (q : Q v H) (hd : (x == ("__debug__" : Str)) = false) : EV X (.Name x pos) σ H Q := by
 obtain ⟨u, h1, h2⟩ := g
 exact ev_of (pe_glob hg h1 h2 hd) q
theorem ev_ty {T : String} (hg : Gl X x) (hm : X.mg x = none) (hv : bootBuiltins x = some (.type T)) (q : Q (.ty T) H) (hn : x ≠ "__name__") (hd : (x == ("__debug__" : Str)) = false) : EV X (.Name x pos) σ H Q :=
 ev_of (pe_bltn hg hm hv (v := .ty T) rfl hn hd) q
theorem ev_int {i : Int} {j} (q : Q (.int i) H) : EV X (.Constant (.int i) j pos) σ H Q := ev_of pe_int q
theorem ev_bl {i : Bool} {j} (q : Q (.bl i) H) : EV X (.Constant (.bool i) j pos) σ H Q := ev_of pe_bl q
theorem ev_non {j} (q : Q .non H) : EV X (.Constant .none j pos) σ H Q := ev_of pe_non q
theorem ev_str {i : Str} {j} (q : Q (.str i) H) : EV X (.Constant (.str i) j pos) σ H Q := ev_of pe_str q
theorem ev_bin {op : Operator} (h : EV X a σ H fun x H1 => EV X b σ H1 fun y H2 => OP X (binaryOp op) x y H2 Q) : EV X (.BinOp a op b pos) σ H Q := ev_of (pe_op op_self pe_self pe_self) h
theorem ev_un {op : UnaryOp} (h : EV X a σ H fun x H1 => UN X (unaryOp op) x H1 Q) : EV X (.UnaryOp op a pos) σ H Q := ev_of (pe_un un_self pe_self) h
theorem ev_cmp {op : CmpOp} (hm : behindInMarks op b = false) (h : EV X a σ H fun x H1 => EV X b σ H1 fun y H2 => OP X (compareOp op) x y H2 Q) : EV X (.Compare a [op] [b] pos) σ H Q := ev_of (pe_cmpR op_self pe_self pe_self hm) h
theorem et_cmp {op : CmpOp} (hm : behindInMarks op b = false) (h : EV X a σ H fun x H1 => EV X b σ H1 fun y H2 => OP X (compareOp op) x y H2 fun z H3 => ∃ k, z = .bl k /\ QT k H3) : ET X (.Compare a [op] [b] pos) σ H QT := et_of (pt_cmpR op_self pe_self pe_self hm) h
theorem ev_chain {op op' : CmpOp} (hm : lastMarks [op, op'] [b, c] = false) (h : EV X a σ H fun x H1 => EV X b σ H1 fun y H2 => OP X (compareOp op) x y H2 fun z H3 => ∃ k, z = .bl k /\ (if k = true then EV X c σ H3 fun w' H4 => OP X (compareOp op') y w' H4 Q else Q (.bl false) H3)) :
  EV X (.Compare a [op, op'] [b, c] pos) σ H Q := ev_of (pe_chain op_self op_self pe_self pe_self pe_self hm) h
theorem et_chain {op op' : CmpOp} (hm : lastMarks [op, op'] [b, c] = false) (h : EV X a σ H fun x H1 => EV X b σ H1 fun y H2 => OP X (compareOp op) x y H2 fun z H3 => ∃ k, z = .bl k /\ (if k = true then EV X c σ H3 fun w' H4 => OP X (compareOp op') y w' H4 fun z' H5 => ∃ k', z' = .bl k' /\ QT k' H5 else ∃ k', V.bl false = .bl k' /\ QT k' H3)) :
  ET X (.Compare a [op, op'] [b, c] pos) σ H QT := et_of (pt_chain op_self op_self pe_self pe_self pe_self hm) h
theorem et_val (he : ∀ whole, isTrue e X.env whole = (do let v <- whole; standAt e.pos; holding [v] (truthy v))) (h : EV X e σ H fun x H' => ∃ k, TruV X.K x H' k /\ QT k H') : ET X e σ H QT := et_of (pt_truth pe_self he) h
theorem et_not (h : ET X a σ H fun k H1 => QT (!k) H1) : ET X (.UnaryOp .Not a pos) σ H QT := et_of (pt_not pt_self) h
theorem et_w (h : EW X e σ H QT) : ET X e σ H QT := et_of pw_self.pt h
theorem ew_of {t : TT} (h : PW X e t) (q : t σ H QT) : EW X e σ H QT := fun whole pins s I => h whole pins s σ H QT I q
theorem ew_and {rest : List Expr} (h : ET X a σ H fun k H1 => if k = true then EW X (.BoolOp .And (b :: rest) pos) σ H1 QT else QT false H1) : EW X (.BoolOp .And (a :: b :: rest) pos) σ H QT := ew_of (pw_and pt_self pw_self) h
theorem ew_or {rest : List Expr} (h : ET X a σ H fun k H1 => if k = true then QT true H1 else EW X (.BoolOp .Or (b :: rest) pos) σ H1 QT) : EW X (.BoolOp .Or (a :: b :: rest) pos) σ H QT := ew_of (pw_or pt_self pw_self) h
theorem ew_and1 (h : ET X a σ H QT) : EW X (.BoolOp .And [a] pos) σ H QT := ew_of (pw_and1 pt_self) h
theorem ew_or1 (h : ET X a σ H QT) : EW X (.BoolOp .Or [a] pos) σ H QT := ew_of (pw_or1 pt_self) h
theorem ev_one {op} (h : EV X a σ H Q) : EV X (.BoolOp op [a] pos) σ H Q := ev_of (pe_one pe_self) h
theorem ev_and {rest : List Expr} (h : EV X a σ H fun x H1 => ∃ k, x = .bl k /\ if k = true then EV X (.BoolOp .And (b :: rest) pos) σ H1 Q else Q (.bl false) H1) : EV X (.BoolOp .And (a :: b :: rest) pos) σ H Q := ev_of (pe_and pe_self pe_self) h
theorem ev_notV (h : EV X a σ H fun x H1 => ∃ k, x = .bl k /\ Q (.bl (!k)) H1) : EV X (.UnaryOp .Not a pos) σ H Q := ev_of (pe_not pe_self) h
theorem ev_ifE (h : ET X c σ H fun k H1 => if k = true then EV X a σ H1 Q else EV X b σ H1 Q) : EV X (.IfExp c a b pos) σ H Q := ev_of (pe_ifExp pt_self pe_self pe_self) h
theorem ea_nil (q : QA [] H) : EA X [] σ H QA := ea_of pa_nil q
theorem ea_cons (hs : starEach (e :: es) X.env = (false, eval e X.env) :: starEach es X.env) (h : EV X e σ H fun x H1 => EA X es σ H1 fun xs H2 => QA (x :: xs) H2) : EA X (e :: es) σ H QA := ea_of (pa_cons pe_self pa_self hs) h
theorem ev_tup {x1} (h : EA X es σ H fun xs H1 => xs.length ≤ sizeLine /\ ∀ p, H1 p = none -> Q (.ref p) (upd H1 p (.tup xs))) : EV X (.Tuple es x1 pos) σ H Q := ev_of (pe_tup pa_self) h
theorem ev_lst (h : EA X es σ H fun xs H1 => xs.length ≤ sizeLine /\ ∀ p, H1 p = none -> Q (.ref p) (upd H1 p (.lst xs))) : EV X (.List es pos) σ H Q := ev_of (pe_lst pa_self) h
theorem ev_callB {id : String} (hg : Gl X x) (hm : X.mg x = none) (hv : bootBuiltins x = some (.builtin id)) (hn : x ≠ "__name__") (hdb : (x == ("__debug__" : Str)) = false)
  (he : starEach (e :: es) X.env = (false, eval e X.env) :: starEach es X.env) (hpl : (backTo pos (starEach es X.env)).any (·.1) = false) (h : EA X (e :: es) σ H fun vs H1 => CL X (.builtin id) vs H1 Q) : EV X (.Call (.Name x p) (e :: es) [] pos) σ H Q :=
 ev_of (pe_callB cl_self hg hm hv pa_self hn hdb he hpl) h
theorem ev_callT {T : String} (hg : Gl X x) (hm : X.mg x = none) (hv : bootBuiltins x = some (.type T)) (hn : x ≠ "__name__") (hdb : (x == ("__debug__" : Str)) = false)
  (he : starEach (e :: es) X.env = (false, eval e X.env) :: starEach es X.env) (hpl : (backTo pos (starEach es X.env)).any (·.1) = false) (h : EA X (e :: es) σ H fun vs H1 => CL X (.type T) vs H1 Q) : EV X (.Call (.Name x p) (e :: es) [] pos) σ H Q :=
 ev_of (pe_callTy cl_self hg hm hv pa_self hn hdb he hpl) h
structure Def (P : Program) (w : World) (K : PySem.W.Frag) (mg : Str -> Option Value) (base : Heap) (cc : Bool) (k : Nat) (x : Str) (ps : List Str) (sp : Sp) : Prop where
 ex : ∃ f fd, mg x = some (.ref f) /\ PySem.W.keepIn K (.ref f) = true /\ Binds K fd ps [] /\ FnOk P w K mg base (CX1 P w) cc k f fd ps sp
theorem Room.calmer {cc cc' : Bool} {k : Nat} {A : Around} (r : Room cc k A) (h : cc' = true -> cc = true) : Room cc' k A := ⟨fun z => r.hd (h z), r.dp, r.un⟩
theorem ev_call {Kx : St -> XK} {cc cc' : Bool} {k k' : Nat} {ps : List Str} {sp : Sp} (F : Def X.prog X.w X.K X.mg X.base cc' k x ps sp) (hr : Room cc k' X.A) (hk : k ≤ k') (hcc : cc' = true -> cc = true) (hg : Gl X x) (hx : XOk X Kx)
  (hdb : (x == ("__debug__" : Str)) = false) (he : starEach (e :: es) X.env = (false, eval e X.env) :: starEach es X.env) (hpl : (backTo pos (starEach es X.env)).any (·.1) = false)
  (h : EA X (e :: es) σ H fun vs H1 => sp vs H1 Q (Kx σ)) : EV X (.Call (.Name x p) (e :: es) [] pos) σ H Q := by
 obtain ⟨f, fd, h1, h2, h3, h4⟩ := F.ex
 intro pins s I
 refine wpAny_Call_Name_kw (ld_glob I hg h1 ?_ hdb)
 refine PySem.W.callWith_K (h₀ := X.base) I.ok.mod.kin h2 (thn (h pos pins s I) fun us s1 ⟨vs, H1, I1, r, q⟩ => ⟨I1.kIn, ?_⟩) he hpl
 exact run_fnX h4 ((hr.mono hk).calmer hcc) h3 hx I1 r q
theorem ev_ix (hs : PlainIx b) (h : EV X a σ H fun x H1 => EV X b σ H1 fun y H2 => IX X x y H2 Q) : EV X (.Subscript a b pos) σ H Q := ev_of (pe_ix ix_self pe_self pe_self hs) h
theorem eo_none {QO : Option Int -> Hp -> Prop} (q : QO none H) : EO X none σ H QO := ⟨_, po_none, q⟩
theorem eo_some {QO : Option Int -> Hp -> Prop} (q : EV X e σ H fun x H1 => ∃ i, x = .int i /\ QO (some i) H1) : EO X (some e) σ H QO := ⟨_, po_some pe_self, q⟩
theorem ev_sl {lo hi : Option Expr} {p2 : Pos} (h : EV X a σ H fun x H1 => EO X lo σ H1 fun l H2 => EO X hi σ H2 fun u H3 => SL X x l u H3 Q) : EV X (.Subscript a (.Slice lo hi none p2) pos) σ H Q := ev_of (pe_slice sl_self pe_self po_self po_self) h
theorem ev_bm {T id : String} {name : Str} (pa : PlainAttrs T) (slot : Slot T name id) (hty : typeOf (.builtin id) = pure (.type "method_descriptor"))
  (hbase : attributeBase a name X.env (eval a X.env) = eval a X.env)
  (hfew : ((backTo pos (starEach (e :: es) X.env)).all (fun x => !x.1) && (backToKw pos (keywordEach [] X.env)).all (fun x => x.1.isSome)
   && decide ((e :: es).length + ([] : List Keyword).length + (if ([] : List Keyword).isEmpty then 0 else 1) < 30)) = true)
  (hline : (apos.endLine == pos.line) = true) (hs : starEach (e :: es) X.env = (false, eval e X.env) :: starEach es X.env) (hplain : (backTo pos (starEach es X.env)).any (·.1) = false)
  (h : EV X a σ H fun x H1 => tyV X.K T x H1 /\ EA X (e :: es) σ H1 fun xs H2 => MT X id x xs H2 Q) : EV X (.Call (.Attribute a name apos) (e :: es) [] pos) σ H Q :=
 ev_of (pe_bm pa slot hty mt_self pe_self pa_self hbase hfew hline hs hplain) h
theorem sxs_nil (q : D.nx σ H) : SXs X [] D σ H := sxs_of pss_nil q
theorem sxs_cons {st : Stmt} {rest : List Stmt} (h : SX X st { D with nx := fun σ' H' => SXs X rest D σ' H' } σ H) : SXs X (st :: rest) D σ H := sxs_of (pss_cons ps_self pss_self) h
theorem sxs_one {st : Stmt} (h : SX X st D σ H) : SXs X [st] D σ H := sxs_of (pss_one ps_self) h
theorem sx_expr (hs : swapsWith e none pos.line X.env = pure false) (h : EV X e σ H fun _ H1 => D.nx σ H1) : SX X (.Expr e pos) D σ H := sx_of (ps_expr pe_self hs) h
theorem sx_ret (h : EV X e σ H D.rt) : SX X (.Return (some e) pos) D σ H := sx_of (ps_ret pe_self) h
theorem sx_if {t u : List Stmt} (h : ET X c σ H fun k H1 => if k = true then SXs X t D σ H1 else SXs X u D σ H1) : SX X (.If c t u pos) D σ H := sx_of (ps_if pt_self pss_self pss_self) h
theorem sx_set {i : Nat} {p' : Pos} (hN : X.N.Nodup) (hi : nameAt X.N x = some i) (hx : Loc X.env.scope x) (hs : swapsWith e (some (.Name x p')) pos.line X.env = pure false) (hf : X.fn x = true \/ X.env.scope.names.lookup x = some .local)
  (h : EV X e σ H fun v H1 => D.nx (σ.set i (some v)) H1) : SX X (.Assign [.Name x p'] e pos) D σ H := sx_of (ps_set hN (nameAt_get hi) hx pe_self hs hf) h
theorem eg_name {i : Nat} {QG : St -> Hp -> Prop} (hN : X.N.Nodup) (hi : nameAt X.N x = some i) (hx : Loc X.env.scope x) (hf : X.fn x = true \/ X.env.scope.names.lookup x = some .local) (q : QG (σ.set i (some v)) H) : EG X (.Name x pos) v σ H QG :=
 eg_of (pg_name hN (nameAt_get hi) hx hf) q
theorem egs_nil {QG : St -> Hp -> Prop} (q : QG σ H) : EGs X [] [] σ H QG := egs_of pgs_nil ⟨rfl, q⟩
theorem egs_cons {ts : List Expr} {vs : List V} {QG : St -> Hp -> Prop} (hs : (assignEach (e :: ts) X.env).map (·.2) = assign e X.env :: (assignEach ts X.env).map (·.2)) (h : EG X e v σ H fun σ' H' => EGs X ts vs σ' H' QG) : EGs X (e :: ts) (v :: vs) σ H QG :=
 egs_of (pgs_cons pg_self pgs_self hs) ⟨v, vs, rfl, h⟩
theorem eg_tup {n : Nat} {k : Nat} {QG : St -> Hp -> Prop} {q : Addr} {xs : List V} (hc : X.calm = true) (hn : (assignEach es X.env).length = n) (hst : (assignEach es X.env).findIdx? (·.1) = none)
  (ht : SqT X.K H q xs) (hl : xs.length = n) (h : EGs X es xs σ H QG) : EG X (.Tuple es k pos) (.ref q) σ H QG :=
 eg_of (pg_tup hc pgs_self hn hst) ⟨q, xs, rfl, ht, hl, h⟩
theorem sx_for {tg iter : Expr} {body : List Stmt} (hp : PassesOwn (model X.prog X.w) X.A X.env X.xe) (hc : X.calm = true) (hs : ∀ x, foldedSetIterable iter X.env x = pure x)
  (h : EI X tg iter σ H fun J H1 => ∃ W : Nat -> Nat -> St -> Hp -> Prop, (∃ m, W 0 m σ H1) /\ ∀ i m σ H, W i m σ H ->
   (J.stop i H /\ D.nx σ H) \/ (J.go i H /\ ∃ N : St -> Hp -> Prop, (∀ σ' H', N σ' H' -> ∃ m', m' < m /\ W (i + 1) m' σ' H') /\ ∀ x H', J.yld i H x H' -> EG X tg x σ H' fun σ2 H2 => SXs X body { D with nx := N, ct := N, bk := D.nx } σ2 H2)) :
  SX X (.For tg iter body [] pos) D σ H := sx_of (ps_for hp hc pi_self pg_self pss_self hs) h
theorem ei_list {tg l : Expr} {R : It -> Hp -> Prop} (h : EV X l σ H fun x H1 => ∃ a, x = .ref a /\ (∃ xs, SqL X.K H1 a xs) /\ R (Itl X.K a) H1) : EI X tg l σ H R := ei_of (pi_list pe_self) h
theorem ei_range1 {tg : Expr} {R : It -> Hp -> Prop} (hg : Gl X "range") (hm : X.mg "range" = none) (hs : starEach [a] X.env = [(false, eval a X.env)])
  (h : EA X [a] σ H fun vs H1 => ∃ j : Int, vs = [.int j] /\ -(2 ^ 62) ≤ j /\ j < 2 ^ 62 /\ R (Itr 0 j.toNat) H1) : EI X tg (.Call (.Name "range" p) [a] [] pos) σ H R := ei_of (pi_range1 hg hm pa_self hs) h
theorem ei_range2 {tg : Expr} {R : It -> Hp -> Prop} (hg : Gl X "range") (hm : X.mg "range" = none) (hs : starEach [a, b] X.env = [(false, eval a X.env), (false, eval b X.env)]) (hs2 : starEach [b] X.env = [(false, eval b X.env)])
  (h : EA X [a, b] σ H fun vs H1 => ∃ i j : Int, vs = [.int i, .int j] /\ (-(2 ^ 62) ≤ i /\ i < 2 ^ 62 /\ -(2 ^ 62) ≤ j /\ j < 2 ^ 62) /\ R (Itr i (j - i).toNat) H1) : EI X tg (.Call (.Name "range" p) [a, b] [] pos) σ H R := ei_of (pi_range2 hg hm pa_self hs hs2) h
theorem ev_mono {Q' : VK} (h : EV X e σ H Q) (m : ∀ v H', Q v H' -> Q' v H') : EV X e σ H Q' := fun pins s I => thn (h pins s I) fun _ _ ⟨v, H', I', r, q⟩ => ⟨v, H', I', r, m v H' q⟩
theorem op_by {f : Value -> Value -> Sem Value} {r : R2} {y z : V} (h : OpR X f r) (q : r y z H Q) : OP X f y z H Q := ⟨r, h, q⟩
variable {i j : Int} {k k' : Bool} {z z' : Str}
theorem o_add (q : Q (.int (i + j)) H) : OP X (binaryOp .Add) (.int i) (.int j) H Q := op_by op_add ⟨i, j, rfl, rfl, q⟩
theorem o_sub (q : Q (.int (i - j)) H) : OP X (binaryOp .Sub) (.int i) (.int j) H Q := op_by op_sub ⟨i, j, rfl, rfl, q⟩
theorem o_mul (c : CMul i j) (q : Q (.int (i * j)) H) : OP X (binaryOp .Mult) (.int i) (.int j) H Q := op_by op_mul ⟨i, j, rfl, rfl, c, q⟩
theorem o_fdiv (c : CDiv i j) (q : Q (.int (i / j)) H) : OP X (binaryOp .FloorDiv) (.int i) (.int j) H Q := op_by op_fdiv ⟨i, j, rfl, rfl, c, q⟩
theorem o_mod (c : 0 < j) (q : Q (.int (i % j)) H) : OP X (binaryOp .Mod) (.int i) (.int j) H Q := op_by op_mod ⟨i, j, rfl, rfl, c, q⟩
theorem o_pow (c : CPow i j) (q : Q (.int (i ^ j.toNat)) H) : OP X (binaryOp .Pow) (.int i) (.int j) H Q := op_by op_pow ⟨i, j, rfl, rfl, c, q⟩
theorem o_lt (q : Q (.bl (decide (i < j))) H) : OP X (compareOp .Lt) (.int i) (.int j) H Q := op_by op_lt ⟨i, j, rfl, rfl, q⟩
theorem o_le (q : Q (.bl (decide (i ≤ j))) H) : OP X (compareOp .LtE) (.int i) (.int j) H Q := op_by op_le ⟨i, j, rfl, rfl, q⟩
theorem o_gt (q : Q (.bl (decide (j < i))) H) : OP X (compareOp .Gt) (.int i) (.int j) H Q := op_by op_gt ⟨i, j, rfl, rfl, q⟩
theorem o_eq {y z : V} (s : scal y z = true) (q : Q (.bl (decide (y = z))) H) : OP X (compareOp .Eq) y z H Q := op_by op_eq ⟨s, q⟩
theorem o_ne {y z : V} (s : scal y z = true) (q : Q (.bl (!decide (y = z))) H) : OP X (compareOp .NotEq) y z H Q := op_by op_ne ⟨s, q⟩
theorem o_inS (q : Q (.bl (!(Builtin.Str.occurrences z' z 0 z'.length 1).isEmpty)) H) : OP X (compareOp .In) (.str z) (.str z') H Q := op_by op_in_str ⟨z, z', rfl, rfl, q⟩
theorem o_isN {y : V} (q : Q (.bl (decide (y = .non))) H) : OP X (compareOp .Is) y .non H Q := op_by op_isN ⟨rfl, q⟩
theorem o_notN {y : V} (q : Q (.bl (!decide (y = .non))) H) : OP X (compareOp .IsNot) y .non H Q := op_by op_notN ⟨rfl, q⟩
theorem o_addS (c : z.length + z'.length ≤ sizeLine) (q : Q (.str (z ++ z')) H) : OP X (binaryOp .Add) (.str z) (.str z') H Q := op_by op_add_str ⟨z, z', rfl, rfl, c, q⟩
theorem u_neg (q : Q (.int (-i)) H) : UN X (unaryOp .USub) (.int i) H Q := ⟨_, un_neg, i, rfl, q⟩
theorem cl_by {f : Value} {r : List V -> Hp -> VK -> Prop} {vs : List V} (h : CallR X f r) (q : r vs H Q) : CL X f vs H Q := ⟨r, h, q⟩
theorem c_len {q : Addr} {ys : List V} (h : SqL X.K H q ys \/ SqT X.K H q ys) (g : Q (.int ys.length) H) : CL X (.builtin "len") [.ref q] H Q := cl_by call_len_seq ⟨q, ys, rfl, h, g⟩
theorem c_lenS (h : z.length ≤ sizeLine) (g : Q (.int z.length) H) : CL X (.builtin "len") [.str z] H Q := cl_by call_len_str ⟨z, rfl, h, g⟩
theorem c_max2 (hc : X.calm = true) (g : Q (.int (if j > i then j else i)) H) : CL X (.builtin "max") [.int i, .int j] H Q := cl_by (call_max2 hc) ⟨i, j, rfl, g⟩
theorem c_list {q : Addr} {ys : List V} (h : SqL X.K H q ys \/ SqT X.K H q ys) (g : ∀ l, H l = none -> Q (.ref l) (upd H l (.lst ys))) : CL X (.type "list") [.ref q] H Q := cl_by call_list_of ⟨q, ys, rfl, h, g⟩
theorem ix_by {r : R2} {y z : V} (h : IxR X r) (q : r y z H Q) : IX X y z H Q := ⟨r, h, q⟩
theorem i_list {q : Addr} {xs : List V} (h : SqL X.K H q xs) (e : atI xs i = some v) (g : Q v H) : IX X (.ref q) (.int i) H Q := ix_by ix_list ⟨q, xs, i, v, rfl, rfl, h, e, g⟩
theorem i_tup {q : Addr} {xs : List V} (h : SqT X.K H q xs) (e : atI xs i = some v) (g : Q v H) : IX X (.ref q) (.int i) H Q := ix_by ix_tup ⟨q, xs, i, v, rfl, rfl, h, e, g⟩
theorem i_str {n : Nat} (h : z.length ≤ sizeLine) (e : atI z.cps.toList i = some n) (g : Q (.str ⟨#[n]⟩) H) : IX X (.str z) (.int i) H Q := ix_by ix_str ⟨z, i, n, rfl, rfl, h, e, g⟩
theorem s_list {q : Addr} {xs : List V} {lo hi : Option Int} (h : SqL X.K H q xs) (g : ∀ p, H p = none -> Q (.ref p) (upd H p (.lst (cutV xs lo hi)))) : SL X (.ref q) lo hi H Q := ⟨_, sl_list, q, xs, rfl, h, g⟩
theorem s_tup {q : Addr} {xs : List V} {lo hi : Option Int} (h : SqT X.K H q xs) (n : ¬ (HT.sIx xs.length 0 lo = 0 /\ HT.sIx xs.length xs.length hi = xs.length)) (g : ∀ p, H p = none -> Q (.ref p) (upd H p (.tup (cutV xs lo hi)))) : SL X (.ref q) lo hi H Q := ⟨_, sl_tup, q, xs, rfl, h, n, g⟩
theorem c_isinst {y : V} {t : Value} {T : String} (ty : TyOf X.K H y t) (e : PySem.W.kitOne X.K t (.type T) = some k) (g : Q (.bl k) H) : CL X (.builtin "isinstance") [y, .ty T] H Q := by
 refine ⟨fun xs H Q => ∃ y t T k, xs = [y, .ty T] /\ TyOf X.K H y t /\ PySem.W.kitOne X.K t (.type T) = some k /\ Q (.bl k) H, ?_, y, t, T, k, rfl, ty, e, g⟩
 intro pins s σ H xs us Q I r h
 obtain ⟨y, t, T, k, rfl, ty, e, g⟩ := h
 obtain ⟨u1, u2, rfl, r1, r2⟩ := vals2 r
 cases (show u2 = Value.type T from r2)
 exact isinst_ok I r1 ty e fun tk => ⟨.bl k, H, I.tok tk, rfl, g⟩
end
end L2
namespace L2
open PySem PySem.Spec PyProof.Rows
def Its (x : Str) : It := ⟨fun i _ => i < x.cps.size, fun i H v H' => H' = H /\ ∃ c, x.cps[i]? = some c /\ v = .str ⟨#[c]⟩, fun i _ => x.cps.size ≤ i⟩
theorem turn_str {P : Program} {w : World} {K : PySem.W.Frag} {tg : Expr} {T : String} (hT : T = "str_ascii_iterator" \/ T = "str_iterator") (it : Addr) (x : Str) (t : Tok) : Turn P w K tg (Its x) [it] it (fun i h => h.IsStrIter it T x t i) where
 mem := by simp
 obj := fun i h st b hb => by
  have e : b = it := by simpa using hb
  subst e
  obtain ⟨o, e, c, d⟩ := st
  exact ⟨o, e, fun v z => by rw [d] at z; cases z⟩
 keep := fun i h h' st k => by
  obtain ⟨o, e, c, d⟩ := st
  exact ⟨o, k it (by simp) o e, c, d⟩
 item := by
  intro X hP hw hK hc i pins s σ H E I hf st hg
  subst hP hw hK
  obtain ⟨f0, f1, f2, f3, f4, f5⟩ := hf it (by simp)
  have hg' : i < x.cps.size := hg
  have hW : ∃ W : Nat -> Heap -> Prop, Walks X.prog X.w X.A it [it] [it] x.cps.size (SignAt x) W /\ W = fun i h => h.IsStrIter it T x t i := by
   rcases hT with rfl | rfl
   ·exact ⟨_, Walks.strAscii (I.ok.hd hc) it x t, rfl⟩
   ·exact ⟨_, Walks.strWide (I.ok.hd hc) it x t, rfl⟩
  obtain ⟨_, W, rfl⟩ := hW
  refine W.item i s _ _ hg' st fun v h' tk hv st' kk => ?_
  obtain ⟨c, u, e1, rfl⟩ := hv
  have I1 : Inv X pins σ H { s with heap := h', toks := tk } := I.turned (fun b o hb e => kk b o (by simpa using hb) e) f0 f1 f3 f4 f5
  obtain ⟨o, e, c', d⟩ := id st'
  refine ⟨_, rfl, go_of (s := { s with heap := h', toks := tk }) (n := T) e c' d (by rcases hT with rfl | rfl <;> decide) ⟨.str ⟨#[c]⟩, H, I1, ⟨u, rfl⟩, ⟨rfl, c, e1, rfl⟩, st', fun b hb => (hf b hb).1⟩⟩
 done := by
  intro X hP hw hK hc i pins s σ H E I hf st hg
  subst hP hw hK
  obtain ⟨f0, f1, f2, f3, f4, f5⟩ := hf it (by simp)
  have hg' : x.cps[i]? = none := Array.getElem?_eq_none hg
  rcases hT with rfl | rfl
  ·exact wpAny_pyNext_ascii_end (I.ok.hd hc) st hg' fun h' eb => ⟨rfl, I.turned (t' := s.toks) (fun b o hb e => eb b o hb e) f0 f1 f3 f4 f5⟩
  ·exact wpAny_pyNext_wide_end (I.ok.hd hc) st hg' fun h' eb => ⟨rfl, I.turned (t' := s.toks) (fun b o hb e => eb b o hb e) f0 f1 f3 f4 f5⟩
 self := fun _ _ _ _ _ st h => by
  rcases hT with rfl | rfl
  ·exact wpAny_pyIter_striter_ascii st h
  ·exact wpAny_pyIter_striter_wide st h
section
variable {X : Cx} {tg l : Expr} {σ : St} {H : Hp} {R : It -> Hp -> Prop}
theorem ei_str (h : EV X l σ H fun x H1 => ∃ z, x = .str z /\ R (Its z) H1) : EI X tg l σ H R := by
 intro pins s I
 refine thn (h pins s I) fun v s1 ⟨x, H1, I1, r1, z, e, q⟩ => ?_
 subst e
 obtain ⟨t, rfl⟩ := r1
 have fin : ∀ T : String, (T = "str_ascii_iterator" \/ T = "str_iterator") ->
   PIE X pins σ tg R (.ref s1.heap.objs.size) { s1 with heap := s1.heap.push { cls := .type T, data := .fields #[.str z t, .int 0 0] } } := fun T hT => by
  refine ⟨s1.heap.objs.size, [s1.heap.objs.size], _, _, H1, rfl, I1.kept (t' := s1.toks) fun b o e => Heap.get?_push_of_some _ e, turn_str hT _ z t, ⟨_, Heap.get?_push_size _ rfl, rfl, rfl⟩, fun b hb => ?_, q⟩
  have e : b = s1.heap.objs.size := by simpa using hb
  subst e
  exact I1.fpOk (Nat.le_refl _) (I1.hok.fresh (Nat.le_refl _))
 cases ha : z.cps.all (· < 128)
 ·exact wpAny_pyIter_wide ha (fin _ (.inr rfl))
 ·exact wpAny_pyIter_ascii ha (fin _ (.inl rfl))
end
def capSt (N' N : List Str) (σ : St) (scope : Scope) : St := N'.map fun x => if scope.names.lookup x = some .free then nameV N σ x else none
def blk (X : Cx) (N' : List Str) (scope : Scope) (cl : List (Str × Addr)) (C : Addr) (s : Shared) (H : Hp) (fp : List Addr) : Cx :=
 { X with N := N', s₀ := s, H₀ := H, env := compEnvC scope cl C X.env, outer := X.stack, stack := X.stack, ex := fp, fn := fun _ => false, pn := [], xe := fun _ _ => False }
def EIfs (X : Cx) (ifs : List Expr) (σ : St) (H : Hp) (Q : Bool -> Hp -> Prop) : Prop :=
 ∀ (pins : List (Addr × Obj)) (s : Shared), Inv X pins σ H s ->
   wpAny (model X.prog X.w) X.A (forIn ifs true fun c r => if r = true then do let ok <- isTrue c X.env (eval c X.env); pure (ForInStep.yield ok) else pure (ForInStep.yield r)) (TP X pins σ Q) X.xe s
theorem closure_go (env : Env) : ∀ (names : List (Str × NameKind)) (cs : List (Str × Addr)), (∀ y ∈ names, y.2 = .free -> ∃ c, env.cells.lookup y.1 = some c) ->
  (forIn names cs (fun (x : Str × NameKind) (r : List (Str × Addr)) => if (x.2 == NameKind.free) = true then do let a <- cellOf env x.1; pure (ForInStep.yield ((x.1, a) :: r)) else pure (ForInStep.yield r)) : Sem (List (Str × Addr))) =
   pure (names.foldl (fun cs y => if y.2 == .free then (y.1, (env.cells.lookup y.1).getD 0) :: cs else cs) cs)
 | [], cs, _ => by simp
 | (n, k) :: r, cs, h => by
   rw [List.forIn_cons]
   by_cases hk : k = .free
   ·subst hk
    obtain ⟨c, e⟩ := h (n, .free) List.mem_cons_self rfl
    have e' : cellOf env n = pure c := by
     unfold cellOf
     have e2 : env.cells.lookup n = some c := e
     rw [e2]
    simp only [beq_self_eq_true, if_true, e', pure_bind]
    have e2 : env.cells.lookup n = some c := e
    rw [closure_go env r _ fun y hy => h y (List.mem_cons_of_mem _ hy), List.foldl_cons]
    simp only [beq_self_eq_true, if_true, e2, Option.getD_some]
   ·have hb : (k == NameKind.free) = false := by simpa using hk
    simp only [hb, Bool.false_eq_true, if_false, pure_bind]
    rw [closure_go env r _ fun y hy => h y (List.mem_cons_of_mem _ hy), List.foldl_cons]
    simp only [hb, Bool.false_eq_true, if_false]
def closL (scope : Scope) (env : Env) : List (Str × Addr) := scope.names.foldl (fun cs y => if y.2 == .free then (y.1, (env.cells.lookup y.1).getD 0) :: cs else cs) []
theorem closure_eq {scope : Scope} {env : Env} (h : ∀ y ∈ scope.names, y.2 = .free -> ∃ c, env.cells.lookup y.1 = some c) : closureFor scope env = pure (closL scope env) := by
 have := closure_go env scope.names [] h
 unfold closureFor closL
 rw [<- this]
 simp
theorem closL_mem {env : Env} : ∀ (names : List (Str × NameKind)) (cs : List (Str × Addr)), (∀ y ∈ names, y.2 = .free -> ∃ c, env.cells.lookup y.1 = some c) ->
  ∀ x c, (names.foldl (fun cs y => if y.2 == .free then (y.1, (env.cells.lookup y.1).getD 0) :: cs else cs) cs).lookup x = some c -> (env.cells.lookup x = some c \/ cs.lookup x = some c)
 | [], cs, _, x, c, e => .inr e
 | (n, k) :: r, cs, h, x, c, e => by
   rw [List.foldl_cons] at e
   rcases closL_mem r _ (fun y hy => h y (List.mem_cons_of_mem _ hy)) x c e with q | q
   ·exact .inl q
   ·by_cases hk : k = .free
    ·subst hk
     obtain ⟨c', e'⟩ := h (n, .free) List.mem_cons_self rfl
     have e2 : env.cells.lookup n = some c' := e'
     simp only [beq_self_eq_true, if_true, e2, Option.getD_some, List.lookup_cons] at q
     cases hx : x == n with
     | true =>
       rw [hx] at q
       have hx' : x = n := by simpa using hx
       subst hx'
       exact .inl (e2.trans q)
     | false => rw [hx] at q; exact .inr q
    ·have hb : (k == NameKind.free) = false := by simpa using hk
     rw [if_neg (by simp [hb])] at q
     exact .inr q
theorem closL_has {env : Env} : ∀ (names : List (Str × NameKind)) (cs : List (Str × Addr)) (x : Str), ((x, NameKind.free) ∈ names \/ ∃ c, cs.lookup x = some c) ->
  ∃ c, (names.foldl (fun cs y => if y.2 == .free then (y.1, (env.cells.lookup y.1).getD 0) :: cs else cs) cs).lookup x = some c
 | [], cs, x, h => by
   rcases h with h | h
   ·cases h
   ·exact h
 | (n, k) :: r, cs, x, h => by
   rw [List.foldl_cons]
   refine closL_has r _ x ?_
   by_cases hk : k = .free
   ·subst hk
    simp only [beq_self_eq_true, if_true, List.lookup_cons]
    cases hx : x == n with
    | true => exact .inr ⟨_, rfl⟩
    | false =>
      rcases h with h | h
      ·rcases List.mem_cons.mp h with h | h
       ·cases h
        simp at hx
       ·exact .inl h
      ·exact .inr h
   ·have hb : (k == NameKind.free) = false := by simpa using hk
    rw [if_neg (by simp [hb])]
    rcases h with h | h
    ·rcases List.mem_cons.mp h with h | h
     ·cases h
      exact absurd rfl hk
     ·exact .inl h
    ·exact .inr h
theorem relabel_free {env : Env} {x : Str} : ∀ {names : List (Str × NameKind)}, names.lookup x = some .free ->
  (names.map fun (n, k) => if (k == NameKind.free && env.scope.kind == .function && env.kindOf n == some .cell) then (n, NameKind.cell) else (n, k)).lookup x = some .cell \/
  (names.map fun (n, k) => if (k == NameKind.free && env.scope.kind == .function && env.kindOf n == some .cell) then (n, NameKind.cell) else (n, k)).lookup x = some .free
 | [], h => by simp at h
 | (n, k') :: r, h => by
   have ih := @relabel_free env x r
   show List.lookup x ((if (k' == NameKind.free && env.scope.kind == .function && env.kindOf n == some .cell) = true then (n, NameKind.cell) else (n, k')) :: _) = _ \/ List.lookup x ((if (k' == NameKind.free && env.scope.kind == .function && env.kindOf n == some .cell) = true then (n, NameKind.cell) else (n, k')) :: _) = _
   cases hx : x == n with
   | true =>
     simp only [List.lookup_cons, hx] at h
     cases h
     by_cases hc : (NameKind.free == NameKind.free && env.scope.kind == .function && env.kindOf n == some .cell) = true
     ·rw [if_pos hc]; left; simp only [List.lookup_cons, hx]
     ·rw [if_neg hc]; right; simp only [List.lookup_cons, hx]
   | false =>
     simp only [List.lookup_cons, hx] at h
     by_cases hc : (k' == NameKind.free && env.scope.kind == .function && env.kindOf n == some .cell) = true
     ·rw [if_pos hc]; simp only [List.lookup_cons, hx]; exact ih h
     ·rw [if_neg hc]; simp only [List.lookup_cons, hx]; exact ih h
theorem relabel_cf {env : Env} {x : Str} : ∀ {names : List (Str × NameKind)}, (∀ y ∈ names, y.2 ≠ .cell) ->
  ((names.map fun (n, k) => if (k == NameKind.free && env.scope.kind == .function && env.kindOf n == some .cell) then (n, NameKind.cell) else (n, k)).lookup x = some .cell \/
  (names.map fun (n, k) => if (k == NameKind.free && env.scope.kind == .function && env.kindOf n == some .cell) then (n, NameKind.cell) else (n, k)).lookup x = some .free) -> (x, NameKind.free) ∈ names
 | [], _, h => by simp at h
 | (n, k') :: r, hc0, h => by
   have ih := @relabel_cf env x r fun y hy => hc0 y (List.mem_cons_of_mem _ hy)
   have h' : List.lookup x ((if (k' == NameKind.free && env.scope.kind == .function && env.kindOf n == some .cell) = true then (n, NameKind.cell) else (n, k')) :: (r.map fun (n, k) => if (k == NameKind.free && env.scope.kind == .function && env.kindOf n == some .cell) then (n, NameKind.cell) else (n, k))) = some .cell \/
    List.lookup x ((if (k' == NameKind.free && env.scope.kind == .function && env.kindOf n == some .cell) = true then (n, NameKind.cell) else (n, k')) :: (r.map fun (n, k) => if (k == NameKind.free && env.scope.kind == .function && env.kindOf n == some .cell) then (n, NameKind.cell) else (n, k))) = some .free := h
   cases hx : x == n with
   | true =>
     have hx' : x = n := by simpa using hx
     subst hx'
     by_cases hc : (k' == NameKind.free && env.scope.kind == .function && env.kindOf x == some .cell) = true
     ·have : k' = .free := by simp only [Bool.and_eq_true] at hc; simpa using hc.1.1
      subst this
      exact List.mem_cons_self
     ·rw [if_neg hc] at h'
      simp only [List.lookup_cons, hx] at h'
      rcases h' with h' | h'
      ·cases h'
       exact absurd rfl (hc0 (x, .cell) List.mem_cons_self)
      ·cases h'
       exact List.mem_cons_self
   | false =>
     refine List.mem_cons_of_mem _ (ih ?_)
     by_cases hc : (k' == NameKind.free && env.scope.kind == .function && env.kindOf n == some .cell) = true
     ·rw [if_pos hc] at h'; simpa only [List.lookup_cons, hx] using h'
     ·rw [if_neg hc] at h'; simpa only [List.lookup_cons, hx] using h'
theorem compLoop_any {prog : Program} {w : World} {A : Around} {R : Result -> Shared -> Prop} {s : Shared} {elt target iter : Expr} {ifs : List Expr} {scope : Scope} {pos : Pos} {it acc : Value} {env : Env} (I : Nat -> Shared -> Prop)
  (turn : ∀ n s, I n s -> wpAny (model prog w) A (pyNext it) (fun r s₁ => match r with
   | none => R (.ok .next) s₁
   | some v => wpAny (model prog w) A (letOwnedTupleGo target it v) (fun _ s₁' => wpAny (model prog w) A (assign target env v) (fun _ s₂ =>
     wpAny (model prog w) A (forIn ifs true fun c r => if r = true then do let ok <- isTrue c env (eval c env); pure (ForInStep.yield ok) else pure (ForInStep.yield r)) (fun ok s₃ =>
      if ok = true then wpAny (model prog w) A (eval elt env) (fun x s₄ =>
       wpAny (model prog w) A (call (.builtin "list.append") [acc, x]) (fun _ s₅ => ∃ m, m < n /\ I m s₅) (fun _ _ => False) s₄) (fun _ _ => False) s₃
      else ∃ m, m < n /\ I m s₃) (fun _ _ => False) s₂) (fun _ _ => False) s₁') (fun _ _ => False) s₁) (fun _ _ => False) s)
  (n : Nat) (h : I n s) :
  codeAny (model prog w) A (.compLoop (.ListComp elt [⟨target, iter, ifs, 0⟩] scope pos) 0 it acc env) R s := by
 refine codeAny_loop rfl I (fun n s hI => ?_) n h
 show wpAny _ A ((compTurn (.ListComp elt [⟨target, iter, ifs, 0⟩] scope pos) 0 it acc env).onRaise (fun x => do noteFrame x env; theTreesLotGoes x)) _ _ s
 refine wpAny_noted ?_
 rw [compTurn_list]
 refine wpAny_bind (wpAny_standAt (wpAny_bind (wpAny_mono (turn n s hI) (fun r s₁ h₁ => ?_) fun _ _ h' => h'.elim)))
 cases r with
 | none => exact wpAny_pure h₁
 | some v =>
   refine wpAny_bind (wpAny_mono h₁ (fun _ s₁' h₁' => ?_) fun _ _ h' => h'.elim)
   refine wpAny_bind (wpAny_mono h₁' (fun _ s₂ h₂ => wpAny_bind (wpAny_mono h₂ (fun ok s₃ h₃ => ?_) fun _ _ h' => h'.elim)) fun _ _ h' => h'.elim)
   cases ok with
   | false => exact wpAny_pure ⟨rfl, h₃⟩
   | true =>
     exact wpAny_bind (wpAny_bind (wpAny_mono h₃ (fun x s₄ h₄ => wpAny_bind (wpAny_mono h₄ (fun _ s₅ h₅ => wpAny_pure (wpAny_pure ⟨rfl, h₅⟩)) fun _ _ h' => h'.elim)) fun _ _ h' => h'.elim))
end L2
namespace L2
open PySem PySem.Spec PyProof.Rows
section
variable {X : Cx} {pins : List (Addr × Obj)} {σ : St} {H H' : Hp} {s s' : Shared} {scope : Scope} {fp : List Addr} {N' : List Str}
structure CompSc (env : Env) (scope : Scope) : Prop where
 kind : scope.kind = .function
 free : ∀ y ∈ scope.names, y.2 = .free -> env.kindOf y.1 = some .cell \/ env.kindOf y.1 = some .free
 cell : ∀ y ∈ scope.names, y.2 ≠ .cell
 loc : ∀ y ∈ scope.names, y.2 = .local -> scope.names.lookup y.1 = some .local
theorem CompSc.has (S : CompSc X.env scope) (I : Inv X pins σ H s) : ∀ y ∈ scope.names, y.2 = .free -> ∃ c, X.env.cells.lookup y.1 = some c := fun y hy e => I.ok.has y.1 (S.free y hy e)
theorem CompSc.cl (S : CompSc X.env scope) (I : Inv X pins σ H s) {x : Str} {c : Addr} (h : (closL scope X.env).lookup x = some c) : X.env.cells.lookup x = some c := by
 rcases closL_mem scope.names [] (S.has I) x c h with q | q
 ·exact q
 ·simp at q
theorem blk_ok (S : CompSc X.env scope) (I : Inv X pins σ H s) (hf : ∀ b ∈ fp, FpOk X pins H b) (hfs : ∀ b ∈ fp, b < s.heap.objs.size) : (blk X N' scope (closL scope X.env) s.heap.objs.size s H fp).Ok where
 mod := I.ok.mod
 kind := S.kind
 glob := I.ok.glob
 blt := I.ok.blt
 above := Nat.le_refl _
 inj := fun x y c h1 h2 => I.ok.inj x y c (S.cl I h1) (S.cl I h2)
 has := fun x hx => closL_has (env := X.env) scope.names [] x (.inl (relabel_cf S.cell hx))
 cab := fun x c h _ => by cases h
 hd := I.ok.hd
 frames := I.ok.frames
 stk := .inl rfl
 exf := fun b hb => ⟨Nat.ne_of_lt (hfs b hb), fun x c h => (hf b hb).2.2.2.2.1 x c (S.cl I h)⟩
 bs := I.bs
 bsz := Nat.le_trans I.ok.bsz I.sz
 noex := fun b o e hb => by
  rcases (hf b hb).2.2.2.1 with z | z
  ·exact I.ok.noex b o e z
  ·rw [(I.ok.bs b o e).1] at z; cases z
 exfs := fun b hb z => by
  rcases List.mem_cons.mp (I.stkSub b z) with e | e
  ·exact (hf b hb).2.1 e
  ·exact (hf b hb).2.2.1 e
 funs := I.stack
 frf := I.stkFree
theorem capSt_get {N : List Str} {i : Nat} {x : Str} {v : V} (h1 : N'[i]? = some x) (h2 : (capSt N' N σ scope)[i]? = some (some v)) : scope.names.lookup x = some .free /\ nameV N σ x = some v := by
 unfold capSt at h2
 rw [List.getElem?_map, h1] at h2
 have h3 : (if scope.names.lookup x = some .free then nameV N σ x else none) = some v := by simpa using h2
 split at h3
 ·rename_i e
  exact ⟨e, h3⟩
 ·cases h3
theorem blk_inv (S : CompSc X.env scope) (I : Inv X pins σ H s) (hf : ∀ b ∈ fp, FpOk X pins H b) (hfs : ∀ b ∈ fp, b < s.heap.objs.size) {h₁ : Heap} {m : Str -> Option Value} {tk : Nat} (hns : h₁.Ns s.heap.objs.size m)
  (old : ∀ b o, s.heap.get? b = some o -> h₁.get? b = some o) : Inv (blk X N' scope (closL scope X.env) s.heap.objs.size s H fp) [] (capSt N' X.N σ scope) H { s with heap := h₁, toks := tk } where
 ok := blk_ok S I hf hfs
 os := rfl
 bare := I.bare
 base := Un.kept old
 loc := by
  refine ⟨m, hns, fun i x v h1 h2 h3 => ?_⟩
  obtain ⟨e1, e2⟩ := capSt_get h1 h2
  obtain ⟨j, g1, g2⟩ := nameV_get e2
  have hm : (x, NameKind.free) ∈ scope.names := PySem.mem_of_lookup e1
  have hk := S.free _ hm rfl
  obtain ⟨m0, _, hl⟩ := I.loc
  have vis : Vis X.env.scope x := .inr hk
  obtain ⟨u, r, lk⟩ := hl j x v g1 g2 vis
  refine ⟨u, r, .inr ⟨relabel_free (env := X.env) e1, ?_⟩⟩
  rcases lk with ⟨k, _⟩ | ⟨_, c, e, z⟩
  ·rcases hk with hk | hk
   ·have hk' : X.env.kindOf x = some .cell := hk
    rw [hk'] at k; cases k
   ·have hk' : X.env.kindOf x = some .free := hk
    rw [hk'] at k; cases k
  ·obtain ⟨c', e'⟩ := closL_has (env := X.env) scope.names [] x (.inl hm)
   have e3 := S.cl I (x := x) (c := c') e'
   rw [e] at e3
   cases e3
   obtain ⟨o, ho, hd⟩ := z
   exact ⟨c, e', o, old _ _ ho, hd⟩
 cell := fun x c h => by
  obtain ⟨v, o, ho, hd⟩ := I.cell x c (S.cl I h)
  exact ⟨v, o, old _ _ ho, hd⟩
 free := I.hok.fresh (Nat.le_refl _)
 freeC := fun x c h => I.freeC x c (S.cl I h)
 pin := fun p hp => absurd (show p ∈ ([] : List (Addr × Obj)) from hp) (by simp)
 hok := I.hok.kept old
 len := by show (capSt N' X.N σ scope).length = N'.length; unfold capSt; rw [List.length_map]
theorem blk_end {τ : St} (I : Inv X pins σ H s) (hf : ∀ b ∈ fp, FpOk X pins H b) (J : Inv (blk X N' scope (closL scope X.env) s.heap.objs.size s H fp) [] τ H' s') : Inv X pins σ H' s' := by
 obtain ⟨hh, g, d, t, os'⟩ := s'
 have e : os' = s.os := J.os
 subst e
 exact I.call (h' := hh) (g' := g) (d' := d) (t' := t) (ch := fp) J.base J.hok J.bare fun b hb => ⟨(hf b hb).2.2.2.1, (hf b hb).2.1, (hf b hb).2.2.2.2.1, (hf b hb).2.2.2.2.2⟩
variable {elt iter tg : Expr} {ifs : List Expr} {pos : Pos}
def CompT (X Y : Cx) (tg elt : Expr) (ifs : List Expr) (J : It) (D : Addr) (σ' : St) (H : Hp) (Q : Hp -> Prop) : Prop :=
 ∃ W : Nat -> Nat -> St -> Hp -> Prop, (∃ m, W 0 m σ' (upd H D (.lst []))) /\ ∀ i m τ H, W i m τ H ->
   (J.stop i H /\ Q H) \/ (J.go i H /\ ∃ N : St -> Hp -> Prop, (∀ τ' H', N τ' H' -> ∃ m', m' < m /\ W (i + 1) m' τ' H') /\ ∀ x H', J.yld i H x H' ->
    EG Y tg x τ H' fun τ2 H2 => EIfs Y ifs τ2 H2 fun k H3 => if k = true then EV Y elt τ2 H3 fun y H4 => ∃ xs, H4 D = some (.lst xs) /\ xs.length < sizeLine /\ N τ2 (upd H4 D (.lst (xs ++ [y]))) else N τ2 H3)
theorem comp_run {R : Value -> Addr -> Result -> Shared -> Prop} {it : Addr} {tn : Nat -> Heap -> Prop} {J : It} {E : Value -> Shared -> Prop} {Q : Addr -> Hp -> Prop} (hc : X.calm = true) (S : CompSc X.env scope) (I : Inv X pins σ H s)
  (T : Turn X.prog X.w X.K tg J fp it tn) (st : tn 0 s.heap) (hf : ∀ b ∈ fp, FpOk X pins H b)
  (h : ∀ (D C : Addr) (s3 : Shared), H D = none -> CompT X (blk X N' scope (closL scope X.env) C s3 (upd H D (.lst [])) fp) tg elt ifs J D (capSt N' X.N σ scope) H (Q D))
  (hR : ∀ (D C : Addr) (H' : Hp) (s' : Shared), H D = none -> Q D H' -> Inv X pins σ H' s' -> FpOk X pins H' C -> (∃ m, s'.heap.Ns C m) -> R (.ref D) C (.ok .next) s') :
  wpAny (model X.prog X.w) X.A (newList []) (fun acc s₃ => wpAny (model X.prog X.w) X.A (newFunctionEnv scope X.env.globals (closL scope X.env) [] X.env.qual none .none (some X.env)) (fun cenv s₄ =>
   codeAny (model X.prog X.w) X.A (.compStart (.ListComp elt [⟨tg, iter, ifs, 0⟩] scope pos) 0 (.ref it) acc { cenv with scope := relabel scope X.env }) (R acc cenv.locals) s₄) E s₃) E s := by
 refine wpAny_newObj_type ?_
 have hD : H s.heap.objs.size = none := I.hok.fresh (Nat.le_refl _)
 generalize hs3 : ({ s with heap := s.heap.push { cls := .type "list", dict := none, data := .seq ([] : List Value).toArray } } : Shared) = s3
 have I3 : Inv X pins σ (upd H s.heap.objs.size (.lst [])) s3 := by
  subst hs3
  exact I.laid (t' := s.toks) (fun b u e => Heap.get?_push_of_some _ e) (Nat.le_refl _) ⟨Nat.zero_le _, [], 0, .nil, Heap.get?_push_size _ rfl⟩
 have hsz : s3.heap.objs.size = s.heap.objs.size + 1 := by subst hs3; exact Heap.size_push ..
 have old3 : ∀ b o, s.heap.get? b = some o -> s3.heap.get? b = some o := fun b o e => by subst hs3; exact Heap.get?_push_of_some _ e
 have fpl : ∀ b ∈ fp, b < s.heap.objs.size := fun b hb => by
  obtain ⟨o, e, _⟩ := T.obj _ _ st b hb
  exact Heap.lt_size e
 have hf3 : ∀ b ∈ fp, FpOk X pins (upd H s.heap.objs.size (.lst [])) b := fun b hb => ⟨by rw [upd_ne (Nat.ne_of_lt (fpl b hb))]; exact (hf b hb).1, (hf b hb).2⟩
 have st3 : tn 0 s3.heap := T.keep _ _ _ st fun b _ o e => old3 b o e
 have fpl3 : ∀ b ∈ fp, b < s3.heap.objs.size := fun b hb => by rw [hsz]; exact Nat.lt_succ_of_lt (fpl b hb)
 refine wpAny_newFunctionEnv S.cell (by intro y hy; simp at hy) (fun h₁ hns hsb => ?_) S.kind
 have old4 : ∀ b o, s3.heap.get? b = some o -> h₁.get? b = some o := fun b o e => hsb.extBut b o (Nat.ne_of_lt (Heap.lt_size e)) (Heap.get?_push_of_some _ e)
 generalize hY : blk X N' scope (closL scope X.env) s3.heap.objs.size s3 (upd H s.heap.objs.size (.lst [])) fp = Y
 have hT := h s.heap.objs.size s3.heap.objs.size s3 hD
 rw [hY] at hT
 obtain ⟨W, ⟨m0, w0⟩, turn⟩ := hT
 generalize hs4 : ({ s3 with heap := h₁, toks := s3.toks + ([] : List (Str × Value)).length } : Shared) = s4
 have I4 : Inv Y [] (capSt N' X.N σ scope) (upd H s.heap.objs.size (.lst [])) s4 := by
  subst hs4
  rw [<- hY]
  exact blk_inv S I3 hf3 fpl3 hns old4
 have st4 : tn 0 s4.heap := by
  subst hs4
  exact T.keep _ _ _ st3 fun b _ o e => old4 b o e
 have hP : Y.prog = X.prog := by rw [<- hY]; rfl
 have hw : Y.w = X.w := by rw [<- hY]; rfl
 have hK : Y.K = X.K := by rw [<- hY]; rfl
 have hA : Y.A = X.A := by rw [<- hY]; rfl
 have hcY : Y.calm = true := by rw [<- hY]; exact hc
 have hE : Y.xe = fun _ _ => False := by rw [<- hY]; rfl
 have hen : Y.env = compEnvC scope (closL scope X.env) s3.heap.objs.size X.env := by rw [<- hY]; rfl
 have hloc : Y.env.locals = s3.heap.objs.size := by rw [hen]; rfl
 have fpY : ∀ b ∈ fp, ∀ H' : Hp, H' b = none -> FpOk Y [] H' b := fun b hb H' e => by
  rw [<- hY]
  refine ⟨e, Nat.ne_of_lt (fpl3 b hb), fun z => ?_, .inl hb, fun x c q => (hf3 b hb).2.2.2.2.1 x c (S.cl I3 q), fun p hp => absurd (show p ∈ ([] : List (Addr × Obj)) from hp) (by simp)⟩
  rcases List.mem_cons.mp (I3.stkSub b z) with e | e
  ·exact (hf b hb).2.1 e
  ·exact (hf b hb).2.2.1 e
 have loop : codeAny (model X.prog X.w) X.A (.compLoop (.ListComp elt [⟨tg, iter, ifs, 0⟩] scope pos) 0 (.ref it) (.ref s.heap.objs.size) Y.env) (R (.ref s.heap.objs.size) s3.heap.objs.size) s4 := by
  refine compLoop_any (fun n s' => ∃ i τ H', Inv Y [] τ H' s' /\ tn i s'.heap /\ (∀ b ∈ fp, H' b = none) /\ W i n τ H') ?_ m0 ⟨0, _, _, I4, st4, fun b hb => (hf3 b hb).1, w0⟩
  rintro n s5 ⟨i, τ, H5, I5, st5, fr5, w5⟩
  have toF : ∀ {α : Type} {t : Sem α} {Q : α -> Shared -> Prop} {s : Shared}, wpAny (model Y.prog Y.w) Y.A t Q Y.xe s -> wpAny (model X.prog X.w) X.A t Q (fun _ _ => False) s := fun h => by
   rw [hP, hw, hA, hE] at h; exact h
  rcases turn i n τ H5 w5 with ⟨stop, qn⟩ | ⟨go, N, hN, step⟩
  ·have q := T.done Y hP hw hK hcY i [] s5 τ H5 (fun _ _ => False) I5 (fun b hb => fpY b hb _ (fr5 b hb)) st5 stop
   rw [hA] at q
   refine thn q fun r s6 ⟨hr, I6⟩ => ?_
   subst hr
   have IX6 : Inv X pins σ H5 s6 := by
    have I6' := I6
    rw [<- hY] at I6'
    exact blk_end I3 hf3 I6'
   refine hR _ _ H5 s6 hD qn IX6 (I3.fpOk (Nat.le_refl _) ?_) ?_
   ·have := I6.free
    rw [hloc] at this
    exact this
   ·obtain ⟨m, hn, _⟩ := I6.loc
    rw [hloc] at hn
    exact ⟨m, hn⟩
  ·have q := T.item Y hP hw hK hcY i [] s5 τ H5 (fun _ _ => False) I5 (fun b hb => fpY b hb _ (fr5 b hb)) st5 go
   rw [hA] at q
   refine thn q fun r s6 ⟨u, hr, h6⟩ => ?_
   subst hr
   refine thn h6 fun _ s7 ⟨x, H7, I7, r7, y7, st7, fr7⟩ => ?_
   have I7' := I7.pinned (fun b hb => fpY b hb _ (fr7 b hb)) (T.obj _ _ st7)
   have pinK : ∀ {τ' : St} {H8 : Hp} {s8 : Shared}, Inv Y ([] ++ pinsAt fp s7.heap) τ' H8 s8 -> tn (i + 1) s8.heap /\ ∀ b ∈ fp, H8 b = none := fun {τ' H8 s8} I8 => by
    refine ⟨T.keep _ _ _ st7 fun b hb o e => (I8.pin (b, o) (List.mem_append_right _ (List.mem_append_right _ (mem_pinsAt hb e)))).1, fun b hb => ?_⟩
    obtain ⟨o, e, d⟩ := T.obj _ _ st7 b hb
    exact (I8.pin (b, o) (List.mem_append_right _ (List.mem_append_right _ (mem_pinsAt hb e)))).2.1
   refine toF (thn (step x H7 y7 _ s7 u I7' r7) fun _ s8 ⟨τ8, H8, I8, q8⟩ => ?_)
   refine toF (thn (q8 _ s8 I8) fun ok s9 ⟨H9, I9, q9⟩ => ?_)
   cases ok with
   | false =>
     have q9' : N τ8 H9 := by simpa using q9
     obtain ⟨m', hm, w9⟩ := hN _ _ q9'
     obtain ⟨k1, k2⟩ := pinK I9
     show ∃ m, _
     exact ⟨m', hm, i + 1, τ8, H9, I9.unpinned, k1, k2, w9⟩
   | true =>
     have q9' : EV Y elt τ8 H9 fun y H4 => ∃ xs, H4 s.heap.objs.size = some (.lst xs) /\ xs.length < sizeLine /\ N τ8 (upd H4 s.heap.objs.size (.lst (xs ++ [y]))) := by simpa using q9
     show wpAny _ _ _ _ _ _
     refine toF (thn (q9' _ s9 I9) fun z s10 ⟨y, H10, I10, r10, xs, e10, l10, n10⟩ => ?_)
     refine toF (thn (mt_append _ s10 τ8 H10 (.ref s.heap.objs.size) [y] _ [z] (fun v H11 => v = .non /\ H11 = upd H10 s.heap.objs.size (.lst (xs ++ [y]))) I10 rfl (.cons r10 .nil) ⟨_, xs, y, rfl, rfl, e10, l10, rfl, rfl⟩) fun _ s11 ⟨_, H11, I11, _, _, e11⟩ => ?_)
     subst e11
     obtain ⟨m', hm, w11⟩ := hN _ _ n10
     obtain ⟨k1, k2⟩ := pinK I11
     exact ⟨m', hm, i + 1, τ8, _, I11.unpinned, k1, k2, w11⟩
 rw [hen] at loop
 exact codeAny_compStart_list loop (T.self X.A 0 s4 _ _ st4 loop)
theorem ev_comp {Q : VK} (hc : X.calm = true) (S : CompSc X.env scope) (hs : ∀ x, foldedSetIterable iter X.env x = pure x)
  (h : EI X tg iter σ H fun J H1 => ∀ (fp : List Addr) (D C : Addr) (s3 : Shared), H1 D = none -> CompT X (blk X N' scope (closL scope X.env) C s3 (upd H1 D (.lst [])) fp) tg elt ifs J D (capSt N' X.N σ scope) H1 (fun H' => Q (.ref D) H')) :
  EV X (.ListComp elt [⟨tg, iter, ifs, 0⟩] scope pos) σ H Q := by
 intro pins s I
 rw [eval_ListComp]
 refine wpAny_comprehension_free (use := none) rfl hs (closure_eq (S.has I)) S.kind S.loc (thn (h pins s I) fun v s1 h1 => thn h1 fun itv s2 h2 => ?_)
 obtain ⟨it, fp, tn, J, H2, e, I2, T, st2, f2, q2⟩ := h2
 subst e
 refine comp_run (R := fun acc C => compPost (model X.prog X.w) X.A X.xe none (EP X pins σ Q) acc C) (Q := fun D H' => Q (.ref D) H') hc S I2 T st2 f2 (fun D C s3 hD => q2 fp D C s3 hD) fun D C H' s' hD qD IX fC hn => ?_
 obtain ⟨m, hn⟩ := hn
 obtain ⟨f0, f1, f2', f3, f4, f5⟩ := fC
 exact ⟨m, hn, fun h' hsb => ⟨.ref D, H', IX.turned (t' := s'.toks) (fun b o hb e => hsb.extBut b o hb e) f0 f1 f3 f4 f5, rfl, qD⟩⟩
theorem sx_comp {D : Ends} {y : Str} {py spos : Pos} {j : Nat} (hsw : swapsWith (.ListComp elt [⟨tg, iter, ifs, 0⟩] scope pos) (some (.Name y py)) spos.line X.env = pure true) (hc : X.calm = true) (S : CompSc X.env scope) (hs : ∀ x, foldedSetIterable iter X.env x = pure x)
  (hN : X.N.Nodup) (hi : nameAt X.N y = some j) (hx : X.env.scope.names.lookup y = some .local)
  (h : EI X tg iter σ H fun J H1 => ∀ (fp : List Addr) (E C : Addr) (s3 : Shared), H1 E = none -> CompT X (blk X N' scope (closL scope X.env) C s3 (upd H1 E (.lst [])) fp) tg elt ifs J E (capSt N' X.N σ scope) H1 (fun H' => D.nx (σ.set j (some (.ref E))) H')) :
  SX X (.Assign [.Name y py] (.ListComp elt [⟨tg, iter, ifs, 0⟩] scope pos) spos) D σ H := by
 intro pins s I
 rw [exec_Assign_Name_used _ _ _ _ hsw]
 refine wpAny_bind (wpAny_standAt (wpAny_bind ?_))
 show wpAny _ X.A (do let _ <- comprehension (.ListComp elt [⟨tg, iter, ifs, 0⟩] scope pos) scope X.env _ (newList []) false (eval iter X.env) (some (assign (.Name y py) X.env))) _ _ s
 refine wpAny_bind (wpAny_mono (wpAny_comprehension_free (use := some (assign (.Name y py) X.env)) (Q := fun _ s' => SP X pins D .next s') rfl hs (closure_eq (S.has I)) S.kind S.loc
  (thn (h pins s I) fun v s1 h1 => thn h1 fun itv s2 h2 => ?_)) (fun _ s' hq => wpAny_pure (wpAny_pure hq)) fun _ _ e => e)
 obtain ⟨it, fp, tn, J, H2, e, I2, T, st2, f2, q2⟩ := h2
 subst e
 refine comp_run (R := fun acc C => compPost (model X.prog X.w) X.A X.xe (some (assign (.Name y py) X.env)) (fun _ s' => SP X pins D .next s') acc C) (Q := fun E H' => D.nx (σ.set j (some (.ref E))) H') hc S I2 T st2 f2 (fun E C s3 hD => q2 fp E C s3 hD) fun E C H' s' hD qD IX fC hn => ?_
 obtain ⟨m, hn⟩ := hn
 obtain ⟨f0, f1, f2', f3, f4, f5⟩ := fC
 show wpAny _ _ (assign (.Name y py) X.env (.ref E)) _ _ _
 refine wpAny_assign_Name (store_ok2 IX hN (nameAt_get hi) (.inl hx) (v := .ref E) rfl (fun s'' I'' hb => ?_) (.inr hx))
 obtain ⟨a, sb, ha⟩ := hb
 have hCa : C ≠ a := by
  rcases ha with ha | ha
  ·rw [ha]; exact f1
  ·intro z
   exact f4 y a ha z.symm
 refine ⟨m, hn.sameBut sb hCa, fun h' hsb => ⟨σ.set j (some (.ref E)), H', I''.turned (t' := s''.toks) (fun b o hb e => hsb.extBut b o hb e) f0 f1 f3 f4 f5, qD⟩⟩
theorem eifs_nil {Q : Bool -> Hp -> Prop} (q : Q true H) : EIfs X [] σ H Q := fun pins s I => by
 rw [List.forIn_nil]
 exact wpAny_pure ⟨H, I, q⟩
end
end L2
namespace L2
open PySem PySem.Spec PyProof.Rows
theorem ifD {c A B : Prop} [Decidable c] (h1 : c -> A) (h2 : ¬ c -> B) : if decide c = true then A else B := by
 by_cases h : c
 ·rw [if_pos (decide_eq_true h)]; exact h1 h
 ·rw [if_neg (by simpa using h)]; exact h2 h
theorem ifN {c A B : Prop} [Decidable c] (h1 : ¬ c -> A) (h2 : c -> B) : if (!decide c) = true then A else B := by
 by_cases h : c
 ·rw [if_neg (by simp [h])]; exact h2 h
 ·rw [if_pos (by simp [h])]; exact h1 h
theorem ifB {k : Bool} {A B : Prop} (h1 : k = true -> A) (h2 : k = false -> B) : if k = true then A else B := by
 cases k with
 | true => rw [if_pos rfl]; exact h1 rfl
 | false => rw [if_neg Bool.false_ne_true]; exact h2 rfl
theorem ifBn {k : Bool} {A B : Prop} (h1 : k = false -> A) (h2 : k = true -> B) : if (!k) = true then A else B := by
 cases k with
 | true => rw [if_neg (by decide)]; exact h2 rfl
 | false => rw [if_pos (by decide)]; exact h1 rfl
theorem iteNT {A B : Prop} (h : B) : if (!true) = true then A else B := by rw [if_neg (by decide)]; exact h
theorem iteNF {A B : Prop} (h : A) : if (!false) = true then A else B := by rw [if_pos (by decide)]; exact h
theorem Same.upd {H : Hp} {p : Addr} {o : HO} (h : H p = none) : Same H (L2.upd H p o) := fun b u e => by rw [upd_ne (ne_of_none e h)]; exact e
theorem Same.seqT {K : PySem.W.Frag} {H H' : Hp} {a : Addr} {xs : List V} (e : Same H H') (h : SqT K H a xs) : SqT K H' a xs := by
 rcases h with (h | ⟨o, h⟩) | h
 ·exact .inl (.inl (e _ _ h))
 ·exact .inl (.inr ⟨o, e _ _ h⟩)
 ·exact .inr h
section
variable {X : Cx} {a e : Expr} {σ : St} {H : Hp} {Q : VK} {D : Ends} {pos p p' : Pos}
theorem sx_forR {tg : Expr} {body : List Stmt} (hp : PassesOwn (model X.prog X.w) X.A X.env X.xe) (hc : X.calm = true) (hg : Gl X "range") (hm : X.mg "range" = none) (hs : starEach [a] X.env = [(false, eval a X.env)])
  (h : EV X a σ H fun v H1 => ∃ n : Int, v = .int n /\ -(2 ^ 62) ≤ n /\ n < 2 ^ 62 /\ ∃ Pv : Nat -> St -> Hp -> Prop, Pv 0 σ H1 /\
   (∀ i σ' H', i < n.toNat -> Pv i σ' H' -> EG X tg (.int i) σ' H' fun σ2 H2 => SXs X body { D with nx := Pv (i + 1), ct := Pv (i + 1), bk := D.nx } σ2 H2) /\ ∀ σ' H', Pv n.toNat σ' H' -> D.nx σ' H') :
  SX X (.For tg (.Call (.Name "range" p) [a] [] p') body [] pos) D σ H := by
 refine sx_for hp hc (by intro _; rfl) (ei_range1 hg hm hs (ea_cons hs (ev_mono h fun v H1 q => ?_)))
 obtain ⟨n, rfl, h1, h2, Pv, h0, hst, hd⟩ := q
 refine ea_nil ⟨n, rfl, h1, h2, ?_⟩
 exact for_range (g := EG X tg) (tb := SXs X body) Pv h0 (fun i σ' H' hi hP => by rw [Int.zero_add]; exact hst i σ' H' hi hP) hd
theorem sx_forL {tg : Expr} {body : List Stmt} (hp : PassesOwn (model X.prog X.w) X.A X.env X.xe) (hc : X.calm = true) (hs : ∀ x, foldedSetIterable e X.env x = pure x)
  (h : EV X e σ H fun v H1 => ∃ q xs, v = .ref q /\ SqL X.K H1 q xs /\ ∃ Pv : Nat -> St -> Hp -> Prop, Pv 0 σ H1 /\ (∀ i σ' H', i ≤ xs.length -> Pv i σ' H' -> SqL X.K H' q xs) /\
   (∀ i x σ' H', xs[i]? = some x -> Pv i σ' H' -> EG X tg x σ' H' fun σ2 H2 => SXs X body { D with nx := Pv (i + 1), ct := Pv (i + 1), bk := D.nx } σ2 H2) /\ ∀ σ' H', Pv xs.length σ' H' -> D.nx σ' H') :
  SX X (.For tg e body [] pos) D σ H := by
 refine sx_for hp hc hs (ei_list (ev_mono h fun v H1 q => ?_))
 obtain ⟨q, xs, rfl, hq, Pv, h0, hl, hst, hd⟩ := q
 exact ⟨q, rfl, ⟨xs, hq⟩, for_list (g := EG X tg) (tb := SXs X body) Pv h0 hl hst hd⟩
theorem comp_name {Y : Cx} {elt : Expr} {J : It} {E : Addr} {τ0 : St} {Q : Hp -> Prop} {y : Str} {py : Pos} {j : Nat} (hN : Y.N.Nodup) (hj : nameAt Y.N y = some j) (hx : Y.env.scope.names.lookup y = some .local)
  (n : Nat) (hn : n ≤ sizeLine) (Pi : Nat -> V -> Prop) (It : Nat -> V -> Prop) (hE : H E = none)
  (go : ∀ i H1, Same (upd H E (.lst [])) (upd H1 E (.lst [])) -> i < n -> J.go i H1) (stop : ∀ H1, Same (upd H E (.lst [])) (upd H1 E (.lst [])) -> J.stop n H1)
  (yld : ∀ i H1 x H2, i < n -> Same (upd H E (.lst [])) (upd H1 E (.lst [])) -> J.yld i H1 x H2 -> It i x /\ H2 = H1)
  (step : ∀ i x H1, i < n -> It i x -> Same H H1 -> EV Y elt (τ0.set j (some x)) H1 fun v H2 => Pi i v /\ Same H1 H2)
  (fin : ∀ H1 xs, xs.length = n -> (∀ i v, xs[i]? = some v -> Pi i v) -> H1 E = some (.lst xs) -> Same H H1 -> Q H1) : CompT X Y (.Name y py) elt [] J E τ0 H Q := by
 have sU : ∀ {H1 : Hp}, Same H H1 -> Same (upd H E (.lst [])) (upd H1 E (.lst [])) := fun {H1} s b o e => by
  by_cases hb : b = E
  ·subst hb; rw [upd_same] at e ⊢; exact e
  ·rw [upd_ne hb] at e ⊢; exact s b o e
 refine ⟨fun i m τ H1 => m = n - i /\ i ≤ n /\ Same H H1 /\ (τ = τ0 \/ ∃ x, τ = τ0.set j (some x)) /\ ∃ xs, H1 E = some (.lst xs) /\ xs.length = i /\ ∀ k v, xs[k]? = some v -> Pi k v, ⟨n, by simp, Nat.zero_le _, Same.upd hE, .inl rfl, [], upd_same, rfl, fun k v e => by simp at e⟩, ?_⟩
 rintro i m τ H1 ⟨rfl, hi, s1, hτ, xs, eE, lx, px⟩
 by_cases hlt : i < n
 ·refine .inr ⟨go i H1 (sU s1) hlt, fun τ' H' => Same H H' /\ (τ' = τ0 \/ ∃ x, τ' = τ0.set j (some x)) /\ ∃ xs, H' E = some (.lst xs) /\ xs.length = i + 1 /\ ∀ k v, xs[k]? = some v -> Pi k v, fun τ' H' ⟨a, b, c⟩ => ⟨n - (i + 1), by omega, rfl, hlt, a, b, c⟩, fun x H2 y => ?_⟩
  obtain ⟨hI, e2⟩ := yld i H1 x H2 hlt (sU s1) y
  subst e2
  refine eg_name hN hj (.inl hx) (.inr hx) (eifs_nil ?_)
  rw [if_pos rfl]
  have eτ : τ.set j (some x) = τ0.set j (some x) := by
   rcases hτ with e | ⟨z, e⟩
   ·rw [e]
   ·rw [e, List.set_set]
  rw [eτ]
  refine ev_mono (step i x H2 hlt hI s1) fun v H3 ⟨pv, s2⟩ => ⟨xs, s2 _ _ eE, by omega, ?_⟩
  refine ⟨fun b o e => ?_, .inr ⟨x, rfl⟩, xs ++ [v], upd_same, by simp [lx], fun k u e => ?_⟩
  ·rw [upd_ne (ne_of_none e hE)]
   exact s2 _ _ (s1 _ _ e)
  ·by_cases hk : k < xs.length
   ·rw [List.getElem?_append_left hk] at e
    exact px k u e
   ·have hk2 : k = i := by
     have := (List.getElem?_eq_some_iff.mp e).1
     rw [List.length_append, List.length_singleton] at this
     omega
    subst hk2
    rw [<- lx, List.getElem?_concat_length] at e
    cases e
    exact pv
 ·have e : i = n := by omega
  subst e
  exact .inl ⟨stop H1 (sU s1), fin H1 xs lx px eE s1⟩
theorem ev_compR {elt : Expr} {scope : Scope} {y : Str} {py : Pos} {j : Nat} (N' : List Str) {σ' : St} (hσ : capSt N' X.N σ scope = σ') (hc : X.calm = true) (S : CompSc X.env scope) (hN : N'.Nodup) (hj : nameAt N' y = some j) (hx : scope.names.lookup y = some .local)
  (hg : Gl X "range") (hm : X.mg "range" = none) (hs : starEach [a] X.env = [(false, eval a X.env)])
  (h : EV X a σ H fun v H1 => ∃ n : Int, v = .int n /\ -(2 ^ 62) ≤ n /\ n.toNat ≤ sizeLine /\ ∃ Pi : Nat -> V -> Prop,
   (∀ (fp : List Addr) (E C : Addr) (s3 : Shared) (H0 : Hp) (i : Nat) (H2 : Hp), i < n.toNat -> Same H1 H2 -> EV (blk X N' scope (closL scope X.env) C s3 H0 fp) elt (σ'.set j (some (.int i))) H2 fun v H3 => Pi i v /\ Same H2 H3) /\
   ∀ (E : Addr) (H2 : Hp) (xs : List V), H1 E = none -> xs.length = n.toNat -> (∀ i v, xs[i]? = some v -> Pi i v) -> H2 E = some (.lst xs) -> Same H1 H2 -> Q (.ref E) H2) :
  EV X (.ListComp elt [⟨.Name y py, .Call (.Name "range" p) [a] [] p', [], 0⟩] scope pos) σ H Q := by
 refine ev_comp (N' := N') hc S (by intro _; rfl) (ei_range1 hg hm hs (ea_cons hs (ev_mono h fun v H1 q => ?_)))
 obtain ⟨n, rfl, h1, h2, Pi, hst, hfin⟩ := q
 have hsz : (sizeLine : Nat) < 2 ^ 62 := by rw [sizeLine_eq]; decide
 refine ea_nil ⟨n, rfl, h1, by omega, fun fp E C s3 hE => ?_⟩
 rw [hσ]
 refine comp_name (Y := blk X N' scope (closL scope X.env) C s3 (upd H1 E (.lst [])) fp) hN hj (lookup_relabel_local hx) n.toNat h2 Pi (fun i x => x = .int i) hE (fun i _ _ hi => hi) (fun _ _ => Nat.le_refl _) (fun i H1 x H2 _ _ yl => ?_) (fun i x H2 hi ex s => ?_) (fun H2 xs l px eE s => hfin E H2 xs hE l px eE s)
 ·obtain ⟨e1, e2⟩ := yl
  exact ⟨by rw [e2, Int.zero_add], e1⟩
 ·subst ex
  exact hst fp E C s3 _ i H2 hi s
theorem ev_compS {elt : Expr} {scope : Scope} {y : Str} {py : Pos} {j : Nat} (N' : List Str) {σ' : St} (hσ : capSt N' X.N σ scope = σ') (hc : X.calm = true) (S : CompSc X.env scope) (hN : N'.Nodup) (hj : nameAt N' y = some j) (hx : scope.names.lookup y = some .local)
  (hs : ∀ x, foldedSetIterable e X.env x = pure x)
  (h : EV X e σ H fun v H1 => ∃ z : Str, v = .str z /\ z.cps.size ≤ sizeLine /\ ∃ Pi : Nat -> V -> Prop,
   (∀ (fp : List Addr) (E C : Addr) (s3 : Shared) (H0 : Hp) (i c : Nat) (H2 : Hp), z.cps.toList[i]? = some c -> Same H1 H2 -> EV (blk X N' scope (closL scope X.env) C s3 H0 fp) elt (σ'.set j (some (.str ⟨#[c]⟩))) H2 fun v H3 => Pi i v /\ Same H2 H3) /\
   ∀ (E : Addr) (H2 : Hp) (xs : List V), H1 E = none -> xs.length = z.cps.size -> (∀ i v, xs[i]? = some v -> Pi i v) -> H2 E = some (.lst xs) -> Same H1 H2 -> Q (.ref E) H2) :
  EV X (.ListComp elt [⟨.Name y py, e, [], 0⟩] scope pos) σ H Q := by
 refine ev_comp (N' := N') hc S hs (ei_str (ev_mono h fun v H1 q => ?_))
 obtain ⟨z, rfl, h2, Pi, hst, hfin⟩ := q
 refine ⟨z, rfl, fun fp E C s3 hE => ?_⟩
 rw [hσ]
 refine comp_name (Y := blk X N' scope (closL scope X.env) C s3 (upd H1 E (.lst [])) fp) hN hj (lookup_relabel_local hx) z.cps.size h2 Pi (fun i x => ∃ c, z.cps.toList[i]? = some c /\ x = .str ⟨#[c]⟩) hE (fun i _ _ hi => hi) (fun _ _ => Nat.le_refl _) (fun i H1 x H2 _ _ yl => ?_) (fun i x H2 hi ex s => ?_) (fun H2 xs l px eE s => hfin E H2 xs hE l px eE s)
 ·obtain ⟨e1, c, e2, e3⟩ := yl
  exact ⟨⟨c, by simpa using e2, e3⟩, e1⟩
 ·obtain ⟨c, e1, e2⟩ := ex
  subst e2
  exact hst fp E C s3 _ i c H2 e1 s
end
section
variable {P : Program} {w : World} {K : PySem.W.Frag} {mg : Str -> Option Value} {base : Heap} {cc : Bool}
abbrev CxF (cc : Bool) (P : Program) (w : World) (K : PySem.W.Frag) (mg : Str -> Option Value) (base : Heap) (N : List Str) (qual : Str) (scope : Scope) (f : Addr) (cd : Value) (A : Around) (outer : List Env) (s : Shared) (H : Hp) (E : XK) : Cx :=
 cxOf cc (CX1 P w) P w K mg base N qual scope f cd A outer s H E
theorem fn_sx {x qual : Str} {st : Stmt} {ps N : List Str} {k : Nat} {sp : Sp} {f : Addr} {fd : FuncData} (F : Fun K x qual st f fd) (S : FnScope N ps (defScope st))
  (len : ∀ vs H Q E, sp vs H Q E -> vs.length = ps.length)
  (body : ∀ (cdv : Value) (A : Around) (outer : List Env) (s : Shared) (H : Hp) (vs : List V) (Q : VK) (E : XK), Room cc k (A.deeper (envOfC qual (defScope st) s.heap.objs.size f cdv)) -> sp vs H Q E ->
   SXs (CxF cc P w K mg base N qual (defScope st) f cdv A outer s H E) (defBody st) { nx := fun _ H' => Q .non H', rt := Q } (start N vs) H) : FnOk P w K mg base (CX1 P w) cc (k + 1) f fd ps sp := by
 obtain ⟨oc, od, kV, doc, pm, an, cdv, ct, osl, rfl, lk, hcd⟩ := id F.ex
 exact fn_of lk hcd S len fun A outer s H vs Q E hr h => ⟨_, pss_self, body cdv A outer s H vs Q E hr h⟩
theorem def_of {x : Str} {st : Stmt} {ps N : List Str} {k : Nat} {sp : Sp} (F : ∃ f fd, Fun K x x st f fd /\ mg x = some (.ref f)) (S : FnScope N ps (defScope st))
  (hb : ∀ (kV doc pm : Value) (an : Option Addr) (cdv ct : Value) (us : List Value), us.length = ps.length -> bindArgs (PySem.W.fnOf x x (defArgs st) (defBody st) (defScope st) .none kV doc pm an cdv ct) ⟨us, []⟩ = pure (ps.zip us))
  (len : ∀ vs H Q E, sp vs H Q E -> vs.length = ps.length)
  (body : ∀ (f : Addr) (cdv : Value) (A : Around) (outer : List Env) (s : Shared) (H : Hp) (vs : List V) (Q : VK) (E : XK), Room cc k (A.deeper (envOfC x (defScope st) s.heap.objs.size f cdv)) -> sp vs H Q E ->
   SXs (CxF cc P w K mg base N x (defScope st) f cdv A outer s H E) (defBody st) { nx := fun _ H' => Q .non H', rt := Q } (start N vs) H) : Def P w K mg base cc (k + 1) x ps sp := by
 obtain ⟨f, fd, F, hm⟩ := F
 exact ⟨f, fd, hm, F.kp, F.binds hb, fn_sx F S len fun cdv A outer s H vs Q E hr h => body f cdv A outer s H vs Q E hr h⟩
end
def spLaw (K : PySem.W.Frag) : Sp := fun vs H Q _ => ∃ (a : Addr) (ns : List Int), vs = [.ref a] /\ SqL K H a (ns.map V.int) /\ ns.length ≤ 63 /\ ∀ H', Q (.bl true) H'
end L2
namespace L2
open PySem PySem.Spec PyProof.Rows
def cutS (z : Str) (lo hi : Option Int) : Str := ⟨((z.cps.toList.drop (HT.sIx z.length 0 lo)).take (HT.sIx z.length z.length hi - HT.sIx z.length 0 lo)).toArray⟩
theorem sIx_clip (n d : Nat) (v : Int) : max 0 (min (if v < 0 then v + (n : Int) else v) (n : Int)) = ((HT.sIx n d (some v) : Nat) : Int) := by
 rw [<- HT.clip_eq]
 split <;> omega
theorem strSl (lo hi : Option Int) (n : Nat) : Builtin.Str.strSliceIndices lo hi 1 n = (List.range (HT.sIx n n hi - HT.sIx n 0 lo)).map (fun m => HT.sIx n 0 lo + m) := by
 have e : Builtin.Str.strSliceIndices lo hi 1 n = sliceRange ((HT.sIx n 0 lo : Nat) : Int) ((HT.sIx n n hi : Nat) : Int) 1 := by
  cases lo with
  | none =>
    cases hi with
    | none => rfl
    | some v => rw [<- sIx_clip n n v]; rfl
  | some u =>
    cases hi with
    | none => rw [<- sIx_clip n 0 u]; rfl
    | some v => rw [<- sIx_clip n 0 u, <- sIx_clip n n v]; rfl
 rw [e]
 generalize HT.sIx n 0 lo = a
 generalize HT.sIx n n hi = b
 by_cases h : a ≤ b
 ·have := StrLaws.strSliceIndices_plain (len := b) h (Nat.le_refl b)
  rw [<- this]
  have e2 : Builtin.Str.strSliceIndices (some (a : Int)) (some (b : Int)) 1 b = sliceRange (a : Int) (b : Int) 1 := by
   have h1 : ¬ ((a : Int) < 0) := by omega
   have h2 : ¬ ((b : Int) < 0) := by omega
   have e1 : max (0 : Int) (min (a : Int) (b : Int)) = a := by omega
   have e2 : max (0 : Int) (min (b : Int) (b : Int)) = b := by omega
   simp only [Builtin.Str.strSliceIndices, h1, h2, if_false, e1, e2, show ((1 : Int) > 0) = True from by simp, if_true]
  rw [e2]
 ·have e3 : b - a = 0 := by omega
  rw [e3]
  have : ¬ ((a : Int) < b) := by omega
  simp [sliceRange, this]
theorem picked_cut (z : Str) (lo hi : Option Int) : (⟨((Builtin.Str.strSliceIndices lo hi 1 z.length).filterMap (z.cps[·]?)).toArray⟩ : Str) = cutS z lo hi := by
 rw [strSl]
 unfold cutS
 have h1 := HT.sIx_le z.length z.length (Nat.le_refl _) hi
 have hl : z.cps.toList.length = z.length := by simp [Str.length]
 by_cases h : HT.sIx z.length 0 lo ≤ HT.sIx z.length z.length hi
 ·have := StrLaws.picks z.cps.toList (HT.sIx z.length z.length hi - HT.sIx z.length 0 lo) (HT.sIx z.length 0 lo) (by omega)
  rw [<- this]
  simp
 ·have e3 : HT.sIx z.length z.length hi - HT.sIx z.length 0 lo = 0 := by omega
  rw [e3]
  simp
theorem isPart_of {v : Value} {o : Option Int} (h : IsPart v o) : ∃ l : Option (Int × Tok), v = partValue l /\ l.map (·.1) = o := by
 cases h with
 | none => exact ⟨none, rfl, rfl⟩
 | int i t => exact ⟨some (i, t), rfl, rfl⟩
theorem sl_str {X : Cx} : SlR X (fun x lo hi H Q => ∃ z, x = .str z /\ z.length ≤ sizeLine /\ Q (.str (cutS z lo hi)) H) := by
 intro pins s σ H x v vl vu lo hi sl Q I rx hs pl pu h
 obtain ⟨z, rfl, hz, q⟩ := h
 obtain ⟨t, rfl⟩ := rx
 refine ⟨"str", _, F.slot_str_getitem.lookup, typeIs_str s z t, ?_⟩
 obtain ⟨l, rfl, rfl⟩ := isPart_of pl
 obtain ⟨u, rfl, rfl⟩ := isPart_of pu
 have hsl : s.heap.IsSlice sl l u none := by
  obtain ⟨o, ho, hc, hd⟩ := hs
  exact ⟨o, ho, hc, hd⟩
 refine wpAny_getItem_str_slice hsl rfl ?_
 have e : (slicePicked z l u none) = Builtin.Str.strSliceIndices (l.map (·.1)) (u.map (·.1)) 1 z.length := rfl
 unfold sliceMade
 have key : (⟨((slicePicked z l u none).filterMap (z.cps[·]?)).toArray⟩ : Str) = cutS z (l.map (·.1)) (u.map (·.1)) := by rw [e]; exact picked_cut z _ _
 split
 ·rename_i hh
  have hlen : (slicePicked z l u none).length = z.length := by
   simp only [Bool.and_eq_true, beq_iff_eq] at hh
   exact hh.2
  have whole : cutS z (l.map (·.1)) (u.map (·.1)) = z := by
   rw [e, strSl, List.length_map, List.length_range] at hlen
   have h1 := HT.sIx_le z.length z.length (Nat.le_refl _) (u.map (·.1))
   have hl : z.cps.toList.length = z.length := by simp [Str.length]
   unfold cutS
   by_cases hz0 : z.length = 0
   ·have : z.cps.toList = [] := List.eq_nil_of_length_eq_zero (by omega)
    rw [this]
    have e2 : z.cps = #[] := by
     have := congrArg List.toArray this
     simpa using this
    obtain ⟨c⟩ := z
    simp at e2
    subst e2
    simp
   ·have ha : HT.sIx z.length 0 (l.map (·.1)) = 0 := by omega
    have hb : HT.sIx z.length z.length (u.map (·.1)) = z.length := by omega
    rw [ha, hb, List.drop_zero, Nat.sub_zero, List.take_of_length_le (by omega)]
  exact ⟨.str (cutS z (l.map (·.1)) (u.map (·.1))), H, I, ⟨t, by rw [whole]⟩, q⟩
 ·rw [key]
  refine ⟨?_, .str (cutS z (l.map (·.1)) (u.map (·.1))), H, I.tok _, ⟨_, rfl⟩, q⟩
  have : (cutS z (l.map (·.1)) (u.map (·.1))).length ≤ z.length := by
   unfold cutS Str.length
   simp
   omega
  omega
section
variable {X : Cx} {H : Hp} {Q : VK} {z y : Str}
theorem s_str {lo hi : Option Int} (h : z.length ≤ sizeLine) (g : Q (.str (cutS z lo hi)) H) : SL X (.str z) lo hi H Q := ⟨_, sl_str, z, rfl, h, g⟩
theorem mt_by {id : String} {r : V -> List V -> Hp -> VK -> Prop} {x : V} {xs : List V} (h : MtR X id r) (q : r x xs H Q) : MT X id x xs H Q := ⟨r, h, q⟩
theorem strsAre_of {ys : List Str} : ∀ {us : List Value}, Vals (ys.map V.str) us -> StrsAre us ys := by
 induction ys with
 | nil => intro us r; cases r; exact .nil
 | cons y ys ih =>
   intro us r
   cases r with
   | cons r rr =>
     obtain ⟨t, rfl⟩ := r
     exact .cons y t (ih rr)
theorem m_join {q : Addr} {ys : List Str} (h : SqL X.K H q (ys.map V.str)) (hw : (ys.map (·.length)).sum + ys.length * z.length ≤ 16777216) (g : Q (.str (Str.join z ys)) H) : MT X "str.join" (.str z) [.ref q] H Q := by
 refine mt_by (r := fun x xs H Q => ∃ z q ys, x = .str z /\ xs = [.ref q] /\ SqL X.K H q (ys.map V.str) /\ (ys.map (·.length)).sum + ys.length * z.length ≤ 16777216 /\ Q (.str (Str.join z ys)) H) ?_ ⟨z, q, ys, rfl, rfl, h, hw, g⟩
 intro pins s σ H x xs v us Q I rx rs h
 obtain ⟨z, q, ys, rfl, rfl, h, hw, g⟩ := h
 obtain ⟨t, rfl⟩ := rx
 obtain ⟨u, rfl, ru⟩ := vals1 rs
 cases (show u = Value.ref q from ru)
 obtain ⟨its, rv, pl, _⟩ := I.list h
 refine join_list pl.isList (by simpa using strsAre_of rv) hw fun t' k => ⟨.str (Str.join z ys), H, I.tok k, ⟨t', ?_⟩, g⟩
 have e : Txt.join z ys = Str.join z ys := by
  unfold Txt.join
  cases ys with
  | nil => rfl
  | cons y r => exact StrLaws.glued_cons z r y
 rw [e]
theorem c_all {q : Addr} {bs : List Bool} (hc : X.calm = true) (h : SqL X.K H q (bs.map V.bl)) (g : Q (.bl (bs.all id)) H) : CL X (.builtin "all") [.ref q] H Q := by
 refine cl_by (r := fun xs H Q => ∃ q bs, xs = [.ref q] /\ SqL X.K H q (bs.map V.bl) /\ Q (.bl (bs.all id)) H) ?_ ⟨q, bs, rfl, h, g⟩
 intro pins s σ H xs us Q I r h
 obtain ⟨q, bs, rfl, h, g⟩ := h
 obtain ⟨u, rfl, ru⟩ := vals1 r
 cases (show u = Value.ref q from ru)
 obtain ⟨its, rv, pl, hz⟩ := I.list h
 refine call_all_walk (wpAny_pyIter_list pl.isList ?_)
 have hq : q < s.heap.objs.size := by
  obtain ⟨o, ho, _⟩ := pl.isList
  exact Heap.lt_size ho
 have hlen : its.length = bs.length := by have := rv.length; rw [List.length_map] at this; exact this.symm
 refine ⟨s.heap.objs.size, [s.heap.objs.size, q], [s.heap.objs.size], its.toArray.size, (fun i v => its.toArray[i]? = some v), (fun i h => h.IsListIter s.heap.objs.size q i /\ h.IsList q its.toArray), fun i => bs.getD i true, rfl, Walks.list (A := X.A.in1) (show X.A.in1.handled = none from I.ok.hd hc) s.heap.objs.size q (Nat.ne_of_lt hq) its.toArray, ⟨⟨_, Heap.get?_push_size _ rfl, rfl, rfl⟩, ?_⟩, ?_, fun h' tk hk => ?_⟩
 ·obtain ⟨o, ho, r⟩ := pl.isList
  exact ⟨o, Heap.get?_push_of_some _ ho, r⟩
 ·intro i v s Q E hv hq
  have hv' : its[i]? = some v := by simpa using hv
  have hi : i < bs.length := by rw [<- hlen]; exact (List.getElem?_eq_some_iff.mp hv').1
  obtain ⟨u, e1, e2⟩ := rv.get (i := i) (x := V.bl bs[i]) (by simp [hi])
  rw [hv'] at e1
  cases e1
  cases (show v = Value.bool bs[i] from e2)
  refine wpAny_truthy_bool ?_
  have : bs.getD i true = bs[i] := by simp [hi]
  have hq' : Q (bs.getD i true) s := hq
  rw [this] at hq'
  exact hq'
 ·have e : (List.range its.toArray.size).all (fun i => bs.getD i true) = bs.all id := by
   rw [List.size_toArray, hlen, Bool.eq_iff_iff, List.all_eq_true, List.all_eq_true]
   constructor
   ·intro h b hb
    obtain ⟨i, hi, e⟩ := List.getElem_of_mem hb
    have := h i (by simpa using hi)
    simpa [hi, e] using this
   ·intro h i hi
    have hi' : i < bs.length := by simpa using hi
    have := h bs[i] (List.getElem_mem hi')
    simpa [hi'] using this
  rw [e]
  have fp := I.fpOk (Nat.le_refl _) (I.hok.fresh (Nat.le_refl _))
  have I1 : Inv X pins σ H { s with heap := s.heap.push { cls := .type "list_iterator", data := .fields #[.ref q, .int 0 0] } } := I.kept (t' := s.toks) fun b o e => Heap.get?_push_of_some _ e
  refine ⟨.bl _, H, I1.turned (it := s.heap.objs.size) (fun b o hb e => hk b o (by simpa using hb) e) (I.hok.fresh (Nat.le_refl _)) fp.2.1 fp.2.2.2.1 fp.2.2.2.2.1 fp.2.2.2.2.2, rfl, g⟩
end
theorem compSc_of {env : Env} {scope : Scope} (sc : Scope) (hsc : env.scope = sc) (hk : scope.kind = .function)
  (h : (scope.names.all fun y => (if y.2 == .free then (sc.names.lookup y.1 == some .cell || sc.names.lookup y.1 == some .free) else true) && y.2 != .cell && (if y.2 == .local then scope.names.lookup y.1 == some .local else true)) = true) : CompSc env scope := by
 have h' := List.all_eq_true.mp h
 refine ⟨hk, fun y hy e => ?_, fun y hy e => ?_, fun y hy e => ?_⟩
 ·have q := h' y hy
  simp only [e, beq_self_eq_true, if_true, Bool.and_eq_true, Bool.or_eq_true, beq_iff_eq] at q
  show env.scope.names.lookup y.1 = _ \/ env.scope.names.lookup y.1 = _
  rw [hsc]
  exact q.1.1
 ·have q := h' y hy
  rw [e] at q
  simp at q
 ·have q := h' y hy
  simp only [e, Bool.and_eq_true, beq_iff_eq, beq_self_eq_true, if_true] at q
  exact q.2
theorem list_of_pi {α : Type} {xs : List V} {ys : List α} (f : α -> V) (hl : xs.length = ys.length) (h : ∀ (i : Nat) v, xs[i]? = some v -> ∃ c, ys[i]? = some c /\ v = f c) : xs = ys.map f := by
 apply List.ext_getElem?
 intro i
 rw [List.getElem?_map]
 cases e : xs[i]? with
 | none =>
   have : xs.length ≤ i := List.getElem?_eq_none_iff.mp e
   rw [List.getElem?_eq_none (by omega)]
   rfl
 | some v =>
   obtain ⟨c, e1, e2⟩ := h i v e
   rw [e1, e2]
   rfl
section
variable {X : Cx} {H : Hp} {Q : VK}
theorem o_p9 (q : Q (.int 1000000000) H) : OP X (binaryOp .Pow) (.int 10) (.int 9) H Q := o_pow ⟨by decide, by decide, by decide⟩ (show Q (.int (10 ^ (9 : Int).toNat)) H from (show (10 : Int) ^ (9 : Int).toNat = 1000000000 from by decide) ▸ q)
theorem o_p18 (q : Q (.int 1000000000000000000) H) : OP X (binaryOp .Pow) (.int 10) (.int 18) H Q := o_pow ⟨by decide, by decide, by decide⟩ (show Q (.int (10 ^ (18 : Int).toNat)) H from (show (10 : Int) ^ (18 : Int).toNat = 1000000000000000000 from by decide) ▸ q)
end
end L2
namespace L2
open PySem PySem.Spec PyProof.Rows
def EJ (X : Cx) (vs : List Expr) (out : Str) (σ : St) (H : Hp) (Q : VK) : Prop :=
 ∀ (pins : List (Addr × Obj)) (s : Shared), Inv X pins σ H s -> wpAny (model X.prog X.w) X.A (joinParts out (evalEach vs X.env)) (EP X pins σ Q) X.xe s
section
variable {X : Cx} {σ : St} {H : Hp} {Q : VK} {v v₁ v₂ : Expr} {rest : List Expr} {pos : Pos} {out : Str}
theorem ev_fstr (h : EJ X (v₁ :: v₂ :: rest) Str.empty σ H Q) : EV X (.JoinedStr (v₁ :: v₂ :: rest) pos) σ H Q := fun pins s I => h pins s I
theorem ej_nil (hl : out.length ≤ sizeLine) (q : Q (.str out) H) : EJ X [] out σ H Q := fun pins s I => joinParts_nil ⟨.str out, H, I.tok _, ⟨_, rfl⟩, q⟩ hl
theorem ej_cons (h : EV X v σ H fun x H1 => ∃ y, x = .str y /\ (out ++ y).length ≤ sizeLine /\ EJ X rest (out ++ y) σ H1 Q) : EJ X (v :: rest) out σ H Q := fun pins s I => by
 refine joinParts_cons (thn (h pins s I) fun u s1 ⟨x, H1, I1, r, y, e, hl, q⟩ => ?_)
 subst e
 obtain ⟨t, rfl⟩ := r
 exact ⟨hl, q pins s1 I1⟩
theorem ev_fmtS (h : EV X v σ H fun x H1 => ∃ z, x = .str z /\ z.length ≤ sizeLine /\ Q (.str z) H1) : EV X (.FormattedValue v (-1) none pos) σ H Q := fun pins s I => by
 refine FormattedValue_plain (thn (h pins s I) fun u s1 ⟨x, H1, I1, r, z, e, hl, q⟩ => ?_)
 subst e
 obtain ⟨t, rfl⟩ := r
 exact formatField_str (fun t' tk => ⟨.str z, H1, I1.tok tk, ⟨t', rfl⟩, q⟩) hl
theorem ev_fmtI (h : EV X v σ H fun x H1 => ∃ i, x = .int i /\ i.natAbs.log2 < 1920 /\ Q (.str (toString i)) H1) : EV X (.FormattedValue v (-1) none pos) σ H Q := fun pins s I => by
 refine FormattedValue_plain (thn (h pins s I) fun u s1 ⟨x, H1, I1, r, z, e, hl, q⟩ => ?_)
 subst e
 obtain ⟨t, rfl⟩ := r
 exact formatField_int_small hl ⟨.str (toString z), H1, I1.tok _, ⟨_, rfl⟩, q⟩
end
def EJL (X : Cx) (vs : List Expr) (n : Nat) (σ : St) (H : Hp) (R : Hp -> Prop) : Prop := ∀ out : Str, out.length ≤ n -> ∀ Q : VK, (∀ z H', R H' -> Q (.str z) H') -> EJ X vs out σ H Q
theorem app_len (x y : Str) : (x ++ y).length = x.length + y.length := by
 show (x.cps ++ y.cps).size = _
 rw [Array.size_append]
 rfl
section
variable {X : Cx} {σ : St} {H : Hp} {Q : VK} {R : Hp -> Prop} {v v₁ v₂ : Expr} {rest : List Expr} {pos : Pos} {n : Nat}
theorem ev_fstrL (h : EJL X (v₁ :: v₂ :: rest) 0 σ H fun H' => ∀ z, Q (.str z) H') : EV X (.JoinedStr (v₁ :: v₂ :: rest) pos) σ H Q := ev_fstr (h Str.empty (Nat.le_refl _) Q fun z H' r => r z)
theorem ejl_nil (hn : n ≤ sizeLine) (r : R H) : EJL X [] n σ H R := fun out ho Q k => ej_nil (Nat.le_trans ho hn) (k out H r)
theorem ejl_cons (h : EV X v σ H fun x H1 => ∃ y m, x = .str y /\ y.length ≤ m /\ n + m ≤ sizeLine /\ EJL X rest (n + m) σ H1 R) : EJL X (v :: rest) n σ H R := fun out ho Q k =>
 ej_cons (ev_mono h fun x H1 ⟨y, m, e, hy, hm, q⟩ => ⟨y, e, by rw [app_len]; omega, q (out ++ y) (by rw [app_len]; omega) Q k⟩)
end
abbrev bmV : List Value := [.type "ValueError", .type "Exception", .type "BaseException", .type "object"]
def clsA (mg : Str -> Option Value) (x : Str) : Addr := match mg x with
 | some (.ref C) => C
 | _ => 0
theorem clsA_eq {mg : Str -> Option Value} {x : Str} {C : Addr} (h : mg x = some (.ref C)) : clsA mg x = C := by unfold clsA; rw [h]
structure XCls (K : PySem.W.Frag) (mg : Str -> Option Value) (x : Str) : Prop where
 at_ : mg x = some (.ref (clsA mg x))
 ex : PySem.W.excIn K (clsA mg x) bmV "ValueError.__new__" = true
theorem xcls_mk {K : PySem.W.Frag} {mg : Str -> Option Value} {x : Str} {C : Addr} (h : mg x = some (.ref C)) (e : PySem.W.excIn K C bmV "ValueError.__new__" = true) : XCls K mg x := by
 have z : clsA mg x = C := by unfold clsA; rw [h]
 exact ⟨by rw [z]; exact h, by rw [z]; exact e⟩
theorem exc_obj {K : PySem.W.Frag} {C : Addr} {h : Heap} (kin : K.In h) (e : PySem.W.excIn K C bmV "ValueError.__new__" = true) :
  ∃ bm N nm q bs hdct sn sub ab col dd k0 k1 k2 k3 k5 mN, h.get? C = some (excClassObj nm q C N bs bm hdct sn sub ab col dd k0 k1 k2 k3 k5 "ValueError.__new__") /\ h.Ns N mN /\ mN "__init__" = none /\ OwnTail h bmV bm := by
 unfold PySem.W.excIn at e
 split at e
 ·rename_i dd cd sl ho
  split at e
  ·rename_i C' bm k0 k1 k2 k3 n k5 hm hs
   simp only [Bool.and_eq_true, beq_iff_eq, Bool.not_eq_true'] at e
   obtain ⟨⟨⟨⟨⟨e1, e2⟩, e3⟩, e4⟩, e5⟩, e6⟩ := e
   subst e1 e2
   obtain ⟨nm, bs, mro, ns, qn, hd, sn, sub, ab, col, del⟩ := cd
   dsimp only at hm e3 e5 e6
   subst hm e3
   have hl : sl = #[k0, k1, k2, k3, some (.builtin "ValueError.__new__"), k5] := by
    obtain ⟨l⟩ := sl
    simp only at hs
    rw [hs]
   subst hl
   exact ⟨bm, ns, nm, qn, bs, hd, sn, sub, ab, col, dd, k0, k1, k2, k3, k5, _, kin _ _ ho, .of_isNs (PySem.W.isNs_of_in kin e5), PySem.W.nsMap_none_of_in kin e5 e6, PySem.W.tail_of_in kin e4⟩
  ·cases e
 ·cases e
section
variable {X : Cx} {Kx : St -> XK} {D : Ends} {σ : St} {H : Hp} {x : Str} {np cpos pos : Pos} {e : Expr} {es : List Expr}
theorem sx_raise (hx : XOk X Kx) (hc : X.calm = true) (O : XCls X.K X.mg x) (hg : Gl X x) (hd : (x == ("__debug__" : Str)) = false) (he : starEach (e :: es) X.env = (false, eval e X.env) :: starEach es X.env)
  (hpl : (backTo cpos (starEach es X.env)).any (·.1) = false) (h : EA X (e :: es) σ H fun vs H1 => vs.length ≤ sizeLine /\ Kx σ (.ref (clsA X.mg x)) (none, true) H1) :
  SX X (.Raise (some (.Call (.Name x np) (e :: es) [] cpos)) none pos) D σ H := by
 intro pins s I
 obtain ⟨bm, N, nm, q, bs, hdct, sn, sub, ab, col, dd, k0, k1, k2, k3, k5, mN, hC, hN, hni, T⟩ := exc_obj I.ok.mod.kin O.ex
 refine wpAny_Raise_call_subT (C := clsA X.mg x) (nm := nm) (q := q) (N := N) (bs := bs) (bm := bm) (hdct := hdct) (sn := sn) (sub := sub) (ab := ab) (col := col) (dd := dd) (k0 := k0) (k1 := k1) (k2 := k2) (k3 := k3) (k5 := k5)
  F.excBase_ValueError (mN := mN) (T.hasType (by decide +kernel)) (I.ok.hd hc) ?_ hni (ld_glob I hg O.at_ ⟨rfl, ?_⟩ hd)
 ·rw [he]
  show (false || (backTo cpos (starEach es X.env)).any (·.1)) = false
  rw [hpl]
  rfl
 ·have h' := h cpos pins s I
  rw [he] at h' ⊢
  refine Calls.evalArgs_plain (thn h' fun us s2 ⟨vs, H1, I2, r, hl, kq⟩ => ⟨rfl, by rw [<- r.length]; exact hl, I2.bk _ _ hC, hN.keeps I2.bk, T.keeps I2.bk, fun h3 a M => ?_⟩)
  obtain ⟨t, m1, m2, m3⟩ := M.there
  refine hx pins σ H1 _ a _ (none, true) ⟨I2.kept (t' := s2.toks) M.keeps, none, .none, ⟨_, _, m1, rfl, rfl, rfl, rfl, by simp, fun _ => rfl, fun T z => nomatch z⟩, .inl rfl, fun b hb => ?_⟩ kq
  have z : b = a := by simpa using hb
  subst z
  exact ⟨I2.hok.free M.new, I2.ch M.new⟩
end
abbrev Cx.tri (X : Cx) (F : Value -> Shared -> Prop) (pn : List (Addr × Obj)) : Cx := { X with xe := F, pn := pn }
abbrev Cx.inEx (X : Cx) (e : Value) (F : Value -> Shared -> Prop) (pn : List (Addr × Obj)) : Cx := { X with A := X.A.mark (some e), calm := false, xe := F, pn := pn }
section
variable {X : Cx} {pins pins' : List (Addr × Obj)} {σ : St} {H : Hp} {s : Shared} {F : Value -> Shared -> Prop} {e : Value}
theorem Cx.Ok.tri (ok : X.Ok) (pn : List (Addr × Obj)) : (X.tri F pn).Ok :=
 ⟨ok.mod, ok.kind, ok.glob, ok.blt, ok.above, ok.inj, ok.has, ok.cab, ok.hd, ok.frames, ok.stk, ok.exf, ok.bs, ok.bsz, ok.noex, ok.exfs, ok.funs, ok.frf⟩
theorem Cx.Ok.inEx (ok : X.Ok) (pn : List (Addr × Obj)) : (X.inEx e F pn).Ok :=
 ⟨ok.mod, ok.kind, ok.glob, ok.blt, ok.above, ok.inj, ok.has, ok.cab, (fun z => nomatch z), ok.frames, ok.stk, ok.exf, ok.bs, ok.bsz, ok.noex, ok.exfs, ok.funs, ok.frf⟩
theorem Inv.tri (I : Inv X pins σ H s) : Inv (X.tri F (X.pn ++ pins)) [] σ H s :=
 ⟨I.ok.tri _, I.os, I.bare, I.base, I.loc, I.cell, I.free, I.freeC, fun p hp => I.pin p (by simpa using hp), I.hok, I.len⟩
theorem Inv.inEx (I : Inv X pins σ H s) : Inv (X.inEx e F (X.pn ++ pins)) [] σ H s :=
 ⟨I.ok.inEx _, I.os, I.bare, I.base, I.loc, I.cell, I.free, I.freeC, fun p hp => I.pin p (by simpa using hp), I.hok, I.len⟩
theorem Inv.untri (ok : X.Ok) (I : Inv (X.tri F (X.pn ++ pins)) pins' σ H s) : Inv X pins σ H s :=
 ⟨ok, I.os, I.bare, I.base, I.loc, I.cell, I.free, I.freeC, fun p hp => I.pin p (List.mem_append_left _ hp), I.hok, I.len⟩
theorem Inv.uninEx (ok : X.Ok) (I : Inv (X.inEx e F (X.pn ++ pins)) pins' σ H s) : Inv X pins σ H s :=
 ⟨ok, I.os, I.bare, I.base, I.loc, I.cell, I.free, I.freeC, fun p hp => I.pin p (List.mem_append_left _ hp), I.hok, I.len⟩
theorem Ch.untri {b : Addr} (c : Ch (X.tri F (X.pn ++ pins)) pins' b) : Ch X pins b := ⟨c.1, c.2.1, c.2.2.1, fun p hp => c.2.2.2 p (List.mem_append_left _ hp)⟩
end
def EH (X : Cx) (hs : List ExceptHandler) (D : Ends) (σ : St) (cls : Value) (d : Option Addr × Bool) (H : Hp) : Prop :=
 ∀ (pins : List (Addr × Obj)) (s : Shared) (e T : Addr), Inv X pins σ H s -> Flies s.heap e cls d (some T) .none -> (∀ b ∈ [e, T], H b = none /\ Ch X pins b) ->
   wpAny (model X.prog X.w) X.A (handleBy (.ref e) X.env hs) (SP X pins D) X.xe s
section
variable {X : Cx} {D : Ends} {σ : St} {H : Hp} {h₀ : ExceptHandler} {hs rest : List ExceptHandler} {body orelse suite : List Stmt} {b₀ : Stmt} {pos np : Pos} {x n : Str} {cls c : Value} {d : Option Addr × Bool}
theorem sx_try (Kx : St -> XK) (hst : X.stack = X.env :: X.outer) (hf : X.env.frame = some X.env.locals)
  (hb : ∀ F pn, XOk (X.tri F pn) Kx -> PassesOwn (model X.prog X.w) X.A X.env F -> SXs (X.tri F pn) body { D with nx := fun σ' H' => SXs X orelse D σ' H' } σ H)
  (hh : ∀ σ' cls d H', Kx σ' cls d H' -> EH X (h₀ :: hs) D σ' cls d H') : SX X (.Try body (h₀ :: hs) orelse [] pos) D σ H := by
 intro pins s I
 refine wpAny_Try_except ?_
 refine wpAny_mono (hb (fun e s1 => wpAny (model X.prog X.w) X.A (noteFrame e X.env) (fun _ s2 => wpAny (model X.prog X.w) X.A (setFlight e none) (fun _ s3 => wpAny (model X.prog X.w) X.A (handleBy e X.env (h₀ :: hs)) (SP X pins D) X.xe s3) X.xe s2) X.xe s1)
  (X.pn ++ pins) ?_ PassesOwn.looking [] s I.tri) (fun f s1 q => ?_) fun _ _ q => q
 ·intro pins' σ' H' s' e cls d xa q
  obtain ⟨I', tb, fl, F', hfl, ch⟩ := xa
  have I2 := Inv.untri I.ok I'
  refine XAt.note (X := X) (pins := pins) ⟨I2, tb, fl, F', hfl, fun b hb => ⟨(ch b hb).1, (ch b hb).2.untri⟩⟩ hst hf fun s2 T I3 F3 c3 => ?_
  exact I3.off F3 c3 fun s4 I4 F4 => hh σ' cls d H' q pins s4 e T I4 F4 c3
 ·cases f with
  | next =>
    obtain ⟨σ', H', J, q⟩ := q
    exact q pins s1 (Inv.untri I.ok J)
  | brk =>
    obtain ⟨σ', H', J, q⟩ := q
    exact ⟨σ', H', Inv.untri I.ok J, q⟩
  | cont =>
    obtain ⟨σ', H', J, q⟩ := q
    exact ⟨σ', H', Inv.untri I.ok J, q⟩
  | ret u =>
    obtain ⟨v, σ', H', J, r, q⟩ := q
    exact ⟨v, σ', H', Inv.untri I.ok J, r, q⟩
theorem Flies.ty {M : Model} {h : Heap} {e : Addr} {tb : Option Addr} {fl : Value} (F : Flies h e cls d tb fl) : PySem.W.Looks M h (typeOf (.ref e)) cls := by
 obtain ⟨oe, vs, he, hc, _⟩ := F
 subst hc
 exact (PySem.W.Looks.ld he).andThen .now
theorem test_ok {X : Cx} {pins : List (Addr × Obj)} {s : Shared} {e : Addr} {tb : Option Addr} {fl : Value} {k : Bool} {R : Result -> Shared -> Prop} (I : Inv X pins σ H s) (F : Flies s.heap e cls d tb fl) (hg : Gl X x) (hm : X.mg x = some c) (hd : (x == ("__debug__" : Str)) = false)
  (ex : PySem.W.exmOne X.K cls c = some k) (h : R (.ok (if k then .brk else .next)) s) : codeAny (model X.prog X.w) (X.A.mark (some (.ref e))) (.handlers (.ref e) [.ExceptHandler (some (.Name x np)) none [] pos] X.env) R s := by
 refine codeAny_handlers_test ?_
 have J : Inv (X.inEx (.ref e) X.xe (X.pn ++ pins)) [] σ H s := I.inEx
 exact ld_glob (X := X.inEx (.ref e) X.xe (X.pn ++ pins)) J hg hm ((PySem.W.exm_one I.kIn F.ty ex).here h) hd
end
end L2
namespace L2
open PySem PySem.Spec PyProof.Rows
mutual
inductive RD (K : PySem.W.Frag) (H : Hp) : V -> PyData -> Prop
 | non : RD K H .non .none
 | bl (b : Bool) : RD K H (.bl b) (.bool b)
 | int (i : Int) : RD K H (.int i) (.int i)
 | str (x : Str) : RD K H (.str x) (.str x)
 | lst {a : Addr} {xs : List V} {ds : List PyData} (h : SqL K H a xs) (r : RDs K H xs ds) : RD K H (.ref a) (.list ds)
 | tup {a : Addr} {xs : List V} {ds : List PyData} (h : SqT K H a xs) (r : RDs K H xs ds) : RD K H (.ref a) (.tuple ds)
inductive RDs (K : PySem.W.Frag) (H : Hp) : List V -> List PyData -> Prop
 | nil : RDs K H [] []
 | cons {x : V} {d : PyData} {xs : List V} {ds : List PyData} (h : RD K H x d) (r : RDs K H xs ds) : RDs K H (x :: xs) (d :: ds)
end
mutual
theorem RD.reads {X : Cx} {pins : List (Addr × Obj)} {σ : St} {H : Hp} {s : Shared} (I : Inv X pins σ H s) : ∀ {v : V} {d : PyData} {u : Value}, RD X.K H v d -> RelV v u -> ∃ as, Reads s.heap u d as
 | _, _, _, .non, e => by cases (show _ = Value.none from e); exact ⟨_, .none⟩
 | _, _, _, .bl b, e => by cases (show _ = Value.bool b from e); exact ⟨_, .bool b⟩
 | _, _, _, .int i, e => by obtain ⟨t, rfl⟩ := e; exact ⟨_, .int i t⟩
 | _, _, _, .str x, e => by obtain ⟨t, rfl⟩ := e; exact ⟨_, .str x t⟩
 | _, _, _, .lst h r, e => by
   cases (show _ = Value.ref _ from e)
   obtain ⟨its, rv, pl, _⟩ := I.list h
   obtain ⟨as, q⟩ := RDs.reads I r rv
   obtain ⟨o, ho, hc, n, hd⟩ := pl.isList
   exact ⟨_, .list ho hc hd (by simpa using q)⟩
 | _, _, _, .tup h r, e => by
   cases (show _ = Value.ref _ from e)
   obtain ⟨its, rv, tp, _⟩ := I.tuple h
   obtain ⟨as, q⟩ := RDs.reads I r rv
   obtain ⟨o, ho, hc, n, hd⟩ := tp
   exact ⟨_, .tuple ho hc hd (by simpa using q)⟩
theorem RDs.reads {X : Cx} {pins : List (Addr × Obj)} {σ : St} {H : Hp} {s : Shared} (I : Inv X pins σ H s) : ∀ {vs : List V} {ds : List PyData} {us : List Value}, RDs X.K H vs ds -> Vals vs us -> ∃ as, ReadsAll s.heap us ds as
 | _, _, _, .nil, .nil => ⟨_, .nil⟩
 | _, _, _, .cons h r, .cons e t => by
   obtain ⟨as, q⟩ := RD.reads I h e
   obtain ⟨bs, q2⟩ := RDs.reads I r t
   exact ⟨_, .cons q q2⟩
end
section
variable {X : Cx} {H : Hp} {Q : VK} {x y : V} {d d' : PyData}
theorem o_eqD (hu : X.A.units + 64 < cLine) (hx : RD X.K H x d) (hy : RD X.K H y d') (h1 : d.canLay0 = true) (h2 : d'.canLay0 = true) (hd : d.depth ≤ 60) (q : Q (.bl (PyData.eqv d d')) H) : OP X (compareOp .Eq) x y H Q := by
 refine ⟨fun x y H Q => RD X.K H x d /\ RD X.K H y d' /\ Q (.bl (PyData.eqv d d')) H, ?_, hx, hy, q⟩
 intro pins s σ H x y v u Q I rx ry ⟨hx, hy, q⟩
 obtain ⟨as, r1⟩ := RD.reads I hx rx
 obtain ⟨bs, r2⟩ := RD.reads I hy ry
 exact SeqAt.rcAt_reads r1 r2 h1 h2 (by have := Nat.min_le_left d.depth d'.depth; omega) X.prog X.w X.xe _ ⟨.bl _, H, I, rfl, q⟩
end
end L2
namespace L2
open PySem PySem.Spec PyProof.Rows
def stAt (l : List Stmt) (i : Nat) : Stmt := l.getD i (.Pass ⟨0, 0, 0, 0⟩)
def inFor (s : Stmt) : List Stmt := match s with
 | .For _ _ b _ _ => b
 | _ => []
def inIf (s : Stmt) : List Stmt := match s with
 | .If _ b _ _ => b
 | _ => []
def inElse (s : Stmt) : List Stmt := match s with
 | .If _ _ b _ => b
 | _ => []
def inTry (s : Stmt) : List Stmt := match s with
 | .Try b _ _ _ _ => b
 | _ => []
theorem iteZ {A B : Prop} (h : A) : if decide (V.non = V.non) = true then A else B := by rw [if_pos (by decide)]; exact h
theorem iteZi {A B : Prop} {i : Int} (h : B) : if decide (V.int i = V.non) = true then A else B := by rw [if_neg (by simp)]; exact h
theorem iteZs {A B : Prop} {i : Str} (h : B) : if decide (V.str i = V.non) = true then A else B := by rw [if_neg (by simp)]; exact h
theorem iteZr {A B : Prop} {i : Addr} (h : B) : if decide (V.ref i = V.non) = true then A else B := by rw [if_neg (by simp)]; exact h
theorem iteY {A B : Prop} (h : B) : if (!decide (V.non = V.non)) = true then A else B := by rw [if_neg (by decide)]; exact h
def repS (x : Str) (n : Int) : Str := ⟨(List.replicate n.toNat x.cps).foldl (· ++ ·) #[]⟩
theorem is_int_int {X : Cx} {H : Hp} {Q : VK} {i : Int} (q : Q (.bl true) H) : CL X (.builtin "isinstance") [V.int i, .ty "int"] H Q := c_isinst (TyOf.int _) (k := true) (by rfl) q
theorem is_int_bool {X : Cx} {H : Hp} {Q : VK} {i : Int} (q : Q (.bl false) H) : CL X (.builtin "isinstance") [V.int i, .ty "bool"] H Q := c_isinst (TyOf.int _) (k := false) (by rfl) q
theorem is_int_str {X : Cx} {H : Hp} {Q : VK} {i : Int} (q : Q (.bl false) H) : CL X (.builtin "isinstance") [V.int i, .ty "str"] H Q := c_isinst (TyOf.int _) (k := false) (by rfl) q
theorem is_str_int {X : Cx} {H : Hp} {Q : VK} {i : Str} (q : Q (.bl false) H) : CL X (.builtin "isinstance") [V.str i, .ty "int"] H Q := c_isinst (TyOf.str _) (k := false) (by rfl) q
theorem is_str_bool {X : Cx} {H : Hp} {Q : VK} {i : Str} (q : Q (.bl false) H) : CL X (.builtin "isinstance") [V.str i, .ty "bool"] H Q := c_isinst (TyOf.str _) (k := false) (by rfl) q
theorem is_str_str {X : Cx} {H : Hp} {Q : VK} {i : Str} (q : Q (.bl true) H) : CL X (.builtin "isinstance") [V.str i, .ty "str"] H Q := c_isinst (TyOf.str _) (k := true) (by rfl) q
theorem is_NoneType_int {X : Cx} {H : Hp} {Q : VK}  (q : Q (.bl false) H) : CL X (.builtin "isinstance") [V.non, .ty "int"] H Q := c_isinst (TyOf.non) (k := false) (by rfl) q
theorem is_NoneType_bool {X : Cx} {H : Hp} {Q : VK}  (q : Q (.bl false) H) : CL X (.builtin "isinstance") [V.non, .ty "bool"] H Q := c_isinst (TyOf.non) (k := false) (by rfl) q
theorem is_NoneType_str {X : Cx} {H : Hp} {Q : VK}  (q : Q (.bl false) H) : CL X (.builtin "isinstance") [V.non, .ty "str"] H Q := c_isinst (TyOf.non) (k := false) (by rfl) q
theorem is_list_list {X : Cx} {H : Hp} {Q : VK} {a : Addr} {xs : List V} (e : H a = some (.lst xs)) (q : Q (.bl true) H) : CL X (.builtin "isinstance") [V.ref a, .ty "list"] H Q := c_isinst (TyOf.lst e) (k := true) (by rfl) q
theorem is_tuple_tuple {X : Cx} {H : Hp} {Q : VK} {a : Addr} {xs : List V} (e : H a = some (.tup xs)) (q : Q (.bl true) H) : CL X (.builtin "isinstance") [V.ref a, .ty "tuple"] H Q := c_isinst (TyOf.tup e) (k := true) (by rfl) q
section
variable {X : Cx} {e : Expr} {es : List Expr} {σ : St} {H : Hp} {Q : VK} {pos p : Pos}
theorem cb_len (hg : Gl X "len") (hm : X.mg "len" = none) (he : starEach (e :: es) X.env = (false, eval e X.env) :: starEach es X.env) (hpl : (backTo pos (starEach es X.env)).any (·.1) = false) (h : EA X (e :: es) σ H fun vs H1 => CL X (.builtin "len") vs H1 Q) : EV X (.Call (.Name "len" p) (e :: es) [] pos) σ H Q := ev_callB hg hm PySem.boot_len (by decide) (by decide) he hpl h
theorem cb_isinstance (hg : Gl X "isinstance") (hm : X.mg "isinstance" = none) (he : starEach (e :: es) X.env = (false, eval e X.env) :: starEach es X.env) (hpl : (backTo pos (starEach es X.env)).any (·.1) = false) (h : EA X (e :: es) σ H fun vs H1 => CL X (.builtin "isinstance") vs H1 Q) : EV X (.Call (.Name "isinstance" p) (e :: es) [] pos) σ H Q := ev_callB hg hm PyProof.Rows.boot_isinstance (by decide) (by decide) he hpl h
theorem cb_all (hg : Gl X "all") (hm : X.mg "all" = none) (he : starEach (e :: es) X.env = (false, eval e X.env) :: starEach es X.env) (hpl : (backTo pos (starEach es X.env)).any (·.1) = false) (h : EA X (e :: es) σ H fun vs H1 => CL X (.builtin "all") vs H1 Q) : EV X (.Call (.Name "all" p) (e :: es) [] pos) σ H Q := ev_callB hg hm PyProof.Rows.boot_all (by decide) (by decide) he hpl h
theorem cb_max (hg : Gl X "max") (hm : X.mg "max" = none) (he : starEach (e :: es) X.env = (false, eval e X.env) :: starEach es X.env) (hpl : (backTo pos (starEach es X.env)).any (·.1) = false) (h : EA X (e :: es) σ H fun vs H1 => CL X (.builtin "max") vs H1 Q) : EV X (.Call (.Name "max" p) (e :: es) [] pos) σ H Q := ev_callB hg hm PyProof.Rows.boot_max (by decide) (by decide) he hpl h
theorem cb_sorted (hg : Gl X "sorted") (hm : X.mg "sorted" = none) (he : starEach (e :: es) X.env = (false, eval e X.env) :: starEach es X.env) (hpl : (backTo pos (starEach es X.env)).any (·.1) = false) (h : EA X (e :: es) σ H fun vs H1 => CL X (.builtin "sorted") vs H1 Q) : EV X (.Call (.Name "sorted" p) (e :: es) [] pos) σ H Q := ev_callB hg hm PyProof.Rows.boot_sorted (by decide) (by decide) he hpl h
theorem ct_list (hg : Gl X "list") (hm : X.mg "list" = none) (he : starEach (e :: es) X.env = (false, eval e X.env) :: starEach es X.env) (hpl : (backTo pos (starEach es X.env)).any (·.1) = false) (h : EA X (e :: es) σ H fun vs H1 => CL X (.type "list") vs H1 Q) : EV X (.Call (.Name "list" p) (e :: es) [] pos) σ H Q := ev_callT hg hm PyProof.Rows.boot_list (by decide) (by decide) he hpl h
theorem ct_tuple (hg : Gl X "tuple") (hm : X.mg "tuple" = none) (he : starEach (e :: es) X.env = (false, eval e X.env) :: starEach es X.env) (hpl : (backTo pos (starEach es X.env)).any (·.1) = false) (h : EA X (e :: es) σ H fun vs H1 => CL X (.type "tuple") vs H1 Q) : EV X (.Call (.Name "tuple" p) (e :: es) [] pos) σ H Q := ev_callT hg hm PyProof.Rows.boot_tuple (by decide) (by decide) he hpl h
theorem ct_set (hg : Gl X "set") (hm : X.mg "set" = none) (he : starEach (e :: es) X.env = (false, eval e X.env) :: starEach es X.env) (hpl : (backTo pos (starEach es X.env)).any (·.1) = false) (h : EA X (e :: es) σ H fun vs H1 => CL X (.type "set") vs H1 Q) : EV X (.Call (.Name "set" p) (e :: es) [] pos) σ H Q := ev_callT hg hm PyProof.Rows.boot_set (by decide) (by decide) he hpl h
theorem ct_dict (hg : Gl X "dict") (hm : X.mg "dict" = none) (he : starEach (e :: es) X.env = (false, eval e X.env) :: starEach es X.env) (hpl : (backTo pos (starEach es X.env)).any (·.1) = false) (h : EA X (e :: es) σ H fun vs H1 => CL X (.type "dict") vs H1 Q) : EV X (.Call (.Name "dict" p) (e :: es) [] pos) σ H Q := ev_callT hg hm PyProof.Rows.boot_dict (by decide) (by decide) he hpl h
theorem ty_str (hg : Gl X "str") (hm : X.mg "str" = none) (q : Q (.ty "str") H) : EV X (.Name "str" pos) σ H Q := ev_ty hg hm PyProof.Rows.boot_str q (by decide) (by decide)
theorem ty_list (hg : Gl X "list") (hm : X.mg "list" = none) (q : Q (.ty "list") H) : EV X (.Name "list" pos) σ H Q := ev_ty hg hm PyProof.Rows.boot_list q (by decide) (by decide)
theorem ty_tuple (hg : Gl X "tuple") (hm : X.mg "tuple" = none) (q : Q (.ty "tuple") H) : EV X (.Name "tuple" pos) σ H Q := ev_ty hg hm PyProof.Rows.boot_tuple q (by decide) (by decide)
theorem ty_int (hg : Gl X "int") (hm : X.mg "int" = none) (q : Q (.ty "int") H) : EV X (.Name "int" pos) σ H Q := ev_ty hg hm PyProof.Rows.boot_int q (by decide) (by decide)
theorem ty_bool (hg : Gl X "bool") (hm : X.mg "bool" = none) (q : Q (.ty "bool") H) : EV X (.Name "bool" pos) σ H Q := ev_ty hg hm PyProof.Rows.boot_bool q (by decide) (by decide)
end
end L2
namespace L2
open PySem PySem.Spec PyProof.Rows
section
variable {X : Cx} {pins : List (Addr × Obj)} {σ : St} {H : Hp} {s : Shared}
theorem Inv.turnNew {ch : List Addr} {T : Addr} {xs : List V} {us : List Value} {h' : Heap} {tk : Nat} (I : Inv X pins σ H s) (hf : ∀ b ∈ ch, FpOk X pins H b) (hT : s.heap.objs.size ≤ T)
  (k : ∀ b o, b ∉ ch -> s.heap.get? b = some o -> h'.get? b = some o) (hz : xs.length ≤ sizeLine) (rv : Vals xs us) (tp : IsTup h' T us.toArray) : Inv X pins σ (upd H T (.tup xs)) { s with heap := h', toks := tk } := by
 have nT := I.hok.fresh hT
 have neT : ∀ b o, s.heap.get? b = some o -> b ≠ T := fun b o e z => Nat.lt_irrefl _ (Nat.lt_of_lt_of_le (Heap.lt_size e) (z ▸ hT))
 have nch : ∀ b u, H b = some u -> b ∉ ch := fun b u e z => by rw [(hf b z).1] at e; cases e
 refine I.call (g' := s.gens) (d' := s.drawn) (t' := tk) (ch := ch) (h' := h') ⟨fun b o e _ _ hx => k b o hx e, fun b o e _ _ hx => ⟨o.slots, k b o hx e⟩, fun b o e n _ => ?_, fun b o e hx => ⟨o, k b o hx e⟩, fun b ys e => ?_, fun b o u e => ?_, fun b ps e => ⟨#[], ?_⟩⟩ ?_ I.bare
  fun b hb => ⟨(hf b hb).2.2.2.1, (hf b hb).2.1, (hf b hb).2.2.2.2.1, (hf b hb).2.2.2.2.2⟩
 ·rw [upd_ne (neT b o e)]; exact n
 ·rw [upd_ne (ne_of_none e nT)]; exact e
 ·rw [upd_ne (ne_of_none e nT)]; exact e
 ·rw [upd_ne (ne_of_none e nT), e]; simp
 ·intro b u e
  by_cases hb : b = T
  ·subst hb
   rw [upd_same] at e
   cases e
   exact ⟨hz, us, rv, tp⟩
  ·rw [upd_ne hb] at e
   refine (I.hok b u e).stay (fun c v hc q => k c v ?_ q) (fun c q => by rw [upd_ne (ne_of_none q nT)]; exact q) fun c ys q => by rw [upd_ne (ne_of_none q nT)]; exact q
   rcases hc with z | z
   ·subst z; exact nch c u e
   ·exact nch c _ z
end
def Ite (K : PySem.W.Frag) (l : Addr) : It :=
 ⟨fun i H => ∃ xs x, SqL K H l xs /\ xs[i]? = some x, fun i H v H' => ∃ T x, v = .ref T /\ H T = none /\ H' = upd H T (.tup [.int i, x]) /\ ∀ xs, SqL K H l xs -> xs[i]? = some x, fun i H => ∃ xs, SqL K H l xs /\ xs.length ≤ i⟩
section
variable {X : Cx} {σ : St} {H : Hp} {a b : Expr} {elts : List Expr} {k : Nat} {tp p pos : Pos} {R : It -> Hp -> Prop}
end
end L2
namespace L2
open PySem PySem.Spec PyProof.Rows
section
variable {X : Cx} {pins : List (Addr × Obj)} {σ : St} {H : Hp} {s : Shared}
theorem Inv.turnAll {ch : List Addr} {h' : Heap} {tk : Nat} (I : Inv X pins σ H s) (hf : ∀ b ∈ ch, FpOk X pins H b)
  (k : ∀ b o, b ∉ ch -> s.heap.get? b = some o -> h'.get? b = some o) : Inv X pins σ H { s with heap := h', toks := tk } := by
 have nch : ∀ b u, H b = some u -> b ∉ ch := fun b u e z => by rw [(hf b z).1] at e; cases e
 refine I.call (g' := s.gens) (d' := s.drawn) (t' := tk) (ch := ch) (h' := h') ⟨fun b o e _ _ hx => k b o hx e, fun b o e _ _ hx => ⟨o.slots, k b o hx e⟩, fun b o e n _ => n, fun b o e hx => ⟨o, k b o hx e⟩, fun b ys e => e, fun b o u e => e, fun b ps e => ⟨#[], ?_⟩⟩ ?_ I.bare
  fun b hb => ⟨(hf b hb).2.2.2.1, (hf b hb).2.1, (hf b hb).2.2.2.2.1, (hf b hb).2.2.2.2.2⟩
 ·rw [e]; simp
 ·intro b u e
  refine (I.hok b u e).stay (fun c v hc q => k c v ?_ q) (fun c q => q) fun c ys q => q
  rcases hc with z | z
  ·subst z; exact nch c u e
  ·exact nch c _ z
end
def Itz (K : PySem.W.Frag) (l m : Addr) : It :=
 ⟨fun i H => ∃ xs ys x y, SqL K H l xs /\ SqL K H m ys /\ xs[i]? = some x /\ ys[i]? = some y,
  fun i H v H' => ∃ T x y, v = .ref T /\ H T = none /\ H' = upd H T (.tup [x, y]) /\ (∀ xs, SqL K H l xs -> xs[i]? = some x) /\ ∀ ys, SqL K H m ys -> ys[i]? = some y,
  fun i H => ∃ xs ys, SqL K H l xs /\ SqL K H m ys /\ min xs.length ys.length ≤ i⟩
theorem turn_zip {P : Program} {w : World} {K : PySem.W.Frag} {elts : List Expr} {k : Nat} {pos : Pos} (z TI TO i1 i2 l m : Addr) (D : ZipApart z TI TO i1 i2 l m) :
  Turn P w K (.Tuple elts k pos) (Itz K l m) [z, TI, TO, i1, i2] z (fun i h => IsZip h z TI TO .none /\ IsPair h TI (.ref i1) (.ref i2) /\ (∃ a b, IsPair h TO a b) /\ h.IsListIter i1 l i /\ h.IsListIter i2 m i) where
 mem := by simp
 obj := fun i h st b hb => by
  obtain ⟨hz, hTI, ⟨a, a', hTO⟩, ⟨o1, h1, _, d1⟩, ⟨o2, h2, _, d2⟩⟩ := st
  simp only [List.mem_cons, List.not_mem_nil, or_false] at hb
  rcases hb with e | e | e | e | e <;> subst e
  ·exact ⟨_, hz, fun v z => by cases z⟩
  ·exact ⟨_, hTI, fun v z => by cases z⟩
  ·exact ⟨_, hTO, fun v z => by cases z⟩
  ·exact ⟨_, h1, fun v z => by rw [d1] at z; cases z⟩
  ·exact ⟨_, h2, fun v z => by rw [d2] at z; cases z⟩
 keep := fun i h h' st kk => by
  obtain ⟨hz, hTI, ⟨a, a', hTO⟩, ⟨o1, h1, r1⟩, ⟨o2, h2, r2⟩⟩ := st
  exact ⟨kk z (by simp) _ hz, kk TI (by simp) _ hTI, ⟨a, a', kk TO (by simp) _ hTO⟩, ⟨o1, kk i1 (by simp) _ h1, r1⟩, ⟨o2, kk i2 (by simp) _ h2, r2⟩⟩
 item := by
  intro X hP hw hK hc i pins s σ H E I hf st hg
  subst hP hw hK
  obtain ⟨hz, hTI, hTO, h1, h2⟩ := st
  obtain ⟨xs, ys, x, y, hS, hS', hx, hy⟩ := hg
  obtain ⟨its, rv, pl, hsz⟩ := I.list hS
  obtain ⟨its', rv', pl', hsz'⟩ := I.list hS'
  have W := WalksT.zip2 (prog := X.prog) (w := X.w) (A := X.A) (I.ok.hd hc) z TI TO i1 i2 l m D its.toArray its'.toArray
  have hi : i < min its.toArray.size its'.toArray.size := by
   rw [List.size_toArray, <- rv.length, List.size_toArray, <- rv'.length]
   exact Nat.lt_min.mpr ⟨(List.getElem?_eq_some_iff.mp hx).1, (List.getElem?_eq_some_iff.mp hy).1⟩
  obtain ⟨u, hu, ru⟩ := rv.get hx
  obtain ⟨u', hu', ru'⟩ := rv'.get hy
  refine W.item i s _ _ hi ⟨hz, hTI, hTO, h1, h2, pl.isList, pl'.isList⟩ fun T vals hh tk hp hT tup mid keep => ⟨.ref T, rfl, ?_⟩
  obtain ⟨v, v', ev, ev', rfl⟩ := hp
  have e1 : v = u := by
   have : its[i]? = some v := by simpa using ev
   rw [hu] at this
   exact (Option.some.inj this).symm
  have e2 : v' = u' := by
   have : its'[i]? = some v' := by simpa using ev'
   rw [hu'] at this
   exact (Option.some.inj this).symm
  subst e1 e2
  refine W.go elts k pos i T { s with heap := hh, toks := tk } _ _ mid fun h3 st2 keep2 => ?_
  obtain ⟨gz, gTI, gTO, g1, g2, _⟩ := st2
  have nin : ∀ b, b ∉ [z, TI, TO, i1, i2] -> b ∉ [z, TO, i1, i2] := fun b hb hb' => hb (by simp at hb' ⊢; rcases hb' with e | e | e | e <;> simp [e])
  have tup2 : IsTup h3 T [v, v'].toArray := by
   obtain ⟨o, ho, r⟩ := tup
   exact ⟨o, keep2 T o (W.apart i T hh mid) ho, r⟩
  refine ⟨.ref T, upd H T (.tup [x, y]), I.turnNew (ch := [z, TI, TO, i1, i2]) (tk := tk) hf hT (fun b o hb q => keep2 b o (nin b hb) (keep b o (nin b hb) q)) (by show 2 ≤ sizeLine; rw [sizeLine_eq]; decide) (.cons ru (.cons ru' .nil)) tup2, rfl, ?_, ⟨gz, gTI, gTO, g1, g2⟩, fun b hb => ?_⟩
  ·refine ⟨T, x, y, rfl, I.hok.fresh hT, rfl, fun a ha => ?_, fun a ha => ?_⟩
   ·rw [<- I.list_inj hS ha]; exact hx
   ·rw [<- I.list_inj hS' ha]; exact hy
  ·have : b ≠ T := fun q => by
    obtain ⟨o, ho⟩ : ∃ o, s.heap.get? b = some o := by
     obtain ⟨a, a', hTO⟩ := hTO
     obtain ⟨o1, h1, _⟩ := h1
     obtain ⟨o2, h2, _⟩ := h2
     simp only [List.mem_cons, List.not_mem_nil, or_false] at hb
     rcases hb with e | e | e | e | e <;> subst e
     ·exact ⟨_, hz⟩
     ·exact ⟨_, hTI⟩
     ·exact ⟨_, hTO⟩
     ·exact ⟨_, h1⟩
     ·exact ⟨_, h2⟩
    exact Nat.lt_irrefl _ (Nat.lt_of_lt_of_le (Heap.lt_size ho) (q ▸ hT))
   rw [upd_ne this]
   exact (hf b hb).1
 done := by
  intro X hP hw hK hc i pins s σ H E I hf st hg
  subst hP hw hK
  obtain ⟨hz, hTI, ⟨a, b, hTO⟩, h1, h2⟩ := st
  obtain ⟨xs, ys, hS, hS', hx⟩ := hg
  obtain ⟨its, rv, pl, hsz⟩ := I.list hS
  obtain ⟨its', rv', pl', hsz'⟩ := I.list hS'
  have hend : its.toArray[i]? = none \/ its'.toArray[i]? = none := by
   by_cases q : xs.length ≤ i
   ·exact .inl (Array.getElem?_eq_none (by rw [List.size_toArray, <- rv.length]; exact q))
   ·exact .inr (Array.getElem?_eq_none (by rw [List.size_toArray, <- rv'.length]; omega))
  refine wpAny_pyNext_zip_end (I.ok.hd hc) D hz hTI hTO h1 h2 pl.isList pl'.isList hend fun h' hk => ⟨rfl, ?_⟩
  exact I.turnAll (tk := s.toks) hf fun b o hb q => hk b o (fun e => hb (by simp [e])) (fun e => hb (by simp [e])) (fun e => hb (by simp [e])) (fun e => hb (by simp [e])) q
 self := fun A i s Q E st h => wpAny_pyIter_zip st.1 h
theorem apart_of (n l m : Nat) (h1 : l < n) (h2 : m < n) : ZipApart (n + 4) (n + 2) (n + 3) n (n + 1) l m := by
 constructor <;> (intro e; have e' : (_ : Nat) = _ := e; omega)
section
variable {X : Cx} {σ : St} {H : Hp} {a b : Expr} {elts : List Expr} {k : Nat} {tp p pos : Pos} {R : It -> Hp -> Prop}
theorem ei_zip (hg : Gl X "zip") (hm : X.mg "zip" = none) (hs : starEach [a, b] X.env = [(false, eval a X.env), (false, eval b X.env)]) (hs2 : starEach [b] X.env = [(false, eval b X.env)])
  (h : EV X a σ H fun v H1 => EV X b σ H1 fun v' H2 => ∃ l m xs ys, v = .ref l /\ v' = .ref m /\ H2 l = some (.lst xs) /\ H2 m = some (.lst ys) /\ R (Itz X.K l m) H2) : EI X (.Tuple elts k tp) (.Call (.Name "zip" p) [a, b] [] pos) σ H R := by
 intro pins s I
 refine Call_ (ld_blt I hg hm boot_zip (PyProof.Rows.callWith_type1 (thn (ea_cons (es := [b]) (QA := fun vs H1 => ∃ l m xs ys, vs = [.ref l, .ref m] /\ H1 l = some (.lst xs) /\ H1 m = some (.lst ys) /\ R (Itz X.K l m) H1) (by rw [hs, hs2]) (ev_mono h fun v H1 q => ea_cons (es := []) hs2 (ev_mono q fun v' H2 ⟨l, m, xs, ys, e, e', q1, q2, q3⟩ => ea_nil ⟨l, m, xs, ys, by rw [e, e'], q1, q2, q3⟩)) pos pins s I) fun us s1 ⟨vs, H1, I1, r1, l, m, xs, ys, e, hl, hm', q⟩ => ?_) (by rw [hs, hs2]) (by rw [hs2]; rfl)))
 subst e
 obtain ⟨u, u', rfl, ru, ru'⟩ := vals2 r1
 cases (show u = Value.ref l from ru)
 cases (show u' = Value.ref m from ru')
 obtain ⟨hz, its, n, rv, ho⟩ := I1.hok l _ hl
 obtain ⟨hz', its', n', rv', ho'⟩ := I1.hok m _ hm'
 refine call_zip_2 (xs := its.toArray) (ys := its'.toArray) ⟨_, ho, rfl, _, rfl⟩ ⟨_, ho', rfl, _, rfl⟩ fun h' h1 h2 h3 h4 h5 hsz hk => ?_
 refine wpAny_pyIter_zip h1 ?_
 refine ⟨s1.heap.objs.size + 4, [s1.heap.objs.size + 4, s1.heap.objs.size + 2, s1.heap.objs.size + 3, s1.heap.objs.size, s1.heap.objs.size + 1], _, _, H1, rfl, I1.kept (t' := s1.toks) hk, turn_zip _ _ _ _ _ l m (apart_of _ _ _ (Heap.lt_size ho) (Heap.lt_size ho')), ⟨h1, h2, ⟨_, _, h3⟩, h4, h5⟩, fun b hb => ?_, q⟩
 have hb' : s1.heap.objs.size ≤ b := by
  simp only [List.mem_cons, List.not_mem_nil, or_false] at hb
  rcases hb with e | e | e | e | e <;> subst e
  ·exact Nat.le_add_right _ _
  ·exact Nat.le_add_right _ _
  ·exact Nat.le_add_right _ _
  ·exact Nat.le_refl _
  ·exact Nat.le_add_right _ _
 exact I1.fpOk hb' (I1.hok.fresh hb')
end
end L2
namespace L2
open PySem PySem.Spec PyProof.Rows
section
variable {X : Cx} {a e : Expr} {σ : St} {H : Hp} {Q : VK} {D : Ends} {pos p p' : Pos}
theorem comp_any {Y : Cx} {tg elt : Expr} {J : It} {E : Addr} {τ0 : St} {Q : Hp -> Prop}
  (n : Nat) (hn : n ≤ sizeLine) (Tp : St -> Prop) (hT : Tp τ0) (Pi : Nat -> V -> Hp -> Prop) (hE : H E = none)
  (mono : ∀ i v H1 H2 ys, H1 E = some (.lst ys) -> (∀ b o, b ≠ E -> H1 b = some o -> H2 b = some o) -> Pi i v H1 -> Pi i v H2)
  (go : ∀ i H1, Same H H1 -> i < n -> J.go i H1) (stop : ∀ H1, Same H H1 -> J.stop n H1)
  (step : ∀ i τ x H1 H2, i < n -> Tp τ -> Same H H1 -> (∃ ys, H1 E = some (.lst ys)) -> J.yld i H1 x H2 -> EG Y tg x τ H2 fun τ2 H3 => EV Y elt τ2 H3 fun v H4 => Tp τ2 /\ Pi i v H4 /\ Same H1 H4)
  (fin : ∀ H1 xs, xs.length = n -> (∀ i v, xs[i]? = some v -> Pi i v H1) -> H1 E = some (.lst xs) -> Same H H1 -> Q H1) : CompT X Y tg elt [] J E τ0 H Q := by
 refine ⟨fun i m τ H1 => m = n - i /\ i ≤ n /\ Same H H1 /\ Tp τ /\ ∃ xs, H1 E = some (.lst xs) /\ xs.length = i /\ ∀ k v, xs[k]? = some v -> Pi k v H1, ⟨n, by simp, Nat.zero_le _, Same.upd hE, hT, [], upd_same, rfl, fun k v e => by simp at e⟩, ?_⟩
 rintro i m τ H1 ⟨rfl, hi, s1, hτ, xs, eE, lx, px⟩
 by_cases hlt : i < n
 ·refine .inr ⟨go i H1 s1 hlt, fun τ' H' => Same H H' /\ Tp τ' /\ ∃ xs, H' E = some (.lst xs) /\ xs.length = i + 1 /\ ∀ k v, xs[k]? = some v -> Pi k v H', fun τ' H' ⟨a, b, c⟩ => ⟨n - (i + 1), by omega, rfl, hlt, a, b, c⟩, fun x H2 y => ?_⟩
  intro pins s u I r
  refine thn (step i τ x H1 H2 hlt hτ s1 ⟨xs, eE⟩ y pins s u I r) fun _ s' ⟨τ2, H3, I3, q3⟩ => ⟨τ2, H3, I3, eifs_nil ?_⟩
  rw [if_pos rfl]
  refine ev_mono q3 fun v H4 ⟨t2, pv, s2⟩ => ⟨xs, s2 _ _ eE, by omega, ?_⟩
  have mm : ∀ k w', Pi k w' H4 -> Pi k w' (upd H4 E (.lst (xs ++ [v]))) := fun k w' q => mono k w' H4 _ xs (s2 _ _ eE) (fun b o hb e => by rw [upd_ne hb]; exact e) q
  refine ⟨fun b o e => ?_, t2, xs ++ [v], upd_same, by simp [lx], fun k u e => ?_⟩
  ·rw [upd_ne (ne_of_none e hE)]
   exact s2 _ _ (s1 _ _ e)
  ·by_cases hk : k < xs.length
   ·rw [List.getElem?_append_left hk] at e
    refine mono k u H1 _ xs eE (fun b o hb e => ?_) (px k u e)
    rw [upd_ne hb]
    exact s2 _ _ e
   ·have hk2 : k = i := by
     have := (List.getElem?_eq_some_iff.mp e).1
     rw [List.length_append, List.length_singleton] at this
     omega
    subst hk2
    rw [<- lx, List.getElem?_concat_length] at e
    cases e
    exact mm _ _ pv
 ·have e : i = n := by omega
  subst e
  exact .inl ⟨stop H1 s1, fin H1 xs lx px eE s1⟩
variable {tg elt iter : Expr} {scope : Scope} {σ' : St}
def CompW (X : Cx) (N' : List Str) (scope : Scope) (tg elt : Expr) (σ' : St) (H1 : Hp) (Q : VK) (n : Nat) (G : Nat -> Hp -> V -> Hp -> Prop) : Prop :=
 ∃ (Tp : St -> Prop) (Pi : Addr -> Nat -> V -> Hp -> Prop), Tp σ' /\
   (∀ E i v H2 H3 ys, H2 E = some (.lst ys) -> (∀ b o, b ≠ E -> H2 b = some o -> H3 b = some o) -> Pi E i v H2 -> Pi E i v H3) /\
   (∀ (fp : List Addr) (E C : Addr) (s3 : Shared) (H0 : Hp) (i : Nat) (τ : St) (x : V) (H2 H3 : Hp), H1 E = none -> i < n -> Tp τ -> Same H1 H2 -> (∃ ys, H2 E = some (.lst ys)) -> G i H2 x H3 ->
    EG (blk X N' scope (closL scope X.env) C s3 H0 fp) tg x τ H3 fun τ2 H4 => EV (blk X N' scope (closL scope X.env) C s3 H0 fp) elt τ2 H4 fun v H5 => Tp τ2 /\ Pi E i v H5 /\ Same H2 H5) /\
   ∀ (E : Addr) (H2 : Hp) (xs : List V), H1 E = none -> xs.length = n -> (∀ i v, xs[i]? = some v -> Pi E i v H2) -> H2 E = some (.lst xs) -> Same H1 H2 -> Q (.ref E) H2
theorem compW {N' : List Str} {J : It} {n : Nat} {G : Nat -> Hp -> V -> Hp -> Prop} (hn : n ≤ sizeLine) (go : ∀ i H2, Same H H2 -> i < n -> J.go i H2) (stop : ∀ H2, Same H H2 -> J.stop n H2)
  (yl : ∀ i H2 x H3, i < n -> Same H H2 -> J.yld i H2 x H3 -> G i H2 x H3) (h : CompW X N' scope tg elt σ' H Q n G) :
  ∀ (fp : List Addr) (D C : Addr) (s3 : Shared), H D = none -> CompT X (blk X N' scope (closL scope X.env) C s3 (upd H D (.lst [])) fp) tg elt [] J D σ' H (fun H' => Q (.ref D) H') := by
 intro fp E C s3 hE
 obtain ⟨Tp, Pi, t0, mono, step, fin⟩ := h
 exact comp_any n hn Tp t0 (Pi E) hE (fun i v H1 H2 ys => mono E i v H1 H2 ys) go stop (fun i τ x H1 H2 hi ht hs hy y => step fp E C s3 _ i τ x H1 H2 hE hi ht hs hy (yl i H1 x H2 hi hs y)) fun H1 xs l px eE s => fin E H1 xs hE l px eE s
theorem ev_compL (N' : List Str) (hσ : capSt N' X.N σ scope = σ') (hc : X.calm = true) (S : CompSc X.env scope) (hs : ∀ x, foldedSetIterable e X.env x = pure x)
  (h : EV X e σ H fun v H1 => ∃ l xs, v = .ref l /\ SqL X.K H1 l xs /\ xs.length ≤ sizeLine /\ CompW X N' scope tg elt σ' H1 Q xs.length fun i H2 x H3 => xs[i]? = some x /\ H2 = H3) :
  EV X (.ListComp elt [⟨tg, e, [], 0⟩] scope pos) σ H Q := by
 refine ev_comp (N' := N') hc S hs (ei_list (ev_mono h fun v H1 q => ?_))
 obtain ⟨l, xs, rfl, hl, hz, hw⟩ := q
 refine ⟨l, rfl, ⟨xs, hl⟩, ?_⟩
 rw [hσ]
 refine compW hz (fun i H2 s hi => ⟨xs, xs[i], Same.seq s hl, List.getElem?_eq_getElem hi⟩) (fun H2 s => ⟨xs, Same.seq s hl, Nat.le_refl _⟩) (fun i H2 x H3 hi s y => ⟨y.2 xs (Same.seq s hl), y.1.symm⟩) hw
theorem ev_compRh (N' : List Str) (hσ : capSt N' X.N σ scope = σ') (hc : X.calm = true) (S : CompSc X.env scope)
  (hg : Gl X "range") (hm : X.mg "range" = none) (hs : starEach [a] X.env = [(false, eval a X.env)])
  (h : EV X a σ H fun v H1 => ∃ n : Int, v = .int n /\ -(2 ^ 62) ≤ n /\ n.toNat ≤ sizeLine /\ CompW X N' scope tg elt σ' H1 Q n.toNat fun i H2 x H3 => x = .int i /\ H2 = H3) :
  EV X (.ListComp elt [⟨tg, .Call (.Name "range" p) [a] [] p', [], 0⟩] scope pos) σ H Q := by
 refine ev_comp (N' := N') hc S (by intro _; rfl) (ei_range1 hg hm hs (ea_cons hs (ev_mono h fun v H1 q => ?_)))
 obtain ⟨n, rfl, h1, h2, hw⟩ := q
 have hsz : (sizeLine : Nat) < 2 ^ 62 := by rw [sizeLine_eq]; decide
 refine ea_nil ⟨n, rfl, h1, by omega, ?_⟩
 rw [hσ]
 exact compW h2 (fun i H2 s hi => hi) (fun H2 s => Nat.le_refl _) (fun i H2 x H3 hi s y => ⟨by rw [y.2, Int.zero_add], y.1.symm⟩) hw
theorem ev_compZ {b : Expr} {elts : List Expr} {k : Nat} {tp : Pos} (N' : List Str) (hσ : capSt N' X.N σ scope = σ') (hc : X.calm = true) (S : CompSc X.env scope)
  (hg : Gl X "zip") (hm : X.mg "zip" = none) (hs : starEach [a, b] X.env = [(false, eval a X.env), (false, eval b X.env)]) (hs2 : starEach [b] X.env = [(false, eval b X.env)])
  (h : EV X a σ H fun v H1 => EV X b σ H1 fun v' H2 => ∃ l m xs ys, v = .ref l /\ v' = .ref m /\ H2 l = some (.lst xs) /\ H2 m = some (.lst ys) /\ min xs.length ys.length ≤ sizeLine /\
   CompW X N' scope (.Tuple elts k tp) elt σ' H2 Q (min xs.length ys.length) fun i H3 x H4 => ∃ T y z, x = .ref T /\ H3 T = none /\ H4 = upd H3 T (.tup [y, z]) /\ xs[i]? = some y /\ ys[i]? = some z) :
  EV X (.ListComp elt [⟨.Tuple elts k tp, .Call (.Name "zip" p) [a, b] [] p', [], 0⟩] scope pos) σ H Q := by
 refine ev_comp (N' := N') hc S (by intro _; rfl) (ei_zip hg hm hs hs2 (ev_mono h fun v H1 q => ev_mono q fun v' H2 q => ?_))
 obtain ⟨l, m, xs, ys, e1, e2, hl, hm', h2, hw⟩ := q
 refine ⟨l, m, xs, ys, e1, e2, hl, hm', ?_⟩
 rw [hσ]
 have S1 : SqL X.K H2 l xs := .inl (.inl hl)
 have S2 : SqL X.K H2 m ys := .inl (.inl hm')
 refine compW h2 (fun i H3 s hi => ⟨xs, ys, xs[i]'(by omega), ys[i]'(by omega), Same.seq s S1, Same.seq s S2, List.getElem?_eq_getElem _, List.getElem?_eq_getElem _⟩) (fun H3 s => ⟨xs, ys, Same.seq s S1, Same.seq s S2, Nat.le_refl _⟩) (fun i H3 x H4 hi s y => ?_) hw
 obtain ⟨T, u, u', a1, a2, a3, a4, a5⟩ := y
 exact ⟨T, u, u', a1, a2, a3, a4 xs (Same.seq s S1), a5 ys (Same.seq s S2)⟩
end
end L2
namespace L2
open PySem PySem.Spec PyProof.Rows
section
variable {Kt : Type} [DecidableEq Kt] [BEq Kt] [LawfulBEq Kt]
def seenL (ks : List Kt) : List Kt := ks.foldl (fun a k => if k ∈ a then a else a ++ [k]) []
theorem seenL_snoc (ks : List Kt) (k : Kt) : seenL (ks ++ [k]) = if k ∈ seenL ks then seenL ks else seenL ks ++ [k] := by
 unfold seenL
 rw [List.foldl_append]
 rfl
theorem seenL_le : ∀ n (ks : List Kt), ks.length = n -> (seenL ks).length ≤ ks.length
 | 0, ks, h => by rw [List.length_eq_zero_iff.mp h]; exact Nat.le_refl _
 | n + 1, ks, h => by
   obtain ⟨l, k, rfl⟩ : ∃ l k, ks = l ++ [k] := ⟨_, _, (List.dropLast_concat_getLast (List.ne_nil_of_length_eq_add_one h)).symm⟩
   have hl : l.length = n := by simpa using h
   have ih := seenL_le n l hl
   rw [seenL_snoc]
   split <;> simp <;> omega
theorem seenL_mem : ∀ n (ks : List Kt), ks.length = n -> ∀ k, k ∈ seenL ks ↔ k ∈ ks
 | 0, ks, h => by rw [List.length_eq_zero_iff.mp h]; intro k; exact Iff.rfl
 | n + 1, ks, h => by
   obtain ⟨l, x, rfl⟩ : ∃ l k, ks = l ++ [k] := ⟨_, _, (List.dropLast_concat_getLast (List.ne_nil_of_length_eq_add_one h)).symm⟩
   have hl : l.length = n := by simpa using h
   have ih := seenL_mem n l hl
   intro k
   rw [seenL_snoc, List.mem_append, List.mem_singleton]
   split
   ·rename_i hx
    rw [ih]
    constructor
    ·exact .inl
    ·rintro (e | e)
     ·exact e
     ·rw [e]; exact (ih x).mp hx
   ·rw [List.mem_append, List.mem_singleton, ih]
theorem seenL_full : ∀ n (ks : List Kt), ks.length = n -> ((seenL ks).length = ks.length ↔ ks.Nodup)
 | 0, ks, h => by rw [List.length_eq_zero_iff.mp h]; simp [seenL]
 | n + 1, ks, h => by
   obtain ⟨l, x, rfl⟩ : ∃ l k, ks = l ++ [k] := ⟨_, _, (List.dropLast_concat_getLast (List.ne_nil_of_length_eq_add_one h)).symm⟩
   have hl : l.length = n := by simpa using h
   have ih := seenL_full n l hl
   have le := seenL_le n l hl
   have me := seenL_mem n l hl x
   rw [seenL_snoc, List.nodup_append]
   split
   ·rename_i hx
    constructor
    ·intro e; simp at e; omega
    ·intro e; exact absurd rfl (e.2.2 x (me.mp hx) x (by simp))
   ·rename_i hx
    rw [List.length_append, List.length_append, List.length_singleton]
    constructor
    ·intro e
     refine ⟨ih.mp (by omega), by simp, fun a ha b hb => ?_⟩
     rw [List.mem_singleton.mp hb]
     intro e'
     exact hx (me.mpr (e' ▸ ha))
    ·intro e
     rw [ih.mpr e.1]
end
section
variable {prog : Program} {w : World} {A : Around} {E : Value -> Shared -> Prop} {s : Shared} {zs : List Str} {us : Array Value}
def strAt (us : Array Value) (zs : List Str) : Prop := ∀ (i : Nat) (v : Value), us[i]? = some v -> ∃ t z, v = .str z t /\ zs[i]? = some z
def TxS (prog : Program) (w : World) (h : Heap) (S : Addr) (zs : List Str) : Prop := h.SetOf (strKind prog w) S (fun k => decide (k ∈ seenL zs)) (seenL zs).length
theorem TxS.stay {h h' : Heap} {S : Addr} (x : TxS prog w h S zs) (k : ∀ o, h.get? S = some o -> h'.get? S = some o) : TxS prog w h' S zs := by
 obtain ⟨o, es, ep, t, ho, rest⟩ := x
 exact ⟨o, es, ep, t, k _ ho, rest⟩
theorem set_loop {R : Result -> Shared -> Prop} {it : Addr} {fp wr : List Addr} {G : Array GenState -> Array GenState -> Prop} {St : Nat -> Shared -> Prop}
  (W : WalksS prog w A.in1 it fp wr G us.size (fun i v => us[i]? = some v) St) (S : Addr) (hS : S ∉ fp) (hz : strAt us zs) (hl : us.size = zs.length) (hb : us.size + 1 < scanBound) (d : Nat) :
  ∀ (i : Nat) (s : Shared), d + i = us.size -> St i s -> TxS prog w s.heap S (zs.take i) ->
    (∀ s', Moved (S :: wr) G s s' -> TxS prog w s'.heap S zs -> R (.ok (.ret .none)) s') -> codeAny (model prog w) A (.builtin "set.update.loop" ⟨[.ref S, .ref it], []⟩) R s := by
 have hSw : S ∉ wr := fun h => hS (W.sub _ h)
 have up : ∀ b ∈ wr, b ∈ S :: wr := fun b hb => List.mem_cons_of_mem _ hb
 induction d with
 | zero =>
   intro i s hi st ts hR
   have e : i = us.size := by omega
   subst e
   refine codeAny_builtin F.entry_set_update_loop ?_
   rw [Around.under_plainId F.plain_set_update_loop _]
   refine wpAny_bind (m := pyNext (.ref it)) (W.done s _ _ st fun s' hm => ?_)
   refine wpAny_pure (hR s' (hm.mono up) ?_)
   rw [hl, List.take_length] at ts
   exact ts.stay fun o ho => hm.heap S o hSw ho
 | succ d ih =>
   intro i s hi st ts hR
   refine codeAny_builtin F.entry_set_update_loop ?_
   rw [Around.under_plainId F.plain_set_update_loop _]
   refine wpAny_bind (m := pyNext (.ref it)) (W.item i s _ _ (by omega) st fun v s' hv st' hm => ?_)
   obtain ⟨t, z, rfl, ez⟩ := hz i v hv
   have ts' := ts.stay (h' := s'.heap) fun o ho => hm.heap S o hSw ho
   show wpAny _ A.in1 (holding [Value.str z t] (setAdd S (.str z t)) >>= _) _ _ s'
   refine wpAny_bind (wpAny_holding ?_)
   unfold setAdd
   refine wpAny_holding (wpAny_bind ((strKind prog w).pyHash (k := z) (strKind_is _ _ _ _) ?_))
   have et : zs.take (i + 1) = zs.take i ++ [z] := by rw [List.take_add_one, ez]; rfl
   have room : (seenL (zs.take i)).length + 1 < scanBound := by
    have := seenL_le _ (zs.take i) rfl
    have : (zs.take i).length ≤ zs.length := by simp; omega
    omega
   refine wpAny_setAddHashed_of (knd := strKind prog w) (s := { s' with toks := s'.toks + 1 }) (strKind_is _ _ _ _) rfl ts' room fun h' sb ts2 => ?_
   have ts3 : TxS prog w h' S (zs.take (i + 1)) := by
    refine SetOf_congr ts2 (fun k => ?_) ?_
    ·rw [et, seenL_snoc]
     split
     ·rename_i hk
      by_cases e : k = z
      ·subst e; simp [hk]
      ·simp [e]
     ·by_cases e : k = z
      ·subst e; simp
      ·simp [e]
    ·rw [et, seenL_snoc]
     by_cases hk : z ∈ seenL (zs.take i)
     ·simp [hk]
     ·simp [hk]
   refine wpAny_pure ⟨plainId_quiet F.plain_set_update_loop _, ih (i + 1) _ (by omega) (W.frame _ s' _ _ st' (Nat.le_succ _) fun b hb o e => ?_) ts3 fun s2 hm2 ts4 => ?_⟩
   ·rw [sb.2 b (fun h : b = S => hS (h ▸ hb))]; exact e
   ·refine hR s2 (Moved.trans W.gtrans ((hm.mono up).then_heap (Nat.le_succ _) fun b o hb e => ?_) hm2) ts4
    rw [sb.2 b (fun h : b = S => hb (h ▸ List.mem_cons_self))]; exact e
abbrev newSet (h : Heap) (led : Bool) : Heap := h.push { cls := .type "set", dict := none, data := .set #[] 0 (.fresh 0 0 led) }
set_option maxRecDepth 100000 in
theorem set_init {l S : Addr} {Q : Value -> Shared -> Prop} (hh : A.handled = none) (hl : s.heap.IsList l us) (hS : ∃ led, s.heap.get? S = some { cls := .type "set", dict := none, data := .set #[] 0 (.fresh 0 0 led) })
  (hz : strAt us zs) (hn : us.size = zs.length) (hb : us.size + 1 < scanBound)
  (h : ∀ (h' : Heap) (tk : Nat), TxS prog w h' S zs -> (∀ b o, b ≠ S -> s.heap.get? b = some o -> h'.get? b = some o) -> Q .none { s with heap := h', toks := tk }) :
  codeAny (model prog w) A (.call (.builtin "set.__init__") ⟨[.ref S, .ref l], []⟩) (wants Q E) s := by
 obtain ⟨led, hS⟩ := hS
 have hT : s.TypeIs (.ref S) "set" := ⟨_, hS, rfl⟩
 refine codeAny_call_builtin F.called_set.init.plain F.entry_set_init (check_set_init_1 hT ?_)
 have hl0 := hl
 obtain ⟨⟨oc, od, odata, os⟩, hol, hc, nl, hd⟩ := hl
 simp only at hc hd
 subst hc hd
 have f1 := F.sub_list_set
 have f2 := F.sub_list_frozenset
 have f3 : (Value.type "list" == Value.type "dict") = false := by decide
 unfold Builtin.«set.__init__» noKeywords Builtin.Frozenset.updateFrom
 generalize hPI : pyIter = PI
 wp_walk
 subst hPI
 refine wpAny_pyIter_list hl0 (wpAny_bind (wpAny_runValue ?_))
 have lS : S < s.heap.objs.size := Heap.lt_size hS
 have ll : l < s.heap.objs.size := Heap.lt_size hol
 have h3 : A.in1.in1.handled = none := by simp [hh]
 have hlS : S ≠ l := fun e => by subst e; rw [hS] at hol; simp at hol
 refine set_loop (us := us) ((Walks.list h3 _ l (Nat.ne_of_lt ll) us).toS) S (by simp only [List.mem_cons, List.not_mem_nil, or_false, not_or]; exact ⟨Nat.ne_of_lt lS, hlS⟩) hz hn hb us.size 0 { s with heap := s.heap.push { cls := .type "list_iterator", data := .fields #[.ref l, .int 0 0] } } (by omega)
  ⟨⟨_, Heap.get?_push_size _ rfl, rfl, rfl⟩, (hl0.push _)⟩ ?_ ?_
 ·have hget := Heap.get?_push_of_some { cls := .type "list_iterator", data := .fields #[.ref l, .int 0 0] } hS
  exact SetOf_congr ((setObjOf_fresh (knd := strKind prog w) led).setOf hget (by unfold scanBound; omega)) (fun _ => rfl) rfl
 ·intro s' hm ts
  obtain ⟨h', g', d', tk', os'⟩ := s'
  have eg : g' = s.gens := hm.gens
  have ed : d' = s.drawn := hm.drawn
  have eo : os' = s.os := hm.os
  subst eg ed eo
  refine wpAny_pure ?_
  show wpAny _ _ (ret Value.none) _ _ _
  refine wpAny_pure (h h' tk' ts fun b o hb e => ?_)
  refine hm.heap b o ?_ (Heap.get?_push_of_some _ e)
  simp only [List.mem_cons, List.not_mem_nil, or_false, not_or]
  exact ⟨hb, Nat.ne_of_lt (Heap.lt_size e)⟩
set_option maxRecDepth 100000 in
theorem call_set_texts {l : Addr} {Q : Value -> Shared -> Prop} (hh : A.handled = none) (hl : s.heap.IsList l us) (hz : strAt us zs) (hn : us.size = zs.length) (hb : us.size + 1 < scanBound)
  (h : ∀ (h' : Heap) (tk : Nat), TxS prog w h' s.heap.objs.size zs -> (∀ b o, s.heap.get? b = some o -> h'.get? b = some o) -> Q (.ref s.heap.objs.size) { s with heap := h', toks := tk }) :
  wpAny (model prog w) A (call (.type "set") [.ref l]) Q E s := by
 obtain ⟨c, tl, hmro⟩ := F.called_set.mro
 have hmade := F.called_set.made
 have hsub := F.called_set.sub
 have h1 := F.called_set.notType
 have h2 := F.called_set.canCreate
 have hct := F.typeCall_set_1 (.ref l)
 refine wpAny_call (codeAny_of_tree ?_)
 show wpAny _ _ (callAny (.type "set") _) _ _ _
 refine wpAny_pure ⟨Code.quiet_builtin _ (by decide +kernel), codeAny_builtin F.entry_type_call ?_⟩
 rw [Around.under_plain (weight_type_call_type "set" [.ref l] []) rfl]
 repeat (any_goals (first | assumption | wp_step))
 refine codeAny_mono (code_set_new_1 (.ref l) (E := E) (Q₁ := fun obj s₁ => ∃ led : Bool, obj = .ref s.heap.objs.size /\ s₁ = { s with heap := newSet s.heap led }) fun led => ⟨led, rfl, rfl⟩) fun r s₁ hr => ?_
 rcases r with e | (_ | _ | _ | obj)
 all_goals first | exact hr | exact hr.elim | skip
 obtain ⟨led, rfl, rfl⟩ := hr
 have hS : (newSet s.heap led).get? s.heap.objs.size = some { cls := .type "set", dict := none, data := .set #[] 0 (.fresh 0 0 led) } := Heap.get?_push_size _ rfl
 have hT : Shared.TypeIs { s with heap := newSet s.heap led } (.ref s.heap.objs.size) "set" := ⟨_, hS, rfl⟩
 have hli := F.called_set.init.lookup
 have hbi := F.called_set.init.bind (.ref s.heap.objs.size)
 repeat (any_goals (first | assumption | wp_step))
 refine codeAny_mono (set_init (E := E) (s := { s with heap := newSet s.heap led }) (Q := fun r s₂ => r = .none /\ ∃ h' tk, s₂ = { s with heap := h', toks := tk } /\ TxS prog w h' s.heap.objs.size zs /\ ∀ b o, s.heap.get? b = some o -> h'.get? b = some o) (by simp [hh]) (hl.push _) ⟨led, hS⟩ hz hn hb fun h' tk ts k => ⟨rfl, h', tk, rfl, ts, fun b o e => k b o (Nat.ne_of_lt (Heap.lt_size e)) (Heap.get?_push_of_some _ e)⟩) fun r₂ s₂ hr₂ => ?_
 rcases r₂ with e | (_ | _ | _ | r)
 all_goals first | exact hr₂ | exact hr₂.elim | skip
 obtain ⟨rfl, h', tk, rfl, ts, k⟩ := hr₂
 repeat (any_goals (first | assumption | wp_step))
 exact h _ _ ts k
end
end L2
namespace L2
open PySem PySem.Spec PyProof.Rows
section
variable {X : Cx} {H : Hp} {Q : VK} {v : V}
def txSet (X : Cx) (S : Addr) (zs : List Str) : HO := .ext fun h => TxS X.prog X.w h S zs
theorem c_setS {q : Addr} {zs : List Str} (hc : X.calm = true) (h : SqL X.K H q (zs.map V.str)) (hz : zs.length ≤ 4000) (g : ∀ S, H S = none -> Q (.ref S) (upd H S (txSet X S zs))) : CL X (.type "set") [.ref q] H Q := by
 refine cl_by (r := fun xs H Q => ∃ q zs, xs = [.ref q] /\ SqL X.K H q (zs.map V.str) /\ zs.length ≤ 4000 /\ ∀ S, H S = none -> Q (.ref S) (upd H S (txSet X S zs))) ?_ ⟨q, zs, rfl, h, hz, g⟩
 intro pins s σ H xs us Q I r h
 obtain ⟨q, zs, rfl, h, hz, g⟩ := h
 obtain ⟨u, rfl, ru⟩ := vals1 r
 cases (show u = Value.ref q from ru)
 obtain ⟨its, rv, pl, _⟩ := I.list h
 have hl : its.length = zs.length := by have := rv.length; rw [List.length_map] at this; exact this.symm
 have hat : strAt its.toArray zs := fun i v e => by
  have e' : its[i]? = some v := by simpa using e
  have hi : i < zs.length := by rw [<- hl]; exact (List.getElem?_eq_some_iff.mp e').1
  obtain ⟨u, e1, e2⟩ := rv.get (i := i) (x := V.str zs[i]) (by simp [hi])
  rw [e'] at e1
  cases e1
  obtain ⟨t, rfl⟩ := e2
  exact ⟨t, zs[i], rfl, List.getElem?_eq_getElem hi⟩
 refine call_set_texts (I.ok.hd hc) pl.isList hat (by simpa using hl) (by show _ < 4096; simp; omega) fun h' tk ts k => ?_
 refine ⟨.ref s.heap.objs.size, _, I.laid (t' := tk) (o := txSet X s.heap.objs.size zs) k (Nat.le_refl _) ⟨ts, ?_, fun h1 h2 ts hk => ts.stay hk⟩, rfl, g _ (I.hok.fresh (Nat.le_refl _))⟩
 obtain ⟨o, es, ep, t, ho, _⟩ := ts
 exact ⟨o, ho⟩
theorem c_lenT {S : Addr} {zs : List Str} (h : H S = some (txSet X S zs)) (hz : zs.length ≤ 4000) (g : Q (.int (seenL zs).length) H) : CL X (.builtin "len") [.ref S] H Q := by
 refine cl_by (r := fun xs H Q => ∃ S zs, xs = [.ref S] /\ H S = some (txSet X S zs) /\ zs.length ≤ 4000 /\ Q (.int (seenL zs).length) H) ?_ ⟨S, zs, rfl, h, hz, g⟩
 intro pins s σ H xs us Q I r h
 obtain ⟨S, zs, rfl, h, hz, g⟩ := h
 obtain ⟨u, rfl, ru⟩ := vals1 r
 cases (show u = Value.ref S from ru)
 obtain ⟨⟨o, es, ep, t, ho, hex, hd, hel, hm, hb, hf, hn⟩, _⟩ := I.hok S _ h
 have le := seenL_le _ zs rfl
 refine call_len_set ho hex hd hf (by omega) ⟨.int es.size, H, I.tok _, ⟨_, rfl⟩, ?_⟩
 rw [hn]
 exact g
theorem o_ninT {x : V} {p : Addr} {xs : List V} (h : SqT X.K H p xs) (f : flatV x = true) (fs : xs.all flatV = true) (q : Q (.bl (!inV x xs)) H) : OP X (compareOp .NotIn) x (.ref p) H Q := op_by op_notIn_seq ⟨p, xs, rfl, .inr h, f, fs, q⟩
theorem o_ninL {x : V} {p : Addr} {xs : List V} (h : SqL X.K H p xs) (f : flatV x = true) (fs : xs.all flatV = true) (q : Q (.bl (!inV x xs)) H) : OP X (compareOp .NotIn) x (.ref p) H Q := op_by op_notIn_seq ⟨p, xs, rfl, .inl h, f, fs, q⟩
end
section
variable {X : Cx} {H : Hp} {D : Ends} {σ σ' : St} {e a elt tg : Expr} {scope : Scope} {pos spos py p p' : Pos} {y : Str} {j : Nat}
theorem sx_compL (N' : List Str) (hσ : capSt N' X.N σ scope = σ') (hsw : swapsWith (.ListComp elt [⟨tg, e, [], 0⟩] scope pos) (some (.Name y py)) spos.line X.env = pure true) (hc : X.calm = true) (S : CompSc X.env scope) (hs : ∀ x, foldedSetIterable e X.env x = pure x)
  (hN : X.N.Nodup) (hi : nameAt X.N y = some j) (hx : X.env.scope.names.lookup y = some .local)
  (h : EV X e σ H fun v H1 => ∃ l xs, v = .ref l /\ SqL X.K H1 l xs /\ xs.length ≤ sizeLine /\ CompW X N' scope tg elt σ' H1 (fun v H' => D.nx (σ.set j (some v)) H') xs.length fun i H2 x H3 => xs[i]? = some x /\ H2 = H3) :
  SX X (.Assign [.Name y py] (.ListComp elt [⟨tg, e, [], 0⟩] scope pos) spos) D σ H := by
 refine sx_comp (N' := N') hsw hc S hs hN hi hx (ei_list (ev_mono h fun v H1 q => ?_))
 obtain ⟨l, xs, rfl, hl, hz, hw⟩ := q
 refine ⟨l, rfl, ⟨xs, hl⟩, ?_⟩
 rw [hσ]
 refine compW (J := Itl X.K l) hz (fun i H2 s hi => ⟨xs, xs[i], Same.seq s hl, List.getElem?_eq_getElem hi⟩) (fun H2 s => ⟨xs, Same.seq s hl, Nat.le_refl _⟩) (fun i H2 x H3 hi s y => ⟨y.2 xs (Same.seq s hl), y.1.symm⟩) hw
end
end L2
namespace L2
open PySem PySem.Spec PyProof.Rows
def cutAt (c : Nat) : List Nat -> List (List Nat)
 | [] => [[]]
 | x :: r => if x = c then [] :: cutAt c r else match cutAt c r with
   | [] => [[x]]
   | h :: t => (x :: h) :: t
def glueL (c : Nat) : List (List Nat) -> List Nat
 | [] => []
 | [p] => p
 | p :: q :: r => p ++ c :: glueL c (q :: r)
def cutT (c : Nat) (x : Str) : List Str := (cutAt c x.cps.toList).map fun l => ⟨l.toArray⟩
section
variable {X : Cx} {H : Hp} {Q : VK} {z y : Str} {v : V}
end
def Itv (K : PySem.W.Frag) (l : Addr) (n : Nat) : It :=
 ⟨fun i H => i < n /\ ∃ xs, SqL K H l xs /\ xs.length = n, fun i H x H' => H' = H /\ ∀ xs, SqL K H l xs -> xs[n - 1 - i]? = some x, fun i _ => i = n⟩
theorem turn_rev {P : Program} {w : World} {K : PySem.W.Frag} {tg : Expr} (l it : Addr) (n : Nat) : Turn P w K tg (Itv K l n) [it] it (fun i h => h.IsRevIter it l ((n : Int) - 1 - (i : Int))) where
 mem := by simp
 obj := fun i h st b hb => by
  have e : b = it := by simpa using hb
  subst e
  obtain ⟨o, e, c, d⟩ := st
  exact ⟨o, e, fun v z => by rw [d] at z; cases z⟩
 keep := fun i h h' st k => st.at fun o e => k it (by simp) o e
 item := by
  intro X hP hw hK hc i pins s σ H E I hf st hg
  subst hP hw hK
  obtain ⟨hi, xs, hq, hx⟩ := hg
  obtain ⟨its, rv, p, hz⟩ := I.list hq
  have hx' : n - 1 - i < xs.length := by omega
  obtain ⟨u, hu, ru⟩ := rv.get (List.getElem?_eq_getElem hx')
  obtain ⟨f0, f1, f2, f3, f4, f5⟩ := hf it (by simp)
  have ei : ((n : Int) - 1 - (i : Int)) = ((n - 1 - i : Nat) : Int) := by omega
  rw [ei] at st
  refine wpAny_pyNext_rev_item st p.isList (x := u) (by simpa using hu) fun h' st' sb => ?_
  have I1 : Inv X pins σ H { s with heap := h' } := I.turned (t' := s.toks) (fun b o hb e => (sb.2 b hb).trans e) f0 f1 f3 f4 f5
  obtain ⟨o, e, c, d⟩ := id st'
  refine ⟨u, rfl, go_of (s := { s with heap := h' }) e c d (by decide) ⟨_, H, I1, ru, ⟨rfl, fun ys hy => ?_⟩, ?_, fun b hb => (hf b hb).1⟩⟩
  ·rw [I.list_inj hy hq]
   exact List.getElem?_eq_getElem hx'
  ·have e2 : ((n : Int) - 1 - ((i + 1 : Nat) : Int)) = ((n - 1 - i : Nat) : Int) - 1 := by omega
   rw [e2]
   exact st'
 done := by
  intro X hP hw hK hc i pins s σ H E I hf st hg
  subst hP hw hK
  obtain ⟨f0, f1, f2, f3, f4, f5⟩ := hf it (by simp)
  have e : i = n := hg
  have e2 : ((n : Int) - 1 - (i : Int)) = -1 := by omega
  rw [e2] at st
  exact wpAny_pyNext_rev_end (I.ok.hd hc) st fun h' eb => ⟨rfl, I.turned (t' := s.toks) (fun b o hb e => eb b o hb e) f0 f1 f3 f4 f5⟩
 self := fun _ _ _ _ _ st h => wpAny_pyIter_revIter st h
section
variable {X : Cx} {σ : St} {H : Hp} {a : Expr} {tg : Expr} {p pos p' : Pos} {R : It -> Hp -> Prop} {D : Ends}
theorem ei_rev (hg : Gl X "reversed") (hm : X.mg "reversed" = none) (hs : starEach [a] X.env = [(false, eval a X.env)])
  (h : EV X a σ H fun v H1 => ∃ l xs, v = .ref l /\ SqL X.K H1 l xs /\ R (Itv X.K l xs.length) H1) : EI X tg (.Call (.Name "reversed" p) [a] [] pos) σ H R := by
 intro pins s I
 refine Call_ (ld_blt I hg hm boot_reversed (PyProof.Rows.callWith_type1 (thn (ea_cons (es := []) (QA := fun vs H1 => ∃ l xs, vs = [.ref l] /\ SqL X.K H1 l xs /\ R (Itv X.K l xs.length) H1) hs (ev_mono h fun v H1 ⟨l, xs, e, q1, q2⟩ => ea_nil ⟨l, xs, by rw [e], q1, q2⟩) pos pins s I) fun us s1 ⟨vs, H1, I1, r1, l, xs, e, hl, q⟩ => ?_) hs rfl))
 subst e
 obtain ⟨u, rfl, ru⟩ := vals1 r1
 cases (show u = Value.ref l from ru)
 obtain ⟨its, rv, pl, hz⟩ := I1.list hl
 have hlen := rv.length
 refine call_reversed_list pl.isList ?_
 have hit : (s1.heap.push (revObj l ((its.toArray.size : Int) - 1))).IsRevIter s1.heap.objs.size l ((its.toArray.size : Int) - 1) := ⟨_, Heap.get?_push_size _ rfl, rfl, rfl⟩
 refine wpAny_pyIter_revIter hit ?_
 refine ⟨s1.heap.objs.size, [s1.heap.objs.size], _, _, H1, rfl, I1.kept (t' := s1.toks) fun b o e => Heap.get?_push_of_some _ e, turn_rev l _ xs.length, ?_, fun b hb => ?_, q⟩
 ·have e : ((xs.length : Int) - 1 - ((0 : Nat) : Int)) = (its.toArray.size : Int) - 1 := by simp; omega
  rw [e]
  exact hit
 ·have e : b = s1.heap.objs.size := by simpa using hb
  subst e
  exact I1.fpOk (Nat.le_refl _) (I1.hok.fresh (Nat.le_refl _))
theorem sx_forV {body : List Stmt} (hp : PassesOwn (model X.prog X.w) X.A X.env X.xe) (hc : X.calm = true) (hg : Gl X "reversed") (hm : X.mg "reversed" = none) (hs : starEach [a] X.env = [(false, eval a X.env)])
  (h : EV X a σ H fun v H1 => ∃ q xs, v = .ref q /\ SqL X.K H1 q xs /\ ∃ Pv : Nat -> St -> Hp -> Prop, Pv 0 σ H1 /\ (∀ i σ' H', i ≤ xs.length -> Pv i σ' H' -> SqL X.K H' q xs) /\
   (∀ i x σ' H', i < xs.length -> xs[xs.length - 1 - i]? = some x -> Pv i σ' H' -> EG X tg x σ' H' fun σ2 H2 => SXs X body { D with nx := Pv (i + 1), ct := Pv (i + 1), bk := D.nx } σ2 H2) /\ ∀ σ' H', Pv xs.length σ' H' -> D.nx σ' H') :
  SX X (.For tg (.Call (.Name "reversed" p) [a] [] p') body [] pos) D σ H := by
 refine sx_for hp hc (by intro _; rfl) (ei_rev hg hm hs (ev_mono h fun v H1 q => ?_))
 obtain ⟨q, xs, rfl, hq, Pv, h0, hl, hst, hd⟩ := q
 refine ⟨q, xs, rfl, hq, fun i m σ H => m = xs.length - i /\ i ≤ xs.length /\ Pv i σ H, ⟨xs.length, by simp, Nat.zero_le _, h0⟩, ?_⟩
 rintro i m σ' H' ⟨rfl, hi, p⟩
 by_cases hlt : i < xs.length
 ·refine .inr ⟨⟨hlt, xs, hl i σ' H' hi p, rfl⟩, Pv (i + 1), fun σ2 H2 p2 => ⟨xs.length - (i + 1), by omega, rfl, hlt, p2⟩, fun x H2 y => ?_⟩
  obtain ⟨rfl, e⟩ := y
  exact hst i x σ' _ hlt (e xs (hl i σ' _ hi p)) p
 ·have e : i = xs.length := by omega
  refine .inl ⟨e, ?_⟩
  subst e
  exact hd σ' H' p
end
end L2
namespace L2
open PySem PySem.Spec PyProof.Rows
def compDue (M : Model) (A : Around) (E : Value -> Shared -> Prop) (use : Option (Value -> Sem Unit)) (Q : Value -> Shared -> Prop) (acc : Value) (C : Env) (r : Result) (s' : Shared) : Prop :=
 match r, use with
 | .ok _, none => ∃ m, s'.heap.Ns C.locals m /\ ∀ h', Heap.SameBut C.locals s'.heap h' -> Q acc { s' with heap := h' }
 | .ok _, some u => wpAny M A (u acc) (fun _ s'' => ∃ m, s''.heap.Ns C.locals m /\ ∀ h', Heap.SameBut C.locals s''.heap h' -> Q .none { s'' with heap := h' }) E s'
 | .error x, _ => ∃ m, s'.heap.Ns C.locals m /\ ∀ h', Heap.SameBut C.locals s'.heap h' -> wpAny M A (passOn "comprehension.variables-let-go" x C : Sem Value) (fun _ _ => False) E { s' with heap := h' }
abbrev blkF (X : Cx) (N' : List Str) (scope : Scope) (cl : List (Str × Addr)) (C : Addr) (s : Shared) (H : Hp) (fp : List Addr) (F : Value -> Shared -> Prop) : Cx := (blk X N' scope cl C s H fp).tri F []
section
variable {X : Cx} {pins : List (Addr × Obj)} {σ : St} {H : Hp} {s : Shared} {scope : Scope} {N' : List Str} {fp : List Addr} {elt iter tg : Expr} {ifs : List Expr} {pos : Pos} {Kx : St -> XK}
end
section
variable {X : Cx} {a e : Expr} {σ σ' : St} {H : Hp} {Q : VK} {D : Ends} {pos spos py p p' : Pos} {tg elt iter : Expr} {scope : Scope} {Kx : St -> XK} {y : Str} {j : Nat}
def CompX (X : Cx) (N' : List Str) (scope : Scope) (tg elt : Expr) (σ σ' : St) (Kx : St -> XK) (H1 : Hp) (Q : VK) (n : Nat) (G : Nat -> Hp -> V -> Hp -> Prop) : Prop :=
 ∃ (Tp : St -> Prop) (Pi : Addr -> Nat -> V -> Hp -> Prop), Tp σ' /\
   (∀ E i v H2 H3 ys, H2 E = some (.lst ys) -> (∀ b o, b ≠ E -> H2 b = some o -> H3 b = some o) -> Pi E i v H2 -> Pi E i v H3) /\
   (∀ (fp : List Addr) (E C : Addr) (s3 : Shared) (H0 : Hp) (F : Value -> Shared -> Prop) (i : Nat) (τ : St) (x : V) (H2 H3 : Hp), XOk (blkF X N' scope (closL scope X.env) C s3 H0 fp F) (fun _ => Kx σ) -> H1 E = none -> i < n -> Tp τ -> Same H1 H2 -> (∃ ys, H2 E = some (.lst ys) /\ ys.length = i /\ ∀ k v, ys[k]? = some v -> Pi E k v H2) -> G i H2 x H3 ->
    EG (blkF X N' scope (closL scope X.env) C s3 H0 fp F) tg x τ H3 fun τ2 H4 => EV (blkF X N' scope (closL scope X.env) C s3 H0 fp F) elt τ2 H4 fun v H5 => Tp τ2 /\ Pi E i v H5 /\ Same H2 H5) /\
   ∀ (E : Addr) (H2 : Hp) (xs : List V), H1 E = none -> xs.length = n -> (∀ i v, xs[i]? = some v -> Pi E i v H2) -> H2 E = some (.lst xs) -> Same H1 H2 -> Q (.ref E) H2
end
end L2
namespace L2
open PySem PySem.Spec PyProof.Rows
def xcIn (K : PySem.W.Frag) (C L : Addr) : Bool := (PySem.W.clsIn K C).any fun cd => cd.hasDict && cd.mro == .ref C :: .ref L :: bmV
theorem xc_of {K : PySem.W.Frag} {C L : Addr} (h : xcIn K C L = true) : ∃ cd, PySem.W.clsIn K C = some cd /\ cd.hasDict = true /\ cd.mro = .ref C :: .ref L :: bmV := by
 obtain ⟨cd, h1, h2⟩ := PySem.W.any_some h
 rw [Bool.and_eq_true, beq_iff_eq] at h2
 exact ⟨cd, h1, h2.1, h2.2⟩
section
variable {prog : Program} {w : World} {A : Around} {E : Value -> Shared -> Prop} {s : Shared} {K : PySem.W.Frag} {x C L : Addr} {ox : Obj} {vs : Array Value} {name : Str} {v : Value}
theorem x_store {Q : Unit -> Shared -> Prop} (X : K.In s.heap) (hx : s.heap.get? x = some ox) (hc : ox.cls = .ref C) (hf : ox.data = .fields vs) (hd : ox.dict = none)
  (hs : PySem.W.findIn K (.ref C) "__setattr__" = some (some (.builtin "object.__setattr__"))) (hm : xcIn K C L = true) (ht : PySem.W.takerIn K C name = some none)
  (h : ∀ h' tk, h'.get? x = some { ox with dict := some s.heap.objs.size } -> h'.Ns1 s.heap.objs.size (fun y => if y = name then some v else none) -> (∀ b o, b ≠ x -> s.heap.get? b = some o -> h'.get? b = some o) -> Q () { s with heap := h', toks := tk }) :
  wpAny (model prog w) A (setAttr (.ref x) name v) Q E s := by
 obtain ⟨cd, hcd, hdc, hmro⟩ := xc_of hm
 have I : PySem.W.InstAt s.heap x ox C none := ⟨hx, hc, by unfold PySem.W.notCls; rw [hf], by rw [hd]; trivial⟩
 refine PySem.W.set_plain X I hs ?_
 have SF := PySem.F.store_object
 have sub : PySem.W.Looks (model prog w) s.heap (isInstance (.ref x) (.type "object")) true := I.type.andThen (PySem.W.looks_mroIn X (by unfold PySem.W.mroIn; rw [hcd, Option.bind_some, hmro]; rfl))
 refine codeAny_call_builtin SF.slot.plain SF.entry (@PySem.W.check_slot (model prog w) _ _ { s with toks := s.toks + 1 } "object.__setattr__" "object" "__setattr__" (.ref x) [.str name s.toks, v] [] _ SF.kind SF.split sub (SF.args (.ref x) (.str name s.toks) v) ?_)
 obtain ⟨attr, ha, hr⟩ := Option.bind_eq_some_iff.mp ht
 have hmo : PySem.W.Looks (model prog w) s.heap (mroOf (.ref C)) cd.mro := (PySem.W.looks_clsIn X hcd).andThen .now
 have L3 : PySem.W.Looks (model prog w) s.heap (Builtin.ObjectAttr.storeTaker? attr) none := by
  cases attr with
  | none => exact .now
  | some a =>
    obtain ⟨b, hb, e⟩ := Option.map_eq_some_iff.mp hr
    refine (PySem.W.looks_takesIn X hb).andThen ?_
    cases b
    ·exact .now
    ·cases e
 rw [PySem.W.osa_eq, refuse_eq]
 refine wpAny_bind (wpAny_bind (PySem.W.Looks.here (s := { s with toks := s.toks + 1 }) I.type (wpAny_bind (PySem.W.Looks.here (s := { s with toks := s.toks + 1 }) hmo ?_))))
 rw [hmro, refuseLoop_ref, refuseLoop_ref, PySem.F.store_ValueError.passes]
 refine wpAny_pure (wpAny_bind (PySem.W.Looks.here (s := { s with toks := s.toks + 1 }) I.type (wpAny_bind (PySem.W.Looks.here (s := { s with toks := s.toks + 1 }) (PySem.W.looks_findIn X ha) (wpAny_bind (PySem.W.Looks.here (s := { s with toks := s.toks + 1 }) L3 ?_))))))
 obtain ⟨oc, od, oda, osl⟩ := ox
 dsimp only at hc hf hd
 subst hc hf hd
 refine wpAny_bind (wpAny_pure (wpAny_bind (wpAny_bind (wpAny_loadPart (s := { s with toks := s.toks + 1 }) hx (wpAny_bind (PySem.W.Looks.here (s := { s with toks := s.toks + 1 }) (PySem.W.looks_clsIn X hcd) ?_))))))
 rw [hdc]
 rw [if_neg (by decide)]
 show wpAny _ _ (if (!true || !typeHasDict (Value.ref C)) = true then pure none else (alloc { cls := .type "dict", data := .dict #[] } >>= fun d => update x (fun o => { o with dict := some d }) >>= fun _ => dictMade (Value.ref C) x d)) _ _ _
 rw [if_neg (by simp [typeHasDict])]
 have hx₁ : (s.heap.push { cls := .type "dict", data := .dict #[] }).get? x = some { cls := .ref C, data := .fields vs, slots := osl } := Heap.get?_push_of_some _ hx
 have hxs : x ≠ s.heap.objs.size := Nat.ne_of_lt (Heap.lt_size hx)
 refine wpAny_bind (wpAny_alloc (s := { s with toks := s.toks + 1 }) ?_)
 refine wpAny_bind (wpAny_update (s := { s with heap := s.heap.push { cls := .type "dict", data := .dict #[] }, toks := s.toks + 1 }) hx₁ ?_)
 refine wpAny_pure ?_
 have hgd : ((s.heap.push { cls := .type "dict", data := .dict #[] }).update x fun o => { o with dict := some s.heap.objs.size }).get? s.heap.objs.size = some { cls := .type "dict", data := .dict #[] } :=
  (Heap.get?_update_ne _ _ _ _ hxs.symm).trans (Heap.get?_push_at rfl rfl)
 have hnd : ((s.heap.push { cls := .type "dict", data := .dict #[] }).update x fun o => { o with dict := some s.heap.objs.size }).Ns s.heap.objs.size (fun _ => none) :=
  ⟨_, #[], _, hgd, rfl, fun e he => absurd he (by simp), fun _ => rfl⟩
 show wpAny _ _ (Builtin.ObjectAttr.storeInDict s.heap.objs.size (.str name s.toks) name v) _ _ _
 unfold Builtin.ObjectAttr.storeInDict Builtin.ObjectAttr.newKeyGuard
 refine wpAny_bind (wpAny_pure (wpAny_bind (wpAny_nsSet1 (s := { s with heap := (s.heap.push { cls := .type "dict", data := .dict #[] }).update x fun o => { o with dict := some s.heap.objs.size }, toks := s.toks + 1 }) (Heap.Ns1.of_empty hnd) fun h' hn' hs' => ?_)))
 obtain ⟨oD, esD, epD, hoD, hdD, hcD⟩ := hn'.count (Within.cons name v Within.nil)
 refine wpAny_bind (wpAny_lookBehind hoD (by rw [hdD]; exact pastItsLine_dict (Nat.le_trans hcD (by rw [List.length_cons, List.length_nil, sizeLine_eq]; omega))) ?_)
 refine wpAny_pure (h h' _ ?_ hn' fun b ob hbx hb => ?_)
 ·refine (hs'.2 x hxs).trans (Heap.get?_update_self _ hx₁ rfl)
 ·exact (hs'.2 b (Nat.ne_of_lt (Heap.lt_size hb))).trans ((Heap.get?_update_ne _ _ _ _ hbx).trans (Heap.get?_push_of_some _ hb))
end
theorem ns_some_of {K : PySem.W.Frag} {h : Heap} {N : Addr} {mg : Str -> Option Value} {n : Str} {v : Value} (X : K.In h) (G : h.Ns N mg) (e : PySem.W.nsIn K N n = some (some v)) : mg n = some v := by
 obtain ⟨o, es, ep, ho, hd, _, hf⟩ := G
 unfold PySem.W.nsIn at e
 split at e
 ·rename_i c d es' n' sl q
  have := X _ _ q
  rw [ho] at this
  cases this
  cases hd
  split at e
  ·rename_i en he
   cases e
   rw [<- hf]
   unfold nsFind findBy
   rw [<- Array.find?_toList, he]
   rfl
  ·split at e <;> cases e
 ·cases e
def iniIn (K : PySem.W.Frag) (C f : Addr) : Bool := match K.lookup C with
 | some ⟨.type "type", _, .cls cd, sl⟩ => (match cd.mro, sl.toList with
   | .ref C' :: bm, [_, _, _, _, some (.builtin n), _] => C' == C && n == "ValueError.__new__" && !cd.hasDel && PySem.W.tailIn K bmV bm && PySem.W.nsOkIn K cd.ns && PySem.W.nsIn K cd.ns "__init__" == some (some (.ref f))
   | _, _ => false)
 | _ => false
theorem ini_obj {K : PySem.W.Frag} {C f : Addr} {h : Heap} (kin : K.In h) (e : iniIn K C f = true) :
  ∃ bm N nm q bs hdct sn sub ab col dd k0 k1 k2 k3 k5 mN, h.get? C = some (excClassObj nm q C N bs bm hdct sn sub ab col dd k0 k1 k2 k3 k5 "ValueError.__new__") /\ h.Ns N mN /\ mN "__init__" = some (.ref f) /\ OwnTail h bmV bm := by
 unfold iniIn at e
 split at e
 ·rename_i dd cd sl ho
  split at e
  ·rename_i C' bm k0 k1 k2 k3 n k5 hm hs
   simp only [Bool.and_eq_true, beq_iff_eq, Bool.not_eq_true'] at e
   obtain ⟨⟨⟨⟨⟨e1, e2⟩, e3⟩, e4⟩, e5⟩, e6⟩ := e
   subst e1 e2
   obtain ⟨nm, bs, mro, ns, qn, hd, sn, sub, ab, col, del⟩ := cd
   dsimp only at hm e3 e5 e6
   subst hm e3
   have hl : sl = #[k0, k1, k2, k3, some (.builtin "ValueError.__new__"), k5] := by
    obtain ⟨l⟩ := sl
    simp only at hs
    rw [hs]
   subst hl
   have hN : h.Ns ns (h.nsMap ns) := .of_isNs (PySem.W.isNs_of_in kin e5)
   exact ⟨bm, ns, nm, qn, bs, hd, sn, sub, ab, col, dd, k0, k1, k2, k3, k5, _, kin _ _ ho, hN, ns_some_of kin hN e6, PySem.W.tail_of_in kin e4⟩
  ·cases e
 ·cases e
section
variable {prog : Program} {w : World} {A : Around} {E : Value -> Shared -> Prop} {h : Heap} {g : Array GenState} {d : Drawn} {t : Nat} {os : OsState}
variable {nm q : Str} {C N x : Addr} {bs bm : List Value} {hdct : Bool} {sn : List Str} {sub : List Value} {ab : Bool} {col : Option Bool} {dd : Option Addr} {k0 k1 k2 k3 k5 : Option Value} {ox : Obj} {vs : Array Value} {v : Value}
theorem x_init {t0 : Addr} {Q : Value -> Shared -> Prop} (T : OwnTail h bmV bm) (hC : h.get? C = some (excClassObj nm q C N bs bm hdct sn sub ab col dd k0 k1 k2 k3 k5 "ValueError.__new__")) (hx : h.get? x = some { cls := .ref C, data := .fields #[.ref t0, .none, .none, .none, .bool false, .none] })
  (hq : ∀ h' t1, h'.get? x = some { cls := .ref C, data := .fields #[.ref t1, .none, .none, .none, .bool false, .none] } -> (∀ b o, b ≠ x -> h.get? b = some o -> h'.get? b = some o) -> Q .none ⟨h', g, d, t, os⟩) :
  wpAny (model prog w) A (call (.builtin "ValueError.__init__") [.ref x, v]) Q E ⟨h, g, d, t, os⟩ := by
 have F0 := F.excBase_ValueError
 refine wpAny_call (codeAny_call_builtin F0.init.plain F0.initEntry (wpAny_check_init_subT F0 T hC hx rfl ?_))
 wp_walk
 refine hq _ h.objs.size ?_ fun b o hb q => ?_
 ·rw [Heap.get?_update_self _ (Heap.get?_push_of_some _ hx) rfl]
  rfl
 ·rw [Heap.get?_update_other _ _ (Ne.symm hb)]
  exact Heap.get?_push_of_some _ q
theorem type_call_ini {mN : Str -> Option Value} {rest : List Value} {fI : Addr} {oI : Obj} {Q : Fin -> Shared -> Prop} (T : OwnTail h bmV bm) (hC : h.get? C = some (excClassObj nm q C N bs bm hdct sn sub ab col dd k0 k1 k2 k3 k5 "ValueError.__new__")) (hn : h.Ns N mN) (hi : mN "__init__" = some (.ref fI))
  (hfI : h.get? fI = some oI) (hfc : oI.cls = .type "function")
  (hq : ∀ h' e, Heap.MadeExcOf h h' e (.ref C) rest -> wpAny (model prog w) A (call (.ref fI) (.ref e :: rest)) (fun r s' => r = .none /\ Q (.done (.ret (.ref e))) s') E ⟨h', g, d, t, os⟩) (hrest : rest.length ≤ sizeLine) :
  wpAny (model prog w) A (Builtin.«type.__call__» ⟨.ref C :: rest, []⟩) Q E ⟨h, g, d, t, os⟩ := by
 have F0 := F.excBase_ValueError
 repeat (first | with_reducible refine wpAny_loadPart_at hC ?_ | with_reducible refine wpAny_madeBy_exc hC ?_ | wp_step)
 refine codeAny_call_builtin_code (Code.quiet_builtin _ F0.quiet) (wpAny_check_new_subT F0 T hC ?_)
 refine codeAny_exc_new_subT F0 T hC ?_ hrest
 show wpAny _ _ _ _ _ _
 generalize hh1 : (h.push { cls := .type "tuple", data := .seq rest.toArray }).push { cls := .ref C, data := .fields #[.ref h.objs.size, .none, .none, .none, .bool false, .none] } = h1
 have k1' : ∀ b o, h.get? b = some o -> h1.get? b = some o := fun b o e => by rw [<- hh1]; exact Heap.get?_push_of_some _ (Heap.get?_push_of_some _ e)
 have hC₁ := k1' _ _ hC
 have hn₁ : h1.Ns N mN := let ⟨o, es, ep, e, r⟩ := hn; ⟨o, es, ep, k1' _ _ e, r⟩
 have hget : h1.get? (h.objs.size + 1) = some { cls := .ref C, data := .fields #[.ref h.objs.size, .none, .none, .none, .bool false, .none] } := by rw [<- hh1]; heap_get
 have hcC : (Value.ref C :: bm).contains (.ref C) = true := by simp
 have T₁ := T.keeps k1'
 unfold isInstance
 repeat (first | with_reducible refine wpAny_loadPart_at hget ?_ | (with_reducible refine wpAny_isSubtype_exc hC₁ ?_; rw [hcC]) | wp_step)
 show wpAny _ _ (typeLookup (.ref C) _) _ _ _
 refine wpAny_typeLookup_tail hC₁ hn₁ T₁ F0.mroIs F0.init.lookup ?_
 rw [hi]
 refine wpAny_holding (wpAny_bind ?_)
 unfold bindSpecial
 refine wpAny_bind (wpAny_typeOf (T := "function") ⟨_, k1' _ _ hfI, hfc⟩ ?_)
 rw [if_pos (by decide)]
 refine wpAny_pure (wpAny_bind (wpAny_mono (hq h1 (h.objs.size + 1) ⟨k1', Heap.get?_none_of_le (Nat.le_succ _), h.objs.size, hget, Heap.get?_none_of_le (Nat.le_refl _), ?_⟩) (fun r s' hr => ?_) fun _ _ x => x))
 ·rw [<- hh1]
  exact Heap.get?_push_of_some _ (Heap.get?_push_at rfl rfl)
 ·obtain ⟨rfl, hQ⟩ := hr
  wp_walk
  exact hQ
theorem call_ini {mN : Str -> Option Value} {rest : List Value} {fI : Addr} {oI : Obj} {Q : Value -> Shared -> Prop} (T : OwnTail h bmV bm) (hC : h.get? C = some (excClassObj nm q C N bs bm hdct sn sub ab col dd k0 k1 k2 k3 k5 "ValueError.__new__")) (hn : h.Ns N mN) (hi : mN "__init__" = some (.ref fI))
  (hfI : h.get? fI = some oI) (hfc : oI.cls = .type "function")
  (hq : ∀ h' e, Heap.MadeExcOf h h' e (.ref C) rest -> wpAny (model prog w) (A.under (.builtin "type.__call__" ⟨.ref C :: rest, []⟩)) (call (.ref fI) (.ref e :: rest)) (fun r s' => r = .none /\ Q (.ref e) s') E ⟨h', g, d, t, os⟩) (hrest : rest.length ≤ sizeLine) :
  wpAny (model prog w) A (call (.ref C) rest) Q E ⟨h, g, d, t, os⟩ := by
 have f1 := tc_lookup
 have f2 := tc_bind (.ref C)
 have hT : (⟨h, g, d, t, os⟩ : Shared).TypeIs (.ref C) "type" := ⟨_, hC, rfl⟩
 refine wpAny_call (codeAny_of_tree ?_)
 show wpAny _ _ (callAny (.ref C) _) _ _ _
 repeat (any_goals (first | assumption | with_reducible refine wpAny_loadPart_at hC ?_ | wp_step))
 refine ⟨rfl, ?_⟩
 exact codeAny_call_builtin_at (Code.quiet_builtin _ (by decide +kernel)) entry_typeCall (wpAny_check_type_call_sub hC (type_call_ini T hC hn hi hfI hfc hq hrest))
end
section
variable {prog : Program} {w : World} {A : Around} {E : Value -> Shared -> Prop} {s : Shared} {env : Env}
variable {nm q : Str} {C N : Addr} {bs bm : List Value} {hdct : Bool} {sn : List Str} {sub : List Value} {ab : Bool} {col : Option Bool} {dd : Option Addr} {k0 k1 k2 k3 k5 : Option Value}
theorem raise_obj {M : Model} {x : Sem Value} {Q : Flow -> Shared -> Prop} (hbase : bm.contains (.type "BaseException") = true) (hh : A.handled = none)
  (h : wpAny M A x (fun v s₁ => ∃ e t D, v = .ref e /\ s₁.heap.get? C = some (excClassObj nm q C N bs bm hdct sn sub ab col dd k0 k1 k2 k3 k5 "ValueError.__new__") /\
   s₁.heap.get? e = some { cls := .ref C, dict := D, data := .fields #[.ref t, .none, .none, .none, .bool false, .none] } /\ E (.ref e) s₁) E s) :
  wpAny M A (raiseStmt env (some x) none) Q E s := by
 have hcB : (Value.ref C :: bm).contains (.type "BaseException") = true := by rw [List.contains_cons, hbase, Bool.or_true]
 unfold raiseStmt
 refine wpAny_bind (wpAny_mono h (fun v s₁ h₁ => ?_) fun _ _ x => x)
 obtain ⟨e, t, D, rfl, hC, he, hE⟩ := h₁
 obtain ⟨hp, g, d, tk, os⟩ := s₁
 repeat (first | with_reducible refine wpAny_loadPart_at he ?_ | with_reducible refine wpAny_loadPart_at hC ?_ | (with_reducible refine wpAny_isSubtype_exc hC ?_; rw [hcB]) | wp_step)
 exact wpAny_raiseNew_none hh hE
end
end L2
namespace L2
open PySem PySem.Spec PyProof.Rows
def xo (e C : Addr) (D : Option Addr) : HO := .ext fun h => ∃ t, h.get? e = some { cls := .ref C, dict := D, data := .fields #[.ref t, .none, .none, .none, .bool false, .none] }
def dropH (H : Hp) (e : Addr) : Hp := fun b => if b = e then none else H b
theorem dropH_ne {H : Hp} {e b : Addr} (h : b ≠ e) : dropH H e b = H b := by unfold dropH; rw [if_neg h]
theorem dropH_self {H : Hp} {e : Addr} : dropH H e e = none := by unfold dropH; rw [if_pos rfl]
theorem xo_ok {P : Program} {w : World} {H : Hp} {h : Heap} {e C t : Addr} {D : Option Addr} (q : h.get? e = some { cls := .ref C, dict := D, data := .fields #[.ref t, .none, .none, .none, .bool false, .none] }) : ObjOk P w H h e (xo e C D) :=
 ⟨⟨t, q⟩, ⟨_, q⟩, fun h1 h2 ⟨t, q⟩ k => ⟨t, k _ q⟩⟩
section
variable {X : Cx} {pins : List (Addr × Obj)} {σ : St} {H : Hp} {s : Shared} {e : Addr} {φ : Heap -> Prop}
theorem Inv.adopt (I : Inv X pins σ H s) (hn : H e = none) (c : Ch X pins e) (ok : ObjOk X.prog X.w (upd H e (.ext φ)) s.heap e (.ext φ)) : Inv X pins σ (upd H e (.ext φ)) s := by
 have ne : ∀ b u, H b = some u -> b ≠ e := fun b u q => ne_of_none q hn
 have := I.step (h' := s.heap) (H' := upd H e (.ext φ)) (g' := s.gens) (d' := s.drawn) (t' := s.toks) (ch := [e]) (fun b hb => ?_) (fun b o _ _ _ q _ => q) (fun b o _ _ _ q _ => ⟨o.slots, q⟩) (fun b o hc _ n => ?_) (fun b o _ q => ⟨o, q⟩) (fun b xs q => ?_) (fun b o u q => ?_) (fun b ps q => ?_) (fun m q => q) (fun b u q => ?_) I.bare
 ·exact this
 ·have z : b = e := by simpa using hb
  subst z
  exact c
 ·rw [upd_ne (fun z => hc (by simp [z]))]; exact n
 ·rw [upd_ne (ne _ _ q)]; exact q
 ·rw [upd_ne (ne _ _ q)]; exact q
 ·exact ⟨#[], by rw [upd_ne (ne _ _ q), q]; simp⟩
 ·by_cases z : b = e
  ·subst z
   rw [upd_same] at q
   cases q
   exact ok
  ·rw [upd_ne z] at q
   exact (I.hok b u q).stay (fun _ _ _ r => r) (fun c r => by rw [upd_ne (ne _ _ r)]; exact r) fun c xs r => by rw [upd_ne (ne _ _ r)]; exact r
theorem Inv.forget (I : Inv X pins σ H s) (hn : H e = some (.ext φ)) (c : Ch X pins e) : Inv X pins σ (dropH H e) s := by
 have := I.step (h' := s.heap) (H' := dropH H e) (g' := s.gens) (d' := s.drawn) (t' := s.toks) (ch := [e]) (fun b hb => ?_) (fun b o _ _ _ q _ => q) (fun b o _ _ _ q _ => ⟨o.slots, q⟩) (fun b o hc _ n => ?_) (fun b o _ q => ⟨o, q⟩) (fun b xs q => ?_) (fun b o u q => ?_) (fun b ps q => ?_) (fun m q => q) (fun b u q => ?_) I.bare
 ·exact this
 ·have z : b = e := by simpa using hb
  subst z
  exact c
 ·rw [dropH_ne (fun z => hc (by simp [z]))]; exact n
 ·rw [dropH_ne (fun z => by rw [z, hn] at q; cases q)]; exact q
 ·rw [dropH_ne (fun z => by rw [z, hn] at q; cases q)]; exact q
 ·exact ⟨#[], by rw [dropH_ne (fun z => by rw [z, hn] at q; cases q), q]; simp⟩
 ·by_cases z : b = e
  ·subst z
   rw [dropH_self] at q
   cases q
  ·rw [dropH_ne z] at q
   exact (I.hok b u q).stay (fun _ _ _ r => r) (fun c r => by rw [dropH_ne (fun z => by rw [z, hn] at r; cases r)]; exact r) fun c xs r => by rw [dropH_ne (fun z => by rw [z, hn] at r; cases r)]; exact r
end
structure XBase (K : PySem.W.Frag) (mg : Str -> Option Value) (x : Str) : Prop where
 at_ : mg x = some (.ref (clsA mg x))
 reads : PySem.W.readsIn K (clsA mg x) (.type "type") = true
 ini : PySem.W.findCls K (.ref (clsA mg x)) (.type "type") "__init__" = some (.val (.builtin "ValueError.__init__"))
 ga : PySem.W.specialIn K (.ref (clsA mg x)) "__getattribute__" = some (some (.builtin "type.__getattribute__"))
structure XIni (K : PySem.W.Frag) (mg : Str -> Option Value) (Lx x qual fld : Str) (st : Stmt) : Prop where
 at_ : mg x = some (.ref (clsA mg x))
 ex : ∃ f fd, Fun K "__init__" qual st f fd /\ iniIn K (clsA mg x) f = true /\ PySem.W.isFn K (.ref f) = true
 sa : PySem.W.findIn K (.ref (clsA mg x)) "__setattr__" = some (some (.builtin "object.__setattr__"))
 tk : PySem.W.takerIn K (clsA mg x) fld = some none
 xc : xcIn K (clsA mg x) (clsA mg Lx) = true
def spIni (C : Addr) (fld : Str) : Sp := fun vs H Q _ => ∃ e n, vs = [.ref e, .int n] /\ n.natAbs < 10 ^ 60 /\ H e = some (xo e C none) /\
 ∀ D H', D ≠ e -> H D = none -> (∀ b o, b ≠ e -> H b = some o -> H' b = some o) -> H' e = some (xo e C (some D)) -> H' D = some (.xd [(fld, .int n)]) -> Q .non H'
section
variable {X : Cx} {σ : St} {H : Hp} {Q : VK} {D : Ends} {Lx x f fld : Str} {np apos pos pos' cpos : Pos} {a o value : Expr} {es : List Expr} {Kx : St -> XK}
theorem ev_base {pl : Sem Bool} (B : XBase X.K X.mg Lx) (hg : Gl X Lx) (hd : (Lx == ("__debug__" : Str)) = false) (hst : starEach (a :: es) X.env = (false, eval a X.env) :: starEach es X.env) (hpl : (backTo pos (starEach es X.env)).any (·.1) = false)
  (ht : eval (.Call (.Attribute (.Name Lx np) "__init__" apos) (a :: es) [] pos) X.env = (do
   let ov <- eval (.Name Lx np) X.env
   standAt apos.atName
   let (f, first) <- holding [ov] (getMethod ov "__init__" pl)
   callWith pos f first (backTo pos (starEach (a :: es) X.env)) (backToKw pos (keywordEach [] X.env))))
  (h : EA X (a :: es) σ H fun vs H1 => CL X (.builtin "ValueError.__init__") vs H1 Q) : EV X (.Call (.Attribute (.Name Lx np) "__init__" apos) (a :: es) [] pos) σ H Q := by
 intro pins s I
 refine PySem.W.methodCall_KW (pl := pl) (ld_glob I hg B.at_ ?_ hd) ht
 refine PySem.W.method_cls I.kIn B.ga (PySem.W.cls_value I.kIn B.reads B.ini (by decide +kernel) ?_)
 have I1 := I.tok (s.toks + 1)
 have h' := h pos pins _ I1
 rw [hst] at h' ⊢
 refine Calls.callWith_builtin (by show (false || (backTo pos (starEach es X.env)).any (·.1)) = false; rw [hpl]; rfl) (Calls.evalArgs_plain ?_)
 refine thn h' fun us s2 ⟨vs, H2, I2, r2, c, h1, q2⟩ => ?_
 exact h1 pins s2 σ H2 vs us Q I2 r2 q2
theorem c_base {C ff : Addr} {e : Addr} {v : V} (hi : iniIn X.K C ff = true) (he : H e = some (xo e C none)) (q : Q .non H) : CL X (.builtin "ValueError.__init__") [.ref e, v] H Q := by
 refine cl_by (r := fun xs H Q => ∃ e v, xs = [.ref e, v] /\ H e = some (xo e C none) /\ Q .non H) ?_ ⟨e, v, rfl, he, q⟩
 intro pins s σ H xs us Q I r h
 obtain ⟨e, v, rfl, he, q⟩ := h
 obtain ⟨u1, u2, rfl, r1, r2⟩ := vals2 r
 cases (show u1 = Value.ref e from r1)
 obtain ⟨bm, N, nm, qn, bs, hdct, sn, sub, ab, col, dd, k0, k1, k2, k3, k5, mN, hC, hN, hni, T⟩ := ini_obj I.kIn hi
 obtain ⟨⟨t, ht⟩, _, _⟩ := I.hok e _ he
 obtain ⟨hp, g, d, tk, os⟩ := s
 refine x_init T hC ht fun h' t1 h1 k => ?_
 have hw := I.write (x := e) (e := e) (o := xo e C none) (h' := h') (t' := tk) (by rw [he]; trivial) (.inl rfl) (fun b u n q => k b u n q) ⟨_, h1⟩ (xo_ok h1)
 have hid : upd H e (xo e C none) = H := by
  funext b
  unfold upd
  split
  ·rename_i z; rw [z, he]
  ·rfl
 rw [hid] at hw
 exact ⟨.non, H, hw, rfl, q⟩
theorem sx_xfld {C L : Addr} (hs : PySem.W.findIn X.K (.ref C) "__setattr__" = some (some (.builtin "object.__setattr__"))) (hm : xcIn X.K C L = true) (ht : PySem.W.takerIn X.K C f = some none)
  (hsw : swapsWith value (some (.Attribute o f pos')) pos.line X.env = pure false)
  (h : EV X value σ H fun y H1 => EV X o σ H1 fun x H2 => ∃ e, x = .ref e /\ H2 e = some (xo e C none) /\ ∀ E', H2 E' = none -> E' ≠ e -> D.nx σ (upd (upd H2 E' (.xd [(f, y)])) e (xo e C (some E')))) :
  SX X (.Assign [.Attribute o f pos'] value pos) D σ H := by
 intro pins s I
 refine plainObj_wpAny_Assign_Attribute (thn (h pins s I) fun u s1 ⟨y, H1, I1, ry, q⟩ => thn (q pins s1 I1) fun ov s2 ⟨x, H2, I2, rx, e, ex, he, q2⟩ => ?_) hsw
 subst ex
 obtain rfl : ov = Value.ref e := rx
 obtain ⟨⟨t, hte⟩, _, _⟩ := I2.hok e _ he
 refine x_store I2.kIn hte rfl rfl rfl hs hm ht fun h' tk g1 g2 g3 => ?_
 have hDn : H2 s2.heap.objs.size = none := I2.hok.fresh (Nat.le_refl _)
 have hDe : s2.heap.objs.size ≠ e := fun z => by rw [z] at hDn; rw [hDn] at he; cases he
 have ne : ∀ b u, H2 b = some u -> u ≠ xo e C none -> b ≠ e := fun b u q n z => by rw [z, he] at q; cases q; exact n rfl
 have nD : ∀ b u, H2 b = some u -> b ≠ s2.heap.objs.size := fun b u q => ne_of_none q hDn
 refine ⟨σ, _, ?_, q2 s2.heap.objs.size hDn hDe⟩
 refine I2.step (h' := h') (g' := s2.gens) (d' := s2.drawn) (t' := tk) (ch := []) (fun b hb => absurd hb (by simp)) (fun b o _ _ _ q n => g3 b o (fun z => by rw [z, he] at n; cases n) q) (fun b o _ _ _ q n => ⟨o.slots, g3 b o (fun z => by rw [z, he] at n; cases n) q⟩) (fun b o _ q n => ?_) (fun b o _ q => ?_) (fun b xs q => ?_) (fun b o u q => ?_) (fun b ps q => ?_) (fun m hm' => ?_) (fun b u q => ?_) I2.bare
 ·rw [upd_ne (fun z => by rw [z, he] at n; cases n), upd_ne (Nat.ne_of_lt (Heap.lt_size q))]
  exact n
 ·by_cases z : b = e
  ·subst z; exact ⟨_, g1⟩
  ·exact ⟨o, g3 b o z q⟩
 ·rw [upd_ne (ne _ _ q (fun z => nomatch z)), upd_ne (nD _ _ q)]; exact q
 ·rw [upd_ne (ne _ _ q (fun z => nomatch z)), upd_ne (nD _ _ q)]; exact q
 ·exact ⟨#[], by rw [upd_ne (ne _ _ q (fun z => nomatch z)), upd_ne (nD _ _ q), q]; simp⟩
 ·obtain ⟨o, es, ep, ho, r⟩ := hm'
  exact ⟨o, es, ep, g3 _ _ (fun z => by have := I2.free; rw [z, he] at this; cases this) ho, r⟩
 ·by_cases z : b = e
  ·subst z
   rw [upd_same] at q
   cases q
   exact xo_ok g1
  ·rw [upd_ne z] at q
   by_cases z2 : b = s2.heap.objs.size
   ·subst z2
    rw [upd_same] at q
    cases q
    refine ⟨_, g2, fun n => ?_⟩
    by_cases hf : n = f
    ·subst hf
     simp only [if_true, List.lookup_cons, beq_self_eq_true]
     exact ry
    ·rw [if_neg hf, List.lookup_cons, beq_eq_false_iff_ne.mpr hf]
     trivial
   ·rw [upd_ne z2] at q
    refine (I2.hok b u q).stay (fun c v hc r => g3 c v ?_ r) (fun c r => ?_) fun c xs r => ?_
    ·rcases hc with y | y
     ·rw [y]; exact z
     ·exact ne _ _ y (fun z => nomatch z)
    ·rw [upd_ne (ne _ _ r (fun z => nomatch z)), upd_ne (nD _ _ r)]; exact r
    ·rw [upd_ne (ne _ _ r (fun z => nomatch z)), upd_ne (nD _ _ r)]; exact r
end
end L2
namespace L2
open PySem PySem.Spec PyProof.Rows
structure XDef (P : Program) (w : World) (K : PySem.W.Frag) (mg : Str -> Option Value) (base : Heap) (cc : Bool) (k : Nat) (x fld : Str) : Prop where
 at_ : mg x = some (.ref (clsA mg x))
 ex : ∃ f fd ps oc od osl, FnOk P w K mg base (CX1 P w) cc k f fd ps (spIni (clsA mg x) fld) /\ Binds K fd ps [] /\ iniIn K (clsA mg x) f = true /\ K.lookup f = some ⟨oc, od, .func fd, osl⟩ /\ oc = .type "function"
section
variable {prog : Program} {w : World} {A : Around} {E : Value -> Shared -> Prop} {s : Shared} {env : Env}
variable {nm q : Str} {C N : Addr} {bs bm : List Value} {hdct : Bool} {sn : List Str} {sub : List Value} {ab : Bool} {col : Option Bool} {dd : Option Addr} {k0 k1 k2 k3 k5 : Option Value}
theorem raise_ini {mN : Str -> Option Value} {fI : Addr} {oI : Obj} {x : Str} {np cpos pos : Pos} {args : List Expr} {Q : Flow -> Shared -> Prop}
  (hbase : bm.contains (.type "BaseException") = true) (hh : A.handled = none) (hplain : (backTo cpos (starEach args env)).any (·.1) = false) (hi : mN "__init__" = some (.ref fI)) (hfc : oI.cls = .type "function")
  (h : wpAny (model prog w) A (eval (.Name x np) env) (fun f s₁ => f = .ref C /\ wpAny (model prog w) A (evalArgs (.ref C) true (backTo cpos (starEach args env)) [])
   (fun a s₂ => a.kw = [] /\ a.pos.length ≤ sizeLine /\ s₂.heap.get? C = some (excClassObj nm q C N bs bm hdct sn sub ab col dd k0 k1 k2 k3 k5 "ValueError.__new__") /\ s₂.heap.Ns N mN /\ OwnTail s₂.heap bmV bm /\ s₂.heap.get? fI = some oI /\
    ∀ h' e, Heap.MadeExcOf s₂.heap h' e (.ref C) a.pos -> wpAny (model prog w) (A.under (.builtin "type.__call__" ⟨.ref C :: a.pos, []⟩)) (call (.ref fI) (.ref e :: a.pos))
      (fun r s' => r = .none /\ ∃ t D, s'.heap.get? C = some (excClassObj nm q C N bs bm hdct sn sub ab col dd k0 k1 k2 k3 k5 "ValueError.__new__") /\
       s'.heap.get? e = some { cls := .ref C, dict := D, data := .fields #[.ref t, .none, .none, .none, .bool false, .none] } /\ E (.ref e) s') E { s₂ with heap := h' }) E s₁) E s) :
  wpAny (model prog w) A (exec (.Raise (some (.Call (.Name x np) args [] cpos)) none pos) env) Q E s := by
 rw [arm_exec_Raise]
 refine wpAny_bind (wpAny_standAt (raise_obj (C := C) (nm := nm) (q := q) (N := N) (bs := bs) (bm := bm) (hdct := hdct) (sn := sn) (sub := sub) (ab := ab) (col := col) (dd := dd) (k0 := k0) (k1 := k1) (k2 := k2) (k3 := k3) (k5 := k5) hbase hh ?_))
 refine wpAny_bind (wpAny_mono (wpAny_Call_ofName (wpAny_mono h (fun f s₁ h₁ => ?_) fun _ _ x => x)) (fun v s₃ h₃ => wpAny_bind (wpAny_standAt (wpAny_pure h₃))) fun _ _ x => x)
 obtain ⟨rfl, h₁⟩ := h₁
 unfold callWith
 refine wpAny_bind (wpAny_holding (wpAny_mono h₁ (fun a s₂ h₂ => wpAny_bind (wpAny_standAt ?_)) fun _ _ x => x))
 obtain ⟨apos, akw⟩ := a
 obtain ⟨hkw, hlen, hC, hn, T, hfI, h₂⟩ := h₂
 obtain rfl : akw = [] := hkw
 obtain ⟨hp, g, d, tk, os⟩ := s₂
 simp only [hplain]
 refine wpAny_bind (wpAny_keeperOf_exc hC ?_)
 refine wpAny_bind (call_ini T hC hn hi hfI hfc (fun h' e hm => ?_) hlen)
 refine wpAny_mono (h₂ h' e hm) (fun r s' hr => ⟨hr.1, ?_⟩) fun _ _ z => z
 obtain ⟨t, D, g1, g2, g3⟩ := hr.2
 exact wpAny_bind (wpAny_holding (wpAny_point (wpAny_pure ⟨e, t, D, rfl, g1, g2, g3⟩)))
end
section
variable {X : Cx} {Kx : St -> XK} {D : Ends} {σ : St} {H : Hp} {x fld : Str} {np cpos pos : Pos} {e : Expr} {es : List Expr} {cc cc' : Bool} {k k' : Nat}
theorem sx_raiseI (O : XDef X.prog X.w X.K X.mg X.base cc' k x fld) (hr : Room cc k' X.A) (hk : k + 1 ≤ k') (hcc : cc' = true -> cc = true) (hx : XOk X Kx) (hc : X.calm = true) (hg : Gl X x) (hd : (x == ("__debug__" : Str)) = false) (he : starEach (e :: es) X.env = (false, eval e X.env) :: starEach es X.env)
  (hpl : (backTo cpos (starEach es X.env)).any (·.1) = false)
  (h : EA X (e :: es) σ H fun vs H1 => ∃ n, vs = [.int n] /\ n.natAbs < 10 ^ 60 /\ ∀ E' H', Same H1 H' -> H' E' = some (.xd [(fld, .int n)]) -> Kx σ (.ref (clsA X.mg x)) (some E', true) H') :
  SX X (.Raise (some (.Call (.Name x np) (e :: es) [] cpos)) none pos) D σ H := by
 intro pins s I
 obtain ⟨f, fd, ps, oc, od, osl, Fn, hb, hi, hlk, hoc⟩ := O.ex
 obtain ⟨bm, N, nm, q, bs, hdct, sn, sub, ab, col, dd, k0, k1, k2, k3, k5, mN, hC, hN, hni, T⟩ := ini_obj I.ok.mod.kin hi
 have hr' : Room cc' (k + 1) X.A := (hr.mono hk).calmer hcc
 refine raise_ini (C := clsA X.mg x) (nm := nm) (q := q) (N := N) (bs := bs) (bm := bm) (hdct := hdct) (sn := sn) (sub := sub) (ab := ab) (col := col) (dd := dd) (k0 := k0) (k1 := k1) (k2 := k2) (k3 := k3) (k5 := k5) (mN := mN) (fI := f) (oI := ⟨oc, od, .func fd, osl⟩)
  (T.hasType (by decide +kernel)) (I.ok.hd hc) ?_ hni hoc (ld_glob I hg O.at_ ⟨rfl, ?_⟩ hd)
 ·rw [he]
  show (false || (backTo cpos (starEach es X.env)).any (·.1)) = false
  rw [hpl]
  rfl
 ·have h' := h cpos pins s I
  rw [he] at h' ⊢
  refine Calls.evalArgs_plain (thn h' fun us s2 ⟨vs, H1, I2, r, n, ev, hn, kq⟩ => ?_)
  subst ev
  obtain ⟨u, rfl, ru⟩ := vals1 r
  refine ⟨rfl, by show 1 ≤ sizeLine; rw [sizeLine_eq]; decide, I2.bk _ _ hC, hN.keeps I2.bk, T.keeps I2.bk, I2.kIn _ _ hlk, fun h3 a M => ?_⟩
  obtain ⟨t, m1, m2, m3⟩ := M.there
  have hfree : H1 a = none := I2.hok.free M.new
  have hch : Ch X pins a := I2.ch M.new
  have I3 : Inv X pins σ H1 { s2 with heap := h3 } := I2.kept (t' := s2.toks) M.keeps
  have I4 : Inv X pins σ (upd H1 a (xo a (clsA X.mg x) none)) { s2 with heap := h3 } := I3.adopt hfree hch (xo_ok m1)
  have rv : Vals [V.ref a, .int n] [Value.ref a, u] := .cons rfl (.cons ru .nil)
  have hsp : spIni (clsA X.mg x) fld [V.ref a, .int n] (upd H1 a (xo a (clsA X.mg x) none)) (fun v H' => v = .non /\ ∃ E', H' a = some (xo a (clsA X.mg x) (some E')) /\ H' E' = some (.xd [(fld, .int n)]) /\ E' ≠ a /\ ∀ b o, b ≠ a -> H1 b = some o -> H' b = some o) (fun _ _ _ => False) :=
   ⟨a, n, rfl, hn, upd_same, fun E' H' h1 h2 h3' h4 h5 => ⟨rfl, E', h4, h5, h1, fun b o hb q => h3' b o hb (by rw [upd_ne hb]; exact q)⟩⟩
  have hl : ([Value.ref a, u] : List Value).length = ps.length := by rw [<- rv.length]; exact Fn.len _ _ _ _ hsp
  have hb' := hb { s2 with heap := h3 } [Value.ref a, u] I4.kIn (by simpa using hl)
  rw [List.append_nil] at hb'
  refine wpAny_call (codeAny_mono (Fn.run (X.A.under (.builtin "type.__call__" ⟨.ref (clsA X.mg x) :: [u], []⟩)) X.stack { s2 with heap := h3 } _ ⟨[Value.ref a, u], []⟩ [Value.ref a, u] [V.ref a, .int n] _ (fun _ _ _ => False) (hr'.make (clsA X.mg x) [u] [])
   (I4.env0.make (clsA X.mg x) [u] []) hb' rv hsp) fun r s' hq => ?_)
  cases r with
  | error e => exact (CX1.never hq).elim
  | ok fl =>
    cases fl with
    | ret v =>
      obtain ⟨v', H', I5, rr, ev, E', g1, g2, g3, g4⟩ := I4.after hq
      subst ev
      obtain ⟨⟨t', ht'⟩, _, _⟩ := I5.hok a _ g1
      have I6 := I5.forget g1 hch
      refine ⟨rr, t', some E', I5.bk _ _ hC, ht', ?_⟩
      refine hx pins σ _ s' a _ (some E', true) ⟨I6, none, .none, ⟨_, _, ht', rfl, rfl, rfl, rfl, by simp, fun _ => rfl, fun T z => nomatch z⟩, .inl rfl, fun b hb => ?_⟩ (kq E' _ (fun b o q => ?_) ?_)
      ·have z : b = a := by simpa using hb
       subst z
       exact ⟨dropH_self, hch⟩
      ·have hba : b ≠ a := ne_of_none q hfree
       rw [dropH_ne hba]
       exact g4 b o hba q
      ·rw [dropH_ne g3]
       exact g2
    | next => exact False.elim hq
    | brk => exact False.elim hq
    | cont => exact False.elim hq
end
end L2
namespace L2
open PySem PySem.Spec PyProof.Rows
structure XAttr (K : PySem.W.Frag) (C : Addr) : Prop where
 hd : PySem.W.hasDictIn K C = true
 ga : PySem.W.findIn K (.ref C) "__getattribute__" = some (some (.builtin "BaseException.__getattribute__"))
 gt : PySem.W.findIn K (.ref C) "__getattr__" = some none
 cl : PySem.W.findIn K (.ref C) "__class__" = some (some (.builtin "object.__class__"))
 cg : PySem.W.specialIn K (.builtin "object.__class__") "__get__" = some (some (.builtin "getset_descriptor.__get__"))
 ct : PySem.W.takesIn K (.builtin "object.__class__") = some true
 mo : PySem.W.mroIn K C (.type "object") = some true
 mb : PySem.W.mroIn K C (.type "BaseException") = some true
section
variable {prog : Program} {w : World} {A : Around} {E : Value -> Shared -> Prop} {s : Shared} {K : PySem.W.Frag} {x C : Addr} {ox : Obj} {od : Option Obj} {name : Str} {v : Value}
theorem x_ga {tk : Tok} {fill expr : Bool} {Q : Value -> Shared -> Prop} (X : K.In s.heap) (I : PySem.W.InstAt s.heap x ox C od) (c : XAttr K C)
  (h : wpAny (model prog w) A.in1 (Builtin.«object.__getattribute__» ⟨[.ref x, .str name tk], []⟩) (fun fin s' => match fin with
   | .done (.ret v) => wpAny (model prog w) A (handedOut v) Q E s'
   | _ => False) (fun _ _ => False) s) : wpAny (model prog w) A (getAttrBy (.ref x) (.str name tk) fill expr) Q E s := by
 have FB := F.attrBase_ValueError
 have sub : PySem.W.Looks (model prog w) s.heap (isInstance (.ref x) (.type "BaseException")) true := I.type.andThen (PySem.W.looks_mroIn X c.mb)
 unfold getAttrBy
 refine wpAny_holding (wpAny_bind (I.type.here (wpAny_bind ((PySem.W.looks_findIn X c.ga).here ?_))))
 dsimp only
 have hx2 : (Value.builtin "BaseException.__getattribute__" == Value.builtin "object.__getattribute__") = false := by decide +kernel
 rw [if_neg (by rw [hx2, Bool.and_false]; exact Bool.false_ne_true)]
 unfold getAttrByItsOwn hookBefore
 rw [if_pos (show onTheHeap (Value.ref C) = true from rfl)]
 refine wpAny_bind ((PySem.W.looks_findIn X c.gt).here ?_)
 refine wpAny_bind (wpAny_attempt (wpAny_holding ?_))
 unfold callGetattribute
 rw [if_neg (by cases expr <;> exact Bool.false_ne_true)]
 unfold boundAndCalled
 rw [FB.ga.bind]
 refine wpAny_bind (wpAny_pure (wpAny_call (codeAny_call_builtin FB.ga.plain F.entry_bexc_ga (@PySem.W.check_slot (model prog w) _ _ s "BaseException.__getattribute__" "BaseException" "__getattribute__" (.ref x) [.str name tk] [] _ (by decide +kernel) (by decide +kernel) sub (F.args_bexc_ga _ _) ?_))))
 refine wpAny_mono h (fun fin s' z => ?_) fun _ _ z => z.elim
 rcases fin with (_ | _ | _ | _) | _ <;> first | exact z | exact z.elim
theorem x_val {tk : Tok} {Q : Fin -> Shared -> Prop} (X : K.In s.heap) (I : PySem.W.InstAt s.heap x ox C od) (hf : PySem.W.findObj K C od name = some (.value v)) (h : Q (.done (.ret v)) s) :
  wpAny (model prog w) A (Builtin.«object.__getattribute__» ⟨[.ref x, .str name tk], []⟩) Q E s := by
 have L1 := PySem.W.looks_find (M := model prog w) X I hf
 unfold Builtin.«object.__getattribute__»
 refine wpAny_bind (wpAny_pure ?_)
 dsimp only
 refine wpAny_bind (wpAny_pure (wpAny_bind (I.type.here (wpAny_bind (L1.here ?_)))))
 exact wpAny_pure h
theorem findObj_bind {a g : Value} (hc : (PySem.W.clsIn K C).isSome = true) (ha : PySem.W.findIn K (.ref C) name = some (some a)) (hg : PySem.W.specialIn K a "__get__" = some (some g)) (ht : PySem.W.takesIn K a = some true) : PySem.W.findObj K C od name = some (.bind g a) := by
 obtain ⟨cd, hc⟩ := Option.isSome_iff_exists.mp hc
 unfold PySem.W.findObj
 rw [hc, Option.bind_some, ha, Option.bind_some]
 simp [hg, ht]
theorem x_class {Q : Option Value -> Shared -> Prop} (X : K.In s.heap) (I : PySem.W.InstAt s.heap x ox C od) (c : XAttr K C) (h : Q (some (.ref C)) { s with toks := s.toks + 1 }) : wpAny (model prog w) A (getAttr? (.ref x) "__class__") Q E s := by
 have hf : PySem.W.findObj K C od "__class__" = some (.bind (.builtin "getset_descriptor.__get__") (.builtin "object.__class__")) := findObj_bind (by obtain ⟨cd, hc, _⟩ := PySem.W.any_some c.hd; rw [hc]; rfl) c.cl c.cg c.ct
 have L1 := PySem.W.looks_find (M := model prog w) X I hf
 unfold getAttr? getAttrBy?
 refine wpAny_bind (wpAny_mkText (wpAny_bind (wpAny_attempt (x_ga (s := { s with toks := s.toks + 1 }) X I c ?_))))
 unfold Builtin.«object.__getattribute__»
 refine wpAny_bind (wpAny_pure ?_)
 dsimp only
 refine wpAny_bind (wpAny_pure (wpAny_bind (PySem.W.Looks.here (s := { s with toks := s.toks + 1 }) I.type (wpAny_bind (PySem.W.Looks.here (s := { s with toks := s.toks + 1 }) L1 ?_)))))
 show wpAny _ _ (holding [.builtin "object.__class__"] (call (.builtin "getset_descriptor.__get__") [.builtin "object.__class__", .ref x, .ref C]) >>= ret) _ _ _
 refine wpAny_bind (wpAny_holding (wpAny_call (PySem.W.class_get (s := { s with toks := s.toks + 1 }) X I c.mo (wpAny_pure ?_))))
 exact PySem.W.handed_on rfl (wpAny_pure h)
theorem kitx_x (c : XAttr K C) : PySem.W.KitX K (.ref x) (.ref C) (fun h => ∃ ox od, PySem.W.InstAt h x ox C od) where
 ty := fun _ _ _ ⟨_, _, I⟩ => I.type
 it := fun _ _ X _ => by
  obtain ⟨cdD, hcD, _⟩ := PySem.W.any_some c.hd
  unfold PySem.W.clsIn at hcD
  split at hcD
  ·rename_i c' d' cd' sl' ho
   intro A' Q' E' s' k q
   unfold isType loadHead
   exact wpAny_bind (wpAny_loadPart (k _ _ (X _ _ ho)) (wpAny_pure q))
  ·cases hcD
 ne := fun h tp dd its n sl X htp => by
  obtain ⟨cdD, hcD, _⟩ := PySem.W.any_some c.hd
  refine Bool.eq_false_iff.mpr fun q => ?_
  have e : C = tp := Value.ref.inj (beq_iff_eq.mp q)
  subst e
  unfold PySem.W.clsIn at hcD
  split at hcD
  ·rename_i c' d' cd' sl' ho
   have z := (X _ _ ho).symm.trans htp
   cases z
  ·cases hcD
 ca := fun X ⟨_, _, I⟩ k => x_class X I c k
end
def xw (e C : Addr) (D : Option Addr) : HO := .ext fun h => ∃ oe vs, h.get? e = some oe /\ oe.cls = .ref C /\ oe.dict = D /\ oe.data = .fields vs
theorem xw_ok {P : Program} {w : World} {H : Hp} {h : Heap} {e C : Addr} {D : Option Addr} {oe : Obj} {vs : Array Value} (q : h.get? e = some oe) (hc : oe.cls = .ref C) (hd : oe.dict = D) (hf : oe.data = .fields vs) : ObjOk P w H h e (xw e C D) :=
 ⟨⟨oe, vs, q, hc, hd, hf⟩, ⟨_, q⟩, fun h1 h2 ⟨oe, vs, q, r⟩ k => ⟨oe, vs, k _ q, r⟩⟩
section
variable {X : Cx} {σ : St} {H : Hp} {Q : VK} {e C : Addr} {D : Option Addr} {k : Bool}
theorem Inv.inst {pins : List (Addr × Obj)} {s : Shared} (I : Inv X pins σ H s) (he : H e = some (xw e C D)) (hd : ∀ E', D = some E' -> ∃ fs, H E' = some (.xd fs)) : ∃ ox od, PySem.W.InstAt s.heap e ox C od /\ ∀ E' fs, D = some E' -> H E' = some (.xd fs) -> ∃ o, od = some o /\ ∃ mA : Str -> Option Value, (∀ f, RelO (fs.lookup f) (mA f)) /\ ∀ n, PySem.W.lookIn n o = some (mA n) := by
 obtain ⟨⟨oe, vs, q, hc, hdd, hf⟩, _, _⟩ := I.hok e _ he
 cases D with
 | none => exact ⟨oe, none, ⟨q, hc, by unfold PySem.W.notCls; rw [hf], by rw [hdd]; trivial⟩, fun E' fs z => nomatch z⟩
 | some E' =>
   obtain ⟨fs, h1⟩ := hd E' rfl
   obtain ⟨mA, hns, hr⟩ := I.hok E' _ h1
   obtain ⟨o, ho, hl⟩ := lookIn_ns hns
   refine ⟨oe, some o, ⟨q, hc, by unfold PySem.W.notCls; rw [hf], by rw [hdd]; exact ho⟩, fun E2 fs2 z z2 => ?_⟩
   cases z
   rw [h1] at z2
   cases z2
   exact ⟨o, rfl, mA, hr, hl⟩
theorem c_isX {c : V} {u : Value} (ca : XAttr X.K C) (he : H e = some (xw e C D)) (hd : ∀ E', D = some E' -> ∃ fs, H E' = some (.xd fs)) (hu : ∀ u', RelV c u' -> u' = u) (ek : PySem.W.kitOne X.K (.ref C) u = some k) (q : Q (.bl k) H) : CL X (.builtin "isinstance") [.ref e, c] H Q := by
 refine cl_by (r := fun xs H Q => xs = [.ref e, c] /\ H e = some (xw e C D) /\ (∀ E', D = some E' -> ∃ fs, H E' = some (.xd fs)) /\ Q (.bl k) H) ?_ ⟨rfl, he, hd, q⟩
 intro pins s σ H xs us Q I r h
 obtain ⟨rfl, he, hd, q⟩ := h
 obtain ⟨u1, u2, rfl, r1, r2⟩ := vals2 r
 cases (show u1 = Value.ref e from r1)
 rw [hu u2 r2]
 obtain ⟨ox, od, J, _⟩ := I.inst he hd
 exact PySem.W.kia_one (kitx_x ca) I.kIn ⟨ox, od, J⟩ ek (fun z => nomatch z) fun tk => ⟨.bl k, H, I.tok tk, rfl, q⟩
theorem ev_xfld {o : Expr} {f : Str} {pos : Pos} {E' : Addr} {v : V} {fs : List (Str × V)} (hb : attributeBase o f X.env (eval o X.env) = eval o X.env) (ca : XAttr X.K C) (hn : PySem.W.findIn X.K (.ref C) f = some none)
  (hv : ∀ u, RelV v u -> PySem.W.handedIn u = true)
  (h : EV X o σ H fun y H1 => y = .ref e /\ H1 e = some (xw e C (some E')) /\ H1 E' = some (.xd fs) /\ fs.lookup f = some v /\ Q v H1) : EV X (.Attribute o f pos) σ H Q := by
 intro pins s I
 refine attr_of hb (thn (h pins s I) fun u s1 ⟨y, H1, I1, ry, ey, he, hE, hl, q⟩ => ?_)
 subst ey
 obtain rfl : u = Value.ref e := ry
 obtain ⟨ox, od, J, g⟩ := I1.inst he fun E2 z => ⟨fs, by cases z; exact hE⟩
 obtain ⟨o', rfl, mA, hr, hlk⟩ := g E' fs rfl hE
 have hr' := hr f
 rw [hl] at hr'
 cases hm : mA f with
 | none => rw [hm] at hr'; cases hr'
 | some v' =>
   rw [hm] at hr'
   have hr2 : RelV v v' := hr'
   unfold getAttr
   refine wpAny_bind (wpAny_mkText (x_ga (s := { s1 with toks := s1.toks + 1 }) I1.kIn J ca (x_val (s := { s1 with toks := s1.toks + 1 }) I1.kIn J (PySem.W.findObj_own ca.hd hn rfl (by rw [hlk, hm])) ?_)))
   exact PySem.W.handed_on (hv v' hr2) ⟨v, H1, I1.tok _, hr2, q⟩
end
end L2
namespace L2
open PySem PySem.Spec PyProof.Rows
section
variable {X : Cx} {pins : List (Addr × Obj)} {σ : St} {H : Hp} {s : Shared} {h' : Heap}
theorem Inv.relocal {n : Str} {i : Nat} {m m' : Str -> Option Value} {t' : Nat} (I : Inv X pins σ H s) (hN : X.N.Nodup) (hi : X.N[i]? = some n) (hσ : σ[i]? = some none)
  (hl : ∀ (i : Nat) (x : Str) (v : V), X.N[i]? = some x -> σ[i]? = some (some v) -> Vis X.env.scope x -> ∃ u, RelV v u /\ Look X.env s.heap m x u)
  (hn : h'.Ns X.env.locals m') (ag : ∀ x, x ≠ n -> m' x = m x) (sb : ∀ b o, b ≠ X.env.locals -> s.heap.get? b = some o -> h'.get? b = some o) (hL : ∃ o, h'.get? X.env.locals = some o) : Inv X pins σ H { s with heap := h', toks := t' } := by
 have neL : ∀ b o, X.s₀.heap.get? b = some o -> b ≠ X.env.locals := fun b o e => Nat.ne_of_lt (Nat.lt_of_lt_of_le (Heap.lt_size e) I.ok.above)
 have cellK : ∀ x c, X.env.cells.lookup x = some c -> ∀ v, s.heap.IsCell c v -> h'.IsCell c v := fun x c e v ⟨o, ho, hd⟩ => ⟨o, sb c o (I.cne x c e) ho, hd⟩
 refine ⟨I.ok, I.os, I.bare, ⟨fun b o e n hb hx => sb b o (neL b o e) (I.base.keep b o e n hb hx), fun b o e n hb hx => ?_, I.base.free, fun b o e hx => ?_, I.base.tups, I.base.frzs, I.base.tbls⟩, ⟨m', hn, fun j x v e1 e2 e3 => ?_⟩, fun x c e => ?_, I.free, I.freeC, fun p hp => ?_, fun b u e => ?_, I.len⟩
 ·obtain ⟨sl, e1⟩ := I.base.slot b o e n hb hx
  exact ⟨sl, sb b _ (neL b o e) e1⟩
 ·obtain ⟨o', e1⟩ := I.base.there b o e hx
  exact ⟨o', sb b o' (neL b o e) e1⟩
 ·obtain ⟨u, r, l⟩ := hl j x v e1 e2 e3
  refine ⟨u, r, ?_⟩
  have hne : x ≠ n := fun z => by
   subst z
   have := nodup_ix hN e1 hi
   subst this
   rw [hσ] at e2
   cases e2
  rcases l with l | ⟨k, c, e, z⟩
  ·exact .inl ⟨l.1, by rw [ag x hne]; exact l.2⟩
  ·exact .inr ⟨k, c, e, cellK x c e _ z⟩
 ·obtain ⟨v, z⟩ := I.cell x c e
  exact ⟨v, cellK x c e v z⟩
 ·obtain ⟨e, n, ne, nf, d⟩ := I.pin p hp
  exact ⟨sb _ _ ne e, n, ne, nf, d⟩
 ·refine (I.hok b u e).stay (fun c v hc q => sb c v ?_ q) (fun _ q => q) fun _ _ q => q
  rcases hc with z | z
  ·rw [z]; exact ne_of_none e I.free
  ·exact ne_of_none z I.free
end
section
variable {X : Cx} {D : Ends} {σ : St} {H : Hp} {rest : List ExceptHandler} {suite : List Stmt} {b₀ : Stmt} {pos np : Pos} {x n : Str} {c : Value} {C : Addr} {d : Option Addr × Bool} {i : Nat}
abbrev asEnds (D : Ends) (i : Nat) (e C : Addr) (dd : Option Addr) : Ends :=
 { nx := fun σ' H' => H' e = some (xw e C dd) /\ D.nx (σ'.set i none) (dropH H' e), rt := fun v H' => H' e = some (xw e C dd) /\ D.rt v (dropH H' e),
   bk := fun σ' H' => H' e = some (xw e C dd) /\ D.bk (σ'.set i none) (dropH H' e), ct := fun σ' H' => H' e = some (xw e C dd) /\ D.ct (σ'.set i none) (dropH H' e) }
theorem eh_as (hN : X.N.Nodup) (hi : nameAt X.N n = some i) (hloc : X.env.scope.names.lookup n = some .local) (hg : Gl X x) (hm : X.mg x = some c) (hd : (x == ("__debug__" : Str)) = false) (ex : PySem.W.exmOne X.K (.ref C) c = some true)
  (h : ∀ e pn, H e = none -> SXs (X.inEx (.ref e) (fun _ _ => False) pn) (b₀ :: suite) (asEnds D i e C d.1) (σ.set i (some (.ref e))) (upd H e (xw e C d.1))) :
  EH X (.ExceptHandler (some (.Name x np)) (some n) (b₀ :: suite) pos :: rest) D σ (.ref C) d H := by
 intro pins s e T I F ch
 have hkind : (X.env.scope.kind == .class || (X.env.scope.kind == .module && X.env.locals != X.env.globals)) = false := by rw [I.ok.kind]; rfl
 have hil : i < X.N.length := (List.getElem?_eq_some_iff.mp (nameAt_get hi)).1
 obtain ⟨ce0, ce⟩ := ch e (by simp)
 refine wpAny_handleBy_cons (test_ok I F hg hm hd ex ?_) (by intro q; cases q)
 refine codeAny_handlers_suite_as (I.off F ch fun s2 I2 F2 => ?_)
 refine store_ok2 I2 hN (nameAt_get hi) (.inl hloc) (v := .ref e) rfl (fun s3 I3 hb => ?_) (.inr hloc)
 obtain ⟨a, sb, ha⟩ := hb
 have hea : e ≠ a := by
  rcases ha with z | z
  ·rw [z]; exact ce.2.1
  ·exact fun y => ce.2.2.1 n a z y.symm
 obtain ⟨oe, vs, he, hcl, hdx, hdt, _⟩ := F2
 have he3 : s3.heap.get? e = some oe := (sb.2 e hea).trans he
 have I4 := I3.adopt ce0 ce (φ := fun h => ∃ oe vs, h.get? e = some oe /\ oe.cls = .ref C /\ oe.dict = d.1 /\ oe.data = .fields vs) (xw_ok he3 hcl hdx hdt)
 refine wpAny_mono (h e (X.pn ++ pins) ce0 [] s3 I4.inEx) (fun f s4 q => ?_) fun _ _ q => q.elim
 have gone : ∀ {σ' : St} {H' : Hp} {Q : Unit -> Shared -> Prop}, Inv X pins σ' H' s4 -> H' e = some (xw e C d.1) -> (∀ s5, Inv X pins (σ'.set i none) (dropH H' e) s5 -> Q () s5) -> wpAny (model X.prog X.w) X.A (do bindName X.env n .none; unbindBehindTheSuite X.env n pos) Q X.xe s4 := fun {σ' H' Q} J he' k => by
  have J2 := J.forget he' ce
  have J3 : Inv X pins (σ'.set i none) (dropH H' e) s4 := J2.weak (by simp) fun j v e2 => by
   by_cases z : j = i
   ·subst z
    rw [List.getElem?_set_self (by rw [J.len]; exact hil)] at e2
    cases e2
   ·rw [List.getElem?_set_ne (Ne.symm z)] at e2
    exact e2
  obtain ⟨m, hn, hl⟩ := id J3.loc
  refine wpAny_nameGoes_keeps (show X.env.kindOf n = some .local from hloc) hn hkind fun h' v hn' hsb => k _ ?_
  refine J3.relocal (m := m) (m' := fun x => if x = n then v else m x) hN (nameAt_get hi) (List.getElem?_set_self (by rw [J.len]; exact hil)) hl hn' (fun x hx => by rw [if_neg hx]) (fun b o hb q => (hsb.2 b hb).trans q) ?_
  obtain ⟨o, _, _, ho, _⟩ := hn'
  exact ⟨o, ho⟩
 cases f with
 | next =>
   obtain ⟨σ', H', J, q1, q2⟩ := q
   exact gone (Inv.uninEx I.ok J) q1 fun s5 I5 => ⟨_, _, I5, q2⟩
 | brk =>
   obtain ⟨σ', H', J, q1, q2⟩ := q
   exact gone (Inv.uninEx I.ok J) q1 fun s5 I5 => ⟨_, _, I5, q2⟩
 | cont =>
   obtain ⟨σ', H', J, q1, q2⟩ := q
   exact gone (Inv.uninEx I.ok J) q1 fun s5 I5 => ⟨_, _, I5, q2⟩
 | ret u =>
   obtain ⟨v, σ', H', J, r, q1, q2⟩ := q
   exact gone (Inv.uninEx I.ok J) q1 fun s5 I5 => ⟨v, _, _, I5, r, q2⟩
end
end L2
namespace L2
open PySem PySem.Spec PyProof.Rows
structure XTop (K : PySem.W.Frag) (mg : Str -> Option Value) (x : Str) : Prop extends XBase K mg x where
 ty : PySem.W.typeIn K (.ref (clsA mg x)) = some (.type "type")
 mb : PySem.W.mroIn K (clsA mg x) (.type "BaseException") = some true
structure XC (K : PySem.W.Frag) (mg : Str -> Option Value) (Lx x : Str) : Prop where
 at_ : mg x = some (.ref (clsA mg x))
 xc : xcIn K (clsA mg x) (clsA mg Lx) = true
 ty : PySem.W.typeIn K (.ref (clsA mg x)) = some (.type "type")
 attr : XAttr K (clsA mg x)
section
variable {K : PySem.W.Frag} {mg : Str -> Option Value} {Lx x y : Str}
theorem xc_mro (h : XC K mg Lx x) (v : Value) : PySem.W.mroIn K (clsA mg x) v = some ((Value.ref (clsA mg x) :: .ref (clsA mg Lx) :: bmV).contains v) := by
 obtain ⟨cd, h1, _, h2⟩ := xc_of h.xc
 unfold PySem.W.mroIn
 rw [h1, Option.bind_some, h2]
 rfl
theorem XC.cls (h : XC K mg Lx x) : (PySem.W.clsIn K (clsA mg x)).isSome = true := by
 obtain ⟨cd, h1, _, h2⟩ := xc_of h.xc
 rw [h1]
 rfl
theorem XTop.cls (h : XTop K mg x) : (PySem.W.clsIn K (clsA mg x)).isSome = true := by
 have := h.mb
 unfold PySem.W.mroIn at this
 cases e : PySem.W.clsIn K (clsA mg x) with
 | none => rw [e] at this; cases this
 | some cd => rfl
theorem kit_cls_of {C : Addr} (t : Value) (h1 : (PySem.W.clsIn K C).isSome = true) (h2 : PySem.W.typeIn K (.ref C) = some (.type "type")) : PySem.W.kitCls K t (.ref C) = PySem.W.subIn K t (.ref C) := by
 show (if ((PySem.W.clsIn K C).isSome && PySem.W.typeIn K (.ref C) == some (.type "type")) = true then PySem.W.subIn K t (.ref C) else none) = _
 rw [if_pos]
 rw [h1, h2]
 rfl
theorem xc_other (h : XC K mg Lx x) (g : XC K mg Lx y) (ne : clsA mg x ≠ clsA mg y) (nl : clsA mg Lx ≠ clsA mg y) : PySem.W.subIn K (.ref (clsA mg x)) (.ref (clsA mg y)) = some false := by
 show PySem.W.mroIn K (clsA mg x) (.ref (clsA mg y)) = some false
 rw [xc_mro h]
 have e1 : (Value.ref (clsA mg y) == Value.ref (clsA mg x)) = false := beq_eq_false_iff_ne.mpr fun z => ne (Value.ref.inj z).symm
 have e2 : (Value.ref (clsA mg y) == Value.ref (clsA mg Lx)) = false := beq_eq_false_iff_ne.mpr fun z => nl (Value.ref.inj z).symm
 rw [List.contains_cons, e1, List.contains_cons, e2]
 rfl
theorem xc_top (h : XC K mg Lx x) : PySem.W.subIn K (.ref (clsA mg x)) (.ref (clsA mg Lx)) = some true := by
 show PySem.W.mroIn K (clsA mg x) (.ref (clsA mg Lx)) = some true
 rw [xc_mro h, List.contains_cons, List.contains_cons, beq_self_eq_true]
 cases (Value.ref (clsA mg Lx) == Value.ref (clsA mg x)) <;> rfl
theorem kit_other (h : XC K mg Lx x) (g : XC K mg Lx y) (ne : clsA mg x ≠ clsA mg y) (nl : clsA mg Lx ≠ clsA mg y) : PySem.W.kitOne K (.ref (clsA mg x)) (.ref (clsA mg y)) = some false := by
 unfold PySem.W.kitOne
 rw [if_neg (by rw [beq_eq_false_iff_ne.mpr fun z => ne (Value.ref.inj z)]; exact Bool.false_ne_true), kit_cls_of _ g.cls g.ty]
 exact xc_other h g ne nl
theorem kit_self (h : XC K mg Lx x) : PySem.W.kitOne K (.ref (clsA mg x)) (.ref (clsA mg x)) = some true := by
 unfold PySem.W.kitOne
 rw [if_pos (beq_self_eq_true _)]
theorem kit_ve (h : XC K mg Lx x) : PySem.W.kitOne K (.ref (clsA mg x)) (.type "ValueError") = some true := by
 unfold PySem.W.kitOne
 rw [if_neg (by rw [beq_eq_false_iff_ne.mpr fun z => by cases z]; exact Bool.false_ne_true)]
 show (if PySem.W.kitMeta "ValueError" = true then PySem.W.subIn K (.ref (clsA mg x)) (.type "ValueError") else none) = some true
 rw [if_pos (by decide +kernel)]
 show PySem.W.mroIn K (clsA mg x) (.type "ValueError") = some true
 rw [xc_mro h]
 rfl
theorem exm_top (h : XC K mg Lx x) (b : XTop K mg Lx) : PySem.W.exmOne K (.ref (clsA mg x)) (.ref (clsA mg Lx)) = some true := by
 unfold PySem.W.exmOne
 have e : PySem.W.subIn K (.ref (clsA mg Lx)) (.type "BaseException") = some true := b.mb
 rw [e, if_pos (by decide), kit_cls_of _ b.cls b.ty]
 exact xc_top h
end
theorem xdef_of {P : Program} {w : World} {K : PySem.W.Frag} {mg : Str -> Option Value} {base : Heap} {cc : Bool} {k : Nat} {Lx x qual fld : Str} {st : Stmt} {ps N : List Str} (O : XIni K mg Lx x qual fld st) (S : FnScope N ps (defScope st))
  (hb : ∀ (kV doc pm : Value) (an : Option Addr) (cdv ct : Value) (us : List Value), us.length = ps.length -> bindArgs (PySem.W.fnOf "__init__" qual (defArgs st) (defBody st) (defScope st) .none kV doc pm an cdv ct) ⟨us, []⟩ = pure (ps.zip us))
  (len : ps.length = 2)
  (body : ∀ (f : Addr) (cdv : Value) (A : Around) (outer : List Env) (s : Shared) (H : Hp) (vs : List V) (Q : VK) (E : XK), iniIn K (clsA mg x) f = true -> Room cc k (A.deeper (envOfC qual (defScope st) s.heap.objs.size f cdv)) -> spIni (clsA mg x) fld vs H Q E ->
   SXs (CxF cc P w K mg base N qual (defScope st) f cdv A outer s H E) (defBody st) { nx := fun _ H' => Q .non H', rt := Q } (start N vs) H) : XDef P w K mg base cc (k + 1) x fld := by
 obtain ⟨f, fd, F, h1, h2⟩ := O.ex
 obtain ⟨oc, od, kV, doc, pm, an, cdv, ct, osl, e, lk, hcd⟩ := id F.ex
 refine ⟨O.at_, f, fd, ps, oc, od, osl, fn_sx F S (fun vs H Q E h => by obtain ⟨a, n, rfl, _⟩ := h; exact len.symm) fun cdv A outer s H vs Q E hr h => body f cdv A outer s H vs Q E h1 hr h, F.binds hb, h1, lk, ?_⟩
 have h3 : PySem.W.typeIn K (.ref f) = some (.type "function") := beq_iff_eq.mp h2
 have h4 : Option.map (fun x : Obj => x.cls) (List.lookup f K) = some (.type "function") := h3
 rw [lk] at h4
 exact Option.some.inj h4
end L2
namespace L2
open PySem PySem.Spec PyProof.Rows
section
variable {K : PySem.W.Frag} {mg : Str -> Option Value} {Lx x qual fld : Str} {C L f : Addr} {st : Stmt} {fd : FuncData}
theorem xtop_mk (h : mg x = some (.ref C)) (a1 : PySem.W.readsIn K C (.type "type") = true) (a2 : PySem.W.findCls K (.ref C) (.type "type") "__init__" = some (.val (.builtin "ValueError.__init__"))) (a3 : PySem.W.specialIn K (.ref C) "__getattribute__" = some (some (.builtin "type.__getattribute__")))
  (a4 : PySem.W.typeIn K (.ref C) = some (.type "type")) (a5 : PySem.W.mroIn K C (.type "BaseException") = some true) : XTop K mg x := by
 have e := clsA_eq h
 exact { at_ := by rw [e]; exact h, reads := by rw [e]; exact a1, ini := by rw [e]; exact a2, ga := by rw [e]; exact a3, ty := by rw [e]; exact a4, mb := by rw [e]; exact a5 }
theorem xc_mk (h : mg x = some (.ref C)) (hL : mg Lx = some (.ref L)) (a1 : xcIn K C L = true) (a2 : PySem.W.typeIn K (.ref C) = some (.type "type")) (a3 : PySem.W.hasDictIn K C = true) (a4 : PySem.W.findIn K (.ref C) "__getattribute__" = some (some (.builtin "BaseException.__getattribute__")))
  (a5 : PySem.W.findIn K (.ref C) "__getattr__" = some none) (a6 : PySem.W.findIn K (.ref C) "__class__" = some (some (.builtin "object.__class__"))) (a7 : PySem.W.specialIn K (.builtin "object.__class__") "__get__" = some (some (.builtin "getset_descriptor.__get__"))) (a8 : PySem.W.takesIn K (.builtin "object.__class__") = some true)
  (a9 : PySem.W.mroIn K C (.type "object") = some true) (a10 : PySem.W.mroIn K C (.type "BaseException") = some true) : XC K mg Lx x := by
 have e := clsA_eq h
 have eL := clsA_eq hL
 exact ⟨by rw [e]; exact h, by rw [e, eL]; exact a1, by rw [e]; exact a2, by rw [e]; exact ⟨a3, a4, a5, a6, a7, a8, a9, a10⟩⟩
theorem xini_mk (h : mg x = some (.ref C)) (hL : mg Lx = some (.ref L)) (F : Fun K "__init__" qual st f fd) (a1 : iniIn K C f = true) (a2 : PySem.W.isFn K (.ref f) = true) (a3 : PySem.W.findIn K (.ref C) "__setattr__" = some (some (.builtin "object.__setattr__")))
  (a4 : PySem.W.takerIn K C fld = some none) (a5 : xcIn K C L = true) : XIni K mg Lx x qual fld st := by
 have e := clsA_eq h
 have eL := clsA_eq hL
 exact ⟨by rw [e]; exact h, ⟨f, fd, F, by rw [e]; exact a1, a2⟩, by rw [e]; exact a3, by rw [e]; exact a4, by rw [e, eL]; exact a5⟩
end
end L2
namespace L2
open PySem PySem.Spec PyProof.Rows
theorem Room.mark {cc : Bool} {k : Nat} {A : Around} (r : Room cc k A) (e : Option Value) : Room false k (A.mark e) := ⟨(fun z => Bool.noConfusion z), r.dp, r.un⟩
theorem ty_ve {X : Cx} {σ : St} {H : Hp} {Q : VK} {pos : Pos} (hg : Gl X "ValueError") (hm : X.mg "ValueError" = none) (q : Q (.ty "ValueError") H) : EV X (.Name "ValueError" pos) σ H Q := ev_ty hg hm (by decide +kernel) q (by decide) (by decide)
end L2
namespace L2
open PySem PySem.Spec PyProof.Rows
abbrev IsTri (h : Heap) (T : Addr) (a b c : Value) : Prop := h.get? T = some { cls := .type "tuple", data := .seq #[a, b, c] }
section
variable {prog : Program} {w : World} {A : Around} {E : Value -> Shared -> Prop} {s : Shared}
end
abbrev z3a (h : Heap) (l1 : Addr) : Heap := h.push { cls := .type "list_iterator", data := .fields #[.ref l1, .int 0 0] }
abbrev z3b (h : Heap) (l1 l2 : Addr) : Heap := (z3a h l1).push { cls := .type "list_iterator", data := .fields #[.ref l2, .int 0 0] }
abbrev z3c (h : Heap) (l1 l2 l3 : Addr) : Heap := (z3b h l1 l2).push { cls := .type "list_iterator", data := .fields #[.ref l3, .int 0 0] }
abbrev z3d (h : Heap) (l1 l2 l3 : Addr) : Heap := (z3c h l1 l2 l3).push { cls := .type "tuple", data := .seq #[.ref h.objs.size, .ref (z3a h l1).objs.size, .ref (z3b h l1 l2).objs.size] }
abbrev z3e (h : Heap) (l1 l2 l3 : Addr) : Heap := (z3d h l1 l2 l3).push { cls := .type "tuple", data := .seq #[.none, .none, .none] }
abbrev z3f (h : Heap) (l1 l2 l3 : Addr) : Heap := (z3e h l1 l2 l3).push { cls := .type "zip", data := .fields #[.none, .bool false, .bool false, .ref (z3c h l1 l2 l3).objs.size, .ref (z3d h l1 l2 l3).objs.size] }
section
variable {prog : Program} {w : World} {A : Around} {E : Value -> Shared -> Prop} {s : Shared}
end
def Itz3 (K : PySem.W.Frag) (l m q : Addr) : It :=
 ⟨fun i H => ∃ xs ys zs x y z, (SqL K H l xs /\ SqL K H m ys /\ SqL K H q zs) /\ xs[i]? = some x /\ ys[i]? = some y /\ zs[i]? = some z,
  fun i H v H' => ∃ T x y z, v = .ref T /\ H T = none /\ H' = upd H T (.tup [x, y, z]) /\ (∀ xs, SqL K H l xs -> xs[i]? = some x) /\ (∀ ys, SqL K H m ys -> ys[i]? = some y) /\ ∀ zs, SqL K H q zs -> zs[i]? = some z,
  fun i H => ∃ xs ys zs, (SqL K H l xs /\ SqL K H m ys /\ SqL K H q zs) /\ (xs.length ≤ i \/ ys.length ≤ i \/ zs.length ≤ i)⟩
end L2
namespace L2
open PySem PySem.Spec PyProof.Rows
section
variable {X : Cx} {σ : St} {H : Hp} {a b c : Expr} {elts : List Expr} {k : Nat} {tp p pos p' : Pos} {R : It -> Hp -> Prop} {D : Ends}
end
end L2
namespace L2
open PySem PySem.Spec PyProof.Rows
section
variable {X : Cx} {H : Hp} {Q : VK}
def LexAt (A : Around) (s : Shared) : List Value -> List Value -> Bool -> Prop
 | [], [], r => r = false
 | x :: xs, y :: ys, r => ∃ e, SeqAt.EqAt A s x y e /\ (e = true -> LexAt A s xs ys r) /\ (e = false -> ∀ (prog : Program) (w : World) (E : Value -> Shared -> Prop) (Q : Value -> Shared -> Prop), Q (.bool r) s -> wpAny (model prog w) A (richCompare .Lt x y) Q E s)
 | _, _, _ => False
def ltV : V -> V -> Bool
 | .int i, .int j => decide (i < j)
 | .str x, .str y => decide (x.cps.toList < y.cps.toList)
 | _, _ => false
def ltP (i j : Int) (x y : V) : Bool := if i = j then ltV x y else decide (i < j)
end
end L2
namespace L2
open PySem PySem.Spec PyProof.Rows
structure MDef (P : Program) (w : World) (K : PySem.W.Frag) (mg : Str -> Option Value) (base : Heap) (cc : Bool) (k : Nat) (C : Addr) (m : Str) (ps : List Str) (sp : Sp) : Prop where
 cls : Cls K C
 ex : ∃ f fd, Meth K C m f /\ Binds K fd ps [] /\ FnOk P w K mg base (CX1 P w) cc k f fd ps sp
structure CDef (P : Program) (w : World) (K : PySem.W.Frag) (mg : Str -> Option Value) (base : Heap) (cc : Bool) (k : Nat) (x : Str) (C : Addr) (ps : List Str) (sp : Sp) : Prop where
 at_ : mg x = some (.ref C)
 ex : ∃ f fd, Mk K C f /\ Binds K fd ps [] /\ FnOk P w K mg base (CX1 P w) cc k f fd ps sp
structure BDef (P : Program) (w : World) (K : PySem.W.Frag) (mg : Str -> Option Value) (base : Heap) (cc : Bool) (k : Nat) (x m : Str) (ps : List Str) (sp : Sp) : Prop where
 ex : ∃ C f fd, mg x = some (.ref C) /\ PySem.W.readsIn K C (.type "type") = true /\ PySem.W.findCls K (.ref C) (.type "type") m = some (.val (.ref f)) /\
  PySem.W.specialIn K (.ref C) "__getattribute__" = some (some (.builtin "type.__getattribute__")) /\ PySem.W.keepIn K (.ref f) = true /\ Binds K fd ps [] /\ FnOk P w K mg base (CX1 P w) cc k f fd ps sp
section
variable {X : Cx} {σ : St} {H : Hp} {Q : VK} {D : Ends} {x f m : Str} {p np apos pos pos' tpos : Pos} {a e o value : Expr} {es : List Expr} {Kx : St -> XK} {cc : Bool} {k' : Nat}
theorem ev_fld (hb : attributeBase e f X.env (eval e X.env) = eval e X.env) (h : EV X e σ H fun x H1 => ∃ a C dx fs v, x = .ref a /\ H1 a = some (.ins C dx fs) /\ Cls X.K C /\ NoAttr X.K C f /\ fs.lookup f = some v /\ Q v H1) : EV X (.Attribute e f pos) σ H Q :=
 ev_of (pe_fld pe_self hb) h
theorem sx_setF (hs : swapsWith value (some (.Attribute o f pos')) pos.line X.env = pure false)
  (h : EV X value σ H fun y H1 => EV X o σ H1 fun x H2 => ∃ a C dx fs, x = .ref a /\ H2 a = some (.ins C dx fs) /\ Cls X.K C /\ NoAttr X.K C f /\ fs.length < 1000 /\ D.nx σ (upd H2 a (.ins C dx (putF f y fs)))) : SX X (.Assign [.Attribute o f pos'] value pos) D σ H :=
 fun pins s I => ps_fld pe_self pe_self hs pins s σ H D I h
theorem sx_addF (h : EV X o σ H fun x H1 => ∃ a C dx fs v, x = .ref a /\ H1 a = some (.ins C dx fs) /\ Cls X.K C /\ NoAttr X.K C f /\ fs.lookup f = some v /\
   EV X value σ H1 fun y H2 => rAdd v y H2 fun z H3 => ∃ dx' fs', H3 a = some (.ins C dx' fs') /\ fs'.length < 1000 /\ D.nx σ (upd H3 a (.ins C dx' (putF f z fs')))) : SX X (.AugAssign (.Attribute o f tpos) .Add value pos) D σ H :=
 fun pins s I => ps_fldaug pe_self pe_self in_add pins s σ H D I h
theorem ev_meth {pl : Sem Bool} (hr : Room cc k' X.A) (hx : XOk X Kx) (hst : starEach (e :: es) X.env = (false, eval e X.env) :: starEach es X.env) (hpl : (backTo pos (starEach es X.env)).any (·.1) = false)
  (ht : eval (.Call (.Attribute o m apos) (e :: es) [] pos) X.env = (do
   let ov <- eval o X.env
   standAt apos.atName
   let (f, first) <- holding [ov] (getMethod ov m pl)
   callWith pos f first (backTo pos (starEach (e :: es) X.env)) (backToKw pos (keywordEach [] X.env))))
  (h : EV X o σ H fun x H1 => ∃ a C dx fs cc' k ps sp, x = .ref a /\ H1 a = some (.ins C dx fs) /\ fs.lookup m = none /\ MDef X.prog X.w X.K X.mg X.base cc' k C m ps sp /\ k ≤ k' /\ (cc' = true -> cc = true) /\ EA X (e :: es) σ H1 fun vs H2 => sp (x :: vs) H2 Q (Kx σ)) :
  EV X (.Call (.Attribute o m apos) (e :: es) [] pos) σ H Q := by
 intro pins s I
 refine PySem.W.methodCall_KW (pl := pl) (thn (h pins s I) fun u s1 ⟨x, H1, I1, rx, a, C, dx, fs, cc', k, ps, sp, ex, ea, hl, M, hk, hcc, q⟩ => ?_) ht
 subst ex
 cases (show u = Value.ref a from rx)
 obtain ⟨f, fd, hm, hb, F⟩ := M.ex
 refine getmeth_ok I1 ea M.cls hm hl ?_
 refine PySem.W.callWith_K (first := [.ref a]) (h₀ := X.base) I.ok.mod.kin hm.kp (thn (q pos pins s1 I1) fun us s2 ⟨vs, H2, I2, r, q2⟩ => ⟨I2.kIn, ?_⟩) hst hpl
 exact run_fnX (us := .ref a :: us) (vs := .ref a :: vs) F ((hr.mono hk).calmer hcc) hb hx I2 (.cons rfl r) q2
theorem ev_meth0 {pl : Sem Bool} (hr : Room cc k' X.A) (hx : XOk X Kx)
  (ht : eval (.Call (.Attribute o m apos) [] [] pos) X.env = (do
   let ov <- eval o X.env
   standAt apos.atName
   let (f, first) <- holding [ov] (getMethod ov m pl)
   callWith pos f first (backTo pos (starEach [] X.env)) (backToKw pos (keywordEach [] X.env))))
  (h : EV X o σ H fun x H1 => ∃ a C dx fs cc' k ps sp, x = .ref a /\ H1 a = some (.ins C dx fs) /\ fs.lookup m = none /\ MDef X.prog X.w X.K X.mg X.base cc' k C m ps sp /\ k ≤ k' /\ (cc' = true -> cc = true) /\ sp [x] H1 Q (Kx σ)) :
  EV X (.Call (.Attribute o m apos) [] [] pos) σ H Q := by
 intro pins s I
 refine PySem.W.methodCall_KW (pl := pl) (thn (h pins s I) fun u s1 ⟨x, H1, I1, rx, a, C, dx, fs, cc', k, ps, sp, ex, ea, hl, M, hk, hcc, q⟩ => ?_) ht
 subst ex
 cases (show u = Value.ref a from rx)
 obtain ⟨f, fd, hm, hb, F⟩ := M.ex
 refine getmeth_ok I1 ea M.cls hm hl ?_
 exact PySem.W.callWith_K0 (first := [.ref a]) I1.kIn hm.kp (run_fnX (us := [.ref a]) (vs := [.ref a]) F ((hr.mono hk).calmer hcc) hb hx I1 (.cons rfl .nil) q)
theorem run_makeX {cc : Bool} {k : Nat} {C g : Addr} {fd : FuncData} {ps : List Str} {sp : Sp} {pins : List (Addr × Obj)} {s : Shared} {us : List Value} {vs : List V} (M : Mk X.K C g) (F : FnOk X.prog X.w X.K X.mg X.base (CX1 X.prog X.w) cc k g fd ps sp) (hr : Room cc (k + 1) X.A) (hb : Binds X.K fd ps []) (hx : XOk X Kx)
  (I : Inv X pins σ H s) (r : Vals vs us)
  (h : ∀ y dx, H y = none -> H dx = none -> dx ≠ y -> sp (.ref y :: vs) (upd (upd H dx (.own y)) y (.ins C dx [])) (fun v H2 => v = .non /\ Q (.ref y) H2) (Kx σ)) :
  wpAny (model X.prog X.w) X.A (call (.ref C) us) (EP X pins σ Q) X.xe s := by
 have hy : H (s.heap.objs.size + 1) = none := I.hok.fresh (Nat.le_succ _)
 have hdx : H s.heap.objs.size = none := I.hok.fresh (Nat.le_refl _)
 have q := h _ _ hy hdx (Nat.ne_of_lt (Nat.lt_succ_self _))
 have I2 := Inv.made (C := C) I
 have rr : Vals (V.ref (s.heap.objs.size + 1) :: vs) (Value.ref (s.heap.objs.size + 1) :: us) := .cons rfl r
 have hl : (Value.ref (s.heap.objs.size + 1) :: us).length = ps.length := by rw [<- rr.length]; exact F.len _ _ _ _ q
 have hb' := hb { s with heap := (s.heap.push PySem.W.emptyDict).push (PySem.W.instObj C s.heap.objs.size) } (Value.ref (s.heap.objs.size + 1) :: us) I2.kIn (by simpa using hl)
 rw [List.append_nil] at hb'
 refine wpAny_call (make_map (f := g) I.kIn M.makes M.init (beq_iff_eq.mp M.fn) (codeAny_mono (F.run _ X.stack _ _ ⟨Value.ref (s.heap.objs.size + 1) :: us, []⟩ _ _ _ (Kx σ) (hr.make C us []) (I2.env0.make C us []) hb' rr q) fun res s' hq => ?_))
 match res, hq with
 | .error z, hq =>
   obtain ⟨b, cls, d, H', rfl, xa, w⟩ := I2.flown hq
   exact hx pins σ H' s' b cls d xa w
 | .ok (.ret u), hq =>
   obtain ⟨v, H', I3, rv, ev, q3⟩ := I2.after hq
   subst ev
   exact ⟨rv, ⟨V.ref (s.heap.objs.size + 1), H', I3, rfl, q3⟩⟩
 | .ok .next, hq => exact False.elim hq
 | .ok .brk, hq => exact False.elim hq
 | .ok .cont, hq => exact False.elim hq
theorem ev_make {cc' : Bool} {k : Nat} {C : Addr} {ps : List Str} {sp : Sp} (M : CDef X.prog X.w X.K X.mg X.base cc' k x C ps sp) (hr : Room cc k' X.A) (hk : k + 1 ≤ k') (hcc : cc' = true -> cc = true) (hx : XOk X Kx) (hg : Gl X x) (hd : (x == ("__debug__" : Str)) = false)
  (hst : starEach (e :: es) X.env = (false, eval e X.env) :: starEach es X.env) (hpl : (backTo pos (starEach es X.env)).any (·.1) = false)
  (h : EA X (e :: es) σ H fun vs H1 => ∀ y dx, H1 y = none -> H1 dx = none -> dx ≠ y -> sp (.ref y :: vs) (upd (upd H1 dx (.own y)) y (.ins C dx [])) (fun v H2 => v = .non /\ Q (.ref y) H2) (Kx σ)) :
  EV X (.Call (.Name x p) (e :: es) [] pos) σ H Q := by
 obtain ⟨f, fd, hm, hb, F⟩ := M.ex
 intro pins s I
 refine wpAny_Call_Name_kw (ld_glob I hg M.at_ ?_ hd)
 refine PySem.W.callWith_K (h₀ := X.base) I.ok.mod.kin hm.kp (thn (h pos pins s I) fun us s1 ⟨vs, H1, I1, r, q⟩ => ⟨I1.kIn, ?_⟩) hst hpl
 exact run_makeX hm F ((hr.mono hk).calmer hcc) hb hx I1 r q
end
end L2
namespace L2
open PySem PySem.Spec PyProof.Rows
structure OM (K : PySem.W.Frag) (C : Addr) (m qual : Str) (st : Stmt) : Prop where
 ex : ∃ f fd, Fun K m qual st f fd /\ Meth K C m f
structure OI (K : PySem.W.Frag) (C : Addr) (qual : Str) (st : Stmt) : Prop where
 ex : ∃ f fd, Fun K "__init__" qual st f fd /\ Mk K C f
structure OB (K : PySem.W.Frag) (C : Addr) (m qual : Str) (st : Stmt) : Prop where
 rd : PySem.W.readsIn K C (.type "type") = true
 ga : PySem.W.specialIn K (.ref C) "__getattribute__" = some (some (.builtin "type.__getattribute__"))
 ex : ∃ f fd, Fun K m qual st f fd /\ PySem.W.findCls K (.ref C) (.type "type") m = some (.val (.ref f))
def FD (P : Program) (w : World) (K : PySem.W.Frag) (mg : Str -> Option Value) (base : Heap) (cc : Bool) (k : Nat) (m qual : Str) (st : Stmt) (ps : List Str) (sp : Sp) : Prop :=
 ∀ f fd, Fun K m qual st f fd -> Binds K fd ps [] /\ FnOk P w K mg base (CX1 P w) cc k f fd ps sp
section
variable {P : Program} {w : World} {K : PySem.W.Frag} {mg : Str -> Option Value} {base : Heap} {cc : Bool} {k : Nat} {x m qual : Str} {C : Addr} {st : Stmt} {ps N : List Str} {sp : Sp}
theorem fd_of (S : FnScope N ps (defScope st))
  (hb : ∀ (kV doc pm : Value) (an : Option Addr) (cdv ct : Value) (us : List Value), us.length = ps.length -> bindArgs (PySem.W.fnOf m qual (defArgs st) (defBody st) (defScope st) .none kV doc pm an cdv ct) ⟨us, []⟩ = pure (ps.zip us))
  (len : ∀ vs H Q E, sp vs H Q E -> vs.length = ps.length)
  (body : ∀ (f : Addr) (cdv : Value) (A : Around) (outer : List Env) (s : Shared) (H : Hp) (vs : List V) (Q : VK) (E : XK), Room cc k (A.deeper (envOfC qual (defScope st) s.heap.objs.size f cdv)) -> sp vs H Q E ->
   SXs (CxF cc P w K mg base N qual (defScope st) f cdv A outer s H E) (defBody st) { nx := fun _ H' => Q .non H', rt := Q } (start N vs) H) : FD P w K mg base cc (k + 1) m qual st ps sp :=
 fun f fd F => ⟨F.binds hb, fn_sx F S len fun cdv A outer s H vs Q E hr h => body f cdv A outer s H vs Q E hr h⟩
theorem FD.meth (F : FD P w K mg base cc k m qual st ps sp) (c : Cls K C) (O : OM K C m qual st) : MDef P w K mg base cc k C m ps sp := by
 obtain ⟨f, fd, h1, h2⟩ := O.ex
 exact ⟨c, f, fd, h2, F f fd h1⟩
theorem FD.make (F : FD P w K mg base cc k "__init__" qual st ps sp) (hm : mg x = some (.ref C)) (O : OI K C qual st) : CDef P w K mg base cc k x C ps sp := by
 obtain ⟨f, fd, h1, h2⟩ := O.ex
 exact ⟨hm, f, fd, h2, F f fd h1⟩
theorem om_mk {f : Addr} {fd : FuncData} (h : mg x = some (.ref C)) (F : Fun K m qual st f fd) (a : PySem.W.findIn K (.ref C) m = some (some (.ref f))) (b : PySem.W.isFn K (.ref f) = true) : OM K (clsA mg x) m qual st := by
 rw [clsA_eq h]
 exact ⟨f, fd, F, a, b, F.kp⟩
theorem oi_mk {f : Addr} {fd : FuncData} (h : mg x = some (.ref C)) (F : Fun K "__init__" qual st f fd) (a : PySem.W.findIn K (.ref C) "__init__" = some (some (.ref f))) (b : PySem.W.isFn K (.ref f) = true) (c : PySem.W.makesIn K C = true) (d : PySem.W.keepIn K (.ref C) = true) : OI K (clsA mg x) qual st := by
 rw [clsA_eq h]
 exact ⟨f, fd, F, c, a, b, d⟩
theorem cls_mk (h : mg x = some (.ref C)) (a : PySem.W.plainGet K C Str.empty = true) (b : PySem.W.hasDictIn K C = true) (c : PySem.W.plainOver K C = true) (d : PySem.W.findIn K (.ref C) "__setattr__" = some (some (.builtin "object.__setattr__"))) : Cls K (clsA mg x) := by
 rw [clsA_eq h]
 exact ⟨a, b, c, d⟩
end
structure OT (K : PySem.W.Frag) (C : Addr) : Prop where
 ty : ∀ (H : Hp) (a dx : Addr) (fs : List (Str × V)), H a = some (.ins C dx fs) -> TyOf K H (.ref a) (.ref C)
end L2
namespace L2
open PySem PySem.Spec PyProof.Rows
section
variable {X : Cx} {σ : St} {H : Hp} {Q : VK} {D : Ends} {pos tpos : Pos} {o i value : Expr}
end
section
variable {prog : Program} {w : World} {A : Around} {E : Value -> Shared -> Prop} {s : Shared}
end
section
variable {X : Cx} {H : Hp} {Q : VK} {D : Ends} {σ σ' : St} {e a b c elt tg : Expr} {scope : Scope} {pos spos py p p' : Pos} {x y : Str} {j : Nat}
end
end L2
namespace L2
open PySem PySem.Spec PyProof.Rows
section
variable {X : Cx} {σ : St} {H : Hp} {Q : VK} {D : Ends} {pos pos' tpos apos cpos : Pos} {o i e f value : Expr} {y v : V} {a : Addr} {r : Option V}
theorem ev_dnew (h : ∀ p, H p = none -> Q (.ref p) (upd H p (.dK []))) : EV X (.Dict [] [] pos) σ H Q := ev_of pe_dnewK h
theorem ev_dget (hu : X.A.units + 1 < cLine) (hs : NoSl i) (h : EV X o σ H fun x H1 => EV X i σ H1 fun y H2 => ∃ a v, x = .ref a /\ DGet H2 a y (some v) /\ Q v H2) : EV X (.Subscript o i pos) σ H Q := ev_of (pe_dget hu pe_self pe_self hs) h
theorem o_inD (hu : X.A.units + 1 < cLine) (g : DGet H a y r) (q : Q (.bl r.isSome) H) : OP X (compareOp .In) y (.ref a) H Q := by
 refine op_by (r := fun x z H Q => ∃ a o, z = .ref a /\ DGet H a x o /\ Q (.bl o.isSome) H) ?_ ⟨a, r, rfl, g, q⟩
 intro pins s σ H x z v u Q I rx rz h
 obtain ⟨a, o, rfl, g, q⟩ := h
 cases (show u = Value.ref a from rz)
 exact d_in hu I g rx fun s' I' => ⟨.bl o.isSome, H, I', rfl, q⟩
theorem o_ninD (hu : X.A.units + 1 < cLine) (g : DGet H a y r) (q : Q (.bl (!r.isSome)) H) : OP X (compareOp .NotIn) y (.ref a) H Q := by
 refine op_by (r := fun x z H Q => ∃ a o, z = .ref a /\ DGet H a x o /\ Q (.bl (!o.isSome)) H) ?_ ⟨a, r, rfl, g, q⟩
 intro pins s σ H x z v u Q I rx rz h
 obtain ⟨a, o, rfl, g, q⟩ := h
 cases (show u = Value.ref a from rz)
 exact d_notIn hu I g rx fun s' I' => ⟨.bl (!o.isSome), H, I', rfl, q⟩
theorem sx_dput (hu : X.A.units + 1 < cLine) (hs : swapsWith value (some (.Subscript o i pos')) pos.line X.env = pure false)
  (h : EV X value σ H fun v H1 => EV X o σ H1 fun x H2 => EV X i σ H2 fun y H3 => ∃ a H4, x = .ref a /\ DPut H3 a y v H4 /\ D.nx σ H4) : SX X (.Assign [.Subscript o i pos'] value pos) D σ H :=
 sx_of (ps_dput hu pe_self pe_self pe_self hs) h
theorem ev_dget1 (hu : X.A.units + 1 < cLine) (m : M1 X o "get" apos e cpos) (h : EV X o σ H fun x H1 => ∃ a, x = .ref a /\ IsD H1 a /\ EV X e σ H1 fun y H2 => ∃ o, DGet H2 a y o /\ Q (o.getD .non) H2) : EV X (.Call (.Attribute o "get" apos) [e] [] cpos) σ H Q :=
 ev_of (pe_dget1 hu pe_self pe_self m) h
theorem ev_dpop1 (m : M1 X o "pop" apos e cpos) (h : EV X o σ H fun x H1 => ∃ a, x = .ref a /\ IsD H1 a /\ EV X e σ H1 fun y H2 => ∃ kvs k v, H2 a = some (.dK kvs) /\ y = kV k /\ valV kvs k = some v /\ Q v (upd H2 a (.dK (dropK kvs k)))) : EV X (.Call (.Attribute o "pop" apos) [e] [] cpos) σ H Q :=
 ev_of (pe_dpop1 pe_self pe_self m) h
theorem c_dictOf {kvs : List (Key × V)} (e : H a = some (.dK kvs)) (q : ∀ p, H p = none -> Q (.ref p) (upd H p (.dK kvs))) : CL X (.type "dict") [.ref a] H Q := by
 refine cl_by (r := fun xs H Q => ∃ a kvs, xs = [V.ref a] /\ H a = some (.dK kvs) /\ ∀ p, H p = none -> Q (.ref p) (upd H p (.dK kvs))) ?_ ⟨a, kvs, rfl, e, q⟩
 intro pins s σ H xs us Q I r h
 obtain ⟨a, kvs, rfl, e, q⟩ := h
 obtain ⟨u, rfl, ru⟩ := vals1 r
 cases (show u = Value.ref a from ru)
 exact d_copyOf I (.inl e) fun p s' hp I' => ⟨.ref p, _, I', rfl, q p hp⟩
end
end L2
namespace My
open PySem
abbrev SGs : Str := Str.ofString "-0123456789abcdefghijklmnopqrstuvwxyz"
abbrev TSs : Str := Str.ofString "abcdefghijklmnopqrstuvwxyz0123456789-"
def SG : List Nat := SGs.cps.toList
def TS : List Nat := TSs.cps.toList
def tb : List Nat -> List Nat -> Bool
 | [], [] => false
 | [], _ :: _ => true
 | _ :: _, [] => false
 | x :: xs, y :: ys => if x = y then tb xs ys else decide (SG.idxOf x < SG.idxOf y)
end My
namespace L2
open PySem PySem.Spec PyProof.Rows
theorem atI_map {α : Type} {xs : List α} {f : α -> V} {i : Int} (d : α) (h0 : 0 ≤ i) (h1 : i < xs.length) : atI (xs.map f) i = some (f (xs.getD i.toNat d)) := by
 have e : i = ((i.toNat : Nat) : Int) := by omega
 have hl : i.toNat < xs.length := by omega
 have h2 : (xs.map f)[i.toNat]? = some (f (xs.getD i.toNat d)) := by
  rw [List.getElem?_map, List.getElem?_eq_getElem hl]
  simp [hl]
 have := atI_nat h2
 rw [<- e] at this
 exact this
theorem atI_mem {α : Type} {xs : List α} {i : Int} (h0 : 0 ≤ i) (h1 : i < xs.length) : ∃ v, atI xs i = some v /\ v ∈ xs := by
 have hl : i.toNat < xs.length := by omega
 have e : i = ((i.toNat : Nat) : Int) := by omega
 have := atI_nat (List.getElem?_eq_getElem hl)
 rw [<- e] at this
 exact ⟨_, this, List.getElem_mem hl⟩
theorem ones_sum : ∀ l : List Nat, ((l.map fun c => (⟨#[c]⟩ : Str)).map (·.length)).sum = l.length
 | [] => rfl
 | c :: r => by
   rw [List.map_cons, List.map_cons, List.sum_cons, ones_sum r, List.length_cons]
   show 1 + r.length = _
   omega
theorem join_signs : ∀ l : List Nat, Str.join (Str.ofString "") (l.map fun c => ⟨#[c]⟩) = ⟨l.toArray⟩
 | [] => rfl
 | [c] => rfl
 | c :: d :: r => by
   have ih := join_signs (d :: r)
   show (⟨#[c]⟩ : Str) ++ Str.ofString "" ++ Str.join (Str.ofString "") ((d :: r).map fun c => ⟨#[c]⟩) = _
   rw [ih]
   have e0 : (Str.ofString "") = ⟨#[]⟩ := by decide +kernel
   rw [e0]
   show (⟨(#[c] ++ #[]) ++ (d :: r).toArray⟩ : Str) = ⟨(c :: d :: r).toArray⟩
   simp
theorem str_ext {x y : Str} (h : x.cps.toList = y.cps.toList) : x = y := by
 obtain ⟨⟨a⟩⟩ := x
 obtain ⟨⟨b⟩⟩ := y
 simp only at h
 rw [h]
theorem cps_app (x y : Str) : (x ++ y).cps.toList = x.cps.toList ++ y.cps.toList := by
 show (x.cps ++ y.cps).toList = _
 simp
theorem len_list (z : Str) : z.length = z.cps.toList.length := by simp [Str.length]
theorem len_app (x y : Str) : (x ++ y).length = x.length + y.length := by rw [len_list, cps_app, List.length_append, len_list, len_list]
theorem cutS_le (z : Str) (lo hi : Option Int) : (cutS z lo hi).length ≤ z.length := by
 unfold cutS Str.length
 simp
 omega
theorem cutS_list (z : Str) (lo hi : Option Int) : (cutS z lo hi).cps.toList = (z.cps.toList.drop (HT.sIx z.length 0 lo)).take (HT.sIx z.length z.length hi - HT.sIx z.length 0 lo) := by
 unfold cutS
 simp
theorem cutS_to (z : Str) (k : Nat) : (cutS z none (some (k : Int))).cps.toList = z.cps.toList.take k := by
 rw [cutS_list, HT.sIx_nat, HT.sIx_none, List.drop_zero, Nat.sub_zero]
 have hl := len_list z
 by_cases h : k ≤ z.length
 ·rw [Nat.min_eq_left h]
 ·have h' : z.length ≤ k := by omega
  rw [Nat.min_eq_right h', List.take_of_length_le (by omega), List.take_of_length_le (by omega)]
end L2
namespace Vl
open PySem L2 PyProof.Rows My NumText
def scalar : V -> Bool
 | .non | .int _ | .str _ => true
 | _ => false
def isIntV : V -> Bool
 | .int _ => true
 | _ => false
def isNum : V -> Bool
 | .int i => decide (-1000000000000000000 ≤ i /\ i ≤ 1000000000000000000)
 | _ => false
def madeOf (z g : Str) : Bool := z.cps.toList.all fun c => decide (c ∈ g.cps.toList)
def isTxt : V -> Bool
 | .str z => decide (z.length ≤ 20) && madeOf z TSs
 | _ => false
def isVal (kind : Str) : V -> Bool
 | .non => true
 | v => if kind = "number" then isNum v else isTxt v
def before : V -> V -> Bool
 | _, .non => false
 | .non, _ => true
 | .int i, .int j => decide (i < j)
 | .str x, .str y => decide (x.cps.toList < y.cps.toList)
 | _, _ => false
def short : V -> Prop
 | .str z => z.length ≤ 4000
 | _ => True
def spWhole : Sp := fun vs H Q _ => ∃ v, vs = [v] /\ scalar v = true /\ Q (.bl (isIntV v)) H
def spMade : Sp := fun vs H Q _ => ∃ z g : Str, vs = [.str z, .str g] /\ z.length ≤ 4000 /\ ∀ H', Same H H' -> Q (.bl (madeOf z g)) H'
def spNum : Sp := fun vs H Q _ => ∃ v, vs = [v] /\ scalar v = true /\ Q (.bl (isNum v)) H
def spTxt : Sp := fun vs H Q _ => ∃ v, vs = [v] /\ scalar v = true /\ short v /\ ∀ H', Same H H' -> Q (.bl (isTxt v)) H'
def spVal : Sp := fun vs H Q _ => ∃ (k : Str) (v : V), vs = [.str k, v] /\ scalar v = true /\ short v /\ ∀ H', Same H H' -> Q (.bl (isVal k v)) H'
def spBefore : Sp := fun vs H Q _ => ∃ x y : V, vs = [x, y] /\ (x = .non \/ y = .non \/ (∃ i j, x = .int i /\ y = .int j) \/ ∃ i j, x = .str i /\ y = .str j) /\ Q (.bl (before x y)) H
def isDig (c : Nat) : Bool := decide (48 ≤ c /\ c ≤ 57)
abbrev FGs : Str := Str.ofString "0123456789"
def areFig (l : List Nat) : Bool := decide (l = [48]) || (decide (l ≠ []) && (decide (l[0]? ≠ some 48) && l.all isDig))
def isNW (l : List Nat) : Bool := if l[0]? = some 45 then decide (l.drop 1 ≠ [48]) && areFig (l.drop 1) else areFig l
def wordInt (l : List Nat) : Int := if l[0]? = some 45 then -((digitsVal (l.drop 1) : Nat) : Int) else ((digitsVal l : Nat) : Int)
def readNum (l : List Nat) : Option Int := if isNW l = true /\ l.length ≤ 20 /\ -1000000000000000000 ≤ wordInt l /\ wordInt l ≤ 1000000000000000000 then some (wordInt l) else none
def readTxt (z : Str) : Option Str := if z.cps.toList[0]? = some 39 /\ isTxt (.str (cutS z (some 1) none)) = true then some (cutS z (some 1) none) else none
def numV : Option Int -> Option V
 | some i => some (.int i)
 | none => none
def txtV : Option Str -> Option V
 | some i => some (.str i)
 | none => none
def readV (kind word : Str) : Option V := if word = "?" then some .non else if kind = "number" then numV (readNum word.cps.toList) else txtV (readTxt word)
def wordOf : V -> Str
 | .non => "?"
 | .str z => Str.ofString "'" ++ z
 | .int i => Str.ofString (toString i)
 | _ => ""
def spWord : Sp := fun vs H Q _ => ∃ v, vs = [v] /\ scalar v = true /\ short v /\ (∀ i, v = .int i -> i.natAbs.log2 < 1920) /\ Q (.str (wordOf v)) H
def spFig : Sp := fun vs H Q _ => ∃ z, vs = [.str z] /\ z.length ≤ 4000 /\ ∀ H', Same H H' -> Q (.bl (areFig z.cps.toList)) H'
def spNW : Sp := fun vs H Q _ => ∃ z, vs = [.str z] /\ z.length ≤ 4000 /\ ∀ H', Same H H' -> Q (.bl (isNW z.cps.toList)) H'
def orRefused (c : Value) (r : Option V) (H : Hp) (Q : VK) (E : XK) : Prop := ∀ H', Same H H' -> match r with
 | some v => Q v H'
 | none => E c (none, true) H'
def spReadN (c : Value) : Sp := fun vs H Q E => ∃ z, vs = [.str z] /\ z.length ≤ 4000 /\ orRefused c (numV (readNum z.cps.toList)) H Q E
def spReadT (c : Value) : Sp := fun vs H Q E => ∃ z, vs = [.str z] /\ z.length ≤ 4000 /\ orRefused c (txtV (readTxt z)) H Q E
def spReadV (c : Value) : Sp := fun vs H Q E => ∃ k z, vs = [.str k, .str z] /\ z.length ≤ 4000 /\ orRefused c (readV k z) H Q E
def okS (n : Nat) (z : Str) : Prop := z.length ≤ n /\ ∀ c ∈ z.cps.toList, c < 1114112
theorem okS.lit {z : Str} {n : Nat} (h : (decide (z.length ≤ n) && z.cps.toList.all fun c => decide (c < 1114112)) = true) : okS n z := by
 rw [Bool.and_eq_true, decide_eq_true_eq, List.all_eq_true] at h
 exact ⟨h.1, fun c hc => of_decide_eq_true (h.2 c hc)⟩
theorem okS.lay {n : Nat} {z : Str} (h : okS n z) : (PyData.str z).canLay0 = true := by
 show PyData.strOk z = true
 unfold PyData.strOk
 rw [Array.all_eq_true_iff_forall_mem]
 intro c hc
 exact decide_eq_true (h.2 c (by simpa using hc))
def dV : V -> PyData
 | .bl b => .bool b
 | .int i => .int i
 | .str x => .str x
 | _ => .none
def sca : V -> Bool
 | .non | .int _ | .str _ | .bl _ => true
 | _ => false
theorem log_ok {i : Int} (h : i.natAbs < 10 ^ 60) : i.natAbs.log2 < 1920 := by
 by_cases h0 : i.natAbs = 0
 ·rw [h0]; decide
 ·rw [Nat.log2_lt h0]
  refine Nat.lt_of_lt_of_le h ?_
  decide +kernel
theorem num_list (m : Nat) : (Str.ofString (toString ((m : Nat) : Int))).cps.toList = (Nat.toDigits 10 m).map Char.toNat := PySem.W.KIN.signs_num m
theorem num_len {m k : Nat} (hk : 1 ≤ k) (h : m < 10 ^ k) : (Str.ofString (toString ((m : Nat) : Int))).length ≤ k := by
 rw [L2.len_list, num_list, List.length_map]
 exact PyProof.Rows.digits10_le hk h
theorem num_neg (m : Nat) (h : 0 < m) : Str.ofString (toString (-((m : Nat) : Int))) = Str.ofString "-" ++ Str.ofString (toString ((m : Nat) : Int)) := by
 obtain ⟨k, rfl⟩ : ∃ k, m = k + 1 := ⟨m - 1, by omega⟩
 have e : (-((k + 1 : Nat) : Int)) = Int.negSucc k := rfl
 rw [e]
 apply str_ext
 rw [cps_app]
 rw [PyProof.Rows.signs_ofString, PyProof.Rows.signs_ofString, PyProof.Rows.signs_ofString]
 show (("-" ++ Nat.repr (k + 1)).toList.map Char.toNat) = "-".toList.map Char.toNat ++ (Nat.repr (k + 1)).toList.map Char.toNat
 rw [String.toList_append, List.map_append]
end Vl
namespace Lw
open PySem L2 PyProof.Rows My NumText
def cellF (ns : List Int) (k : Int) : Int := if 0 < ns.length then ns.getD (k % (ns.length : Int)).toNat 0 else 0
def drawF (ns : List Int) (k m : Int) : Int := (cellF ns k % 1000003 + 31 * k * k + 1) * 48271 % 999983 * 7919 % 524287 % m
theorem drawF_nn (ns : List Int) (k : Int) {m : Int} (h : 0 < m) : 0 ≤ drawF ns k m := Int.emod_nonneg _ (by omega)
theorem drawF_lt (ns : List Int) (k : Int) {m : Int} (h : 0 < m) : drawF ns k m < m := Int.emod_lt_of_pos _ h
def spDraw (K : PySem.W.Frag) : Sp := fun vs H Q _ => ∃ (a : Addr) (ns : List Int) (k m : Int), vs = [.ref a, .int k, .int m] /\ SqL K H a (ns.map V.int) /\ ns.length ≤ 63 /\ 0 ≤ k /\ k ≤ 100000 /\ 0 < m /\ Q (.int (drawF ns k m)) H
def codesF (ns : List Int) (b : Int) (n : Nat) : List Nat := (List.range n).map fun k : Nat => SG.getD (drawF ns (b + (k : Int)) 37).toNat 0
def textF (ns : List Int) (b : Int) (n : Nat) : Str := ⟨(codesF ns b n).toArray⟩
def spText (K : PySem.W.Frag) : Sp := fun vs H Q _ => ∃ (a : Addr) (ns : List Int) (b n : Int), vs = [.ref a, .int b, .int n] /\ SqL K H a (ns.map V.int) /\ ns.length ≤ 63 /\ 0 ≤ b /\ b ≤ 50000 /\ 0 ≤ n /\ n ≤ 1000 /\ ∀ H', Same H H' -> Q (.str (textF ns b n.toNat)) H'
end Lw
namespace Vl
open PySem L2 PyProof.Rows My NumText
inductive All2 {α β : Type} (R : α -> β -> Prop) : List α -> List β -> Prop
 | nil : All2 R [] []
 | cons {a : α} {b : β} {l : List α} {m : List β} : R a b -> All2 R l m -> All2 R (a :: l) (b :: m)
theorem All2.len {α β : Type} {R : α -> β -> Prop} : ∀ {l : List α} {m : List β}, All2 R l m -> l.length = m.length
 | _, _, .nil => rfl
 | _, _, .cons _ t => by rw [List.length_cons, List.length_cons, t.len]
theorem All2.imp {α β : Type} {R S : α -> β -> Prop} (h : ∀ a b, R a b -> S a b) : ∀ {l : List α} {m : List β}, All2 R l m -> All2 S l m
 | _, _, .nil => .nil
 | _, _, .cons r t => .cons (h _ _ r) (t.imp h)
theorem All2.get {α β : Type} {R : α -> β -> Prop} : ∀ {l : List α} {m : List β}, All2 R l m -> ∀ {i : Nat} {a : α}, l[i]? = some a -> ∃ b, m[i]? = some b /\ R a b
 | _, _, .nil, i, a, e => by simp at e
 | _, _, .cons r t, 0, a, e => by simp at e; subst e; exact ⟨_, rfl, r⟩
 | _, _, .cons r t, i + 1, a, e => by simp at e; exact t.get e
theorem All2.get' {α β : Type} {R : α -> β -> Prop} : ∀ {l : List α} {m : List β}, All2 R l m -> ∀ {i : Nat} {b : β}, m[i]? = some b -> ∃ a, l[i]? = some a /\ R a b
 | _, _, .nil, i, a, e => by simp at e
 | _, _, .cons r t, 0, a, e => by simp at e; subst e; exact ⟨_, rfl, r⟩
 | _, _, .cons r t, i + 1, a, e => by simp at e; exact t.get' e
theorem All2.app {α β : Type} {R : α -> β -> Prop} : ∀ {l l' : List α} {m m' : List β}, All2 R l m -> All2 R l' m' -> All2 R (l ++ l') (m ++ m')
 | _, _, _, _, .nil, h => h
 | _, _, _, _, .cons r t, h => .cons r (t.app h)
theorem All2.drop {α β : Type} {R : α -> β -> Prop} : ∀ {l : List α} {m : List β} (n : Nat), All2 R l m -> All2 R (l.drop n) (m.drop n)
 | _, _, 0, h => h
 | _, _, n + 1, .nil => .nil
 | _, _, n + 1, .cons r t => t.drop n
abbrev Col := Str × Str
def ColAt (H : Hp) (v : V) (c : Col) : Prop := ∃ t, v = .ref t /\ H t = some (.tup [.str c.1, .str c.2])
theorem ColAt.same {H H' : Hp} {v : V} {c : Col} (h : ColAt H v c) (s : Same H H') : ColAt H' v c := by
 obtain ⟨t, e, q⟩ := h
 exact ⟨t, e, s _ _ q⟩
def Cols (H : Hp) (a : Addr) (cs : List Col) : Prop := ∃ vs : List V, H a = some (.lst vs) /\ All2 (ColAt H) vs cs
theorem Cols.same {H H' : Hp} {a : Addr} {cs : List Col} (h : Cols H a cs) (s : Same H H') : Cols H' a cs := by
 obtain ⟨vs, e, q⟩ := h
 exact ⟨vs, s _ _ e, q.imp fun a b r => r.same s⟩
abbrev LTs : Str := Str.ofString "abcdefghijklmnopqrstuvwxyz"
def isName (z : Str) : Bool := decide (1 ≤ z.length /\ z.length ≤ 8) && madeOf z LTs
def isKind (k : Str) : Bool := decide (k = "number" \/ k = "text")
def okCols (cs : List Col) : Bool := decide (1 ≤ cs.length /\ cs.length ≤ 6) && (cs.all fun c => isName c.1 && isKind c.2) && decide ((cs.map Prod.fst).Nodup)
def spName : Sp := fun vs H Q _ => ∃ z, vs = [.str z] /\ z.length ≤ 4000 /\ ∀ H', Same H H' -> Q (.bl (isName z)) H'
def shortC (cs : List Col) : Prop := ∀ c ∈ cs, c.1.length ≤ 4000 /\ c.2.length ≤ 4000
def spAsk (c : Value) : Sp := fun vs H Q E => ∃ a cs, vs = [.ref a] /\ Cols H a cs /\ cs.length ≤ 4000 /\ shortC cs /\ ∀ H', Same H H' -> if okCols cs = true then Q .non H' else E c (none, true) H'
def placeF : List Col -> Str -> Nat -> V
 | [], _, _ => .non
 | c :: r, z, i => if c.1 = z then .int i else placeF r z (i + 1)
def spPlace : Sp := fun vs H Q _ => ∃ a cs z, vs = [.ref a, .str z] /\ Cols H a cs /\ ∀ H', Same H H' -> Q (placeF cs z 0) H'
def isRowN : V -> Bool
 | .int i => decide (0 ≤ i /\ i ≤ 1000000000)
 | _ => false
def spRowN : Sp := fun vs H Q _ => ∃ v, vs = [v] /\ scalar v = true /\ Q (.bl (isRowN v)) H
def allVal : List Col -> List V -> Bool
 | c :: cs, v :: vs => isVal c.2 v && allVal cs vs
 | _, _ => true
def isRow (cs : List Col) (v : V) (xs : List V) : Bool := isRowN v && decide (xs.length = cs.length) && allVal cs xs
def spRow : Sp := fun vs H Q _ => ∃ a cs v b xs, vs = [.ref a, v, .ref b] /\ Cols H a cs /\ cs.length ≤ 4000 /\ scalar v = true /\ H b = some (.lst xs) /\ (∀ x ∈ xs, scalar x = true /\ short x) /\ ∀ H', Same H H' -> Q (.bl (isRow cs v xs)) H'
def dCol (c : Col) : PyData := .tuple [.str c.1, .str c.2]
def layC (cs : List Col) : Prop := ∀ c ∈ cs, okS 4000 c.1 /\ okS 4000 c.2
theorem cutV_from (xs : List V) (k : Nat) : cutV xs (some (k : Int)) none = xs.drop k := by
 unfold cutV
 rw [HT.sIx_none, HT.sIx_nat]
 by_cases h : k ≤ xs.length
 ·rw [show min k xs.length = k from Nat.min_eq_left h]
  exact List.take_of_length_le (by rw [List.length_drop]; exact Nat.le_refl _)
 ·rw [show min k xs.length = xs.length from Nat.min_eq_right (by omega), List.drop_eq_nil_of_le (Nat.le_refl _), List.drop_eq_nil_of_le (by omega)]
  simp
end Vl
namespace Vl
open PySem L2 PyProof.Rows My NumText
def checkR : List Nat -> Int
 | [] => 0
 | c :: r => ((c : Int) + 137 * checkR r) % 9973
def fourF (n : Int) : Str := Txt.zfill (Str.ofString (toString n)) 4
def figV (l : List Nat) : Nat := l.foldl (fun a c => a * 10 + (c - 48)) 0
def fourOk (n : Nat) : Bool := decide ((fourF n).length = 4) && ((fourF n).cps.toList.all isDig && decide (figV (fourF n).cps.toList = n))
def spCheck : Sp := fun vs H Q _ => ∃ z, vs = [.str z] /\ z.length ≤ 100000 /\ (∀ c ∈ z.cps.toList, c < 1114112) /\ Q (.int (checkR z.cps.toList)) H
def spCheckW : Sp := fun vs H Q _ => ∃ z, vs = [.str z] /\ z.length ≤ 100000 /\ (∀ c ∈ z.cps.toList, c < 1114112) /\ Q (.str (fourF (checkR z.cps.toList))) H
def figN (l : List Nat) (m : Int) : Option Int := if areFig l = true /\ ((digitsVal l : Nat) : Int) ≤ m then some ((digitsVal l : Nat) : Int) else none
def intO : Option Int -> V
 | none => .non
 | some i => .int i
def spReadF : Sp := fun vs H Q _ => ∃ (z : Str) (m : Int) (k : Nat), vs = [.str z, .int m] /\ z.length ≤ 4000 /\ 0 ≤ m /\ m.natAbs < 10 ^ 60 /\ (Str.ofString (toString m)).length = k /\ m < ((10 ^ k : Nat) : Int) /\ 1 ≤ k /\ k ≤ 600 /\ ∀ H', Same H H' -> Q (intO (figN z.cps.toList m)) H'
end Vl
namespace Vl
open PySem L2 PyProof.Rows My NumText
theorem int_len {n : Int} (h : n.natAbs < 10 ^ 60) : (Str.ofString (toString n)).length ≤ 70 := by
 by_cases h0 : 0 ≤ n
 ·obtain ⟨m, rfl⟩ := Int.eq_ofNat_of_zero_le h0
  have := num_len (m := m) (k := 60) (by decide) (by simpa using h)
  omega
 ·have e : n = -((n.natAbs : Nat) : Int) := by omega
  rw [e, num_neg n.natAbs (by omega), len_app]
  have := num_len (m := n.natAbs) (k := 60) (by decide) h
  have l1 : (Str.ofString "-").length = 1 := by decide +kernel
  omega
end Vl
namespace Vl
open PySem L2 PyProof.Rows My NumText
abbrev Ord := Str × Bool
def OrdAt (H : Hp) (v : V) (o : Ord) : Prop := ∃ t, v = .ref t /\ H t = some (.tup [.str o.1, .bl o.2])
def Ords (H : Hp) (a : Addr) (os : List Ord) : Prop := ∃ vs : List V, H a = some (.lst vs) /\ All2 (OrdAt H) vs os
def mapO {α β : Type} (f : α -> Option β) : List α -> Option (List β)
 | [] => some []
 | x :: r => match f x, mapO f r with
   | some y, some ys => some (y :: ys)
   | _, _ => none
def ordOf (cs : List Col) (z : Str) : Option Ord :=
 if (z.cps.toList[0]? = some 43 \/ z.cps.toList[0]? = some 45) /\ placeF cs (cutS z (some 1) none) 0 ≠ .non then some (cutS z (some 1) none, decide (z.cps.toList[0]? = some 43)) else none
def readOrd (cs : List Col) (z : Str) : Option (List Ord) :=
 if z = "" then some [] else if 4 < (cutT 32 z).length then none else match mapO (ordOf cs) (cutT 32 z) with
  | none => none
  | some os => if (os.map Prod.fst).Nodup then some os else none
def spReadOW (c : Value) : Sp := fun vs H Q E => ∃ a cs z, vs = [.ref a, .str z] /\ Cols H a cs /\ z.length ≤ 4000 /\
 (∀ H', Same H H' -> ordOf cs z = none -> E c (none, true) H') /\ ∀ p o H', Same H H' -> ordOf cs z = some o -> H' p = some (.tup [.str o.1, .bl o.2]) -> Q (.ref p) H'
def spReadO (c : Value) : Sp := fun vs H Q E => ∃ a cs z, vs = [.ref a, .str z] /\ Cols H a cs /\ z.length ≤ 4000 /\
 (∀ H', Same H H' -> readOrd cs z = none -> E c (none, true) H') /\ ∀ p os H', Same H H' -> readOrd cs z = some os -> H p = none -> Ords H' p os -> Q (.ref p) H'
def ordW (o : Ord) : Str := (if o.2 = true then Str.ofString "+" else Str.ofString "-") ++ o.1
def ordT (os : List Ord) : Str := Str.join " " (os.map ordW)
def spOrdT : Sp := fun vs H Q _ => ∃ a os, vs = [.ref a] /\ Ords H a os /\ os.length ≤ 4000 /\ (∀ o ∈ os, o.1.length ≤ 1000) /\ ∀ H', Same H H' -> Q (.str (ordT os)) H'
end Vl
namespace Vl
open PySem L2 PyProof.Rows My NumText
def placeN : List Col -> Str -> Nat
 | [], _ => 0
 | c :: r, z => if c.1 = z then 0 else placeN r z + 1
def atN (cs : List Col) (xs : List V) (z : Str) : V := (xs[placeN cs z]?).getD .non
def keyL (cs : List Col) (os : List Ord) (xs : List V) : List V := os.map fun o => atN cs xs o.1
def inC (cs : List Col) (os : List Ord) : Prop := ∀ o ∈ os, ∃ c ∈ cs, c.1 = o.1
def spKey : Sp := fun vs H Q _ => ∃ a b n c cs os xs, vs = [.ref a, .ref b, .int n, .ref c] /\ Cols H a cs /\ Ords H b os /\ H c = some (.lst xs) /\ xs.length = cs.length /\ cs.length ≤ 4000 /\ os.length ≤ 4000 /\ inC cs os /\
 ∀ p l H', Same H H' -> H p = none -> H l = none -> H' l = some (.lst (keyL cs os xs)) -> H' p = some (.tup [.ref l, .int n]) -> Q (.ref p) H'
def like (x y : V) : Prop := x = .non \/ y = .non \/ (∃ i j, x = .int i /\ y = .int j) \/ ∃ i j, x = .str i /\ y = .str j
def aheadF : List Ord -> List V -> List V -> Int -> Int -> Bool
 | o :: os, x :: xs, y :: ys, n, k => if x = y then aheadF os xs ys n k else decide (before x y = o.2)
 | _, _, _, n, k => decide (n < k)
def KeyAt (H : Hp) (p : Addr) (xs : List V) (n : Int) : Prop := ∃ l, H p = some (.tup [.ref l, .int n]) /\ H l = some (.lst xs)
def spAhead : Sp := fun vs H Q _ => ∃ b p q os xs ys n k, vs = [.ref b, .ref p, .ref q] /\ Ords H b os /\ KeyAt H p xs n /\ KeyAt H q ys k /\ xs.length = os.length /\ ys.length = os.length /\ (∀ (i : Nat) x y, xs[i]? = some x -> ys[i]? = some y -> scalar x = true /\ scalar y = true /\ like x y) /\
 ∀ H', Same H H' -> Q (.bl (aheadF os xs ys n k)) H'
end Vl
namespace Vl
open PySem L2 PyProof.Rows My NumText
end Vl
namespace L2
open PySem PySem.Spec PyProof.Rows PySem.W
section
variable {X : Cx} {σ : St} {H : Hp} {Q : VK} {a : Addr}
def insAt {α : Type} (xs : List α) (k : Nat) (y : α) : List α := xs.take k ++ y :: xs.drop k
def rInsert : V -> List V -> Hp -> VK -> Prop := fun x vs H Q => ∃ l xs k y, x = .ref l /\ vs = [.int (k : Nat), y] /\ H l = some (.lst xs) /\ k ≤ xs.length /\ xs.length < sizeLine /\ Q .non (upd H l (.lst (insAt xs k y)))
theorem mt_insert : MtM X "list.insert" rInsert := by
 intro pins s σ H x vs v us Q I rx rv h
 obtain ⟨l, xs, k, y, rfl, rfl, hH, hk, hz, q⟩ := h
 cases rx
 obtain ⟨u0, u, rfl, ru0, ru⟩ := rv.two
 obtain ⟨t, rfl⟩ := ru0
 have hsz : sizeLine = 16777216 := sizeLine_eq
 obtain ⟨z, its, n, r, hl, e⟩ := I.lstM hH
 obtain ⟨i, hi⟩ : ∃ i : Int, i = (k : Int) := ⟨_, rfl⟩
 rw [<- hi]
 have hf : Builtin.List.listFitsIndex i = true := fitsIndex_both (by omega) (by omega)
 have hm := PySem.AutoSeq1.list_insert_list_int_val_1 l its.toArray n i t u (by rw [hf]; decide) (by rw [List.size_toArray]; omega)
 refine call_meets F.slot_list_insert ⟨_, e, rfl⟩ F.entry_list_insert (F.args_list_insert_3 (.ref l) (.int i t) u) hm ⟨e, ?_⟩
 refine ⟨.non, _, I.lset (its' := insAt its k u) hH e ?_ ((r.take k).append (.cons ru (r.drop k))) ?_, rfl, q⟩
 ·show (its.toArray.extract 0 (if i < 0 then (i + (its.toArray.size : Int)).toNat else min i.toNat its.toArray.size)).push u ++ its.toArray.extract (if i < 0 then (i + (its.toArray.size : Int)).toNat else min i.toNat its.toArray.size) = (insAt its k u).toArray
  rw [if_neg (by omega), hi, Int.toNat_natCast, List.size_toArray, Nat.min_eq_left (by omega)]
  unfold insAt
  apply Array.toList_inj.mp
  simp
  rw [List.take_of_length_le (by rw [List.length_drop]; omega)]
 ·rw [List.length_append, List.length_cons, List.length_take, List.length_drop]
  omega
theorem sortedHeap_other {h : Heap} {d b : Addr} {vs : List Value} {out : Array Value} (hne : b ≠ d) {o : Obj} (e : h.get? b = some o) : (sortedHeap h d vs out).get? b = some o := by
 unfold sortedHeap
 rw [Heap.get?_update_other _ _ (Ne.symm hne)]
 exact Heap.get?_push_of_some _ (Heap.get?_push_of_some _ ((Heap.get?_update_other _ _ (Ne.symm hne)).trans e))
theorem sortedHeap_self {h : Heap} {d : Addr} {us vs : List Value} {out : Array Value} {n : Nat} (e : h.get? d = some (seqObj "list" us.toArray n)) : ∃ c, (sortedHeap h d vs out).get? d = some (seqObj "list" out c) := by
 unfold sortedHeap
 have h1 := get?_update_seq e (fun _ => (#[] : Array Value))
 have h2 := Heap.get?_push_of_some (seqObj "tuple" vs.toArray 0) h1
 have h3 := Heap.get?_push_of_some (seqObj "list" #[] 0) h2
 exact ⟨_, get?_update_seq h3 (fun _ => out)⟩
theorem valsInts {vs : List Value} {ns : List Int} (h : IntsAre vs ns) : Vals (ns.map V.int) vs := by
 induction h with
 | nil => exact .nil
 | cons n t _ ih => exact .cons ⟨t, rfl⟩ ih
theorem ints_of {ks : List Int} : ∀ {vs : List Value}, vs.length = ks.length -> (∀ (j : Nat) v, vs[j]? = some v -> ∃ i t, ks[j]? = some i /\ v = Value.int i t) -> IntsAre vs ks := by
 induction ks with
 | nil => intro vs h _; have : vs = [] := by simpa using h
          subst this; exact .nil
 | cons k ks ih =>
   intro vs h g
   cases vs with
   | nil => simp at h
   | cons v vs =>
     obtain ⟨i, t, e, rfl⟩ := g 0 v rfl
     have : k = i := by simpa using e
     subst this
     exact .cons k t (ih (by simpa using h) fun j v e => by simpa using g (j + 1) v (by simpa using e))
theorem collectD {prog : Program} {w : World} {A : Around} {E : Value -> Shared -> Prop} {s : Shared} {ty : String} {q d : Addr} {n : Nat} {Pi : Nat -> Value -> Prop} {Ok : Heap -> Prop} {R : List Value -> Shared -> Prop} (kd : KdlSrc prog w ty q d n Pi Ok) (h0 : A.handled = none) (ho : Ok s.heap) (hz : n ≤ sizeLine)
  (g : ∀ (h2 : Heap) (k : Nat) (xs : Array Value), s.heap.objs.size < h2.objs.size -> (∀ b o, s.heap.get? b = some o -> h2.get? b = some o) -> ItemsOf Pi xs n -> R xs.toList { s with heap := h2, toks := k }) : wpAny (model prog w) A (collect (.ref q)) R E s := by
 obtain ⟨t1, t2⟩ := kd.there _ ho
 let N : Addr := s.heap.objs.size
 let Rz : Result -> Shared -> Prop := fun r s2 => ∃ (h2 : Heap) (k : Nat) (xs : Array Value) (c : Nat), r = .ok (.ret (.ref N)) /\ s2 = { s with heap := h2, toks := k } /\ (∀ b o, s.heap.get? b = some o -> h2.get? b = some o) /\ h2.get? N = some { cls := .type "list", dict := none, data := .seq xs c, slots := #[] } /\ ItemsOf Pi xs n
 have fin : ∀ s2 : Shared, Rz (.ok (.ret (.ref N))) s2 -> wpAny (model prog w) A (do
   let o <- load N
   match o.data with
   | .seq xs _ => pure xs.toList
   | _ => unsupported "internal:collect") R E s2 := by
  rintro s2 ⟨h2, k, xs, c, -, rfl, hk, hN, hI⟩
  exact wpAny_bind (wpAny_load hN (wpAny_pure (g h2 k xs (Heap.lt_size hN) hk hI)))
 have hn : (s.heap.push { cls := .type "list", data := .seq ([] : List Value).toArray }).get? N = some { cls := .type "list", data := .seq #[] } := Heap.get?_push_size _ rfl
 have ho2 : Ok (s.heap.push { cls := .type "list", data := .seq ([] : List Value).toArray }) := kd.keep _ _ ho fun _ _ _ e => Heap.get?_push_of_some _ e
 have run := kdl_extend (A := A) (s := { s with heap := s.heap.push { cls := .type "list", data := .seq ([] : List Value).toArray } }) (R := Rz) kd h0 ho2 N (Nat.ne_of_gt t1) (Nat.ne_of_gt t2) (.ref N) 0 hn
  (fun h2 k xs c hk hN hI => ⟨h2, k, xs, c, rfl, rfl, fun b o e => hk b o (Nat.ne_of_lt (Heap.lt_size e)) (Heap.get?_push_of_some _ e), hN, hI⟩) hz
 unfold collect
 refine wpAny_bind (wpAny_runValue (codeAny_builtin entry_proto_collect' ?_))
 rw [Around.under_plainId F.plain_proto_collect]
 refine wpAny_bind (m := newList []) (wpAny_newObj_type (wpAny_pure ⟨plainId_quiet F.plain_list_iadd _, codeAny_builtin entry_list_iadd' ?_⟩))
 rw [Around.under_plainId F.plain_list_iadd]
 refine wpAny_mono (t := Builtin.List.listExtendWith (.ref N) (.ref q) (.ref N)) run (fun r s2 hr => ?_) fun e s2 hr => ?_
 ·cases r with
  | done f =>
    obtain ⟨h2, k, xs, c, e, rest⟩ := id hr
    cases e
    exact fin s2 hr
  | again c =>
    refine ⟨hr.1, codeAny_mono hr.2 fun r2 s3 h3 => ?_⟩
    obtain ⟨h2, k, xs, c2, e, rest⟩ := id h3
    subst e
    exact fin s3 h3
 ·obtain ⟨_, _, _, _, e2, _⟩ := hr
  cases e2
theorem c_sortedD {kvs : List (Key × V)} {ks : List Int} (hc : X.calm = true) (e : H a = some (.dK kvs)) (hk : kvs.map (·.1) = ks.map Sum.inl) (h64 : ks.length < 64)
  (g : ∀ (p : Addr) (ks' : List Int), H p = none -> ks'.Perm ks -> ks'.Pairwise (· ≤ ·) -> Q (.ref p) (upd H p (.lst (ks'.map V.int)))) : CL X (.builtin "sorted") [.ref a] H Q := by
 refine cl_by (r := fun xs H Q => ∃ (a : Addr) (kvs : List (Key × V)) (ks : List Int), xs = [.ref a] /\ H a = some (.dK kvs) /\ kvs.map (·.1) = ks.map Sum.inl /\ ks.length < 64 /\ ∀ (p : Addr) (ks' : List Int), H p = none -> ks'.Perm ks -> ks'.Pairwise (· ≤ ·) -> Q (.ref p) (upd H p (.lst (ks'.map V.int)))) ?_ ⟨a, kvs, ks, rfl, e, hk, h64, g⟩
 intro pins s σ H xs us Q I r h
 obtain ⟨a, kvs, ks, rfl, e, hk, h64, g⟩ := h
 obtain ⟨u, rfl, ru⟩ := vals1 r
 cases ru
 have hsz : sizeLine = 16777216 := sizeLine_eq
 obtain ⟨z, lo, vs, hKV, hd⟩ := dk_of I.hok e
 obtain ⟨ep, hm⟩ := hd.dictAt
 have hkl : kvs.length = ks.length := by have := congrArg List.length hk; simpa using this
 have hvl := hKV.length
 have hvk : vs.map (·.1) = ks.map Sum.inl := by rw [<- hKV.keys]; exact hk
 refine Calls.call_function_entry kind_sorted plain_sorted entry_sorted (args_sorted1 _) ?_
 unfold Builtin.«sorted»
 refine wpAny_bind (m := checkCount "sorted" 1 1 _) (wpAny_pure ?_)
 refine wpAny_bind (collectD (A := X.A.in1) (kdl_dict lo) (I.ok.hd hc) hm (by omega) fun h' tk acc hgr hkeep hacc => ?_)
 have hal : acc.toList.length = vs.length := by rw [Array.length_toList]; exact hacc.1
 have hI : IntsAre acc.toList ks := by
  refine ints_of (by omega) fun j v ev => ?_
  obtain ⟨k, x, e1, e2⟩ := hacc.2 j v (by rw [<- Array.getElem?_toList]; exact ev)
  have e3 : (vs.map (·.1))[j]? = some k := by rw [List.getElem?_map, e1]; rfl
  rw [hvk, List.getElem?_map] at e3
  cases e4 : ks[j]? with
  | none => rw [e4] at e3; cases e3
  | some i =>
    rw [e4] at e3
    have e5 : Sum.inl i = k := by simpa using e3
    rcases keyIs_shape (k := k) (v := v) e2 with ⟨i', t, e6, rfl⟩ | ⟨y, t, e6, _⟩
    ·rw [e6] at e5
     cases e5
     exact ⟨i, t, rfl, rfl⟩
    ·rw [e6] at e5
     cases e5
 refine wpAny_bind (wpAny_newList ?_ (by omega))
 have hoL : (h'.push (seqObj "list" acc.toList.toArray 0)).get? h'.objs.size = some (seqObj "list" acc.toList.toArray 0) := Heap.get?_push_size _ rfl
 have hle : s.heap.objs.size ≤ h'.objs.size := Nat.le_of_lt hgr
 refine wpAny_bind (wpAny_holding (wpAny_call_entry slot_list_sort ⟨_, hoL, rfl⟩ entry_list_sort (list_sort_tree hoL hI (by omega) fun out ns' a1 a2 a3 => ⟨_, rfl, ?_⟩) (args_list_sort _)))
 refine wpAny_pure ⟨_, rfl, ?_⟩
 obtain ⟨c, hc'⟩ := sortedHeap_self (vs := acc.toList) (out := out) hoL
 refine ⟨.ref h'.objs.size, _, I.laid (t' := tk) (o := .lst (ns'.map V.int)) (fun b o eb => sortedHeap_other (Nat.ne_of_lt (Nat.lt_of_lt_of_le (Heap.lt_size eb) hle)) (Heap.get?_push_of_some _ (hkeep _ _ eb))) hle ⟨by rw [List.length_map, a2.length_eq]; omega, out.toList, c, valsInts a1, by simpa using hc'⟩, rfl, g _ ns' (I.hok.fresh hle) a2 a3⟩
theorem i_dict {y v : V} (hu : X.A.units + 1 < cLine) (g : DGet H a y (some v)) (q : Q v H) : IX X (.ref a) y H Q := by
 refine ix_by (r := fun x y H Q => ∃ a v, x = .ref a /\ DGet H a y (some v) /\ Q v H) ?_ ⟨a, v, rfl, g, q⟩
 intro value slice pins s σ H x y w u Q I rx ry h hs
 obtain ⟨a, v, rfl, g, q⟩ := h
 obtain rfl : w = Value.ref a := rx
 have ty := dict_typeIs I g
 have run : wpAny (model X.prog X.w) X.A (subscripted slice false (Value.ref a) u) (fun r s2 => wpAny (model X.prog X.w) X.A (letTemporaryGo value (Value.ref a) r >>= fun _ => pure r) (EP X pins σ Q) X.xe s2) X.xe s := by
  rw [hs]
  exact wpAny_operating (d_getItem hu I g ry fun r s2 I2 rr => wpAny_bind (wpAny_letTemporaryGo (wpAny_pure ⟨v, H, I2, rr, q⟩)))
 unfold subscriptTail
 refine wpAny_bind ?_
 rw [getitemInPython_of_ne ty.not_modules]
 refine wpAny_bind (wpAny_specialOf ty PySem.F.slot_dict_getitem.lookup ?_)
 first
  | exact wpAny_pure (wpAny_bind run)
  | exact wpAny_bind (wpAny_pure (wpAny_bind run))
  | exact wpAny_bind run
end
end L2
namespace Vl
open PySem L2 PyProof.Rows My
section
variable {α β : Type}
def aGet (m : List (Int × α)) (i : Int) : Option α := (m.find? fun p => decide (p.1 = i)).map (·.2)
def aPut (m : List (Int × α)) (i : Int) (x : α) : List (Int × α) := if (m.any fun p => decide (p.1 = i)) = true then m.map (fun p => if p.1 = i then (p.1, x) else p) else m ++ [(i, x)]
def aDrop (m : List (Int × α)) (i : Int) : List (Int × α) := m.filter fun p => decide (p.1 ≠ i)
abbrev PR (R : V -> α -> Prop) (kv : Key × V) (p : Int × α) : Prop := kv.1 = Sum.inl p.1 /\ R kv.2 p.2
def DictAt (R : V -> α -> Prop) (H : Hp) (a : Addr) (m : List (Int × α)) : Prop := ∃ kvs, H a = some (.dK kvs) /\ All2 (PR R) kvs m
theorem inl_dec (i j : Int) : decide ((Sum.inl i : Key) = Sum.inl j) = decide (i = j) := by
 by_cases h : i = j
 ·subst h; simp
 ·have : ¬ (Sum.inl i : Key) = Sum.inl j := fun e => h (Sum.inl.inj e)
  rw [decide_eq_false this, decide_eq_false h]
theorem pr_keys {R : V -> α -> Prop} {kvs : List (Key × V)} {m : List (Int × α)} (h : All2 (PR R) kvs m) : kvs.map (·.1) = (m.map (·.1)).map Sum.inl := by
 induction h with
 | nil => rfl
 | cons h _ ih => rw [List.map_cons, List.map_cons, List.map_cons, ih, h.1]
theorem pr_get {R : V -> α -> Prop} {kvs : List (Key × V)} {m : List (Int × α)} (h : All2 (PR R) kvs m) (i : Int) : (valV kvs (Sum.inl i) = none /\ aGet m i = none) \/ ∃ v x, valV kvs (Sum.inl i) = some v /\ aGet m i = some x /\ R v x := by
 induction h with
 | nil => exact .inl ⟨rfl, rfl⟩
 | @cons kv p l m h _ ih =>
   obtain ⟨k, v⟩ := kv
   obtain ⟨j, x⟩ := p
   obtain ⟨hk, hr⟩ := h
   have hk' : k = Sum.inl j := hk
   subst hk'
   unfold valV aGet at ih ⊢
   rw [List.find?_cons, List.find?_cons]
   show ((match decide ((Sum.inl j : Key) = Sum.inl i) with | true => _ | false => _ : Option (Key × V)).map _ = _ /\ _) \/ _
   rw [inl_dec]
   by_cases e : j = i
   ·rw [decide_eq_true e]
    exact .inr ⟨v, x, rfl, rfl, hr⟩
   ·rw [decide_eq_false e]
    exact ih
theorem pr_any {R : V -> α -> Prop} {kvs : List (Key × V)} {m : List (Int × α)} (h : All2 (PR R) kvs m) (i : Int) : (kvs.any fun kv => decide (kv.1 = Sum.inl i)) = m.any fun p => decide (p.1 = i) := by
 induction h with
 | nil => rfl
 | @cons kv p l m h _ ih => rw [List.any_cons, List.any_cons, ih, h.1, inl_dec]
theorem pr_put {R : V -> α -> Prop} {kvs : List (Key × V)} {m : List (Int × α)} (h : All2 (PR R) kvs m) (i : Int) {v : V} {x : α} (r : R v x) : All2 (PR R) (putK kvs (Sum.inl i) v) (aPut m i x) := by
 unfold putK aPut
 rw [pr_any h i]
 by_cases e : (m.any fun p => decide (p.1 = i)) = true
 ·rw [if_pos e, if_pos e]
  clear e
  induction h with
  | nil => exact .nil
  | @cons kv p l m h _ ih =>
    refine .cons ?_ ih
    obtain ⟨hk, hr⟩ := h
    show PR R (if kv.1 = Sum.inl i then (kv.1, v) else kv) (if p.1 = i then (p.1, x) else p)
    by_cases e : p.1 = i
    ·rw [if_pos e, if_pos (by rw [hk, e])]
     exact ⟨hk, r⟩
    ·rw [if_neg e, if_neg (by rw [hk]; exact fun z => e (Sum.inl.inj z))]
     exact ⟨hk, hr⟩
 ·rw [if_neg e, if_neg e]
  exact All2.app h (.cons ⟨rfl, r⟩ .nil)
theorem pr_drop {R : V -> α -> Prop} {kvs : List (Key × V)} {m : List (Int × α)} (h : All2 (PR R) kvs m) (i : Int) : All2 (PR R) (dropK kvs (Sum.inl i)) (aDrop m i) := by
 unfold dropK aDrop
 induction h with
 | nil => exact .nil
 | @cons kv p l m h _ ih =>
   obtain ⟨hk, hr⟩ := h
   rw [List.filter_cons, List.filter_cons]
   by_cases e : p.1 = i
   ·rw [if_neg (by rw [hk, e]; simp), if_neg (by rw [e]; simp)]
    exact ih
   ·rw [if_pos (by rw [hk]; simp [e]), if_pos (by simp [e])]
    exact .cons ⟨hk, hr⟩ ih
theorem pr_imp {R S : V -> α -> Prop} {kvs : List (Key × V)} {m : List (Int × α)} (h : All2 (PR R) kvs m) (f : ∀ v x, R v x -> S v x) : All2 (PR S) kvs m := All2.imp (fun _ _ h => ⟨h.1, f _ _ h.2⟩) h
theorem aGet_put {m : List (Int × α)} {i j : Int} {x : α} : aGet (aPut m i x) j = if j = i then some x else aGet m j := by
 unfold aGet aPut
 induction m with
 | nil =>
   rw [List.any_nil, if_neg (by decide), List.nil_append, List.find?_cons]
   by_cases e : j = i
   ·subst e; simp
   ·have e' : ¬ i = j := fun z => e z.symm
    simp [e, e']
 | cons p r ih =>
   obtain ⟨k, y⟩ := p
   rw [List.any_cons]
   by_cases hk : k = i
   ·subst hk
    simp only [decide_true, Bool.true_or, if_true, List.map_cons, List.find?_cons]
    by_cases e : j = k
    ·subst e; simp
    ·have e' : ¬ k = j := fun z => e z.symm
     simp only [e, e', decide_false, if_false]
     clear ih
     congr 1
     induction r with
     | nil => rfl
     | cons q r ih2 =>
       obtain ⟨k2, y2⟩ := q
       rw [List.map_cons, List.find?_cons, List.find?_cons, ih2]
       by_cases h2 : k2 = k
       ·subst h2; simp [e']
       ·simp [h2]
   ·simp only [hk, decide_false, Bool.false_or]
    by_cases ha : (r.any fun p => decide (p.1 = i)) = true
    ·rw [if_pos ha] at ih ⊢
     rw [List.map_cons, if_neg hk, List.find?_cons, List.find?_cons]
     by_cases e : k = j
     ·subst e; simp [hk]
     ·simp only [e, decide_false]; exact ih
    ·rw [if_neg ha] at ih ⊢
     rw [List.cons_append, List.find?_cons, List.find?_cons]
     by_cases e : k = j
     ·subst e; simp [hk]
     ·simp only [e, decide_false]; exact ih
theorem aGet_drop {m : List (Int × α)} {i j : Int} : aGet (aDrop m i) j = if j = i then none else aGet m j := by
 unfold aGet aDrop
 induction m with
 | nil => simp
 | cons p r ih =>
   obtain ⟨k, y⟩ := p
   rw [List.filter_cons]
   by_cases hk : k = i
   ·subst hk
    simp only [ne_eq, not_true, decide_false, Bool.false_eq_true, if_false, List.find?_cons]
    rw [ih]
    by_cases e : j = k
    ·subst e; simp
    ·have e' : ¬ k = j := fun z => e z.symm
     simp [e, e']
   ·simp only [ne_eq, hk, not_false_eq_true, decide_true, if_true, List.find?_cons]
    by_cases e : k = j
    ·subst e; simp [hk]
    ·simp only [e, decide_false]; exact ih
theorem mem_put {m : List (Int × α)} {i : Int} {x : α} {k : Int} : k ∈ (aPut m i x).map (·.1) ↔ k = i \/ k ∈ m.map (·.1) := by
 unfold aPut
 by_cases ha : (m.any fun p => decide (p.1 = i)) = true
 ·rw [if_pos ha]
  have : (m.map fun p => if p.1 = i then (p.1, x) else p).map (·.1) = m.map (·.1) := by
   rw [List.map_map]
   refine List.map_congr_left fun p _ => ?_
   show (if p.1 = i then (p.1, x) else p).1 = p.1
   split <;> rfl
  rw [this]
  refine ⟨.inr, fun h => h.elim (fun e => ?_) id⟩
  subst e
  obtain ⟨p, hp, e⟩ := List.any_eq_true.mp ha
  exact List.mem_map.mpr ⟨p, hp, of_decide_eq_true e⟩
 ·rw [if_neg ha, List.map_append, List.mem_append]
  constructor
  ·rintro (h | h)
   ·exact .inr h
   ·exact .inl (by simpa using h)
  ·rintro (h | h)
   ·exact .inr (by simpa using h)
   ·exact .inl h
theorem nodup_put {m : List (Int × α)} {i : Int} {x : α} (h : (m.map (·.1)).Nodup) : ((aPut m i x).map (·.1)).Nodup := by
 unfold aPut
 by_cases ha : (m.any fun p => decide (p.1 = i)) = true
 ·rw [if_pos ha]
  have : (m.map fun p => if p.1 = i then (p.1, x) else p).map (·.1) = m.map (·.1) := by
   rw [List.map_map]
   refine List.map_congr_left fun p _ => ?_
   show (if p.1 = i then (p.1, x) else p).1 = p.1
   split <;> rfl
  rw [this]
  exact h
 ·rw [if_neg ha, List.map_append]
  refine List.nodup_append.mpr ⟨h, by simp, fun a h1 b h2 e => ha ?_⟩
  have h2' : b = i := by simpa using h2
  subst e; subst h2'
  obtain ⟨p, hp, e⟩ := List.mem_map.mp h1
  exact List.any_eq_true.mpr ⟨p, hp, decide_eq_true e⟩
theorem nodup_drop {m : List (Int × α)} {i : Int} (h : (m.map (·.1)).Nodup) : ((aDrop m i).map (·.1)).Nodup := h.sublist (List.Sublist.map _ List.filter_sublist)
theorem mem_drop' {m : List (Int × α)} {i k : Int} (h : k ∈ (aDrop m i).map (·.1)) : k ∈ m.map (·.1) := (List.Sublist.map _ List.filter_sublist).subset h
theorem aGet_none_iff {m : List (Int × α)} {i : Int} : aGet m i = none ↔ i ∉ m.map (·.1) := by
 unfold aGet
 rw [Option.map_eq_none_iff, List.find?_eq_none]
 constructor
 ·intro h hm
  obtain ⟨p, hp, e⟩ := List.mem_map.mp hm
  exact h p hp (decide_eq_true e)
 ·intro h p hp e
  exact h (List.mem_map.mpr ⟨p, hp, of_decide_eq_true e⟩)
def Out (S : List Addr) (H H' : Hp) : Prop := ∀ b o, b ∉ S -> H b = some o -> H' b = some o
theorem Out.refl (S : List Addr) (H : Hp) : Out S H H := fun _ _ _ h => h
theorem Out.trans {S : List Addr} {H H1 H2 : Hp} (a : Out S H H1) (b : Out S H1 H2) : Out S H H2 := fun c o hc h => b c o hc (a c o hc h)
theorem Out.of {S : List Addr} {H H' : Hp} (h : Same H H') : Out S H H' := fun b o _ e => h b o e
theorem Out.upd {S : List Addr} {H : Hp} {a : Addr} {o : HO} (h : a ∈ S) : Out S H (upd H a o) := fun b u hb e => by
 rw [upd_ne (fun z => hb (by rw [z]; exact h))]
 exact e
theorem Out.mono {S T : List Addr} {H H' : Hp} (h : Out S H H') (s : ∀ x ∈ S, x ∈ T) : Out T H H' := fun b o hb e => h b o (fun z => hb (s b z)) e
def TupAt (H : Hp) (v : V) (xs : List V) : Prop := ∃ t, v = .ref t /\ H t = some (.tup xs)
def OptAt (H : Hp) (v : V) : Option (List V) -> Prop
 | none => v = .non
 | some xs => TupAt H v xs
structure Deed where
 at_ : Int
 row : Int
 was : Option (List V)
 is : Option (List V)
def DeedAt (H : Hp) (v : V) (d : Deed) : Prop := ∃ t w u, v = .ref t /\ H t = some (.tup [.int d.at_, .int d.row, w, u]) /\ OptAt H w d.was /\ OptAt H u d.is
structure Bk where
 heads : List Col
 rows : List (Int × List V)
 touched : List (Int × Int)
 done : List Deed
 known : Int
 now : Int
structure BA where
 b : Addr
 dx : Addr
 h : Addr
 r : Addr
 t : Addr
 d : Addr
def IntAt (v : V) (i : Int) : Prop := v = .int i
structure BookAt (C : Addr) (H : Hp) (A : BA) (B : Bk) : Prop where
 ins : H A.b = some (.ins C A.dx [("heads", .ref A.h), ("rows", .ref A.r), ("touched", .ref A.t), ("done", .ref A.d), ("known", .int B.known), ("now", .int B.now)])
 own : H A.dx = some (.own A.b)
 heads : Cols H A.h B.heads
 rows : DictAt (TupAt H) H A.r B.rows
 touched : DictAt IntAt H A.t B.touched
 done : ∃ xs, H A.d = some (.lst xs) /\ All2 (DeedAt H) xs B.done
 rt : A.r ≠ A.t
 hd : A.h ≠ A.d
def BA.fp (A : BA) : List Addr := [A.b, A.r, A.t, A.d]
theorem TupAt.stay {H H' : Hp} {v : V} {xs : List V} (h : TupAt H v xs) (s : ∀ b ys, H b = some (.tup ys) -> H' b = some (.tup ys)) : TupAt H' v xs := by
 obtain ⟨t, e, h⟩ := h
 exact ⟨t, e, s _ _ h⟩
theorem OptAt.stay {H H' : Hp} {v : V} {o : Option (List V)} (h : OptAt H v o) (s : ∀ b ys, H b = some (.tup ys) -> H' b = some (.tup ys)) : OptAt H' v o := by
 cases o with
 | none => exact h
 | some xs => exact TupAt.stay h s
theorem DeedAt.stay {H H' : Hp} {v : V} {d : Deed} (h : DeedAt H v d) (s : ∀ b ys, H b = some (.tup ys) -> H' b = some (.tup ys)) : DeedAt H' v d := by
 obtain ⟨t, w, u, e, h1, h2, h3⟩ := h
 exact ⟨t, w, u, e, s _ _ h1, h2.stay s, h3.stay s⟩
theorem Cols.stay {H H' : Hp} {a : Addr} {cs : List Col} (h : Cols H a cs) (h1 : ∀ xs, H a = some (.lst xs) -> H' a = some (.lst xs)) (s : ∀ b ys, H b = some (.tup ys) -> H' b = some (.tup ys)) : Cols H' a cs := by
 obtain ⟨vs, e, h2⟩ := h
 exact ⟨vs, h1 _ e, All2.imp (fun v c ⟨t, e, h⟩ => ⟨t, e, s _ _ h⟩) h2⟩
theorem BookAt.stay {C : Addr} {H H' : Hp} {A : BA} {B : Bk} (k : BookAt C H A B) (s : ∀ b ys, H b = some (.tup ys) -> H' b = some (.tup ys)) (f : ∀ x o, x ∈ [A.b, A.dx, A.h, A.r, A.t, A.d] -> H x = some o -> H' x = some o) : BookAt C H' A B where
 ins := f _ _ (by simp) k.ins
 own := f _ _ (by simp) k.own
 heads := k.heads.stay (fun xs e => f _ _ (by simp) e) s
 rows := by
  obtain ⟨kvs, e, h⟩ := k.rows
  exact ⟨kvs, f _ _ (by simp) e, pr_imp h fun v x h => h.stay s⟩
 touched := by
  obtain ⟨kvs, e, h⟩ := k.touched
  exact ⟨kvs, f _ _ (by simp) e, h⟩
 done := by
  obtain ⟨xs, e, h⟩ := k.done
  exact ⟨xs, f _ _ (by simp) e, All2.imp (fun v d h => h.stay s) h⟩
 rt := k.rt
 hd := k.hd
theorem BookAt.same {C : Addr} {H H' : Hp} {A : BA} {B : Bk} (k : BookAt C H A B) (s : Same H H') : BookAt C H' A B := k.stay (fun _ _ e => s _ _ e) fun _ _ _ e => s _ _ e
section
variable {C : Addr} {H H' : Hp} {A : BA} {B : Bk}
theorem BookAt.fpR (k : BookAt C H A B) {b : Addr} (hb : b ∈ A.fp) : (∃ fs, H b = some (.ins C A.dx fs)) \/ (∃ kvs, H b = some (.dK kvs)) \/ ∃ xs, H b = some (.lst xs) := by
 have hb' : b = A.b \/ b = A.r \/ b = A.t \/ b = A.d := by simpa [BA.fp] using hb
 rcases hb' with rfl | rfl | rfl | rfl
 ·exact .inl ⟨_, k.ins⟩
 ·obtain ⟨kvs, e, _⟩ := k.rows
  exact .inr (.inl ⟨_, e⟩)
 ·obtain ⟨kvs, e, _⟩ := k.touched
  exact .inr (.inl ⟨_, e⟩)
 ·obtain ⟨xs, e, _⟩ := k.done
  exact .inr (.inr ⟨_, e⟩)
theorem BookAt.tup (k : BookAt C H A B) (o : Out A.fp H H') : ∀ b ys, H b = some (.tup ys) -> H' b = some (.tup ys) := fun b ys e => o b _ (fun hb => by
 rcases k.fpR hb with ⟨fs, z⟩ | ⟨kvs, z⟩ | ⟨xs, z⟩ <;> rw [e] at z <;> cases z) e
theorem BookAt.ne (k : BookAt C H A B) : A.b ≠ A.dx /\ A.b ≠ A.h /\ A.b ≠ A.r /\ A.b ≠ A.t /\ A.b ≠ A.d /\ A.r ≠ A.dx /\ A.r ≠ A.h /\ A.r ≠ A.d /\ A.t ≠ A.dx /\ A.t ≠ A.h /\ A.t ≠ A.d /\ A.d ≠ A.dx := by
 have h1 := k.ins
 have h2 := k.own
 obtain ⟨_, h3, _⟩ := k.heads
 obtain ⟨_, h4, _⟩ := k.rows
 obtain ⟨_, h5, _⟩ := k.touched
 obtain ⟨_, h6, _⟩ := k.done
 refine ⟨?_, ?_, ?_, ?_, ?_, ?_, ?_, ?_, ?_, ?_, ?_, ?_⟩ <;> intro e
 ·rw [e, h2] at h1; cases h1
 ·rw [e, h3] at h1; cases h1
 ·rw [e, h4] at h1; cases h1
 ·rw [e, h5] at h1; cases h1
 ·rw [e, h6] at h1; cases h1
 ·rw [e, h2] at h4; cases h4
 ·rw [e, h3] at h4; cases h4
 ·rw [e, h6] at h4; cases h4
 ·rw [e, h2] at h5; cases h5
 ·rw [e, h3] at h5; cases h5
 ·rw [e, h6] at h5; cases h5
 ·rw [e, h2] at h6; cases h6
theorem BookAt.setI (k : BookAt C H A B) (kn nw : Int) : BookAt C (upd H A.b (.ins C A.dx [("heads", .ref A.h), ("rows", .ref A.r), ("touched", .ref A.t), ("done", .ref A.d), ("known", .int kn), ("now", .int nw)])) A { B with known := kn, now := nw } := by
 obtain ⟨n1, n2, n3, n4, n5, _⟩ := k.ne
 have st : ∀ b ys, H b = some (.tup ys) -> (upd H A.b (.ins C A.dx [("heads", .ref A.h), ("rows", .ref A.r), ("touched", .ref A.t), ("done", .ref A.d), ("known", .int kn), ("now", .int nw)])) b = some (.tup ys) := k.tup (Out.upd (by simp [BA.fp]))
 refine ⟨upd_same, ?_, k.heads.stay (fun xs e => ?_) st, ?_, ?_, ?_, k.rt, k.hd⟩
 ·rw [upd_ne (Ne.symm n1)]; exact k.own
 ·rw [upd_ne (Ne.symm n2)]; exact e
 ·obtain ⟨kvs, e, h⟩ := k.rows
  exact ⟨kvs, by rw [upd_ne (Ne.symm n3)]; exact e, pr_imp h fun v x h => h.stay st⟩
 ·obtain ⟨kvs, e, h⟩ := k.touched
  exact ⟨kvs, by rw [upd_ne (Ne.symm n4)]; exact e, h⟩
 ·obtain ⟨xs, e, h⟩ := k.done
  exact ⟨xs, by rw [upd_ne (Ne.symm n5)]; exact e, All2.imp (fun v d h => h.stay st) h⟩
theorem BookAt.setR {kvs : List (Key × V)} {m : List (Int × List V)} (k : BookAt C H A B) (h : All2 (PR (TupAt H)) kvs m) : BookAt C (upd H A.r (.dK kvs)) A { B with rows := m } := by
 obtain ⟨n1, n2, n3, n4, n5, n6, n7, n8, _⟩ := k.ne
 have st : ∀ b ys, H b = some (.tup ys) -> (upd H A.r (.dK kvs)) b = some (.tup ys) := k.tup (Out.upd (by simp [BA.fp]))
 refine ⟨?_, ?_, k.heads.stay (fun xs e => ?_) st, ⟨kvs, upd_same, pr_imp h fun v x h => h.stay st⟩, ?_, ?_, k.rt, k.hd⟩
 ·rw [upd_ne n3]; exact k.ins
 ·rw [upd_ne (Ne.symm n6)]; exact k.own
 ·rw [upd_ne (Ne.symm n7)]; exact e
 ·obtain ⟨kvs, e, h⟩ := k.touched
  exact ⟨kvs, by rw [upd_ne (Ne.symm k.rt)]; exact e, h⟩
 ·obtain ⟨xs, e, h⟩ := k.done
  exact ⟨xs, by rw [upd_ne (Ne.symm n8)]; exact e, All2.imp (fun v d h => h.stay st) h⟩
theorem BookAt.setT {kvs : List (Key × V)} {m : List (Int × Int)} (k : BookAt C H A B) (h : All2 (PR IntAt) kvs m) : BookAt C (upd H A.t (.dK kvs)) A { B with touched := m } := by
 obtain ⟨n1, n2, n3, n4, n5, n6, n7, n8, n9, n10, n11, _⟩ := k.ne
 have st : ∀ b ys, H b = some (.tup ys) -> (upd H A.t (.dK kvs)) b = some (.tup ys) := k.tup (Out.upd (by simp [BA.fp]))
 refine ⟨?_, ?_, k.heads.stay (fun xs e => ?_) st, ?_, ⟨kvs, upd_same, h⟩, ?_, k.rt, k.hd⟩
 ·rw [upd_ne n4]; exact k.ins
 ·rw [upd_ne (Ne.symm n9)]; exact k.own
 ·rw [upd_ne (Ne.symm n10)]; exact e
 ·obtain ⟨kvs, e, h⟩ := k.rows
  exact ⟨kvs, by rw [upd_ne k.rt]; exact e, pr_imp h fun v x h => h.stay st⟩
 ·obtain ⟨xs, e, h⟩ := k.done
  exact ⟨xs, by rw [upd_ne (Ne.symm n11)]; exact e, All2.imp (fun v d h => h.stay st) h⟩
theorem BookAt.setD {xs : List V} {ds : List Deed} (k : BookAt C H A B) (h : All2 (DeedAt H) xs ds) : BookAt C (upd H A.d (.lst xs)) A { B with done := ds } := by
 obtain ⟨n1, n2, n3, n4, n5, n6, n7, n8, n9, n10, n11, n12⟩ := k.ne
 have st : ∀ b ys, H b = some (.tup ys) -> (upd H A.d (.lst xs)) b = some (.tup ys) := k.tup (Out.upd (by simp [BA.fp]))
 refine ⟨?_, ?_, k.heads.stay (fun xs e => ?_) st, ?_, ?_, ⟨xs, upd_same, All2.imp (fun v d h => h.stay st) h⟩, k.rt, k.hd⟩
 ·rw [upd_ne n5]; exact k.ins
 ·rw [upd_ne (Ne.symm n12)]; exact k.own
 ·rw [upd_ne k.hd]; exact e
 ·obtain ⟨kvs, e, h⟩ := k.rows
  exact ⟨kvs, by rw [upd_ne n8]; exact e, pr_imp h fun v x h => h.stay st⟩
 ·obtain ⟨kvs, e, h⟩ := k.touched
  exact ⟨kvs, by rw [upd_ne n11]; exact e, h⟩
end
end
end Vl
namespace L2
open PySem PySem.Spec PyProof.Rows PySem.W
section
variable {prog : Program} {w : World} {A : Around} {E : Value -> Shared -> Prop} {s : Shared}
variable {I : Addr} {fp wr : List Addr} {G : Array GenState -> Array GenState -> Prop} {n : Nat} {P : Nat -> Value -> Prop} {St : Nat -> Shared -> Prop}
end
section
variable {X : Cx} {σ : St} {H : Hp} {Q : VK} {a : Expr} {p pos p' pos' : Pos}
end
end L2
namespace L2
open PySem PySem.Spec PyProof.Rows PySem.W
section
variable {X : Cx} {σ : St} {H : Hp} {Q : VK} {D : Ends} {o e f : Expr} {apos cpos pos : Pos}
end
end L2
namespace L2
open PySem PySem.Spec PyProof.Rows PySem.W
section
variable {X : Cx} {pins : List (Addr × Obj)} {σ : St} {H : Hp} {s : Shared} {d : Addr}
theorem Inv.young (I : Inv X pins σ H s) {o : HO} (hd : H d = some o) (h0 : X.H₀ d = none) : d ≠ X.env.locals /\ d ∉ X.fs /\ (d ∈ X.ex \/ X.s₀.heap.get? d = none) /\ (∀ x c, X.env.cells.lookup x = some c -> c ≠ d) /\ ∀ p ∈ X.pn ++ pins, p.1 ≠ d := by
 have hx : d ∈ X.ex \/ X.s₀.heap.get? d = none := by
  by_cases hx : d ∈ X.ex
  ·exact .inl hx
  ·cases e : X.s₀.heap.get? d with
   | none => exact .inr rfl
   | some u =>
     have := I.base.free d u e h0 hx
     rw [hd] at this
     cases this
 refine ⟨fun z => ?_, fun z => ?_, hx, fun x c e z => ?_, fun p hp z => ?_⟩
 ·have := I.free
  rw [<- z, hd] at this
  cases this
 ·rcases hx with hx | hx
  ·exact I.ok.exfs d hx z
  ·obtain ⟨_, u, hu, _⟩ := I.ok.funs.mem z
   rw [hx] at hu
   cases hu
 ·have := I.freeC x c e
  rw [z, hd] at this
  cases this
 ·have := (I.pin p hp).2.1
  rw [z, hd] at this
  cases this
theorem Inv.forgetD {kvs : List (Key × V)} (I : Inv X pins σ H s) (hn : H d = some (.dK kvs)) (c : Ch X pins d) : Inv X pins σ (dropH H d) s := by
 have := I.step (h' := s.heap) (H' := dropH H d) (g' := s.gens) (d' := s.drawn) (t' := s.toks) (ch := [d]) (fun b hb => ?_) (fun b o _ _ _ q _ => q) (fun b o _ _ _ q _ => ⟨o.slots, q⟩) (fun b o hc _ n => ?_) (fun b o _ q => ⟨o, q⟩) (fun b xs q => ?_) (fun b o u q => ?_) (fun b ps q => ?_) (fun m q => q) (fun b u q => ?_) I.bare
 ·exact this
 ·have z : b = d := by simpa using hb
  subst z
  exact c
 ·rw [dropH_ne (fun z => hc (by simp [z]))]; exact n
 ·rw [dropH_ne (fun z => by rw [z, hn] at q; cases q)]; exact q
 ·rw [dropH_ne (fun z => by rw [z, hn] at q; cases q)]; exact q
 ·exact ⟨#[], by rw [dropH_ne (fun z => by rw [z, hn] at q; cases q), q]; simp⟩
 ·by_cases z : b = d
  ·subst z
   rw [dropH_self] at q
   cases q
  ·rw [dropH_ne z] at q
   exact (I.hok b u q).stay (fun _ _ _ r => r) (fun c r => by rw [dropH_ne (fun z => by rw [z, hn] at r; cases r)]; exact r) fun c xs r => by rw [dropH_ne (fun z => by rw [z, hn] at r; cases r)]; exact r
end
def Itd (ks : List Int) : It := ⟨fun i _ => i < ks.length, fun i H x H' => H' = H /\ ∃ k, ks[i]? = some k /\ x = .int k, fun i _ => i = ks.length⟩
theorem turn_dict {P : Program} {w : World} {K : PySem.W.Frag} {tg : Expr} (it d : Addr) (ks : List Int) (vs : List (Key × Value)) (ep : Nat) (hv : vs.map (·.1) = ks.map Sum.inl) (hne : d ≠ it) : Turn P w K tg (Itd ks) [it, d] it (fun i h => h.IsKeyIter it d i vs.length ep /\ h.DictAt (mixKind P w) d vs ep) where
 mem := by simp
 obj := fun i h st b hb => by
  have hb' : b = it \/ b = d := by simpa using hb
  rcases hb' with rfl | rfl
  ·obtain ⟨o, e, c, dd⟩ := st.1
   exact ⟨o, e, fun v z => by rw [dd] at z; cases z⟩
  ·obtain ⟨o, es, e, c, dd, _⟩ := st.2
   exact ⟨o, e, fun v z => by rw [dd] at z; cases z⟩
 keep := fun i h h' st k => ⟨st.1.at fun o e => k it (by simp) o e, st.2.at' fun o e => k d (by simp) o e⟩
 item := by
  intro X hP hw hK hc i pins s σ H E I hf st hg
  subst hP hw hK
  have hi : i < ks.length := hg
  have hvl : vs.length = ks.length := by have := congrArg List.length hv; simpa using this
  have hx : vs[i]? = some (vs[i]'(by omega)) := List.getElem?_eq_getElem _
  have hk : (vs[i]'(by omega)).1 = Sum.inl ks[i] := by
   have e1 : (vs.map (·.1))[i]? = some (vs[i]'(by omega)).1 := by rw [List.getElem?_map, hx]; rfl
   rw [hv, List.getElem?_map, List.getElem?_eq_getElem hi] at e1
   simpa using e1.symm
  generalize vs[i]'(by omega) = kx at hx hk
  obtain ⟨k, x⟩ := kx
  obtain ⟨f0, f1, f2, f3, f4, f5⟩ := hf it (by simp)
  refine wpAny_pyNext_dict_item st.1 st.2 hx fun key h' hkey hit' hs' => ?_
  have I1 : Inv X pins σ H { s with heap := h' } := I.turned (t' := s.toks) (fun b o hb e => (hs'.2 b hb).trans e) f0 f1 f3 f4 f5
  have hk' : k = Sum.inl ks[i] := hk
  rcases keyIs_shape (k := k) (v := key) hkey with ⟨i', t, e6, rfl⟩ | ⟨y, t, e6, _⟩
  ·rw [hk'] at e6
   cases e6
   obtain ⟨o, e, c, dd⟩ := id hit'
   exact ⟨_, rfl, go_of (s := { s with heap := h' }) e c dd (by decide) ⟨.int ks[i], H, I1, ⟨t, rfl⟩, ⟨rfl, ks[i], List.getElem?_eq_getElem hi, rfl⟩, ⟨hit', st.2.extBut hs'.extBut hne⟩, fun b hb => (hf b hb).1⟩⟩
  ·rw [hk'] at e6
   cases e6
 done := by
  intro X hP hw hK hc i pins s σ H E I hf st hg
  subst hP hw hK
  have e : i = ks.length := hg
  have hvl : vs.length = ks.length := by have := congrArg List.length hv; simpa using this
  obtain ⟨f0, f1, f2, f3, f4, f5⟩ := hf it (by simp)
  have hn : vs[i]? = none := List.getElem?_eq_none (by omega)
  exact wpAny_pyNext_dict_end (I.ok.hd hc) st.1 st.2 hn fun h' eb => ⟨rfl, I.turned (t' := s.toks) (fun b o hb e => eb b o hb e) f0 f1 f3 f4 f5⟩
 self := fun _ _ _ _ _ st h => wpAny_pyIter_keyiter st.1 h
section
variable {X : Cx} {σ : St} {H : Hp} {a e : Expr} {tg : Expr} {pos : Pos} {R : It -> Hp -> Prop} {D : Ends}
theorem ei_dict (h : EV X a σ H fun v H1 => ∃ (d : Addr) (kvs : List (Key × V)) (ks : List Int), v = .ref d /\ H1 d = some (.dK kvs) /\ kvs.map (·.1) = ks.map Sum.inl /\ X.H₀ d = none /\ R (Itd ks) (dropH H1 d)) : EI X tg a σ H R := by
 intro pins s I
 refine thn (h pins s I) fun v s1 ⟨x, H1, I1, rx, d, kvs, ks, ex, hd, hk, h0, q⟩ => ?_
 subst ex
 obtain rfl : v = Value.ref d := rx
 obtain ⟨z, lo, vs, hKV, hdo⟩ := dk_of I1.hok hd
 obtain ⟨ep, hm⟩ := hdo.dictAt
 refine wpAny_pyIter_dict lo hm ?_
 have y := I1.young hd h0
 have I2 : Inv X pins σ (dropH H1 d) s1 := I1.forgetD hd ⟨y.2.2.1, y.1, y.2.2.2.1, y.2.2.2.2⟩
 refine ⟨s1.heap.objs.size, [s1.heap.objs.size, d], _, Itd ks, dropH H1 d, rfl, I2.kept (t' := s1.toks) (fun b o e => Heap.get?_push_of_some _ e), turn_dict s1.heap.objs.size d ks vs ep (by rw [<- hKV.keys]; exact hk) (Nat.ne_of_lt hm.lt_size), ⟨⟨_, Heap.get?_push_size _ rfl, rfl, rfl⟩, hm.push _⟩, fun b hb => ?_, q⟩
 have hb' : b = s1.heap.objs.size \/ b = d := by simpa using hb
 rcases hb' with rfl | rfl
 ·exact I2.fpOk (Nat.le_refl _) (I2.hok.fresh (Nat.le_refl _))
 ·exact ⟨dropH_self, y.1, y.2.1, y.2.2.1, y.2.2.2.1, y.2.2.2.2⟩
theorem sx_forD {body : List Stmt} (hp : PassesOwn (model X.prog X.w) X.A X.env X.xe) (hc : X.calm = true) (hs : ∀ x, foldedSetIterable e X.env x = pure x)
  (h : EV X e σ H fun v H1 => ∃ (d : Addr) (kvs : List (Key × V)) (ks : List Int), v = .ref d /\ H1 d = some (.dK kvs) /\ kvs.map (·.1) = ks.map Sum.inl /\ X.H₀ d = none /\ ∃ Pv : Nat -> St -> Hp -> Prop, Pv 0 σ (dropH H1 d) /\
   (∀ i k σ' H', ks[i]? = some k -> Pv i σ' H' -> EG X tg (.int k) σ' H' fun σ2 H2 => SXs X body { D with nx := Pv (i + 1), ct := Pv (i + 1), bk := D.nx } σ2 H2) /\ ∀ σ' H', Pv ks.length σ' H' -> D.nx σ' H') :
  SX X (.For tg e body [] pos) D σ H := by
 refine sx_for hp hc hs (ei_dict (ev_mono h fun v H1 q => ?_))
 obtain ⟨d, kvs, ks, rfl, hd, hk, h0, Pv, p0, hst, hdn⟩ := q
 refine ⟨d, kvs, ks, rfl, hd, hk, h0, fun i m σ H => m = ks.length - i /\ i ≤ ks.length /\ Pv i σ H, ⟨ks.length, by simp, Nat.zero_le _, p0⟩, ?_⟩
 rintro i m σ' H' ⟨rfl, hi, p⟩
 by_cases hlt : i < ks.length
 ·refine .inr ⟨hlt, Pv (i + 1), fun σ2 H2 p2 => ⟨ks.length - (i + 1), by omega, rfl, hlt, p2⟩, fun x H2 y => ?_⟩
  obtain ⟨rfl, k, hk, rfl⟩ := y
  exact hst i k σ' _ hk p
 ·have e : i = ks.length := by omega
  refine .inl ⟨e, ?_⟩
  subst e
  exact hdn σ' H' p
end
end L2
namespace L2
open PySem PySem.Spec PyProof.Rows PySem.W
section
variable {X : Cx} {H : Hp} {Q : VK} {e C : Addr} {D : Option Addr} {k : Bool}
theorem c_isXn {p : Addr} {as : List V} {us : List Value} (ca : XAttr X.K C) (he : H e = some (xw e C D)) (hd : ∀ E', D = some E' -> ∃ fs, H E' = some (.xd fs)) (hp : H p = some (.tup as)) (hu : ∀ vs, Vals as vs -> vs = us) (ek : PySem.W.kitAny X.K (.ref C) us = some k) (q : Q (.bl k) H) : CL X (.builtin "isinstance") [.ref e, .ref p] H Q := by
 refine cl_by (r := fun xs H Q => xs = [.ref e, .ref p] /\ H e = some (xw e C D) /\ (∀ E', D = some E' -> ∃ fs, H E' = some (.xd fs)) /\ H p = some (.tup as) /\ Q (.bl k) H) ?_ ⟨rfl, he, hd, hp, q⟩
 intro pins s σ H xs us' Q I r h
 obtain ⟨rfl, he, hd, hp, q⟩ := h
 obtain ⟨u1, u2, rfl, r1, r2⟩ := vals2 r
 cases (show u1 = Value.ref e from r1)
 cases (show u2 = Value.ref p from r2)
 obtain ⟨ox, od, J, _⟩ := I.inst he hd
 obtain ⟨_, its, rv, ob, hob, hcl, hdt⟩ := I.hok p _ hp
 rw [hu its rv] at hdt
 obtain ⟨n, hdt⟩ := hdt
 obtain ⟨oc, odd, oda, osl⟩ := ob
 dsimp only at hcl hdt
 subst hcl hdt
 exact PySem.W.kia_tup (kitx_x ca) I.kIn ⟨ox, od, J⟩ hob ek (fun z => nomatch z) fun tk => ⟨.bl k, H, I.tok tk, rfl, q⟩
theorem vals_refs : ∀ (as : List Addr) (vs : List Value), Vals (as.map V.ref) vs -> vs = as.map Value.ref
 | [], _, .nil => rfl
 | a :: as, _, .cons r t => by
   cases (show _ = Value.ref a from r)
   rw [vals_refs as _ t]
   rfl
end
section
variable {X : Cx} {σ σ' : St} {H : Hp} {Q : VK} {a b tg elt : Expr} {scope : Scope} {p p' pos : Pos}
theorem ea_mono {es : List Expr} {R R' : List V -> Hp -> Prop} (h : EA X es σ H R) (m : ∀ vs H', R vs H' -> R' vs H') : EA X es σ H R' := fun pos pins s I => thn (h pos pins s I) fun _ _ ⟨vs, H', I', r, q⟩ => ⟨vs, H', I', r, m vs H' q⟩
theorem ev_compR2 (N' : List Str) (hσ : capSt N' X.N σ scope = σ') (hc : X.calm = true) (S : CompSc X.env scope)
  (hg : Gl X "range") (hm : X.mg "range" = none) (hs : starEach [a, b] X.env = [(false, eval a X.env), (false, eval b X.env)]) (hs2 : starEach [b] X.env = [(false, eval b X.env)])
  (h : EA X [a, b] σ H fun vs H1 => ∃ i j : Int, vs = [.int i, .int j] /\ (-(2 ^ 62) ≤ i /\ i < 2 ^ 62 /\ -(2 ^ 62) ≤ j /\ j < 2 ^ 62) /\ (j - i).toNat ≤ sizeLine /\ CompW X N' scope tg elt σ' H1 Q (j - i).toNat fun n H2 x H3 => x = .int (i + n) /\ H2 = H3) :
  EV X (.ListComp elt [⟨tg, .Call (.Name "range" p) [a, b] [] p', [], 0⟩] scope pos) σ H Q := by
 refine ev_comp (N' := N') hc S (by intro _; rfl) (ei_range2 hg hm hs hs2 (ea_mono h fun vs H1 q => ?_))
 obtain ⟨i, j, rfl, h1, h2, hw⟩ := q
 refine ⟨i, j, rfl, h1, ?_⟩
 rw [hσ]
 exact compW h2 (fun i H2 s hi => hi) (fun H2 s => Nat.le_refl _) (fun i H2 x H3 hi s y => ⟨y.2, y.1.symm⟩) hw
end
end L2
namespace L2
open PySem PySem.Spec PyProof.Rows PySem.W
section
variable {X : Cx} {H : Hp} {Q : VK}
end
end L2
namespace L2
open PySem PySem.Spec PyProof.Rows PySem.W
section
variable {X : Cx} {H : Hp} {Q : VK}
variable {σ : St} {a b tg : Expr} {p p' pos : Pos} {D : Ends}
end
end L2
local macro_rules | `(tactic| walk_at "nm") => `(tactic| refine L2.ev_name (by rfl) (by first | exact Or.inl rfl | exact Or.inr (Or.inl rfl) | exact Or.inr (Or.inr rfl)) ?_ (by decide) (by decide))
local macro_rules | `(tactic| walk_at "gc") => `(tactic| refine L2.ev_gc (by assumption) (by rfl) ?_ (by decide))
local macro_rules | `(tactic| walk_at "ty") => `(tactic| first
 | ((with_reducible show L2.EV _ (PySem.Expr.Name "str" _) _ _ _); refine L2.ty_str (by rfl) (by assumption) ?_)
 | ((with_reducible show L2.EV _ (PySem.Expr.Name "list" _) _ _ _); refine L2.ty_list (by rfl) (by assumption) ?_)
 | ((with_reducible show L2.EV _ (PySem.Expr.Name "tuple" _) _ _ _); refine L2.ty_tuple (by rfl) (by assumption) ?_)
 | ((with_reducible show L2.EV _ (PySem.Expr.Name "int" _) _ _ _); refine L2.ty_int (by rfl) (by assumption) ?_)
 | ((with_reducible show L2.EV _ (PySem.Expr.Name "set" _) _ _ _); refine L2.ty_set (by rfl) (by assumption) ?_)
 | ((with_reducible show L2.EV _ (PySem.Expr.Name "bool" _) _ _ _); refine L2.ty_bool (by rfl) (by assumption) ?_)
 | ((with_reducible show L2.EV _ (PySem.Expr.Name "dict" _) _ _ _); refine L2.ty_dict (by rfl) (by assumption) ?_))
local macro_rules | `(tactic| walk_at "cb") => `(tactic| first
 | ((with_reducible show L2.EV _ (PySem.Expr.Call (PySem.Expr.Name "len" _) _ _ _) _ _ _); refine L2.cb_len (by rfl) (by assumption) (by rfl) (by rfl) ?_)
 | ((with_reducible show L2.EV _ (PySem.Expr.Call (PySem.Expr.Name "isinstance" _) _ _ _) _ _ _); refine L2.cb_isinstance (by rfl) (by assumption) (by rfl) (by rfl) ?_)
 | ((with_reducible show L2.EV _ (PySem.Expr.Call (PySem.Expr.Name "all" _) _ _ _) _ _ _); refine L2.cb_all (by rfl) (by assumption) (by rfl) (by rfl) ?_)
 | ((with_reducible show L2.EV _ (PySem.Expr.Call (PySem.Expr.Name "any" _) _ _ _) _ _ _); refine L2.cb_any (by rfl) (by assumption) (by rfl) (by rfl) ?_)
 | ((with_reducible show L2.EV _ (PySem.Expr.Call (PySem.Expr.Name "min" _) _ _ _) _ _ _); refine L2.cb_min (by rfl) (by assumption) (by rfl) (by rfl) ?_)
 | ((with_reducible show L2.EV _ (PySem.Expr.Call (PySem.Expr.Name "max" _) _ _ _) _ _ _); refine L2.cb_max (by rfl) (by assumption) (by rfl) (by rfl) ?_)
 | ((with_reducible show L2.EV _ (PySem.Expr.Call (PySem.Expr.Name "abs" _) _ _ _) _ _ _); refine L2.cb_abs (by rfl) (by assumption) (by rfl) (by rfl) ?_)
 | ((with_reducible show L2.EV _ (PySem.Expr.Call (PySem.Expr.Name "sum" _) _ _ _) _ _ _); refine L2.cb_sum (by rfl) (by assumption) (by rfl) (by rfl) ?_)
 | ((with_reducible show L2.EV _ (PySem.Expr.Call (PySem.Expr.Name "sorted" _) _ _ _) _ _ _); refine L2.cb_sorted (by rfl) (by assumption) (by rfl) (by rfl) ?_)
 | ((with_reducible show L2.EV _ (PySem.Expr.Call (PySem.Expr.Name "ord" _) _ _ _) _ _ _); refine L2.cb_ord (by rfl) (by assumption) (by rfl) (by rfl) ?_)
 | ((with_reducible show L2.EV _ (PySem.Expr.Call (PySem.Expr.Name "divmod" _) _ _ _) _ _ _); refine L2.cb_divmod (by rfl) (by assumption) (by rfl) (by rfl) ?_))
local macro_rules | `(tactic| walk_at "ct") => `(tactic| first
 | ((with_reducible show L2.EV _ (PySem.Expr.Call (PySem.Expr.Name "str" _) _ _ _) _ _ _); refine L2.ct_str (by rfl) (by assumption) (by rfl) (by rfl) ?_)
 | ((with_reducible show L2.EV _ (PySem.Expr.Call (PySem.Expr.Name "list" _) _ _ _) _ _ _); refine L2.ct_list (by rfl) (by assumption) (by rfl) (by rfl) ?_)
 | ((with_reducible show L2.EV _ (PySem.Expr.Call (PySem.Expr.Name "tuple" _) _ _ _) _ _ _); refine L2.ct_tuple (by rfl) (by assumption) (by rfl) (by rfl) ?_)
 | ((with_reducible show L2.EV _ (PySem.Expr.Call (PySem.Expr.Name "int" _) _ _ _) _ _ _); refine L2.ct_int (by rfl) (by assumption) (by rfl) (by rfl) ?_)
 | ((with_reducible show L2.EV _ (PySem.Expr.Call (PySem.Expr.Name "set" _) _ _ _) _ _ _); refine L2.ct_set (by rfl) (by assumption) (by rfl) (by rfl) ?_)
 | ((with_reducible show L2.EV _ (PySem.Expr.Call (PySem.Expr.Name "bool" _) _ _ _) _ _ _); refine L2.ct_bool (by rfl) (by assumption) (by rfl) (by rfl) ?_)
 | ((with_reducible show L2.EV _ (PySem.Expr.Call (PySem.Expr.Name "dict" _) _ _ _) _ _ _); refine L2.ct_dict (by rfl) (by assumption) (by rfl) (by rfl) ?_))
local macro_rules | `(tactic| walk_at "xo") => `(tactic| first | exact L2.xok_fn | assumption | exact L2.xok_false rfl)
local macro_rules | `(tactic| walk_at "po") => `(tactic| first | exact L2.passes_fn | assumption | exact PySem.PassesOwn.never)
local macro_rules | `(tactic| walk_at "cl") => `(tactic| first
 | refine L2.ev_call (by assumption) (by assumption) (by first | decide | omega) (by decide) (by rfl) (by walk_at "xo") (by decide) (by rfl) (by rfl) ?_
 | refine L2.ev_call0 (by assumption) (by assumption) (by first | decide | omega) (by decide) (by rfl) (by walk_at "xo") (by decide) ?_)
local macro_rules | `(tactic| walk_at "bm") => `(tactic| first
 | refine L2.ev_bm PySem.F.plainAttrs_str PySem.F.slot_str_join PySem.F.type_str_join (by rfl) (by rfl) (by rfl) (by rfl) (by rfl) ?_
 | refine L2.ev_bm PySem.F.plainAttrs_str PySem.F.slot_str_index PySem.F.type_str_index (by rfl) (by rfl) (by rfl) (by rfl) (by rfl) ?_
 | refine L2.ev_bm PySem.F.plainAttrs_str PySem.F.slot_str_startswith PySem.F.type_str_startswith (by rfl) (by rfl) (by rfl) (by rfl) (by rfl) ?_)
local macro_rules | `(tactic| walk_at "e") => `(tactic| first
 | ((with_reducible show L2.EV _ (PySem.Expr.Name _ _) _ _ _); first | (walk_at "ty") | (walk_at "nm") | (walk_at "gc"))
 | (with_reducible refine L2.ev_int ?_)
 | (with_reducible refine L2.ev_str ?_)
 | (with_reducible refine L2.ev_bl ?_)
 | (with_reducible refine L2.ev_non ?_)
 | (with_reducible refine L2.ev_bin ?_)
 | ((with_reducible show L2.EV _ (PySem.Expr.Compare _ [_] [_] _) _ _ _); refine L2.ev_cmp (by first | exact L2.nomark _ (by decide) (by decide) | rfl) ?_)
 | ((with_reducible show L2.EV _ (PySem.Expr.Compare _ [_, _] [_, _] _) _ _ _); refine L2.ev_chain (by with_unfolding_all rfl) ?_)
 | (with_reducible refine L2.ev_one ?_)
 | (with_reducible refine L2.ev_and ?_)
 | (with_reducible refine L2.ev_or ?_)
 | (with_reducible refine L2.ev_notV ?_)
 | (with_reducible refine L2.ev_un ?_)
 | (with_reducible refine L2.ev_ifE ?_)
 | (with_reducible refine L2.ev_tup ?_)
 | (with_reducible refine L2.ev_lst ?_)
 | (with_reducible refine L2.ev_sl ?_)
 | ((with_reducible show L2.EV _ (PySem.Expr.Subscript _ _ _) _ _ _); refine L2.ev_ix (fun _ _ => by rfl) ?_)
 | ((with_reducible show L2.EV _ (PySem.Expr.Call (PySem.Expr.Name _ _) _ _ _) _ _ _); first | (walk_at "cb") | (walk_at "ct") | (walk_at "cl"))
 | ((with_reducible show L2.EV _ (PySem.Expr.Call (PySem.Expr.Attribute _ _ _) _ _ _) _ _ _); (walk_at "bm"))
 | (with_reducible refine L2.ev_fstrL ?_)
 | ((with_reducible show L2.EJL _ (PySem.Expr.Constant _ _ _ :: _) _ _ _ _); refine L2.ejl_cons (L2.ev_str ⟨_, 200, rfl, by decide +kernel, by omega, ?_⟩))
 | ((with_reducible show L2.EJL _ (PySem.Expr.FormattedValue _ _ _ _ :: _) _ _ _ _); refine L2.ejl_cons ?_)
 | ((with_reducible show L2.EJL _ [] _ _ _ _); refine L2.ejl_nil (by omega) ?_)
 | (with_reducible refine L2.ea_nil ?_)
 | ((with_reducible show L2.EA _ (_ :: _) _ _ _); refine L2.ea_cons (by rfl) ?_)
 | (with_reducible refine L2.eo_none ?_)
 | (with_reducible refine L2.eo_some ?_)
 | ((with_reducible show L2.ET _ (PySem.Expr.Compare _ [_] [_] _) _ _ _); refine L2.et_cmp (by first | exact L2.nomark _ (by decide) (by decide) | rfl) ?_)
 | ((with_reducible show L2.ET _ (PySem.Expr.Compare _ [_, _] [_, _] _) _ _ _); refine L2.et_chain (by with_unfolding_all rfl) ?_)
 | (with_reducible refine L2.et_not ?_)
 | ((with_reducible show L2.ET _ (PySem.Expr.BoolOp _ _ _) _ _ _); refine L2.et_w ?_)
 | (with_reducible refine L2.ew_and1 ?_)
 | (with_reducible refine L2.ew_or1 ?_)
 | (with_reducible refine L2.ew_and ?_)
 | (with_reducible refine L2.ew_or ?_)
 | ((with_reducible show L2.ET _ (PySem.Expr.Name _ _) _ _ _); refine L2.et_val (fun _ => by rfl) ?_)
 | ((with_reducible show L2.ET _ (PySem.Expr.Call _ _ _ _) _ _ _); refine L2.et_val (fun _ => by rfl) ?_)
 | ((with_reducible show L2.ET _ (PySem.Expr.Subscript _ _ _) _ _ _); refine L2.et_val (fun _ => by rfl) ?_)
 | ((with_reducible show L2.ET _ (PySem.Expr.Constant _ _ _) _ _ _); refine L2.et_val (fun _ => by rfl) ?_))
local macro_rules | `(tactic| walk_at "o") => `(tactic| with_reducible first
 | refine L2.o_add ?_ | refine L2.o_sub ?_ | refine L2.o_lt ?_ | refine L2.o_le ?_ | refine L2.o_gt ?_ | refine L2.o_ge ?_
 | refine L2.o_isN ?_ | refine L2.o_notN ?_ | refine L2.o_ltS ?_ | refine L2.o_inS ?_ | refine L2.o_ninS ?_ | refine L2.u_neg ?_
 | refine L2.o_p18 ?_ | refine L2.o_p9 ?_ | refine L2.o_p17 ?_ | refine L2.o_p19 ?_)
local macro_rules | `(tactic| walk_at "o2") => `(tactic| first
 | ((with_reducible show L2.OP _ (PySem.compareOp PySem.CmpOp.Eq) _ _ _ _); refine L2.o_eq (by rfl) ?_)
 | ((with_reducible show L2.OP _ (PySem.compareOp PySem.CmpOp.NotEq) _ _ _ _); refine L2.o_ne (by rfl) ?_)
 | ((with_reducible show L2.OP _ (PySem.binaryOp PySem.Operator.Mod) (L2.V.int _) (L2.V.int _) _ _); refine L2.o_mod (by first | decide | omega) ?_)
 | ((with_reducible show L2.OP _ (PySem.binaryOp PySem.Operator.Mult) (L2.V.int _) (L2.V.int _) _ _); refine L2.o_mul (by first | exact Or.inr ⟨by decide, by decide⟩ | exact Or.inl ⟨by decide, by decide⟩ | exact Or.inl ⟨by omega, by omega⟩ | exact Or.inr ⟨by omega, by omega⟩) ?_)
 | ((with_reducible show L2.OP _ (PySem.binaryOp PySem.Operator.Pow) (L2.V.int _) (L2.V.int _) _ _); refine L2.o_pow ⟨by decide, by decide, by decide⟩ ?_)
 | ((with_reducible show L2.CL _ (PySem.Value.builtin "len") [L2.V.ref _] _ _); refine L2.c_len (Or.inl (by assumption)) ?_)
 | ((with_reducible show L2.CL _ (PySem.Value.builtin "len") [L2.V.str _] _ _); refine L2.c_lenS (by omega) ?_)
 | ((with_reducible show L2.CL _ (PySem.Value.builtin "ord") [L2.V.str _] _ _); refine L2.c_ord ?_)
 | ((with_reducible show L2.CL _ (PySem.Value.builtin "isinstance") _ _ _); with_reducible first | refine L2.is_int_int ?_ | refine L2.is_int_bool ?_ | refine L2.is_int_str ?_ | refine L2.is_int_list ?_ | refine L2.is_int_tuple ?_ | refine L2.is_int_dict ?_ | refine L2.is_bool_int ?_ | refine L2.is_bool_bool ?_ | refine L2.is_bool_str ?_ | refine L2.is_bool_list ?_ | refine L2.is_bool_tuple ?_ | refine L2.is_bool_dict ?_ | refine L2.is_str_int ?_ | refine L2.is_str_bool ?_ | refine L2.is_str_str ?_ | refine L2.is_str_list ?_ | refine L2.is_str_tuple ?_ | refine L2.is_str_dict ?_ | refine L2.is_NoneType_int ?_ | refine L2.is_NoneType_bool ?_ | refine L2.is_NoneType_str ?_ | refine L2.is_NoneType_list ?_ | refine L2.is_NoneType_tuple ?_ | refine L2.is_NoneType_dict ?_))
local macro_rules | `(tactic| walk_at "t") => `(tactic| first
 | (with_reducible refine L2.iteT ?_)
 | (with_reducible refine L2.iteF ?_)
 | (with_reducible refine L2.iteNT ?_)
 | (with_reducible refine L2.iteNF ?_)
 | (with_reducible first | refine L2.iteZ ?_ | refine L2.iteZi ?_ | refine L2.iteZs ?_ | refine L2.iteZr ?_ | refine L2.iteZb ?_ | refine L2.iteY ?_ | refine L2.iteYi ?_ | refine L2.iteYs ?_ | refine L2.iteYr ?_ | refine L2.iteYb ?_)
 | ((with_reducible show ∃ k, L2.V.bl _ = L2.V.bl k /\ _); refine ⟨_, rfl, ?_⟩)
 | ((with_reducible show ∃ k, L2.TruV _ (L2.V.bl _) _ k /\ _); refine ⟨_, rfl, ?_⟩)
 | ((with_reducible show ∃ i, L2.V.int _ = L2.V.int i /\ _); refine ⟨_, rfl, ?_⟩)
 | ((with_reducible show L2.tyV _ _ (L2.V.str _) _ /\ _); refine ⟨by rfl, ?_⟩))
local macro_rules | `(tactic| walk_at "s") => `(tactic| first
 | (with_reducible refine L2.sxs_nil ?_)
 | (with_reducible refine L2.sxs_one ?_)
 | (with_reducible refine L2.sxs_cons ?_)
 | (with_reducible refine L2.sx_ret ?_)
 | (with_reducible refine L2.sx_retN ?_)
 | (with_reducible refine L2.sx_pass ?_)
 | (with_reducible refine L2.sx_if ?_)
 | ((with_reducible show L2.SX _ (PySem.Stmt.Assign [PySem.Expr.Name _ _] _ _) _ _ _); refine L2.sx_set (by assumption) (by rfl) (by first | exact Or.inl rfl | exact Or.inr rfl) (by rfl) (by first | exact Or.inl rfl | exact Or.inr rfl) ?_)
 | ((with_reducible show L2.SX _ (PySem.Stmt.Expr _ _) _ _ _); refine L2.sx_expr (by rfl) ?_))
local macro_rules | `(tactic| walk_at "go") => `(tactic| repeat' (first | (walk_at "e") | (walk_at "o") | (walk_at "o2") | (walk_at "t") | (walk_at "s")))
local macro_rules | `(tactic| walk_at "ex") => `(tactic| repeat' (first | (walk_at "e") | (walk_at "o") | (walk_at "o2") | (walk_at "t")))
namespace K33
open PySem L2 PyProof.Rows
def top (i : Nat) : Stmt := PySem.Challenge.pw_turnleaf_k33_moments_let_go.main.body.getD i (.Pass ⟨0, 0, 0, 0⟩)
abbrev s__wall : Stmt := top 0
abbrev s_is_whole : Stmt := top 24
abbrev s_made_of : Stmt := top 25
abbrev s_is_number_value : Stmt := top 26
abbrev s_is_text_value : Stmt := top 27
abbrev s_is_value : Stmt := top 28
abbrev s_is_name : Stmt := top 33
abbrev s_ask_columns : Stmt := top 34
abbrev s_is_row_number : Stmt := top 35
abbrev s_is_row : Stmt := top 36
abbrev s_told_rows : Stmt := top 38
abbrev s_told_values : Stmt := top 39
abbrev s_put_back : Stmt := top 40
abbrev s__law_draw : Stmt := top 43
abbrev s__law_columns : Stmt := top 44
abbrev s__law_value : Stmt := top 45
abbrev s__law_values : Stmt := top 46
abbrev s__law_numbers : Stmt := top 47
abbrev s__law_is_whole : Stmt := top 48
abbrev s__law_same : Stmt := top 49
abbrev s__law_same_rows : Stmt := top 50
abbrev s__law_asked : Stmt := top 51
abbrev s__law_moment : Stmt := top 52
abbrev s__law_right : Stmt := top 53
abbrev s_law : Stmt := top 54
abbrev s_Absent : Stmt := inClass (top 14) 0
abbrev s_Twice : Stmt := inClass (top 13) 0
abbrev s_Gone : Stmt := inClass (top 15) 0
abbrev s_Later : Stmt := inClass (top 16) 0
abbrev s_Book___init__ : Stmt := inClass (top 41) 0
abbrev s_Book_columns : Stmt := inClass (top 41) 1
abbrev s_Book_ask_row : Stmt := inClass (top 41) 2
abbrev s_Book_ask_there : Stmt := inClass (top 41) 3
abbrev s_Book_do : Stmt := inClass (top 41) 4
abbrev s_Book_put : Stmt := inClass (top 41) 5
abbrev s_Book_change : Stmt := inClass (top 41) 6
abbrev s_Book_take : Stmt := inClass (top 41) 7
abbrev s_Book_moment : Stmt := inClass (top 41) 8
abbrev s_Book_has : Stmt := inClass (top 41) 9
abbrev s_Book_values_of : Stmt := inClass (top 41) 10
abbrev s_Book_since : Stmt := inClass (top 41) 11
abbrev s_Book_now_rows : Stmt := inClass (top 41) 12
abbrev s_Book_oldest : Stmt := inClass (top 41) 13
abbrev s_Book_let_go : Stmt := inClass (top 41) 14
abbrev s_Book_done_behind : Stmt := inClass (top 41) 15
abbrev s_Book_rows_at : Stmt := inClass (top 41) 16
abbrev s_Book_deeds : Stmt := inClass (top 41) 17
structure Txt (K : PySem.W.Frag) (mg : Str -> Option Value) : Prop where
 d__wall : ∃ f fd, Fun K "_wall" "_wall" s__wall f fd /\ mg "_wall" = some (.ref f)
 d_is_whole : ∃ f fd, Fun K "is_whole" "is_whole" s_is_whole f fd /\ mg "is_whole" = some (.ref f)
 d_made_of : ∃ f fd, Fun K "made_of" "made_of" s_made_of f fd /\ mg "made_of" = some (.ref f)
 d_is_number_value : ∃ f fd, Fun K "is_number_value" "is_number_value" s_is_number_value f fd /\ mg "is_number_value" = some (.ref f)
 d_is_text_value : ∃ f fd, Fun K "is_text_value" "is_text_value" s_is_text_value f fd /\ mg "is_text_value" = some (.ref f)
 d_is_value : ∃ f fd, Fun K "is_value" "is_value" s_is_value f fd /\ mg "is_value" = some (.ref f)
 d_is_name : ∃ f fd, Fun K "is_name" "is_name" s_is_name f fd /\ mg "is_name" = some (.ref f)
 d_ask_columns : ∃ f fd, Fun K "ask_columns" "ask_columns" s_ask_columns f fd /\ mg "ask_columns" = some (.ref f)
 d_is_row_number : ∃ f fd, Fun K "is_row_number" "is_row_number" s_is_row_number f fd /\ mg "is_row_number" = some (.ref f)
 d_is_row : ∃ f fd, Fun K "is_row" "is_row" s_is_row f fd /\ mg "is_row" = some (.ref f)
 d_told_rows : ∃ f fd, Fun K "told_rows" "told_rows" s_told_rows f fd /\ mg "told_rows" = some (.ref f)
 d_told_values : ∃ f fd, Fun K "told_values" "told_values" s_told_values f fd /\ mg "told_values" = some (.ref f)
 d_put_back : ∃ f fd, Fun K "put_back" "put_back" s_put_back f fd /\ mg "put_back" = some (.ref f)
 d__law_draw : ∃ f fd, Fun K "_law_draw" "_law_draw" s__law_draw f fd /\ mg "_law_draw" = some (.ref f)
 d__law_columns : ∃ f fd, Fun K "_law_columns" "_law_columns" s__law_columns f fd /\ mg "_law_columns" = some (.ref f)
 d__law_value : ∃ f fd, Fun K "_law_value" "_law_value" s__law_value f fd /\ mg "_law_value" = some (.ref f)
 d__law_values : ∃ f fd, Fun K "_law_values" "_law_values" s__law_values f fd /\ mg "_law_values" = some (.ref f)
 d__law_numbers : ∃ f fd, Fun K "_law_numbers" "_law_numbers" s__law_numbers f fd /\ mg "_law_numbers" = some (.ref f)
 d__law_is_whole : ∃ f fd, Fun K "_law_is_whole" "_law_is_whole" s__law_is_whole f fd /\ mg "_law_is_whole" = some (.ref f)
 d__law_same : ∃ f fd, Fun K "_law_same" "_law_same" s__law_same f fd /\ mg "_law_same" = some (.ref f)
 d__law_same_rows : ∃ f fd, Fun K "_law_same_rows" "_law_same_rows" s__law_same_rows f fd /\ mg "_law_same_rows" = some (.ref f)
 d__law_asked : ∃ f fd, Fun K "_law_asked" "_law_asked" s__law_asked f fd /\ mg "_law_asked" = some (.ref f)
 d__law_moment : ∃ f fd, Fun K "_law_moment" "_law_moment" s__law_moment f fd /\ mg "_law_moment" = some (.ref f)
 d__law_right : ∃ f fd, Fun K "_law_right" "_law_right" s__law_right f fd /\ mg "_law_right" = some (.ref f)
 d_law : ∃ f fd, Fun K "law" "law" s_law f fd /\ mg "law" = some (.ref f)
 g_NUMBER : Gc mg "NUMBER" (.str "number")
 g_TEXT : Gc mg "TEXT" (.str "text")
 g_LETTERS : Gc mg "LETTERS" (.str "abcdefghijklmnopqrstuvwxyz")
 g_TEXT_SIGNS : Gc mg "TEXT_SIGNS" (.str "abcdefghijklmnopqrstuvwxyz0123456789-")
 g_LARGEST : Gc mg "LARGEST" (.int 1000000000000000000)
 g_LONGEST : Gc mg "LONGEST" (.int 20)
 g_MOST_COLUMNS : Gc mg "MOST_COLUMNS" (.int 6)
 g_LONGEST_NAME : Gc mg "LONGEST_NAME" (.int 8)
 g_LARGEST_ROW : Gc mg "LARGEST_ROW" (.int 1000000000)
 n_ValueError : mg "ValueError" = none
 n_all : mg "all" = none
 n_bool : mg "bool" = none
 n_dict : mg "dict" = none
 n_int : mg "int" = none
 n_isinstance : mg "isinstance" = none
 n_len : mg "len" = none
 n_list : mg "list" = none
 n_max : mg "max" = none
 n_range : mg "range" = none
 n_reversed : mg "reversed" = none
 n_set : mg "set" = none
 n_sorted : mg "sorted" = none
 n_str : mg "str" = none
 n_tuple : mg "tuple" = none
 n_zip : mg "zip" = none
 m_LeafError : mg "LeafError" = some (.ref (clsA mg "LeafError"))
 m_NoColumns : mg "NoColumns" = some (.ref (clsA mg "NoColumns"))
 m_NoValue : mg "NoValue" = some (.ref (clsA mg "NoValue"))
 m_NoOrder : mg "NoOrder" = some (.ref (clsA mg "NoOrder"))
 m_NoRow : mg "NoRow" = some (.ref (clsA mg "NoRow"))
 m_NoMark : mg "NoMark" = some (.ref (clsA mg "NoMark"))
 m_NoSize : mg "NoSize" = some (.ref (clsA mg "NoSize"))
 m_NoLine : mg "NoLine" = some (.ref (clsA mg "NoLine"))
 m_NoBook : mg "NoBook" = some (.ref (clsA mg "NoBook"))
 m_NoSieve : mg "NoSieve" = some (.ref (clsA mg "NoSieve"))
 m_NoPage : mg "NoPage" = some (.ref (clsA mg "NoPage"))
 m_Twice : mg "Twice" = some (.ref (clsA mg "Twice"))
 m_Absent : mg "Absent" = some (.ref (clsA mg "Absent"))
 m_Gone : mg "Gone" = some (.ref (clsA mg "Gone"))
 m_Later : mg "Later" = some (.ref (clsA mg "Later"))
 m_Book : mg "Book" = some (.ref (clsA mg "Book"))
 x_NoColumns : XCls K mg "NoColumns"
 x_NoRow : XCls K mg "NoRow"
 b_LeafError : XTop K mg "LeafError"
 c_NoColumns : XC K mg "LeafError" "NoColumns"
 c_NoValue : XC K mg "LeafError" "NoValue"
 c_NoOrder : XC K mg "LeafError" "NoOrder"
 c_NoRow : XC K mg "LeafError" "NoRow"
 c_NoMark : XC K mg "LeafError" "NoMark"
 c_NoSize : XC K mg "LeafError" "NoSize"
 c_NoLine : XC K mg "LeafError" "NoLine"
 c_NoBook : XC K mg "LeafError" "NoBook"
 c_NoSieve : XC K mg "LeafError" "NoSieve"
 c_NoPage : XC K mg "LeafError" "NoPage"
 c_Twice : XC K mg "LeafError" "Twice"
 c_Absent : XC K mg "LeafError" "Absent"
 c_Gone : XC K mg "LeafError" "Gone"
 c_Later : XC K mg "LeafError" "Later"
 i_Absent : XIni K mg "LeafError" "Absent" "Absent.__init__" "row" s_Absent
 i_Twice : XIni K mg "LeafError" "Twice" "Twice.__init__" "row" s_Twice
 i_Gone : XIni K mg "LeafError" "Gone" "Gone.__init__" "known" s_Gone
 i_Later : XIni K mg "LeafError" "Later" "Later.__init__" "now" s_Later
 f_Absent : PySem.W.findIn K (.ref (clsA mg "Absent")) "row" = some none
 f_Twice : PySem.W.findIn K (.ref (clsA mg "Twice")) "row" = some none
 f_Gone : PySem.W.findIn K (.ref (clsA mg "Gone")) "known" = some none
 f_Later : PySem.W.findIn K (.ref (clsA mg "Later")) "now" = some none
 nd_cls : [clsA mg "LeafError", clsA mg "NoColumns", clsA mg "NoValue", clsA mg "NoOrder", clsA mg "NoRow", clsA mg "NoMark", clsA mg "NoSize", clsA mg "NoLine", clsA mg "NoBook", clsA mg "NoSieve", clsA mg "NoPage", clsA mg "Twice", clsA mg "Absent", clsA mg "Gone", clsA mg "Later"].Nodup
 k_Book : Cls K (clsA mg "Book")
 oi_Book : OI K (clsA mg "Book") "Book.__init__" s_Book___init__
 o_Book_ask_row : OM K (clsA mg "Book") "ask_row" "Book.ask_row" s_Book_ask_row
 o_Book_ask_there : OM K (clsA mg "Book") "ask_there" "Book.ask_there" s_Book_ask_there
 o_Book_change : OM K (clsA mg "Book") "change" "Book.change" s_Book_change
 o_Book_columns : OM K (clsA mg "Book") "columns" "Book.columns" s_Book_columns
 o_Book_deeds : OM K (clsA mg "Book") "deeds" "Book.deeds" s_Book_deeds
 o_Book_do : OM K (clsA mg "Book") "do" "Book.do" s_Book_do
 o_Book_done_behind : OM K (clsA mg "Book") "done_behind" "Book.done_behind" s_Book_done_behind
 o_Book_has : OM K (clsA mg "Book") "has" "Book.has" s_Book_has
 o_Book_let_go : OM K (clsA mg "Book") "let_go" "Book.let_go" s_Book_let_go
 o_Book_moment : OM K (clsA mg "Book") "moment" "Book.moment" s_Book_moment
 o_Book_now_rows : OM K (clsA mg "Book") "now_rows" "Book.now_rows" s_Book_now_rows
 o_Book_oldest : OM K (clsA mg "Book") "oldest" "Book.oldest" s_Book_oldest
 o_Book_put : OM K (clsA mg "Book") "put" "Book.put" s_Book_put
 o_Book_rows_at : OM K (clsA mg "Book") "rows_at" "Book.rows_at" s_Book_rows_at
 o_Book_since : OM K (clsA mg "Book") "since" "Book.since" s_Book_since
 o_Book_take : OM K (clsA mg "Book") "take" "Book.take" s_Book_take
 o_Book_values_of : OM K (clsA mg "Book") "values_of" "Book.values_of" s_Book_values_of
 na_Book_heads : NoAttr K (clsA mg "Book") "heads"
 na_Book_rows : NoAttr K (clsA mg "Book") "rows"
 na_Book_touched : NoAttr K (clsA mg "Book") "touched"
 na_Book_done : NoAttr K (clsA mg "Book") "done"
 na_Book_known : NoAttr K (clsA mg "Book") "known"
 na_Book_now : NoAttr K (clsA mg "Book") "now"
abbrev N_Book___init__ : List Str := ["self", "columns"]
theorem sc_Book___init__ : FnScope N_Book___init__ ["self", "columns"] (defScope s_Book___init__) := ⟨rfl, rfl, rfl, by decide +kernel, rfl, by decide +kernel, by decide +kernel⟩
abbrev N_Book_columns : List Str := ["self"]
abbrev N_Book_ask_row : List Str := ["self", "row", "values"]
theorem sc_Book_ask_row : FnScope N_Book_ask_row ["self", "row", "values"] (defScope s_Book_ask_row) := ⟨rfl, rfl, rfl, by decide +kernel, rfl, by decide +kernel, by decide +kernel⟩
abbrev N_Book_ask_there : List Str := ["self", "row"]
theorem sc_Book_ask_there : FnScope N_Book_ask_there ["self", "row"] (defScope s_Book_ask_there) := ⟨rfl, rfl, rfl, by decide +kernel, rfl, by decide +kernel, by decide +kernel⟩
abbrev N_Book_do : List Str := ["self", "row", "values", "was"]
theorem sc_Book_do : FnScope N_Book_do ["self", "row", "values"] (defScope s_Book_do) := ⟨rfl, rfl, rfl, by decide +kernel, rfl, by decide +kernel, by decide +kernel⟩
abbrev N_Book_put : List Str := ["self", "row", "values"]
theorem sc_Book_put : FnScope N_Book_put ["self", "row", "values"] (defScope s_Book_put) := ⟨rfl, rfl, rfl, by decide +kernel, rfl, by decide +kernel, by decide +kernel⟩
abbrev N_Book_change : List Str := ["self", "row", "values"]
theorem sc_Book_change : FnScope N_Book_change ["self", "row", "values"] (defScope s_Book_change) := ⟨rfl, rfl, rfl, by decide +kernel, rfl, by decide +kernel, by decide +kernel⟩
abbrev N_Book_take : List Str := ["self", "row"]
theorem sc_Book_take : FnScope N_Book_take ["self", "row"] (defScope s_Book_take) := ⟨rfl, rfl, rfl, by decide +kernel, rfl, by decide +kernel, by decide +kernel⟩
abbrev N_Book_moment : List Str := ["self"]
theorem sc_Book_moment : FnScope N_Book_moment ["self"] (defScope s_Book_moment) := ⟨rfl, rfl, rfl, by decide +kernel, rfl, by decide +kernel, by decide +kernel⟩
abbrev N_Book_has : List Str := ["self", "row"]
abbrev N_Book_values_of : List Str := ["self", "row"]
abbrev N_Book_since : List Str := ["self", "row"]
theorem sc_Book_since : FnScope N_Book_since ["self", "row"] (defScope s_Book_since) := ⟨rfl, rfl, rfl, by decide +kernel, rfl, by decide +kernel, by decide +kernel⟩
abbrev N_Book_now_rows : List Str := ["self"]
theorem sc_Book_now_rows : FnScope N_Book_now_rows ["self"] (defScope s_Book_now_rows) := ⟨rfl, rfl, rfl, by decide +kernel, rfl, by decide +kernel, by decide +kernel⟩
abbrev N_Book_oldest : List Str := ["self"]
theorem sc_Book_oldest : FnScope N_Book_oldest ["self"] (defScope s_Book_oldest) := ⟨rfl, rfl, rfl, by decide +kernel, rfl, by decide +kernel, by decide +kernel⟩
abbrev N_Book_let_go : List Str := ["self", "moment"]
theorem sc_Book_let_go : FnScope N_Book_let_go ["self", "moment"] (defScope s_Book_let_go) := ⟨rfl, rfl, rfl, by decide +kernel, rfl, by decide +kernel, by decide +kernel⟩
abbrev N_Book_done_behind : List Str := ["self", "moment"]
theorem sc_Book_done_behind : FnScope N_Book_done_behind ["self", "moment"] (defScope s_Book_done_behind) := ⟨rfl, rfl, rfl, by decide +kernel, rfl, by decide +kernel, by decide +kernel⟩
abbrev N_Book_rows_at : List Str := ["self", "moment", "rows", "deed"]
theorem sc_Book_rows_at : FnScope N_Book_rows_at ["self", "moment"] (defScope s_Book_rows_at) := ⟨rfl, rfl, rfl, by decide +kernel, rfl, by decide +kernel, by decide +kernel⟩
abbrev N_Book_deeds : List Str := ["self", "moment", "behind"]
theorem sc_Book_deeds : FnScope N_Book_deeds ["self", "moment"] (defScope s_Book_deeds) := ⟨rfl, rfl, rfl, by decide +kernel, rfl, by decide +kernel, by decide +kernel⟩
abbrev N_Absent : List Str := ["self", "row"]
theorem sc_Absent : FnScope N_Absent ["self", "row"] (defScope s_Absent) := ⟨rfl, rfl, rfl, by decide +kernel, rfl, by decide +kernel, by decide +kernel⟩
abbrev N_Twice : List Str := ["self", "row"]
theorem sc_Twice : FnScope N_Twice ["self", "row"] (defScope s_Twice) := ⟨rfl, rfl, rfl, by decide +kernel, rfl, by decide +kernel, by decide +kernel⟩
abbrev N_Gone : List Str := ["self", "known"]
theorem sc_Gone : FnScope N_Gone ["self", "known"] (defScope s_Gone) := ⟨rfl, rfl, rfl, by decide +kernel, rfl, by decide +kernel, by decide +kernel⟩
abbrev N_Later : List Str := ["self", "now"]
theorem sc_Later : FnScope N_Later ["self", "now"] (defScope s_Later) := ⟨rfl, rfl, rfl, by decide +kernel, rfl, by decide +kernel, by decide +kernel⟩
abbrev N__wall : List Str := ["k"]
abbrev N_is_whole : List Str := ["value"]
theorem sc_is_whole : FnScope N_is_whole ["value"] (defScope s_is_whole) := ⟨rfl, rfl, rfl, by decide +kernel, rfl, by decide +kernel, by decide +kernel⟩
abbrev N_made_of : List Str := ["text", "signs"]
theorem sc_made_of : FnScope N_made_of ["text", "signs"] (defScope s_made_of) := ⟨rfl, rfl, rfl, by decide +kernel, rfl, by decide +kernel, by decide +kernel⟩
abbrev N_is_number_value : List Str := ["value"]
theorem sc_is_number_value : FnScope N_is_number_value ["value"] (defScope s_is_number_value) := ⟨rfl, rfl, rfl, by decide +kernel, rfl, by decide +kernel, by decide +kernel⟩
abbrev N_is_text_value : List Str := ["value"]
theorem sc_is_text_value : FnScope N_is_text_value ["value"] (defScope s_is_text_value) := ⟨rfl, rfl, rfl, by decide +kernel, rfl, by decide +kernel, by decide +kernel⟩
abbrev N_is_value : List Str := ["kind", "value"]
theorem sc_is_value : FnScope N_is_value ["kind", "value"] (defScope s_is_value) := ⟨rfl, rfl, rfl, by decide +kernel, rfl, by decide +kernel, by decide +kernel⟩
abbrev N_is_name : List Str := ["name"]
theorem sc_is_name : FnScope N_is_name ["name"] (defScope s_is_name) := ⟨rfl, rfl, rfl, by decide +kernel, rfl, by decide +kernel, by decide +kernel⟩
abbrev N_ask_columns : List Str := ["columns", "name", "kind", "names"]
theorem sc_ask_columns : FnScope N_ask_columns ["columns"] (defScope s_ask_columns) := ⟨rfl, rfl, rfl, by decide +kernel, rfl, by decide +kernel, by decide +kernel⟩
abbrev N_is_row_number : List Str := ["row"]
theorem sc_is_row_number : FnScope N_is_row_number ["row"] (defScope s_is_row_number) := ⟨rfl, rfl, rfl, by decide +kernel, rfl, by decide +kernel, by decide +kernel⟩
abbrev N_is_row : List Str := ["columns", "row", "values"]
theorem sc_is_row : FnScope N_is_row ["columns", "row", "values"] (defScope s_is_row) := ⟨rfl, rfl, rfl, by decide +kernel, rfl, by decide +kernel, by decide +kernel⟩
abbrev N_told_rows : List Str := ["rows"]
theorem sc_told_rows : FnScope N_told_rows ["rows"] (defScope s_told_rows) := ⟨rfl, rfl, rfl, by decide +kernel, rfl, by decide +kernel, by decide +kernel⟩
abbrev N_told_values : List Str := ["values"]
theorem sc_told_values : FnScope N_told_values ["values"] (defScope s_told_values) := ⟨rfl, rfl, rfl, by decide +kernel, rfl, by decide +kernel, by decide +kernel⟩
abbrev N_put_back : List Str := ["rows", "row", "was"]
theorem sc_put_back : FnScope N_put_back ["rows", "row", "was"] (defScope s_put_back) := ⟨rfl, rfl, rfl, by decide +kernel, rfl, by decide +kernel, by decide +kernel⟩
abbrev N__law_draw : List Str := ["_law_script", "_law_k", "_law_many", "_law_cell", "_law_seed"]
theorem sc__law_draw : FnScope N__law_draw ["_law_script", "_law_k", "_law_many"] (defScope s__law_draw) := ⟨rfl, rfl, rfl, by decide +kernel, rfl, by decide +kernel, by decide +kernel⟩
abbrev N__law_columns : List Str := ["_law_script", "_law_base", "_law_most", "_law_letters", "_law_word", "_law_way", "_law_at", "_law_columns_here", "_law_k", "_law_sign", "_law_size", "_law_name"]
theorem sc__law_columns : FnScope N__law_columns ["_law_script", "_law_base", "_law_most"] (defScope s__law_columns) := ⟨rfl, rfl, rfl, by decide +kernel, rfl, by decide +kernel, by decide +kernel⟩
abbrev N__law_value : List Str := ["_law_script", "_law_k", "_law_kind", "_law_way", "_law_cell", "_law_far", "_law_signs", "_law_size"]
theorem sc__law_value : FnScope N__law_value ["_law_script", "_law_k", "_law_kind"] (defScope s__law_value) := ⟨rfl, rfl, rfl, by decide +kernel, rfl, by decide +kernel, by decide +kernel⟩
abbrev N__law_values : List Str := ["_law_script", "_law_k", "_law_columns_here"]
theorem sc__law_values : FnScope N__law_values ["_law_script", "_law_k", "_law_columns_here"] (defScope s__law_values) := ⟨rfl, rfl, rfl, by decide +kernel, rfl, by decide +kernel, by decide +kernel⟩
abbrev N__law_numbers : List Str := ["_law_script", "_law_some", "_law_k", "_law_number"]
theorem sc__law_numbers : FnScope N__law_numbers ["_law_script"] (defScope s__law_numbers) := ⟨rfl, rfl, rfl, by decide +kernel, rfl, by decide +kernel, by decide +kernel⟩
abbrev N__law_is_whole : List Str := ["_law_found", "_law_due"]
theorem sc__law_is_whole : FnScope N__law_is_whole ["_law_found", "_law_due"] (defScope s__law_is_whole) := ⟨rfl, rfl, rfl, by decide +kernel, rfl, by decide +kernel, by decide +kernel⟩
abbrev N__law_same : List Str := ["_law_found", "_law_due", "_law_k"]
theorem sc__law_same : FnScope N__law_same ["_law_found", "_law_due"] (defScope s__law_same) := ⟨rfl, rfl, rfl, by decide +kernel, rfl, by decide +kernel, by decide +kernel⟩
abbrev N__law_same_rows : List Str := ["_law_found", "_law_due", "_law_k"]
theorem sc__law_same_rows : FnScope N__law_same_rows ["_law_found", "_law_due"] (defScope s__law_same_rows) := ⟨rfl, rfl, rfl, by decide +kernel, rfl, by decide +kernel, by decide +kernel⟩
abbrev N__law_asked : List Str := ["_law_book", "_law_way", "_law_moment_here", "_law_told", "e"]
theorem sc__law_asked : FnScope N__law_asked ["_law_book", "_law_way", "_law_moment_here"] (defScope s__law_asked) := ⟨rfl, rfl, rfl, by decide +kernel, rfl, by decide +kernel, by decide +kernel⟩
abbrev N__law_moment : List Str := ["_law_script", "_law_k", "_law_oldest", "_law_now", "_law_cell", "_law_far", "_law_between", "_law_some"]
theorem sc__law_moment : FnScope N__law_moment ["_law_script", "_law_k", "_law_oldest", "_law_now"] (defScope s__law_moment) := ⟨rfl, rfl, rfl, by decide +kernel, rfl, by decide +kernel, by decide +kernel⟩
abbrev N__law_right : List Str := ["_law_book", "_law_way", "_law_moment_here", "_law_oldest", "_law_states", "_law_log", "_law_now", "_law_told"]
theorem sc__law_right : FnScope N__law_right ["_law_book", "_law_way", "_law_moment_here", "_law_oldest", "_law_states", "_law_log"] (defScope s__law_right) := ⟨rfl, rfl, rfl, by decide +kernel, rfl, by decide +kernel, by decide +kernel⟩
abbrev N_law : List Str := ["_law_script", "_law_columns_here", "_law_book", "_law_numbers_here", "_law_kept", "_law_since", "_law_states", "_law_log", "_law_oldest", "_law_k", "_law_row", "_law_values_here", "_law_way", "_law_moment_here", "_law_one"]
theorem sc_law : FnScope N_law ["_law_script"] (defScope s_law) := ⟨rfl, rfl, rfl, by decide +kernel, rfl, by decide +kernel, by decide +kernel⟩
section
variable {P : Program} {w : World} {K : PySem.W.Frag} {mg : Str -> Option Value} {base : Heap}
theorem df_is_whole (T : Txt K mg) {cc : Bool} {k : Nat} {sp : Sp} (len : ∀ vs H Q E, sp vs H Q E -> vs.length = 1) (body : ∀ (f : Addr) (cdv : Value) (A : Around) (outer : List Env) (s : Shared) (H : Hp) (vs : List V) (Q : VK) (E : XK), Room cc k (A.deeper (envOfC "is_whole" (defScope s_is_whole) s.heap.objs.size f cdv)) -> sp vs H Q E -> SXs (CxF cc P w K mg base N_is_whole "is_whole" (defScope s_is_whole) f cdv A outer s H E) (defBody s_is_whole) { nx := fun _ H' => Q .non H', rt := Q } (start N_is_whole vs) H) : Def P w K mg base cc (k + 1) "is_whole" ["value"] sp := def_of T.d_is_whole sc_is_whole (fun _ _ _ _ _ _ us hl => match us, hl with | [_], _ => rfl) len body
theorem df_made_of (T : Txt K mg) {cc : Bool} {k : Nat} {sp : Sp} (len : ∀ vs H Q E, sp vs H Q E -> vs.length = 2) (body : ∀ (f : Addr) (cdv : Value) (A : Around) (outer : List Env) (s : Shared) (H : Hp) (vs : List V) (Q : VK) (E : XK), Room cc k (A.deeper (envOfC "made_of" (defScope s_made_of) s.heap.objs.size f cdv)) -> sp vs H Q E -> SXs (CxF cc P w K mg base N_made_of "made_of" (defScope s_made_of) f cdv A outer s H E) (defBody s_made_of) { nx := fun _ H' => Q .non H', rt := Q } (start N_made_of vs) H) : Def P w K mg base cc (k + 1) "made_of" ["text", "signs"] sp := def_of T.d_made_of sc_made_of (fun _ _ _ _ _ _ us hl => match us, hl with | [_, _], _ => rfl) len body
theorem df_is_number_value (T : Txt K mg) {cc : Bool} {k : Nat} {sp : Sp} (len : ∀ vs H Q E, sp vs H Q E -> vs.length = 1) (body : ∀ (f : Addr) (cdv : Value) (A : Around) (outer : List Env) (s : Shared) (H : Hp) (vs : List V) (Q : VK) (E : XK), Room cc k (A.deeper (envOfC "is_number_value" (defScope s_is_number_value) s.heap.objs.size f cdv)) -> sp vs H Q E -> SXs (CxF cc P w K mg base N_is_number_value "is_number_value" (defScope s_is_number_value) f cdv A outer s H E) (defBody s_is_number_value) { nx := fun _ H' => Q .non H', rt := Q } (start N_is_number_value vs) H) : Def P w K mg base cc (k + 1) "is_number_value" ["value"] sp := def_of T.d_is_number_value sc_is_number_value (fun _ _ _ _ _ _ us hl => match us, hl with | [_], _ => rfl) len body
theorem df_is_text_value (T : Txt K mg) {cc : Bool} {k : Nat} {sp : Sp} (len : ∀ vs H Q E, sp vs H Q E -> vs.length = 1) (body : ∀ (f : Addr) (cdv : Value) (A : Around) (outer : List Env) (s : Shared) (H : Hp) (vs : List V) (Q : VK) (E : XK), Room cc k (A.deeper (envOfC "is_text_value" (defScope s_is_text_value) s.heap.objs.size f cdv)) -> sp vs H Q E -> SXs (CxF cc P w K mg base N_is_text_value "is_text_value" (defScope s_is_text_value) f cdv A outer s H E) (defBody s_is_text_value) { nx := fun _ H' => Q .non H', rt := Q } (start N_is_text_value vs) H) : Def P w K mg base cc (k + 1) "is_text_value" ["value"] sp := def_of T.d_is_text_value sc_is_text_value (fun _ _ _ _ _ _ us hl => match us, hl with | [_], _ => rfl) len body
theorem df_is_value (T : Txt K mg) {cc : Bool} {k : Nat} {sp : Sp} (len : ∀ vs H Q E, sp vs H Q E -> vs.length = 2) (body : ∀ (f : Addr) (cdv : Value) (A : Around) (outer : List Env) (s : Shared) (H : Hp) (vs : List V) (Q : VK) (E : XK), Room cc k (A.deeper (envOfC "is_value" (defScope s_is_value) s.heap.objs.size f cdv)) -> sp vs H Q E -> SXs (CxF cc P w K mg base N_is_value "is_value" (defScope s_is_value) f cdv A outer s H E) (defBody s_is_value) { nx := fun _ H' => Q .non H', rt := Q } (start N_is_value vs) H) : Def P w K mg base cc (k + 1) "is_value" ["kind", "value"] sp := def_of T.d_is_value sc_is_value (fun _ _ _ _ _ _ us hl => match us, hl with | [_, _], _ => rfl) len body
theorem df_is_name (T : Txt K mg) {cc : Bool} {k : Nat} {sp : Sp} (len : ∀ vs H Q E, sp vs H Q E -> vs.length = 1) (body : ∀ (f : Addr) (cdv : Value) (A : Around) (outer : List Env) (s : Shared) (H : Hp) (vs : List V) (Q : VK) (E : XK), Room cc k (A.deeper (envOfC "is_name" (defScope s_is_name) s.heap.objs.size f cdv)) -> sp vs H Q E -> SXs (CxF cc P w K mg base N_is_name "is_name" (defScope s_is_name) f cdv A outer s H E) (defBody s_is_name) { nx := fun _ H' => Q .non H', rt := Q } (start N_is_name vs) H) : Def P w K mg base cc (k + 1) "is_name" ["name"] sp := def_of T.d_is_name sc_is_name (fun _ _ _ _ _ _ us hl => match us, hl with | [_], _ => rfl) len body
theorem df_ask_columns (T : Txt K mg) {cc : Bool} {k : Nat} {sp : Sp} (len : ∀ vs H Q E, sp vs H Q E -> vs.length = 1) (body : ∀ (f : Addr) (cdv : Value) (A : Around) (outer : List Env) (s : Shared) (H : Hp) (vs : List V) (Q : VK) (E : XK), Room cc k (A.deeper (envOfC "ask_columns" (defScope s_ask_columns) s.heap.objs.size f cdv)) -> sp vs H Q E -> SXs (CxF cc P w K mg base N_ask_columns "ask_columns" (defScope s_ask_columns) f cdv A outer s H E) (defBody s_ask_columns) { nx := fun _ H' => Q .non H', rt := Q } (start N_ask_columns vs) H) : Def P w K mg base cc (k + 1) "ask_columns" ["columns"] sp := def_of T.d_ask_columns sc_ask_columns (fun _ _ _ _ _ _ us hl => match us, hl with | [_], _ => rfl) len body
theorem df_is_row_number (T : Txt K mg) {cc : Bool} {k : Nat} {sp : Sp} (len : ∀ vs H Q E, sp vs H Q E -> vs.length = 1) (body : ∀ (f : Addr) (cdv : Value) (A : Around) (outer : List Env) (s : Shared) (H : Hp) (vs : List V) (Q : VK) (E : XK), Room cc k (A.deeper (envOfC "is_row_number" (defScope s_is_row_number) s.heap.objs.size f cdv)) -> sp vs H Q E -> SXs (CxF cc P w K mg base N_is_row_number "is_row_number" (defScope s_is_row_number) f cdv A outer s H E) (defBody s_is_row_number) { nx := fun _ H' => Q .non H', rt := Q } (start N_is_row_number vs) H) : Def P w K mg base cc (k + 1) "is_row_number" ["row"] sp := def_of T.d_is_row_number sc_is_row_number (fun _ _ _ _ _ _ us hl => match us, hl with | [_], _ => rfl) len body
theorem df_is_row (T : Txt K mg) {cc : Bool} {k : Nat} {sp : Sp} (len : ∀ vs H Q E, sp vs H Q E -> vs.length = 3) (body : ∀ (f : Addr) (cdv : Value) (A : Around) (outer : List Env) (s : Shared) (H : Hp) (vs : List V) (Q : VK) (E : XK), Room cc k (A.deeper (envOfC "is_row" (defScope s_is_row) s.heap.objs.size f cdv)) -> sp vs H Q E -> SXs (CxF cc P w K mg base N_is_row "is_row" (defScope s_is_row) f cdv A outer s H E) (defBody s_is_row) { nx := fun _ H' => Q .non H', rt := Q } (start N_is_row vs) H) : Def P w K mg base cc (k + 1) "is_row" ["columns", "row", "values"] sp := def_of T.d_is_row sc_is_row (fun _ _ _ _ _ _ us hl => match us, hl with | [_, _, _], _ => rfl) len body
theorem df_told_rows (T : Txt K mg) {cc : Bool} {k : Nat} {sp : Sp} (len : ∀ vs H Q E, sp vs H Q E -> vs.length = 1) (body : ∀ (f : Addr) (cdv : Value) (A : Around) (outer : List Env) (s : Shared) (H : Hp) (vs : List V) (Q : VK) (E : XK), Room cc k (A.deeper (envOfC "told_rows" (defScope s_told_rows) s.heap.objs.size f cdv)) -> sp vs H Q E -> SXs (CxF cc P w K mg base N_told_rows "told_rows" (defScope s_told_rows) f cdv A outer s H E) (defBody s_told_rows) { nx := fun _ H' => Q .non H', rt := Q } (start N_told_rows vs) H) : Def P w K mg base cc (k + 1) "told_rows" ["rows"] sp := def_of T.d_told_rows sc_told_rows (fun _ _ _ _ _ _ us hl => match us, hl with | [_], _ => rfl) len body
theorem df_told_values (T : Txt K mg) {cc : Bool} {k : Nat} {sp : Sp} (len : ∀ vs H Q E, sp vs H Q E -> vs.length = 1) (body : ∀ (f : Addr) (cdv : Value) (A : Around) (outer : List Env) (s : Shared) (H : Hp) (vs : List V) (Q : VK) (E : XK), Room cc k (A.deeper (envOfC "told_values" (defScope s_told_values) s.heap.objs.size f cdv)) -> sp vs H Q E -> SXs (CxF cc P w K mg base N_told_values "told_values" (defScope s_told_values) f cdv A outer s H E) (defBody s_told_values) { nx := fun _ H' => Q .non H', rt := Q } (start N_told_values vs) H) : Def P w K mg base cc (k + 1) "told_values" ["values"] sp := def_of T.d_told_values sc_told_values (fun _ _ _ _ _ _ us hl => match us, hl with | [_], _ => rfl) len body
theorem df_put_back (T : Txt K mg) {cc : Bool} {k : Nat} {sp : Sp} (len : ∀ vs H Q E, sp vs H Q E -> vs.length = 3) (body : ∀ (f : Addr) (cdv : Value) (A : Around) (outer : List Env) (s : Shared) (H : Hp) (vs : List V) (Q : VK) (E : XK), Room cc k (A.deeper (envOfC "put_back" (defScope s_put_back) s.heap.objs.size f cdv)) -> sp vs H Q E -> SXs (CxF cc P w K mg base N_put_back "put_back" (defScope s_put_back) f cdv A outer s H E) (defBody s_put_back) { nx := fun _ H' => Q .non H', rt := Q } (start N_put_back vs) H) : Def P w K mg base cc (k + 1) "put_back" ["rows", "row", "was"] sp := def_of T.d_put_back sc_put_back (fun _ _ _ _ _ _ us hl => match us, hl with | [_, _, _], _ => rfl) len body
theorem df__law_draw (T : Txt K mg) {cc : Bool} {k : Nat} {sp : Sp} (len : ∀ vs H Q E, sp vs H Q E -> vs.length = 3) (body : ∀ (f : Addr) (cdv : Value) (A : Around) (outer : List Env) (s : Shared) (H : Hp) (vs : List V) (Q : VK) (E : XK), Room cc k (A.deeper (envOfC "_law_draw" (defScope s__law_draw) s.heap.objs.size f cdv)) -> sp vs H Q E -> SXs (CxF cc P w K mg base N__law_draw "_law_draw" (defScope s__law_draw) f cdv A outer s H E) (defBody s__law_draw) { nx := fun _ H' => Q .non H', rt := Q } (start N__law_draw vs) H) : Def P w K mg base cc (k + 1) "_law_draw" ["_law_script", "_law_k", "_law_many"] sp := def_of T.d__law_draw sc__law_draw (fun _ _ _ _ _ _ us hl => match us, hl with | [_, _, _], _ => rfl) len body
theorem df__law_columns (T : Txt K mg) {cc : Bool} {k : Nat} {sp : Sp} (len : ∀ vs H Q E, sp vs H Q E -> vs.length = 3) (body : ∀ (f : Addr) (cdv : Value) (A : Around) (outer : List Env) (s : Shared) (H : Hp) (vs : List V) (Q : VK) (E : XK), Room cc k (A.deeper (envOfC "_law_columns" (defScope s__law_columns) s.heap.objs.size f cdv)) -> sp vs H Q E -> SXs (CxF cc P w K mg base N__law_columns "_law_columns" (defScope s__law_columns) f cdv A outer s H E) (defBody s__law_columns) { nx := fun _ H' => Q .non H', rt := Q } (start N__law_columns vs) H) : Def P w K mg base cc (k + 1) "_law_columns" ["_law_script", "_law_base", "_law_most"] sp := def_of T.d__law_columns sc__law_columns (fun _ _ _ _ _ _ us hl => match us, hl with | [_, _, _], _ => rfl) len body
theorem df__law_value (T : Txt K mg) {cc : Bool} {k : Nat} {sp : Sp} (len : ∀ vs H Q E, sp vs H Q E -> vs.length = 3) (body : ∀ (f : Addr) (cdv : Value) (A : Around) (outer : List Env) (s : Shared) (H : Hp) (vs : List V) (Q : VK) (E : XK), Room cc k (A.deeper (envOfC "_law_value" (defScope s__law_value) s.heap.objs.size f cdv)) -> sp vs H Q E -> SXs (CxF cc P w K mg base N__law_value "_law_value" (defScope s__law_value) f cdv A outer s H E) (defBody s__law_value) { nx := fun _ H' => Q .non H', rt := Q } (start N__law_value vs) H) : Def P w K mg base cc (k + 1) "_law_value" ["_law_script", "_law_k", "_law_kind"] sp := def_of T.d__law_value sc__law_value (fun _ _ _ _ _ _ us hl => match us, hl with | [_, _, _], _ => rfl) len body
theorem df__law_values (T : Txt K mg) {cc : Bool} {k : Nat} {sp : Sp} (len : ∀ vs H Q E, sp vs H Q E -> vs.length = 3) (body : ∀ (f : Addr) (cdv : Value) (A : Around) (outer : List Env) (s : Shared) (H : Hp) (vs : List V) (Q : VK) (E : XK), Room cc k (A.deeper (envOfC "_law_values" (defScope s__law_values) s.heap.objs.size f cdv)) -> sp vs H Q E -> SXs (CxF cc P w K mg base N__law_values "_law_values" (defScope s__law_values) f cdv A outer s H E) (defBody s__law_values) { nx := fun _ H' => Q .non H', rt := Q } (start N__law_values vs) H) : Def P w K mg base cc (k + 1) "_law_values" ["_law_script", "_law_k", "_law_columns_here"] sp := def_of T.d__law_values sc__law_values (fun _ _ _ _ _ _ us hl => match us, hl with | [_, _, _], _ => rfl) len body
theorem df__law_numbers (T : Txt K mg) {cc : Bool} {k : Nat} {sp : Sp} (len : ∀ vs H Q E, sp vs H Q E -> vs.length = 1) (body : ∀ (f : Addr) (cdv : Value) (A : Around) (outer : List Env) (s : Shared) (H : Hp) (vs : List V) (Q : VK) (E : XK), Room cc k (A.deeper (envOfC "_law_numbers" (defScope s__law_numbers) s.heap.objs.size f cdv)) -> sp vs H Q E -> SXs (CxF cc P w K mg base N__law_numbers "_law_numbers" (defScope s__law_numbers) f cdv A outer s H E) (defBody s__law_numbers) { nx := fun _ H' => Q .non H', rt := Q } (start N__law_numbers vs) H) : Def P w K mg base cc (k + 1) "_law_numbers" ["_law_script"] sp := def_of T.d__law_numbers sc__law_numbers (fun _ _ _ _ _ _ us hl => match us, hl with | [_], _ => rfl) len body
theorem df__law_is_whole (T : Txt K mg) {cc : Bool} {k : Nat} {sp : Sp} (len : ∀ vs H Q E, sp vs H Q E -> vs.length = 2) (body : ∀ (f : Addr) (cdv : Value) (A : Around) (outer : List Env) (s : Shared) (H : Hp) (vs : List V) (Q : VK) (E : XK), Room cc k (A.deeper (envOfC "_law_is_whole" (defScope s__law_is_whole) s.heap.objs.size f cdv)) -> sp vs H Q E -> SXs (CxF cc P w K mg base N__law_is_whole "_law_is_whole" (defScope s__law_is_whole) f cdv A outer s H E) (defBody s__law_is_whole) { nx := fun _ H' => Q .non H', rt := Q } (start N__law_is_whole vs) H) : Def P w K mg base cc (k + 1) "_law_is_whole" ["_law_found", "_law_due"] sp := def_of T.d__law_is_whole sc__law_is_whole (fun _ _ _ _ _ _ us hl => match us, hl with | [_, _], _ => rfl) len body
theorem df__law_same (T : Txt K mg) {cc : Bool} {k : Nat} {sp : Sp} (len : ∀ vs H Q E, sp vs H Q E -> vs.length = 2) (body : ∀ (f : Addr) (cdv : Value) (A : Around) (outer : List Env) (s : Shared) (H : Hp) (vs : List V) (Q : VK) (E : XK), Room cc k (A.deeper (envOfC "_law_same" (defScope s__law_same) s.heap.objs.size f cdv)) -> sp vs H Q E -> SXs (CxF cc P w K mg base N__law_same "_law_same" (defScope s__law_same) f cdv A outer s H E) (defBody s__law_same) { nx := fun _ H' => Q .non H', rt := Q } (start N__law_same vs) H) : Def P w K mg base cc (k + 1) "_law_same" ["_law_found", "_law_due"] sp := def_of T.d__law_same sc__law_same (fun _ _ _ _ _ _ us hl => match us, hl with | [_, _], _ => rfl) len body
theorem df__law_same_rows (T : Txt K mg) {cc : Bool} {k : Nat} {sp : Sp} (len : ∀ vs H Q E, sp vs H Q E -> vs.length = 2) (body : ∀ (f : Addr) (cdv : Value) (A : Around) (outer : List Env) (s : Shared) (H : Hp) (vs : List V) (Q : VK) (E : XK), Room cc k (A.deeper (envOfC "_law_same_rows" (defScope s__law_same_rows) s.heap.objs.size f cdv)) -> sp vs H Q E -> SXs (CxF cc P w K mg base N__law_same_rows "_law_same_rows" (defScope s__law_same_rows) f cdv A outer s H E) (defBody s__law_same_rows) { nx := fun _ H' => Q .non H', rt := Q } (start N__law_same_rows vs) H) : Def P w K mg base cc (k + 1) "_law_same_rows" ["_law_found", "_law_due"] sp := def_of T.d__law_same_rows sc__law_same_rows (fun _ _ _ _ _ _ us hl => match us, hl with | [_, _], _ => rfl) len body
theorem df__law_asked (T : Txt K mg) {cc : Bool} {k : Nat} {sp : Sp} (len : ∀ vs H Q E, sp vs H Q E -> vs.length = 3) (body : ∀ (f : Addr) (cdv : Value) (A : Around) (outer : List Env) (s : Shared) (H : Hp) (vs : List V) (Q : VK) (E : XK), Room cc k (A.deeper (envOfC "_law_asked" (defScope s__law_asked) s.heap.objs.size f cdv)) -> sp vs H Q E -> SXs (CxF cc P w K mg base N__law_asked "_law_asked" (defScope s__law_asked) f cdv A outer s H E) (defBody s__law_asked) { nx := fun _ H' => Q .non H', rt := Q } (start N__law_asked vs) H) : Def P w K mg base cc (k + 1) "_law_asked" ["_law_book", "_law_way", "_law_moment_here"] sp := def_of T.d__law_asked sc__law_asked (fun _ _ _ _ _ _ us hl => match us, hl with | [_, _, _], _ => rfl) len body
theorem df__law_moment (T : Txt K mg) {cc : Bool} {k : Nat} {sp : Sp} (len : ∀ vs H Q E, sp vs H Q E -> vs.length = 4) (body : ∀ (f : Addr) (cdv : Value) (A : Around) (outer : List Env) (s : Shared) (H : Hp) (vs : List V) (Q : VK) (E : XK), Room cc k (A.deeper (envOfC "_law_moment" (defScope s__law_moment) s.heap.objs.size f cdv)) -> sp vs H Q E -> SXs (CxF cc P w K mg base N__law_moment "_law_moment" (defScope s__law_moment) f cdv A outer s H E) (defBody s__law_moment) { nx := fun _ H' => Q .non H', rt := Q } (start N__law_moment vs) H) : Def P w K mg base cc (k + 1) "_law_moment" ["_law_script", "_law_k", "_law_oldest", "_law_now"] sp := def_of T.d__law_moment sc__law_moment (fun _ _ _ _ _ _ us hl => match us, hl with | [_, _, _, _], _ => rfl) len body
theorem df__law_right (T : Txt K mg) {cc : Bool} {k : Nat} {sp : Sp} (len : ∀ vs H Q E, sp vs H Q E -> vs.length = 6) (body : ∀ (f : Addr) (cdv : Value) (A : Around) (outer : List Env) (s : Shared) (H : Hp) (vs : List V) (Q : VK) (E : XK), Room cc k (A.deeper (envOfC "_law_right" (defScope s__law_right) s.heap.objs.size f cdv)) -> sp vs H Q E -> SXs (CxF cc P w K mg base N__law_right "_law_right" (defScope s__law_right) f cdv A outer s H E) (defBody s__law_right) { nx := fun _ H' => Q .non H', rt := Q } (start N__law_right vs) H) : Def P w K mg base cc (k + 1) "_law_right" ["_law_book", "_law_way", "_law_moment_here", "_law_oldest", "_law_states", "_law_log"] sp := def_of T.d__law_right sc__law_right (fun _ _ _ _ _ _ us hl => match us, hl with | [_, _, _, _, _, _], _ => rfl) len body
theorem ff_Book___init__ {cc : Bool} {k : Nat} {sp : Sp} (len : ∀ vs H Q E, sp vs H Q E -> vs.length = 2) (body : ∀ (f : Addr) (cdv : Value) (A : Around) (outer : List Env) (s : Shared) (H : Hp) (vs : List V) (Q : VK) (E : XK), Room cc k (A.deeper (envOfC "Book.__init__" (defScope s_Book___init__) s.heap.objs.size f cdv)) -> sp vs H Q E -> SXs (CxF cc P w K mg base N_Book___init__ "Book.__init__" (defScope s_Book___init__) f cdv A outer s H E) (defBody s_Book___init__) { nx := fun _ H' => Q .non H', rt := Q } (start N_Book___init__ vs) H) : FD P w K mg base cc (k + 1) "__init__" "Book.__init__" s_Book___init__ ["self", "columns"] sp := fd_of sc_Book___init__ (fun _ _ _ _ _ _ us hl => match us, hl with | [_, _], _ => rfl) len body
theorem ff_Book_ask_row {cc : Bool} {k : Nat} {sp : Sp} (len : ∀ vs H Q E, sp vs H Q E -> vs.length = 3) (body : ∀ (f : Addr) (cdv : Value) (A : Around) (outer : List Env) (s : Shared) (H : Hp) (vs : List V) (Q : VK) (E : XK), Room cc k (A.deeper (envOfC "Book.ask_row" (defScope s_Book_ask_row) s.heap.objs.size f cdv)) -> sp vs H Q E -> SXs (CxF cc P w K mg base N_Book_ask_row "Book.ask_row" (defScope s_Book_ask_row) f cdv A outer s H E) (defBody s_Book_ask_row) { nx := fun _ H' => Q .non H', rt := Q } (start N_Book_ask_row vs) H) : FD P w K mg base cc (k + 1) "ask_row" "Book.ask_row" s_Book_ask_row ["self", "row", "values"] sp := fd_of sc_Book_ask_row (fun _ _ _ _ _ _ us hl => match us, hl with | [_, _, _], _ => rfl) len body
theorem ff_Book_ask_there {cc : Bool} {k : Nat} {sp : Sp} (len : ∀ vs H Q E, sp vs H Q E -> vs.length = 2) (body : ∀ (f : Addr) (cdv : Value) (A : Around) (outer : List Env) (s : Shared) (H : Hp) (vs : List V) (Q : VK) (E : XK), Room cc k (A.deeper (envOfC "Book.ask_there" (defScope s_Book_ask_there) s.heap.objs.size f cdv)) -> sp vs H Q E -> SXs (CxF cc P w K mg base N_Book_ask_there "Book.ask_there" (defScope s_Book_ask_there) f cdv A outer s H E) (defBody s_Book_ask_there) { nx := fun _ H' => Q .non H', rt := Q } (start N_Book_ask_there vs) H) : FD P w K mg base cc (k + 1) "ask_there" "Book.ask_there" s_Book_ask_there ["self", "row"] sp := fd_of sc_Book_ask_there (fun _ _ _ _ _ _ us hl => match us, hl with | [_, _], _ => rfl) len body
theorem ff_Book_do {cc : Bool} {k : Nat} {sp : Sp} (len : ∀ vs H Q E, sp vs H Q E -> vs.length = 3) (body : ∀ (f : Addr) (cdv : Value) (A : Around) (outer : List Env) (s : Shared) (H : Hp) (vs : List V) (Q : VK) (E : XK), Room cc k (A.deeper (envOfC "Book.do" (defScope s_Book_do) s.heap.objs.size f cdv)) -> sp vs H Q E -> SXs (CxF cc P w K mg base N_Book_do "Book.do" (defScope s_Book_do) f cdv A outer s H E) (defBody s_Book_do) { nx := fun _ H' => Q .non H', rt := Q } (start N_Book_do vs) H) : FD P w K mg base cc (k + 1) "do" "Book.do" s_Book_do ["self", "row", "values"] sp := fd_of sc_Book_do (fun _ _ _ _ _ _ us hl => match us, hl with | [_, _, _], _ => rfl) len body
theorem ff_Book_put {cc : Bool} {k : Nat} {sp : Sp} (len : ∀ vs H Q E, sp vs H Q E -> vs.length = 3) (body : ∀ (f : Addr) (cdv : Value) (A : Around) (outer : List Env) (s : Shared) (H : Hp) (vs : List V) (Q : VK) (E : XK), Room cc k (A.deeper (envOfC "Book.put" (defScope s_Book_put) s.heap.objs.size f cdv)) -> sp vs H Q E -> SXs (CxF cc P w K mg base N_Book_put "Book.put" (defScope s_Book_put) f cdv A outer s H E) (defBody s_Book_put) { nx := fun _ H' => Q .non H', rt := Q } (start N_Book_put vs) H) : FD P w K mg base cc (k + 1) "put" "Book.put" s_Book_put ["self", "row", "values"] sp := fd_of sc_Book_put (fun _ _ _ _ _ _ us hl => match us, hl with | [_, _, _], _ => rfl) len body
theorem ff_Book_change {cc : Bool} {k : Nat} {sp : Sp} (len : ∀ vs H Q E, sp vs H Q E -> vs.length = 3) (body : ∀ (f : Addr) (cdv : Value) (A : Around) (outer : List Env) (s : Shared) (H : Hp) (vs : List V) (Q : VK) (E : XK), Room cc k (A.deeper (envOfC "Book.change" (defScope s_Book_change) s.heap.objs.size f cdv)) -> sp vs H Q E -> SXs (CxF cc P w K mg base N_Book_change "Book.change" (defScope s_Book_change) f cdv A outer s H E) (defBody s_Book_change) { nx := fun _ H' => Q .non H', rt := Q } (start N_Book_change vs) H) : FD P w K mg base cc (k + 1) "change" "Book.change" s_Book_change ["self", "row", "values"] sp := fd_of sc_Book_change (fun _ _ _ _ _ _ us hl => match us, hl with | [_, _, _], _ => rfl) len body
theorem ff_Book_take {cc : Bool} {k : Nat} {sp : Sp} (len : ∀ vs H Q E, sp vs H Q E -> vs.length = 2) (body : ∀ (f : Addr) (cdv : Value) (A : Around) (outer : List Env) (s : Shared) (H : Hp) (vs : List V) (Q : VK) (E : XK), Room cc k (A.deeper (envOfC "Book.take" (defScope s_Book_take) s.heap.objs.size f cdv)) -> sp vs H Q E -> SXs (CxF cc P w K mg base N_Book_take "Book.take" (defScope s_Book_take) f cdv A outer s H E) (defBody s_Book_take) { nx := fun _ H' => Q .non H', rt := Q } (start N_Book_take vs) H) : FD P w K mg base cc (k + 1) "take" "Book.take" s_Book_take ["self", "row"] sp := fd_of sc_Book_take (fun _ _ _ _ _ _ us hl => match us, hl with | [_, _], _ => rfl) len body
theorem ff_Book_moment {cc : Bool} {k : Nat} {sp : Sp} (len : ∀ vs H Q E, sp vs H Q E -> vs.length = 1) (body : ∀ (f : Addr) (cdv : Value) (A : Around) (outer : List Env) (s : Shared) (H : Hp) (vs : List V) (Q : VK) (E : XK), Room cc k (A.deeper (envOfC "Book.moment" (defScope s_Book_moment) s.heap.objs.size f cdv)) -> sp vs H Q E -> SXs (CxF cc P w K mg base N_Book_moment "Book.moment" (defScope s_Book_moment) f cdv A outer s H E) (defBody s_Book_moment) { nx := fun _ H' => Q .non H', rt := Q } (start N_Book_moment vs) H) : FD P w K mg base cc (k + 1) "moment" "Book.moment" s_Book_moment ["self"] sp := fd_of sc_Book_moment (fun _ _ _ _ _ _ us hl => match us, hl with | [_], _ => rfl) len body
theorem ff_Book_since {cc : Bool} {k : Nat} {sp : Sp} (len : ∀ vs H Q E, sp vs H Q E -> vs.length = 2) (body : ∀ (f : Addr) (cdv : Value) (A : Around) (outer : List Env) (s : Shared) (H : Hp) (vs : List V) (Q : VK) (E : XK), Room cc k (A.deeper (envOfC "Book.since" (defScope s_Book_since) s.heap.objs.size f cdv)) -> sp vs H Q E -> SXs (CxF cc P w K mg base N_Book_since "Book.since" (defScope s_Book_since) f cdv A outer s H E) (defBody s_Book_since) { nx := fun _ H' => Q .non H', rt := Q } (start N_Book_since vs) H) : FD P w K mg base cc (k + 1) "since" "Book.since" s_Book_since ["self", "row"] sp := fd_of sc_Book_since (fun _ _ _ _ _ _ us hl => match us, hl with | [_, _], _ => rfl) len body
theorem ff_Book_now_rows {cc : Bool} {k : Nat} {sp : Sp} (len : ∀ vs H Q E, sp vs H Q E -> vs.length = 1) (body : ∀ (f : Addr) (cdv : Value) (A : Around) (outer : List Env) (s : Shared) (H : Hp) (vs : List V) (Q : VK) (E : XK), Room cc k (A.deeper (envOfC "Book.now_rows" (defScope s_Book_now_rows) s.heap.objs.size f cdv)) -> sp vs H Q E -> SXs (CxF cc P w K mg base N_Book_now_rows "Book.now_rows" (defScope s_Book_now_rows) f cdv A outer s H E) (defBody s_Book_now_rows) { nx := fun _ H' => Q .non H', rt := Q } (start N_Book_now_rows vs) H) : FD P w K mg base cc (k + 1) "now_rows" "Book.now_rows" s_Book_now_rows ["self"] sp := fd_of sc_Book_now_rows (fun _ _ _ _ _ _ us hl => match us, hl with | [_], _ => rfl) len body
theorem ff_Book_oldest {cc : Bool} {k : Nat} {sp : Sp} (len : ∀ vs H Q E, sp vs H Q E -> vs.length = 1) (body : ∀ (f : Addr) (cdv : Value) (A : Around) (outer : List Env) (s : Shared) (H : Hp) (vs : List V) (Q : VK) (E : XK), Room cc k (A.deeper (envOfC "Book.oldest" (defScope s_Book_oldest) s.heap.objs.size f cdv)) -> sp vs H Q E -> SXs (CxF cc P w K mg base N_Book_oldest "Book.oldest" (defScope s_Book_oldest) f cdv A outer s H E) (defBody s_Book_oldest) { nx := fun _ H' => Q .non H', rt := Q } (start N_Book_oldest vs) H) : FD P w K mg base cc (k + 1) "oldest" "Book.oldest" s_Book_oldest ["self"] sp := fd_of sc_Book_oldest (fun _ _ _ _ _ _ us hl => match us, hl with | [_], _ => rfl) len body
theorem ff_Book_let_go {cc : Bool} {k : Nat} {sp : Sp} (len : ∀ vs H Q E, sp vs H Q E -> vs.length = 2) (body : ∀ (f : Addr) (cdv : Value) (A : Around) (outer : List Env) (s : Shared) (H : Hp) (vs : List V) (Q : VK) (E : XK), Room cc k (A.deeper (envOfC "Book.let_go" (defScope s_Book_let_go) s.heap.objs.size f cdv)) -> sp vs H Q E -> SXs (CxF cc P w K mg base N_Book_let_go "Book.let_go" (defScope s_Book_let_go) f cdv A outer s H E) (defBody s_Book_let_go) { nx := fun _ H' => Q .non H', rt := Q } (start N_Book_let_go vs) H) : FD P w K mg base cc (k + 1) "let_go" "Book.let_go" s_Book_let_go ["self", "moment"] sp := fd_of sc_Book_let_go (fun _ _ _ _ _ _ us hl => match us, hl with | [_, _], _ => rfl) len body
theorem ff_Book_done_behind {cc : Bool} {k : Nat} {sp : Sp} (len : ∀ vs H Q E, sp vs H Q E -> vs.length = 2) (body : ∀ (f : Addr) (cdv : Value) (A : Around) (outer : List Env) (s : Shared) (H : Hp) (vs : List V) (Q : VK) (E : XK), Room cc k (A.deeper (envOfC "Book.done_behind" (defScope s_Book_done_behind) s.heap.objs.size f cdv)) -> sp vs H Q E -> SXs (CxF cc P w K mg base N_Book_done_behind "Book.done_behind" (defScope s_Book_done_behind) f cdv A outer s H E) (defBody s_Book_done_behind) { nx := fun _ H' => Q .non H', rt := Q } (start N_Book_done_behind vs) H) : FD P w K mg base cc (k + 1) "done_behind" "Book.done_behind" s_Book_done_behind ["self", "moment"] sp := fd_of sc_Book_done_behind (fun _ _ _ _ _ _ us hl => match us, hl with | [_, _], _ => rfl) len body
theorem ff_Book_rows_at {cc : Bool} {k : Nat} {sp : Sp} (len : ∀ vs H Q E, sp vs H Q E -> vs.length = 2) (body : ∀ (f : Addr) (cdv : Value) (A : Around) (outer : List Env) (s : Shared) (H : Hp) (vs : List V) (Q : VK) (E : XK), Room cc k (A.deeper (envOfC "Book.rows_at" (defScope s_Book_rows_at) s.heap.objs.size f cdv)) -> sp vs H Q E -> SXs (CxF cc P w K mg base N_Book_rows_at "Book.rows_at" (defScope s_Book_rows_at) f cdv A outer s H E) (defBody s_Book_rows_at) { nx := fun _ H' => Q .non H', rt := Q } (start N_Book_rows_at vs) H) : FD P w K mg base cc (k + 1) "rows_at" "Book.rows_at" s_Book_rows_at ["self", "moment"] sp := fd_of sc_Book_rows_at (fun _ _ _ _ _ _ us hl => match us, hl with | [_, _], _ => rfl) len body
theorem ff_Book_deeds {cc : Bool} {k : Nat} {sp : Sp} (len : ∀ vs H Q E, sp vs H Q E -> vs.length = 2) (body : ∀ (f : Addr) (cdv : Value) (A : Around) (outer : List Env) (s : Shared) (H : Hp) (vs : List V) (Q : VK) (E : XK), Room cc k (A.deeper (envOfC "Book.deeds" (defScope s_Book_deeds) s.heap.objs.size f cdv)) -> sp vs H Q E -> SXs (CxF cc P w K mg base N_Book_deeds "Book.deeds" (defScope s_Book_deeds) f cdv A outer s H E) (defBody s_Book_deeds) { nx := fun _ H' => Q .non H', rt := Q } (start N_Book_deeds vs) H) : FD P w K mg base cc (k + 1) "deeds" "Book.deeds" s_Book_deeds ["self", "moment"] sp := fd_of sc_Book_deeds (fun _ _ _ _ _ _ us hl => match us, hl with | [_, _], _ => rfl) len body
theorem d_Absent (T : Txt K mg) {cc : Bool} : XDef P w K mg base cc 1 "Absent" "row" := by
 refine xdef_of T.i_Absent sc_Absent (fun _ _ _ _ _ _ us hl => match us, hl with | [_, _], _ => rfl) rfl (fun f cdv A outer s H vs Q E hi hr h => ?_)
 obtain ⟨e, n, rfl, hn, he, q⟩ := h
 have hsz : sizeLine = 16777216 := sizeLine_eq
 refine sxs_cons (sx_expr (by rfl) ?_)
 refine ev_base (pl := _) T.b_LeafError.toXBase (by rfl) (by decide) (by rfl) (by rfl) (by rfl) ?_
 walk_at "go"
 refine ev_fmtI ?_
 walk_at "e"
 refine ⟨n, rfl, Vl.log_ok hn, _, 70, rfl, Vl.int_len hn, by omega, ?_⟩
 walk_at "go"
 intro zz
 refine ea_nil (c_base hi he ?_)
 refine sxs_one (sx_xfld T.i_Absent.sa T.i_Absent.xc T.i_Absent.tk (by rfl) ?_)
 walk_at "e"
 walk_at "e"
 refine ⟨e, rfl, he, fun D hD hDe => q D _ hDe hD (fun b o hb r => ?_) upd_same ?_⟩
 ·rw [upd_ne hb, upd_ne (ne_of_none r hD)]
  exact r
 ·rw [upd_ne hDe, upd_same]
theorem d_Twice (T : Txt K mg) {cc : Bool} : XDef P w K mg base cc 1 "Twice" "row" := by
 refine xdef_of T.i_Twice sc_Twice (fun _ _ _ _ _ _ us hl => match us, hl with | [_, _], _ => rfl) rfl (fun f cdv A outer s H vs Q E hi hr h => ?_)
 obtain ⟨e, n, rfl, hn, he, q⟩ := h
 have hsz : sizeLine = 16777216 := sizeLine_eq
 refine sxs_cons (sx_expr (by rfl) ?_)
 refine ev_base (pl := _) T.b_LeafError.toXBase (by rfl) (by decide) (by rfl) (by rfl) (by rfl) ?_
 walk_at "go"
 refine ev_fmtI ?_
 walk_at "e"
 refine ⟨n, rfl, Vl.log_ok hn, _, 70, rfl, Vl.int_len hn, by omega, ?_⟩
 walk_at "go"
 intro zz
 refine ea_nil (c_base hi he ?_)
 refine sxs_one (sx_xfld T.i_Twice.sa T.i_Twice.xc T.i_Twice.tk (by rfl) ?_)
 walk_at "e"
 walk_at "e"
 refine ⟨e, rfl, he, fun D hD hDe => q D _ hDe hD (fun b o hb r => ?_) upd_same ?_⟩
 ·rw [upd_ne hb, upd_ne (ne_of_none r hD)]
  exact r
 ·rw [upd_ne hDe, upd_same]
theorem d_Gone (T : Txt K mg) {cc : Bool} : XDef P w K mg base cc 1 "Gone" "known" := by
 refine xdef_of T.i_Gone sc_Gone (fun _ _ _ _ _ _ us hl => match us, hl with | [_, _], _ => rfl) rfl (fun f cdv A outer s H vs Q E hi hr h => ?_)
 obtain ⟨e, n, rfl, hn, he, q⟩ := h
 have hsz : sizeLine = 16777216 := sizeLine_eq
 refine sxs_cons (sx_expr (by rfl) ?_)
 refine ev_base (pl := _) T.b_LeafError.toXBase (by rfl) (by decide) (by rfl) (by rfl) (by rfl) ?_
 walk_at "go"
 refine ev_fmtI ?_
 walk_at "e"
 refine ⟨n, rfl, Vl.log_ok hn, _, 70, rfl, Vl.int_len hn, by omega, ?_⟩
 walk_at "go"
 intro zz
 refine ea_nil (c_base hi he ?_)
 refine sxs_one (sx_xfld T.i_Gone.sa T.i_Gone.xc T.i_Gone.tk (by rfl) ?_)
 walk_at "e"
 walk_at "e"
 refine ⟨e, rfl, he, fun D hD hDe => q D _ hDe hD (fun b o hb r => ?_) upd_same ?_⟩
 ·rw [upd_ne hb, upd_ne (ne_of_none r hD)]
  exact r
 ·rw [upd_ne hDe, upd_same]
theorem d_Later (T : Txt K mg) {cc : Bool} : XDef P w K mg base cc 1 "Later" "now" := by
 refine xdef_of T.i_Later sc_Later (fun _ _ _ _ _ _ us hl => match us, hl with | [_, _], _ => rfl) rfl (fun f cdv A outer s H vs Q E hi hr h => ?_)
 obtain ⟨e, n, rfl, hn, he, q⟩ := h
 have hsz : sizeLine = 16777216 := sizeLine_eq
 refine sxs_cons (sx_expr (by rfl) ?_)
 refine ev_base (pl := _) T.b_LeafError.toXBase (by rfl) (by decide) (by rfl) (by rfl) (by rfl) ?_
 walk_at "go"
 refine ev_fmtI ?_
 walk_at "e"
 refine ⟨n, rfl, Vl.log_ok hn, _, 70, rfl, Vl.int_len hn, by omega, ?_⟩
 walk_at "go"
 intro zz
 refine ea_nil (c_base hi he ?_)
 refine sxs_one (sx_xfld T.i_Later.sa T.i_Later.xc T.i_Later.tk (by rfl) ?_)
 walk_at "e"
 walk_at "e"
 refine ⟨e, rfl, he, fun D hD hDe => q D _ hDe hD (fun b o hb r => ?_) upd_same ?_⟩
 ·rw [upd_ne hb, upd_ne (ne_of_none r hD)]
  exact r
 ·rw [upd_ne hDe, upd_same]
end
end K33
namespace K33
open PySem L2 PyProof.Rows My Vl Lw
section
variable {P : Program} {w : World} {K : PySem.W.Frag} {mg : Str -> Option Value} {base : Heap}
theorem d__law_draw (T : Txt K mg) : Def P w K mg base true 1 "_law_draw" ["_law_script", "_law_k", "_law_many"] (spDraw K) := by
 refine df__law_draw T (fun vs H Q E h => by obtain ⟨a, ns, k, m, rfl, _⟩ := h; rfl) (fun f cdv A outer s H vs Q E hr h => ?_)
 obtain ⟨a, ns, k, m, rfl, hS, hl, hk0, hk1, hm, q⟩ := h
 have n1 := T.n_len
 have nd := sc__law_draw.nd
 have hlm : (ns.map V.int).length = ns.length := List.length_map ..
 refine sxs_cons ?_
 walk_at "go"
 rw [hlm]
 have fin : ∀ c : Int, c = cellF ns k -> Q (.int ((c % 1000003 + 31 * k * k + 1) * 48271 % 999983 * 7919 % 524287 % m)) H := fun c e => by rw [e]; exact q
 refine ifD (fun h => ?_) (fun h => ?_)
 ·walk_at "go"
  rw [hlm]
  walk_at "go"
  refine i_list hS (atI_map 0 (Int.emod_nonneg _ (by omega)) (Int.emod_lt_of_pos _ (by omega))) ?_
  walk_at "go"
  exact fin _ (by unfold cellF; rw [if_pos (by omega)])
 ·walk_at "go"
  exact fin _ (by unfold cellF; rw [if_neg (by omega)])
end
end K33
namespace K33
open PySem L2 PyProof.Rows My Vl Lw
section
variable {P : Program} {w : World} {K : PySem.W.Frag} {mg : Str -> Option Value} {base : Heap}
theorem lt_list : LTs.cps.toList = List.range' 97 26 := by decide +kernel
theorem mem_lt (c : Nat) : c ∈ LTs.cps.toList ↔ 97 ≤ c /\ c ≤ 122 := by
 rw [lt_list, List.mem_range'_1]
 omega
theorem lt_get {k : Nat} (h : k < 26) : LTs.cps.toList[k]? = some (97 + k) := by
 rw [lt_list, List.getElem?_range' h]
 simp
theorem isName_of {z : Str} (h1 : 1 ≤ z.length) (h8 : z.length ≤ 8) (h : ∀ c ∈ z.cps.toList, 97 ≤ c /\ c ≤ 122) : isName z = true := by
 unfold isName madeOf
 rw [Bool.and_eq_true, decide_eq_true_eq, List.all_eq_true]
 exact ⟨⟨h1, h8⟩, fun c hc => decide_eq_true ((mem_lt c).mpr (h c hc))⟩
def nm1 (W : Str) (at_ first size way j : Nat) : Str :=
 if way = 0 then cutS W none (some (at_ : Int)) ++ ⟨#[97 + (first + j) % 26]⟩ ++ cutS W (some ((at_ + 1 : Nat) : Int)) none else
 if way = 1 then cutS W none (some ((j + 1 : Nat) : Int)) else (⟨#[97 + (first + j) % 26]⟩ : Str) ++ cutS W none (some (size : Int))
theorem nm1_0 {W : Str} {at_ first size j : Nat} (hW : W.length = 8) (ha : at_ < 8) : (nm1 W at_ first size 0 j).cps.toList = W.cps.toList.take at_ ++ (97 + (first + j) % 26) :: W.cps.toList.drop (at_ + 1) := by
 have hl := L2.len_list W
 unfold nm1
 rw [if_pos rfl, cps_app, cps_app, cutS_to, cutS_list, List.append_assoc]
 show _ ++ ([_] ++ _) = _
 rw [HT.sIx_nat, Nat.min_eq_left (by omega)]
 congr 1
 show (97 + (first + j) % 26) :: List.take (W.length - (at_ + 1)) _ = _
 rw [List.take_of_length_le (by rw [List.length_drop]; omega)]
theorem nm1_1 {W : Str} {at_ first size j : Nat} : (nm1 W at_ first size 1 j).cps.toList = W.cps.toList.take (j + 1) := by
 unfold nm1
 rw [if_neg (by decide), if_pos rfl, cutS_to]
theorem nm1_2 {W : Str} {at_ first size way j : Nat} (h0 : way ≠ 0) (h1 : way ≠ 1) : (nm1 W at_ first size way j).cps.toList = (97 + (first + j) % 26) :: W.cps.toList.take size := by
 unfold nm1
 rw [if_neg h0, if_neg h1, cps_app, cutS_to]
 rfl
theorem nm1_len {W : Str} {at_ first size way j : Nat} (hW : W.length = 8) (ha : at_ < 8) (hs : size < 8) (hj : j < 6) : 1 ≤ (nm1 W at_ first size way j).length /\ (nm1 W at_ first size way j).length ≤ 8 := by
 have hl := L2.len_list W
 rw [L2.len_list (nm1 W at_ first size way j)]
 by_cases h0 : way = 0
 ·subst h0
  rw [nm1_0 hW ha, List.length_append, List.length_cons, List.length_take, List.length_drop]
  omega
 ·by_cases h1 : way = 1
  ·subst h1
   rw [nm1_1, List.length_take]
   omega
  ·rw [nm1_2 h0 h1, List.length_cons, List.length_take]
   omega
theorem nm1_in {W : Str} {at_ first size way j : Nat} (hW : W.length = 8) (ha : at_ < 8) (hw : ∀ c ∈ W.cps.toList, 97 ≤ c /\ c ≤ 122) : ∀ c ∈ (nm1 W at_ first size way j).cps.toList, 97 ≤ c /\ c ≤ 122 := by
 intro c hc
 have hm := Nat.mod_lt (first + j) (show 0 < 26 by decide)
 by_cases h0 : way = 0
 ·subst h0
  rw [nm1_0 hW ha] at hc
  rcases List.mem_append.mp hc with h | h
  ·exact hw c (List.mem_of_mem_take h)
  ·rcases List.mem_cons.mp h with h | h
   ·omega
   ·exact hw c (List.mem_of_mem_drop h)
 ·by_cases h1 : way = 1
  ·subst h1
   rw [nm1_1] at hc
   exact hw c (List.mem_of_mem_take hc)
  ·rw [nm1_2 h0 h1] at hc
   rcases List.mem_cons.mp hc with h | h
   ·omega
   ·exact hw c (List.mem_of_mem_take h)
theorem nm1_inj {W : Str} {at_ first s1 s2 way i j : Nat} (hW : W.length = 8) (ha : at_ < 8) (hi : i < 6) (hj : j < 6) (e : nm1 W at_ first s1 way i = nm1 W at_ first s2 way j) : i = j := by
 have hl := L2.len_list W
 have e' := congrArg (fun z : Str => z.cps.toList) e
 by_cases h0 : way = 0
 ·subst h0
  rw [nm1_0 hW ha, nm1_0 hW ha] at e'
  have h1 := (List.append_inj e' rfl).2
  injection h1 with h2 _
  omega
 ·by_cases h1 : way = 1
  ·subst h1
   rw [nm1_1, nm1_1] at e'
   have := congrArg List.length e'
   rw [List.length_take, List.length_take] at this
   omega
  ·rw [nm1_2 h0 h1, nm1_2 h0 h1] at e'
   injection e' with h2 _
   omega
theorem okCols_of {cs : List Col} (h1 : 1 ≤ cs.length) (h6 : cs.length ≤ 6) (hn : (cs.map Prod.fst).Nodup) (h : ∀ c ∈ cs, isName c.1 = true /\ (c.2 = "number" \/ c.2 = "text")) : okCols cs = true := by
 unfold okCols isKind
 rw [Bool.and_eq_true, Bool.and_eq_true, decide_eq_true_eq, decide_eq_true_eq, List.all_eq_true]
 exact ⟨⟨⟨h1, h6⟩, fun c hc => by rw [(h c hc).1, decide_eq_true (h c hc).2]; rfl⟩, hn⟩
theorem all2_snoc {α β : Type} {R : α -> β -> Prop} {l : List α} {m : List β} {a : α} {b : β} (h : All2 R l m) (r : R a b) : All2 R (l ++ [a]) (m ++ [b]) := by
 induction h with
 | nil => exact .cons r .nil
 | cons h _ ih => exact .cons h ih
theorem all2_mono {α β : Type} {R S : α -> β -> Prop} {l : List α} {m : List β} (h : All2 R l m) (f : ∀ a b, R a b -> S a b) : All2 S l m := by
 induction h with
 | nil => exact .nil
 | cons h _ ih => exact .cons (f _ _ h) ih
def spCols1 (K : PySem.W.Frag) : Sp := fun vs H Q _ => ∃ (a : Addr) (ns : List Int) (b m : Int), vs = [.ref a, .int b, .int m] /\ SqL K H a (ns.map V.int) /\ ns.length ≤ 63 /\ 0 ≤ b /\ b ≤ 40000 /\ 1 ≤ m /\ m ≤ 6 /\ ∀ p cs H', Same H H' -> H p = none -> Cols H' p cs -> okCols cs = true -> Q (.ref p) H'
def colsTo (W : Str) (at_ first way : Nat) (H : Hp) (p : Addr) (j : Nat) : Prop := ∃ cs : List Col, Cols H p cs /\ cs.length = j /\ (∀ (i : Nat) c, cs[i]? = some c -> (∃ sz, sz < 8 /\ c.1 = nm1 W at_ first sz way i) /\ (c.2 = "number" \/ c.2 = "text"))
theorem colsTo.ok {W : Str} {at_ first way : Nat} {H : Hp} {p : Addr} {j : Nat} (hW : W.length = 8) (ha : at_ < 8) (hw : ∀ c ∈ W.cps.toList, 97 ≤ c /\ c ≤ 122) (h1 : 1 ≤ j) (h6 : j ≤ 6) (h : colsTo W at_ first way H p j) : ∃ cs, Cols H p cs /\ okCols cs = true := by
 obtain ⟨cs, hC, hl, hg⟩ := h
 refine ⟨cs, hC, okCols_of (by omega) (by omega) ?_ fun c hc => ?_⟩
 ·unfold List.Nodup
  rw [List.pairwise_iff_getElem]
  intro i k hi hk hik e
  rw [List.length_map] at hi hk
  rw [List.getElem_map, List.getElem_map] at e
  obtain ⟨⟨s1, _, e1⟩, _⟩ := hg i _ (List.getElem?_eq_getElem hi)
  obtain ⟨⟨s2, _, e2⟩, _⟩ := hg k _ (List.getElem?_eq_getElem hk)
  rw [e1, e2] at e
  have := nm1_inj hW ha (by omega) (by omega) e
  omega
 ·obtain ⟨i, hi, e⟩ := List.getElem_of_mem hc
  obtain ⟨⟨sz, hs, e1⟩, hk⟩ := hg i c (by rw [List.getElem?_eq_getElem hi, e])
  have := nm1_len (first := first) (way := way) hW ha hs (show i < 6 by omega)
  rw [<- e1] at this
  refine ⟨isName_of this.1 this.2 ?_, hk⟩
  rw [e1]
  exact nm1_in hW ha hw
theorem d__law_columns (T : Txt K mg) : Def P w K mg base true 2 "_law_columns" ["_law_script", "_law_base", "_law_most"] (spCols1 K) := by
 refine df__law_columns T (fun vs H Q E h => by obtain ⟨a, ns, b, m, rfl, _⟩ := h; rfl) (fun f cdv A outer s H vs Q E hr h => ?_)
 obtain ⟨a, ns, b, m, rfl, hS, hl, hb0, hb1, hm0, hm1, q⟩ := h
 have nd := sc__law_columns.nd
 have n1 := T.n_range
 have hsz : sizeLine = 16777216 := sizeLine_eq
 have D1 : Def P w K mg base true 1 "_law_draw" ["_law_script", "_law_k", "_law_many"] (spDraw K) := d__law_draw T
 have hL26 : LTs.length = 26 := by decide +kernel
 refine sxs_cons ?_
 walk_at "go"
 refine ev_compR ["_law_k", "_law_base", "_law_letters", "_law_script"] (σ' := [none, some (.int b), some (.str LTs), some (.ref a)]) (by rfl) (by rfl) (compSc_of (defScope s__law_columns) (by rfl) (by rfl) (by decide +kernel)) (by decide +kernel) (by rfl) (by rfl) (by rfl) n1 (by rfl) ?_
 walk_at "e"
 refine ⟨8, rfl, by omega, by omega, fun i v => v = .str ⟨#[97 + (drawF ns (b + (i : Int)) 26).toNat]⟩, fun fp E' C s3 H0 i H2 hi sm => ?_, fun E' H1 xs hE hl2 hx e2 sm1 => ?_⟩
 ·walk_at "go"
  have hi8 : i < 8 := by simpa using hi
  refine ⟨a, ns, b + i, 26, rfl, sm.seq hS, hl, by omega, by omega, by decide, ?_⟩
  have h1 := drawF_nn ns (b + i) (m := 26) (by decide)
  have h2 := drawF_lt ns (b + i) (m := 26) (by decide)
  refine i_str (by omega) (n := 97 + (drawF ns (b + (i : Int)) 26).toNat) ?_ ⟨rfl, Same.refl _⟩
  have e : drawF ns (b + (i : Int)) 26 = (((drawF ns (b + (i : Int)) 26).toNat : Nat) : Int) := by omega
  have h3 := atI_nat (lt_get (k := (drawF ns (b + (i : Int)) 26).toNat) (by omega))
  rw [<- e] at h3
  exact h3
 ·have ex := list_of_pi (ys := List.range 8) (fun i : Nat => V.str ⟨#[97 + (drawF ns (b + (i : Int)) 26).toNat]⟩) (by rw [hl2, List.length_range]; rfl) (fun i v e => ⟨i, ?_, hx i v e⟩)
  ·have ex2 : xs = (((List.range 8).map fun i : Nat => 97 + (drawF ns (b + (i : Int)) 26).toNat).map fun c => (⟨#[c]⟩ : Str)).map V.str := by
    rw [ex, List.map_map, List.map_map]
    rfl
   subst ex2
   walk_at "go"
   refine m_join (SqL.of e2) ?_ ?_
   ·have e0 : (Str.ofString "").length = 0 := by decide +kernel
    rw [ones_sum, List.length_map, List.length_map, List.length_range, e0]
    omega
   rw [join_signs]
   have hwl : (⟨((List.range 8).map fun i : Nat => 97 + (drawF ns (b + (i : Int)) 26).toNat).toArray⟩ : Str).length = 8 := by rw [L2.len_list]; simp
   have hwc : ∀ c ∈ (⟨((List.range 8).map fun i : Nat => 97 + (drawF ns (b + (i : Int)) 26).toNat).toArray⟩ : Str).cps.toList, 97 ≤ c /\ c ≤ 122 := fun c hc => by
    have hc' : c ∈ (List.range 8).map fun i : Nat => 97 + (drawF ns (b + (i : Int)) 26).toNat := by simpa using hc
    obtain ⟨i, _, rfl⟩ := List.mem_map.mp hc'
    have h1 := drawF_nn ns (b + i) (m := 26) (by decide)
    have h2 := drawF_lt ns (b + i) (m := 26) (by decide)
    omega
   generalize (⟨((List.range 8).map fun i : Nat => 97 + (drawF ns (b + (i : Int)) 26).toNat).toArray⟩ : Str) = W at hwl hwc ⊢
   refine sxs_cons ?_
   walk_at "go"
   refine ⟨a, ns, b + 10, 3, rfl, sm1.seq hS, hl, by omega, by omega, by decide, ?_⟩
   have w0 := drawF_nn ns (b + 10) (m := 3) (by decide)
   have w1 := drawF_lt ns (b + 10) (m := 3) (by decide)
   obtain ⟨way, ew⟩ := Int.eq_ofNat_of_zero_le w0
   rw [ew] at w1 ⊢
   walk_at "go"
   refine ⟨a, ns, b + 11, 8, rfl, sm1.seq hS, hl, by omega, by omega, by decide, ?_⟩
   have a0 := drawF_nn ns (b + 11) (m := 8) (by decide)
   have a1 := drawF_lt ns (b + 11) (m := 8) (by decide)
   obtain ⟨at_, ea⟩ := Int.eq_ofNat_of_zero_le a0
   rw [ea] at a1 ⊢
   walk_at "go"
   refine ⟨by show 0 ≤ sizeLine; omega, fun p hp => ?_⟩
   have pn : H p = none := sm1.free hp
   have sm0 : Same H (upd H1 p (.lst [])) := sm1.trans (Same.upd hp)
   have ep : (upd H1 p (.lst [])) p = some (.lst []) := upd_same
   generalize upd H1 p (.lst []) = H2 at sm0 ep ⊢
   have f0 := drawF_nn ns (b + 13) (m := 26) (by decide)
   have f1 := drawF_lt ns (b + 13) (m := 26) (by decide)
   obtain ⟨fi, ef⟩ := Int.eq_ofNat_of_zero_le f0
   have hat : at_ < 8 := by omega
   refine sxs_cons ?_
   refine sx_forR (by walk_at "po") (by rfl) (by rfl) n1 (by rfl) ?_
   walk_at "go"
   refine ⟨a, ns, b + 12, m, rfl, sm0.seq hS, hl, by omega, by omega, by omega, ?_⟩
   have g0 := drawF_nn ns (b + 12) (m := m) (by omega)
   have g1 := drawF_lt ns (b + 12) (m := m) (by omega)
   generalize drawF ns (b + 12) m = g at g0 g1 ⊢
   walk_at "go"
   refine ⟨by omega, by omega, fun i σ H' => (∃ o8 o9 o10 o11, σ = [some (.ref a), some (.int b), some (.int m), some (.str LTs), some (.str W), some (.int way), some (.int at_), some (.ref p), o8, o9, o10, o11]) /\ Same H H' /\ colsTo W at_ fi way H' p i,
    ⟨⟨none, none, none, none, rfl⟩, sm0, ⟨[], ⟨[], ep, .nil⟩, rfl, fun i c e => by simp at e⟩⟩, fun i σ H' hi hP => ?_, fun σ H' hP => ?_⟩
   ·obtain ⟨⟨o8, o9, o10, o11, rfl⟩, sm, hC⟩ := hP
    have hi6 : i < 6 := by have : (i : Int) < 1 + g := by omega
                           omega
    refine eg_name nd (by rfl) (.inl rfl) (.inl rfl) ?_
    walk_at "go"
    refine ⟨a, ns, b + 13, 26, rfl, sm.seq hS, hl, by omega, by omega, by decide, ?_⟩
    rw [ef]
    walk_at "go"
    rw [show ((fi : Int) + (i : Int)) % 26 = (((fi + i) % 26 : Nat) : Int) by omega]
    refine i_str (by omega) (atI_nat (lt_get (Nat.mod_lt _ (by decide)))) ?_
    walk_at "go"
    refine ⟨a, ns, b + 20 + i, 8, rfl, sm.seq hS, hl, by omega, by omega, by decide, ?_⟩
    have s0 := drawF_nn ns (b + 20 + i) (m := 8) (by decide)
    have s1 := drawF_lt ns (b + 20 + i) (m := 8) (by decide)
    obtain ⟨sz, es⟩ := Int.eq_ofNat_of_zero_le s0
    rw [es] at s1 ⊢
    have l1 := cutS_le W none (some (at_ : Int))
    have l2 := cutS_le W (some ((at_ : Int) + 1)) none
    have l3 := cutS_le W none (some (sz : Int))
    have ls : (⟨#[97 + (fi + i) % 26]⟩ : Str).length = 1 := rfl
    have l4 := len_app (cutS W none (some (at_ : Int))) ⟨#[97 + (fi + i) % 26]⟩
    walk_at "go"
    refine s_str (by omega) ?_
    walk_at "go"
    refine o_addS (by omega) ?_
    walk_at "go"
    refine s_str (by omega) ?_
    refine o_addS (by omega) ?_
    walk_at "go"
    refine s_str (by omega) ?_
    walk_at "go"
    refine s_str (by omega) ?_
    refine o_addS (by omega) ?_
    walk_at "go"
    refine ⟨by show 3 ≤ sizeLine; omega, fun k hk => ?_⟩
    walk_at "go"
    have hg3 : atI [V.str (cutS W none (some (at_ : Int)) ++ ⟨#[97 + (fi + i) % 26]⟩ ++ cutS W (some ((at_ : Int) + 1)) none), V.str (cutS W none (some ((i : Int) + 1))), V.str ((⟨#[97 + (fi + i) % 26]⟩ : Str) ++ cutS W none (some (sz : Int)))] (way : Int) = some (V.str (nm1 W at_ fi sz way i)) := by
     have hw3 : way < 3 := by omega
     match way, hw3 with
     | 0, _ => rfl
     | 1, _ => rfl
     | 2, _ => rfl
    refine i_list (SqL.of upd_same) hg3 ?_
    have smk := Same.upd (H := H') (o := .lst [V.str (cutS W none (some (at_ : Int)) ++ ⟨#[97 + (fi + i) % 26]⟩ ++ cutS W (some ((at_ : Int) + 1)) none), V.str (cutS W none (some ((i : Int) + 1))), V.str ((⟨#[97 + (fi + i) % 26]⟩ : Str) ++ cutS W none (some (sz : Int)))]) hk
    generalize upd H' k _ = H3 at smk ⊢
    obtain ⟨cs, ⟨vs, hp', hvs⟩, hcl, hcg⟩ := hC
    refine sxs_one (sx_expr (by rfl) (ev_bm PySem.F.plainAttrs_list PySem.F.slot_list_append PySem.F.type_list_append (by rfl) (by rfl) (by rfl) (by rfl) (by rfl) ?_))
    walk_at "go"
    refine ⟨.inl ⟨rfl, _, SqL.of (smk _ _ hp')⟩, ?_⟩
    walk_at "go"
    refine ⟨by show 2 ≤ sizeLine; omega, fun y hy => ?_⟩
    have smy : Same H3 (upd H3 y (.lst [.str "number", .str "text"])) := Same.upd hy
    have ey : (upd H3 y (.lst [.str "number", .str "text"])) y = some (.lst [.str "number", .str "text"]) := upd_same
    generalize upd H3 y (.lst [.str "number", .str "text"]) = H5 at smy ey ⊢
    walk_at "go"
    refine ⟨a, ns, b + 30 + i, 2, rfl, ((sm.trans smk).trans smy).seq hS, hl, by omega, by omega, by decide, ?_⟩
    have k0 := drawF_nn ns (b + 30 + i) (m := 2) (by decide)
    have k1 := drawF_lt ns (b + 30 + i) (m := 2) (by decide)
    obtain ⟨kd, e1, e2⟩ := atI_mem (xs := [V.str "number", V.str "text"]) k0 (by show _ < (2 : Int); omega)
    refine i_list (SqL.of ey) e1 ?_
    obtain ⟨kk, rfl, hkk⟩ : ∃ kk : Str, kd = .str kk /\ (kk = "number" \/ kk = "text") := by
     rcases List.mem_cons.mp e2 with e | e
     ·exact ⟨_, e, .inl rfl⟩
     ·exact ⟨"text", by simpa using e, .inr rfl⟩
    walk_at "go"
    refine ⟨by show 2 ≤ sizeLine; omega, fun t ht => ?_⟩
    have smt : Same H5 (upd H5 t (.tup [.str (nm1 W at_ fi sz way i), .str kk])) := Same.upd ht
    have et : (upd H5 t (.tup [.str (nm1 W at_ fi sz way i), .str kk])) t = some (.tup [.str (nm1 W at_ fi sz way i), .str kk]) := upd_same
    generalize upd H5 t (.tup [.str (nm1 W at_ fi sz way i), .str kk]) = H6 at smt et ⊢
    have s6 : Same H' H6 := (smk.trans smy).trans smt
    have hvl := hvs.len
    refine ea_nil (mt_by mt_append ⟨p, _, _, rfl, rfl, s6 _ _ hp', by rw [hvl]; omega, ?_⟩)
    have tp : t ≠ p := fun e => by rw [e, (smk.trans smy) _ _ hp'] at ht; cases ht
    have up : ∀ b' o, H6 b' = some o -> b' ≠ p -> (upd H6 p (.lst (vs ++ [.ref t]))) b' = some o := fun b' o e hne => by rw [upd_ne hne]; exact e
    refine ⟨⟨_, _, _, _, rfl⟩, fun b' o e => ?_, cs ++ [(nm1 W at_ fi sz way i, kk)], ⟨vs ++ [.ref t], upd_same, all2_snoc (all2_mono hvs fun x c hx => ?_) ⟨t, rfl, up _ _ et tp⟩⟩, by rw [List.length_append, List.length_singleton, hcl], fun j c e => ?_⟩
    ·rw [upd_ne (ne_of_none e pn)]
     exact s6 _ _ (sm _ _ e)
    ·obtain ⟨u, rfl, hu⟩ := hx
     have hup : u ≠ p := fun z => by rw [z, hp'] at hu; cases hu
     exact ⟨u, rfl, up _ _ (s6 _ _ hu) hup⟩
    ·by_cases hj : j < cs.length
     ·rw [List.getElem?_append_left hj] at e
      exact hcg j c e
     ·have hj2 := (List.getElem?_eq_some_iff.mp e).1
      rw [List.length_append, List.length_singleton] at hj2
      have ej : j = cs.length := by omega
      subst ej
      rw [List.getElem?_concat_length] at e
      cases e
      rw [hcl]
      exact ⟨⟨sz, by omega, rfl⟩, hkk⟩
   ·obtain ⟨⟨o8, o9, o10, o11, rfl⟩, sm, hC⟩ := hP
    obtain ⟨cs, hC', hok⟩ := hC.ok hwl hat hwc (by omega) (by omega)
    walk_at "go"
    exact q p cs _ sm pn hC' hok
  ·have : i < xs.length := (List.getElem?_eq_some_iff.mp e).1
   rw [List.getElem?_range (by simp at hl2; omega)]
end
end K33
namespace K33
open PySem L2 PyProof.Rows My Vl Lw
section
variable {P : Program} {w : World} {K : PySem.W.Frag} {mg : Str -> Option Value} {base : Heap}
def valK (kd : Str) (v : V) : Prop := v = .non \/ (kd = "number" /\ ∃ i, v = .int i /\ -1000000000000000000 ≤ i /\ i ≤ 1000000000000000000) \/ (¬ kd = "number" /\ ∃ z, v = .str z /\ z.length ≤ 20 /\ ∀ c ∈ z.cps.toList, c ∈ SG)
abbrev SG1 : Str := Str.ofString "ab-abcdefghijklmnopqrstuvwxyz0123456789-"
theorem sg1_len : SG1.length = 40 := by decide +kernel
theorem sg1_ok : ∀ c ∈ SG1.cps.toList, c ∈ SG := by decide +kernel
def spValue1 (K : PySem.W.Frag) : Sp := fun vs H Q _ => ∃ (a : Addr) (ns : List Int) (k : Int) (kd : Str), vs = [.ref a, .int k, .str kd] /\ SqL K H a (ns.map V.int) /\ ns.length ≤ 63 /\ 0 ≤ k /\ k ≤ 50000 /\ ∀ v H', Same H H' -> valK kd v -> Q v H'
theorem d__law_value (T : Txt K mg) : Def P w K mg base true 2 "_law_value" ["_law_script", "_law_k", "_law_kind"] (spValue1 K) := by
 refine df__law_value T (fun vs H Q E h => by obtain ⟨a, ns, k, kd, rfl, _⟩ := h; rfl) (fun f cdv A outer s H vs Q E hr h => ?_)
 obtain ⟨a, ns, k, kd, rfl, hS, hl, hk0, hk1, q⟩ := h
 have nd := sc__law_value.nd
 have n1 := T.n_len
 have n2 := T.n_range
 have hsz : sizeLine = 16777216 := sizeLine_eq
 have hlm : (ns.map V.int).length = ns.length := List.length_map ..
 have D1 : Def P w K mg base true 1 "_law_draw" ["_law_script", "_law_k", "_law_many"] (spDraw K) := d__law_draw T
 refine sxs_cons ?_
 walk_at "go"
 refine ⟨a, ns, k, 8, rfl, hS, hl, by omega, by omega, by decide, ?_⟩
 have w0 := drawF_nn ns k (m := 8) (by decide)
 have w1 := drawF_lt ns k (m := 8) (by decide)
 obtain ⟨way, ew⟩ := Int.eq_ofNat_of_zero_le w0
 rw [ew] at w1 ⊢
 walk_at "go"
 refine ifD (fun h0 => ?_) (fun h0 => ?_)
 ·walk_at "go"
  exact q _ _ (Same.refl _) (.inl rfl)
 ·have hway : 1 ≤ way := by
   rcases Nat.eq_zero_or_pos way with e | e
   ·exact absurd (by rw [e]; rfl) h0
   ·exact e
  walk_at "go"
  refine ifD (fun h => ?_) (fun h => ?_)
  ·have hn : kd = "number" := by injection h
   have num : ∀ (cell : Int) (D : Ends), D.rt = Q -> SXs (CxF true P w K mg base N__law_value "_law_value" (defScope s__law_value) f cdv A outer s H E) ((inIf (stAt (defBody s__law_value) 2)).drop 1) D [some (.ref a), some (.int k), some (.str kd), some (.int way), some (.int cell), none, none, none] H := by
    intro cell D hD
    have c0 := Int.emod_nonneg cell (b := 2 * 1000000000000000000 + 1) (by decide)
    have c1 := Int.emod_lt_of_pos cell (b := 2 * 1000000000000000000 + 1) (by decide)
    refine sxs_cons ?_
    walk_at "go"
    generalize cell % (2 * 1000000000000000000 + 1) = z at c0 c1 ⊢
    refine ⟨by show 7 ≤ sizeLine; omega, fun p hp => ?_⟩
    walk_at "go"
    obtain ⟨v, e1, e2⟩ := atI_mem (xs := [V.int 0, V.int 1, V.int (-1), V.int 10, V.int (z - 1000000000000000000), V.int 1000000000000000000, V.int (0 - 1000000000000000000)]) (i := (way : Int) - 1) (by omega) (by show _ < (7 : Int); omega)
    refine i_list (SqL.of upd_same) e1 ?_
    have hv : ∃ i, v = .int i /\ -1000000000000000000 ≤ i /\ i ≤ 1000000000000000000 := by
     simp only [List.mem_cons, List.not_mem_nil, or_false] at e2
     rcases e2 with rfl | rfl | rfl | rfl | rfl | rfl | rfl <;> exact ⟨_, rfl, by omega, by omega⟩
    show D.rt _ _
    rw [hD]
    exact q _ _ (Same.upd hp) (.inr (.inl ⟨hn, hv⟩))
   walk_at "go"
   rw [hlm]
   refine ifD (fun h3 => ?_) (fun h3 => ?_)
   ·walk_at "go"
    rw [hlm]
    walk_at "go"
    refine i_list hS (atI_map 0 (Int.emod_nonneg _ (by omega)) (Int.emod_lt_of_pos _ (by omega))) ?_
    exact num _ _ rfl
   ·walk_at "ex"
    exact num _ _ rfl
  ·have hn : ¬ kd = "number" := fun e => h (by rw [e])
   walk_at "go"
   refine ⟨by show 7 ≤ sizeLine; omega, fun p hp => ?_⟩
   have smp := Same.upd (H := H) (o := .lst [V.int 0, V.int 1, V.int 1, V.int 2, V.int 3, V.int 5, V.int 20]) hp
   walk_at "go"
   obtain ⟨v, e1, e2⟩ := atI_mem (xs := [V.int 0, V.int 1, V.int 1, V.int 2, V.int 3, V.int 5, V.int 20]) (i := (way : Int) - 1) (by omega) (by show _ < (7 : Int); omega)
   refine i_list (SqL.of upd_same) e1 ?_
   obtain ⟨sz, rfl, hs20⟩ : ∃ sz : Nat, v = .int sz /\ sz ≤ 20 := by
    simp only [List.mem_cons, List.not_mem_nil, or_false] at e2
    rcases e2 with rfl | rfl | rfl | rfl | rfl | rfl | rfl
    ·exact ⟨0, rfl, by decide⟩
    ·exact ⟨1, rfl, by decide⟩
    ·exact ⟨1, rfl, by decide⟩
    ·exact ⟨2, rfl, by decide⟩
    ·exact ⟨3, rfl, by decide⟩
    ·exact ⟨5, rfl, by decide⟩
    ·exact ⟨20, rfl, by decide⟩
   generalize upd H p _ = H1 at smp ⊢
   have hway4 : (way : Int) / 4 = 0 \/ (way : Int) / 4 = 1 := by omega
   walk_at "go"
   refine ev_compR ["_law_j", "_law_k", "_law_script", "_law_signs", "_law_way"] (σ' := [none, some (.int k), some (.ref a), some (.str SG1), some (.int way)]) (by rfl) (by rfl) (compSc_of (defScope s__law_value) (by rfl) (by rfl) (by decide +kernel)) (by decide +kernel) (by rfl) (by rfl) (by rfl) n2 (by rfl) ?_
   walk_at "e"
   refine ⟨sz, rfl, by omega, by omega, fun i v => ∃ c, c ∈ SG /\ v = .str ⟨#[c]⟩, fun fp E' C s3 H0 i H2 hi sm => ?_, fun E' H2 xs hE hl2 hx e2 sm1 => ?_⟩
   ·have hi' : i < sz := by simpa using hi
    walk_at "go"
    refine ⟨by show 2 ≤ sizeLine; omega, fun y hy => ?_⟩
    have smy := Same.upd (H := H2) (o := .lst [V.int 3, V.int 40]) hy
    walk_at "go"
    obtain ⟨v, g1, g2⟩ := atI_mem (xs := [V.int 3, V.int 40]) (i := (way : Int) / 4) (by omega) (by show _ < (2 : Int); omega)
    refine o_fdiv ⟨by omega, by omega⟩ ?_
    refine i_list (SqL.of upd_same) g1 ?_
    obtain ⟨mm, rfl, hm1, hm2⟩ : ∃ mm : Int, v = .int mm /\ 0 < mm /\ mm ≤ 40 := by
     simp only [List.mem_cons, List.not_mem_nil, or_false] at g2
     rcases g2 with rfl | rfl
     ·exact ⟨3, rfl, by decide, by decide⟩
     ·exact ⟨40, rfl, by decide, by decide⟩
    generalize upd H2 y _ = H3 at smy ⊢
    walk_at "go"
    refine ⟨a, ns, k + 7 * i + 1, mm, rfl, ((smp.trans sm).trans smy).seq hS, hl, by omega, by omega, hm1, ?_⟩
    have d0 := drawF_nn ns (k + 7 * i + 1) (m := mm) hm1
    have d1 := drawF_lt ns (k + 7 * i + 1) (m := mm) hm1
    obtain ⟨d, ed⟩ := Int.eq_ofNat_of_zero_le d0
    rw [ed] at d1 ⊢
    have hl40 := L2.len_list SG1
    have hg : SG1.cps.toList[d]? = some (SG1.cps.toList.getD d 0) := by
     rw [List.getD_eq_getElem?_getD, List.getElem?_eq_getElem (by rw [<- hl40, sg1_len]; omega)]
     rfl
    refine i_str (by rw [sg1_len]; omega) (atI_nat hg) ⟨⟨_, sg1_ok _ (List.mem_of_getElem? hg), rfl⟩, smy⟩
   ·have hx3 : ∃ cs : List Nat, xs = (cs.map fun c => (⟨#[c]⟩ : Str)).map V.str /\ ∀ c ∈ cs, c ∈ SG := by
     have : ∀ (xs : List V), (∀ v ∈ xs, ∃ c, c ∈ SG /\ v = .str ⟨#[c]⟩) -> ∃ cs : List Nat, xs = (cs.map fun c => (⟨#[c]⟩ : Str)).map V.str /\ ∀ c ∈ cs, c ∈ SG := by
      intro xs
      induction xs with
      | nil => exact fun _ => ⟨[], rfl, fun c hc => by simp at hc⟩
      | cons v r ih =>
        intro h
        obtain ⟨c, hc, rfl⟩ := h v (List.mem_cons_self ..)
        obtain ⟨cs, rfl, h2⟩ := ih fun v hv => h v (List.mem_cons_of_mem _ hv)
        exact ⟨c :: cs, rfl, fun x hx => (List.mem_cons.mp hx).elim (fun e => e ▸ hc) (h2 x)⟩
     refine this xs fun v hv => ?_
     obtain ⟨i, hi, e⟩ := List.getElem_of_mem hv
     exact hx i v (by rw [List.getElem?_eq_getElem hi, e])
    obtain ⟨cs, rfl, hcs⟩ := hx3
    have hcl : cs.length = sz := by simpa using hl2
    walk_at "go"
    refine m_join (SqL.of e2) ?_ ?_
    ·have e0 : (Str.ofString "").length = 0 := by decide +kernel
     rw [ones_sum, List.length_map, e0]
     omega
    rw [join_signs]
    refine q _ _ (smp.trans sm1) (.inr (.inr ⟨hn, _, rfl, ?_, ?_⟩))
    ·rw [L2.len_list]
     show cs.length ≤ 20
     omega
    ·intro c hc
     exact hcs c (by simpa using hc)
end
end K33
namespace K33
open PySem L2 PyProof.Rows My Vl Lw
section
variable {P : Program} {w : World} {K : PySem.W.Frag} {mg : Str -> Option Value} {base : Heap}
def spValues1 (K : PySem.W.Frag) : Sp := fun vs H Q _ => ∃ (a : Addr) (ns : List Int) (k : Int) (b : Addr) (cs : List Col), vs = [.ref a, .int k, .ref b] /\ SqL K H a (ns.map V.int) /\ ns.length ≤ 63 /\ 0 ≤ k /\ k ≤ 40000 /\ Cols H b cs /\ cs.length ≤ 6 /\ ∀ p xs H', Same H H' -> H p = none -> H' p = some (.lst xs) -> All2 (fun c x => valK c.2 x) cs xs -> Q (.ref p) H'
theorem all2_of_get {α β : Type} {R : α -> β -> Prop} : ∀ {l : List α} {m : List β}, m.length = l.length -> (∀ (i : Nat) b, m[i]? = some b -> ∃ a, l[i]? = some a /\ R a b) -> All2 R l m
 | [], [], _, _ => .nil
 | [], _ :: _, h, _ => by simp at h
 | _ :: _, [], h, _ => by simp at h
 | a :: l, b :: m, h, g => by
   obtain ⟨a', e, r⟩ := g 0 b rfl
   have : a = a' := by simpa using e
   subst this
   exact .cons r (all2_of_get (by simpa using h) fun i x e => by simpa using g (i + 1) x (by simpa using e))
theorem d__law_values (T : Txt K mg) : Def P w K mg base true 3 "_law_values" ["_law_script", "_law_k", "_law_columns_here"] (spValues1 K) := by
 refine df__law_values T (fun vs H Q E h => by obtain ⟨a, ns, k, b, cs, rfl, _⟩ := h; rfl) (fun f cdv A outer s H vs Q E hr h => ?_)
 obtain ⟨a, ns, k, b, cs, rfl, hS, hl, hk0, hk1, hC, hc6, q⟩ := h
 have n1 := T.n_range
 have n2 := T.n_len
 have hsz : sizeLine = 16777216 := sizeLine_eq
 have D1 : Def P w K mg base true 2 "_law_value" ["_law_script", "_law_k", "_law_kind"] (spValue1 K) := d__law_value T
 have ndc : (["_law_j", "_law_columns_here", "_law_k", "_law_script"] : List Str).Nodup := by decide +kernel
 obtain ⟨vs, hb, hvs⟩ := id hC
 have hvl := hvs.len
 have SB : SqL K H b vs := SqL.of hb
 refine sxs_one (sx_ret ?_)
 refine ev_compRh ["_law_j", "_law_columns_here", "_law_k", "_law_script"] (σ' := [none, some (.ref b), some (.int k), some (.ref a)]) (by rfl) (by rfl) (compSc_of (defScope s__law_values) (by rfl) (by rfl) (by decide +kernel)) (by rfl) n1 (by rfl) ?_
 walk_at "go"
 refine ⟨by omega, by omega, fun τ => ∃ o1, τ = [o1, some (.ref b), some (.int k), some (.ref a)], fun E2 i u H' => ∃ c, cs[i]? = some c /\ valK c.2 u, ⟨none, rfl⟩, fun E2 i u H2 H3 ys _ _ p => p, fun fp E2 C s3 H0 i τ x H4 H3 hE2 hi hτ sm4 hys hG => ?_, fun L H1 ys hL hl2 hx2 e1 sm1 => ?_⟩
 ·obtain ⟨o1, rfl⟩ := hτ
  obtain ⟨rfl, rfl⟩ := hG
  have hil : i < vs.length := by simpa using hi
  have hg : vs[i]? = some vs[i] := List.getElem?_eq_getElem hil
  obtain ⟨c, hc, t, ev, ht⟩ := hvs.get hg
  refine eg_name ndc (by rfl) (.inl rfl) (.inr rfl) ?_
  walk_at "go"
  refine i_list (sm4.seq SB) (atI_nat hg) ?_
  rw [ev]
  walk_at "go"
  refine i_tup (SqT.of (sm4 _ _ ht)) (show atI [V.str c.1, V.str c.2] 1 = some (V.str c.2) from rfl) ?_
  walk_at "go"
  refine ⟨a, ns, _, c.2, rfl, sm4.seq hS, hl, by omega, by omega, fun v H5 sm5 hv => ?_⟩
  exact ⟨⟨_, rfl⟩, ⟨c, hc, hv⟩, sm5⟩
 ·exact q L ys H1 sm1 hL e1 (all2_of_get (by rw [hl2, <- hvl]; simp) hx2)
end
end K33
namespace K33
open PySem L2 PyProof.Rows My Vl Lw
section
variable {P : Program} {w : World} {K : PySem.W.Frag} {mg : Str -> Option Value} {base : Heap}
theorem inV_ints (z : Int) (xs : List Int) : inV (V.int z) (xs.map V.int) = decide (z ∈ xs) := by
 unfold inV
 rw [List.any_map]
 induction xs with
 | nil => rfl
 | cons y r ih =>
   rw [List.any_cons, ih]
   show (decide (y = z) || decide (z ∈ r)) = decide (z ∈ y :: r)
   by_cases h : z = y
   ·subst h; simp
   ·have h' : ¬ y = z := fun e => h e.symm
    simp [h, h']
theorem mem_ins {α : Type} {xs : List α} {k : Nat} {y x : α} : x ∈ insAt xs k y ↔ x = y \/ x ∈ xs := by
 unfold insAt
 rw [List.mem_append, List.mem_cons]
 constructor
 ·rintro (h | h | h)
  ·exact .inr (List.mem_of_mem_take h)
  ·exact .inl h
  ·exact .inr (List.mem_of_mem_drop h)
 ·rintro (h | h)
  ·exact .inr (.inl h)
  ·have := (List.take_append_drop k xs) ▸ h
   rcases List.mem_append.mp this with h | h
   ·exact .inl h
   ·exact .inr (.inr h)
theorem nodup_ins {α : Type} {xs : List α} {k : Nat} {y : α} (h : xs.Nodup) (hy : y ∉ xs) : (insAt xs k y).Nodup := by
 have : (insAt xs k y).Perm (y :: xs) := by
  unfold insAt
  have h1 : (y :: (xs.take k ++ xs.drop k)).Perm (y :: xs) := by rw [List.take_append_drop]
  exact List.perm_middle.trans h1
 exact this.nodup_iff.mpr (List.nodup_cons.mpr ⟨hy, h⟩)
theorem ins_map {α β : Type} (f : α -> β) (xs : List α) (k : Nat) (y : α) : insAt (xs.map f) k (f y) = (insAt xs k y).map f := by
 unfold insAt
 rw [List.map_append, List.map_cons, List.map_take, List.map_drop]
theorem ins_len {α : Type} (xs : List α) (k : Nat) (y : α) (h : k ≤ xs.length) : (insAt xs k y).length = xs.length + 1 := by
 unfold insAt
 rw [List.length_append, List.length_cons, List.length_take, List.length_drop]
 omega
def goodNums (xs : List Int) : Prop := 3 ≤ xs.length /\ xs.length ≤ 33 /\ xs.Nodup /\ ∀ x ∈ xs, 0 ≤ x /\ x ≤ 1000000000
def spNumbers1 (K : PySem.W.Frag) : Sp := fun vs H Q _ => ∃ (a : Addr) (ns : List Int), vs = [.ref a] /\ SqL K H a (ns.map V.int) /\ ns.length ≤ 63 /\ ∀ p xs H', Same H H' -> H p = none -> H' p = some (.lst (xs.map V.int)) -> goodNums xs -> Q (.ref p) H'
theorem d__law_numbers (T : Txt K mg) : Def P w K mg base true 2 "_law_numbers" ["_law_script"] (spNumbers1 K) := by
 refine df__law_numbers T (fun vs H Q E h => by obtain ⟨a, ns, rfl, _⟩ := h; rfl) (fun f cdv A outer s H vs Q E hr h => ?_)
 obtain ⟨a, ns, rfl, hS, hl, q⟩ := h
 have nd := sc__law_numbers.nd
 have n1 := T.n_range
 have n2 := T.n_len
 have hsz : sizeLine = 16777216 := sizeLine_eq
 have D1 : Def P w K mg base true 1 "_law_draw" ["_law_script", "_law_k", "_law_many"] (spDraw K) := d__law_draw T
 refine sxs_cons ?_
 walk_at "go"
 refine ⟨by show 3 ≤ sizeLine; omega, fun p hp => ?_⟩
 have sm0 : Same H (upd H p (.lst ([0, 1000000000, 1].map V.int))) := Same.upd hp
 have ep : (upd H p (.lst ([0, 1000000000, 1].map V.int))) p = some (.lst ([0, 1000000000, 1].map V.int)) := upd_same
 change SXs _ _ _ _ (upd H p (.lst ([0, 1000000000, 1].map V.int)))
 generalize upd H p (.lst ([0, 1000000000, 1].map V.int)) = H1 at sm0 ep ⊢
 refine sxs_cons ?_
 refine sx_forR (by walk_at "po") (by rfl) (by rfl) n1 (by rfl) ?_
 walk_at "go"
 refine ⟨by show 6 ≤ sizeLine; omega, fun y hy => ?_⟩
 have smy := Same.upd (H := H1) (o := .lst [V.int 4, V.int 4, V.int 4, V.int 4, V.int 4, V.int 30]) hy
 walk_at "go"
 refine ⟨a, ns, 199, 6, rfl, (sm0.trans smy).seq hS, hl, by omega, by omega, by decide, ?_⟩
 have d0 := drawF_nn ns 199 (m := 6) (by decide)
 have d1 := drawF_lt ns 199 (m := 6) (by decide)
 obtain ⟨v, e1, e2⟩ := atI_mem (xs := [V.int 4, V.int 4, V.int 4, V.int 4, V.int 4, V.int 30]) (i := drawF ns 199 6) (by omega) (by show _ < (6 : Int); omega)
 refine i_list (SqL.of upd_same) e1 ?_
 obtain ⟨mm, rfl, hmm⟩ : ∃ mm : Nat, v = .int mm /\ mm ≤ 30 := by
  simp only [List.mem_cons, List.not_mem_nil, or_false] at e2
  rcases e2 with rfl | rfl | rfl | rfl | rfl | rfl
  ·exact ⟨4, rfl, by decide⟩
  ·exact ⟨4, rfl, by decide⟩
  ·exact ⟨4, rfl, by decide⟩
  ·exact ⟨4, rfl, by decide⟩
  ·exact ⟨4, rfl, by decide⟩
  ·exact ⟨30, rfl, by decide⟩
 have ep2 := smy _ _ ep
 generalize upd H1 y _ = H2 at smy ep2 ⊢
 refine ⟨_, rfl, by omega, by omega, fun i σ H' => (∃ o2 o3, σ = [some (.ref a), some (.ref p), o2, o3]) /\ Same H H' /\ ∃ xs : List Int, H' p = some (.lst (xs.map V.int)) /\ 3 ≤ xs.length /\ xs.length ≤ 3 + i /\ xs.Nodup /\ ∀ x ∈ xs, 0 ≤ x /\ x ≤ 1000000000,
  ⟨⟨none, none, rfl⟩, sm0.trans smy, [0, 1000000000, 1], ep2, by decide, by decide, by decide, by decide⟩, fun i σ H' hi hP => ?_, fun σ H' hP => ?_⟩
 ·obtain ⟨⟨o2, o3, rfl⟩, sm, xs, ex, hx3, hxi, hxn, hxb⟩ := hP
  have hi30 : i < 30 := by have : i < mm := by simpa using hi
                           omega
  have hxl : (xs.map V.int).length = xs.length := List.length_map ..
  refine eg_name nd (by rfl) (.inl rfl) (.inl rfl) ?_
  walk_at "go"
  refine ⟨a, ns, 200 + i, 500000, rfl, sm.seq hS, hl, by omega, by omega, by decide, ?_⟩
  have a0 := drawF_nn ns (200 + i) (m := 500000) (by decide)
  have a1 := drawF_lt ns (200 + i) (m := 500000) (by decide)
  generalize drawF ns (200 + i) 500000 = x at a0 a1 ⊢
  walk_at "go"
  refine ⟨by show 3 ≤ sizeLine; omega, fun y hy => ?_⟩
  have smy := Same.upd (H := H') (o := .lst [V.int 1, V.int 1, V.int 1999]) hy
  walk_at "go"
  refine ⟨a, ns, 240 + i, 3, rfl, (sm.trans smy).seq hS, hl, by omega, by omega, by decide, ?_⟩
  have b0 := drawF_nn ns (240 + i) (m := 3) (by decide)
  have b1 := drawF_lt ns (240 + i) (m := 3) (by decide)
  obtain ⟨v, e1, e2⟩ := atI_mem (xs := [V.int 1, V.int 1, V.int 1999]) (i := drawF ns (240 + i) 3) (by omega) (by show _ < (3 : Int); omega)
  refine i_list (SqL.of upd_same) e1 ?_
  have hv : ∃ c : Int, v = .int c /\ (c = 1 \/ c = 1999) := by
   simp only [List.mem_cons, List.not_mem_nil, or_false] at e2
   rcases e2 with rfl | rfl | rfl
   ·exact ⟨1, rfl, .inl rfl⟩
   ·exact ⟨1, rfl, .inl rfl⟩
   ·exact ⟨1999, rfl, .inr rfl⟩
  obtain ⟨c, rfl, hc⟩ := hv
  have ex2 := smy _ _ ex
  have sm2 := sm.trans smy
  generalize upd H' y _ = H3 at smy ex2 sm2 ⊢
  have hx0 : 0 ≤ x * c /\ x * c ≤ 1000000000 := by rcases hc with rfl | rfl <;> omega
  refine o_mul (.inl ⟨by omega, by omega⟩) ?_
  generalize x * c = z at hx0 ⊢
  walk_at "go"
  have hfl : (xs.map V.int).all flatV = true := by rw [List.all_map]; exact List.all_eq_true.mpr fun _ _ => rfl
  refine o_ninL (SqL.of ex2) rfl hfl ?_
  have hin : inV (V.int z) (xs.map V.int) = decide (z ∈ xs) := inV_ints z xs
  rw [hin]
  by_cases hz : z ∈ xs
  ·rw [decide_eq_true hz]
   walk_at "go"
   exact ⟨⟨_, _, rfl⟩, sm2, xs, ex2, hx3, by omega, hxn, hxb⟩
  ·rw [decide_eq_false hz]
   walk_at "go"
   refine ev_bm PySem.F.plainAttrs_list PySem.F.slot_list_insert PySem.F.type_list_insert (by rfl) (by rfl) (by rfl) (by rfl) (by rfl) ?_
   walk_at "go"
   refine ⟨.inl ⟨rfl, _, SqL.of ex2⟩, ?_⟩
   have SL3 : SqL K H3 p (xs.map V.int) := SqL.of ex2
   walk_at "go"
   rw [hxl]
   refine ⟨a, ns, 270 + i, (xs.length : Int) + 1, rfl, sm2.seq hS, hl, by omega, by omega, by omega, ?_⟩
   have c0 := drawF_nn ns (270 + i) (m := (xs.length : Int) + 1) (by omega)
   have c1 := drawF_lt ns (270 + i) (m := (xs.length : Int) + 1) (by omega)
   obtain ⟨kk, ek⟩ := Int.eq_ofNat_of_zero_le c0
   rw [ek] at c1 ⊢
   walk_at "go"
   refine mt_by mt_insert ⟨p, _, kk, _, rfl, rfl, ex2, by rw [hxl]; omega, by rw [hxl]; omega, ?_⟩
   rw [ins_map]
   refine ⟨⟨_, _, rfl⟩, fun b o e => ?_, insAt xs kk z, upd_same, by rw [ins_len _ _ _ (by omega)]; omega, by rw [ins_len _ _ _ (by omega)]; omega, nodup_ins hxn hz, fun u hu => ?_⟩
   ·rw [upd_ne (ne_of_none e hp)]
    exact sm2 _ _ e
   ·rcases mem_ins.mp hu with e | e
    ·rw [e]; exact hx0
    ·exact hxb u e
 ·obtain ⟨⟨o2, o3, rfl⟩, sm, xs, ex, hx3, hxi, hxn, hxb⟩ := hP
  walk_at "go"
  exact q p xs _ sm hp ex ⟨hx3, by rw [Int.toNat_natCast] at hxi; omega, hxn, hxb⟩
end
end K33
namespace K33
open PySem L2 PyProof.Rows My Vl Lw
section
variable {P : Program} {w : World} {K : PySem.W.Frag} {mg : Str -> Option Value} {base : Heap}
def bkDo (B : Bk) (row : Int) (o : Option (List V)) : Bk :=
 { B with rows := (match o with | none => aDrop B.rows row | some xs => aPut B.rows row xs), touched := (match o with | none => aDrop B.touched row | some _ => aPut B.touched row (B.now + 1)),
          done := B.done ++ [⟨B.now + 1, row, aGet B.rows row, o⟩], now := B.now + 1 }
def smallB (B : Bk) : Prop := B.rows.length < 1000000 /\ B.touched.length < 1000000 /\ B.done.length < 1000000
def wfB (B : Bk) : Prop := ∀ i, aGet B.rows i = none ↔ aGet B.touched i = none
abbrev cB (mg : Str -> Option Value) : Addr := clsA mg "Book"
def spDo (mg : Str -> Option Value) : Sp := fun vs H Q _ => ∃ (A : BA) (B : Bk) (row : Int) (v : V) (o : Option (List V)), vs = [.ref A.b, .int row, v] /\ BookAt (cB mg) H A B /\ OptAt H v o /\ (o = none -> aGet B.rows row ≠ none /\ aGet B.touched row ≠ none) /\ smallB B /\
 ∀ H', Out A.fp H H' -> BookAt (cB mg) H' A (bkDo B row o) -> Q (.int (B.now + 1)) H'
theorem f_do (T : Txt K mg) : FD P w K mg base true 1 "do" "Book.do" s_Book_do ["self", "row", "values"] (spDo mg) := by
 refine ff_Book_do (fun vs H Q E h => by obtain ⟨A, B, row, v, o, rfl, _⟩ := h; rfl) (fun f cdv A' outer s H vs Q E hr h => ?_)
 obtain ⟨A, B, row, v, o, rfl, kB, hv, hno, ⟨z1, z2, z3⟩, q⟩ := h
 have nd := sc_Book_do.nd
 have hsz : sizeLine = 16777216 := sizeLine_eq
 have hc := T.k_Book
 have a1 := T.na_Book_rows
 have a2 := T.na_Book_touched
 have a3 := T.na_Book_done
 have a4 := T.na_Book_now
 have hu : _ + 1 < cLine := Nat.lt_of_le_of_lt (Nat.add_le_add_left (by decide : 1 ≤ 64) _) hr.units
 have kR := kB.rows
 obtain ⟨kvs, er, hR⟩ := id kR
 obtain ⟨tvs, et, hT⟩ := kB.touched
 obtain ⟨ds, ed, hD⟩ := kB.done
 have kI := kB.ins
 refine sxs_cons ?_
 walk_at "s"
 refine ev_dget1 hu (by constructor <;> rfl) ?_
 refine ev_fld (by rfl) ?_
 walk_at "e"
 refine ⟨A.b, _, _, _, _, rfl, kI, hc, a1, rfl, A.r, rfl, .inl ⟨_, .inl er⟩, ?_⟩
 walk_at "e"
 refine ⟨_, DGet.k (k := Sum.inl row) er, ?_⟩
 have hw : OptAt H ((valV kvs (Sum.inl row)).getD .non) (aGet B.rows row) := by
  rcases pr_get hR row with ⟨e1, e2⟩ | ⟨u, x, e1, e2, r⟩
  ·rw [e1, e2]; rfl
  ·rw [e1, e2]; exact r
 generalize (valV kvs (Sum.inl row)).getD .non = wv at hw ⊢
 refine sxs_cons (sx_addF ?_)
 walk_at "e"
 refine ⟨A.b, _, _, _, _, rfl, kI, hc, a4, rfl, ?_⟩
 walk_at "e"
 refine ⟨_, _, rfl, rfl, _, _, kI, by show 6 < 1000; decide, ?_⟩
 have k1 := kB.setI B.known (B.now + 1)
 have o1 : Out A.fp H _ := Out.upd (H := H) (a := A.b) (o := .ins (cB mg) A.dx [("heads", .ref A.h), ("rows", .ref A.r), ("touched", .ref A.t), ("done", .ref A.d), ("known", .int B.known), ("now", .int (B.now + 1))]) (by simp [BA.fp])
 change SXs _ _ _ _ (upd H A.b (.ins (cB mg) A.dx [("heads", .ref A.h), ("rows", .ref A.r), ("touched", .ref A.t), ("done", .ref A.d), ("known", .int B.known), ("now", .int (B.now + 1))]))
 generalize upd H A.b _ = H1 at k1 o1 ⊢
 have k1I := k1.ins
 have fin : ∀ (H2 : Hp) (B2 : Bk), Out A.fp H H2 -> BookAt (cB mg) H2 A B2 -> B2 = { bkDo B row o with done := B.done } -> SXs (CxF true P w K mg base N_Book_do "Book.do" (defScope s_Book_do) f cdv A' outer s H E) ((defBody s_Book_do).drop 3) { nx := fun _ H' => Q .non H', rt := Q } [some (.ref A.b), some (.int row), some v, some wv] H2 := by
  intro H2 B2 o2 k2 e2
  have hB2 : B2.now = B.now + 1 /\ B2.done = B.done := by rw [e2]; exact ⟨rfl, rfl⟩
  have k2I := k2.ins
  obtain ⟨ds2, ed2, hD2⟩ := k2.done
  have st := kB.tup o2
  have hwv := hw.stay st
  have hvv := hv.stay st
  have hl2 := hD2.len
  rw [hB2.2] at hl2 hD2
  rw [hB2.1] at k2I
  refine sxs_cons (sx_expr (by rfl) (ev_bm PySem.F.plainAttrs_list PySem.F.slot_list_append PySem.F.type_list_append (by rfl) (by rfl) (by rfl) (by rfl) (by rfl) ?_))
  refine ev_fld (by rfl) ?_
  walk_at "e"
  refine ⟨A.b, _, _, _, _, rfl, k2I, hc, a3, rfl, .inl ⟨rfl, _, SqL.of ed2⟩, ?_⟩
  walk_at "go"
  refine ev_fld (by rfl) ?_
  walk_at "e"
  refine ⟨A.b, _, _, _, _, rfl, k2I, hc, a4, rfl, ?_⟩
  walk_at "go"
  refine ⟨by show 4 ≤ sizeLine; omega, fun t ht => ?_⟩
  have smt : Same H2 (upd H2 t (.tup [.int (B.now + 1), .int row, wv, v])) := Same.upd ht
  have et2 : (upd H2 t (.tup [.int (B.now + 1), .int row, wv, v])) t = some (.tup [.int (B.now + 1), .int row, wv, v]) := upd_same
  generalize upd H2 t (.tup [.int (B.now + 1), .int row, wv, v]) = H3 at smt et2 ⊢
  have k3 := k2.same smt
  walk_at "go"
  refine mt_by mt_append ⟨A.d, _, _, rfl, rfl, smt _ _ ed2, by omega, ?_⟩
  have hD3 : All2 (DeedAt H3) (ds2 ++ [V.ref t]) (B.done ++ [⟨B.now + 1, row, aGet B.rows row, o⟩]) := All2.app (All2.imp (fun v d h => h.stay fun b ys e => smt _ _ e) hD2) (.cons ⟨t, wv, v, rfl, et2, hwv.stay fun b ys e => smt _ _ e, hvv.stay fun b ys e => smt _ _ e⟩ .nil)
  have k4 := k3.setD hD3
  have o4 : Out A.fp H _ := (o2.trans (Out.of smt)).trans (Out.upd (H := H3) (a := A.d) (o := .lst (ds2 ++ [V.ref t])) (by simp [BA.fp]))
  generalize upd H3 A.d _ = H4 at k4 o4 ⊢
  have k4I := k4.ins
  refine sxs_one (sx_ret ?_)
  refine ev_fld (by rfl) ?_
  walk_at "e"
  refine ⟨A.b, _, _, _, _, rfl, k4I, hc, a4, rfl, ?_⟩
  have e4 : { B2 with done := B.done ++ [⟨B.now + 1, row, aGet B.rows row, o⟩] } = bkDo B row o := by rw [e2]; rfl
  rw [e4] at k4
  have := q H4 o4 k4
  show Q (.int B2.now) H4
  rw [hB2.1]
  exact this
 obtain ⟨kvs1, er1, hR1⟩ := k1.rows
 obtain ⟨tvs1, et1, hT1⟩ := k1.touched
 have hrl := hR1.len
 have htl := hT1.len
 have z1' : kvs1.length < 1000000 := by rw [hrl]; exact z1
 cases o with
 | none =>
   have hv' : v = .non := hv
   subst hv'
   obtain ⟨g1, g2⟩ := hno rfl
   refine sxs_cons ?_
   walk_at "go"
   refine ev_dpop1 (by constructor <;> rfl) ?_
   refine ev_fld (by rfl) ?_
   walk_at "e"
   rcases pr_get hR1 row with ⟨_, e2⟩ | ⟨u, x, e1, _, _⟩
   ·exact absurd e2 g1
   refine ⟨A.b, _, _, _, _, rfl, k1I, hc, a1, rfl, A.r, rfl, .inl ⟨_, .inl er1⟩, ?_⟩
   walk_at "e"
   refine ⟨kvs1, Sum.inl row, u, er1, rfl, e1, ?_⟩
   have k2 := k1.setR (pr_drop hR1 row)
   have o2 : Out A.fp H _ := o1.trans (Out.upd (H := H1) (a := A.r) (o := .dK (dropK kvs1 (Sum.inl row))) (by simp [BA.fp]))
   generalize upd H1 A.r _ = H2 at k2 o2 ⊢
   have k2I := k2.ins
   obtain ⟨tvs2, et2, hT2⟩ := k2.touched
   refine sxs_one (sx_expr (by rfl) (ev_dpop1 (by constructor <;> rfl) ?_))
   refine ev_fld (by rfl) ?_
   walk_at "e"
   rcases pr_get hT2 row with ⟨_, e2⟩ | ⟨u2, x2, e3, _, _⟩
   ·exact absurd e2 g2
   refine ⟨A.b, _, _, _, _, rfl, k2I, hc, a2, rfl, A.t, rfl, .inl ⟨_, .inl et2⟩, ?_⟩
   walk_at "e"
   refine ⟨tvs2, Sum.inl row, u2, et2, rfl, e3, ?_⟩
   have k3 := k2.setT (pr_drop hT2 row)
   have o3 : Out A.fp H _ := o2.trans (Out.upd (H := H2) (a := A.t) (o := .dK (dropK tvs2 (Sum.inl row))) (by simp [BA.fp]))
   generalize upd H2 A.t _ = H3 at k3 o3 ⊢
   exact fin H3 _ o3 k3 rfl
 | some xs =>
   obtain ⟨t, rfl, ht⟩ := id hv
   refine sxs_cons ?_
   walk_at "go"
   refine sx_dput hu (by rfl) ?_
   walk_at "e"
   refine ev_fld (by rfl) ?_
   walk_at "e"
   refine ⟨A.b, _, _, _, _, rfl, k1I, hc, a1, rfl, ?_⟩
   walk_at "e"
   refine ⟨A.r, _, rfl, DPut.k (k := Sum.inl row) er1 (by omega), ?_⟩
   have k2 := k1.setR (pr_put hR1 row (v := .ref t) (x := xs) ⟨t, rfl, kB.tup o1 _ _ ht⟩)
   have o2 : Out A.fp H _ := o1.trans (Out.upd (H := H1) (a := A.r) (o := .dK (putK kvs1 (Sum.inl row) (.ref t))) (by simp [BA.fp]))
   generalize upd H1 A.r _ = H2 at k2 o2 ⊢
   have k2I := k2.ins
   obtain ⟨tvs2, et2, hT2⟩ := k2.touched
   have z2' : tvs2.length < 1000000 := by rw [hT2.len]; exact z2
   refine sxs_one (sx_dput hu (by rfl) ?_)
   refine ev_fld (by rfl) ?_
   walk_at "e"
   refine ⟨A.b, _, _, _, _, rfl, k2I, hc, a4, rfl, ?_⟩
   refine ev_fld (by rfl) ?_
   walk_at "e"
   refine ⟨A.b, _, _, _, _, rfl, k2I, hc, a2, rfl, ?_⟩
   walk_at "e"
   refine ⟨A.t, _, rfl, DPut.k (k := Sum.inl row) et2 (by omega), ?_⟩
   have k3 := k2.setT (pr_put hT2 row (v := .int (B.now + 1)) (x := B.now + 1) rfl)
   have o3 : Out A.fp H _ := o2.trans (Out.upd (H := H2) (a := A.t) (o := .dK (putK tvs2 (Sum.inl row) (.int (B.now + 1)))) (by simp [BA.fp]))
   generalize upd H2 A.t _ = H3 at k3 o3 ⊢
   exact fin H3 _ o3 k3 rfl
end
end K33
namespace K33
open PySem L2 PyProof.Rows My Vl Lw
section
variable {P : Program} {w : World} {K : PySem.W.Frag} {mg : Str -> Option Value} {base : Heap}
theorem d_is_whole (T : Txt K mg) : Def P w K mg base true 1 "is_whole" ["value"] spWhole := by
 refine df_is_whole T (fun vs H Q E h => by obtain ⟨v, rfl, _⟩ := h; rfl) (fun f cdv A outer s H vs Q E hr h => ?_)
 obtain ⟨v, rfl, hs, q⟩ := h
 have n1 := T.n_isinstance
 have n2 := T.n_int
 have n3 := T.n_bool
 refine sxs_one (sx_ret ?_)
 cases v with
 | non =>
   walk_at "go"
   exact q
 | int i =>
   walk_at "go"
   exact q
 | str z =>
   walk_at "go"
   exact q
 | _ => cases hs
end
end K33
namespace K33
open PySem L2 PyProof.Rows My Vl Lw
section
variable {P : Program} {w : World} {K : PySem.W.Frag} {mg : Str -> Option Value} {base : Heap}
theorem d_made_of (T : Txt K mg) : Def P w K mg base true 1 "made_of" ["text", "signs"] spMade := by
 refine df_made_of T (fun vs H Q E h => by obtain ⟨z, g, rfl, _⟩ := h; rfl) (fun f cdv A outer s H vs Q E hr h => ?_)
 obtain ⟨z, g, rfl, hz, q⟩ := h
 have n1 := T.n_all
 refine sxs_one (sx_ret ?_)
 walk_at "e"
 walk_at "e"
 refine ev_compS ["sign", "signs"] (σ' := [none, some (.str g)]) (by rfl) (by rfl) (compSc_of (defScope s_made_of) (by rfl) (by rfl) (by decide +kernel)) (by decide +kernel) (by rfl) (by rfl) (by intro _; rfl) ?_
 walk_at "e"
 refine ⟨z, rfl, ?_, fun i v => ∃ c, z.cps.toList[i]? = some c /\ v = .bl (decide (c ∈ g.cps.toList)), fun fp E' C s3 H0 i c H2 hc sm => ?_, fun E' H2 xs hE hl hx e2 sm => ?_⟩
 ·have : z.cps.size = z.length := rfl
  have h2 : sizeLine = 16777216 := sizeLine_eq
  omega
 ·walk_at "go"
  exact ⟨⟨c, hc, by rw [StrLaws.found_one]⟩, Same.refl _⟩
 ·have ex := list_of_pi (ys := z.cps.toList) (fun c => V.bl (decide (c ∈ g.cps.toList))) (by rw [hl]; simp) hx
  have ex2 : xs = (z.cps.toList.map fun c => decide (c ∈ g.cps.toList)).map V.bl := by rw [ex, List.map_map]; rfl
  subst ex2
  walk_at "go"
  refine c_all (by rfl) (SqL.of e2) ?_
  have e3 : (z.cps.toList.map fun c => decide (c ∈ g.cps.toList)).all id = madeOf z g := by rw [List.all_map]; rfl
  rw [e3]
  exact q _ sm
end
end K33
namespace K33
open PySem L2 PyProof.Rows My Vl Lw
section
variable {P : Program} {w : World} {K : PySem.W.Frag} {mg : Str -> Option Value} {base : Heap}
theorem d_is_number_value (T : Txt K mg) : Def P w K mg base true 2 "is_number_value" ["value"] spNum := by
 refine df_is_number_value T (fun vs H Q E h => by obtain ⟨z, rfl, _⟩ := h; rfl) (fun f cdv A outer s H vs Q E hr h => ?_)
 obtain ⟨v, rfl, hs, q⟩ := h
 have g1 := T.g_LARGEST
 have D1 : Def P w K mg base true 1 "is_whole" ["value"] spWhole := d_is_whole T
 refine sxs_one (sx_ret ?_)
 walk_at "go"
 refine ⟨v, rfl, hs, ?_⟩
 walk_at "go"
 cases v with
 | int i =>
   refine ifB (fun _ => ?_) (fun h => by cases h)
   walk_at "go"
   refine ifD (fun h => ?_) (fun h => ?_)
   ·walk_at "go"
    have e : isNum (.int i) = decide (i ≤ 1000000000000000000) := by unfold isNum; simp [h]
    rw [e] at q
    exact q
   ·have e : isNum (.int i) = false := by unfold isNum; simp [h]
    rw [e] at q
    exact q
 | non => exact ifB (fun h => by cases h) (fun _ => q)
 | str z => exact ifB (fun h => by cases h) (fun _ => q)
 | _ => cases hs
end
end K33
namespace K33
open PySem L2 PyProof.Rows My Vl Lw
section
variable {P : Program} {w : World} {K : PySem.W.Frag} {mg : Str -> Option Value} {base : Heap}
theorem d_is_text_value (T : Txt K mg) : Def P w K mg base true 2 "is_text_value" ["value"] spTxt := by
 refine df_is_text_value T (fun vs H Q E h => by obtain ⟨z, rfl, _⟩ := h; rfl) (fun f cdv A outer s H vs Q E hr h => ?_)
 obtain ⟨v, rfl, hs, hz, q⟩ := h
 have g1 := T.g_LONGEST
 have g2 := T.g_TEXT_SIGNS
 have n1 := T.n_isinstance
 have n2 := T.n_str
 have n3 := T.n_len
 have D1 : Def P w K mg base true 1 "made_of" ["text", "signs"] spMade := d_made_of T
 have hsz : sizeLine = 16777216 := sizeLine_eq
 refine sxs_one (sx_ret ?_)
 cases v with
 | int i =>
   walk_at "go"
   exact q H (Same.refl _)
 | non =>
   walk_at "go"
   exact q H (Same.refl _)
 | str z =>
   have hz' : z.length ≤ 4000 := hz
   walk_at "go"
   refine ifD (fun h => ?_) (fun h => ?_)
   ·walk_at "go"
    refine ⟨z, _, rfl, hz', fun H' sm => ?_⟩
    have e : isTxt (.str z) = madeOf z TSs := by
     have h' : z.length ≤ 20 := by omega
     unfold isTxt
     simp [h']
    rw [e] at q
    exact q H' sm
   ·have e : isTxt (.str z) = false := by
     have h' : ¬ z.length ≤ 20 := by omega
     unfold isTxt
     simp [h']
    rw [e] at q
    exact q H (Same.refl _)
 | _ => cases hs
end
end K33
namespace K33
open PySem L2 PyProof.Rows My Vl Lw
section
variable {P : Program} {w : World} {K : PySem.W.Frag} {mg : Str -> Option Value} {base : Heap}
theorem d_is_value (T : Txt K mg) : Def P w K mg base true 3 "is_value" ["kind", "value"] spVal := by
 refine df_is_value T (fun vs H Q E h => by obtain ⟨k, z, rfl, _⟩ := h; rfl) (fun f cdv A outer s H vs Q E hr h => ?_)
 obtain ⟨k, v, rfl, hs, hz, q⟩ := h
 have g1 := T.g_NUMBER
 have D1 : Def P w K mg base true 2 "is_number_value" ["value"] spNum := d_is_number_value T
 have D2 : Def P w K mg base true 2 "is_text_value" ["value"] spTxt := d_is_text_value T
 refine sxs_cons ?_
 walk_at "go"
 refine ifD (fun h => ?_) (fun h => ?_)
 ·subst h
  walk_at "go"
  exact q H (Same.refl _)
 ·walk_at "go"
  have ev : isVal k v = if k = "number" then isNum v else isTxt v := by cases v <;> first | rfl | exact absurd rfl h
  refine ifD (fun h2 => ?_) (fun h2 => ?_)
  ·have h3 : k = "number" := by cases h2; rfl
   rw [if_pos h3] at ev
   rw [ev] at q
   walk_at "go"
   exact ⟨v, rfl, hs, q H (Same.refl _)⟩
  ·have h3 : ¬ k = "number" := fun e => h2 (by rw [e])
   rw [if_neg h3] at ev
   rw [ev] at q
   walk_at "go"
   exact ⟨v, rfl, hs, hz, q⟩
end
end K33
namespace K33
open PySem L2 PyProof.Rows My Vl Lw
section
variable {P : Program} {w : World} {K : PySem.W.Frag} {mg : Str -> Option Value} {base : Heap}
theorem d_is_name (T : Txt K mg) : Def P w K mg base true 2 "is_name" ["name"] spName := by
 refine df_is_name T (fun vs H Q E h => by obtain ⟨z, rfl, _⟩ := h; rfl) (fun f cdv A outer s H vs Q E hr h => ?_)
 obtain ⟨z, rfl, hz, q⟩ := h
 have n1 := T.n_len
 have g1 := T.g_LONGEST_NAME
 have g2 := T.g_LETTERS
 have hsz : sizeLine = 16777216 := sizeLine_eq
 have D1 : Def P w K mg base true 1 "made_of" ["text", "signs"] spMade := d_made_of T
 refine sxs_one (sx_ret ?_)
 walk_at "go"
 unfold isName at q
 refine ifD (fun h => ?_) (fun h => ?_)
 ·walk_at "go"
  refine ifD (fun h2 => ?_) (fun h2 => ?_)
  ·walk_at "go"
   rw [decide_eq_true (show 1 ≤ z.length /\ z.length ≤ 8 by omega)] at q
   exact ⟨z, _, rfl, hz, q⟩
  ·rw [decide_eq_false (show ¬ (1 ≤ z.length /\ z.length ≤ 8) by omega)] at q
   exact q H (Same.refl _)
 ·rw [decide_eq_false (show ¬ (1 ≤ z.length /\ z.length ≤ 8) by omega)] at q
  walk_at "go"
  exact q H (Same.refl _)
end
end K33
namespace K33
open PySem L2 PyProof.Rows My Vl Lw
section
variable {P : Program} {w : World} {K : PySem.W.Frag} {mg : Str -> Option Value} {base : Heap}
theorem inV_two (k a b : Str) : inV (.str k) [.str a, .str b] = decide (k = a \/ k = b) := by
 have e : ∀ a : Str, (a == k) = decide (k = a) := fun a => by rw [Bool.eq_iff_iff, beq_iff_eq, decide_eq_true_iff]; exact eq_comm
 show ((a == k) || ((b == k) || false)) = _
 rw [e, e, Bool.or_false, Bool.decide_or]
theorem d_ask_columns (T : Txt K mg) : Def P w K mg base true 3 "ask_columns" ["columns"] (spAsk (.ref (clsA mg "NoColumns"))) := by
 refine df_ask_columns T (fun vs H Q E h => by obtain ⟨a, cs, rfl, _⟩ := h; rfl) (fun f cdv A outer s H vs Q E hr h => ?_)
 obtain ⟨a, cs, rfl, ⟨vs, ha, hvs⟩, hcl, hsc, q⟩ := h
 have n1 := T.n_len
 have n2 := T.n_set
 have g1 := T.g_MOST_COLUMNS
 have g2 := T.g_NUMBER
 have g3 := T.g_TEXT
 have nd := sc_ask_columns.nd
 have hsz : sizeLine = 16777216 := sizeLine_eq
 have sa : SqL K H a vs := .inl (.inl ha)
 have hlv := hvs.len
 have D1 : Def P w K mg base true 2 "is_name" ["name"] spName := d_is_name T
 have nd2 : (["name", "kind"] : List Str).Nodup := by decide +kernel
 have bad : okCols cs = false -> ∀ H', Same H H' -> E (.ref (clsA mg "NoColumns")) (none, true) H' := fun e H' sm => by
  have := q H' sm
  rw [e] at this
  exact this
 refine sxs_cons ?_
 walk_at "go"
 have len_bad : ¬ (1 ≤ cs.length /\ cs.length ≤ 6) -> okCols cs = false := fun h => by
  unfold okCols
  rw [decide_eq_false h]
  rfl
 refine ifD (fun h1 => ?_) (fun h1 => ?_)
 ·walk_at "go"
  refine ifN (fun h2 => ?_) (fun h2 => ?_)
  ·refine sxs_one (sx_raise xok_fn (by rfl) T.x_NoColumns (by rfl) (by decide) (by rfl) (by rfl) ?_)
   walk_at "go"
   exact ⟨by rw [hsz]; simp, bad (len_bad (by omega)) H (Same.refl _)⟩
  ·refine sxs_nil (sxs_cons ?_)
   refine sx_forL (by walk_at "po") (by rfl) (by intro _; rfl) ?_
   walk_at "go"
   refine ⟨a, vs, rfl, sa, fun i σ H' => (∃ o1 o2 o3, σ = [some (.ref a), o1, o2, o3]) /\ Same H H' /\ ∀ k c, k < i -> cs[k]? = some c -> isName c.1 = true /\ isKind c.2 = true, ⟨⟨none, none, none, rfl⟩, Same.refl _, fun k c hk => by omega⟩, fun i σ H' hi hP => .inl (.inl (hP.2.1 _ _ ha)), fun i x σ H' hx hP => ?_, fun σ H' hP => ?_⟩
   ·obtain ⟨⟨o1, o2, o3, rfl⟩, sm, hn⟩ := hP
    obtain ⟨c, hc, t, rfl, ht⟩ := hvs.get hx
    have hcm := List.mem_of_getElem? hc
    have hsc' := hsc c hcm
    have all_bad : ¬ (isName c.1 && isKind c.2) = true -> okCols cs = false := fun h => by
     unfold okCols
     have : (cs.all fun c => isName c.1 && isKind c.2) = false := by
      rw [Bool.eq_false_iff]
      intro e
      exact h (List.all_eq_true.mp e c hcm)
     rw [this, Bool.and_false, Bool.false_and]
    refine eg_tup (by rfl) (by rfl) (by rfl) (SqT.of (sm _ _ ht)) (by rfl) (egs_cons (by rfl) (eg_name nd (by rfl) (.inl rfl) (.inl rfl) (egs_cons (by rfl) (eg_name nd (by rfl) (.inl rfl) (.inl rfl) (egs_nil ?_)))))
    refine sxs_cons ?_
    walk_at "go"
    refine ⟨c.1, rfl, hsc'.1, fun H2 sm2 => ?_⟩
    walk_at "go"
    have sm3 := sm.trans sm2
    refine ifBn (fun h3 => ?_) (fun h3 => ?_)
    ·refine sxs_one (sx_raise xok_fn (by rfl) T.x_NoColumns (by rfl) (by decide) (by rfl) (by rfl) ?_)
     walk_at "go"
     refine ev_fmtS ?_
     walk_at "e"
     refine ⟨c.1, rfl, by omega, _, 4000, rfl, hsc'.1, by omega, ?_⟩
     walk_at "go"
     intro zz
     walk_at "go"
     exact ⟨by rw [hsz]; simp, bad (all_bad (by rw [h3]; simp)) H2 sm3⟩
    ·refine sxs_nil (sxs_one ?_)
     walk_at "go"
     refine ⟨by show 2 ≤ sizeLine; omega, fun p hp => ?_⟩
     have sm4 := sm3.trans (Same.upd (o := .tup [.str "number", .str "text"]) hp)
     refine o_ninT (SqT.of upd_same) (by rfl) (by rfl) ?_
     walk_at "go"
     have ek : inV (.str c.2) [.str "number", .str "text"] = isKind c.2 := inV_two _ _ _
     rw [ek]
     refine ifBn (fun h4 => ?_) (fun h4 => ?_)
     ·refine sxs_one (sx_raise xok_fn (by rfl) T.x_NoColumns (by rfl) (by decide) (by rfl) (by rfl) ?_)
      walk_at "go"
      refine ev_fmtS ?_
      walk_at "e"
      refine ⟨c.2, rfl, by omega, _, 4000, rfl, hsc'.2, by omega, ?_⟩
      walk_at "go"
      intro zz
      walk_at "go"
      exact ⟨by rw [hsz]; simp, bad (all_bad (by rw [h4]; simp)) _ sm4⟩
     ·refine sxs_nil ⟨⟨_, _, _, rfl⟩, sm4, fun k d hk hd => ?_⟩
      by_cases e : k = i
      ·subst e
       rw [hc] at hd
       cases hd
       exact ⟨h3, h4⟩
      ·exact hn k d (by omega) hd
   ·obtain ⟨⟨o1, o2, o3, rfl⟩, sm, hn⟩ := hP
    have hall : (cs.all fun c => isName c.1 && isKind c.2) = true := List.all_eq_true.mpr fun c hc => by
     obtain ⟨k, hk, e⟩ := List.getElem_of_mem hc
     have := hn k c (by rw [hlv]; exact hk) (by rw [<- e]; exact List.getElem?_eq_getElem hk)
     rw [this.1, this.2]
     rfl
    have eok : okCols cs = decide ((cs.map Prod.fst).Nodup) := by
     unfold okCols
     rw [hall, decide_eq_true (show 1 ≤ cs.length /\ cs.length ≤ 6 by omega)]
     rfl
    refine sxs_cons ?_
    refine sx_compL ["name", "kind"] (σ' := [none, none]) (by rfl) (by rfl) (by rfl) (compSc_of (defScope s_ask_columns) (by rfl) (by rfl) (by decide +kernel)) (by intro _; rfl) nd (by rfl) (by rfl) ?_
    walk_at "go"
    refine ⟨a, vs, rfl, .inl (.inl (sm _ _ ha)), by omega, fun τ => ∃ o1 o2, τ = [o1, o2], fun E' i u H' => ∃ c, cs[i]? = some c /\ u = .str c.1, ⟨none, none, rfl⟩, fun E' i u H2 H3 ys _ _ p => p, fun fp E' C s3 H0 i τ x H2 H3 hE hi hτ sm2 hys hG => ?_, fun E' H2 ys hE hl hx e2 sm2 => ?_⟩
    ·obtain ⟨o1, o2, rfl⟩ := hτ
     obtain ⟨hx, rfl⟩ := hG
     obtain ⟨c, hc, t, rfl, ht⟩ := hvs.get hx
     refine eg_tup (by rfl) (by rfl) (by rfl) (SqT.of (sm2 _ _ (sm _ _ ht))) (by rfl) (egs_cons (by rfl) (eg_name nd2 (by rfl) (.inl rfl) (.inr rfl) (egs_cons (by rfl) (eg_name nd2 (by rfl) (.inl rfl) (.inr rfl) (egs_nil ?_)))))
     walk_at "go"
     exact ⟨⟨_, _, rfl⟩, ⟨c, hc, rfl⟩, Same.refl _⟩
    ·have ey := list_of_pi (ys := cs) (fun c => V.str c.1) (by rw [hl, hlv]) hx
     have ey2 : ys = (cs.map Prod.fst).map V.str := by rw [ey, List.map_map]; rfl
     subst ey2
     have hnl : (cs.map Prod.fst).length ≤ 4000 := by simp; omega
     have sm3 := sm.trans sm2
     refine sxs_one ?_
     walk_at "go"
     refine c_setS (by rfl) (SqL.of e2) hnl fun S hS => ?_
     walk_at "go"
     refine c_lenT upd_same hnl ?_
     walk_at "go"
     refine c_len (.inl (SqL.of ((Same.upd hS) _ _ e2))) ?_
     walk_at "go"
     have sm4 := sm3.trans (Same.upd (o := txSet (CxF true P w K mg base N_ask_columns "ask_columns" (defScope s_ask_columns) f cdv A outer s H E) S (cs.map Prod.fst)) hS)
     have hful := seenL_full _ (cs.map Prod.fst) rfl
     refine ifN (fun h5 => ?_) (fun h5 => ?_)
     ·refine sxs_one (sx_raise xok_fn (by rfl) T.x_NoColumns (by rfl) (by decide) (by rfl) (by rfl) ?_)
      walk_at "go"
      refine ⟨by rw [hsz]; simp, bad ?_ _ sm4⟩
      rw [eok]
      refine decide_eq_false fun hd => h5 ?_
      rw [hful.mpr hd]
      simp
     ·refine sxs_nil ?_
      have := q _ sm4
      rw [eok, if_pos] at this
      ·exact this
      ·refine decide_eq_true (hful.mp ?_)
       have h6 : ((seenL (cs.map Prod.fst)).length : Int) = ((cs.map Prod.fst).map V.str).length := by injection h5
       rw [List.length_map] at h6
       omega
 ·walk_at "go"
  refine (sx_raise xok_fn (by rfl) T.x_NoColumns (by rfl) (by decide) (by rfl) (by rfl) ?_)
  walk_at "go"
  exact ⟨by rw [hsz]; simp, bad (len_bad (by omega)) H (Same.refl _)⟩
end
end K33
namespace K33
open PySem L2 PyProof.Rows My Vl Lw
section
variable {P : Program} {w : World} {K : PySem.W.Frag} {mg : Str -> Option Value} {base : Heap}
theorem d_is_row_number (T : Txt K mg) : Def P w K mg base true 2 "is_row_number" ["row"] spRowN := by
 refine df_is_row_number T (fun vs H Q E h => by obtain ⟨z, rfl, _⟩ := h; rfl) (fun f cdv A outer s H vs Q E hr h => ?_)
 obtain ⟨v, rfl, hv, q⟩ := h
 have g1 := T.g_LARGEST_ROW
 have D1 : Def P w K mg base true 1 "is_whole" ["value"] spWhole := d_is_whole T
 refine sxs_one (sx_ret ?_)
 walk_at "go"
 refine ⟨v, rfl, hv, ?_⟩
 cases v with
 | int i =>
   change Q (.bl (decide (0 ≤ i /\ i ≤ 1000000000))) H at q
   rw [show isIntV (V.int i) = true from rfl]
   walk_at "go"
   refine ifD (fun h => ?_) (fun h => ?_)
   ·walk_at "go"
    rw [show decide (0 ≤ i /\ i ≤ 1000000000) = decide (i ≤ 1000000000) from by rw [decide_eq_decide]; omega] at q
    exact q
   ·walk_at "go"
    rw [decide_eq_false (show ¬ (0 ≤ i /\ i ≤ 1000000000) by omega)] at q
    exact q
 | non =>
   rw [show isIntV V.non = false from rfl]
   walk_at "go"
   exact q
 | str z =>
   rw [show isIntV (V.str z) = false from rfl]
   walk_at "go"
   exact q
 | _ => cases hv
end
end K33
namespace K33
open PySem L2 PyProof.Rows My Vl Lw
section
variable {P : Program} {w : World} {K : PySem.W.Frag} {mg : Str -> Option Value} {base : Heap}
theorem allVal_of : ∀ {cs : List Col} {xs : List V} {bs : List Bool}, xs.length = cs.length -> bs.length = cs.length -> (∀ (i : Nat) (b : Bool), bs[i]? = some b -> ∃ c x, cs[i]? = some c /\ xs[i]? = some x /\ b = isVal c.2 x) -> bs.all id = allVal cs xs
 | [], [], [], _, _, _ => rfl
 | c :: cs, x :: xs, b :: bs, h1, h2, h => by
   obtain ⟨c', x', e1, e2, e3⟩ := h 0 b rfl
   cases e1
   cases e2
   rw [List.all_cons]
   unfold allVal
   rw [allVal_of (by simpa using h1) (by simpa using h2) fun i b e => by simpa using h (i + 1) b (by simpa using e)]
   rw [e3]
   rfl
 | [], _ :: _, _, h1, _, _ => by simp at h1
 | _ :: _, [], _, h1, _, _ => by simp at h1
 | [], [], _ :: _, _, h2, _ => by simp at h2
 | _ :: _, _ :: _, [], _, h2, _ => by simp at h2
theorem bls_of : ∀ {xs : List V}, (∀ (i : Nat) v, xs[i]? = some v -> ∃ b, v = .bl b) -> ∃ bs : List Bool, xs = bs.map V.bl
 | [], _ => ⟨[], rfl⟩
 | x :: xs, h => by
   obtain ⟨b, rfl⟩ := h 0 x rfl
   obtain ⟨bs, rfl⟩ := bls_of (xs := xs) fun i v e => h (i + 1) v (by simpa using e)
   exact ⟨b :: bs, rfl⟩
theorem d_is_row (T : Txt K mg) : Def P w K mg base true 4 "is_row" ["columns", "row", "values"] spRow := by
 refine df_is_row T (fun vs H Q E h => by obtain ⟨a, cs, v, b, xs, rfl, _⟩ := h; rfl) (fun f cdv A outer s H vs Q E hr h => ?_)
 obtain ⟨a, cs, v, b, xs, rfl, ⟨vs, ha, hvs⟩, hcl, hv, hb, hxs, q⟩ := h
 have n1 := T.n_len
 have n2 := T.n_all
 have n3 := T.n_zip
 have hsz : sizeLine = 16777216 := sizeLine_eq
 have nd := sc_is_row.nd
 have sa : SqL K H a vs := .inl (.inl ha)
 have sb : SqL K H b xs := .inl (.inl hb)
 have hlv := hvs.len
 have D1 : Def P w K mg base true 2 "is_row_number" ["row"] spRowN := d_is_row_number T
 have D2 : Def P w K mg base true 3 "is_value" ["kind", "value"] spVal := d_is_value T
 have nd2 : (["column", "value"] : List Str).Nodup := by decide +kernel
 unfold isRow at q
 refine sxs_cons ?_
 walk_at "go"
 refine ⟨v, rfl, hv, ?_⟩
 walk_at "go"
 refine ifBn (fun h1 => ?_) (fun h1 => ?_)
 ·rw [h1, Bool.false_and, Bool.false_and] at q
  walk_at "go"
  exact q H (Same.refl _)
 ·rw [h1, Bool.true_and] at q
  walk_at "go"
  refine ifN (fun h2 => ?_) (fun h2 => ?_)
  ·have h3 : ¬ xs.length = cs.length := fun e => h2 (by rw [hlv, e])
   rw [decide_eq_false h3, Bool.false_and] at q
   walk_at "go"
   exact q H (Same.refl _)
  ·have h3 : xs.length = cs.length := by
    have : (xs.length : Int) = vs.length := by injection h2
    omega
   rw [decide_eq_true h3, Bool.true_and] at q
   refine sxs_nil (sxs_one (sx_ret ?_))
   walk_at "e"
   walk_at "e"
   refine ev_compZ ["column", "value"] (σ' := [none, none]) (by rfl) (by rfl) (compSc_of (defScope s_is_row) (by rfl) (by rfl) (by decide +kernel)) (by rfl) n3 (by rfl) (by rfl) ?_
   walk_at "go"
   refine ⟨a, b, vs, xs, rfl, rfl, ha, hb, by omega, fun τ => ∃ o1 o2, τ = [o1, o2], fun E' i u H' => ∃ c x, cs[i]? = some c /\ xs[i]? = some x /\ u = .bl (isVal c.2 x), ⟨none, none, rfl⟩, fun E' i u H2 H3 ys _ _ p => p, fun fp E' C s3 H0 i τ x H2 H3 hE hi hτ sm hys hG => ?_, fun E' H2 ys hE hl hx e2 sm => ?_⟩
   ·obtain ⟨o1, o2, rfl⟩ := hτ
    obtain ⟨T', y, u, rfl, hT, rfl, hy, hu⟩ := hG
    obtain ⟨c, hc, t, rfl, ht⟩ := hvs.get hy
    have sm2 : Same H2 (upd H2 T' (.tup [.ref t, u])) := Same.upd hT
    have eT : (upd H2 T' (.tup [.ref t, u])) T' = some (.tup [.ref t, u]) := upd_same
    generalize upd H2 T' (.tup [.ref t, u]) = H4 at sm2 eT ⊢
    refine eg_tup (by rfl) (by rfl) (by rfl) (SqT.of eT) (by rfl) (egs_cons (by rfl) (eg_name nd2 (by rfl) (.inl rfl) (.inr rfl) (egs_cons (by rfl) (eg_name nd2 (by rfl) (.inl rfl) (.inr rfl) (egs_nil ?_)))))
    walk_at "go"
    refine i_tup (SqT.of (sm2 _ _ (sm _ _ ht))) (show atI [V.str c.1, V.str c.2] 1 = some (V.str c.2) from rfl) ?_
    walk_at "go"
    have hu' := hxs u (List.mem_of_getElem? hu)
    exact ⟨c.2, u, rfl, hu'.1, hu'.2, fun H5 sm5 => ⟨⟨_, _, rfl⟩, ⟨c, u, hc, hu, rfl⟩, sm2.trans sm5⟩⟩
   ·obtain ⟨bs, rfl⟩ := bls_of fun i v e => by
     obtain ⟨c, x, _, _, e⟩ := hx i v e
     exact ⟨_, e⟩
    have hbl : bs.length = cs.length := by rw [List.length_map] at hl; omega
    have eb : bs.all id = allVal cs xs := allVal_of h3 hbl fun i b e => by
     obtain ⟨c, x, e1, e2, e3⟩ := hx i (.bl b) (by rw [List.getElem?_map, e]; rfl)
     exact ⟨c, x, e1, e2, by injection e3⟩
    walk_at "go"
    refine c_all (by rfl) (SqL.of e2) ?_
    rw [eb]
    exact q _ sm
end
end K33
namespace K33
open PySem L2 PyProof.Rows My Vl Lw
section
variable {P : Program} {w : World} {K : PySem.W.Frag} {mg : Str -> Option Value} {base : Heap}
def goodRow (cs : List Col) (row : Int) (xs : List V) : Prop := 0 ≤ row /\ row ≤ 1000000000 /\ All2 (fun c x => valK c.2 x) cs xs
theorem sg_ts : ∀ c ∈ SG, c ∈ TSs.cps.toList := by decide +kernel
theorem valK.is {kd : Str} {v : V} (h : valK kd v) : isVal kd v = true /\ scalar v = true /\ short v := by
 rcases h with rfl | ⟨h1, i, rfl, h2, h3⟩ | ⟨h1, z, rfl, h2, h3⟩
 ·exact ⟨rfl, rfl, trivial⟩
 ·refine ⟨?_, rfl, trivial⟩
  show (if kd = "number" then isNum (.int i) else isTxt (.int i)) = true
  rw [if_pos h1]
  exact decide_eq_true ⟨h2, h3⟩
 ·refine ⟨?_, rfl, by show z.length ≤ 4000; omega⟩
  show (if kd = "number" then isNum (.str z) else isTxt (.str z)) = true
  rw [if_neg h1]
  show (decide (z.length ≤ 20) && madeOf z _) = true
  rw [decide_eq_true h2, Bool.true_and]
  exact List.all_eq_true.mpr fun c hc => decide_eq_true (sg_ts c (h3 c hc))
theorem allVal_ok {cs : List Col} {xs : List V} (h : All2 (fun (c : Col) x => valK c.2 x) cs xs) : allVal cs xs = true /\ ∀ x ∈ xs, scalar x = true /\ short x := by
 induction h with
 | nil => exact ⟨rfl, fun x hx => by simp at hx⟩
 | cons h _ ih =>
   refine ⟨?_, fun x hx => ?_⟩
   ·show (isVal _ _ && allVal _ _) = true
    rw [h.is.1, ih.1]
    rfl
   ·rcases List.mem_cons.mp hx with e | e
    ·rw [e]; exact h.is.2
    ·exact ih.2 x e
theorem goodRow.ok {cs : List Col} {row : Int} {xs : List V} (h : goodRow cs row xs) : isRow cs (.int row) xs = true := by
 unfold isRow
 rw [(allVal_ok h.2.2).1, decide_eq_true h.2.2.len.symm]
 show (decide (0 ≤ row /\ row ≤ 1000000000) && true && true) = true
 rw [decide_eq_true ⟨h.1, h.2.1⟩]
 rfl
def spAskRow (mg : Str -> Option Value) : Sp := fun vs H Q _ => ∃ (A : BA) (B : Bk) (row : Int) (b : Addr) (xs : List V), vs = [.ref A.b, .int row, .ref b] /\ BookAt (cB mg) H A B /\ H b = some (.lst xs) /\ B.heads.length ≤ 6 /\ goodRow B.heads row xs /\ ∀ H', Same H H' -> Q .non H'
theorem f_ask_row (T : Txt K mg) : FD P w K mg base true 5 "ask_row" "Book.ask_row" s_Book_ask_row ["self", "row", "values"] (spAskRow mg) := by
 refine ff_Book_ask_row (fun vs H Q E h => by obtain ⟨A, B, row, b, xs, rfl, _⟩ := h; rfl) (fun f cdv A' outer s H vs Q E hr h => ?_)
 obtain ⟨A, B, row, b, xs, rfl, kB, hb, h6, hg, q⟩ := h
 have D1 : Def P w K mg base true 4 "is_row" ["columns", "row", "values"] spRow := d_is_row T
 have hc := T.k_Book
 have a1 := T.na_Book_heads
 have kI := kB.ins
 refine sxs_one ?_
 walk_at "go"
 refine ev_fld (by rfl) ?_
 walk_at "e"
 refine ⟨A.b, _, _, _, _, rfl, kI, hc, a1, rfl, ?_⟩
 walk_at "go"
 refine ⟨A.h, B.heads, .int row, b, xs, rfl, kB.heads, by omega, rfl, hb, (allVal_ok hg.2.2).2, fun H' sm => ?_⟩
 rw [hg.ok]
 walk_at "go"
 exact q H' sm
def spThere (mg : Str -> Option Value) : Sp := fun vs H Q E => ∃ (A : BA) (B : Bk) (row : Int), vs = [.ref A.b, .int row] /\ BookAt (cB mg) H A B /\ 0 ≤ row /\ row ≤ 1000000000 /\
 (aGet B.rows row = none -> ∀ e H', Same H H' -> H' e = some (.xd [("row", .int row)]) -> E (.ref (clsA mg "Absent")) (some e, true) H') /\ (aGet B.rows row ≠ none -> Q .non H)
theorem f_ask_there (T : Txt K mg) : FD P w K mg base true 3 "ask_there" "Book.ask_there" s_Book_ask_there ["self", "row"] (spThere mg) := by
 refine ff_Book_ask_there (fun vs H Q E h => by obtain ⟨A, B, row, rfl, _⟩ := h; rfl) (fun f cdv A' outer s H vs Q E hr h => ?_)
 obtain ⟨A, B, row, rfl, kB, r0, r1, bad, q⟩ := h
 have hc := T.k_Book
 have a1 := T.na_Book_rows
 have kI := kB.ins
 have hu : _ + 1 < cLine := Nat.lt_of_le_of_lt (Nat.add_le_add_left (by decide : 1 ≤ 64) _) hr.units
 obtain ⟨kvs, er, hR⟩ := kB.rows
 refine sxs_one ?_
 walk_at "go"
 refine ev_fld (by rfl) ?_
 walk_at "e"
 refine ⟨A.b, _, _, _, _, rfl, kI, hc, a1, rfl, ?_⟩
 refine o_ninD hu (DGet.k (k := Sum.inl row) er) ?_
 rcases pr_get hR row with ⟨e1, e2⟩ | ⟨u, x, e1, e2, _⟩
 ·rw [show (valV kvs (Sum.inl row)).isSome = false by rw [e1]; rfl, Bool.not_false]
  walk_at "go"
  refine (sx_raiseI (d_Absent T (cc := true)) hr (by decide) (fun _ => rfl) xok_fn (by rfl) (by rfl) (by decide) (by rfl) (by rfl) ?_)
  walk_at "go"
  exact ⟨row, rfl, by omega, fun e H' sm he => bad e2 e H' sm he⟩
 ·rw [show (valV kvs (Sum.inl row)).isSome = true by rw [e1]; rfl, Bool.not_true]
  walk_at "go"
  exact q (by rw [e2]; simp)
end
end K33
namespace K33
open PySem L2 PyProof.Rows My Vl Lw
section
variable {P : Program} {w : World} {K : PySem.W.Frag} {mg : Str -> Option Value} {base : Heap}
def spPut (mg : Str -> Option Value) : Sp := fun vs H Q E => ∃ (A : BA) (B : Bk) (row : Int) (b : Addr) (xs : List V), vs = [.ref A.b, .int row, .ref b] /\ BookAt (cB mg) H A B /\ H b = some (.lst xs) /\ B.heads.length ≤ 6 /\ goodRow B.heads row xs /\ smallB B /\
 (aGet B.rows row ≠ none -> ∀ e H', Same H H' -> H' e = some (.xd [("row", .int row)]) -> E (.ref (clsA mg "Twice")) (some e, true) H') /\
 (aGet B.rows row = none -> ∀ H', Out A.fp H H' -> BookAt (cB mg) H' A (bkDo B row (some xs)) -> Q (.int (B.now + 1)) H')
theorem c_tupL {X : Cx} {H : Hp} {Q : VK} {p : Addr} {ys : List V} (h : SqL X.K H p ys) (g : ∀ l, H l = none -> Q (.ref l) (upd H l (.tup ys))) : CL X (.type "tuple") [.ref p] H Q := cl_by call_tuple_of ⟨p, ys, rfl, .inl ⟨h, g⟩⟩
theorem f_put (T : Txt K mg) : FD P w K mg base true 6 "put" "Book.put" s_Book_put ["self", "row", "values"] (spPut mg) := by
 refine ff_Book_put (fun vs H Q E h => by obtain ⟨A, B, row, b, xs, rfl, _⟩ := h; rfl) (fun f cdv A' outer s H vs Q E hr h => ?_)
 obtain ⟨A, B, row, b, xs, rfl, kB, hb, h6, hg, hsm, bad, q⟩ := h
 have M1 : MDef P w K mg base true 5 (cB mg) "ask_row" ["self", "row", "values"] (spAskRow mg) := (f_ask_row T).meth T.k_Book T.o_Book_ask_row
 have M2 : MDef P w K mg base true 1 (cB mg) "do" ["self", "row", "values"] (spDo mg) := (f_do T).meth T.k_Book T.o_Book_do
 have hc := T.k_Book
 have n1 := T.n_tuple
 have a1 := T.na_Book_rows
 have hu : _ + 1 < cLine := Nat.lt_of_le_of_lt (Nat.add_le_add_left (by decide : 1 ≤ 64) _) hr.units
 refine sxs_cons (sx_expr (by rfl) ?_)
 refine ev_meth (pl := _) hr xok_fn (by rfl) (by rfl) (by rfl) ?_
 walk_at "e"
 refine ⟨A.b, cB mg, A.dx, _, true, 5, _, spAskRow mg, rfl, kB.ins, by rfl, M1, by decide, id, ?_⟩
 walk_at "go"
 refine ⟨A, B, row, b, xs, rfl, kB, hb, h6, hg, fun H1 sm => ?_⟩
 have k1 := kB.same sm
 have k1I := k1.ins
 have hb1 := sm _ _ hb
 obtain ⟨kvs, er, hR⟩ := k1.rows
 refine sxs_cons ?_
 walk_at "go"
 refine ev_fld (by rfl) ?_
 walk_at "e"
 refine ⟨A.b, _, _, _, _, rfl, k1I, hc, a1, rfl, ?_⟩
 refine o_inD hu (DGet.k (k := Sum.inl row) er) ?_
 rcases pr_get hR row with ⟨e1, e2⟩ | ⟨u, x, e1, e2, _⟩
 ·rw [show (valV kvs (Sum.inl row)).isSome = false by rw [e1]; rfl]
  walk_at "go"
  refine ev_meth (pl := _) hr xok_fn (by rfl) (by rfl) (by rfl) ?_
  walk_at "e"
  refine ⟨A.b, cB mg, A.dx, _, true, 1, _, spDo mg, rfl, k1I, by rfl, M2, by decide, id, ?_⟩
  walk_at "go"
  refine c_tupL (SqL.of hb1) fun t ht => ?_
  have smt : Same H1 (upd H1 t (.tup xs)) := Same.upd ht
  have et : (upd H1 t (.tup xs)) t = some (.tup xs) := upd_same
  generalize upd H1 t (.tup xs) = H2 at smt et ⊢
  walk_at "go"
  refine ⟨A, B, row, .ref t, some xs, rfl, k1.same smt, ⟨t, rfl, et⟩, (fun e => by cases e), hsm, fun H3 o3 k3 => ?_⟩
  exact q e2 H3 ((Out.of (sm.trans smt)).trans o3) k3
 ·rw [show (valV kvs (Sum.inl row)).isSome = true by rw [e1]; rfl]
  walk_at "go"
  refine (sx_raiseI (d_Twice T (cc := true)) hr (by decide) (fun _ => rfl) xok_fn (by rfl) (by rfl) (by decide) (by rfl) (by rfl) ?_)
  walk_at "go"
  exact ⟨row, rfl, by have := hg.1; have := hg.2.1; omega, fun e H' sm2 he => bad (by rw [e2]; simp) e H' (sm.trans sm2) he⟩
def spChange (mg : Str -> Option Value) : Sp := fun vs H Q E => ∃ (A : BA) (B : Bk) (row : Int) (b : Addr) (xs : List V), vs = [.ref A.b, .int row, .ref b] /\ BookAt (cB mg) H A B /\ H b = some (.lst xs) /\ B.heads.length ≤ 6 /\ goodRow B.heads row xs /\ smallB B /\
 (aGet B.rows row = none -> ∀ e H', Same H H' -> H' e = some (.xd [("row", .int row)]) -> E (.ref (clsA mg "Absent")) (some e, true) H') /\
 (aGet B.rows row ≠ none -> ∀ H', Out A.fp H H' -> BookAt (cB mg) H' A (bkDo B row (some xs)) -> Q (.int (B.now + 1)) H')
theorem f_change (T : Txt K mg) : FD P w K mg base true 6 "change" "Book.change" s_Book_change ["self", "row", "values"] (spChange mg) := by
 refine ff_Book_change (fun vs H Q E h => by obtain ⟨A, B, row, b, xs, rfl, _⟩ := h; rfl) (fun f cdv A' outer s H vs Q E hr h => ?_)
 obtain ⟨A, B, row, b, xs, rfl, kB, hb, h6, hg, hsm, bad, q⟩ := h
 have M1 : MDef P w K mg base true 5 (cB mg) "ask_row" ["self", "row", "values"] (spAskRow mg) := (f_ask_row T).meth T.k_Book T.o_Book_ask_row
 have M2 : MDef P w K mg base true 1 (cB mg) "do" ["self", "row", "values"] (spDo mg) := (f_do T).meth T.k_Book T.o_Book_do
 have M3 : MDef P w K mg base true 3 (cB mg) "ask_there" ["self", "row"] (spThere mg) := (f_ask_there T).meth T.k_Book T.o_Book_ask_there
 have hc := T.k_Book
 have n1 := T.n_tuple
 refine sxs_cons (sx_expr (by rfl) ?_)
 refine ev_meth (pl := _) hr xok_fn (by rfl) (by rfl) (by rfl) ?_
 walk_at "e"
 refine ⟨A.b, cB mg, A.dx, _, true, 5, _, spAskRow mg, rfl, kB.ins, by rfl, M1, by decide, id, ?_⟩
 walk_at "go"
 refine ⟨A, B, row, b, xs, rfl, kB, hb, h6, hg, fun H1 sm => ?_⟩
 have k1 := kB.same sm
 have k1I := k1.ins
 have hb1 := sm _ _ hb
 refine sxs_cons (sx_expr (by rfl) ?_)
 refine ev_meth (pl := _) hr xok_fn (by rfl) (by rfl) (by rfl) ?_
 walk_at "e"
 refine ⟨A.b, cB mg, A.dx, _, true, 3, _, spThere mg, rfl, k1I, by rfl, M3, by decide, id, ?_⟩
 walk_at "go"
 refine ⟨A, B, row, rfl, k1, hg.1, hg.2.1, fun e2 e H' sm2 he => bad e2 e H' (sm.trans sm2) he, fun e2 => ?_⟩
 refine sxs_one (sx_ret ?_)
 refine ev_meth (pl := _) hr xok_fn (by rfl) (by rfl) (by rfl) ?_
 walk_at "e"
 refine ⟨A.b, cB mg, A.dx, _, true, 1, _, spDo mg, rfl, k1I, by rfl, M2, by decide, id, ?_⟩
 walk_at "go"
 refine c_tupL (SqL.of hb1) fun t ht => ?_
 have smt : Same H1 (upd H1 t (.tup xs)) := Same.upd ht
 have et : (upd H1 t (.tup xs)) t = some (.tup xs) := upd_same
 generalize upd H1 t (.tup xs) = H2 at smt et ⊢
 walk_at "go"
 refine ⟨A, B, row, .ref t, some xs, rfl, k1.same smt, ⟨t, rfl, et⟩, (fun e => by cases e), hsm, fun H3 o3 k3 => ?_⟩
 exact q e2 H3 ((Out.of (sm.trans smt)).trans o3) k3
def spTake (mg : Str -> Option Value) : Sp := fun vs H Q E => ∃ (A : BA) (B : Bk) (row : Int), vs = [.ref A.b, .int row] /\ BookAt (cB mg) H A B /\ 0 ≤ row /\ row ≤ 1000000000 /\ smallB B /\ wfB B /\
 (aGet B.rows row = none -> ∀ e H', Same H H' -> H' e = some (.xd [("row", .int row)]) -> E (.ref (clsA mg "Absent")) (some e, true) H') /\
 (aGet B.rows row ≠ none -> ∀ H', Out A.fp H H' -> BookAt (cB mg) H' A (bkDo B row none) -> Q (.int (B.now + 1)) H')
theorem f_take (T : Txt K mg) : FD P w K mg base true 4 "take" "Book.take" s_Book_take ["self", "row"] (spTake mg) := by
 refine ff_Book_take (fun vs H Q E h => by obtain ⟨A, B, row, rfl, _⟩ := h; rfl) (fun f cdv A' outer s H vs Q E hr h => ?_)
 obtain ⟨A, B, row, rfl, kB, r0, r1, hsm, hwf, bad, q⟩ := h
 have M2 : MDef P w K mg base true 1 (cB mg) "do" ["self", "row", "values"] (spDo mg) := (f_do T).meth T.k_Book T.o_Book_do
 have M3 : MDef P w K mg base true 3 (cB mg) "ask_there" ["self", "row"] (spThere mg) := (f_ask_there T).meth T.k_Book T.o_Book_ask_there
 refine sxs_cons (sx_expr (by rfl) ?_)
 refine ev_meth (pl := _) hr xok_fn (by rfl) (by rfl) (by rfl) ?_
 walk_at "e"
 refine ⟨A.b, cB mg, A.dx, _, true, 3, _, spThere mg, rfl, kB.ins, by rfl, M3, by decide, id, ?_⟩
 walk_at "go"
 refine ⟨A, B, row, rfl, kB, r0, r1, bad, fun e2 => ?_⟩
 refine sxs_one (sx_ret ?_)
 refine ev_meth (pl := _) hr xok_fn (by rfl) (by rfl) (by rfl) ?_
 walk_at "e"
 refine ⟨A.b, cB mg, A.dx, _, true, 1, _, spDo mg, rfl, kB.ins, by rfl, M2, by decide, id, ?_⟩
 walk_at "go"
 exact ⟨A, B, row, .non, none, rfl, kB, rfl, fun _ => ⟨e2, fun z => e2 ((hwf row).mpr z)⟩, hsm, q e2⟩
end
end K33
namespace K33
open PySem L2 PyProof.Rows My Vl Lw
section
variable {P : Program} {w : World} {K : PySem.W.Frag} {mg : Str -> Option Value} {base : Heap}
def spB0 (mg : Str -> Option Value) (g : Bk -> Int) : Sp := fun vs H Q _ => ∃ (A : BA) (B : Bk), vs = [.ref A.b] /\ BookAt (cB mg) H A B /\ Q (.int (g B)) H
end
end K33
namespace K33
open PySem L2 PyProof.Rows My Vl Lw
section
variable {P : Program} {w : World} {K : PySem.W.Frag} {mg : Str -> Option Value} {base : Heap}
theorem f_moment (T : Txt K mg) : FD P w K mg base true 1 "moment" "Book.moment" s_Book_moment ["self"] (spB0 mg Bk.now) := by
 refine ff_Book_moment (fun vs H Q E h => by obtain ⟨A, B, rfl, _⟩ := h; rfl) (fun f cdv A' outer s H vs Q E hr h => ?_)
 obtain ⟨A, B, rfl, kB, q⟩ := h
 have hc := T.k_Book
 refine sxs_one (sx_ret (ev_fld (by rfl) ?_))
 walk_at "e"
 exact ⟨A.b, _, _, _, _, rfl, kB.ins, hc, T.na_Book_now, rfl, q⟩
end
end K33
namespace K33
open PySem L2 PyProof.Rows My Vl Lw
section
variable {P : Program} {w : World} {K : PySem.W.Frag} {mg : Str -> Option Value} {base : Heap}
theorem f_oldest (T : Txt K mg) : FD P w K mg base true 1 "oldest" "Book.oldest" s_Book_oldest ["self"] (spB0 mg Bk.known) := by
 refine ff_Book_oldest (fun vs H Q E h => by obtain ⟨A, B, rfl, _⟩ := h; rfl) (fun f cdv A' outer s H vs Q E hr h => ?_)
 obtain ⟨A, B, rfl, kB, q⟩ := h
 have hc := T.k_Book
 refine sxs_one (sx_ret (ev_fld (by rfl) ?_))
 walk_at "e"
 exact ⟨A.b, _, _, _, _, rfl, kB.ins, hc, T.na_Book_known, rfl, q⟩
end
end K33
namespace K33
open PySem L2 PyProof.Rows My Vl Lw
section
variable {P : Program} {w : World} {K : PySem.W.Frag} {mg : Str -> Option Value} {base : Heap}
def spSince (mg : Str -> Option Value) : Sp := fun vs H Q E => ∃ (A : BA) (B : Bk) (row : Int), vs = [.ref A.b, .int row] /\ BookAt (cB mg) H A B /\ 0 ≤ row /\ row ≤ 1000000000 /\ wfB B /\
 (aGet B.rows row = none -> ∀ e H', Same H H' -> H' e = some (.xd [("row", .int row)]) -> E (.ref (clsA mg "Absent")) (some e, true) H') /\ (∀ i, aGet B.touched row = some i -> Q (.int i) H)
theorem f_since (T : Txt K mg) : FD P w K mg base true 4 "since" "Book.since" s_Book_since ["self", "row"] (spSince mg) := by
 refine ff_Book_since (fun vs H Q E h => by obtain ⟨A, B, row, rfl, _⟩ := h; rfl) (fun f cdv A' outer s H vs Q E hr h => ?_)
 obtain ⟨A, B, row, rfl, kB, r0, r1, hwf, bad, q⟩ := h
 have M3 : MDef P w K mg base true 3 (cB mg) "ask_there" ["self", "row"] (spThere mg) := (f_ask_there T).meth T.k_Book T.o_Book_ask_there
 have hc := T.k_Book
 have hu : _ + 1 < cLine := Nat.lt_of_le_of_lt (Nat.add_le_add_left (by decide : 1 ≤ 64) _) hr.units
 obtain ⟨kvs, er, hR⟩ := kB.touched
 refine sxs_cons (sx_expr (by rfl) ?_)
 refine ev_meth (pl := _) hr xok_fn (by rfl) (by rfl) (by rfl) ?_
 walk_at "e"
 refine ⟨A.b, cB mg, A.dx, _, true, 3, _, spThere mg, rfl, kB.ins, by rfl, M3, by decide, id, ?_⟩
 walk_at "go"
 refine ⟨A, B, row, rfl, kB, r0, r1, bad, fun e2 => ?_⟩
 rcases pr_get hR row with ⟨e1, e3⟩ | ⟨u, x, e1, e3, hx⟩
 ·exact absurd ((hwf row).mpr e3) e2
 have hx' : u = .int x := hx
 subst hx'
 refine sxs_one (sx_ret ?_)
 refine ev_dget hu (by intro _ _; rfl) ?_
 refine ev_fld (by rfl) ?_
 walk_at "e"
 refine ⟨A.b, _, _, _, _, rfl, kB.ins, hc, T.na_Book_touched, rfl, ?_⟩
 walk_at "e"
 refine ⟨A.t, .int x, rfl, ?_, q x e3⟩
 have := DGet.k (k := Sum.inl row) er
 rw [e1] at this
 exact this
end
end K33
namespace K33
open PySem L2 PyProof.Rows My Vl Lw
section
variable {P : Program} {w : World} {K : PySem.W.Frag} {mg : Str -> Option Value} {base : Heap}
theorem okCols_len {cs : List Col} (h : okCols cs = true) : 1 ≤ cs.length /\ cs.length ≤ 6 := by
 unfold okCols at h
 rw [Bool.and_eq_true, Bool.and_eq_true, decide_eq_true_eq] at h
 exact h.1.1
theorem okCols_short {cs : List Col} (h : okCols cs = true) : shortC cs := by
 unfold okCols isKind at h
 rw [Bool.and_eq_true, Bool.and_eq_true, List.all_eq_true] at h
 intro c hc
 have h1 := h.1.2 c hc
 rw [Bool.and_eq_true, decide_eq_true_eq] at h1
 obtain ⟨h2, h3⟩ := h1
 unfold isName at h2
 rw [Bool.and_eq_true, decide_eq_true_eq] at h2
 refine ⟨by omega, ?_⟩
 rcases h3 with e | e <;> rw [e]
 ·exact (by decide +kernel : (Str.ofString "number").length ≤ 4000)
 ·exact (by decide +kernel : (Str.ofString "text").length ≤ 4000)
def spBookI (mg : Str -> Option Value) : Sp := fun vs H Q _ => ∃ (y dx a : Addr) (cs : List Col), vs = [.ref y, .ref a] /\ H y = some (.ins (cB mg) dx []) /\ H dx = some (.own y) /\ Cols H a cs /\ okCols cs = true /\
 ∀ (H' : Hp) (A : BA), A.b = y -> A.dx = dx -> H A.h = none -> H A.r = none -> H A.t = none -> H A.d = none -> Out [y] H H' -> BookAt (cB mg) H' A ⟨cs, [], [], [], 0, 0⟩ -> Q .non H'
theorem f_init (T : Txt K mg) : FD P w K mg base true 4 "__init__" "Book.__init__" s_Book___init__ ["self", "columns"] (spBookI mg) := by
 refine ff_Book___init__ (fun vs H Q E h => by obtain ⟨y, dx, a, cs, rfl, _⟩ := h; rfl) (fun f cdv A' outer s H vs Q E hr h => ?_)
 obtain ⟨y, dx, a, cs, rfl, hy, hdx, hC, hok, q⟩ := h
 have D1 : Def P w K mg base true 3 "ask_columns" ["columns"] (spAsk (.ref (clsA mg "NoColumns"))) := d_ask_columns T
 have hc := T.k_Book
 have n1 := T.n_list
 have hsz : sizeLine = 16777216 := sizeLine_eq
 refine sxs_cons ?_
 walk_at "go"
 refine ⟨a, cs, rfl, hC, by have := okCols_len hok; omega, okCols_short hok, fun H1 sm1 => ?_⟩
 rw [if_pos hok]
 obtain ⟨vs, ha, hvs⟩ := hC
 have hy1 := sm1 _ _ hy
 have ydx : dx ≠ y := fun e => by rw [e, hy] at hdx; cases hdx
 refine sxs_cons (sx_setF (by rfl) ?_)
 walk_at "go"
 refine c_list (.inl (SqL.of (sm1 _ _ ha))) fun h hh => ?_
 have smh : Same H (upd H1 h (.lst vs)) := sm1.trans (Same.upd hh)
 have eh : (upd H1 h (.lst vs)) h = some (.lst vs) := upd_same
 have hn : H h = none := sm1.free hh
 generalize upd H1 h (.lst vs) = H2 at smh eh ⊢
 walk_at "e"
 refine ⟨y, _, dx, _, rfl, smh _ _ hy, hc, T.na_Book_heads, by show 0 < 1000; decide, ?_⟩
 have yh : h ≠ y := fun e => by rw [e, hy] at hn; cases hn
 have o3 : Out [y] H (upd H2 y (.ins (cB mg) dx [("heads", .ref h)])) := (Out.of smh).trans (Out.upd (by simp))
 have eh3 : (upd H2 y (.ins (cB mg) dx [("heads", .ref h)])) h = some (.lst vs) := by rw [upd_ne yh]; exact eh
 have ey3 : (upd H2 y (.ins (cB mg) dx [("heads", .ref h)])) y = some (.ins (cB mg) dx [("heads", .ref h)]) := upd_same
 change SXs _ _ _ _ (upd H2 y (.ins (cB mg) dx [("heads", .ref h)]))
 generalize upd H2 y (.ins (cB mg) dx [("heads", .ref h)]) = H3 at o3 eh3 ey3 ⊢
 have step : ∀ (H' : Hp) (p : Addr) (o o1 : HO), H' y = some o1 -> Out [y] H H' -> H' p = none -> (H p = none /\ p ≠ y /\ ∀ fs, Out [y] H (upd (upd H' p o) y fs) /\ (upd (upd H' p o) y fs) y = some fs /\ (upd (upd H' p o) y fs) p = some o /\ ∀ b u, b ≠ y -> H' b = some u -> b ≠ p /\ (upd (upd H' p o) y fs) b = some u) := by
  intro H' p o o1 ey ho hp
  have hpy : p ≠ y := fun e => by rw [e, ey] at hp; cases hp
  have keep : ∀ fs b u, b ≠ y -> H' b = some u -> b ≠ p /\ (upd (upd H' p o) y fs) b = some u := fun fs b u hb e => by
   have hbp : b ≠ p := fun z => by rw [z, hp] at e; cases e
   refine ⟨hbp, ?_⟩
   rw [upd_ne hb, upd_ne hbp]
   exact e
  refine ⟨?_, hpy, fun fs => ⟨fun b u hb e => ?_, upd_same, by rw [upd_ne hpy]; exact upd_same, keep fs⟩⟩
  ·cases e1 : H p with
   | none => rfl
   | some u =>
     have := ho p u (by simpa using hpy) e1
     rw [hp] at this
     cases this
  ·exact (keep fs b u (by simpa using hb) (ho b u hb e)).2
 refine sxs_cons (sx_setF (by rfl) ?_)
 refine ev_dnew fun r hr' => ?_
 walk_at "e"
 obtain ⟨rn, ry, sr⟩ := step H3 r (.dK []) _ ey3 o3 hr'
 have ey3' : (upd H3 r (.dK [])) y = some (.ins (cB mg) dx [("heads", .ref h)]) := by rw [upd_ne (Ne.symm ry)]; exact ey3
 refine ⟨y, _, dx, _, rfl, ey3', hc, T.na_Book_rows, by show 1 < 1000; decide, ?_⟩
 obtain ⟨o4, ey4, er4, k4⟩ := sr (.ins (cB mg) dx [("heads", .ref h), ("rows", .ref r)])
 change SXs _ _ _ _ (upd (upd H3 r (.dK [])) y (.ins (cB mg) dx [("heads", .ref h), ("rows", .ref r)]))
 have eh4 := (k4 _ _ yh eh3).2
 generalize upd (upd H3 r (.dK [])) y (.ins (cB mg) dx [("heads", .ref h), ("rows", .ref r)]) = H4 at o4 ey4 er4 eh4 ⊢
 refine sxs_cons (sx_setF (by rfl) ?_)
 refine ev_dnew fun t ht' => ?_
 walk_at "e"
 obtain ⟨tn, ty, sr⟩ := step H4 t (.dK []) _ ey4 o4 ht'
 have ey4' : (upd H4 t (.dK [])) y = some (.ins (cB mg) dx [("heads", .ref h), ("rows", .ref r)]) := by rw [upd_ne (Ne.symm ty)]; exact ey4
 refine ⟨y, _, dx, _, rfl, ey4', hc, T.na_Book_touched, by show 2 < 1000; decide, ?_⟩
 obtain ⟨o5, ey5, et5, k5⟩ := sr (.ins (cB mg) dx [("heads", .ref h), ("rows", .ref r), ("touched", .ref t)])
 change SXs _ _ _ _ (upd (upd H4 t (.dK [])) y (.ins (cB mg) dx [("heads", .ref h), ("rows", .ref r), ("touched", .ref t)]))
 have eh5 := (k5 _ _ yh eh4).2
 obtain ⟨rt, er5⟩ := k5 _ _ ry er4
 generalize upd (upd H4 t (.dK [])) y (.ins (cB mg) dx [("heads", .ref h), ("rows", .ref r), ("touched", .ref t)]) = H5 at o5 ey5 et5 er5 eh5 ⊢
 refine sxs_cons (sx_setF (by rfl) ?_)
 walk_at "go"
 refine ⟨by show 0 ≤ sizeLine; omega, fun d hd' => ?_⟩
 walk_at "e"
 obtain ⟨dn, dy, sr⟩ := step H5 d (.lst []) _ ey5 o5 hd'
 have ey5' : (upd H5 d (.lst [])) y = some (.ins (cB mg) dx [("heads", .ref h), ("rows", .ref r), ("touched", .ref t)]) := by rw [upd_ne (Ne.symm dy)]; exact ey5
 refine ⟨y, _, dx, _, rfl, ey5', hc, T.na_Book_done, by show 3 < 1000; decide, ?_⟩
 obtain ⟨o6, ey6, ed6, k6⟩ := sr (.ins (cB mg) dx [("heads", .ref h), ("rows", .ref r), ("touched", .ref t), ("done", .ref d)])
 change SXs _ _ _ _ (upd (upd H5 d (.lst [])) y (.ins (cB mg) dx [("heads", .ref h), ("rows", .ref r), ("touched", .ref t), ("done", .ref d)]))
 obtain ⟨hd2, eh6⟩ := k6 _ _ yh eh5
 obtain ⟨_, er6⟩ := k6 _ _ ry er5
 obtain ⟨_, et6⟩ := k6 _ _ ty et5
 generalize upd (upd H5 d (.lst [])) y (.ins (cB mg) dx [("heads", .ref h), ("rows", .ref r), ("touched", .ref t), ("done", .ref d)]) = H6 at o6 ey6 ed6 et6 er6 eh6 ⊢
 refine sxs_cons (sx_setF (by rfl) ?_)
 walk_at "e"
 walk_at "e"
 refine ⟨y, _, dx, _, rfl, ey6, hc, T.na_Book_known, by show 4 < 1000; decide, ?_⟩
 refine sxs_one (sx_setF (by rfl) ?_)
 walk_at "e"
 walk_at "e"
 refine ⟨y, _, dx, _, rfl, upd_same, hc, T.na_Book_now, by show 5 < 1000; decide, ?_⟩
 have fin : ∀ b u, b ≠ y -> H6 b = some u -> (upd (upd H6 y (.ins (cB mg) dx [("heads", .ref h), ("rows", .ref r), ("touched", .ref t), ("done", .ref d), ("known", .int 0)])) y (.ins (cB mg) dx [("heads", .ref h), ("rows", .ref r), ("touched", .ref t), ("done", .ref d), ("known", .int 0), ("now", .int 0)])) b = some u := fun b u hb e => by
  rw [upd_ne hb, upd_ne hb]
  exact e
 have ytup : ∀ t' ys, H t' = some (.tup ys) -> t' ≠ y := fun t' ys e z => by rw [z, hy] at e; cases e
 refine q (upd (upd H6 y (.ins (cB mg) dx [("heads", .ref h), ("rows", .ref r), ("touched", .ref t), ("done", .ref d), ("known", .int 0)])) y (.ins (cB mg) dx [("heads", .ref h), ("rows", .ref r), ("touched", .ref t), ("done", .ref d), ("known", .int 0), ("now", .int 0)])) ⟨y, dx, h, r, t, d⟩ rfl rfl hn rn tn dn (fun b u hb e => fin b u (by simpa using hb) (o6 b u hb e)) ?_
 refine ⟨upd_same, fin _ _ ydx (o6 _ _ (by simpa using ydx) hdx), ⟨vs, fin _ _ yh eh6, All2.imp (fun v c ⟨u, e, hu⟩ => ⟨u, e, fin _ _ (ytup _ _ hu) (o6 _ _ (by simpa using ytup _ _ hu) hu)⟩) hvs⟩, ⟨[], fin _ _ ry er6, .nil⟩, ⟨[], fin _ _ ty et6, .nil⟩, ⟨[], fin _ _ dy ed6, .nil⟩, rt, hd2⟩
end
end K33
namespace K33
open PySem L2 PyProof.Rows My Vl Lw
section
variable {P : Program} {w : World} {K : PySem.W.Frag} {mg : Str -> Option Value} {base : Heap}
def ToldAt (H0 H : Hp) (v : V) (p : Int × List V) : Prop := ∃ t l, v = .ref t /\ H t = some (.tup [.int p.1, .ref l]) /\ H l = some (.lst p.2) /\ H0 l = none /\ H0 t = none
def toldBy (rows : List (Int × List V)) (ks : List Int) : List (Int × List V) := ks.map fun k => (k, (aGet rows k).getD [])
def spTold (C : Unit) : Sp := fun vs H Q _ => ∃ (a : Addr) (rows : List (Int × List V)), vs = [.ref a] /\ DictAt (TupAt H) H a rows /\ rows.length < 64 /\ ∀ p ys ks H', Same H H' -> H p = none -> ks.Perm (rows.map (·.1)) -> ks.Pairwise (· ≤ ·) -> H' p = some (.lst ys) -> All2 (ToldAt H H') ys (toldBy rows ks) -> Q (.ref p) H'
theorem d_told_rows (T : Txt K mg) : Def P w K mg base true 1 "told_rows" ["rows"] (spTold ()) := by
 refine df_told_rows T (fun vs H Q E h => by obtain ⟨a, rows, rfl, _⟩ := h; rfl) (fun f cdv A outer s H vs Q E hr h => ?_)
 obtain ⟨a, rows, rfl, ⟨kvs, ea, hR⟩, hl, q⟩ := h
 have n1 := T.n_sorted
 have n2 := T.n_list
 have hsz : sizeLine = 16777216 := sizeLine_eq
 have hu : _ + 1 < cLine := Nat.lt_of_le_of_lt (Nat.add_le_add_left (by decide : 1 ≤ 64) _) hr.units
 have ndc : (["row", "rows"] : List Str).Nodup := by decide +kernel
 refine sxs_one (sx_ret ?_)
 refine ev_compL ["row", "rows"] (σ' := [none, some (.ref a)]) (by rfl) (by rfl) (compSc_of (defScope s_told_rows) (by rfl) (by rfl) (by decide +kernel)) (by intro _; rfl) ?_
 refine cb_sorted (by rfl) n1 (by rfl) (by rfl) ?_
 walk_at "go"
 refine c_sortedD (ks := rows.map (·.1)) (by rfl) ea (pr_keys hR) (by rw [List.length_map]; exact hl) fun L ks hL hp hs => ?_
 have sm0 : Same H (upd H L (.lst (ks.map V.int))) := Same.upd hL
 have eL : (upd H L (.lst (ks.map V.int))) L = some (.lst (ks.map V.int)) := upd_same
 generalize upd H L (.lst (ks.map V.int)) = H1 at sm0 eL ⊢
 have hkl : ks.length = rows.length := by rw [hp.length_eq, List.length_map]
 have hkm : (ks.map V.int).length = ks.length := List.length_map ..
 refine ⟨L, _, rfl, SqL.of eL, by omega, fun τ => ∃ o1, τ = [o1, some (.ref a)], fun E2 i u H' => ∃ k t l, ks[i]? = some k /\ u = .ref t /\ t ≠ E2 /\ l ≠ E2 /\ H' t = some (.tup [.int k, .ref l]) /\ H' l = some (.lst ((aGet rows k).getD [])) /\ H l = none /\ H t = none, ⟨none, rfl⟩, fun E2 i u H2 H3 ys y1 y2 y3 => ?_, fun fp E2 C s3 H0 i τ x H4 H3 hE2 hi hτ sm4 hys hG => ?_, fun L2 H2 ys hL2 hl2 hx2 e2 sm2 => ?_⟩
 ·obtain ⟨k, t, l, z1, z2, z3, z4, z5, z6, z7, z8⟩ := y3
  exact ⟨k, t, l, z1, z2, z3, z4, y2 _ _ z3 z5, y2 _ _ z4 z6, z7, z8⟩
 ·obtain ⟨o1, rfl⟩ := hτ
  obtain ⟨hx, rfl⟩ := hG
  have hik : i < ks.length := by rw [hkm] at hi; exact hi
  have hk : ks[i]? = some ks[i] := List.getElem?_eq_getElem hik
  rw [List.getElem?_map, hk] at hx
  have hx' : x = .int ks[i] := by simpa using hx.symm
  subst hx'
  have hmem : ks[i] ∈ rows.map (·.1) := hp.mem_iff.mp (List.getElem_mem hik)
  have sm04 := sm0.trans sm4
  have ea4 := sm04 _ _ ea
  refine eg_name ndc (by rfl) (.inl rfl) (.inr rfl) ?_
  walk_at "go"
  rcases pr_get hR ks[i] with ⟨_, e3⟩ | ⟨u, xs, e1, e3, t0, rfl, ht0⟩
  ·exact absurd hmem (aGet_none_iff.mp e3)
  have g4 := DGet.k (k := Sum.inl ks[i]) ea4
  rw [e1] at g4
  refine i_dict hu g4 ?_
  walk_at "go"
  refine c_list (.inr (SqT.of (sm04 _ _ ht0))) fun l hl4 => ?_
  have sml : Same H4 (upd H4 l (.lst xs)) := Same.upd hl4
  have el : (upd H4 l (.lst xs)) l = some (.lst xs) := upd_same
  generalize upd H4 l (.lst xs) = H5 at sml el ⊢
  walk_at "go"
  refine ⟨by show 2 ≤ sizeLine; omega, fun t ht => ?_⟩
  have smt : Same H5 (upd H5 t (.tup [.int ks[i], .ref l])) := Same.upd ht
  obtain ⟨ys0, hE⟩ := hys
  refine ⟨⟨_, rfl⟩, ⟨ks[i], t, l, hk, rfl, fun e => ?_, fun e => ?_, upd_same, ?_, sm04.free hl4, (sm04.trans sml).free ht⟩, sml.trans smt⟩
  ·rw [e, sml _ _ hE] at ht; cases ht
  ·rw [e, hE] at hl4; cases hl4
  ·rw [e3]
   exact smt _ _ el
 ·refine q L2 ys ks H2 (sm0.trans sm2) (sm0.free hL2) hp hs e2 (all2_of_get (R := fun v p => ToldAt H H2 v p) (l := ys) (m := toldBy rows ks) (by unfold toldBy; rw [List.length_map, hl2, hkm]) fun i p hp' => ?_)
  unfold toldBy at hp'
  rw [List.getElem?_map] at hp'
  have hi : i < ys.length := by
   rw [hl2, hkm]
   cases e : ks[i]? with
   | none => rw [e] at hp'; cases hp'
   | some k => exact (List.getElem?_eq_some_iff.mp e).1
  have hy : ys[i]? = some ys[i] := List.getElem?_eq_getElem hi
  obtain ⟨k, t, l, z1, z2, z3, z4, z5, z6, z7, z8⟩ := hx2 i _ hy
  rw [z1] at hp'
  have hp2 : p = (k, (aGet rows k).getD []) := by simpa using hp'.symm
  rw [hp2]
  exact ⟨_, hy, t, l, z2, z5, z6, z7, z8⟩
def spNowRows (mg : Str -> Option Value) : Sp := fun vs H Q _ => ∃ (A : BA) (B : Bk), vs = [.ref A.b] /\ BookAt (cB mg) H A B /\ B.rows.length < 64 /\ ∀ p ys ks H', Same H H' -> H p = none -> ks.Perm (B.rows.map (·.1)) -> ks.Pairwise (· ≤ ·) -> H' p = some (.lst ys) -> All2 (ToldAt H H') ys (toldBy B.rows ks) -> Q (.ref p) H'
theorem f_now_rows (T : Txt K mg) : FD P w K mg base true 2 "now_rows" "Book.now_rows" s_Book_now_rows ["self"] (spNowRows mg) := by
 refine ff_Book_now_rows (fun vs H Q E h => by obtain ⟨A, B, rfl, _⟩ := h; rfl) (fun f cdv A' outer s H vs Q E hr h => ?_)
 obtain ⟨A, B, rfl, kB, hl, q⟩ := h
 have D1 : Def P w K mg base true 1 "told_rows" ["rows"] (spTold ()) := d_told_rows T
 refine sxs_one (sx_ret ?_)
 walk_at "go"
 refine ev_fld (by rfl) ?_
 walk_at "e"
 refine ⟨A.b, _, _, _, _, rfl, kB.ins, T.k_Book, T.na_Book_rows, rfl, ?_⟩
 walk_at "go"
 exact ⟨A.r, B.rows, rfl, kB.rows, hl, q⟩
end
end K33
namespace K33
open PySem L2 PyProof.Rows My Vl Lw
section
variable {P : Program} {w : World} {K : PySem.W.Frag} {mg : Str -> Option Value} {base : Heap}
abbrev pDue : Str := Str.ofString "_law_due"
end
end K33
namespace K33
open PySem L2 PyProof.Rows My Vl Lw
section
variable {P : Program} {w : World} {K : PySem.W.Frag} {mg : Str -> Option Value} {base : Heap}
def flat1 (v : V) : Prop := v = .non \/ (∃ i, v = .int i) \/ ∃ z, v = .str z /\ z.length ≤ 4000
theorem valK.flat {kd : Str} {v : V} (h : valK kd v) : flat1 v := by
 rcases h with rfl | ⟨_, i, rfl, _⟩ | ⟨_, z, rfl, hl, _⟩
 ·exact .inl rfl
 ·exact .inr (.inl ⟨i, rfl⟩)
 ·exact .inr (.inr ⟨z, rfl, by omega⟩)
end
end K33
namespace K33
open PySem L2 PyProof.Rows My Vl Lw
section
variable {P : Program} {w : World} {K : PySem.W.Frag} {mg : Str -> Option Value} {base : Heap}
def spIsWholeL : Sp := fun vs H Q _ => ∃ i : Int, vs = [.int i, .int i] /\ Q (.bl true) H
theorem d__law_is_whole (T : Txt K mg) : Def P w K mg base true 1 "_law_is_whole" ["_law_found", pDue] spIsWholeL := by
 refine df__law_is_whole T (fun vs H Q E h => by obtain ⟨i, rfl, _⟩ := h; rfl) (fun f cdv A outer s H vs Q E hr h => ?_)
 obtain ⟨i, rfl, q⟩ := h
 have n1 := T.n_isinstance
 have n2 := T.n_int
 have n3 := T.n_bool
 refine sxs_one (sx_ret ?_)
 walk_at "go"
 rw [decide_eq_true rfl]
 exact q
def spSame1 (K : PySem.W.Frag) : Sp := fun vs H Q _ => ∃ (a b : Addr) (xs : List V), vs = [.ref a, .ref b] /\ H a = some (.lst xs) /\ H b = some (.lst xs) /\ xs.length ≤ 1000 /\ (∀ x ∈ xs, flat1 x) /\ Q (.bl true) H
theorem d__law_same (T : Txt K mg) : Def P w K mg base true 1 "_law_same" ["_law_found", pDue] (spSame1 K) := by
 refine df__law_same T (fun vs H Q E h => by obtain ⟨a, b, xs, rfl, _⟩ := h; rfl) (fun f cdv A outer s H vs Q E hr h => ?_)
 obtain ⟨a, b, xs, rfl, ha, hb, hl, hf, q⟩ := h
 have nd := sc__law_same.nd
 have n1 := T.n_isinstance
 have n2 := T.n_list
 have n3 := T.n_len
 have n4 := T.n_range
 have n5 := T.n_bool
 have hsz : sizeLine = 16777216 := sizeLine_eq
 have sa : SqL K H a xs := SqL.of ha
 have sb : SqL K H b xs := SqL.of hb
 refine sxs_cons ?_
 walk_at "go"
 refine is_list_list ha ?_
 walk_at "go"
 refine ifN (fun h2 => ?_) (fun h2 => ?_)
 ·exact absurd rfl h2
 refine sxs_nil (sxs_cons ?_)
 refine sx_forR (by walk_at "po") (by rfl) (by rfl) n4 (by rfl) ?_
 walk_at "go"
 refine ⟨by omega, by omega, fun i σ H' => (∃ o2, σ = [some (.ref a), some (.ref b), o2]) /\ H' = H, ⟨⟨none, rfl⟩, rfl⟩, fun i σ H' hi hP => ?_, fun σ H' hP => ?_⟩
 ·obtain ⟨⟨o2, rfl⟩, rfl⟩ := hP
  have hi' : i < xs.length := by simpa using hi
  have hg : xs[i]? = some xs[i] := List.getElem?_eq_getElem hi'
  have hx := hf xs[i] (List.getElem_mem hi')
  generalize xs[i] = x at hg hx
  refine eg_name nd (by rfl) (.inl rfl) (.inl rfl) ?_
  refine sxs_one ?_
  walk_at "go"
  refine i_list sa (atI_nat hg) ?_
  rcases hx with rfl | ⟨j, rfl⟩ | ⟨z, rfl, hz⟩
  ·walk_at "go"
   refine i_list sa (atI_nat hg) ?_
   walk_at "go"
   refine i_list sb (atI_nat hg) ?_
   walk_at "go"
   refine i_list sa (atI_nat hg) ?_
   walk_at "go"
   refine i_list sb (atI_nat hg) ?_
   walk_at "go"
   exact ⟨⟨_, rfl⟩, rfl⟩
  ·walk_at "go"
   refine i_list sa (atI_nat hg) ?_
   walk_at "go"
   refine i_list sa (atI_nat hg) ?_
   walk_at "go"
   refine i_list sb (atI_nat hg) ?_
   walk_at "go"
   refine ifN (fun h2 => ?_) (fun h2 => ?_)
   ·exact absurd rfl h2
   ·exact sxs_nil ⟨⟨_, rfl⟩, rfl⟩
  ·walk_at "go"
   refine i_list sa (atI_nat hg) ?_
   walk_at "go"
   refine i_list sa (atI_nat hg) ?_
   walk_at "go"
   refine i_list sb (atI_nat hg) ?_
   walk_at "go"
   refine ifN (fun h2 => ?_) (fun h2 => ?_)
   ·exact absurd rfl h2
   ·exact sxs_nil ⟨⟨_, rfl⟩, rfl⟩
 ·obtain ⟨⟨o2, rfl⟩, rfl⟩ := hP
  walk_at "go"
  exact q
end
end K33
namespace K33
open PySem L2 PyProof.Rows My Vl Lw
section
variable {P : Program} {w : World} {K : PySem.W.Frag} {mg : Str -> Option Value} {base : Heap}
def RowT (H : Hp) (v : V) (p : Int × List V) : Prop := ∃ t l, v = .ref t /\ H t = some (.tup [.int p.1, .ref l]) /\ H l = some (.lst p.2)
def flatRow (p : Int × List V) : Prop := p.2.length ≤ 1000 /\ ∀ x ∈ p.2, flat1 x
def spSameRows (K : PySem.W.Frag) : Sp := fun vs H Q _ => ∃ (a b : Addr) (ys zs : List V) (rs : List (Int × List V)), vs = [.ref a, .ref b] /\ H a = some (.lst ys) /\ H b = some (.lst zs) /\ All2 (RowT H) ys rs /\ All2 (RowT H) zs rs /\ rs.length ≤ 1000 /\ (∀ p ∈ rs, flatRow p) /\ Q (.bl true) H
theorem d__law_same_rows (T : Txt K mg) : Def P w K mg base true 2 "_law_same_rows" ["_law_found", pDue] (spSameRows K) := by
 refine df__law_same_rows T (fun vs H Q E h => by obtain ⟨a, b, ys, zs, rs, rfl, _⟩ := h; rfl) (fun f cdv A outer s H vs Q E hr h => ?_)
 obtain ⟨a, b, ys, zs, rs, rfl, ha, hb, hA, hB, hl, hf, q⟩ := h
 have nd := sc__law_same_rows.nd
 have n1 := T.n_isinstance
 have n2 := T.n_list
 have n3 := T.n_len
 have n4 := T.n_range
 have n5 := T.n_tuple
 have D1 : Def P w K mg base true 1 "_law_same" ["_law_found", pDue] (spSame1 K) := d__law_same T
 have D2 : Def P w K mg base true 1 "_law_is_whole" ["_law_found", pDue] spIsWholeL := d__law_is_whole T
 have hsz : sizeLine = 16777216 := sizeLine_eq
 have sa : SqL K H a ys := SqL.of ha
 have sb : SqL K H b zs := SqL.of hb
 have l1 := hA.len
 have l2 := hB.len
 have hyz : (ys.length : Int) = (zs.length : Int) := by omega
 refine sxs_cons ?_
 walk_at "go"
 refine is_list_list ha ?_
 walk_at "go"
 refine ifN (fun h2 => ?_) (fun h2 => ?_)
 ·exact absurd (by rw [hyz]) h2
 refine sxs_nil (sxs_cons ?_)
 refine sx_forR (by walk_at "po") (by rfl) (by rfl) n4 (by rfl) ?_
 walk_at "go"
 refine ⟨by omega, by omega, fun i σ H' => (∃ o2, σ = [some (.ref a), some (.ref b), o2]) /\ H' = H, ⟨⟨none, rfl⟩, rfl⟩, fun i σ H' hi hP => ?_, fun σ H' hP => ?_⟩
 ·obtain ⟨⟨o2, rfl⟩, rfl⟩ := hP
  have hi' : i < zs.length := by simpa using hi
  have hir : i < rs.length := by omega
  have hg : rs[i]? = some rs[i] := List.getElem?_eq_getElem hir
  have hfl := hf rs[i] (List.getElem_mem hir)
  generalize rs[i] = p at hg hfl
  obtain ⟨y, gy, t, l, rfl, ht, hlst⟩ := hA.get' hg
  obtain ⟨z, gz, t2, m, rfl, ht2, hm⟩ := hB.get' hg
  have st : SqT K H' t [.int p.1, .ref l] := SqT.of ht
  have st2 : SqT K H' t2 [.int p.1, .ref m] := SqT.of ht2
  have e0 : ∀ x, atI [V.int p.1, .ref x] 0 = some (.int p.1) := fun _ => rfl
  have e1 : ∀ x, atI [V.int p.1, .ref x] 1 = some (.ref x) := fun _ => rfl
  refine eg_name nd (by rfl) (.inl rfl) (.inl rfl) ?_
  refine sxs_cons ?_
  walk_at "go"
  refine i_list sa (atI_nat gy) ?_
  walk_at "go"
  refine is_tuple_tuple ht ?_
  walk_at "go"
  refine i_list sa (atI_nat gy) ?_
  walk_at "go"
  refine c_len (.inr st) ?_
  walk_at "go"
  refine ifN (fun h2 => ?_) (fun h2 => ?_)
  ·exact absurd rfl h2
  refine sxs_nil ?_
  walk_at "go"
  refine i_list sa (atI_nat gy) ?_
  walk_at "go"
  refine i_tup st (e0 l) ?_
  walk_at "go"
  refine i_list sb (atI_nat gz) ?_
  walk_at "go"
  refine i_tup st2 (e0 m) ?_
  walk_at "go"
  refine ⟨p.1, rfl, ?_⟩
  walk_at "go"
  refine i_list sa (atI_nat gy) ?_
  walk_at "go"
  refine i_tup st (e1 l) ?_
  walk_at "go"
  refine i_list sb (atI_nat gz) ?_
  walk_at "go"
  refine i_tup st2 (e1 m) ?_
  walk_at "go"
  refine ⟨l, m, p.2, rfl, hlst, hm, hfl.1, hfl.2, ?_⟩
  walk_at "go"
  exact ⟨⟨_, rfl⟩, rfl⟩
 ·obtain ⟨⟨o2, rfl⟩, rfl⟩ := hP
  walk_at "go"
  exact q
end
end K33
namespace K33
open PySem L2 PyProof.Rows My Vl Lw
section
variable {P : Program} {w : World} {K : PySem.W.Frag} {mg : Str -> Option Value} {base : Heap}
def back1 (rows : List (Int × List V)) (row : Int) : Option (List V) -> List (Int × List V)
 | none => aDrop rows row
 | some xs => aPut rows row xs
def backAll (rows : List (Int × List V)) (ds : List Deed) : List (Int × List V) := ds.foldr (fun d r => back1 r d.row d.was) rows
def undoOk (rows : List (Int × List V)) : List Deed -> Prop
 | [] => True
 | d :: ds => undoOk rows ds /\ (d.was = none -> aGet (backAll rows ds) d.row ≠ none)
theorem aPut_len {α : Type} (m : List (Int × α)) (i : Int) (x : α) : (aPut m i x).length ≤ m.length + 1 := by
 unfold aPut
 split
 ·rw [List.length_map]; omega
 ·rw [List.length_append, List.length_singleton]; omega
theorem back1_len (rows : List (Int × List V)) (row : Int) (o : Option (List V)) : (back1 rows row o).length ≤ rows.length + 1 := by
 cases o with
 | none => exact Nat.le_succ_of_le (List.length_filter_le ..)
 | some xs => exact aPut_len rows row xs
theorem backAll_len (rows : List (Int × List V)) : ∀ ds : List Deed, (backAll rows ds).length ≤ rows.length + ds.length
 | [] => Nat.le_refl _
 | d :: ds => by
   have h1 := backAll_len rows ds
   have h2 := back1_len (backAll rows ds) d.row d.was
   show (back1 (backAll rows ds) d.row d.was).length ≤ _
   rw [List.length_cons]
   omega
theorem undoOk.drop {rows : List (Int × List V)} : ∀ {ds : List Deed} (n : Nat), undoOk rows ds -> undoOk rows (ds.drop n)
 | ds, 0, h => h
 | [], n + 1, h => h
 | d :: ds, n + 1, h => undoOk.drop (ds := ds) n h.1
def LOpt (H0 H : Hp) (v : V) : Option (List V) -> Prop
 | none => v = .non
 | some xs => ∃ l, v = .ref l /\ H l = some (.lst xs) /\ H0 l = none
def DeedTold (H0 H : Hp) (v : V) (d : Deed) : Prop := ∃ t w u, v = .ref t /\ H t = some (.tup [.int d.at_, .int d.row, w, u]) /\ LOpt H0 H w d.was /\ LOpt H0 H u d.is /\ H0 t = none
theorem LOpt.stay {H0 H H' : Hp} {v : V} {o : Option (List V)} (h : LOpt H0 H v o) (s : ∀ l ys, v = .ref l -> H l = some (.lst ys) -> H' l = some (.lst ys)) : LOpt H0 H' v o := by
 cases o with
 | none => exact h
 | some xs =>
   obtain ⟨l, e, h1, h2⟩ := h
   exact ⟨l, e, s _ _ e h1, h2⟩
def spTV : Sp := fun vs H Q _ => ∃ (v : V) (o : Option (List V)), vs = [v] /\ OptAt H v o /\ ∀ v' H', Same H H' -> LOpt H H' v' o -> Q v' H'
theorem d_told_values (T : Txt K mg) : Def P w K mg base true 1 "told_values" ["values"] spTV := by
 refine df_told_values T (fun vs H Q E h => by obtain ⟨v, o, rfl, _⟩ := h; rfl) (fun f cdv A outer s H vs Q E hr h => ?_)
 obtain ⟨v, o, rfl, hv, q⟩ := h
 have n1 := T.n_list
 refine sxs_one (sx_ret ?_)
 cases o with
 | none =>
   have e : v = .non := hv
   subst e
   walk_at "go"
   exact q _ _ (Same.refl _) rfl
 | some xs =>
   obtain ⟨t, rfl, ht⟩ := hv
   walk_at "go"
   exact c_list (.inr (SqT.of ht)) fun p hp => q _ _ (Same.upd hp) ⟨p, rfl, upd_same, hp⟩
def spBack : Sp := fun vs H Q _ => ∃ (a : Addr) (rows : List (Int × List V)) (row : Int) (v : V) (o : Option (List V)), vs = [.ref a, .int row, v] /\ DictAt (TupAt H) H a rows /\ OptAt H v o /\ (o = none -> aGet rows row ≠ none) /\ rows.length < 1000000 /\
 ∀ H', Out [a] H H' -> DictAt (TupAt H') H' a (back1 rows row o) -> Q .non H'
theorem d_put_back (T : Txt K mg) : Def P w K mg base true 1 "put_back" ["rows", "row", "was"] spBack := by
 refine df_put_back T (fun vs H Q E h => by obtain ⟨a, rows, row, v, o, rfl, _⟩ := h; rfl) (fun f cdv A outer s H vs Q E hr h => ?_)
 obtain ⟨a, rows, row, v, o, rfl, ⟨kvs, ea, hR⟩, hv, hno, hl, q⟩ := h
 have hu : _ + 1 < cLine := Nat.lt_of_le_of_lt (Nat.add_le_add_left (by decide : 1 ≤ 64) _) hr.units
 have hkl := hR.len
 have hsz : sizeLine = 16777216 := sizeLine_eq
 have st : ∀ kvs', ∀ b ys, H b = some (.tup ys) -> (upd H a (.dK kvs')) b = some (.tup ys) := fun kvs' b ys e => by
  rw [upd_ne (fun z => by rw [z, ea] at e; cases e)]
  exact e
 refine sxs_one (sx_if ?_)
 cases o with
 | none =>
   have e : v = .non := hv
   subst e
   walk_at "ex"
   refine sxs_one (sx_expr (by rfl) (ev_dpop1 (by constructor <;> rfl) ?_))
   walk_at "e"
   refine ⟨a, rfl, .inl ⟨_, .inl ea⟩, ?_⟩
   walk_at "e"
   rcases pr_get hR row with ⟨e1, e2⟩ | ⟨u, x, e1, e2, _⟩
   ·exact absurd e2 (hno rfl)
   refine ⟨kvs, Sum.inl row, u, ea, rfl, e1, ?_⟩
   exact q _ (Out.upd (by simp)) ⟨_, upd_same, pr_imp (pr_drop hR row) fun v p h => h.stay (st _)⟩
 | some xs =>
   obtain ⟨t, rfl, ht⟩ := hv
   walk_at "ex"
   refine sxs_one (sx_dput hu (by rfl) ?_)
   walk_at "go"
   refine ⟨a, _, rfl, DPut.k (k := Sum.inl row) ea (by omega), ?_⟩
   exact q _ (Out.upd (by simp)) ⟨_, upd_same, pr_imp (pr_put hR row (x := xs) ⟨t, rfl, ht⟩) fun v p h => h.stay (st _)⟩
def momB (B : Bk) : Prop := 0 ≤ B.known /\ B.known ≤ B.now /\ B.now ≤ 1000000000
def spBehind (mg : Str -> Option Value) : Sp := fun vs H Q E => ∃ (A : BA) (B : Bk) (mo : Int), vs = [.ref A.b, .int mo] /\ BookAt (cB mg) H A B /\ momB B /\
 (mo < B.known -> ∀ e H', Same H H' -> H' e = some (.xd [("known", .int B.known)]) -> E (.ref (clsA mg "Gone")) (some e, true) H') /\
 (B.now < mo -> ∀ e H', Same H H' -> H' e = some (.xd [("now", .int B.now)]) -> E (.ref (clsA mg "Later")) (some e, true) H') /\
 (B.known ≤ mo -> mo ≤ B.now -> ∀ p ys, H p = none -> All2 (DeedAt H) ys (B.done.drop (mo - B.known).toNat) -> Q (.ref p) (upd H p (.lst ys)))
theorem f_done_behind (T : Txt K mg) : FD P w K mg base true 3 "done_behind" "Book.done_behind" s_Book_done_behind ["self", "moment"] (spBehind mg) := by
 refine ff_Book_done_behind (fun vs H Q E h => by obtain ⟨A, B, mo, rfl, _⟩ := h; rfl) (fun f cdv A' outer s H vs Q E hr h => ?_)
 obtain ⟨A, B, mo, rfl, kB, ⟨m0, m1, m2⟩, qg, ql, q⟩ := h
 have hc := T.k_Book
 have a1 := T.na_Book_known
 have a2 := T.na_Book_now
 have a3 := T.na_Book_done
 have kI := kB.ins
 obtain ⟨ds, ed, hD⟩ := kB.done
 refine sxs_cons ?_
 walk_at "go"
 refine ev_fld (by rfl) ?_
 walk_at "e"
 refine ⟨A.b, _, _, _, _, rfl, kI, hc, a1, rfl, ?_⟩
 walk_at "go"
 refine ifD (fun h => ?_) (fun h => ?_)
 ·walk_at "go"
  refine (sx_raiseI (d_Gone T (cc := true)) hr (by decide) (fun _ => rfl) xok_fn (by rfl) (by rfl) (by decide) (by rfl) (by rfl) ?_)
  walk_at "go"
  refine ev_fld (by rfl) ?_
  walk_at "e"
  refine ⟨A.b, _, _, _, _, rfl, kI, hc, a1, rfl, ?_⟩
  walk_at "go"
  exact ⟨B.known, rfl, by omega, fun e H' sm he => qg h e H' sm he⟩
 refine sxs_nil (sxs_cons ?_)
 walk_at "go"
 refine ev_fld (by rfl) ?_
 walk_at "e"
 refine ⟨A.b, _, _, _, _, rfl, kI, hc, a2, rfl, ?_⟩
 walk_at "go"
 refine ifD (fun h2 => ?_) (fun h2 => ?_)
 ·walk_at "go"
  refine (sx_raiseI (d_Later T (cc := true)) hr (by decide) (fun _ => rfl) xok_fn (by rfl) (by rfl) (by decide) (by rfl) (by rfl) ?_)
  walk_at "go"
  refine ev_fld (by rfl) ?_
  walk_at "e"
  refine ⟨A.b, _, _, _, _, rfl, kI, hc, a2, rfl, ?_⟩
  walk_at "go"
  exact ⟨B.now, rfl, by omega, fun e H' sm he => ql (by omega) e H' sm he⟩
 refine sxs_nil (sxs_one (sx_ret ?_))
 walk_at "go"
 refine ev_fld (by rfl) ?_
 walk_at "e"
 refine ⟨A.b, _, _, _, _, rfl, kI, hc, a3, rfl, ?_⟩
 walk_at "go"
 refine ev_fld (by rfl) ?_
 walk_at "e"
 refine ⟨A.b, _, _, _, _, rfl, kI, hc, a1, rfl, ?_⟩
 walk_at "go"
 refine s_list (SqL.of ed) fun p hp => ?_
 have hk : mo - B.known = ((mo - B.known).toNat : Int) := by omega
 have e1 : cutV ds (some (mo - B.known)) none = ds.drop (mo - B.known).toNat := by rw [hk]; exact cutV_from ds _
 rw [e1]
 exact q (by omega) (by omega) p _ hp (hD.drop _)
end
end K33
namespace K33
open PySem L2 PyProof.Rows My Vl Lw
section
variable {P : Program} {w : World} {K : PySem.W.Frag} {mg : Str -> Option Value} {base : Heap}
def spLetGo (mg : Str -> Option Value) : Sp := fun vs H Q E => ∃ (A : BA) (B : Bk) (mo : Int), vs = [.ref A.b, .int mo] /\ BookAt (cB mg) H A B /\ momB B /\
 (mo ≤ B.known -> Q .non H) /\
 (B.now < mo -> ∀ e H', Same H H' -> H' e = some (.xd [("now", .int B.now)]) -> E (.ref (clsA mg "Later")) (some e, true) H') /\
 (B.known < mo -> mo ≤ B.now -> ∀ d H', H d = none -> Out [A.b] H H' -> BookAt (cB mg) H' { A with d := d } { B with done := B.done.drop (mo - B.known).toNat, known := mo } -> Q .non H')
theorem f_let_go (T : Txt K mg) : FD P w K mg base true 4 "let_go" "Book.let_go" s_Book_let_go ["self", "moment"] (spLetGo mg) := by
 refine ff_Book_let_go (fun vs H Q E h => by obtain ⟨A, B, mo, rfl, _⟩ := h; rfl) (fun f cdv A' outer s H vs Q E hr h => ?_)
 obtain ⟨A, B, mo, rfl, kB, hm, q0, ql, q⟩ := h
 have hc := T.k_Book
 have a1 := T.na_Book_known
 have a3 := T.na_Book_done
 have kI := kB.ins
 have M1 : MDef P w K mg base true 3 (cB mg) "done_behind" ["self", "moment"] (spBehind mg) := (f_done_behind T).meth T.k_Book T.o_Book_done_behind
 refine sxs_one (sx_if ?_)
 walk_at "ex"
 refine ev_fld (by rfl) ?_
 walk_at "e"
 refine ⟨A.b, _, _, _, _, rfl, kI, hc, a1, rfl, ?_⟩
 walk_at "ex"
 refine ifD (fun h => ?_) (fun h => ?_)
 ·refine sxs_cons (sx_setF (by rfl) ?_)
  refine ev_meth (pl := _) hr xok_fn (by rfl) (by rfl) (by rfl) ?_
  walk_at "e"
  refine ⟨A.b, cB mg, A.dx, _, true, 3, _, spBehind mg, rfl, kI, by rfl, M1, by decide, id, ?_⟩
  walk_at "go"
  refine ⟨A, B, mo, rfl, kB, hm, fun z => absurd z (by omega), ql, fun _ z2 p ys hp hys => ?_⟩
  have smp : Same H (upd H p (.lst ys)) := Same.upd hp
  have ep : (upd H p (.lst ys)) p = some (.lst ys) := upd_same
  generalize upd H p (.lst ys) = H1 at smp ep ⊢
  have k1 := kB.same smp
  have hD1 : All2 (DeedAt H1) ys (B.done.drop (mo - B.known).toNat) := All2.imp (fun v d h => h.stay fun b ys e => smp _ _ e) hys
  walk_at "e"
  refine ⟨A.b, _, _, _, rfl, k1.ins, hc, a3, by show 6 < 1000; decide, ?_⟩
  have n1 : p ≠ A.b := fun e => by have := kB.ins; rw [<- e, hp] at this; cases this
  have o2 : Out [A.b] H _ := (Out.of smp).trans (Out.upd (H := H1) (a := A.b) (o := .ins (cB mg) A.dx [("heads", .ref A.h), ("rows", .ref A.r), ("touched", .ref A.t), ("done", .ref p), ("known", .int B.known), ("now", .int B.now)]) (by simp))
  have k2 : BookAt (cB mg) (upd H1 A.b (.ins (cB mg) A.dx [("heads", .ref A.h), ("rows", .ref A.r), ("touched", .ref A.t), ("done", .ref p), ("known", .int B.known), ("now", .int B.now)])) { A with d := p } { B with done := B.done.drop (mo - B.known).toNat } := by
   have kk := (k1.setI B.known B.now)
   obtain ⟨m1, m2, m3, m4, m5, m6, m7, m8, m9, m10, m11, m12⟩ := k1.ne
   have st : ∀ b ys, H1 b = some (.tup ys) -> (upd H1 A.b (.ins (cB mg) A.dx [("heads", .ref A.h), ("rows", .ref A.r), ("touched", .ref A.t), ("done", .ref p), ("known", .int B.known), ("now", .int B.now)])) b = some (.tup ys) := fun b ys e => by
    rw [upd_ne (fun z => by rw [z, k1.ins] at e; cases e)]
    exact e
   refine ⟨upd_same, by rw [upd_ne (Ne.symm m1)]; exact k1.own, k1.heads.stay (fun xs e => by rw [upd_ne (Ne.symm m2)]; exact e) st, ?_, ?_, ⟨ys, by rw [upd_ne n1]; exact ep, All2.imp (fun v d h => h.stay st) hD1⟩, k1.rt, fun e => ?_⟩
   ·obtain ⟨kvs, e, h⟩ := k1.rows
    exact ⟨kvs, by rw [upd_ne (Ne.symm m3)]; exact e, pr_imp h fun v x h => h.stay st⟩
   ·obtain ⟨kvs, e, h⟩ := k1.touched
    exact ⟨kvs, by rw [upd_ne (Ne.symm m4)]; exact e, h⟩
   ·have e' : A.h = p := e
    obtain ⟨_, h3, _⟩ := kB.heads
    rw [e', hp] at h3
    cases h3
  change SXs _ _ _ _ (upd H1 A.b (.ins (cB mg) A.dx [("heads", .ref A.h), ("rows", .ref A.r), ("touched", .ref A.t), ("done", .ref p), ("known", .int B.known), ("now", .int B.now)]))
  generalize upd H1 A.b _ = H2 at k2 o2 ⊢
  refine sxs_one (sx_setF (by rfl) ?_)
  walk_at "go"
  refine ⟨A.b, _, _, _, rfl, k2.ins, hc, a1, by show 6 < 1000; decide, ?_⟩
  have k3 := k2.setI mo B.now
  refine q (by omega) z2 p _ hp (o2.trans (Out.upd (by simp))) k3
 ·exact sxs_nil (q0 (by omega))
end
end K33
namespace K33
open PySem L2 PyProof.Rows My Vl Lw
section
variable {P : Program} {w : World} {K : PySem.W.Frag} {mg : Str -> Option Value} {base : Heap}
def spRowsAt (mg : Str -> Option Value) : Sp := fun vs H Q E => ∃ (A : BA) (B : Bk) (mo : Int), vs = [.ref A.b, .int mo] /\ BookAt (cB mg) H A B /\ momB B /\ B.rows.length < 1000 /\ B.done.length < 10000 /\
 (mo < B.known -> ∀ e H', Same H H' -> H' e = some (.xd [("known", .int B.known)]) -> E (.ref (clsA mg "Gone")) (some e, true) H') /\
 (B.now < mo -> ∀ e H', Same H H' -> H' e = some (.xd [("now", .int B.now)]) -> E (.ref (clsA mg "Later")) (some e, true) H') /\
 (B.known ≤ mo -> mo ≤ B.now -> undoOk B.rows (B.done.drop (mo - B.known).toNat) /\ (backAll B.rows (B.done.drop (mo - B.known).toNat)).length < 64 /\
  ∀ p ys ks H', Same H H' -> H p = none -> ks.Perm ((backAll B.rows (B.done.drop (mo - B.known).toNat)).map (·.1)) -> ks.Pairwise (· ≤ ·) -> H' p = some (.lst ys) -> All2 (ToldAt H H') ys (toldBy (backAll B.rows (B.done.drop (mo - B.known).toNat)) ks) -> Q (.ref p) H')
theorem f_rows_at (T : Txt K mg) : FD P w K mg base true 4 "rows_at" "Book.rows_at" s_Book_rows_at ["self", "moment"] (spRowsAt mg) := by
 refine ff_Book_rows_at (fun vs H Q E h => by obtain ⟨A, B, mo, rfl, _⟩ := h; rfl) (fun f cdv A' outer s H vs Q E hr h => ?_)
 obtain ⟨A, B, mo, rfl, kB, hm, hrl, hdl, qg, ql, q⟩ := h
 have nd := sc_Book_rows_at.nd
 have hc := T.k_Book
 have a1 := T.na_Book_rows
 have n1 := T.n_dict
 have n2 := T.n_reversed
 have M1 : MDef P w K mg base true 3 (cB mg) "done_behind" ["self", "moment"] (spBehind mg) := (f_done_behind T).meth T.k_Book T.o_Book_done_behind
 have D1 : Def P w K mg base true 1 "put_back" ["rows", "row", "was"] spBack := d_put_back T
 have D2 : Def P w K mg base true 1 "told_rows" ["rows"] (spTold ()) := d_told_rows T
 obtain ⟨kvs, er, hR⟩ := kB.rows
 refine sxs_cons ?_
 walk_at "go"
 refine ev_fld (by rfl) ?_
 walk_at "e"
 refine ⟨A.b, _, _, _, _, rfl, kB.ins, hc, a1, rfl, ?_⟩
 walk_at "go"
 refine c_dictOf er fun r hr1 => ?_
 have sm1 : Same H (upd H r (.dK kvs)) := Same.upd hr1
 have er1 : (upd H r (.dK kvs)) r = some (.dK kvs) := upd_same
 change SXs _ _ _ _ (upd H r (.dK kvs))
 generalize upd H r (.dK kvs) = H1 at sm1 er1 ⊢
 have kB1 := kB.same sm1
 have hR1 : All2 (PR (TupAt H1)) kvs B.rows := pr_imp hR fun v x h => h.stay fun b ys e => sm1 _ _ e
 refine sxs_cons ?_
 refine sx_forV (by walk_at "po") (by rfl) (by rfl) n2 (by rfl) ?_
 refine ev_meth (pl := _) hr xok_fn (by rfl) (by rfl) (by rfl) ?_
 walk_at "e"
 refine ⟨A.b, cB mg, A.dx, _, true, 3, _, spBehind mg, rfl, kB1.ins, by rfl, M1, by decide, id, ?_⟩
 walk_at "go"
 refine ⟨A, B, mo, rfl, kB1, hm, fun z e H' sm he => qg z e H' (sm1.trans sm) he, fun z e H' sm he => ql z e H' (sm1.trans sm) he, fun z1 z2 p ys hp hys => ?_⟩
 obtain ⟨hok, h64, q⟩ := q z1 z2
 have hdd : (B.done.drop (mo - B.known).toNat).length ≤ B.done.length := by rw [List.length_drop]; omega
 generalize B.done.drop (mo - B.known).toNat = ds at hys hok h64 q hdd
 have hyl := hys.len
 have smp : Same H1 (upd H1 p (.lst ys)) := Same.upd hp
 have ep : (upd H1 p (.lst ys)) p = some (.lst ys) := upd_same
 generalize upd H1 p (.lst ys) = H2 at smp ep ⊢
 have hys2 : All2 (DeedAt H2) ys ds := All2.imp (fun v d h => h.stay fun b ys e => smp _ _ e) hys
 have er2 := smp _ _ er1
 have rp : r ≠ p := fun e => by rw [<- e, er1] at hp; cases hp
 refine ⟨p, ys, rfl, SqL.of ep, fun i σ H' => (∃ o3, σ = [some (.ref A.b), some (.int mo), some (.ref r), o3]) /\ Out [r] H2 H' /\ DictAt (TupAt H') H' r (backAll B.rows (ds.drop (ys.length - i))), ⟨⟨none, rfl⟩, Out.refl _ _, ⟨kvs, er2, ?_⟩⟩, fun i σ H' hi hP => SqL.of (hP.2.1 _ _ (by simpa using Ne.symm rp) ep), fun i x σ H' hi hx hP => ?_, fun σ H' hP => ?_⟩
 ·rw [Nat.sub_zero, hyl, List.drop_length]
  exact pr_imp hR1 fun v x h => h.stay fun b ys e => smp _ _ e
 ·obtain ⟨⟨o3, rfl⟩, o, hDc⟩ := hP
  obtain ⟨d, hd, t, w, u, rfl, ht, hw, hu⟩ := hys2.get hx
  have st : ∀ b ys, H2 b = some (.tup ys) -> H' b = some (.tup ys) := fun b ys e => o _ _ (fun z => by rw [List.mem_singleton.mp z, er2] at e; cases e) e
  have hidx : ys.length - (i + 1) < ds.length := by omega
  have hdr : ds.drop (ys.length - (i + 1)) = d :: ds.drop (ys.length - i) := by
   rw [List.drop_eq_getElem_cons hidx]
   have e1 : ds[ys.length - 1 - i]? = some d := hd
   have e2 : ys.length - 1 - i = ys.length - (i + 1) := by omega
   rw [e2] at e1
   rw [(List.getElem?_eq_some_iff.mp e1).2, show ys.length - (i + 1) + 1 = ys.length - i by omega]
  have hok' : undoOk B.rows (d :: ds.drop (ys.length - i)) := by rw [<- hdr]; exact hok.drop _
  have hbl := backAll_len B.rows (ds.drop (ys.length - i))
  have hdl2 : (ds.drop (ys.length - i)).length ≤ ds.length := by rw [List.length_drop]; omega
  have st1 : SqT K H' t [.int d.at_, .int d.row, w, u] := SqT.of (st _ _ ht)
  refine eg_name nd (by rfl) (.inl rfl) (.inl rfl) ?_
  refine sxs_one ?_
  walk_at "go"
  refine i_tup st1 (i := 1) rfl ?_
  walk_at "go"
  refine i_tup st1 (i := 2) rfl ?_
  walk_at "go"
  refine ⟨r, backAll B.rows (ds.drop (ys.length - i)), d.row, w, d.was, rfl, hDc, hw.stay st, hok'.2, by omega, fun H3 o3 k3 => ?_⟩
  refine ⟨⟨_, rfl⟩, o.trans o3, ?_⟩
  rw [hdr]
  exact k3
 ·obtain ⟨⟨o3, rfl⟩, o, hDc⟩ := hP
  rw [Nat.sub_self, List.drop_zero] at hDc
  have smH : Same H H' := fun b u e => o _ _ (fun z => by rw [List.mem_singleton.mp z, hr1] at e; cases e) (smp _ _ (sm1 _ _ e))
  refine sxs_one ?_
  walk_at "go"
  refine ⟨r, _, rfl, hDc, h64, fun p2 ys2 ks H3 sm3 hp2 hks hso ep2 hys3 => ?_⟩
  exact q p2 ys2 ks H3 (smH.trans sm3) (smH.free hp2) hks hso ep2 (All2.imp (fun v x ⟨t, l, e, h1, h2, h3, h4⟩ => ⟨t, l, e, h1, h2, smH.free h3, smH.free h4⟩) hys3)
end
end K33
namespace K33
open PySem L2 PyProof.Rows My Vl Lw
section
variable {P : Program} {w : World} {K : PySem.W.Frag} {mg : Str -> Option Value} {base : Heap}
def spDeeds (mg : Str -> Option Value) : Sp := fun vs H Q E => ∃ (A : BA) (B : Bk) (mo : Int), vs = [.ref A.b, .int mo] /\ BookAt (cB mg) H A B /\ momB B /\ B.done.length < 10000 /\
 (mo < B.known -> ∀ e H', Same H H' -> H' e = some (.xd [("known", .int B.known)]) -> E (.ref (clsA mg "Gone")) (some e, true) H') /\
 (B.now < mo -> ∀ e H', Same H H' -> H' e = some (.xd [("now", .int B.now)]) -> E (.ref (clsA mg "Later")) (some e, true) H') /\
 (B.known ≤ mo -> mo ≤ B.now -> ∀ p ys H', Same H H' -> H p = none -> H' p = some (.lst ys) -> All2 (DeedTold H H') ys (B.done.drop (mo - B.known).toNat) -> Q (.ref p) H')
theorem f_deeds (T : Txt K mg) : FD P w K mg base true 4 "deeds" "Book.deeds" s_Book_deeds ["self", "moment"] (spDeeds mg) := by
 refine ff_Book_deeds (fun vs H Q E h => by obtain ⟨A, B, mo, rfl, _⟩ := h; rfl) (fun f cdv A' outer s H vs Q E hr h => ?_)
 obtain ⟨A, B, mo, rfl, kB, hm, hdl, qg, ql, q⟩ := h
 have nd := sc_Book_deeds.nd
 have hsz : sizeLine = 16777216 := sizeLine_eq
 have ndc : (["made", "row", "was", "now"] : List Str).Nodup := by decide +kernel
 have M1 : MDef P w K mg base true 3 (cB mg) "done_behind" ["self", "moment"] (spBehind mg) := (f_done_behind T).meth T.k_Book T.o_Book_done_behind
 have D1 : Def P w K mg base true 1 "told_values" ["values"] spTV := d_told_values T
 refine sxs_cons ?_
 walk_at "s"
 refine ev_meth (pl := _) hr xok_fn (by rfl) (by rfl) (by rfl) ?_
 walk_at "e"
 refine ⟨A.b, cB mg, A.dx, _, true, 3, _, spBehind mg, rfl, kB.ins, by rfl, M1, by decide, id, ?_⟩
 walk_at "go"
 refine ⟨A, B, mo, rfl, kB, hm, qg, ql, fun z1 z2 p ys hp hys => ?_⟩
 have q := q z1 z2
 have hdd : (B.done.drop (mo - B.known).toNat).length ≤ B.done.length := by rw [List.length_drop]; omega
 generalize B.done.drop (mo - B.known).toNat = ds at hys q hdd
 have hyl := hys.len
 have smp : Same H (upd H p (.lst ys)) := Same.upd hp
 have ep : (upd H p (.lst ys)) p = some (.lst ys) := upd_same
 change SXs _ _ _ _ (upd H p (.lst ys))
 generalize upd H p (.lst ys) = H1 at smp ep ⊢
 refine sxs_one (sx_ret ?_)
 refine ev_compL ["made", "row", "was", "now"] (σ' := [none, none, none, none]) (by rfl) (by rfl) (compSc_of (defScope s_Book_deeds) (by rfl) (by rfl) (by decide +kernel)) (by intro _; rfl) ?_
 walk_at "e"
 refine ⟨p, ys, rfl, SqL.of ep, by omega, fun τ => ∃ o1 o2 o3 o4, τ = [o1, o2, o3, o4], fun E2 i u H' => ∃ d t w v, ds[i]? = some d /\ u = .ref t /\ t ≠ E2 /\ H' t = some (.tup [.int d.at_, .int d.row, w, v]) /\ LOpt H H' w d.was /\ LOpt H H' v d.is /\ H t = none /\ (∀ l, w = .ref l -> l ≠ E2) /\ ∀ l, v = .ref l -> l ≠ E2, ⟨none, none, none, none, rfl⟩, fun E2 i u H2 H3 ys y1 y2 y3 => ?_, fun fp E2 C s3 H0 i τ x H4 H3 hE2 hi hτ sm4 hys' hG => ?_, fun L2 H2 zs hL2 hl2 hx2 e2 sm2 => ?_⟩
 ·obtain ⟨d, t, w, v, z1, z2, z3, z4, z5, z6, z7, z8, z9⟩ := y3
  exact ⟨d, t, w, v, z1, z2, z3, y2 _ _ z3 z4, z5.stay fun l ys e h => y2 _ _ (z8 l e) h, z6.stay fun l ys e h => y2 _ _ (z9 l e) h, z7, z8, z9⟩
 ·obtain ⟨o1, o2, o3, o4, rfl⟩ := hτ
  obtain ⟨hx, rfl⟩ := hG
  obtain ⟨d, hd, t0, w0, u0, rfl, ht0, hw0, hu0⟩ := hys.get hx
  have sm04 := smp.trans sm4
  have st4 : ∀ b ys, H b = some (.tup ys) -> H4 b = some (.tup ys) := fun b ys e => sm04 _ _ e
  obtain ⟨ys0, hE⟩ := hys'
  refine eg_tup (by rfl) (by rfl) (by rfl) (SqT.of (st4 _ _ ht0)) (by rfl) (egs_cons (by rfl) (eg_name ndc (by rfl) (.inl rfl) (.inr rfl) (egs_cons (by rfl) (eg_name ndc (by rfl) (.inl rfl) (.inr rfl) (egs_cons (by rfl) (eg_name ndc (by rfl) (.inl rfl) (.inr rfl) (egs_cons (by rfl) (eg_name ndc (by rfl) (.inl rfl) (.inr rfl) (egs_nil ?_)))))))))
  walk_at "go"
  refine ⟨w0, d.was, rfl, hw0.stay st4, fun w1 H5 sm5 hw1 => ?_⟩
  walk_at "go"
  refine ⟨u0, d.is, rfl, hu0.stay fun b ys e => sm5 _ _ (st4 _ _ e), fun u1 H6 sm6 hu1 => ?_⟩
  walk_at "go"
  refine ⟨by show 4 ≤ sizeLine; omega, fun t ht => ?_⟩
  have smt : Same H6 (upd H6 t (.tup [.int d.at_, .int d.row, w1, u1])) := Same.upd ht
  have sm46 := sm5.trans sm6
  have fw : LOpt H H6 w1 d.was := by
   cases e : d.was with
   | none => rw [e] at hw1; exact hw1
   | some xs =>
     rw [e] at hw1
     obtain ⟨l, e1, e2, e3⟩ := hw1
     exact ⟨l, e1, sm6 _ _ e2, sm04.free e3⟩
  have fu : LOpt H H6 u1 d.is := by
   cases e : d.is with
   | none => rw [e] at hu1; exact hu1
   | some xs =>
     rw [e] at hu1
     obtain ⟨l, e1, e2, e3⟩ := hu1
     exact ⟨l, e1, e2, (sm04.trans sm5).free e3⟩
  refine ⟨⟨_, _, _, _, rfl⟩, ⟨d, t, w1, u1, hd, rfl, fun e => ?_, upd_same, fw.stay fun l ys _ h => smt _ _ h, fu.stay fun l ys _ h => smt _ _ h, (sm04.trans sm46).free ht, fun l e => ?_, fun l e => ?_⟩, sm46.trans smt⟩
  ·rw [e, sm46 _ _ hE] at ht; cases ht
  ·cases e3 : d.was with
   | none => rw [e3] at hw1; have hw1' : w1 = .non := hw1; rw [hw1'] at e; cases e
   | some xs =>
     rw [e3] at hw1
     obtain ⟨l', e1, e2, e4⟩ := hw1
     rw [e1] at e
     cases e
     intro z
     rw [z, hE] at e4
     cases e4
  ·cases e3 : d.is with
   | none => rw [e3] at hu1; have hu1' : u1 = .non := hu1; rw [hu1'] at e; cases e
   | some xs =>
     rw [e3] at hu1
     obtain ⟨l', e1, e2, e4⟩ := hu1
     rw [e1] at e
     cases e
     intro z
     rw [z, sm5 _ _ hE] at e4
     cases e4
 ·refine q L2 zs H2 (smp.trans sm2) (smp.free hL2) e2 (all2_of_get (R := fun v d => DeedTold H H2 v d) (l := zs) (m := ds) (by rw [hl2, hyl]) fun i d hd => ?_)
  have hi : i < zs.length := by rw [hl2, hyl]; exact (List.getElem?_eq_some_iff.mp hd).1
  have hy : zs[i]? = some zs[i] := List.getElem?_eq_getElem hi
  obtain ⟨d', t, w, v, z1, z2, z3, z4, z5, z6, z7, _⟩ := hx2 i _ hy
  rw [hd] at z1
  cases z1
  exact ⟨_, hy, t, w, v, z2, z4, z5, z6, z7⟩
end
end K33
namespace K33
open PySem L2 PyProof.Rows My Vl Lw
section
variable {P : Program} {w : World} {K : PySem.W.Frag} {mg : Str -> Option Value} {base : Heap}
theorem aGet_back1 (r : List (Int × List V)) (row : Int) (o : Option (List V)) (i : Int) : aGet (back1 r row o) i = if i = row then o else aGet r i := by
 cases o with
 | none => exact aGet_drop
 | some xs => exact aGet_put
theorem back1_nd {r : List (Int × List V)} (h : (r.map (·.1)).Nodup) (row : Int) (o : Option (List V)) : ((back1 r row o).map (·.1)).Nodup := by
 cases o with
 | none => exact nodup_drop h
 | some xs => exact nodup_put h
theorem back1_mem {r : List (Int × List V)} {row : Int} {o : Option (List V)} {k : Int} (h : k ∈ (back1 r row o).map (·.1)) : k = row \/ k ∈ r.map (·.1) := by
 cases o with
 | none => exact .inr (mem_drop' h)
 | some xs => exact mem_put.mp h
def rowsTo (ds : List Deed) : List (Int × List V) := ds.foldl (fun r d => back1 r d.row d.is) []
theorem rowsTo_snoc (ds : List Deed) (d : Deed) : rowsTo (ds ++ [d]) = back1 (rowsTo ds) d.row d.is := by
 unfold rowsTo
 rw [List.foldl_append]
 rfl
theorem take_snoc {α : Type} {l : List α} {j : Nat} {d : α} (h : l[j]? = some d) : l.take (j + 1) = l.take j ++ [d] := by
 rw [List.take_succ, h]
 rfl
theorem rowsTo_nd : ∀ ds : List Deed, ((rowsTo ds).map (·.1)).Nodup := by
 intro ds
 unfold rowsTo
 have : ∀ (ds : List Deed) (r : List (Int × List V)), (r.map (·.1)).Nodup -> ((ds.foldl (fun r d => back1 r d.row d.is) r).map (·.1)).Nodup := by
  intro ds
  induction ds with
  | nil => exact fun r h => h
  | cons d ds ih => exact fun r h => ih _ (back1_nd h _ _)
 exact this ds [] (by simp)
theorem rowsTo_in {ns : List Int} : ∀ {ds : List Deed}, (∀ d ∈ ds, d.row ∈ ns) -> ∀ k ∈ (rowsTo ds).map (·.1), k ∈ ns := by
 intro ds hd
 unfold rowsTo
 have : ∀ (ds : List Deed) (r : List (Int × List V)), (∀ d ∈ ds, d.row ∈ ns) -> (∀ k ∈ r.map (·.1), k ∈ ns) -> ∀ k ∈ (ds.foldl (fun r d => back1 r d.row d.is) r).map (·.1), k ∈ ns := by
  intro ds
  induction ds with
  | nil => exact fun r _ h => h
  | cons d ds ih => exact fun r hd h => ih _ (fun x hx => hd x (List.mem_cons_of_mem _ hx)) fun k hk => (back1_mem hk).elim (fun e => by rw [e]; exact hd d (List.mem_cons_self ..)) (h k)
 exact this ds [] hd (by simp)
theorem backAll_nd {r : List (Int × List V)} (h : (r.map (·.1)).Nodup) : ∀ ds : List Deed, ((backAll r ds).map (·.1)).Nodup
 | [] => h
 | d :: ds => back1_nd (backAll_nd h ds) _ _
theorem backAll_in {ns : List Int} {r : List (Int × List V)} (h : ∀ k ∈ r.map (·.1), k ∈ ns) : ∀ {ds : List Deed}, (∀ d ∈ ds, d.row ∈ ns) -> ∀ k ∈ (backAll r ds).map (·.1), k ∈ ns
 | [], _ => h
 | d :: ds, hd => fun k hk => (back1_mem hk).elim (fun e => by rw [e]; exact hd d (List.mem_cons_self ..)) (backAll_in h (fun x hx => hd x (List.mem_cons_of_mem _ hx)) k)
def goodD (all : List Deed) : Prop := ∀ (j : Nat) d, all[j]? = some d -> d.at_ = j + 1 /\ d.was = aGet (rowsTo (all.take j)) d.row /\ (d.was = none -> d.is ≠ none)
theorem back_eq {all : List Deed} (h : goodD all) : ∀ (n j : Nat), j + n = all.length -> (∀ i, aGet (backAll (rowsTo all) (all.drop j)) i = aGet (rowsTo (all.take j)) i) /\ undoOk (rowsTo all) (all.drop j)
 | 0, j, e => by
   have e' : j = all.length := by omega
   subst e'
   rw [List.drop_length, List.take_length]
   exact ⟨fun _ => rfl, trivial⟩
 | n + 1, j, e => by
   obtain ⟨ih1, ih2⟩ := back_eq h n (j + 1) (by omega)
   have hj : j < all.length := by omega
   have hd : all[j]? = some all[j] := List.getElem?_eq_getElem hj
   obtain ⟨_, h2, h3⟩ := h j _ hd
   have e1 : all.drop j = all[j] :: all.drop (j + 1) := List.drop_eq_getElem_cons hj
   rw [take_snoc hd, rowsTo_snoc] at ih1
   rw [e1]
   generalize all[j] = d at h2 h3 ih1
   refine ⟨fun i => ?_, ih2, fun e2 => ?_⟩
   ·show aGet (back1 (backAll (rowsTo all) (all.drop (j + 1))) d.row d.was) i = _
    rw [aGet_back1, ih1, aGet_back1]
    by_cases z : i = d.row
    ·rw [if_pos z, h2, z]
    ·rw [if_neg z, if_neg z]
   ·rw [ih1, aGet_back1, if_pos rfl]
    exact h3 e2
theorem sorted_eq2 {l1 l2 : List Int} (h : ∀ x, x ∈ l1 ↔ x ∈ l2) (n1 : l1.Nodup) (n2 : l2.Nodup) (h1 : l1.Pairwise (· ≤ ·)) (h2 : l2.Pairwise (· ≤ ·)) : l1 = l2 := by
 induction l1 generalizing l2 with
 | nil =>
   cases l2 with
   | nil => rfl
   | cons b r2 => exact absurd ((h b).mpr (List.mem_cons_self ..)) (by simp)
 | cons a r ih =>
   cases l2 with
   | nil => exact absurd ((h a).mp (List.mem_cons_self ..)) (by simp)
   | cons b r2 =>
     have p1 := List.pairwise_cons.mp h1
     have p2 := List.pairwise_cons.mp h2
     have q1 := List.nodup_cons.mp n1
     have q2 := List.nodup_cons.mp n2
     have hab : a = b := by
      rcases List.mem_cons.mp ((h a).mp (List.mem_cons_self ..)) with e | e
      ·exact e
      ·rcases List.mem_cons.mp ((h b).mpr (List.mem_cons_self ..)) with e2 | e2
       ·exact e2.symm
       ·have := p2.1 a e
        have := p1.1 b e2
        omega
     subst hab
     rw [ih (fun x => ⟨fun hx => ?_, fun hx => ?_⟩) q1.2 q2.2 p1.2 p2.2]
     ·rcases List.mem_cons.mp ((h x).mp (List.mem_cons_of_mem _ hx)) with e | e
      ·exact absurd (e ▸ hx) q1.1
      ·exact e
     ·rcases List.mem_cons.mp ((h x).mpr (List.mem_cons_of_mem _ hx)) with e | e
      ·exact absurd (e ▸ hx) q2.1
      ·exact e
def KeysOf (ks : List Int) (rows : List (Int × List V)) : Prop := ks.Nodup /\ ks.Pairwise (· ≤ ·) /\ ∀ x, x ∈ ks ↔ aGet rows x ≠ none
theorem keysOf_perm {rows : List (Int × List V)} {ks : List Int} (n : (rows.map (·.1)).Nodup) (p : ks.Perm (rows.map (·.1))) (s : ks.Pairwise (· ≤ ·)) : KeysOf ks rows := by
 refine ⟨p.nodup_iff.mpr n, s, fun x => ?_⟩
 rw [p.mem_iff, Ne, aGet_none_iff]
 exact ⟨fun h z => z h, fun h => Classical.byContradiction h⟩
theorem KeysOf.eq {r1 r2 : List (Int × List V)} {ks : List Int} (h : KeysOf ks r1) (e : ∀ i, aGet r1 i = aGet r2 i) : KeysOf ks r2 := ⟨h.1, h.2.1, fun x => by rw [<- e]; exact h.2.2 x⟩
theorem toldBy_eq {r1 r2 : List (Int × List V)} (e : ∀ i, aGet r1 i = aGet r2 i) (ks : List Int) : toldBy r1 ks = toldBy r2 ks := by
 unfold toldBy
 exact List.map_congr_left fun k _ => by rw [e k]
theorem told_eq2 {r1 r2 : List (Int × List V)} {k1 k2 : List Int} (h1 : KeysOf k1 r1) (h2 : KeysOf k2 r2) (h : ∀ i, aGet r1 i = aGet r2 i) : toldBy r1 k1 = toldBy r2 k2 := by
 have e : k1 = k2 := sorted_eq2 (fun x => by rw [h1.2.2, h2.2.2, h]) h1.1 h2.1 h1.2.1 h2.2.1
 subst e
 exact toldBy_eq h k1
structure Hist (all : List Deed) (B : Bk) : Prop where
 rows : B.rows = rowsTo all
 done : B.done = all.drop B.known.toNat
 now : B.now = all.length
 kn : 0 ≤ B.known /\ B.known ≤ B.now
 good : goodD all
 wf : wfB B
theorem Hist.doIt {all : List Deed} {B : Bk} (h : Hist all B) (row : Int) (o : Option (List V)) (ho : aGet B.rows row = none -> o ≠ none) : Hist (all ++ [⟨B.now + 1, row, aGet B.rows row, o⟩]) (bkDo B row o) := by
 have hk := h.kn
 have hn := h.now
 refine ⟨?_, ?_, ?_, ⟨hk.1, ?_⟩, ?_, ?_⟩
 ·rw [rowsTo_snoc]
  cases o with
  | none =>
    show aDrop B.rows row = back1 (rowsTo all) row none
    rw [h.rows]
    rfl
  | some xs =>
    show aPut B.rows row xs = back1 (rowsTo all) row (some xs)
    rw [h.rows]
    rfl
 ·show B.done ++ [(⟨B.now + 1, row, aGet B.rows row, o⟩ : Deed)] = List.drop B.known.toNat (all ++ [⟨B.now + 1, row, aGet B.rows row, o⟩])
  rw [List.drop_append_of_le_length (by omega), <- h.done]
 ·show B.now + 1 = _
  rw [List.length_append, List.length_singleton]
  omega
 ·show B.known ≤ B.now + 1
  omega
 ·intro j d hd
  by_cases hj : j < all.length
  ·rw [List.getElem?_append_left hj] at hd
   have := h.good j d hd
   rw [List.take_append_of_le_length (by omega)]
   exact this
  ·have hj2 : j < (all ++ [(⟨B.now + 1, row, aGet B.rows row, o⟩ : Deed)]).length := (List.getElem?_eq_some_iff.mp hd).1
   rw [List.length_append, List.length_singleton] at hj2
   have e : j = all.length := by omega
   subst e
   rw [List.getElem?_append_right (Nat.le_refl _), Nat.sub_self] at hd
   have hd' : d = ⟨B.now + 1, row, aGet B.rows row, o⟩ := by simpa using hd.symm
   subst hd'
   refine ⟨by show B.now + 1 = _; omega, ?_, ho⟩
   show aGet B.rows row = _
   rw [List.take_append_of_le_length (Nat.le_refl _), List.take_length, h.rows]
 ·intro i
  cases o with
  | none =>
    show aGet (aDrop B.rows row) i = none ↔ aGet (aDrop B.touched row) i = none
    rw [aGet_drop, aGet_drop]
    by_cases e : i = row
    ·simp [e]
    ·rw [if_neg e, if_neg e]; exact h.wf i
  | some xs =>
    show aGet (aPut B.rows row xs) i = none ↔ aGet (aPut B.touched row (B.now + 1)) i = none
    rw [aGet_put, aGet_put]
    by_cases e : i = row
    ·rw [if_pos e, if_pos e]; simp
    ·rw [if_neg e, if_neg e]; exact h.wf i
theorem Hist.mom {all : List Deed} {B : Bk} (h : Hist all B) (hl : all.length ≤ 1000000) : momB B := ⟨h.kn.1, h.kn.2, by have := h.now; omega⟩
end
end K33
namespace K33
open PySem L2 PyProof.Rows My Vl Lw
section
variable {P : Program} {w : World} {K : PySem.W.Frag} {mg : Str -> Option Value} {base : Heap}
def lastAt (ds : List Deed) (i : Int) : Option Int := ds.foldl (fun acc d => if d.row = i then some d.at_ else acc) none
def HistT (all : List Deed) (B : Bk) : Prop := ∀ i, aGet B.rows i ≠ none -> aGet B.touched i = lastAt all i
end
end K33
namespace K33
open PySem L2 PyProof.Rows My Vl Lw
section
variable {P : Program} {w : World} {K : PySem.W.Frag} {mg : Str -> Option Value} {base : Heap}
theorem nodup_le {α : Type} [BEq α] [LawfulBEq α] : ∀ {l m : List α}, l.Nodup -> (∀ x ∈ l, x ∈ m) -> l.length ≤ m.length
 | [], m, _, _ => Nat.zero_le _
 | a :: r, m, h, s => by
   have h' := List.nodup_cons.mp h
   have ha := s a (List.mem_cons_self ..)
   have hle := nodup_le (l := r) (m := m.erase a) h'.2 fun x hx => (List.mem_erase_of_ne (fun e => h'.1 (by subst e; exact hx))).mpr (s x (List.mem_cons_of_mem _ hx))
   rw [List.length_erase_of_mem ha] at hle
   have := List.length_pos_of_mem ha
   rw [List.length_cons]
   omega
end
end K33
namespace K33
open PySem L2 PyProof.Rows My Vl Lw
section
variable {P : Program} {w : World} {K : PySem.W.Frag} {mg : Str -> Option Value} {base : Heap}
theorem _root_.Vl.Out.seq {S : List Addr} {H H' : Hp} {a : Addr} {xs : List V} (o : Out S H H') (ha : a ∉ S) (h : SqL K H a xs) : SqL K H' a xs := by
 rcases h with (h | ⟨u, h⟩) | h
 ·exact .inl (.inl (o _ _ ha h))
 ·exact .inl (.inr ⟨u, o _ _ ha h⟩)
 ·exact .inr h
theorem sq_live {H : Hp} {a : Addr} {xs : List V} (h : SqL K H a xs) : H a ≠ none \/ ∀ H', SqL K H' a xs := by
 rcases h with (h | ⟨u, h⟩) | h
 ·exact .inl (by rw [h]; nofun)
 ·exact .inl (by rw [h]; nofun)
 ·exact .inr fun _ => .inr h
structure Live (K : PySem.W.Frag) (sc : Addr) (xs : List V) (L : List Addr) (H : Hp) : Prop where
 nd : L.Nodup
 on : ∀ x ∈ L, H x ≠ none
 sc : (∀ H', SqL K H' sc xs) \/ (SqL K H sc xs /\ sc ∉ L)
theorem Live.seq {sc : Addr} {xs : List V} {L : List Addr} {H : Hp} (h : Live K sc xs L H) : SqL K H sc xs := h.sc.elim (fun g => g H) fun g => g.1
theorem Live.add {sc : Addr} {xs : List V} {L S : List Addr} {H H' : Hp} (h : Live K sc xs L H) (ps : List Addr) (hn : ps.Nodup) (hp : ∀ p ∈ ps, H p = none) (o : Out S H H') (hS : ∀ x ∈ S, x ∈ L) (hl : ∀ x ∈ ps, H' x ≠ none) (hl2 : ∀ x ∈ S, H' x ≠ none) : Live K sc xs (ps ++ L) H' := by
 refine ⟨List.nodup_append.mpr ⟨hn, h.nd, fun a ha b hb e => h.on b hb (by rw [<- e]; exact hp a ha)⟩, fun x hx => ?_, ?_⟩
 ·rcases List.mem_append.mp hx with hx | hx
  ·exact hl x hx
  ·by_cases hs : x ∈ S
   ·exact hl2 x hs
   ·cases e : H x with
    | none => exact absurd e (h.on x hx)
    | some u => rw [o x u hs e]; nofun
 ·rcases h.sc with g | ⟨g, gn⟩
  ·exact .inl g
  ·rcases sq_live g with z | z
   ·refine .inr ⟨o.seq (fun y => gn (hS _ y)) g, fun y => ?_⟩
    rcases List.mem_append.mp y with y | y
    ·exact z (hp _ y)
    ·exact gn y
   ·exact .inl z
theorem Live.add1 {sc : Addr} {xs : List V} {L : List Addr} {H H' : Hp} {p : Addr} (h : Live K sc xs L H) (hp : H p = none) (sm : Same H H') (hl : H' p ≠ none) : Live K sc xs (p :: L) H' :=
 h.add [p] (by simp) (by simpa using hp) (Out.of (S := []) sm) (by simp) (by simpa using hl) (by simp)
theorem nd_apart {L : List Addr} (h : L.Nodup) (is js : List Nat) (hd : ∀ i ∈ is, i ∉ js) : ∀ x ∈ is.filterMap (fun i => L[i]?), x ∉ js.filterMap (fun i => L[i]?) := by
 intro x hx hy
 obtain ⟨i, hi, ei⟩ := List.mem_filterMap.mp hx
 obtain ⟨j, hj, ej⟩ := List.mem_filterMap.mp hy
 have hil := (List.getElem?_eq_some_iff.mp ei).1
 have hjl := (List.getElem?_eq_some_iff.mp ej).1
 have e1 := (List.getElem?_eq_some_iff.mp ei).2
 have e2 := (List.getElem?_eq_some_iff.mp ej).2
 have hij : i = j := by
  have hp := List.pairwise_iff_getElem.mp h
  rcases Nat.lt_trichotomy i j with z | z | z
  ·exact absurd (e1.trans e2.symm) (hp i j hil hjl z)
  ·exact z
  ·exact absurd (e2.trans e1.symm) (hp j i hjl hil z)
 subst hij
 exact hd i hi hj
def NT (H : Hp) (S : List Addr) : Prop := ∀ x ∈ S, ∀ ys, H x ≠ some (.tup ys)
theorem NT.tup {H H' : Hp} {S : List Addr} (h : NT H S) (o : Out S H H') : ∀ b ys, H b = some (.tup ys) -> H' b = some (.tup ys) := fun b ys e => o b _ (fun z => h b z ys e) e
def _root_.Vl.BA.six (A : BA) : List Addr := [A.h, A.r, A.t, A.d, A.b, A.dx]
theorem _root_.Vl.BookAt.nd6 {C : Addr} {H : Hp} {A : BA} {B : Bk} (k : BookAt C H A B) : A.six.Nodup := by
 obtain ⟨n1, n2, n3, n4, n5, n6, n7, n8, n9, n10, n11, n12⟩ := k.ne
 have n13 := k.rt
 have n14 := k.hd
 have n15 : A.h ≠ A.dx := fun e => by
  obtain ⟨_, h3, _⟩ := k.heads
  have h2 := k.own
  rw [e, h2] at h3; cases h3
 simp only [BA.six, List.nodup_cons, List.mem_cons, List.not_mem_nil, or_false, not_or, not_false_eq_true, List.nodup_nil, and_true]
 exact ⟨⟨Ne.symm n7, Ne.symm n10, n14, Ne.symm n2, n15⟩, ⟨n13, n8, Ne.symm n3, n6⟩, ⟨n11, Ne.symm n4, n9⟩, ⟨Ne.symm n5, n12⟩, n1⟩
theorem _root_.Vl.BookAt.on6 {C : Addr} {H : Hp} {A : BA} {B : Bk} (k : BookAt C H A B) : ∀ x ∈ A.six, H x ≠ none := by
 intro x hx
 have hx' : x = A.h \/ x = A.r \/ x = A.t \/ x = A.d \/ x = A.b \/ x = A.dx := by simpa [BA.six] using hx
 obtain ⟨_, h3, _⟩ := k.heads
 obtain ⟨_, h4, _⟩ := k.rows
 obtain ⟨_, h5, _⟩ := k.touched
 obtain ⟨_, h6, _⟩ := k.done
 rcases hx' with rfl | rfl | rfl | rfl | rfl | rfl
 ·rw [h3]; nofun
 ·rw [h4]; nofun
 ·rw [h5]; nofun
 ·rw [h6]; nofun
 ·rw [k.ins]; nofun
 ·rw [k.own]; nofun
theorem six_mem {A : BA} {x : Addr} (hx : x ∈ [A.b, A.dx, A.h, A.r, A.t, A.d]) : x ∈ A.six := by
 have hx' : x = A.b \/ x = A.dx \/ x = A.h \/ x = A.r \/ x = A.t \/ x = A.d := by simpa using hx
 rcases hx' with rfl | rfl | rfl | rfl | rfl | rfl <;> simp [BA.six]
theorem _root_.Vl.BookAt.out {C : Addr} {H H' : Hp} {A : BA} {B : Bk} {S : List Addr} (k : BookAt C H A B) (o : Out S H H') (nt : NT H S) (h6 : ∀ x ∈ A.six, x ∉ S) : BookAt C H' A B :=
 k.stay (nt.tup o) fun x u hx e => o x u (h6 x (six_mem hx)) e
theorem _root_.Vl.Cols.out {H H' : Hp} {a : Addr} {cs : List Col} {S : List Addr} (h : Cols H a cs) (o : Out S H H') (nt : NT H S) (ha : a ∉ S) : Cols H' a cs := h.stay (fun xs e => o _ _ ha e) (nt.tup o)
theorem nd_pick {L : List Addr} (h : L.Nodup) : ∀ (is : List Nat), is.Nodup -> (is.filterMap (fun i => L[i]?)).Nodup
 | [], _ => by simp
 | i :: is, hd => by
   have h1 := List.nodup_cons.mp hd
   have ih := nd_pick h is h1.2
   rw [List.filterMap_cons]
   cases e : L[i]? with
   | none => exact ih
   | some x =>
     refine List.nodup_cons.mpr ⟨?_, ih⟩
     exact nd_apart h [i] is (fun j hj => by rw [List.mem_singleton.mp hj]; exact h1.1) x (by simp [e])
theorem mem_pick {L : List Addr} (js : List Nat) : ∀ x ∈ js.filterMap (fun i => L[i]?), x ∈ L := by
 intro x hx
 obtain ⟨i, _, e⟩ := List.mem_filterMap.mp hx
 exact List.mem_of_getElem? e
theorem made {C : Addr} {H H' : Hp} {y dx : Addr} {A : BA} (hy : H y = none) (hdx : H dx = none) (eb : A.b = y) (edx : A.dx = dx)
  (f1 : (upd (upd H dx (.own y)) y (.ins C dx [])) A.h = none) (f2 : (upd (upd H dx (.own y)) y (.ins C dx [])) A.r = none) (f3 : (upd (upd H dx (.own y)) y (.ins C dx [])) A.t = none) (f4 : (upd (upd H dx (.own y)) y (.ins C dx [])) A.d = none)
  (o : Out [y] (upd (upd H dx (.own y)) y (.ins C dx [])) H') : Same H H' /\ ∀ x ∈ A.six, H x = none := by
 have sm : Same H (upd (upd H dx (.own y)) y (.ins C dx [])) := fun b u e => by
  rw [upd_ne (fun z => by rw [z, hy] at e; cases e), upd_ne (fun z => by rw [z, hdx] at e; cases e)]
  exact e
 refine ⟨fun b u e => o b u (fun z => by rw [List.mem_singleton.mp z, hy] at e; cases e) (sm b u e), fun x hx => ?_⟩
 have hx' : x = A.h \/ x = A.r \/ x = A.t \/ x = A.d \/ x = A.b \/ x = A.dx := by simpa [BA.six] using hx
 rcases hx' with rfl | rfl | rfl | rfl | rfl | rfl
 ·exact sm.free f1
 ·exact sm.free f2
 ·exact sm.free f3
 ·exact sm.free f4
 ·rw [eb]; exact hy
 ·rw [edx]; exact hdx
end
end K33
namespace K33
open PySem L2 PyProof.Rows My Vl Lw
section
variable {P : Program} {w : World} {K : PySem.W.Frag} {mg : Str -> Option Value} {base : Heap}
def LR (F : List Addr) (H : Hp) (v : V) (xs : List V) : Prop := ∃ l, v = .ref l /\ H l = some (.lst xs) /\ l ∉ F
def KeptV (F : List Addr) (H : Hp) (a : Addr) (m : List (Int × List V)) : Prop := DictAt (LR F H) H a m
def LOF (F : List Addr) (H : Hp) (v : V) : Option (List V) -> Prop
 | none => v = .non
 | some xs => LR F H v xs
def keptD (m : List (Int × List V)) (row : Int) : Option (List V) -> List (Int × List V)
 | none => aDrop m row
 | some xs => aPut (aDrop m row) row xs
theorem LR.stay {F : List Addr} {H H' : Hp} {v : V} {xs : List V} (h : LR F H v xs) (s : ∀ b ys, b ∉ F -> H b = some (.lst ys) -> H' b = some (.lst ys)) : LR F H' v xs := by
 obtain ⟨l, e, h1, h2⟩ := h
 exact ⟨l, e, s _ _ h2 h1, h2⟩
def okR (cs : List Col) (xs : List V) : Prop := All2 (fun c x => valK c.2 x) cs xs
end
end K33
namespace K33
open PySem L2 PyProof.Rows My Vl Lw
section
variable {P : Program} {w : World} {K : PySem.W.Frag} {mg : Str -> Option Value} {base : Heap}
end
end K33
namespace K33
open PySem L2 PyProof.Rows My Vl Lw
section
variable {P : Program} {w : World} {K : PySem.W.Frag} {mg : Str -> Option Value} {base : Heap}
def spMom33 (K : PySem.W.Frag) : Sp := fun vs H Q _ => ∃ (sc : Addr) (ns : List Int) (k o n : Int), vs = [.ref sc, .int k, .int o, .int n] /\ SqL K H sc (ns.map V.int) /\ ns.length ≤ 63 /\ 0 ≤ k /\ k ≤ 10000 /\ 0 ≤ o /\ o ≤ n /\ n ≤ 1000 /\ ∀ (mo : Int) H', Same H H' -> -1000000000000000010 ≤ mo -> mo ≤ 1000000000000002000 -> Q (.int mo) H'
theorem d__law_moment (T : Txt K mg) : Def P w K mg base true 2 "_law_moment" ["_law_script", "_law_k", "_law_oldest", "_law_now"] (spMom33 K) := by
 refine df__law_moment T (fun vs H Q E h => by obtain ⟨sc, ns, k, o, n, rfl, _⟩ := h; rfl) (fun f cdv A outer s H vs Q E hr h => ?_)
 obtain ⟨sc, ns, k, o, n, rfl, hS, hl, hk0, hk1, o0, o1, n1', q⟩ := h
 have nd := sc__law_moment.nd
 have n1 := T.n_len
 have hsz : sizeLine = 16777216 := sizeLine_eq
 have hlm : (ns.map V.int).length = ns.length := List.length_map ..
 have D1 : Def P w K mg base true 1 "_law_draw" ["_law_script", "_law_k", "_law_many"] (spDraw K) := d__law_draw T
 have rest : ∀ (cell : Int), SXs (CxF true P w K mg base N__law_moment "_law_moment" (defScope s__law_moment) f cdv A outer s H E) ((defBody s__law_moment).drop 1) { nx := fun _ H' => Q .non H', rt := Q } [some (.ref sc), some (.int k), some (.int o), some (.int n), some (.int cell), none, none, none] H := by
  intro cell
  have c0 := Int.emod_nonneg cell (b := 1000000000000000000) (by decide)
  have c1 := Int.emod_lt_of_pos cell (b := 1000000000000000000) (by decide)
  refine sxs_cons ?_
  walk_at "go"
  generalize cell % 1000000000000000000 = far at c0 c1 ⊢
  refine ⟨sc, ns, k + 1, n - o + 1, rfl, hS, hl, by omega, by omega, by omega, ?_⟩
  have d0 := drawF_nn ns (k + 1) (m := n - o + 1) (by omega)
  have d1 := drawF_lt ns (k + 1) (m := n - o + 1) (by omega)
  generalize drawF ns (k + 1) (n - o + 1) = dv at d0 d1 ⊢
  walk_at "go"
  refine ⟨by show 7 ≤ sizeLine; omega, fun p hp => ?_⟩
  walk_at "go"
  refine ⟨sc, ns, k + 2, 7, rfl, (Same.upd hp).seq hS, hl, by omega, by omega, by decide, ?_⟩
  have w0 := drawF_nn ns (k + 2) (m := 7) (by decide)
  have w1 := drawF_lt ns (k + 2) (m := 7) (by decide)
  generalize drawF ns (k + 2) 7 = way at w0 w1 ⊢
  obtain ⟨v, e1, e2⟩ := atI_mem (xs := [V.int o, V.int (o - 1), V.int (-1 - far), V.int (o + dv), V.int n, V.int (n + 1), V.int (n + 1 + far)]) (i := way) (by omega) (by show _ < (7 : Int); omega)
  refine i_list (SqL.of upd_same) e1 ?_
  simp only [List.mem_cons, List.not_mem_nil, or_false] at e2
  rcases e2 with rfl | rfl | rfl | rfl | rfl | rfl | rfl <;> exact q _ _ (Same.upd hp) (by omega) (by omega)
 refine sxs_cons ?_
 walk_at "go"
 rw [hlm]
 refine ifD (fun h3 => ?_) (fun h3 => ?_)
 ·walk_at "go"
  rw [hlm]
  walk_at "go"
  refine i_list hS (atI_map 0 (Int.emod_nonneg _ (by omega)) (Int.emod_lt_of_pos _ (by omega))) ?_
  exact rest _
 ·walk_at "ex"
  exact rest _
end
end K33
namespace K33
open PySem L2 PyProof.Rows My Vl Lw
section
variable {P : Program} {w : World} {K : PySem.W.Frag} {mg : Str -> Option Value} {base : Heap}
theorem kit_no {Lx x : Str} (h : XC K mg Lx x) : ∀ (ys : List Str), (∀ y ∈ ys, XC K mg Lx y /\ clsA mg x ≠ clsA mg y /\ clsA mg Lx ≠ clsA mg y) -> PySem.W.kitAny K (.ref (clsA mg x)) ((ys.map (clsA mg)).map Value.ref) = some false
 | [], _ => rfl
 | y :: ys, hy => by
   obtain ⟨h1, h2, h3⟩ := hy y (List.mem_cons_self ..)
   show PySem.W.kitAny K _ (Value.ref (clsA mg y) :: (ys.map (clsA mg)).map Value.ref) = _
   unfold PySem.W.kitAny
   rw [kit_other h h1 h2 h3]
   exact kit_no h ys fun z hz => hy z (List.mem_cons_of_mem _ hz)
theorem top_ne (T : Txt K mg) : ∀ x ∈ [clsA mg "LeafError"], x ∉ [clsA mg "NoColumns", clsA mg "NoValue", clsA mg "NoOrder", clsA mg "NoRow", clsA mg "NoMark", clsA mg "NoSize", clsA mg "NoLine", clsA mg "NoBook", clsA mg "NoSieve", clsA mg "NoPage", clsA mg "Twice", clsA mg "Absent", clsA mg "Gone", clsA mg "Later"] := nd_apart T.nd_cls [0] [1, 2, 3, 4, 5, 6, 7, 8, 9, 10, 11, 12, 13, 14] (by decide)
theorem gl_ne (T : Txt K mg) : ∀ x ∈ [clsA mg "Gone", clsA mg "Later"], x ∉ [clsA mg "NoColumns", clsA mg "NoValue", clsA mg "NoOrder", clsA mg "NoRow", clsA mg "NoMark", clsA mg "NoSize", clsA mg "NoLine", clsA mg "NoBook", clsA mg "NoSieve", clsA mg "NoPage", clsA mg "Twice", clsA mg "Absent"] := nd_apart T.nd_cls [13, 14] [1, 2, 3, 4, 5, 6, 7, 8, 9, 10, 11, 12] (by decide)
theorem g_ne_l (T : Txt K mg) : ∀ x ∈ [clsA mg "Gone"], x ∉ [clsA mg "Later"] := nd_apart T.nd_cls [13] [14] (by decide)
theorem no_ten (T : Txt K mg) {x : Str} (h : XC K mg "LeafError" x) (hx : clsA mg x ∈ [clsA mg "Gone", clsA mg "Later"]) : PySem.W.kitAny K (.ref (clsA mg x)) (((["Absent", "NoBook", "NoColumns", "NoLine", "NoMark", "NoOrder", "NoPage", "NoRow", "NoSieve", "NoSize"] : List Str).map (clsA mg)).map Value.ref) = some false := by
 have h1 := gl_ne T _ hx
 have h0 := top_ne T _ (List.mem_singleton.mpr rfl)
 simp only [List.mem_cons, List.not_mem_nil, or_false, not_or] at h1 h0
 obtain ⟨aNoColumns, aNoValue, aNoOrder, aNoRow, aNoMark, aNoSize, aNoLine, aNoBook, aNoSieve, aNoPage, aTwice, aAbsent⟩ := h1
 obtain ⟨bNoColumns, bNoValue, bNoOrder, bNoRow, bNoMark, bNoSize, bNoLine, bNoBook, bNoSieve, bNoPage, bTwice, bAbsent, bGone, bLater⟩ := h0
 refine kit_no h _ fun y hy => ?_
 simp only [List.mem_cons, List.not_mem_nil, or_false] at hy
 rcases hy with rfl | rfl | rfl | rfl | rfl | rfl | rfl | rfl | rfl | rfl
 ·exact ⟨T.c_Absent, aAbsent, bAbsent⟩
 ·exact ⟨T.c_NoBook, aNoBook, bNoBook⟩
 ·exact ⟨T.c_NoColumns, aNoColumns, bNoColumns⟩
 ·exact ⟨T.c_NoLine, aNoLine, bNoLine⟩
 ·exact ⟨T.c_NoMark, aNoMark, bNoMark⟩
 ·exact ⟨T.c_NoOrder, aNoOrder, bNoOrder⟩
 ·exact ⟨T.c_NoPage, aNoPage, bNoPage⟩
 ·exact ⟨T.c_NoRow, aNoRow, bNoRow⟩
 ·exact ⟨T.c_NoSieve, aNoSieve, bNoSieve⟩
 ·exact ⟨T.c_NoSize, aNoSize, bNoSize⟩
theorem no_two (T : Txt K mg) {x : Str} (h : XC K mg "LeafError" x) (hx : clsA mg x ∈ [clsA mg "Gone", clsA mg "Later"]) : PySem.W.kitAny K (.ref (clsA mg x)) (((["NoValue", "Twice"] : List Str).map (clsA mg)).map Value.ref) = some false := by
 have h1 := gl_ne T _ hx
 have h0 := top_ne T _ (List.mem_singleton.mpr rfl)
 simp only [List.mem_cons, List.not_mem_nil, or_false, not_or] at h1 h0
 obtain ⟨aNoColumns, aNoValue, aNoOrder, aNoRow, aNoMark, aNoSize, aNoLine, aNoBook, aNoSieve, aNoPage, aTwice, aAbsent⟩ := h1
 obtain ⟨bNoColumns, bNoValue, bNoOrder, bNoRow, bNoMark, bNoSize, bNoLine, bNoBook, bNoSieve, bNoPage, bTwice, bAbsent, bGone, bLater⟩ := h0
 refine kit_no h _ fun y hy => ?_
 simp only [List.mem_cons, List.not_mem_nil, or_false] at hy
 rcases hy with rfl | rfl
 ·exact ⟨T.c_NoValue, aNoValue, bNoValue⟩
 ·exact ⟨T.c_Twice, aTwice, bTwice⟩
theorem suite_any {H0 H' Hu H2 : Hp} {e : Addr} {o : HO} (s : Same H0 H') (he : H' e = none) (eu : Hu = upd H' e o) (s2 : Same Hu H2) : Same H0 (dropH H2 e) := by
 intro b u r
 have hbe : b ≠ e := ne_of_none (s _ _ r) he
 rw [dropH_ne hbe]
 refine s2 _ _ ?_
 rw [eu, upd_ne hbe]
 exact s _ _ r
theorem vn {a b : Int} (h : ¬ V.int a = V.int b) : a ≠ b := fun z => h (congrArg V.int z)
def cutD (H : Hp) (v : V) (d : Deed) : Prop := ∃ t, v = .ref t /\ H t = some (.tup [.int d.at_, .int d.row])
def spAsk33 (mg : Str -> Option Value) : Sp := fun vs H Q _ => ∃ (A : BA) (B : Bk) (way mo : Int), vs = [.ref A.b, .int way, .int mo] /\ BookAt (cB mg) H A B /\ momB B /\ B.rows.length < 1000 /\ B.done.length < 10000 /\ 0 ≤ way /\ way ≤ 2 /\
 (B.known ≤ mo -> mo ≤ B.now -> undoOk B.rows (B.done.drop (mo - B.known).toNat) /\ (backAll B.rows (B.done.drop (mo - B.known).toNat)).length < 64) /\
 (B.now < mo -> ∀ t H', Same H H' -> H' t = some (.tup [.str "later", .int B.now]) -> Q (.ref t) H') /\
 (way = 0 -> mo ≤ B.known -> ∀ t H', Same H H' -> H' t = some (.tup [.str "none", .int 0]) -> Q (.ref t) H') /\
 (way = 0 -> B.known < mo -> mo ≤ B.now -> ∀ t d H', H d = none -> Out [A.b] H H' -> BookAt (cB mg) H' { A with d := d } { B with done := B.done.drop (mo - B.known).toNat, known := mo } -> H' t = some (.tup [.str "none", .int 0]) -> Q (.ref t) H') /\
 (way ≠ 0 -> mo < B.known -> ∀ t H', Same H H' -> H' t = some (.tup [.str "gone", .int B.known]) -> Q (.ref t) H') /\
 (way = 1 -> B.known ≤ mo -> mo ≤ B.now -> ∀ t p ys ks H', Same H H' -> ks.Perm ((backAll B.rows (B.done.drop (mo - B.known).toNat)).map (·.1)) -> ks.Pairwise (· ≤ ·) -> H' t = some (.tup [.str "rows", .ref p]) -> H' p = some (.lst ys) -> All2 (RowT H') ys (toldBy (backAll B.rows (B.done.drop (mo - B.known).toNat)) ks) -> Q (.ref t) H') /\
 (way = 2 -> B.known ≤ mo -> mo ≤ B.now -> ∀ t p ys H', Same H H' -> H' t = some (.tup [.str "deeds", .ref p]) -> H' p = some (.lst ys) -> All2 (cutD H') ys (B.done.drop (mo - B.known).toNat) -> Q (.ref t) H')
theorem d__law_asked (T : Txt K mg) : Def P w K mg base true 5 "_law_asked" ["_law_book", "_law_way", "_law_moment_here"] (spAsk33 mg) := by
 refine df__law_asked T (fun vs H Q E h => by obtain ⟨A, B, way, mo, rfl, _⟩ := h; rfl) (fun f cdv A' outer s H vs Q E hr h => ?_)
 obtain ⟨A, B, way, mo, rfl, kB, hmB, hrl, hdl, hw0, hw2, hun, qL, qN, qG, qO, qR, qD⟩ := h
 have nd := sc__law_asked.nd
 have n1 := T.n_isinstance
 have n2 := T.n_ValueError
 have hsz : sizeLine = 16777216 := sizeLine_eq
 have hmB1 := hmB.1
 have hmB2 := hmB.2.1
 have gLeafError : Gc mg "LeafError" (.ref (clsA mg "LeafError")) := ⟨_, T.m_LeafError, rfl⟩
 have gNoColumns : Gc mg "NoColumns" (.ref (clsA mg "NoColumns")) := ⟨_, T.m_NoColumns, rfl⟩
 have gNoValue : Gc mg "NoValue" (.ref (clsA mg "NoValue")) := ⟨_, T.m_NoValue, rfl⟩
 have gNoOrder : Gc mg "NoOrder" (.ref (clsA mg "NoOrder")) := ⟨_, T.m_NoOrder, rfl⟩
 have gNoRow : Gc mg "NoRow" (.ref (clsA mg "NoRow")) := ⟨_, T.m_NoRow, rfl⟩
 have gNoMark : Gc mg "NoMark" (.ref (clsA mg "NoMark")) := ⟨_, T.m_NoMark, rfl⟩
 have gNoSize : Gc mg "NoSize" (.ref (clsA mg "NoSize")) := ⟨_, T.m_NoSize, rfl⟩
 have gNoLine : Gc mg "NoLine" (.ref (clsA mg "NoLine")) := ⟨_, T.m_NoLine, rfl⟩
 have gNoBook : Gc mg "NoBook" (.ref (clsA mg "NoBook")) := ⟨_, T.m_NoBook, rfl⟩
 have gNoSieve : Gc mg "NoSieve" (.ref (clsA mg "NoSieve")) := ⟨_, T.m_NoSieve, rfl⟩
 have gNoPage : Gc mg "NoPage" (.ref (clsA mg "NoPage")) := ⟨_, T.m_NoPage, rfl⟩
 have gTwice : Gc mg "Twice" (.ref (clsA mg "Twice")) := ⟨_, T.m_Twice, rfl⟩
 have gAbsent : Gc mg "Absent" (.ref (clsA mg "Absent")) := ⟨_, T.m_Absent, rfl⟩
 have gGone : Gc mg "Gone" (.ref (clsA mg "Gone")) := ⟨_, T.m_Gone, rfl⟩
 have gLater : Gc mg "Later" (.ref (clsA mg "Later")) := ⟨_, T.m_Later, rfl⟩
 have M1 : MDef P w K mg base true 4 (cB mg) "let_go" ["self", "moment"] (spLetGo mg) := (f_let_go T).meth T.k_Book T.o_Book_let_go
 have M2 : MDef P w K mg base true 4 (cB mg) "rows_at" ["self", "moment"] (spRowsAt mg) := (f_rows_at T).meth T.k_Book T.o_Book_rows_at
 have M3 : MDef P w K mg base true 4 (cB mg) "deeds" ["self", "moment"] (spDeeds mg) := (f_deeds T).meth T.k_Book T.o_Book_deeds
 have ndc : (["_law_one"] : List Str).Nodup := by decide +kernel
 have fin : ∀ (p : Addr) (Hf : Hp), Q (.ref p) Hf ->
   SXs (CxF true P w K mg base N__law_asked "_law_asked" (defScope s__law_asked) f cdv A' outer s H E) ((defBody s__law_asked).drop 2) { nx := fun _ H' => Q .non H', rt := Q } [some (.ref A.b), some (.int way), some (.int mo), some (.ref p), none] Hf := by
  intro p Hf hq
  refine sxs_one ?_
  walk_at "go"
  exact hq
 refine sxs_cons ?_
 walk_at "go"
 refine ⟨by show 2 ≤ sizeLine; omega, fun p0 hp0 => ?_⟩
 have sm1 : Same H (upd H p0 (.tup [.str "none", .int 0])) := Same.upd hp0
 have ep0 : (upd H p0 (.tup [.str "none", .int 0])) p0 = some (.tup [.str "none", .int 0]) := upd_same
 generalize upd H p0 (.tup [.str "none", .int 0]) = H1 at sm1 ep0 ⊢
 have k1 := kB.same sm1
 refine sxs_cons ?_
 refine sx_try (fun σ c d H' => σ = [some (.ref A.b), some (.int way), some (.int mo), some (.ref p0), none] /\ Same H1 H' /\ ∃ E', d = (some E', true) /\ ((c = .ref (clsA mg "Gone") /\ way ≠ 0 /\ mo < B.known /\ H' E' = some (.xd [("known", .int B.known)])) \/ (c = .ref (clsA mg "Later") /\ B.now < mo /\ H' E' = some (.xd [("now", .int B.now)])))) rfl rfl (fun F pn xo po => ?_) (fun σ c d H' hK => ?_)
 ·refine sxs_one (sx_if ?_)
  walk_at "ex"
  refine ifD (fun h => ?_) (fun h => ?_)
  ·have h := V.int.inj h
   refine sxs_one (sx_expr (by rfl) ?_)
   refine ev_meth (pl := _) hr (by walk_at "xo") (by rfl) (by rfl) (by rfl) ?_
   walk_at "e"
   refine ⟨A.b, cB mg, A.dx, _, true, 4, _, spLetGo mg, rfl, k1.ins, by rfl, M1, by decide, id, ?_⟩
   walk_at "ex"
   refine ⟨A, B, mo, rfl, k1, hmB, fun z => ?_, fun z e H' sm he => ⟨rfl, sm, e, rfl, .inr ⟨rfl, z, he⟩⟩, fun z1 z2 d H' hd o k' => ?_⟩
   ·exact sxs_nil (fin p0 H1 (qN h z p0 H1 sm1 ep0))
   ·refine sxs_nil (fin p0 H' (qG h z1 z2 p0 d H' (sm1.free hd) ((Out.of sm1).trans o) k' ?_))
    exact o _ _ (fun z => by rw [List.mem_singleton.mp z, k1.ins] at ep0; cases ep0) ep0
  ·have h := vn h
   refine sxs_one (sx_if ?_)
   walk_at "ex"
   refine ifD (fun h1 => ?_) (fun h1 => ?_)
   ·have h1 := V.int.inj h1
    refine sxs_one ?_
    walk_at "s"
    walk_at "ex"
    refine ev_meth (pl := _) hr (by walk_at "xo") (by rfl) (by rfl) (by rfl) ?_
    walk_at "e"
    refine ⟨A.b, cB mg, A.dx, _, true, 4, _, spRowsAt mg, rfl, k1.ins, by rfl, M2, by decide, id, ?_⟩
    walk_at "ex"
    refine ⟨A, B, mo, rfl, k1, hmB, hrl, hdl, fun z e H' sm he => ⟨rfl, sm, e, rfl, .inl ⟨rfl, h, z, he⟩⟩, fun z e H' sm he => ⟨rfl, sm, e, rfl, .inr ⟨rfl, z, he⟩⟩, fun z1 z2 => ⟨(hun z1 z2).1, (hun z1 z2).2, fun p ys ks H' sm hp hks hso ep hys => ?_⟩⟩
    walk_at "ex"
    refine ⟨by show 2 ≤ sizeLine; omega, fun t ht => ?_⟩
    have smt : Same H' (upd H' t (.tup [.str "rows", .ref p])) := Same.upd ht
    exact sxs_nil (fin t _ (qR h1 z1 z2 t p ys ks _ ((sm1.trans sm).trans smt) hks hso upd_same (smt _ _ ep) (All2.imp (fun v x ⟨y, l, e, g1, g2, _⟩ => ⟨y, l, e, smt _ _ g1, smt _ _ g2⟩) hys)))
   ·have h1 := vn h1
    refine sxs_one ?_
    walk_at "s"
    walk_at "ex"
    refine ev_compL ["_law_one"] (σ' := [none]) (by rfl) (by rfl) (compSc_of (defScope s__law_asked) (by rfl) (by rfl) (by decide +kernel)) (by intro _; rfl) ?_
    refine ev_meth (pl := _) hr (by walk_at "xo") (by rfl) (by rfl) (by rfl) ?_
    walk_at "e"
    refine ⟨A.b, cB mg, A.dx, _, true, 4, _, spDeeds mg, rfl, k1.ins, by rfl, M3, by decide, id, ?_⟩
    walk_at "ex"
    refine ⟨A, B, mo, rfl, k1, hmB, hdl, fun z e H' sm he => ⟨rfl, sm, e, rfl, .inl ⟨rfl, h, z, he⟩⟩, fun z e H' sm he => ⟨rfl, sm, e, rfl, .inr ⟨rfl, z, he⟩⟩, fun z1 z2 p ys H2 sm2 hp ep hys => ?_⟩
    have hdd : (B.done.drop (mo - B.known).toNat).length ≤ B.done.length := by rw [List.length_drop]; omega
    have qD := qD (by omega) z1 z2
    generalize B.done.drop (mo - B.known).toNat = ds at hys qD hdd
    have hyl := hys.len
    refine ⟨p, ys, rfl, SqL.of ep, by omega, fun τ => ∃ o1, τ = [o1], fun E2 i u H' => ∃ d t, ds[i]? = some d /\ u = .ref t /\ t ≠ E2 /\ H' t = some (.tup [.int d.at_, .int d.row]), ⟨none, rfl⟩, fun E2 i u H2 H3 ys y1 y2 y3 => ?_, fun fp E2 C s3 H0 i τ x H4 H3 hE2 hi hτ sm4 hys' hG => ?_, fun L2 H3 zs hL2 hl2 hx2 e2 sm3 => ?_⟩
    ·obtain ⟨d, t, z1, z2, z3, z4⟩ := y3
     exact ⟨d, t, z1, z2, z3, y2 _ _ z3 z4⟩
    ·obtain ⟨o1, rfl⟩ := hτ
     obtain ⟨hx, rfl⟩ := hG
     obtain ⟨d, hd, t0, w0, u0, rfl, ht0, _⟩ := hys.get hx
     obtain ⟨ys0, hE⟩ := hys'
     refine eg_name ndc (by rfl) (.inl rfl) (.inr rfl) ?_
     walk_at "go"
     refine s_tup (SqT.of (sm4 _ _ ht0)) (by show ¬ ((0 : Nat) = 0 /\ (2 : Nat) = 4); decide) fun t ht => ?_
     have ec : cutV [V.int d.at_, .int d.row, w0, u0] none (some 2) = [V.int d.at_, .int d.row] := rfl
     rw [ec]
     have smt : Same H4 (upd H4 t (.tup [.int d.at_, .int d.row])) := Same.upd ht
     refine ⟨⟨_, rfl⟩, ⟨d, t, hd, rfl, fun e => ?_, upd_same⟩, smt⟩
     rw [e, hE] at ht; cases ht
    ·walk_at "ex"
     refine ⟨by show 2 ≤ sizeLine; omega, fun t ht => ?_⟩
     have smt : Same H3 (upd H3 t (.tup [.str "deeds", .ref L2])) := Same.upd ht
     refine sxs_nil (fin t _ (qD t L2 zs _ (((sm1.trans sm2).trans sm3).trans smt) upd_same (smt _ _ e2) (all2_of_get (R := fun v d => cutD (upd H3 t (.tup [.str "deeds", .ref L2])) v d) (l := zs) (m := ds) (by rw [hl2, hyl]) fun i d hd => ?_)))
     have hi : i < zs.length := by rw [hl2, hyl]; exact (List.getElem?_eq_some_iff.mp hd).1
     have hy : zs[i]? = some zs[i] := List.getElem?_eq_getElem hi
     obtain ⟨d', t', z1, z2, z3, z4⟩ := hx2 i _ hy
     rw [hd] at z1
     cases z1
     exact ⟨_, hy, t', z2, smt _ _ z4⟩
 ·obtain ⟨rfl, sm2, E', rfl, hk⟩ := hK
  have smH := sm1.trans sm2
  rcases hk with ⟨rfl, hw, hmo, hE'⟩ | ⟨rfl, hmo, hE'⟩
  ·have hmem : clsA mg "Gone" ∈ [clsA mg "Gone", clsA mg "Later"] := by simp
   have hnl : clsA mg "LeafError" ≠ clsA mg "Later" := fun z => top_ne T _ (List.mem_singleton.mpr rfl) (by rw [z]; simp)
   refine eh_as nd (by rfl) (by rfl) (by rfl) T.b_LeafError.at_ (by decide) (exm_top T.c_Gone T.b_LeafError) (fun e pn he => ?_)
   have hr2 := hr.mark (some (Value.ref e))
   have hue : (upd H' e (xw e (clsA mg "Gone") (some E'))) e = some (xw e (clsA mg "Gone") (some E')) := upd_same
   have hE : (upd H' e (xw e (clsA mg "Gone") (some E'))) E' = some (.xd [("known", .int B.known)]) := by rw [upd_ne (ne_of_none hE' he)]; exact hE'
   generalize eu : upd H' e (xw e (clsA mg "Gone") (some E')) = Hu at hue hE ⊢
   refine sxs_cons ?_
   walk_at "s"
   walk_at "ex"
   refine ⟨by show 2 ≤ sizeLine; omega, fun p1 hp1 => ?_⟩
   have s1 : Same Hu (upd Hu p1 (.tup [.str "several", .int 0])) := Same.upd hp1
   generalize upd Hu p1 (.tup [.str "several", .int 0]) = H2 at s1 ⊢
   have hE2 : ∀ {Hx : Hp}, Same Hu Hx -> ∀ E2, some E' = some E2 -> ∃ fs, Hx E2 = some (.xd fs) := fun sx E2 z => by cases z; exact ⟨_, sx _ _ hE⟩
   refine sxs_cons (sx_if ?_)
   walk_at "ex"
   refine c_isX T.c_Gone.attr (s1 _ _ hue) (hE2 s1) (fun u z => z) (kit_self T.c_Gone) ?_
   walk_at "ex"
   refine c_isX T.c_Gone.attr (s1 _ _ hue) (hE2 s1) (fun u z => z) (kit_other T.c_Gone T.c_Later (fun z => g_ne_l T _ (List.mem_singleton.mpr rfl) (List.mem_singleton.mpr z)) hnl) ?_
   walk_at "ex"
   refine sxs_one ?_
   walk_at "s"
   walk_at "ex"
   refine ev_xfld (e := e) (C := clsA mg "Gone") (E' := E') (v := .int B.known) (fs := [("known", .int B.known)]) (by rfl) T.c_Gone.attr T.f_Gone (fun u z => by obtain ⟨t, rfl⟩ := z; rfl) ?_
   walk_at "e"
   refine ⟨rfl, s1 _ _ hue, s1 _ _ hE, rfl, ?_⟩
   walk_at "ex"
   refine ⟨by show 2 ≤ sizeLine; omega, fun p2 hp2 => ?_⟩
   have s2 : Same H2 (upd H2 p2 (.tup [.str "gone", .int B.known])) := Same.upd hp2
   have ep2 : (upd H2 p2 (.tup [.str "gone", .int B.known])) p2 = some (.tup [.str "gone", .int B.known]) := upd_same
   generalize upd H2 p2 (.tup [.str "gone", .int B.known]) = H3 at s2 ep2 ⊢
   have s3 := s1.trans s2
   refine sxs_cons (sx_if ?_)
   walk_at "ex"
   refine c_isX T.c_Gone.attr (s3 _ _ hue) (hE2 s3) (fun u z => z) (kit_other T.c_Gone T.c_Later (fun z => g_ne_l T _ (List.mem_singleton.mpr rfl) (List.mem_singleton.mpr z)) hnl) ?_
   walk_at "ex"
   refine sxs_nil ?_
   refine sxs_cons (sx_if ?_)
   walk_at "ex"
   refine ⟨by show 10 ≤ sizeLine; omega, fun p3 hp3 => ?_⟩
   have s4 := s3.trans (Same.upd (o := .tup [V.ref (clsA mg "Absent"), V.ref (clsA mg "NoBook"), V.ref (clsA mg "NoColumns"), V.ref (clsA mg "NoLine"), V.ref (clsA mg "NoMark"), V.ref (clsA mg "NoOrder"), V.ref (clsA mg "NoPage"), V.ref (clsA mg "NoRow"), V.ref (clsA mg "NoSieve"), V.ref (clsA mg "NoSize")]) hp3)
   have s34 := s2.trans (Same.upd (o := .tup [V.ref (clsA mg "Absent"), V.ref (clsA mg "NoBook"), V.ref (clsA mg "NoColumns"), V.ref (clsA mg "NoLine"), V.ref (clsA mg "NoMark"), V.ref (clsA mg "NoOrder"), V.ref (clsA mg "NoPage"), V.ref (clsA mg "NoRow"), V.ref (clsA mg "NoSieve"), V.ref (clsA mg "NoSize")]) hp3)
   have ep3 : (upd H3 p3 (.tup [V.ref (clsA mg "Absent"), V.ref (clsA mg "NoBook"), V.ref (clsA mg "NoColumns"), V.ref (clsA mg "NoLine"), V.ref (clsA mg "NoMark"), V.ref (clsA mg "NoOrder"), V.ref (clsA mg "NoPage"), V.ref (clsA mg "NoRow"), V.ref (clsA mg "NoSieve"), V.ref (clsA mg "NoSize")])) p3 = some (.tup [V.ref (clsA mg "Absent"), V.ref (clsA mg "NoBook"), V.ref (clsA mg "NoColumns"), V.ref (clsA mg "NoLine"), V.ref (clsA mg "NoMark"), V.ref (clsA mg "NoOrder"), V.ref (clsA mg "NoPage"), V.ref (clsA mg "NoRow"), V.ref (clsA mg "NoSieve"), V.ref (clsA mg "NoSize")]) := upd_same
   have ep24 := (Same.upd (o := .tup [V.ref (clsA mg "Absent"), V.ref (clsA mg "NoBook"), V.ref (clsA mg "NoColumns"), V.ref (clsA mg "NoLine"), V.ref (clsA mg "NoMark"), V.ref (clsA mg "NoOrder"), V.ref (clsA mg "NoPage"), V.ref (clsA mg "NoRow"), V.ref (clsA mg "NoSieve"), V.ref (clsA mg "NoSize")]) hp3) _ _ ep2
   generalize upd H3 p3 (.tup [V.ref (clsA mg "Absent"), V.ref (clsA mg "NoBook"), V.ref (clsA mg "NoColumns"), V.ref (clsA mg "NoLine"), V.ref (clsA mg "NoMark"), V.ref (clsA mg "NoOrder"), V.ref (clsA mg "NoPage"), V.ref (clsA mg "NoRow"), V.ref (clsA mg "NoSieve"), V.ref (clsA mg "NoSize")]) = H4 at s4 s34 ep3 ep24 ⊢
   walk_at "ex"
   refine c_isXn T.c_Gone.attr (s4 _ _ hue) (hE2 s4) ep3 (vals_refs ((["Absent", "NoBook", "NoColumns", "NoLine", "NoMark", "NoOrder", "NoPage", "NoRow", "NoSieve", "NoSize"] : List Str).map (clsA mg))) (no_ten T T.c_Gone hmem) ?_
   walk_at "ex"
   refine sxs_nil ?_
   refine sxs_one (sx_if ?_)
   walk_at "ex"
   refine ⟨by show 2 ≤ sizeLine; omega, fun p4 hp4 => ?_⟩
   have s5 := s4.trans (Same.upd (o := .tup [V.ref (clsA mg "NoValue"), V.ref (clsA mg "Twice")]) hp4)
   have ep4 : (upd H4 p4 (.tup [V.ref (clsA mg "NoValue"), V.ref (clsA mg "Twice")])) p4 = some (.tup [V.ref (clsA mg "NoValue"), V.ref (clsA mg "Twice")]) := upd_same
   have ep25 := (Same.upd (o := .tup [V.ref (clsA mg "NoValue"), V.ref (clsA mg "Twice")]) hp4) _ _ ep24
   generalize upd H4 p4 (.tup [V.ref (clsA mg "NoValue"), V.ref (clsA mg "Twice")]) = H5 at s5 ep4 ep25 ⊢
   walk_at "ex"
   refine c_isXn T.c_Gone.attr (s5 _ _ hue) (hE2 s5) ep4 (vals_refs ((["NoValue", "Twice"] : List Str).map (clsA mg))) (no_two T T.c_Gone hmem) ?_
   walk_at "ex"
   refine ty_ve (by rfl) n2 ?_
   walk_at "ex"
   refine c_isX T.c_Gone.attr (s5 _ _ hue) (hE2 s5) (u := .type "ValueError") (fun u z => z) (kit_ve T.c_Gone) ?_
   walk_at "ex"
   refine sxs_nil ⟨s5 _ _ hue, ?_⟩
   have smf := suite_any smH he eu.symm s5
   have p2e : p2 ≠ e := fun z => by rw [z, s1 _ _ hue] at hp2; cases hp2
   exact fin p2 _ (qO hw hmo p2 _ smf (by rw [dropH_ne p2e]; exact ep25))
  ·have hmem : clsA mg "Later" ∈ [clsA mg "Gone", clsA mg "Later"] := by simp
   have hnl : clsA mg "LeafError" ≠ clsA mg "Gone" := fun z => top_ne T _ (List.mem_singleton.mpr rfl) (by rw [z]; simp)
   refine eh_as nd (by rfl) (by rfl) (by rfl) T.b_LeafError.at_ (by decide) (exm_top T.c_Later T.b_LeafError) (fun e pn he => ?_)
   have hr2 := hr.mark (some (Value.ref e))
   have hue : (upd H' e (xw e (clsA mg "Later") (some E'))) e = some (xw e (clsA mg "Later") (some E')) := upd_same
   have hE : (upd H' e (xw e (clsA mg "Later") (some E'))) E' = some (.xd [("now", .int B.now)]) := by rw [upd_ne (ne_of_none hE' he)]; exact hE'
   generalize eu : upd H' e (xw e (clsA mg "Later") (some E')) = Hu at hue hE ⊢
   refine sxs_cons ?_
   walk_at "s"
   walk_at "ex"
   refine ⟨by show 2 ≤ sizeLine; omega, fun p1 hp1 => ?_⟩
   have s1 : Same Hu (upd Hu p1 (.tup [.str "several", .int 0])) := Same.upd hp1
   generalize upd Hu p1 (.tup [.str "several", .int 0]) = H2 at s1 ⊢
   have hE2 : ∀ {Hx : Hp}, Same Hu Hx -> ∀ E2, some E' = some E2 -> ∃ fs, Hx E2 = some (.xd fs) := fun sx E2 z => by cases z; exact ⟨_, sx _ _ hE⟩
   refine sxs_cons (sx_if ?_)
   walk_at "ex"
   refine c_isX T.c_Later.attr (s1 _ _ hue) (hE2 s1) (fun u z => z) (kit_other T.c_Later T.c_Gone (fun z => g_ne_l T _ (List.mem_singleton.mpr rfl) (List.mem_singleton.mpr z.symm)) hnl) ?_
   walk_at "ex"
   refine sxs_nil ?_
   refine sxs_cons (sx_if ?_)
   walk_at "ex"
   refine c_isX T.c_Later.attr (s1 _ _ hue) (hE2 s1) (fun u z => z) (kit_self T.c_Later) ?_
   walk_at "ex"
   refine c_isX T.c_Later.attr (s1 _ _ hue) (hE2 s1) (fun u z => z) (kit_other T.c_Later T.c_Gone (fun z => g_ne_l T _ (List.mem_singleton.mpr rfl) (List.mem_singleton.mpr z.symm)) hnl) ?_
   walk_at "ex"
   refine sxs_one ?_
   walk_at "s"
   walk_at "ex"
   refine ev_xfld (e := e) (C := clsA mg "Later") (E' := E') (v := .int B.now) (fs := [("now", .int B.now)]) (by rfl) T.c_Later.attr T.f_Later (fun u z => by obtain ⟨t, rfl⟩ := z; rfl) ?_
   walk_at "e"
   refine ⟨rfl, s1 _ _ hue, s1 _ _ hE, rfl, ?_⟩
   walk_at "ex"
   refine ⟨by show 2 ≤ sizeLine; omega, fun p2 hp2 => ?_⟩
   have s2 : Same H2 (upd H2 p2 (.tup [.str "later", .int B.now])) := Same.upd hp2
   have ep2 : (upd H2 p2 (.tup [.str "later", .int B.now])) p2 = some (.tup [.str "later", .int B.now]) := upd_same
   generalize upd H2 p2 (.tup [.str "later", .int B.now]) = H3 at s2 ep2 ⊢
   have s3 := s1.trans s2
   refine sxs_cons (sx_if ?_)
   walk_at "ex"
   refine ⟨by show 10 ≤ sizeLine; omega, fun p3 hp3 => ?_⟩
   have s4 := s3.trans (Same.upd (o := .tup [V.ref (clsA mg "Absent"), V.ref (clsA mg "NoBook"), V.ref (clsA mg "NoColumns"), V.ref (clsA mg "NoLine"), V.ref (clsA mg "NoMark"), V.ref (clsA mg "NoOrder"), V.ref (clsA mg "NoPage"), V.ref (clsA mg "NoRow"), V.ref (clsA mg "NoSieve"), V.ref (clsA mg "NoSize")]) hp3)
   have s34 := s2.trans (Same.upd (o := .tup [V.ref (clsA mg "Absent"), V.ref (clsA mg "NoBook"), V.ref (clsA mg "NoColumns"), V.ref (clsA mg "NoLine"), V.ref (clsA mg "NoMark"), V.ref (clsA mg "NoOrder"), V.ref (clsA mg "NoPage"), V.ref (clsA mg "NoRow"), V.ref (clsA mg "NoSieve"), V.ref (clsA mg "NoSize")]) hp3)
   have ep3 : (upd H3 p3 (.tup [V.ref (clsA mg "Absent"), V.ref (clsA mg "NoBook"), V.ref (clsA mg "NoColumns"), V.ref (clsA mg "NoLine"), V.ref (clsA mg "NoMark"), V.ref (clsA mg "NoOrder"), V.ref (clsA mg "NoPage"), V.ref (clsA mg "NoRow"), V.ref (clsA mg "NoSieve"), V.ref (clsA mg "NoSize")])) p3 = some (.tup [V.ref (clsA mg "Absent"), V.ref (clsA mg "NoBook"), V.ref (clsA mg "NoColumns"), V.ref (clsA mg "NoLine"), V.ref (clsA mg "NoMark"), V.ref (clsA mg "NoOrder"), V.ref (clsA mg "NoPage"), V.ref (clsA mg "NoRow"), V.ref (clsA mg "NoSieve"), V.ref (clsA mg "NoSize")]) := upd_same
   have ep24 := (Same.upd (o := .tup [V.ref (clsA mg "Absent"), V.ref (clsA mg "NoBook"), V.ref (clsA mg "NoColumns"), V.ref (clsA mg "NoLine"), V.ref (clsA mg "NoMark"), V.ref (clsA mg "NoOrder"), V.ref (clsA mg "NoPage"), V.ref (clsA mg "NoRow"), V.ref (clsA mg "NoSieve"), V.ref (clsA mg "NoSize")]) hp3) _ _ ep2
   generalize upd H3 p3 (.tup [V.ref (clsA mg "Absent"), V.ref (clsA mg "NoBook"), V.ref (clsA mg "NoColumns"), V.ref (clsA mg "NoLine"), V.ref (clsA mg "NoMark"), V.ref (clsA mg "NoOrder"), V.ref (clsA mg "NoPage"), V.ref (clsA mg "NoRow"), V.ref (clsA mg "NoSieve"), V.ref (clsA mg "NoSize")]) = H4 at s4 s34 ep3 ep24 ⊢
   walk_at "ex"
   refine c_isXn T.c_Later.attr (s4 _ _ hue) (hE2 s4) ep3 (vals_refs ((["Absent", "NoBook", "NoColumns", "NoLine", "NoMark", "NoOrder", "NoPage", "NoRow", "NoSieve", "NoSize"] : List Str).map (clsA mg))) (no_ten T T.c_Later hmem) ?_
   walk_at "ex"
   refine sxs_nil ?_
   refine sxs_one (sx_if ?_)
   walk_at "ex"
   refine ⟨by show 2 ≤ sizeLine; omega, fun p4 hp4 => ?_⟩
   have s5 := s4.trans (Same.upd (o := .tup [V.ref (clsA mg "NoValue"), V.ref (clsA mg "Twice")]) hp4)
   have ep4 : (upd H4 p4 (.tup [V.ref (clsA mg "NoValue"), V.ref (clsA mg "Twice")])) p4 = some (.tup [V.ref (clsA mg "NoValue"), V.ref (clsA mg "Twice")]) := upd_same
   have ep25 := (Same.upd (o := .tup [V.ref (clsA mg "NoValue"), V.ref (clsA mg "Twice")]) hp4) _ _ ep24
   generalize upd H4 p4 (.tup [V.ref (clsA mg "NoValue"), V.ref (clsA mg "Twice")]) = H5 at s5 ep4 ep25 ⊢
   walk_at "ex"
   refine c_isXn T.c_Later.attr (s5 _ _ hue) (hE2 s5) ep4 (vals_refs ((["NoValue", "Twice"] : List Str).map (clsA mg))) (no_two T T.c_Later hmem) ?_
   walk_at "ex"
   refine ty_ve (by rfl) n2 ?_
   walk_at "ex"
   refine c_isX T.c_Later.attr (s5 _ _ hue) (hE2 s5) (u := .type "ValueError") (fun u z => z) (kit_ve T.c_Later) ?_
   walk_at "ex"
   refine sxs_nil ⟨s5 _ _ hue, ?_⟩
   have smf := suite_any smH he eu.symm s5
   have p2e : p2 ≠ e := fun z => by rw [z, s1 _ _ hue] at hp2; cases hp2
   exact fin p2 _ (qL hmo p2 _ smf (by rw [dropH_ne p2e]; exact ep25))
end
end K33
namespace K33
open PySem L2 PyProof.Rows My Vl Lw
section
variable {P : Program} {w : World} {K : PySem.W.Frag} {mg : Str -> Option Value} {base : Heap}
def RowF (F : List Addr) (H : Hp) (v : V) (p : Int × List V) : Prop := ∃ t l, v = .ref t /\ H t = some (.tup [.int p.1, .ref l]) /\ H l = some (.lst p.2) /\ l ∉ F
def StAt (F : List Addr) (H : Hp) (v : V) (rows : List (Int × List V)) : Prop := ∃ l ys ks, v = .ref l /\ l ∉ F /\ H l = some (.lst ys) /\ KeysOf ks rows /\ All2 (RowF F H) ys (toldBy rows ks)
theorem StAt.stay {F : List Addr} {H H' : Hp} {v : V} {rows : List (Int × List V)} (h : StAt F H v rows) (t : ∀ b ys, H b = some (.tup ys) -> H' b = some (.tup ys)) (s : ∀ b ys, b ∉ F -> H b = some (.lst ys) -> H' b = some (.lst ys)) : StAt F H' v rows := by
 obtain ⟨l, ys, ks, e, h1, h2, h3, h5⟩ := h
 exact ⟨l, ys, ks, e, h1, s _ _ h1 h2, h3, All2.imp (fun v p ⟨x, l, e, g1, g2, g3⟩ => ⟨x, l, e, t _ _ g1, s _ _ g3 g2, g3⟩) h5⟩
theorem rowsTo_val {Pr : List V -> Prop} {ds : List Deed} (hd : ∀ d ∈ ds, ∀ xs, d.is = some xs -> Pr xs) : ∀ i xs, aGet (rowsTo ds) i = some xs -> Pr xs := by
 have : ∀ (ds : List Deed) (r : List (Int × List V)), (∀ d ∈ ds, ∀ xs, d.is = some xs -> Pr xs) -> (∀ i xs, aGet r i = some xs -> Pr xs) -> ∀ i xs, aGet (ds.foldl (fun r d => back1 r d.row d.is) r) i = some xs -> Pr xs := by
  intro ds
  induction ds with
  | nil => exact fun r _ h => h
  | cons d ds ih =>
    refine fun r hd h => ih _ (fun x hx => hd x (List.mem_cons_of_mem _ hx)) fun i xs e => ?_
    rw [aGet_back1] at e
    by_cases z : i = d.row
    ·rw [if_pos z] at e; exact hd d (List.mem_cons_self ..) xs e
    ·rw [if_neg z] at e; exact h i xs e
 exact this ds [] hd fun i xs e => by cases e
theorem told_flat {rows : List (Int × List V)} {ks : List Int} (h : ∀ i xs, aGet rows i = some xs -> xs.length ≤ 1000 /\ ∀ x ∈ xs, flat1 x) : ∀ p ∈ toldBy rows ks, flatRow p := by
 intro p hp
 obtain ⟨k, hk, rfl⟩ := List.mem_map.mp hp
 unfold flatRow
 show ((aGet rows k).getD []).length ≤ 1000 /\ ∀ x ∈ (aGet rows k).getD [], flat1 x
 cases e : aGet rows k with
 | none => exact ⟨by show (0 : Nat) ≤ 1000; omega, by simp⟩
 | some xs => exact h k xs e
theorem two_lay (z : Str) (i : Int) (h : okS 4000 z) : (PyData.tuple [.str z, .int i]).canLay0 = true := by
 have h1 : PyData.strOk z = true := h.lay
 simp [PyData.canLay0, PyData.canLayAll0, h1]
theorem two_dep (z : Str) (i : Int) : (PyData.tuple [.str z, .int i]).depth ≤ 60 := by show (_ : Nat) ≤ 60; exact Nat.le_of_ble_eq_true rfl
theorem eq_two {X : Cx} {H : Hp} {Q : VK} {t p : Addr} {z : Str} {i : Int} (hu : X.A.units + 64 < cLine) (hz : okS 4000 z) (h1 : H t = some (.tup [.str z, .int i])) (h2 : H p = some (.tup [.str z, .int i])) (q : Q (.bl true) H) : OP X (compareOp .Eq) (.ref t) (.ref p) H Q := by
 refine o_eqD (d := .tuple [.str z, .int i]) (d' := .tuple [.str z, .int i]) hu (.tup (SqT.of h1) (.cons (.str _) (.cons (.int _) .nil))) (.tup (SqT.of h2) (.cons (.str _) (.cons (.int _) .nil))) (two_lay z i hz) (two_lay z i hz) (two_dep z i) ?_
 rw [SeqAt.eqv_refl _ (two_lay z i hz)]
 exact q
def dCut (d : Deed) : PyData := .tuple [.int d.at_, .int d.row]
theorem cuts_rd {H : Hp} {ys : List V} {ds : List Deed} (h : All2 (cutD H) ys ds) : RDs K H ys (ds.map dCut) := by
 induction h with
 | nil => exact .nil
 | @cons y d l m r _ ih =>
   obtain ⟨t, rfl, h1⟩ := r
   exact .cons (.tup (SqT.of h1) (.cons (.int _) (.cons (.int _) .nil))) ih
theorem cuts_lay : ∀ (ds : List Deed), PyData.canLayAll0 (ds.map dCut) = true
 | [] => rfl
 | d :: ds => by
   show ((PyData.canLay0 (dCut d)) && PyData.canLayAll0 (ds.map dCut)) = true
   rw [cuts_lay ds]
   rfl
theorem cuts_dep : ∀ (ds : List Deed), PyData.depthAll (ds.map dCut) ≤ 4
 | [] => by show (0 : Nat) ≤ 4; omega
 | d :: ds => by
   have ih := cuts_dep ds
   show max (dCut d).depth (PyData.depthAll (ds.map dCut)) ≤ 4
   simp only [dCut, PyData.depth, PyData.depthAll]
   omega
def dTold (ds : List Deed) : PyData := .tuple [.str "deeds", .list (ds.map dCut)]
theorem told_lay (ds : List Deed) : (dTold ds).canLay0 = true := by
 show (PyData.strOk "deeds" && (PyData.canLayAll0 (ds.map dCut) && true)) = true
 have h1 : PyData.strOk (Str.ofString "deeds") = true := (okS.lit (n := 4000) (by decide +kernel) : okS 4000 (Str.ofString "deeds")).lay
 rw [cuts_lay ds, h1]
 rfl
theorem told_dep (ds : List Deed) : (dTold ds).depth ≤ 60 := by
 have h := cuts_dep ds
 simp only [dTold, PyData.depth, PyData.depthAll]
 omega
def spRight33 (mg : Str -> Option Value) : Sp := fun vs H Q _ => ∃ (F : List Addr) (A : BA) (B : Bk) (way mo : Int) (S g : Addr) (ss : List V) (all : List Deed) (ns : List Int), vs = [.ref A.b, .int way, .int mo, .int B.known, .ref S, .ref g] /\ BookAt (cB mg) H A B /\ Hist all B /\ all.length ≤ 1000 /\ 0 ≤ way /\ way ≤ 2 /\
 (∀ d ∈ all, ∀ xs, d.is = some xs -> xs.length ≤ 1000 /\ ∀ x ∈ xs, flat1 x) /\ (∀ d ∈ all, d.row ∈ ns) /\ ns.length ≤ 33 /\ H S = some (.lst ss) /\ (∀ j ≤ all.length, ∃ v, ss[j]? = some v /\ StAt F H v (rowsTo (all.take j))) /\ H g = some (.lst (all.map fun d => V.int d.row)) /\
 (∀ H', Same H H' -> (way = 0 -> mo ≤ B.now -> mo ≤ B.known) -> Q (.bl true) H') /\
 (way = 0 -> B.known < mo -> mo ≤ B.now -> ∀ d H', H d = none -> Out [A.b] H H' -> BookAt (cB mg) H' { A with d := d } { B with done := B.done.drop (mo - B.known).toNat, known := mo } -> Q (.bl true) H')
theorem d__law_right (T : Txt K mg) : Def P w K mg base true 6 "_law_right" ["_law_book", "_law_way", "_law_moment_here", "_law_oldest", "_law_states", "_law_log"] (spRight33 mg) := by
 refine df__law_right T (fun vs H Q E h => by obtain ⟨F, A, B, way, mo, S, g, ss, all, ns, rfl, _⟩ := h; rfl) (fun f cdv A' outer s H vs Q E hr h => ?_)
 obtain ⟨F, A, B, way, mo, S, g, ss, all, ns, rfl, kB, hh, hal, hw0, hw2, hfl, hin, hns, eS, hst, eg, q, qG⟩ := h
 have nd := sc__law_right.nd
 have n1 := T.n_len
 have n2 := T.n_range
 have hu := hr.units
 have hsz : sizeLine = 16777216 := sizeLine_eq
 have D1 : Def P w K mg base true 5 "_law_asked" ["_law_book", "_law_way", "_law_moment_here"] (spAsk33 mg) := d__law_asked T
 have D2 : Def P w K mg base true 1 "_law_is_whole" ["_law_found", pDue] spIsWholeL := d__law_is_whole T
 have D3 : Def P w K mg base true 2 "_law_same_rows" ["_law_found", pDue] (spSameRows K) := d__law_same_rows T
 have okL : okS 4000 (Str.ofString "later") := okS.lit (by decide +kernel)
 have okG : okS 4000 (Str.ofString "gone") := okS.lit (by decide +kernel)
 have okN : okS 4000 (Str.ofString "none") := okS.lit (by decide +kernel)
 have hnow := hh.now
 have hkn := hh.kn
 have hdl : B.done.length ≤ all.length := by rw [hh.done, List.length_drop]; omega
 have hrn : (B.rows.map (·.1)).Nodup := by rw [hh.rows]; exact rowsTo_nd all
 have hri : ∀ k ∈ B.rows.map (·.1), k ∈ ns := by rw [hh.rows]; exact rowsTo_in hin
 have hrl : B.rows.length ≤ 33 := by have := nodup_le hrn hri; rw [List.length_map] at this; omega
 have hdrop : ∀ k : Nat, B.known ≤ (k : Int) -> B.done.drop ((k : Int) - B.known).toNat = all.drop k := fun k hk => by
  rw [hh.done, List.drop_drop]
  congr 1
  omega
 have hgl : (all.map fun d => V.int d.row).length = all.length := List.length_map ..
 have ndc : (["_law_k", "_law_log"] : List Str).Nodup := by decide +kernel
 have hbk : ∀ mn : Nat, B.known ≤ (mn : Int) -> (mn : Int) ≤ B.now -> undoOk B.rows (B.done.drop ((mn : Int) - B.known).toNat) /\ (backAll B.rows (B.done.drop ((mn : Int) - B.known).toNat)).length ≤ 33 := fun mn h1 h2 => by
  obtain ⟨be, bu⟩ := back_eq hh.good (all.length - mn) mn (by omega)
  have hbn : ((backAll (rowsTo all) (all.drop mn)).map (·.1)).Nodup := backAll_nd (rowsTo_nd all) _
  have hbi : ∀ k ∈ (backAll (rowsTo all) (all.drop mn)).map (·.1), k ∈ ns := backAll_in (rowsTo_in hin) fun d hd => hin d (List.mem_of_mem_drop hd)
  rw [hdrop mn h1, hh.rows]
  refine ⟨bu, ?_⟩
  have := nodup_le hbn hbi
  rw [List.length_map] at this
  omega
 have sg : SqL K H g (all.map fun d => V.int d.row) := SqL.of eg
 refine sxs_cons ?_
 walk_at "s"
 walk_at "ex"
 rw [hgl, <- hnow]
 refine sxs_cons ?_
 walk_at "s"
 walk_at "ex"
 refine ⟨A, B, way, mo, rfl, kB, hh.mom (by omega), by omega, by omega, hw0, hw2, fun h1 h2 => ?_, fun hlt t H2 sm et => ?_, fun e0 hle t H2 sm et => ?_, fun e0 hlt hle t d H2 hd o k2 et => ?_, fun e0 hlt t H2 sm et => ?_, fun e1 h1 h2 t p ys ks H2 sm hks hso et ep hys => ?_, fun e2 h1 h2 t p ys H2 sm et ep hys => ?_⟩
 ·obtain ⟨mn, rfl⟩ := Int.eq_ofNat_of_zero_le (show 0 ≤ mo by omega)
  have := hbk mn h1 h2
  exact ⟨this.1, by omega⟩
 ·have st : SqT K H2 t [.str "later", .int B.now] := SqT.of et
  refine sxs_cons (sx_if ?_)
  walk_at "ex"
  refine ifD (fun h => ?_) (fun h => absurd hlt (by omega))
  refine sxs_one (sx_ret ?_)
  walk_at "ex"
  refine ⟨by show 2 ≤ sizeLine; omega, fun p hp => ?_⟩
  have smp : Same H2 (upd H2 p (.tup [.str "later", .int B.now])) := Same.upd hp
  have ep : (upd H2 p (.tup [.str "later", .int B.now])) p = some (.tup [.str "later", .int B.now]) := upd_same
  generalize upd H2 p (.tup [.str "later", .int B.now]) = H3 at smp ep ⊢
  refine eq_two hu okL (smp _ _ et) ep ?_
  walk_at "ex"
  refine i_tup (smp.seqT st) (i := 1) rfl ?_
  walk_at "ex"
  refine ⟨B.now, rfl, q _ (sm.trans smp) fun _ z => absurd z (by omega)⟩
 ·have e0' := e0
  refine sxs_cons (sx_if ?_)
  walk_at "ex"
  refine ifD (fun h => absurd h (by omega)) (fun h => ?_)
  refine sxs_nil (sxs_cons (sx_if ?_))
  walk_at "ex"
  refine ifD (fun _ => ?_) (fun h => absurd e0 (vn h))
  refine sxs_one (sx_ret ?_)
  walk_at "ex"
  refine ⟨by show 2 ≤ sizeLine; omega, fun p hp => ?_⟩
  have smp : Same H2 (upd H2 p (.tup [.str "none", .int 0])) := Same.upd hp
  refine eq_two hu okN (smp _ _ et) upd_same ?_
  exact q _ (sm.trans smp) fun _ _ => hle
 ·refine sxs_cons (sx_if ?_)
  walk_at "ex"
  refine ifD (fun h => absurd h (by omega)) (fun h => ?_)
  refine sxs_nil (sxs_cons (sx_if ?_))
  walk_at "ex"
  refine ifD (fun _ => ?_) (fun h => absurd e0 (vn h))
  refine sxs_one (sx_ret ?_)
  walk_at "ex"
  refine ⟨by show 2 ≤ sizeLine; omega, fun p hp => ?_⟩
  have smp : Same H2 (upd H2 p (.tup [.str "none", .int 0])) := Same.upd hp
  refine eq_two hu okN (smp _ _ et) upd_same ?_
  exact qG e0 hlt hle d _ hd (o.trans (Out.of smp)) (k2.same smp)
 ·have st : SqT K H2 t [.str "gone", .int B.known] := SqT.of et
  refine sxs_cons (sx_if ?_)
  walk_at "ex"
  refine ifD (fun h => absurd h (by omega)) (fun h => ?_)
  refine sxs_nil (sxs_cons (sx_if ?_))
  walk_at "ex"
  refine ifD (fun h => absurd (V.int.inj h) e0) (fun h => ?_)
  refine sxs_nil (sxs_cons (sx_if ?_))
  walk_at "ex"
  refine ifD (fun _ => ?_) (fun h => absurd hlt (by omega))
  refine sxs_one (sx_ret ?_)
  walk_at "ex"
  refine ⟨by show 2 ≤ sizeLine; omega, fun p hp => ?_⟩
  have smp : Same H2 (upd H2 p (.tup [.str "gone", .int B.known])) := Same.upd hp
  have ep : (upd H2 p (.tup [.str "gone", .int B.known])) p = some (.tup [.str "gone", .int B.known]) := upd_same
  generalize upd H2 p (.tup [.str "gone", .int B.known]) = H3 at smp ep ⊢
  refine eq_two hu okG (smp _ _ et) ep ?_
  walk_at "ex"
  refine i_tup (smp.seqT st) (i := 1) rfl ?_
  walk_at "ex"
  refine ⟨B.known, rfl, q _ (sm.trans smp) fun z => absurd z e0⟩
 ·obtain ⟨mn, rfl⟩ := Int.eq_ofNat_of_zero_le (show 0 ≤ mo by omega)
  have st : SqT K H2 t [.str "rows", .ref p] := SqT.of et
  rw [hdrop mn h1, hh.rows] at hks hys
  obtain ⟨be, bu⟩ := back_eq hh.good (all.length - mn) mn (by omega)
  have hbn : ((backAll (rowsTo all) (all.drop mn)).map (·.1)).Nodup := backAll_nd (rowsTo_nd all) _
  obtain ⟨sv, gsv, sl, zs, ks2, rfl, slF, esl, hks2, hzs⟩ := hst mn (by omega)
  have etold : toldBy (backAll (rowsTo all) (all.drop mn)) ks = toldBy (rowsTo (all.take mn)) ks2 := told_eq2 (keysOf_perm hbn hks hso) hks2 be
  rw [etold] at hys
  have hfr : ∀ p ∈ toldBy (rowsTo (all.take mn)) ks2, flatRow p := told_flat (rowsTo_val fun d hd xs e => hfl d (List.mem_of_mem_take hd) xs e)
  have hlt : (toldBy (rowsTo (all.take mn)) ks2).length ≤ 33 := by
   show (List.map _ ks2).length ≤ 33
   rw [List.length_map]
   have := nodup_le hks2.1 (m := ns) fun x hx => by
    refine rowsTo_in (ns := ns) (ds := all.take mn) (fun d hd => hin d (List.mem_of_mem_take hd)) x ?_
    exact Classical.byContradiction fun z => (hks2.2.2 x).mp hx (aGet_none_iff.mpr z)
   omega
  generalize toldBy (rowsTo (all.take mn)) ks2 = tl at hys hzs hfr hlt
  refine sxs_cons (sx_if ?_)
  walk_at "ex"
  refine ifD (fun h => absurd h (by omega)) (fun h => ?_)
  refine sxs_nil (sxs_cons (sx_if ?_))
  walk_at "ex"
  refine ifD (fun h => absurd (V.int.inj h) (by omega)) (fun h => ?_)
  refine sxs_nil (sxs_cons (sx_if ?_))
  walk_at "ex"
  refine ifD (fun h => absurd h (by omega)) (fun h => ?_)
  refine sxs_nil (sxs_cons (sx_if ?_))
  walk_at "ex"
  refine ifD (fun _ => ?_) (fun h => absurd e1 (vn h))
  refine sxs_one (sx_ret ?_)
  walk_at "ex"
  refine i_tup st (i := 0) rfl ?_
  walk_at "ex"
  refine ifD (fun _ => ?_) (fun h => absurd rfl h)
  walk_at "ex"
  refine i_tup st (i := 1) rfl ?_
  walk_at "ex"
  refine i_list (SqL.of (sm _ _ eS)) (atI_nat gsv) ?_
  walk_at "ex"
  refine ⟨p, sl, ys, zs, tl, rfl, ep, sm _ _ esl, hys, All2.imp (fun v p ⟨t, l, e, g1, g2, _⟩ => ⟨t, l, e, sm _ _ g1, sm _ _ g2⟩) hzs, by omega, hfr, ?_⟩
  exact q _ sm fun z => absurd z (by omega)
 ·obtain ⟨mn, rfl⟩ := Int.eq_ofNat_of_zero_le (show 0 ≤ mo by omega)
  rw [hdrop mn h1] at hys
  have sg2 : SqL K H2 g (all.map fun d => V.int d.row) := SqL.of (sm _ _ eg)
  refine sxs_cons (sx_if ?_)
  walk_at "ex"
  refine ifD (fun h => absurd h (by omega)) (fun h => ?_)
  refine sxs_nil (sxs_cons (sx_if ?_))
  walk_at "ex"
  refine ifD (fun h => absurd (V.int.inj h) (by omega)) (fun h => ?_)
  refine sxs_nil (sxs_cons (sx_if ?_))
  walk_at "ex"
  refine ifD (fun h => absurd h (by omega)) (fun h => ?_)
  refine sxs_nil (sxs_cons (sx_if ?_))
  walk_at "ex"
  refine ifD (fun h => absurd (V.int.inj h) (by omega)) (fun h => ?_)
  refine sxs_nil (sxs_one (sx_ret ?_))
  walk_at "ex"
  refine ev_compR2 ["_law_k", "_law_log"] (σ' := [none, some (.ref g)]) (by rfl) (by rfl) (compSc_of (defScope s__law_right) (by rfl) (by rfl) (by decide +kernel)) (by rfl) n2 (by rfl) (by rfl) ?_
  walk_at "ex"
  have hlen : (B.now - (mn : Int)).toNat = all.length - mn := by omega
  refine ⟨mn, B.now, rfl, ⟨by omega, by omega, by omega, by omega⟩, by omega, fun τ => ∃ o1, τ = [o1, some (.ref g)], fun E2 i u H' => ∃ d t, (all.drop mn)[i]? = some d /\ u = .ref t /\ t ≠ E2 /\ H' t = some (.tup [.int d.at_, .int d.row]), ⟨none, rfl⟩, fun E2 i u H2 H3 ys y1 y2 y3 => ?_, fun fp E2 C s3 H0 i τ x H4 H3 hE2 hi hτ sm4 hys' hG => ?_, fun L2 H3 zs hL2 hl2 hx2 e3 sm3 => ?_⟩
  ·obtain ⟨d, t, z1, z2, z3, z4⟩ := y3
   exact ⟨d, t, z1, z2, z3, y2 _ _ z3 z4⟩
  ·obtain ⟨o1, rfl⟩ := hτ
   obtain ⟨rfl, rfl⟩ := hG
   have hil : i < (all.drop mn).length := by rw [List.length_drop]; omega
   have hd : (all.drop mn)[i]? = some (all.drop mn)[i] := List.getElem?_eq_getElem hil
   generalize (all.drop mn)[i] = d at hd
   have hdA : all[mn + i]? = some d := by rw [<- List.getElem?_drop]; exact hd
   obtain ⟨hat, _, _⟩ := hh.good _ _ hdA
   obtain ⟨ys0, hE⟩ := hys'
   have eix : (mn : Int) + (i : Int) = ((mn + i : Nat) : Int) := by omega
   have sg4 : SqL K H4 g (all.map fun d => V.int d.row) := sm4.seq sg2
   refine eg_name ndc (by rfl) (.inl rfl) (.inr rfl) ?_
   walk_at "ex"
   refine i_list sg4 (v := .int d.row) (by rw [eix]; exact atI_nat (by rw [List.getElem?_map, hdA]; rfl)) ?_
   walk_at "ex"
   refine ⟨by show 2 ≤ sizeLine; omega, fun t ht => ?_⟩
   have eat : (mn : Int) + (i : Int) + 1 = d.at_ := by rw [hat, eix]
   rw [eat]
   have smt : Same H4 (upd H4 t (.tup [.int d.at_, .int d.row])) := Same.upd ht
   refine ⟨⟨_, rfl⟩, ⟨d, t, hd, rfl, fun e => ?_, upd_same⟩, smt⟩
   rw [e, hE] at ht; cases ht
  ·have hdl2 : zs.length = (all.drop mn).length := by rw [hl2, List.length_drop]; omega
   have hcs : All2 (cutD H3) zs (all.drop mn) := all2_of_get (R := fun v d => cutD H3 v d) (l := zs) (m := all.drop mn) hdl2.symm fun i d hd => by
    have hi : i < zs.length := by rw [hdl2]; exact (List.getElem?_eq_some_iff.mp hd).1
    have hy : zs[i]? = some zs[i] := List.getElem?_eq_getElem hi
    obtain ⟨d', t', z1, z2, z3, z4⟩ := hx2 i _ hy
    rw [hd] at z1
    cases z1
    exact ⟨_, hy, t', z2, z4⟩
   walk_at "ex"
   refine ⟨by show 2 ≤ sizeLine; omega, fun t2 ht2 => ?_⟩
   have smt : Same H3 (upd H3 t2 (.tup [.str "deeds", .ref L2])) := Same.upd ht2
   have et2 : (upd H3 t2 (.tup [.str "deeds", .ref L2])) t2 = some (.tup [.str "deeds", .ref L2]) := upd_same
   generalize upd H3 t2 (.tup [.str "deeds", .ref L2]) = H5 at smt et2 ⊢
   have sm25 := sm3.trans smt
   refine o_eqD (d := dTold (all.drop mn)) (d' := dTold (all.drop mn)) hu (.tup (SqT.of (sm25 _ _ et)) (.cons (.str _) (.cons (.lst (SqL.of (sm25 _ _ ep)) (cuts_rd (All2.imp (fun v d ⟨t, e, h⟩ => ⟨t, e, sm25 _ _ h⟩) hys))) .nil))) (.tup (SqT.of et2) (.cons (.str _) (.cons (.lst (SqL.of (smt _ _ e3)) (cuts_rd (All2.imp (fun v d ⟨t, e, h⟩ => ⟨t, e, smt _ _ h⟩) hcs))) .nil))) (told_lay _) (told_lay _) (told_dep _) ?_
   rw [SeqAt.eqv_refl _ (told_lay _)]
   exact q _ (sm.trans sm25) fun z => absurd z (by omega)
end
end K33
namespace K33
open PySem L2 PyProof.Rows My Vl Lw
section
variable {P : Program} {w : World} {K : PySem.W.Frag} {mg : Str -> Option Value} {base : Heap}
structure VA where
 A : BA
 a : Addr
 i : Addr
 S : Addr
 g : Addr
 n : Addr
 c : Addr
def VA.F (L : VA) : List Addr := L.A.fp ++ [L.a, L.i, L.S, L.g]
def VA.all (L : VA) : List Addr := [L.A.h, L.A.r, L.A.t, L.A.d, L.A.b, L.A.dx, L.a, L.i, L.S, L.g, L.n, L.c]
structure VSt (K : PySem.W.Frag) (mg : Str -> Option Value) (sc : Addr) (xs : List V) (ns : List Int) (cs : List Col) (L : VA) (H : Hp) (B : Bk) (all : List Deed) (m : List (Int × List V)) (lm : List (Int × Int)) (ls ss : List V) : Prop where
 bk : BookAt (cB mg) H L.A B
 ke : KeptV L.F H L.a m
 si : DictAt IntAt H L.i lm
 st : H L.S = some (.lst ss)
 sts : ∀ j < ss.length, ∃ v, ss[j]? = some v /\ StAt L.F H v (rowsTo (all.take j))
 lg : H L.g = some (.lst ls)
 nn : H L.n = some (.lst (ns.map V.int))
 co : Cols H L.c cs
 sc : SqL K H sc xs
structure VOk (ns : List Int) (cs : List Col) (B : Bk) (all : List Deed) (m : List (Int × List V)) (lm : List (Int × Int)) : Prop where
 hist : Hist all B
 heads : B.heads = cs
 mm : ∀ i, aGet m i = aGet B.rows i
 mnd : (m.map (·.1)).Nodup
 dok : ∀ d ∈ all, d.row ∈ ns /\ (∀ xs, d.was = some xs -> okR cs xs) /\ (∀ xs, d.is = some xs -> okR cs xs)
 tl : B.touched.length ≤ all.length
 sl : lm.length ≤ all.length
 tm : ∀ i x, aGet B.touched i = some x -> aGet lm i = some x
structure VAp (K : PySem.W.Frag) (sc : Addr) (xs : List V) (L : VA) : Prop where
 nd : L.all.Nodup
 s : (∀ H', SqL K H' sc xs) \/ sc ∉ L.all
section
variable {sc : Addr} {xs : List V} {ns : List Int} {cs : List Col} {L : VA} {H H' : Hp} {B : Bk} {all : List Deed} {m : List (Int × List V)} {lm : List (Int × Int)} {ls ss : List V}
theorem VSt.onF (h : VSt K mg sc xs ns cs L H B all m lm ls ss) {x : Addr} (hx : x ∈ L.F) : ∃ o, H x = some o /\ ∀ ys, o ≠ .tup ys := by
 rcases List.mem_append.mp hx with hx | hx
 ·rcases h.bk.fpR hx with ⟨fs, z⟩ | ⟨kvs, z⟩ | ⟨xs, z⟩ <;> exact ⟨_, z, nofun⟩
 ·have hx' : x = L.a \/ x = L.i \/ x = L.S \/ x = L.g := by simpa using hx
  rcases hx' with rfl | rfl | rfl | rfl
  ·obtain ⟨kvs, e, _⟩ := h.ke
   exact ⟨_, e, nofun⟩
  ·obtain ⟨kvs, e, _⟩ := h.si
   exact ⟨_, e, nofun⟩
  ·exact ⟨_, h.st, nofun⟩
  ·exact ⟨_, h.lg, nofun⟩
theorem VSt.nt (h : VSt K mg sc xs ns cs L H B all m lm ls ss) {S : List Addr} (hS : ∀ x ∈ S, x ∈ L.F) : NT H S := fun x hx ys e => by
 obtain ⟨o, e1, e2⟩ := h.onF (hS x hx)
 rw [e1] at e
 cases e
 exact e2 _ rfl
theorem VSt.live (h : VSt K mg sc xs ns cs L H B all m lm ls ss) : ∀ x ∈ L.F, H x ≠ none := fun x hx e => by
 obtain ⟨o, e1, _⟩ := h.onF hx
 rw [e1] at e
 cases e
theorem VSt.same (h : VSt K mg sc xs ns cs L H B all m lm ls ss) (sm : Same H H') : VSt K mg sc xs ns cs L H' B all m lm ls ss where
 bk := h.bk.same sm
 ke := by
  obtain ⟨kvs, e, hR⟩ := h.ke
  exact ⟨kvs, sm _ _ e, pr_imp hR fun v x h => h.stay fun b ys _ e => sm _ _ e⟩
 si := by
  obtain ⟨kvs, e, hR⟩ := h.si
  exact ⟨kvs, sm _ _ e, hR⟩
 st := sm _ _ h.st
 sts := fun j hj => by
  obtain ⟨v, e, hs⟩ := h.sts j hj
  exact ⟨v, e, hs.stay (fun b ys e => sm _ _ e) fun b ys _ e => sm _ _ e⟩
 lg := sm _ _ h.lg
 nn := sm _ _ h.nn
 co := h.co.same sm
 sc := sm.seq h.sc
theorem VA.sub {L : VA} : ∀ x ∈ L.F, x ∈ L.all := fun x hx => by
 have hx' : x = L.A.b \/ x = L.A.r \/ x = L.A.t \/ x = L.A.d \/ x = L.a \/ x = L.i \/ x = L.S \/ x = L.g := by simpa [VA.F, BA.fp] using hx
 rcases hx' with rfl | rfl | rfl | rfl | rfl | rfl | rfl | rfl <;> simp [VA.all]
theorem VAp.seq (ap : VAp K sc xs L) {S : List Addr} (h : SqL K H sc xs) (o : Out S H H') (hS : ∀ x ∈ S, x ∈ L.F) : SqL K H' sc xs := by
 rcases ap.s with z | z
 ·exact z _
 ·exact o.seq (fun y => z (VA.sub _ (hS _ y))) h
theorem VSt.kept (h : VSt K mg sc xs ns cs L H B all m lm ls ss) {S : List Addr} (o : Out S H H') (hS : ∀ x ∈ S, x ∈ L.F) (ha : L.a ∉ S) : KeptV L.F H' L.a m := by
 obtain ⟨kvs, e, hR⟩ := h.ke
 exact ⟨kvs, o _ _ ha e, pr_imp hR fun v x h => h.stay fun b ys hb e => o _ _ (fun z => hb (hS _ z)) e⟩
theorem VSt.since (h : VSt K mg sc xs ns cs L H B all m lm ls ss) {S : List Addr} (o : Out S H H') (ha : L.i ∉ S) : DictAt IntAt H' L.i lm := by
 obtain ⟨kvs, e, hR⟩ := h.si
 exact ⟨kvs, o _ _ ha e, hR⟩
theorem VSt.stats (h : VSt K mg sc xs ns cs L H B all m lm ls ss) {S : List Addr} (o : Out S H H') (hS : ∀ x ∈ S, x ∈ L.F) : ∀ j < ss.length, ∃ v, ss[j]? = some v /\ StAt L.F H' v (rowsTo (all.take j)) := fun j hj => by
 obtain ⟨v, e, hs⟩ := h.sts j hj
 exact ⟨v, e, hs.stay ((h.nt hS).tup o) fun b ys hb e => o _ _ (fun z => hb (hS _ z)) e⟩
theorem VSt.chg (ap : VAp K sc xs L) (h : VSt K mg sc xs ns cs L H B all m lm ls ss) {W : List Addr} {B' : Bk} {all' : List Deed} {m' : List (Int × List V)} {lm' : List (Int × Int)} {ls' ss' : List V} (o : Out W H H') (hW : ∀ x ∈ W, x ∈ L.F)
  (kb : BookAt (cB mg) H' L.A B') (kk : KeptV L.F H' L.a m') (ks : DictAt IntAt H' L.i lm') (e1 : H' L.S = some (.lst ss')) (hs : ∀ j < ss'.length, ∃ v, ss'[j]? = some v /\ StAt L.F H' v (rowsTo (all'.take j))) (e2 : H' L.g = some (.lst ls')) : VSt K mg sc xs ns cs L H' B' all' m' lm' ls' ss' := by
 have nt := h.nt hW
 have a1 : ∀ y ∈ [L.n, L.c], y ∉ [L.A.b, L.A.r, L.A.t, L.A.d, L.a, L.i, L.S, L.g] := nd_apart ap.nd [10, 11] [4, 1, 2, 3, 6, 7, 8, 9] (by decide)
 have a2 : ∀ y ∈ [L.n, L.c], y ∉ W := fun y hy z => by
  have hz := hW _ z
  have hz' : y = L.A.b \/ y = L.A.r \/ y = L.A.t \/ y = L.A.d \/ y = L.a \/ y = L.i \/ y = L.S \/ y = L.g := by simpa [VA.F, BA.fp] using hz
  refine a1 y hy ?_
  rcases hz' with e | e | e | e | e | e | e | e <;> simp [e]
 exact ⟨kb, kk, ks, e1, hs, e2, o _ _ (a2 _ (by simp)) h.nn, h.co.out o nt (a2 _ (by simp)), ap.seq h.sc o hW⟩
theorem VSt.goes (ap : VAp K sc xs L) (h : VSt K mg sc xs ns cs L H B all m lm ls ss) {B' : Bk} {d : Addr} (hd : H d = none) (o : Out [L.A.b] H H') (kb : BookAt (cB mg) H' { L.A with d := d } B') :
  VAp K sc xs { L with A := { L.A with d := d } } /\ VSt K mg sc xs ns cs { L with A := { L.A with d := d } } H' B' all m lm ls ss := by
 have hF : ∀ x ∈ ({ L with A := { L.A with d := d } } : VA).F, x ∈ L.F \/ H x = none := fun x hx => by
  have hx' : x = L.A.b \/ x = L.A.r \/ x = L.A.t \/ x = d \/ x = L.a \/ x = L.i \/ x = L.S \/ x = L.g := by simpa [VA.F, BA.fp] using hx
  rcases hx' with rfl | rfl | rfl | rfl | rfl | rfl | rfl | rfl
  all_goals first | exact .inr hd | (left; simp [VA.F, BA.fp])
 have hW : ∀ x ∈ [L.A.b], x ∈ L.F := fun x hx => by rw [List.mem_singleton.mp hx]; simp [VA.F, BA.fp]
 have nt := h.nt hW
 have b1 : ∀ y ∈ [L.a, L.i, L.S, L.g, L.n, L.c], y ∉ [L.A.b] := nd_apart ap.nd [6, 7, 8, 9, 10, 11] [4] (by decide)
 have on : ∀ x ∈ L.all, H x ≠ none := fun x hx => by
  have hx' : x ∈ L.A.six \/ x = L.a \/ x = L.i \/ x = L.S \/ x = L.g \/ x = L.n \/ x = L.c := by
   simp only [VA.all, BA.six, List.mem_cons, List.not_mem_nil, or_false] at hx ⊢
   rcases hx with h | h | h | h | h | h | h | h | h | h | h | h <;> simp [h]
  rcases hx' with hx | rfl | rfl | rfl | rfl | rfl | rfl
  ·exact h.bk.on6 x hx
  ·obtain ⟨_, e, _⟩ := h.ke; rw [e]; nofun
  ·obtain ⟨_, e, _⟩ := h.si; rw [e]; nofun
  ·rw [h.st]; nofun
  ·rw [h.lg]; nofun
  ·rw [h.nn]; nofun
  ·obtain ⟨_, e, _⟩ := h.co; rw [e]; nofun
 have hnd : ({ L with A := { L.A with d := d } } : VA).all.Nodup := by
  have h1 : [L.A.h, L.A.r, L.A.t, L.A.b, L.A.dx, L.a, L.i, L.S, L.g, L.n, L.c].Nodup := nd_pick ap.nd [0, 1, 2, 4, 5, 6, 7, 8, 9, 10, 11] (by decide)
  have h2 : d ∉ [L.A.h, L.A.r, L.A.t, L.A.b, L.A.dx, L.a, L.i, L.S, L.g, L.n, L.c] := fun z => on d (mem_pick (L := L.all) [0, 1, 2, 4, 5, 6, 7, 8, 9, 10, 11] d z) hd
  have h3 : (d :: [L.A.h, L.A.r, L.A.t, L.A.b, L.A.dx, L.a, L.i, L.S, L.g, L.n, L.c]).Nodup := List.nodup_cons.mpr ⟨h2, h1⟩
  exact nd_pick h3 [1, 2, 3, 0, 4, 5, 6, 7, 8, 9, 10, 11] (by decide)
 have keep : ∀ y u, y ∈ [L.a, L.i, L.S, L.g, L.n, L.c] -> H y = some u -> H' y = some u := fun y u hy e => o _ _ (b1 y hy) e
 have tup : ∀ b ys, H b = some (.tup ys) -> H' b = some (.tup ys) := nt.tup o
 have lst : ∀ b ys, b ∉ L.F -> H b = some (.lst ys) -> H' b = some (.lst ys) := fun b ys hb e => o _ _ (fun z => hb (hW _ z)) e
 have nF : ∀ b u, b ∉ L.F -> H b = some u -> b ∉ ({ L with A := { L.A with d := d } } : VA).F := fun b u hb e z => by
  rcases hF b z with y | y
  ·exact hb y
  ·rw [y] at e; cases e
 refine ⟨⟨hnd, ?_⟩, ⟨kb, ?_, ?_, keep _ _ (by simp) h.st, fun j hj => ?_, keep _ _ (by simp) h.lg, keep _ _ (by simp) h.nn, h.co.out o nt (b1 _ (by simp)), ap.seq h.sc o hW⟩⟩
 ·rcases ap.s with z | z
  ·exact .inl z
  ·rcases sq_live h.sc with y | y
   ·refine .inr fun x => ?_
    have hx : sc = d \/ sc ∈ L.all := by
     simp only [VA.all, List.mem_cons, List.not_mem_nil, or_false] at x ⊢
     rcases x with h | h | h | h | h | h | h | h | h | h | h | h <;> simp [h]
    rcases hx with rfl | hx
    ·exact y hd
    ·exact z hx
   ·exact .inl y
 ·obtain ⟨kvs, e, hR⟩ := h.ke
  exact ⟨kvs, keep _ _ (by simp) e, pr_imp hR fun v x ⟨l, e1, e2, e3⟩ => ⟨l, e1, lst _ _ e3 e2, nF _ _ e3 e2⟩⟩
 ·obtain ⟨kvs, e, hR⟩ := h.si
  exact ⟨kvs, keep _ _ (by simp) e, hR⟩
 ·obtain ⟨v, e, l, ys, ks, e0, h1, h2, h3, h4⟩ := h.sts j hj
  exact ⟨v, e, l, ys, ks, e0, nF _ _ h1 h2, lst _ _ h1 h2, h3, All2.imp (fun v p ⟨x, l, e, g1, g2, g3⟩ => ⟨x, l, e, tup _ _ g1, lst _ _ g3 g2, nF _ _ g3 g2⟩) h4⟩
end
section
variable {ns : List Int} {cs : List Col} {B : Bk} {all : List Deed} {m : List (Int × List V)} {lm : List (Int × Int)}
theorem VOk.vals (h : VOk ns cs B all m lm) : ∀ i xs, aGet B.rows i = some xs -> okR cs xs := by
 rw [h.hist.rows]
 exact rowsTo_val fun d hd xs e => (h.dok d hd).2.2 xs e
def sinceD (lm : List (Int × Int)) (row now : Int) : Option (List V) -> List (Int × Int)
 | none => lm
 | some _ => aPut lm row now
def keptP (m : List (Int × List V)) (row : Int) : Option (List V) -> List (Int × List V)
 | none => aDrop m row
 | some xs => aPut m row xs
theorem keptP_get (m : List (Int × List V)) (row : Int) (o : Option (List V)) (i : Int) : aGet (keptP m row o) i = if i = row then o else aGet m i := by
 cases o with
 | none => exact aGet_drop
 | some xs => exact aGet_put
theorem VOk.deed (h : VOk ns cs B all m lm) {row : Int} {o : Option (List V)} (hrow : row ∈ ns) (ho : aGet B.rows row = none -> o ≠ none) (hok : ∀ xs, o = some xs -> okR cs xs) :
  VOk ns cs (bkDo B row o) (all ++ [⟨B.now + 1, row, aGet B.rows row, o⟩]) (keptP m row o) (sinceD lm row (B.now + 1) o) := by
 have hrv := h.vals
 refine ⟨h.hist.doIt row o ho, h.heads, fun i => ?_, ?_, fun d hd => ?_, ?_, ?_, fun i x e => ?_⟩
 ·rw [keptP_get]
  have : (bkDo B row o).rows = back1 B.rows row o := by cases o <;> rfl
  rw [this, aGet_back1, h.mm]
 ·cases o with
  | none => exact nodup_drop h.mnd
  | some xs => exact nodup_put h.mnd
 ·rcases List.mem_append.mp hd with hd | hd
  ·exact h.dok d hd
  ·rw [List.mem_singleton.mp hd]
   exact ⟨hrow, fun xs e => hrv row xs e, hok⟩
 ·have := h.tl
  rw [List.length_append, List.length_singleton]
  cases o with
  | none =>
    show (aDrop B.touched row).length ≤ _
    have : (aDrop B.touched row).length ≤ B.touched.length := List.length_filter_le ..
    omega
  | some xs =>
    show (aPut B.touched row (B.now + 1)).length ≤ _
    have := aPut_len B.touched row (B.now + 1)
    omega
 ·have := h.sl
  rw [List.length_append, List.length_singleton]
  cases o with
  | none =>
    show lm.length ≤ _
    omega
  | some xs =>
    show (aPut lm row (B.now + 1)).length ≤ _
    have := aPut_len lm row (B.now + 1)
    omega
 ·cases o with
  | none =>
    have e' : aGet (aDrop B.touched row) i = some x := e
    rw [aGet_drop] at e'
    show aGet lm i = some x
    by_cases z : i = row
    ·rw [if_pos z] at e'; cases e'
    ·rw [if_neg z] at e'; exact h.tm i x e'
  | some xs =>
    have e' : aGet (aPut B.touched row (B.now + 1)) i = some x := e
    show aGet (aPut lm row (B.now + 1)) i = some x
    rw [aGet_put] at e' ⊢
    by_cases z : i = row
    ·rw [if_pos z] at e' ⊢; exact e'
    ·rw [if_neg z] at e' ⊢; exact h.tm i x e'
theorem VOk.goes (h : VOk ns cs B all m lm) {mo : Int} (h1 : B.known < mo) (h2 : mo ≤ B.now) : VOk ns cs { B with done := B.done.drop (mo - B.known).toNat, known := mo } all m lm := by
 have hk := h.hist.kn
 refine ⟨⟨h.hist.rows, ?_, h.hist.now, ⟨by show 0 ≤ mo; omega, h2⟩, h.hist.good, h.hist.wf⟩, h.heads, h.mm, h.mnd, h.dok, h.tl, h.sl, h.tm⟩
 show B.done.drop (mo - B.known).toNat = all.drop mo.toNat
 rw [h.hist.done, List.drop_drop]
 congr 1
 omega
theorem okR.flat {cs : List Col} {xs : List V} (h : okR cs xs) (hc : cs.length ≤ 6) : xs.length ≤ 1000 /\ ∀ x ∈ xs, flat1 x := by
 refine ⟨by have := h.len; omega, fun x hx => ?_⟩
 obtain ⟨i, hi, e⟩ := List.getElem_of_mem hx
 obtain ⟨c, _, hv⟩ := h.get' (b := x) (List.getElem?_eq_some_iff.mpr ⟨hi, e⟩)
 exact hv.flat
theorem VOk.len (h : VOk ns cs B all m lm) (hn : ns.length ≤ 33) : m.length ≤ 33 /\ B.rows.length ≤ 33 := by
 have hrn : (B.rows.map (·.1)).Nodup := by rw [h.hist.rows]; exact rowsTo_nd all
 have hri : ∀ k ∈ B.rows.map (·.1), k ∈ ns := by rw [h.hist.rows]; exact rowsTo_in fun d hd => (h.dok d hd).1
 have h1 := nodup_le hrn hri
 have h2 := nodup_le h.mnd (m := ns) fun k hk => hri k (Classical.byContradiction fun z => aGet_none_iff.mp (by rw [h.mm]; exact aGet_none_iff.mpr z) hk)
 rw [List.length_map] at h1 h2
 omega
end
end
end K33
namespace K33
open PySem L2 PyProof.Rows My Vl Lw
section
variable {P : Program} {w : World} {K : PySem.W.Frag} {mg : Str -> Option Value} {base : Heap}
def PvV (K : PySem.W.Frag) (mg : Str -> Option Value) (a : Addr) (xs : List V) (ns : List Int) (cs : List Col) (Hs : Hp) (i : Nat) (σ : List (Option V)) (H : Hp) : Prop :=
 ∃ (L : VA) (B : Bk) (all : List Deed) (m : List (Int × List V)) (lm : List (Int × Int)) (ls ss : List V), (∃ o9 o10 o11 o12 o13, σ = [some (.ref a), some (.ref L.c), some (.ref L.A.b), some (.ref L.n), some (.ref L.a), some (.ref L.i), some (.ref L.S), some (.ref L.g), some (.int B.known), o9, o10, o11, o12, o13, none]) /\
   VAp K a xs L /\ VSt K mg a xs ns cs L H B all m lm ls ss /\ VOk ns cs B all m lm /\ (ls = all.map fun d => V.int d.row) /\ all.length = i /\ ss.length = i + 1 /\ Hs L.a = none
theorem law_fn (T : Txt K mg) {f : Addr} {fd : FuncData} (F : Fun K "law" "law" s_law f fd) : FnOk P w K mg base (CX1 P w) true 9 f fd ["_law_script"] (spLaw K) := by
 refine fn_sx F sc_law (fun vs H Q E h => by obtain ⟨a, ns, rfl, _⟩ := h; rfl) (fun cdv A outer s H vs Q E hr h => ?_)
 obtain ⟨a, ns, rfl, hS, hl, q⟩ := h
 have nd := sc_law.nd
 have n1 := T.n_range
 have n2 := T.n_len
 have n3 := T.n_list
 have n5 := T.n_sorted
 have n6 := T.n_max
 have hu := hr.units
 have hu1 : _ + 1 < cLine := Nat.lt_of_le_of_lt (Nat.add_le_add_left (by decide : 1 ≤ 64) _) hr.units
 have hsz : sizeLine = 16777216 := sizeLine_eq
 have ndc : (["_law_one", "_law_kept"] : List Str).Nodup := by decide +kernel
 have D0 : Def P w K mg base true 1 "_law_draw" ["_law_script", "_law_k", "_law_many"] (spDraw K) := d__law_draw T
 have D1 : Def P w K mg base true 2 "_law_columns" ["_law_script", "_law_base", "_law_most"] (spCols1 K) := d__law_columns T
 have D2 : Def P w K mg base true 3 "_law_values" ["_law_script", "_law_k", "_law_columns_here"] (spValues1 K) := d__law_values T
 have D3 : Def P w K mg base true 2 "_law_numbers" ["_law_script"] (spNumbers1 K) := d__law_numbers T
 have D4 : Def P w K mg base true 2 "_law_moment" ["_law_script", "_law_k", "_law_oldest", "_law_now"] (spMom33 K) := d__law_moment T
 have D5 : Def P w K mg base true 6 "_law_right" ["_law_book", "_law_way", "_law_moment_here", "_law_oldest", "_law_states", "_law_log"] (spRight33 mg) := d__law_right T
 have D7 : Def P w K mg base true 1 "_law_is_whole" ["_law_found", pDue] spIsWholeL := d__law_is_whole T
 have D8 : Def P w K mg base true 2 "_law_same_rows" ["_law_found", pDue] (spSameRows K) := d__law_same_rows T
 have MB := (f_init (P := P) (w := w) (base := base) T).make T.m_Book T.oi_Book
 have M1 : MDef P w K mg base true 2 (cB mg) "now_rows" ["self"] (spNowRows mg) := (f_now_rows T).meth T.k_Book T.o_Book_now_rows
 have M2 : MDef P w K mg base true 1 (cB mg) "moment" ["self"] (spB0 mg Bk.now) := (f_moment T).meth T.k_Book T.o_Book_moment
 have M3 : MDef P w K mg base true 4 (cB mg) "since" ["self", "row"] (spSince mg) := (f_since T).meth T.k_Book T.o_Book_since
 have M4 : MDef P w K mg base true 1 (cB mg) "oldest" ["self"] (spB0 mg Bk.known) := (f_oldest T).meth T.k_Book T.o_Book_oldest
 have M5 : MDef P w K mg base true 6 (cB mg) "put" ["self", "row", "values"] (spPut mg) := (f_put T).meth T.k_Book T.o_Book_put
 have M6 : MDef P w K mg base true 6 (cB mg) "change" ["self", "row", "values"] (spChange mg) := (f_change T).meth T.k_Book T.o_Book_change
 have M7 : MDef P w K mg base true 4 (cB mg) "take" ["self", "row"] (spTake mg) := (f_take T).meth T.k_Book T.o_Book_take
 have lastL : ∀ (L : VA) (ns' : List Int) (cs : List Col) (B : Bk) (all : List Deed) (m : List (Int × List V)) (lm : List (Int × Int)) (ls ss : List V) (o8 o9 o10 o11 o12 o13 : Option V) (H1 : Hp), goodNums ns' -> cs.length ≤ 6 -> VAp K a (ns.map V.int) L -> VSt K mg a (ns.map V.int) ns' cs L H1 B all m lm ls ss -> VOk ns' cs B all m lm -> all.length = 30 -> ss.length = 31 -> H L.a = none ->
   SXs (CxF true P w K mg base N_law "law" (defScope s_law) f cdv A outer s H E) ((defBody s_law).drop 9) { nx := fun _ H' => Q .non H', rt := Q } [some (.ref a), some (.ref L.c), some (.ref L.A.b), some (.ref L.n), some (.ref L.a), some (.ref L.i), some (.ref L.S), some (.ref L.g), o8, o9, o10, o11, o12, o13, none] H1 := by
  intro L ns' cs B all m lm ls ss o8 o9 o10 o11 o12 o13 H1 hg hc6 ap h ok hal hsl hHa
  have hgn := hg.2.1
  have hlen := ok.len hgn
  obtain ⟨kvs, ea, hR⟩ := id h.ke
  obtain ⟨lvs, el, hL⟩ := id h.si
  have s6 : ∀ y ∈ L.A.six, y ∉ [L.a] := nd_apart ap.nd [0, 1, 2, 3, 4, 5] [6] (by decide)
  have s1 : ∀ y ∈ [L.i, L.S], y ∉ [L.a] := nd_apart ap.nd [7, 8] [6] (by decide)
  have oD : Out [L.a] H1 (dropH H1 L.a) := fun b u hb e => by rw [dropH_ne (fun z => hb (by rw [z]; simp))]; exact e
  have aF : ∀ x ∈ [L.a], x ∈ L.F := fun x hx => by rw [List.mem_singleton.mp hx]; simp [VA.F]
  have kBd : BookAt (cB mg) (dropH H1 L.a) L.A B := h.bk.out oD (h.nt aF) s6
  have eld : (dropH H1 L.a) L.i = some (.dK lvs) := oD _ _ (s1 _ (by simp)) el
  have eSd : (dropH H1 L.a) L.S = some (.lst ss) := oD _ _ (s1 _ (by simp)) h.st
  have stD := h.stats oD aF
  refine sxs_cons ?_
  refine sx_forD (by walk_at "po") (by rfl) (by intro _; rfl) ?_
  walk_at "e"
  refine ⟨L.a, kvs, m.map (·.1), rfl, ea, pr_keys hR, hHa, fun i σ H' => (∃ o14, σ = [some (.ref a), some (.ref L.c), some (.ref L.A.b), some (.ref L.n), some (.ref L.a), some (.ref L.i), some (.ref L.S), some (.ref L.g), o8, o9, o10, o11, o12, o13, o14]) /\ Same (dropH H1 L.a) H', ⟨⟨_, rfl⟩, Same.refl _⟩, fun i k σ H' hk hP => ?_, fun σ H' hP => ?_⟩
  ·obtain ⟨⟨o14, rfl⟩, sm⟩ := hP
   have kB' := kBd.same sm
   have gl := DGet.k (k := Sum.inl k) (sm _ _ eld)
   have hmem : k ∈ m.map (·.1) := List.mem_of_getElem? hk
   have hrow : aGet B.rows k ≠ none := fun z => aGet_none_iff.mp (by rw [ok.mm]; exact z) hmem
   have hkn : k ∈ ns' := by
    have : k ∈ B.rows.map (·.1) := Classical.byContradiction fun z => hrow (aGet_none_iff.mpr z)
    rw [ok.hist.rows] at this
    exact rowsTo_in (fun d hd => (ok.dok d hd).1) k this
   have hkb := hg.2.2.2 k hkn
   refine eg_name nd (by rfl) (.inl rfl) (.inl rfl) ?_
   refine sxs_one (sx_if ?_)
   walk_at "ex"
   refine ev_meth (pl := _) hr xok_fn (by rfl) (by rfl) (by rfl) ?_
   walk_at "e"
   refine ⟨L.A.b, cB mg, L.A.dx, _, true, 4, _, spSince mg, rfl, kB'.ins, by rfl, M3, by decide, id, ?_⟩
   walk_at "ex"
   refine ⟨L.A, B, k, rfl, kB', hkb.1, hkb.2, ok.hist.wf, fun z => absurd z hrow, fun t et => ?_⟩
   have elm := ok.tm k t et
   rcases pr_get hL k with ⟨_, e2⟩ | ⟨u, x, e1, e2, hx⟩
   ·rw [e2] at elm; cases elm
   ·rw [e2] at elm
    cases elm
    have hx' : u = .int t := hx
    subst hx'
    rw [e1] at gl
    walk_at "ex"
    refine i_dict hu1 gl ?_
    walk_at "ex"
    refine ⟨t, rfl, ?_⟩
    walk_at "ex"
    exact sxs_nil ⟨⟨_, rfl⟩, sm⟩
  ·obtain ⟨⟨o14, rfl⟩, sm⟩ := hP
   have kB' := kBd.same sm
   obtain ⟨sv, gsv, sl, zs, ks2, rfl, slF, esl, hks2, hzs⟩ := stD 30 (by omega)
   have hrn : (B.rows.map (·.1)).Nodup := by rw [ok.hist.rows]; exact rowsTo_nd all
   have hin : ∀ d ∈ all, d.row ∈ ns' := fun d hd => (ok.dok d hd).1
   rw [<- hal, List.take_length, <- ok.hist.rows] at hks2 hzs
   have hfr : ∀ p ∈ toldBy B.rows ks2, flatRow p := told_flat fun i xs e => (ok.vals i xs e).flat hc6
   have hkl : ks2.length ≤ 33 := by
    have := nodup_le hks2.1 (m := ns') fun x hx => by
     have hx2 : x ∈ B.rows.map (·.1) := Classical.byContradiction fun z => (hks2.2.2 x).mp hx (aGet_none_iff.mpr z)
     rw [ok.hist.rows] at hx2
     exact rowsTo_in hin x hx2
    omega
   refine sxs_one (sx_ret ?_)
   walk_at "ex"
   refine ev_meth0 (pl := _) hr xok_fn (by rfl) ?_
   walk_at "e"
   refine ⟨L.A.b, cB mg, L.A.dx, _, true, 2, _, spNowRows mg, rfl, kB'.ins, by rfl, M1, by decide, id, L.A, B, rfl, kB', by omega, fun p ys ks H2 sm2 hp hks hso ep hys => ?_⟩
   have etold : toldBy B.rows ks = toldBy B.rows ks2 := told_eq2 (keysOf_perm hrn hks hso) hks2 fun _ => rfl
   rw [etold] at hys
   have htl : (toldBy B.rows ks2).length ≤ 33 := by
    show (List.map _ ks2).length ≤ 33
    rw [List.length_map]; exact hkl
   have sm12 := sm.trans sm2
   walk_at "ex"
   refine i_list (SqL.of (sm12 _ _ eSd)) (show atI ss (((30 : Nat)) : Int) = some (.ref sl) from atI_nat gsv) ?_
   walk_at "ex"
   refine ⟨p, sl, ys, zs, toldBy B.rows ks2, rfl, ep, sm12 _ _ esl, All2.imp (fun v p ⟨t, l, e, g1, g2, _⟩ => ⟨t, l, e, g1, g2⟩) hys, All2.imp (fun v p ⟨t, l, e, g1, g2, _⟩ => ⟨t, l, e, sm12 _ _ g1, sm12 _ _ g2⟩) hzs, by omega, hfr, ?_⟩
   exact q _
 have endL : ∀ (i : Nat) (bk : List (Option V) -> Hp -> Prop) (ns' : List Int) (cs : List Col) (L : VA) (B : Bk) (all : List Deed) (m : List (Int × List V)) (lm : List (Int × Int)) (ls ss : List V) (kn way mo : Int) (o10 o11 : Option V) (H1 : Hp), i < 30 -> goodNums ns' -> cs.length ≤ 6 -> VAp K a (ns.map V.int) L -> VSt K mg a (ns.map V.int) ns' cs L H1 B all m lm ls ss -> VOk ns' cs B all m lm -> H L.a = none -> (ls = all.map fun d => V.int d.row) -> all.length = i + 1 -> ss.length = i + 2 -> (way = 0 -> mo ≤ (i : Int) + 1 -> B.known = if mo > kn then mo else kn) -> (¬ (way = 0 /\ mo ≤ (i : Int) + 1) -> B.known = kn) ->
   SXs (CxF true P w K mg base N_law "law" (defScope s_law) f cdv A outer s H E) ((inFor (stAt (defBody s_law) 8)).drop 8) { nx := PvV K mg a (ns.map V.int) ns' cs H (i + 1), ct := PvV K mg a (ns.map V.int) ns' cs H (i + 1), bk := bk, rt := Q } [some (.ref a), some (.ref L.c), some (.ref L.A.b), some (.ref L.n), some (.ref L.a), some (.ref L.i), some (.ref L.S), some (.ref L.g), some (.int kn), some (.int i), o10, o11, some (.int way), some (.int mo), none] H1 := by
  intro i bk ns' cs L B all m lm ls ss kn way mo o10 o11 H1 hi hg hc6 ap h ok hHa hls hal hsl hk1 hk2
  have hn : B.now = (i : Int) + 1 := by rw [ok.hist.now, hal]; omega
  have last : SXs (CxF true P w K mg base N_law "law" (defScope s_law) f cdv A outer s H E) ((inFor (stAt (defBody s_law) 8)).drop 9) { nx := PvV K mg a (ns.map V.int) ns' cs H (i + 1), ct := PvV K mg a (ns.map V.int) ns' cs H (i + 1), bk := bk, rt := Q } [some (.ref a), some (.ref L.c), some (.ref L.A.b), some (.ref L.n), some (.ref L.a), some (.ref L.i), some (.ref L.S), some (.ref L.g), some (.int B.known), some (.int i), o10, o11, some (.int way), some (.int mo), none] H1 := by
   refine sxs_one (sx_if ?_)
   walk_at "ex"
   refine ev_meth0 (pl := _) hr xok_fn (by rfl) ?_
   walk_at "e"
   refine ⟨L.A.b, cB mg, L.A.dx, _, true, 1, _, spB0 mg Bk.known, rfl, h.bk.ins, by rfl, M4, by decide, id, L.A, B, rfl, h.bk, ?_⟩
   walk_at "ex"
   refine ⟨B.known, rfl, ?_⟩
   walk_at "ex"
   refine ev_meth0 (pl := _) hr xok_fn (by rfl) ?_
   walk_at "e"
   refine ⟨L.A.b, cB mg, L.A.dx, _, true, 1, _, spB0 mg Bk.now, rfl, h.bk.ins, by rfl, M2, by decide, id, L.A, B, rfl, h.bk, ?_⟩
   walk_at "ex"
   refine ⟨B.now, by rw [hn], ?_⟩
   walk_at "ex"
   exact sxs_nil ⟨L, B, all, m, lm, ls, ss, ⟨_, _, _, _, _, rfl⟩, ap, h, ok, hls, hal, hsl, hHa⟩
  refine sxs_cons (sx_if ?_)
  walk_at "ex"
  refine ifD (fun hA => ?_) (fun hA => ?_)
  ·have hA := V.int.inj hA
   walk_at "ex"
   refine ifD (fun hB => ?_) (fun hB => ?_)
   ·refine sxs_one ?_
    walk_at "s"
    walk_at "ex"
    refine c_max2 (by rfl) ?_
    rw [<- hk1 hA hB]
    exact last
   ·have e := hk2 fun z => hB z.2
    rw [<- e]
    exact sxs_nil last
  ·have hA := vn hA
   have e := hk2 fun z => hA z.1
   rw [<- e]
   exact sxs_nil last
 have askL : ∀ (i : Nat) (bk : List (Option V) -> Hp -> Prop) (ns' : List Int) (cs : List Col) (L : VA) (B : Bk) (all : List Deed) (m : List (Int × List V)) (lm : List (Int × Int)) (ls ss : List V) (o10 o11 o12 o13 : Option V) (H1 : Hp), i < 30 -> goodNums ns' -> cs.length ≤ 6 -> VAp K a (ns.map V.int) L -> VSt K mg a (ns.map V.int) ns' cs L H1 B all m lm ls ss -> VOk ns' cs B all m lm -> H L.a = none -> (ls = all.map fun d => V.int d.row) -> all.length = i + 1 -> ss.length = i + 2 ->
   SXs (CxF true P w K mg base N_law "law" (defScope s_law) f cdv A outer s H E) ((inFor (stAt (defBody s_law) 8)).drop 5) { nx := PvV K mg a (ns.map V.int) ns' cs H (i + 1), ct := PvV K mg a (ns.map V.int) ns' cs H (i + 1), bk := bk, rt := Q } [some (.ref a), some (.ref L.c), some (.ref L.A.b), some (.ref L.n), some (.ref L.a), some (.ref L.i), some (.ref L.S), some (.ref L.g), some (.int B.known), some (.int i), o10, o11, o12, o13, none] H1 := by
  intro i bk ns' cs L B all m lm ls ss o10 o11 o12 o13 H1 hi hg hc6 ap h ok hHa hls hal hsl
  have hgn := hg.2.1
  have hkn := ok.hist.kn
  have hnow := ok.hist.now
  refine sxs_cons ?_
  walk_at "s"
  walk_at "ex"
  refine ⟨a, ns, _, 4, rfl, h.sc, hl, by omega, by omega, by decide, ?_⟩
  generalize drawF ns (3 * (i : Int) + 400) 4 = dv
  walk_at "ex"
  have w0 := Int.emod_nonneg dv (b := 3) (by decide)
  have w1 := Int.emod_lt_of_pos dv (b := 3) (by decide)
  generalize dv % 3 = way at w0 w1 ⊢
  refine sxs_cons ?_
  walk_at "s"
  walk_at "ex"
  refine ⟨a, ns, _, B.known, _, rfl, h.sc, hl, by omega, by omega, hkn.1, by omega, by omega, fun mo H2 sm2 m1 m2 => ?_⟩
  have h2 := h.same sm2
  refine sxs_cons (sx_if ?_)
  walk_at "ex"
  refine ⟨L.F, L.A, B, way, mo, L.S, L.g, ss, all, ns', rfl, h2.bk, ok.hist, by omega, w0, by omega, fun d hd xs e => ((ok.dok d hd).2.2 xs e).flat hc6, fun d hd => (ok.dok d hd).1, hgn, h2.st, fun j hj => h2.sts j (by omega), by rw [<- hls]; exact h2.lg, fun H3 sm3 hz => ?_, fun e0 z1 z2 d H3 hd o3 k3 => ?_⟩
  ·walk_at "ex"
   refine sxs_nil (endL i bk ns' cs L B all m lm ls ss B.known way mo _ _ H3 hi hg hc6 ap (h2.same sm3) ok hHa hls hal hsl (fun y1 y2 => ?_) fun _ => rfl)
   rw [if_neg (by have := hz y1 (by omega); omega)]
  ·obtain ⟨ap3, h3⟩ := h2.goes ap hd o3 k3
   walk_at "ex"
   refine sxs_nil (endL i bk ns' cs { L with A := { L.A with d := d } } { B with done := B.done.drop (mo - B.known).toNat, known := mo } all m lm ls ss B.known way mo _ _ H3 hi hg hc6 ap3 h3 (ok.goes z1 z2) hHa hls hal hsl (fun y1 y2 => ?_) fun y => absurd (And.intro e0 (by omega)) y)
   rw [if_pos (by omega)]
 have stL : ∀ (i : Nat) (bk : List (Option V) -> Hp -> Prop) (ns' : List Int) (cs : List Col) (L : VA) (B : Bk) (all : List Deed) (m : List (Int × List V)) (lm : List (Int × Int)) (ls ss : List V) (row : Int) (o11 o12 o13 : Option V) (H1 : Hp), i < 30 -> goodNums ns' -> cs.length ≤ 6 -> VAp K a (ns.map V.int) L -> VSt K mg a (ns.map V.int) ns' cs L H1 B all m lm ls ss -> VOk ns' cs B all m lm -> H L.a = none -> (ls ++ [V.int row] = all.map fun d => V.int d.row) -> all.length = i + 1 -> ss.length = i + 1 ->
   SXs (CxF true P w K mg base N_law "law" (defScope s_law) f cdv A outer s H E) ((inFor (stAt (defBody s_law) 8)).drop 3) { nx := PvV K mg a (ns.map V.int) ns' cs H (i + 1), ct := PvV K mg a (ns.map V.int) ns' cs H (i + 1), bk := bk, rt := Q } [some (.ref a), some (.ref L.c), some (.ref L.A.b), some (.ref L.n), some (.ref L.a), some (.ref L.i), some (.ref L.S), some (.ref L.g), some (.int B.known), some (.int i), some (.int row), o11, o12, o13, none] H1 := by
  intro i bk ns' cs L B3 all3 m3 lm3 ls ss row o11 o12 o13 H1 hi hg hc6 ap h ok3 hHa hls hal3 hsl
  have hgn := hg.2.1
  have hlen3 := ok3.len hgn
  have hll : ls.length + 1 = all3.length := by have := congrArg List.length hls; simpa using this
  refine sxs_cons (sx_expr (by rfl) (ev_bm PySem.F.plainAttrs_list PySem.F.slot_list_append PySem.F.type_list_append (by rfl) (by rfl) (by rfl) (by rfl) (by rfl) ?_))
  walk_at "e"
  refine ⟨.inl ⟨rfl, _, SqL.of h.lg⟩, ?_⟩
  walk_at "go"
  refine mt_by mt_append ⟨L.g, _, _, rfl, rfl, h.lg, by omega, ?_⟩
  have gF : ∀ x ∈ [L.g], x ∈ L.F := fun x hx => by rw [List.mem_singleton.mp hx]; simp [VA.F]
  have g6 : ∀ y ∈ L.A.six, y ∉ [L.g] := nd_apart ap.nd [0, 1, 2, 3, 4, 5] [9] (by decide)
  have g1 : ∀ y ∈ [L.a, L.i, L.S], y ∉ [L.g] := nd_apart ap.nd [6, 7, 8] [9] (by decide)
  have og : Out [L.g] H1 (upd H1 L.g (.lst (ls ++ [.int row]))) := Out.upd (by simp)
  have h3 : VSt K mg a (ns.map V.int) ns' cs L (upd H1 L.g (.lst (ls ++ [.int row]))) B3 all3 m3 lm3 (ls ++ [.int row]) ss := h.chg ap og gF (h.bk.out og (h.nt gF) g6) (h.kept og gF (g1 _ (by simp))) (h.since og (g1 _ (by simp))) (og _ _ (g1 _ (by simp)) h.st) (h.stats og gF) upd_same
  generalize upd H1 L.g (.lst (ls ++ [.int row])) = H3 at h3 ⊢
  generalize ls ++ [V.int row] = ls3 at h3 hls
  clear og h
  obtain ⟨kvs, ea, hR⟩ := id h3.ke
  have hkl := hR.len
  refine sxs_cons (sx_expr (by rfl) (ev_bm PySem.F.plainAttrs_list PySem.F.slot_list_append PySem.F.type_list_append (by rfl) (by rfl) (by rfl) (by rfl) (by rfl) ?_))
  walk_at "e"
  refine ⟨.inl ⟨rfl, _, SqL.of h3.st⟩, ?_⟩
  walk_at "e"
  refine ev_compL ["_law_one", "_law_kept"] (σ' := [none, some (.ref L.a)]) (by rfl) (by rfl) (compSc_of (defScope s_law) (by rfl) (by rfl) (by decide +kernel)) (by intro _; rfl) ?_
  refine cb_sorted (by rfl) n5 (by rfl) (by rfl) ?_
  walk_at "go"
  refine c_sortedD (ks := m3.map (·.1)) (by rfl) ea (pr_keys hR) (by rw [List.length_map]; omega) fun Lk ks hL hpk hsk => ?_
  have sm0 : Same H3 (upd H3 Lk (.lst (ks.map V.int))) := Same.upd hL
  have eL : (upd H3 Lk (.lst (ks.map V.int))) Lk = some (.lst (ks.map V.int)) := upd_same
  generalize upd H3 Lk (.lst (ks.map V.int)) = H4 at sm0 eL ⊢
  have hkl2 : ks.length = m3.length := by rw [hpk.length_eq, List.length_map]
  have hkm : (ks.map V.int).length = ks.length := List.length_map ..
  refine ⟨Lk, _, rfl, SqL.of eL, by omega, fun τ => ∃ o1, τ = [o1, some (.ref L.a)], fun E2 i u H' => ∃ k t l, ks[i]? = some k /\ u = .ref t /\ t ≠ E2 /\ l ≠ E2 /\ H' t = some (.tup [.int k, .ref l]) /\ H' l = some (.lst ((aGet m3 k).getD [])) /\ H3 l = none, ⟨none, rfl⟩, fun E2 i u H2 H3 ys y1 y2 y3 => ?_, fun fp E2 C s3 H0 j τ x H5 H6 hE2 hj hτ sm5 hys hG => ?_, fun L2 H6 zs hL2 hl2 hx2 e2 sm6 => ?_⟩
  ·obtain ⟨k, t, l, z1, z2, z3, z4, z5, z6, z7⟩ := y3
   exact ⟨k, t, l, z1, z2, z3, z4, y2 _ _ z3 z5, y2 _ _ z4 z6, z7⟩
  ·obtain ⟨o1, rfl⟩ := hτ
   obtain ⟨hx, rfl⟩ := hG
   have hjk : j < ks.length := by rw [hkm] at hj; exact hj
   have hk : ks[j]? = some ks[j] := List.getElem?_eq_getElem hjk
   rw [List.getElem?_map, hk] at hx
   have hx' : x = .int ks[j] := by simpa using hx.symm
   subst hx'
   have hmem : ks[j] ∈ m3.map (·.1) := hpk.mem_iff.mp (List.getElem_mem hjk)
   have sm05 := sm0.trans sm5
   refine eg_name ndc (by rfl) (.inl rfl) (.inr rfl) ?_
   walk_at "go"
   rcases pr_get hR ks[j] with ⟨_, e3⟩ | ⟨u, xs, e1, e3, lu, rfl, hlu, _⟩
   ·exact absurd hmem (aGet_none_iff.mp e3)
   have g4 := DGet.k (k := Sum.inl ks[j]) (sm05 _ _ ea)
   rw [e1] at g4
   refine i_dict hu1 g4 ?_
   walk_at "go"
   refine c_list (.inl (SqL.of (sm05 _ _ hlu))) fun l hl4 => ?_
   have sml : Same H5 (upd H5 l (.lst xs)) := Same.upd hl4
   have el : (upd H5 l (.lst xs)) l = some (.lst xs) := upd_same
   generalize upd H5 l (.lst xs) = H7 at sml el ⊢
   walk_at "go"
   refine ⟨by show 2 ≤ sizeLine; omega, fun t ht => ?_⟩
   have smt : Same H7 (upd H7 t (.tup [.int ks[j], .ref l])) := Same.upd ht
   obtain ⟨ys0, hE⟩ := hys
   refine ⟨⟨_, rfl⟩, ⟨ks[j], t, l, hk, rfl, fun e => ?_, fun e => ?_, upd_same, ?_, sm05.free hl4⟩, sml.trans smt⟩
   ·rw [e, sml _ _ hE] at ht; cases ht
   ·rw [e, hE] at hl4; cases hl4
   ·rw [e3]
    exact smt _ _ el
  have sm36 := sm0.trans sm6
  have L2n : H3 L2 = none := sm0.free hL2
  have L2F : L2 ∉ L.F := fun z => h3.live L2 z L2n
  have hzs : All2 (RowF L.F H6) zs (toldBy m3 ks) := all2_of_get (R := fun v p => RowF L.F H6 v p) (l := zs) (m := toldBy m3 ks) (by unfold toldBy; rw [List.length_map, hl2, hkm]) fun i p hp' => by
   unfold toldBy at hp'
   rw [List.getElem?_map] at hp'
   have hi : i < zs.length := by
    rw [hl2, hkm]
    cases e : ks[i]? with
    | none => rw [e] at hp'; cases hp'
    | some k => exact (List.getElem?_eq_some_iff.mp e).1
   have hy : zs[i]? = some zs[i] := List.getElem?_eq_getElem hi
   obtain ⟨k, t, l, z1, z2, z3, z4, z5, z6, z7⟩ := hx2 i _ hy
   rw [z1] at hp'
   have hp2 : p = (k, (aGet m3 k).getD []) := by simpa using hp'.symm
   rw [hp2]
   exact ⟨_, hy, t, l, z2, z5, z6, fun z => h3.live l z z7⟩
  have h6 := h3.same sm36
  have a8 : ∀ y ∈ [L.a, L.i, L.g], y ∉ [L.S] := nd_apart ap.nd [6, 7, 9] [8] (by decide)
  have a6 : ∀ y ∈ L.A.six, y ∉ [L.S] := nd_apart ap.nd [0, 1, 2, 3, 4, 5] [8] (by decide)
  have SF : ∀ x ∈ [L.S], x ∈ L.F := fun x hx => by rw [List.mem_singleton.mp hx]; simp [VA.F]
  walk_at "go"
  refine mt_by mt_append ⟨L.S, _, _, rfl, rfl, h6.st, by omega, ?_⟩
  have o7 : Out [L.S] H6 (upd H6 L.S (.lst (ss ++ [.ref L2]))) := Out.upd (by simp)
  have h7 : VSt K mg a (ns.map V.int) ns' cs L (upd H6 L.S (.lst (ss ++ [.ref L2]))) B3 all3 m3 lm3 ls3 (ss ++ [.ref L2]) := by
   refine h6.chg ap o7 SF (h6.bk.out o7 (h6.nt SF) a6) (h6.kept o7 SF (a8 _ (by simp))) (h6.since o7 (a8 _ (by simp))) upd_same (fun j hj => ?_) (o7 _ _ (a8 _ (by simp)) h6.lg)
   by_cases hjs : j < ss.length
   ·obtain ⟨w, e, hs⟩ := h6.stats o7 SF j hjs
    exact ⟨w, by rw [List.getElem?_append_left hjs]; exact e, hs⟩
   ·rw [List.length_append, List.length_singleton] at hj
    have ej : j = ss.length := by omega
    subst ej
    refine ⟨.ref L2, by rw [List.getElem?_append_right (Nat.le_refl _), Nat.sub_self]; rfl, ?_⟩
    rw [show all3.take ss.length = all3 from by rw [hsl, <- hal3, List.take_length], <- ok3.hist.rows]
    have st7 : StAt L.F H6 (.ref L2) B3.rows := ⟨L2, zs, ks, rfl, L2F, e2, (keysOf_perm ok3.mnd hpk hsk).eq ok3.mm, by rw [<- toldBy_eq ok3.mm]; exact hzs⟩
    exact st7.stay ((h6.nt SF).tup o7) fun b ys hb e => o7 _ _ (fun z => hb (SF _ z)) e
  have hsl7 : (ss ++ [V.ref L2]).length = i + 2 := by rw [List.length_append, List.length_singleton]; omega
  exact askL i bk ns' cs L B3 all3 m3 lm3 ls3 _ _ _ _ _ _ hi hg hc6 ap h7 ok3 hHa hls hal3 hsl7
 have deeds : ∀ (ns' : List Int) (cs : List Col) (σ : List (Option V)) (H1 : Hp), goodNums ns' -> cs.length ≤ 6 -> PvV K mg a (ns.map V.int) ns' cs H 0 σ H1 ->
   SXs (CxF true P w K mg base N_law "law" (defScope s_law) f cdv A outer s H E) ((defBody s_law).drop 8) { nx := fun _ H' => Q .non H', rt := Q } σ H1 := by
  intro ns' cs σ H1 hg hc6 hP
  have hgn := hg.2.1
  have hg3 := hg.1
  refine sxs_cons ?_
  refine sx_forR (by walk_at "po") (by rfl) (by rfl) n1 (by rfl) ?_
  have hP0 := hP
  obtain ⟨L0, B0, all0, m0, lm0, ls0, ss0, ⟨p9, p10, p11, p12, p13, rfl⟩, _⟩ := hP
  walk_at "go"
  refine ⟨by omega, by omega, PvV K mg a (ns.map V.int) ns' cs H, hP0, fun i σ H' hi hP => ?_, fun σ H' hP => ?_⟩
  rotate_left
  ·obtain ⟨L, B, all, m, lm, ls, ss, ⟨o9, o10, o11, o12, o13, rfl⟩, ap, h, ok, hls, hal, hsl, hHa⟩ := hP
   exact lastL L ns' cs B all m lm ls ss _ _ _ _ _ _ _ hg hc6 ap h ok hal hsl hHa
  clear hP0
  obtain ⟨L, B, all, m, lm, ls, ss, ⟨o9, o10, o11, o12, o13, rfl⟩, ap, h, ok, hls, hal, hsl, hHa⟩ := hP
  have hi' : i < 30 := by have := hi; omega
  have hlen := ok.len hgn
  have hnow := ok.hist.now
  have hdl : B.done.length ≤ all.length := by rw [ok.hist.done, List.length_drop]; omega
  have htl := ok.tl
  have hsl2 := ok.sl
  have hsmall : smallB B := ⟨by omega, by omega, by omega⟩
  have bF : ∀ x ∈ L.A.fp, x ∈ L.F := fun x hx => List.mem_append_left _ hx
  have a1 : ∀ y ∈ [L.a, L.i, L.S, L.g], y ∉ L.A.fp := nd_apart ap.nd [6, 7, 8, 9] [4, 1, 2, 3] (by decide)
  have a2 : ∀ y ∈ [L.S, L.g], y ∉ [L.a, L.i, L.A.b, L.A.r, L.A.t, L.A.d] := nd_apart ap.nd [8, 9] [6, 7, 4, 1, 2, 3] (by decide)
  have a3 : ∀ y ∈ L.A.six, y ∉ [L.a] := nd_apart ap.nd [0, 1, 2, 3, 4, 5] [6] (by decide)
  have a4 : ∀ y ∈ L.A.six, y ∉ [L.i] := nd_apart ap.nd [0, 1, 2, 3, 4, 5] [7] (by decide)
  have a5' : ∀ y ∈ [L.i], y ∉ [L.a] := nd_apart ap.nd [7] [6] (by decide)
  have a5 : L.i ≠ L.a := fun z => a5' L.i (by simp) (by rw [z]; simp)
  obtain ⟨kvs, ea, hR⟩ := id h.ke
  obtain ⟨lvs, el, hL⟩ := id h.si
  have hkl := hR.len
  have hll := hL.len
  have sn : SqL K H' L.n (ns'.map V.int) := SqL.of h.nn
  have hnl : (ns'.map V.int).length = ns'.length := List.length_map ..
  have hC : Cols H' L.c B.heads := by rw [ok.heads]; exact h.co
  have h6 : B.heads.length ≤ 6 := by rw [ok.heads]; exact hc6
  have after : ∀ (bk : List (Option V) -> Hp -> Prop) (row : Int) (o : Option (List V)) (o11 : Option V) (H3 : Hp), row ∈ ns' -> (aGet B.rows row = none -> o ≠ none) -> (∀ xs, o = some xs -> okR cs xs) -> Out (L.a :: L.i :: L.A.fp) H' H3 -> BookAt (cB mg) H3 L.A (bkDo B row o) -> KeptV L.F H3 L.a (keptP m row o) -> DictAt IntAt H3 L.i (sinceD lm row (B.now + 1) o) ->
    SXs (CxF true P w K mg base N_law "law" (defScope s_law) f cdv A outer s H E) ((inFor (stAt (defBody s_law) 8)).drop 3) { nx := PvV K mg a (ns.map V.int) ns' cs H (i + 1), ct := PvV K mg a (ns.map V.int) ns' cs H (i + 1), bk := bk, rt := Q } [some (.ref a), some (.ref L.c), some (.ref L.A.b), some (.ref L.n), some (.ref L.a), some (.ref L.i), some (.ref L.S), some (.ref L.g), some (.int B.known), some (.int i), some (.int row), o11, o12, o13, none] H3 := by
   intro bk row o o11 H3 hrow ho hok o3 k3 kk3 ks3
   have hW : ∀ x ∈ L.a :: L.i :: L.A.fp, x ∈ L.F := fun x hx => by
    rcases List.mem_cons.mp hx with rfl | hx
    ·simp [VA.F]
    ·rcases List.mem_cons.mp hx with rfl | hx
     ·simp [VA.F]
     ·exact bF x hx
   have h3 : VSt K mg a (ns.map V.int) ns' cs L H3 (bkDo B row o) (all ++ [⟨B.now + 1, row, aGet B.rows row, o⟩]) (keptP m row o) (sinceD lm row (B.now + 1) o) ls ss := h.chg ap o3 hW k3 kk3 ks3 (o3 _ _ (a2 _ (by simp)) h.st) (fun j hj => by
    obtain ⟨w, e, hs⟩ := h.stats o3 hW j hj
    refine ⟨w, e, ?_⟩
    rw [List.take_append_of_le_length (by omega)]
    exact hs) (o3 _ _ (a2 _ (by simp)) h.lg)
   have hkn : (bkDo B row o).known = B.known := by cases o <;> rfl
   have := stL i bk ns' cs L (bkDo B row o) (all ++ [⟨B.now + 1, row, aGet B.rows row, o⟩]) (keptP m row o) (sinceD lm row (B.now + 1) o) ls ss row o11 o12 o13 H3 hi' hg hc6 ap h3 (ok.deed hrow ho hok) hHa (by rw [List.map_append, hls]; rfl) (by rw [List.length_append, List.length_singleton]; omega) hsl
   rw [hkn] at this
   exact this
  refine eg_name nd (by rfl) (.inl rfl) (.inl rfl) ?_
  refine sxs_cons ?_
  walk_at "s"
  walk_at "ex"
  refine ⟨a, ns, _, _, rfl, h.sc, hl, by omega, by omega, by omega, ?_⟩
  have j0 := drawF_nn ns (3 * (i : Int) + 502) (m := ((ns'.map V.int).length : Nat)) (by omega)
  have j1 := drawF_lt ns (3 * (i : Int) + 502) (m := ((ns'.map V.int).length : Nat)) (by omega)
  generalize drawF ns (3 * (i : Int) + 502) ((ns'.map V.int).length : Nat) = jv at j0 j1 ⊢
  obtain ⟨j, rfl⟩ := Int.eq_ofNat_of_zero_le j0
  have hj : j < ns'.length := by omega
  refine i_list sn (v := .int ns'[j]) (atI_nat (by rw [List.getElem?_map, List.getElem?_eq_getElem hj]; rfl)) ?_
  have hrow : ns'[j] ∈ ns' := List.getElem_mem hj
  have hrb := hg.2.2.2 _ hrow
  generalize ns'[j] = row at hrow hrb ⊢
  refine sxs_cons ?_
  walk_at "s"
  walk_at "ex"
  refine ⟨a, ns, _, L.c, B.heads, rfl, h.sc, hl, by omega, by omega, hC, h6, fun v xs H1 sm1 hv ev hall => ?_⟩
  have vF : v ∉ L.F := fun z => h.live v z hv
  have kB1 := h.bk.same sm1
  have ea1 := sm1 _ _ ea
  have el1 := sm1 _ _ el
  have hR1 : All2 (PR (LR L.F H1)) kvs m := pr_imp hR fun v x h => h.stay fun b ys _ e => sm1 _ _ e
  have g1 := DGet.k (k := Sum.inl row) ea1
  have hallc : okR cs xs := by rw [<- ok.heads]; exact hall
  refine sxs_cons (sx_if ?_)
  walk_at "ex"
  refine o_inD hu1 g1 ?_
  rcases pr_get hR1 row with ⟨e1, e2⟩ | ⟨u, x, e1, e2, lu, rfl, hlu, hluF⟩
  ·rw [e1, show (none : Option V).isSome = false from rfl]
   have eB : aGet B.rows row = none := by rw [<- ok.mm]; exact e2
   walk_at "ex"
   refine sxs_cons (sx_if ?_)
   walk_at "ex"
   refine o_inD hu1 g1 ?_
   rw [e1, show (none : Option V).isSome = false from rfl]
   walk_at "ex"
   refine sxs_one (sx_expr (by rfl) ?_)
   refine ev_meth (pl := _) hr xok_fn (by rfl) (by rfl) (by rfl) ?_
   walk_at "e"
   refine ⟨L.A.b, cB mg, L.A.dx, _, true, 6, _, spPut mg, rfl, kB1.ins, by rfl, M5, by decide, id, ?_⟩
   walk_at "ex"
   refine c_list (.inl (SqL.of ev)) fun b hb => ?_
   have smb : Same H1 (upd H1 b (.lst xs)) := Same.upd hb
   have eb : (upd H1 b (.lst xs)) b = some (.lst xs) := upd_same
   generalize upd H1 b (.lst xs) = H2 at smb eb ⊢
   walk_at "ex"
   refine ⟨L.A, B, row, b, xs, rfl, kB1.same smb, eb, h6, ⟨hrb.1, hrb.2, hall⟩, hsmall, fun z => absurd eB z, fun _ H3 o3 k3 => ?_⟩
   have sm2 := sm1.trans smb
   have ea3 : H3 L.a = some (.dK kvs) := o3 _ _ (a1 _ (by simp)) (sm2 _ _ ea)
   have el3 : H3 L.i = some (.dK lvs) := o3 _ _ (a1 _ (by simp)) (sm2 _ _ el)
   have ev3 : H3 v = some (.lst xs) := o3 _ _ (fun z => vF (bF _ z)) (smb _ _ ev)
   have hR3 : All2 (PR (LR L.F H3)) kvs m := pr_imp hR fun v x h => h.stay fun b ys hb e => o3 _ _ (fun z => hb (bF _ z)) (sm2 _ _ e)
   refine sxs_cons (sx_dput hu1 (by rfl) ?_)
   walk_at "go"
   refine ⟨L.a, _, rfl, DPut.k (k := Sum.inl row) ea3 (by omega), ?_⟩
   have o4 : Out [L.a] H3 (upd H3 L.a (.dK (putK kvs (Sum.inl row) (.ref v)))) := Out.upd (by simp)
   have nt4 : NT H3 [L.a] := fun x hx ys e => by rw [List.mem_singleton.mp hx, ea3] at e; cases e
   have lst4 : ∀ b ys, b ∉ L.F -> H3 b = some (.lst ys) -> (upd H3 L.a (.dK (putK kvs (Sum.inl row) (.ref v)))) b = some (.lst ys) := fun b ys _ e => o4 _ _ (fun z => by rw [List.mem_singleton.mp z, ea3] at e; cases e) e
   have kk4 : KeptV L.F (upd H3 L.a (.dK (putK kvs (Sum.inl row) (.ref v)))) L.a (aPut m row xs) := ⟨_, upd_same, pr_imp (pr_put hR3 row (x := xs) ⟨v, rfl, ev3, vF⟩) fun v x h => h.stay lst4⟩
   have k4 := k3.out o4 nt4 a3
   have el4 : (upd H3 L.a (.dK (putK kvs (Sum.inl row) (.ref v)))) L.i = some (.dK lvs) := o4 _ _ (a5' _ (by simp)) el3
   generalize upd H3 L.a (.dK (putK kvs (Sum.inl row) (.ref v))) = H4 at o4 kk4 k4 el4 ⊢
   refine sxs_one (sx_dput hu1 (by rfl) ?_)
   walk_at "go"
   refine ⟨L.i, _, rfl, DPut.k (k := Sum.inl row) el4 (by omega), ?_⟩
   have o5 : Out [L.i] H4 (upd H4 L.i (.dK (putK lvs (Sum.inl row) (.int ((i : Int) + 1))))) := Out.upd (by simp)
   have nt5 : NT H4 [L.i] := fun x hx ys e => by rw [List.mem_singleton.mp hx, el4] at e; cases e
   have oA : Out (L.a :: L.i :: L.A.fp) H' (upd H4 L.i (.dK (putK lvs (Sum.inl row) (.int ((i : Int) + 1))))) := (((Out.of sm2).trans (o3.mono fun x hx => List.mem_cons_of_mem _ (List.mem_cons_of_mem _ hx))).trans (o4.mono fun x hx => by rw [List.mem_singleton.mp hx]; simp)).trans (o5.mono fun x hx => by rw [List.mem_singleton.mp hx]; simp)
   refine after _ row (some xs) _ _ hrow (fun _ => by simp) (fun ys e => by cases e; exact hallc) oA (k4.out o5 nt5 a4) ?_ ?_
   ·obtain ⟨kv5, e5, h5⟩ := kk4
    exact ⟨kv5, o5 _ _ (fun z => a5 (List.mem_singleton.mp z).symm) e5, pr_imp h5 fun v x h => h.stay fun b ys _ e => o5 _ _ (fun z => by rw [List.mem_singleton.mp z, el4] at e; cases e) e⟩
   ·have en : B.now + 1 = (i : Int) + 1 := by rw [hnow, hal]
    rw [en]
    exact ⟨_, upd_same, pr_put hL row rfl⟩
  ·rw [e1, show (some (V.ref lu) : Option V).isSome = true from rfl]
   have eB : aGet B.rows row = some x := by rw [<- ok.mm]; exact e2
   walk_at "ex"
   refine ⟨a, ns, _, 3, rfl, sm1.seq h.sc, hl, by omega, by omega, by decide, ?_⟩
   walk_at "ex"
   refine ifD (fun hz => ?_) (fun hz => ?_)
   ·refine sxs_cons (sx_expr (by rfl) ?_)
    refine ev_meth (pl := _) hr xok_fn (by rfl) (by rfl) (by rfl) ?_
    walk_at "e"
    refine ⟨L.A.b, cB mg, L.A.dx, _, true, 4, _, spTake mg, rfl, kB1.ins, by rfl, M7, by decide, id, ?_⟩
    walk_at "ex"
    refine ⟨L.A, B, row, rfl, kB1, hrb.1, hrb.2, hsmall, ok.hist.wf, fun z => (by rw [eB] at z; cases z), fun _ H3 o3 k3 => ?_⟩
    have ea3 : H3 L.a = some (.dK kvs) := o3 _ _ (a1 _ (by simp)) (sm1 _ _ ea)
    have el3 : H3 L.i = some (.dK lvs) := o3 _ _ (a1 _ (by simp)) (sm1 _ _ el)
    have hR3 : All2 (PR (LR L.F H3)) kvs m := pr_imp hR fun v x h => h.stay fun b ys hb e => o3 _ _ (fun z => hb (bF _ z)) (sm1 _ _ e)
    refine sxs_one (sx_expr (by rfl) (ev_dpop1 (by constructor <;> rfl) ?_))
    walk_at "e"
    refine ⟨L.a, rfl, .inl ⟨_, .inl ea3⟩, ?_⟩
    walk_at "e"
    refine ⟨kvs, Sum.inl row, _, ea3, rfl, e1, ?_⟩
    have o4 : Out [L.a] H3 (upd H3 L.a (.dK (dropK kvs (Sum.inl row)))) := Out.upd (by simp)
    have nt4 : NT H3 [L.a] := fun x hx ys e => by rw [List.mem_singleton.mp hx, ea3] at e; cases e
    have lst4 : ∀ b ys, b ∉ L.F -> H3 b = some (.lst ys) -> (upd H3 L.a (.dK (dropK kvs (Sum.inl row)))) b = some (.lst ys) := fun b ys _ e => o4 _ _ (fun z => by rw [List.mem_singleton.mp z, ea3] at e; cases e) e
    refine after _ row none _ _ hrow (fun z => by rw [eB] at z; cases z) (fun ys e => by cases e) (((Out.of sm1).trans (o3.mono fun x hx => List.mem_cons_of_mem _ (List.mem_cons_of_mem _ hx))).trans (o4.mono fun x hx => by rw [List.mem_singleton.mp hx]; simp)) (k3.out o4 nt4 a3) ⟨_, upd_same, pr_imp (pr_drop hR3 row) fun v x h => h.stay lst4⟩ ⟨lvs, o4 _ _ (a5' _ (by simp)) el3, hL⟩
   ·refine sxs_cons (sx_if ?_)
    walk_at "ex"
    refine o_inD hu1 g1 ?_
    rw [e1, show (some (V.ref lu) : Option V).isSome = true from rfl]
    walk_at "ex"
    refine sxs_one (sx_expr (by rfl) ?_)
    refine ev_meth (pl := _) hr xok_fn (by rfl) (by rfl) (by rfl) ?_
    walk_at "e"
    refine ⟨L.A.b, cB mg, L.A.dx, _, true, 6, _, spChange mg, rfl, kB1.ins, by rfl, M6, by decide, id, ?_⟩
    walk_at "ex"
    refine c_list (.inl (SqL.of ev)) fun b hb => ?_
    have smb : Same H1 (upd H1 b (.lst xs)) := Same.upd hb
    have eb : (upd H1 b (.lst xs)) b = some (.lst xs) := upd_same
    generalize upd H1 b (.lst xs) = H2 at smb eb ⊢
    walk_at "ex"
    refine ⟨L.A, B, row, b, xs, rfl, kB1.same smb, eb, h6, ⟨hrb.1, hrb.2, hall⟩, hsmall, fun z => (by rw [eB] at z; cases z), fun _ H3 o3 k3 => ?_⟩
    have sm2 := sm1.trans smb
    have ea3 : H3 L.a = some (.dK kvs) := o3 _ _ (a1 _ (by simp)) (sm2 _ _ ea)
    have el3 : H3 L.i = some (.dK lvs) := o3 _ _ (a1 _ (by simp)) (sm2 _ _ el)
    have ev3 : H3 v = some (.lst xs) := o3 _ _ (fun z => vF (bF _ z)) (smb _ _ ev)
    have hR3 : All2 (PR (LR L.F H3)) kvs m := pr_imp hR fun v x h => h.stay fun b ys hb e => o3 _ _ (fun z => hb (bF _ z)) (sm2 _ _ e)
    refine sxs_cons (sx_dput hu1 (by rfl) ?_)
    walk_at "go"
    refine ⟨L.a, _, rfl, DPut.k (k := Sum.inl row) ea3 (by omega), ?_⟩
    have o4 : Out [L.a] H3 (upd H3 L.a (.dK (putK kvs (Sum.inl row) (.ref v)))) := Out.upd (by simp)
    have nt4 : NT H3 [L.a] := fun x hx ys e => by rw [List.mem_singleton.mp hx, ea3] at e; cases e
    have lst4 : ∀ b ys, b ∉ L.F -> H3 b = some (.lst ys) -> (upd H3 L.a (.dK (putK kvs (Sum.inl row) (.ref v)))) b = some (.lst ys) := fun b ys _ e => o4 _ _ (fun z => by rw [List.mem_singleton.mp z, ea3] at e; cases e) e
    have kk4 : KeptV L.F (upd H3 L.a (.dK (putK kvs (Sum.inl row) (.ref v)))) L.a (aPut m row xs) := ⟨_, upd_same, pr_imp (pr_put hR3 row (x := xs) ⟨v, rfl, ev3, vF⟩) fun v x h => h.stay lst4⟩
    have k4 := k3.out o4 nt4 a3
    have el4 : (upd H3 L.a (.dK (putK kvs (Sum.inl row) (.ref v)))) L.i = some (.dK lvs) := o4 _ _ (a5' _ (by simp)) el3
    generalize upd H3 L.a (.dK (putK kvs (Sum.inl row) (.ref v))) = H4 at o4 kk4 k4 el4 ⊢
    refine sxs_one (sx_dput hu1 (by rfl) ?_)
    walk_at "go"
    refine ⟨L.i, _, rfl, DPut.k (k := Sum.inl row) el4 (by omega), ?_⟩
    have o5 : Out [L.i] H4 (upd H4 L.i (.dK (putK lvs (Sum.inl row) (.int ((i : Int) + 1))))) := Out.upd (by simp)
    have nt5 : NT H4 [L.i] := fun x hx ys e => by rw [List.mem_singleton.mp hx, el4] at e; cases e
    have oA : Out (L.a :: L.i :: L.A.fp) H' (upd H4 L.i (.dK (putK lvs (Sum.inl row) (.int ((i : Int) + 1))))) := (((Out.of sm2).trans (o3.mono fun x hx => List.mem_cons_of_mem _ (List.mem_cons_of_mem _ hx))).trans (o4.mono fun x hx => by rw [List.mem_singleton.mp hx]; simp)).trans (o5.mono fun x hx => by rw [List.mem_singleton.mp hx]; simp)
    refine after _ row (some xs) _ _ hrow (fun _ => by simp) (fun ys e => by cases e; exact hallc) oA (k4.out o5 nt5 a4) ?_ ?_
    ·obtain ⟨kv5, e5, h5⟩ := kk4
     exact ⟨kv5, o5 _ _ (fun z => a5 (List.mem_singleton.mp z).symm) e5, pr_imp h5 fun v x h => h.stay fun b ys _ e => o5 _ _ (fun z => by rw [List.mem_singleton.mp z, el4] at e; cases e) e⟩
    ·have en : B.now + 1 = (i : Int) + 1 := by rw [hnow, hal]
     rw [en]
     exact ⟨_, upd_same, pr_put hL row rfl⟩
 have lv0 : Live K a (ns.map V.int) [] H := ⟨by simp, by simp, .inr ⟨hS, by simp⟩⟩
 refine sxs_cons ?_
 walk_at "go"
 refine ⟨a, ns, 300, 6, rfl, hS, hl, by decide, by decide, by decide, by decide, fun c cs H1 sm1 hc hC okc => ?_⟩
 have lv1 := lv0.add1 hc sm1 (by obtain ⟨_, e, _⟩ := hC; rw [e]; nofun)
 walk_at "go"
 refine ev_make MB hr (by decide) (fun _ => rfl) xok_fn (by rfl) (by decide) (by rfl) (by rfl) ?_
 walk_at "go"
 intro y dx hy hdx hne
 have smy : Same H1 (upd (upd H1 dx (.own y)) y (.ins (cB mg) dx [])) := fun b u e => by
  rw [upd_ne (fun z => by rw [z, hy] at e; cases e), upd_ne (fun z => by rw [z, hdx] at e; cases e)]
  exact e
 refine ⟨y, dx, c, cs, rfl, upd_same, by rw [upd_ne hne, upd_same], hC.same smy, okc, fun H2 A0 eb edx f1 f2 f3 f4 o2 k2 => ?_⟩
 obtain ⟨sm2, fr2⟩ := made hy hdx eb edx f1 f2 f3 f4 o2
 subst eb
 have lv2 := lv1.add A0.six k2.nd6 fr2 (Out.of (S := []) sm2) (by simp) k2.on6 (by simp)
 have hC := hC.same sm2
 refine ⟨rfl, ?_⟩
 refine sxs_cons ?_
 walk_at "go"
 refine ⟨a, ns, rfl, lv2.seq, hl, fun n ns' H3 sm3 hn en hg => ?_⟩
 have lv3 := lv2.add1 hn sm3 (by rw [en]; nofun)
 walk_at "go"
 refine ev_dnew fun k0 hk0 => ?_
 have hk00 : H k0 = none := ((sm1.trans sm2).trans sm3).free hk0
 have sm4 : Same H3 (upd H3 k0 (.dK [])) := Same.upd hk0
 have ek0 : (upd H3 k0 (.dK [])) k0 = some (.dK []) := upd_same
 generalize upd H3 k0 (.dK []) = H4 at sm4 ek0 ⊢
 have lv4 := lv3.add1 hk0 sm4 (by rw [ek0]; nofun)
 walk_at "go"
 refine ev_dnew fun i0 hi0 => ?_
 have sm5 : Same H4 (upd H4 i0 (.dK [])) := Same.upd hi0
 have ei0 : (upd H4 i0 (.dK [])) i0 = some (.dK []) := upd_same
 generalize upd H4 i0 (.dK []) = H5 at sm5 ei0 ⊢
 have lv5 := lv4.add1 hi0 sm5 (by rw [ei0]; nofun)
 walk_at "go"
 refine ⟨by show 0 ≤ sizeLine; omega, fun p0 hp0 => ?_⟩
 have sm6 : Same H5 (upd H5 p0 (.lst [])) := Same.upd hp0
 have ep0 : (upd H5 p0 (.lst [])) p0 = some (.lst []) := upd_same
 generalize upd H5 p0 (.lst []) = H6 at sm6 ep0 ⊢
 have lv6 := lv5.add1 hp0 sm6 (by rw [ep0]; nofun)
 walk_at "go"
 refine ⟨by show 1 ≤ sizeLine; omega, fun S hS' => ?_⟩
 have sm7 : Same H6 (upd H6 S (.lst [.ref p0])) := Same.upd hS'
 have eS : (upd H6 S (.lst [.ref p0])) S = some (.lst [.ref p0]) := upd_same
 generalize upd H6 S (.lst [.ref p0]) = H7 at sm7 eS ⊢
 have lv7 := lv6.add1 hS' sm7 (by rw [eS]; nofun)
 walk_at "go"
 refine ⟨by show 0 ≤ sizeLine; omega, fun g hgn => ?_⟩
 have sm8 : Same H7 (upd H7 g (.lst [])) := Same.upd hgn
 have eg : (upd H7 g (.lst [])) g = some (.lst []) := upd_same
 generalize upd H7 g (.lst []) = H8 at sm8 eg ⊢
 have lv8 := lv7.add1 hgn sm8 (by rw [eg]; nofun)
 have sm78 := sm7.trans sm8
 have sm68 := sm6.trans sm78
 have sm58 := sm5.trans sm68
 have sm48 := sm4.trans sm58
 have sm38 := sm3.trans sm48
 have nd8 : [g, S, p0, i0, k0, n, A0.h, A0.r, A0.t, A0.d, A0.b, A0.dx, c].Nodup := lv8.nd
 let L : VA := ⟨A0, k0, i0, S, g, n, c⟩
 have hall : L.all.Nodup := nd_pick nd8 [6, 7, 8, 9, 10, 11, 4, 3, 1, 0, 5, 12] (by decide)
 have hmem : ∀ x ∈ L.all, x ∈ [g, S, p0, i0, k0, n, A0.h, A0.r, A0.t, A0.d, A0.b, A0.dx, c] := mem_pick (L := [g, S, p0, i0, k0, n, A0.h, A0.r, A0.t, A0.d, A0.b, A0.dx, c]) [6, 7, 8, 9, 10, 11, 4, 3, 1, 0, 5, 12]
 have ap : VAp K a (ns.map V.int) L := ⟨hall, lv8.sc.imp id fun z y => z.2 (hmem _ y)⟩
 have p0F' : ∀ y ∈ [p0], y ∉ L.F := nd_apart nd8 [2] [10, 7, 8, 9, 4, 3, 1, 0] (by decide)
 have p0F : p0 ∉ L.F := p0F' p0 (by simp)
 have hw : VSt K mg a (ns.map V.int) ns' cs L H8 ⟨cs, [], [], [], 0, 0⟩ [] [] [] [] [.ref p0] := by
  refine ⟨k2.same sm38, ⟨[], sm58 _ _ ek0, .nil⟩, ⟨[], sm68 _ _ ei0, .nil⟩, sm8 _ _ eS, fun j hj => ?_, eg, sm48 _ _ en, hC.same sm38, lv8.seq⟩
  have hj' : j = 0 := by have : j < 1 := hj; omega
  subst hj'
  exact ⟨.ref p0, rfl, p0, [], [], rfl, p0F, sm78 _ _ ep0, ⟨by simp, by simp, fun x => ⟨fun h => by simp at h, fun h => absurd rfl h⟩⟩, .nil⟩
 have hok : VOk ns' cs ⟨cs, [], [], [], 0, 0⟩ [] [] [] := by
  refine ⟨⟨rfl, rfl, rfl, ⟨Int.le_refl 0, Int.le_refl 0⟩, fun j d hd => by simp at hd, fun i => ⟨fun _ => rfl, fun _ => rfl⟩⟩, rfl, fun _ => rfl, by simp, fun d hd => by simp at hd, by simp, by simp, fun i x e => by cases e⟩
 have hc6 := (okCols_len okc).2
 refine sxs_cons ?_
 walk_at "s"
 walk_at "e"
 exact deeds ns' cs _ _ hg hc6 ⟨L, ⟨cs, [], [], [], 0, 0⟩, [], [], [], [], [.ref p0], ⟨_, _, _, _, _, rfl⟩, ap, hw, hok, rfl, rfl, rfl, hk00⟩
end
end K33
namespace PySem.W.Fast
def tw2906605172655473689 : Unit := ()
def tw10079459995450628845 : Unit := ()
def tw1094495028167639728 : Unit := ()
def tw3476896816741563444 : Unit := ()
def tw8560196073367792517 : Unit := ()
def tw7182536540123646428 : Unit := ()
def tw8897871134701674364 : Unit := ()
def tw10943012651992012348 : Unit := ()
def tw17297011443387886294 : Unit := ()
def tw8460020167344833447 : Unit := ()
def tw3759196999911855419 : Unit := ()
def tw1353371357488409579 : Unit := ()
def tw17641471819251986303 : Unit := ()
def tw13960144368919276093 : Unit := ()
def tw4718929837609369797 : Unit := ()
def tw17046439501002915547 : Unit := ()
def tw12373622087328227697 : Unit := ()
def tw17263194003078052913 : Unit := ()
def tw835314210955541912 : Unit := ()
def tw14699627063653870696 : Unit := ()
def tw3985536078124150907 : Unit := ()
def tw7374352341388722824 : Unit := ()
def tw672363022058418113 : Unit := ()
def tw10939544741872878156 : Unit := ()
def tw11299946142725404186 : Unit := ()
def tw10651562888694544496 : Unit := ()
end PySem.W.Fast
namespace K33
open PySem L2 PyProof.Rows
theorem txt_mk {K : PySem.W.Frag} {h : Heap} {mg : Str -> Option Value} (X : K.In h) (G : h.Ns mainGlobals mg) {f0 : Addr} {od0 an0 : Option Addr} {sl0 : Array (Option Value)} {oc0 kV0 dc0 pm0 cd0 ct0 : Value} {f1 : Addr} {od1 an1 : Option Addr} {sl1 : Array (Option Value)} {oc1 kV1 dc1 pm1 cd1 ct1 : Value} {f2 : Addr} {od2 an2 : Option Addr} {sl2 : Array (Option Value)} {oc2 kV2 dc2 pm2 cd2 ct2 : Value} {f3 : Addr} {od3 an3 : Option Addr} {sl3 : Array (Option Value)} {oc3 kV3 dc3 pm3 cd3 ct3 : Value} {f4 : Addr} {od4 an4 : Option Addr} {sl4 : Array (Option Value)} {oc4 kV4 dc4 pm4 cd4 ct4 : Value} {f5 : Addr} {od5 an5 : Option Addr} {sl5 : Array (Option Value)} {oc5 kV5 dc5 pm5 cd5 ct5 : Value} {f6 : Addr} {od6 an6 : Option Addr} {sl6 : Array (Option Value)} {oc6 kV6 dc6 pm6 cd6 ct6 : Value} {f7 : Addr} {od7 an7 : Option Addr} {sl7 : Array (Option Value)} {oc7 kV7 dc7 pm7 cd7 ct7 : Value} {f8 : Addr} {od8 an8 : Option Addr} {sl8 : Array (Option Value)} {oc8 kV8 dc8 pm8 cd8 ct8 : Value} {f9 : Addr} {od9 an9 : Option Addr} {sl9 : Array (Option Value)} {oc9 kV9 dc9 pm9 cd9 ct9 : Value} {f10 : Addr} {od10 an10 : Option Addr} {sl10 : Array (Option Value)} {oc10 kV10 dc10 pm10 cd10 ct10 : Value} {f11 : Addr} {od11 an11 : Option Addr} {sl11 : Array (Option Value)} {oc11 kV11 dc11 pm11 cd11 ct11 : Value} {f12 : Addr} {od12 an12 : Option Addr} {sl12 : Array (Option Value)} {oc12 kV12 dc12 pm12 cd12 ct12 : Value} {f13 : Addr} {od13 an13 : Option Addr} {sl13 : Array (Option Value)} {oc13 kV13 dc13 pm13 cd13 ct13 : Value} {f14 : Addr} {od14 an14 : Option Addr} {sl14 : Array (Option Value)} {oc14 kV14 dc14 pm14 cd14 ct14 : Value} {f15 : Addr} {od15 an15 : Option Addr} {sl15 : Array (Option Value)} {oc15 kV15 dc15 pm15 cd15 ct15 : Value} {f16 : Addr} {od16 an16 : Option Addr} {sl16 : Array (Option Value)} {oc16 kV16 dc16 pm16 cd16 ct16 : Value} {f17 : Addr} {od17 an17 : Option Addr} {sl17 : Array (Option Value)} {oc17 kV17 dc17 pm17 cd17 ct17 : Value} {f18 : Addr} {od18 an18 : Option Addr} {sl18 : Array (Option Value)} {oc18 kV18 dc18 pm18 cd18 ct18 : Value} {f19 : Addr} {od19 an19 : Option Addr} {sl19 : Array (Option Value)} {oc19 kV19 dc19 pm19 cd19 ct19 : Value} {f20 : Addr} {od20 an20 : Option Addr} {sl20 : Array (Option Value)} {oc20 kV20 dc20 pm20 cd20 ct20 : Value} {f21 : Addr} {od21 an21 : Option Addr} {sl21 : Array (Option Value)} {oc21 kV21 dc21 pm21 cd21 ct21 : Value} {f22 : Addr} {od22 an22 : Option Addr} {sl22 : Array (Option Value)} {oc22 kV22 dc22 pm22 cd22 ct22 : Value} {f23 : Addr} {od23 an23 : Option Addr} {sl23 : Array (Option Value)} {oc23 kV23 dc23 pm23 cd23 ct23 : Value} {f24 : Addr} {od24 an24 : Option Addr} {sl24 : Array (Option Value)} {oc24 kV24 dc24 pm24 cd24 ct24 : Value} {t0 : Tok} {t1 : Tok} {t2 : Tok} {t3 : Tok} {t4 : Tok} {t5 : Tok} {t6 : Tok} {t7 : Tok} {t8 : Tok} {C0 : Addr} {C1 : Addr} {C2 : Addr} {C3 : Addr} {C4 : Addr} {C5 : Addr} {C6 : Addr} {C7 : Addr} {C8 : Addr} {C9 : Addr} {C10 : Addr} {C11 : Addr} {C12 : Addr} {C13 : Addr} {C14 : Addr} {C15 : Addr} {fi0 : Addr} {iod0 ian0 : Option Addr} {isl0 : Array (Option Value)} {ioc0 ikV0 idc0 ipm0 icd0 ict0 : Value} {fi1 : Addr} {iod1 ian1 : Option Addr} {isl1 : Array (Option Value)} {ioc1 ikV1 idc1 ipm1 icd1 ict1 : Value} {fi2 : Addr} {iod2 ian2 : Option Addr} {isl2 : Array (Option Value)} {ioc2 ikV2 idc2 ipm2 icd2 ict2 : Value} {fi3 : Addr} {iod3 ian3 : Option Addr} {isl3 : Array (Option Value)} {ioc3 ikV3 idc3 ipm3 icd3 ict3 : Value} {fo0 : Addr} {ood0 oan0 : Option Addr} {osl0 : Array (Option Value)} {ooc0 okV0 odc0 opm0 ocd0 oct0 : Value} {fo1 : Addr} {ood1 oan1 : Option Addr} {osl1 : Array (Option Value)} {ooc1 okV1 odc1 opm1 ocd1 oct1 : Value} {fo2 : Addr} {ood2 oan2 : Option Addr} {osl2 : Array (Option Value)} {ooc2 okV2 odc2 opm2 ocd2 oct2 : Value} {fo3 : Addr} {ood3 oan3 : Option Addr} {osl3 : Array (Option Value)} {ooc3 okV3 odc3 opm3 ocd3 oct3 : Value} {fo4 : Addr} {ood4 oan4 : Option Addr} {osl4 : Array (Option Value)} {ooc4 okV4 odc4 opm4 ocd4 oct4 : Value} {fo5 : Addr} {ood5 oan5 : Option Addr} {osl5 : Array (Option Value)} {ooc5 okV5 odc5 opm5 ocd5 oct5 : Value} {fo6 : Addr} {ood6 oan6 : Option Addr} {osl6 : Array (Option Value)} {ooc6 okV6 odc6 opm6 ocd6 oct6 : Value} {fo7 : Addr} {ood7 oan7 : Option Addr} {osl7 : Array (Option Value)} {ooc7 okV7 odc7 opm7 ocd7 oct7 : Value} {fo8 : Addr} {ood8 oan8 : Option Addr} {osl8 : Array (Option Value)} {ooc8 okV8 odc8 opm8 ocd8 oct8 : Value} {fo9 : Addr} {ood9 oan9 : Option Addr} {osl9 : Array (Option Value)} {ooc9 okV9 odc9 opm9 ocd9 oct9 : Value} {fo10 : Addr} {ood10 oan10 : Option Addr} {osl10 : Array (Option Value)} {ooc10 okV10 odc10 opm10 ocd10 oct10 : Value} {fo11 : Addr} {ood11 oan11 : Option Addr} {osl11 : Array (Option Value)} {ooc11 okV11 odc11 opm11 ocd11 oct11 : Value} {fo12 : Addr} {ood12 oan12 : Option Addr} {osl12 : Array (Option Value)} {ooc12 okV12 odc12 opm12 ocd12 oct12 : Value} {fo13 : Addr} {ood13 oan13 : Option Addr} {osl13 : Array (Option Value)} {ooc13 okV13 odc13 opm13 ocd13 oct13 : Value} {fo14 : Addr} {ood14 oan14 : Option Addr} {osl14 : Array (Option Value)} {ooc14 okV14 odc14 opm14 ocd14 oct14 : Value} {fo15 : Addr} {ood15 oan15 : Option Addr} {osl15 : Array (Option Value)} {ooc15 okV15 odc15 opm15 ocd15 oct15 : Value} {fo16 : Addr} {ood16 oan16 : Option Addr} {osl16 : Array (Option Value)} {ooc16 okV16 odc16 opm16 ocd16 oct16 : Value} {fo17 : Addr} {ood17 oan17 : Option Addr} {osl17 : Array (Option Value)} {ooc17 okV17 odc17 opm17 ocd17 oct17 : Value}
  (aq0 : PySem.W.nsIn K mainGlobals "_wall" = some (some (.ref f0)))
  (lq0 : K.lookup f0 = some ⟨oc0, od0, .func (PySem.W.fnOf "_wall" "_wall" (defArgs s__wall) (defBody s__wall) (defScope s__wall) .none kV0 dc0 pm0 an0 cd0 ct0), sl0⟩)
  (cq0 : PySem.W.codeIn K cd0 "_wall" = true)
  (kq0 : PySem.W.keepIn K (.ref f0) = true)
  (aq1 : PySem.W.nsIn K mainGlobals "is_whole" = some (some (.ref f1)))
  (lq1 : K.lookup f1 = some ⟨oc1, od1, .func (PySem.W.fnOf "is_whole" "is_whole" (defArgs s_is_whole) (defBody s_is_whole) (defScope s_is_whole) .none kV1 dc1 pm1 an1 cd1 ct1), sl1⟩)
  (cq1 : PySem.W.codeIn K cd1 "is_whole" = true)
  (kq1 : PySem.W.keepIn K (.ref f1) = true)
  (aq2 : PySem.W.nsIn K mainGlobals "made_of" = some (some (.ref f2)))
  (lq2 : K.lookup f2 = some ⟨oc2, od2, .func (PySem.W.fnOf "made_of" "made_of" (defArgs s_made_of) (defBody s_made_of) (defScope s_made_of) .none kV2 dc2 pm2 an2 cd2 ct2), sl2⟩)
  (cq2 : PySem.W.codeIn K cd2 "made_of" = true)
  (kq2 : PySem.W.keepIn K (.ref f2) = true)
  (aq3 : PySem.W.nsIn K mainGlobals "is_number_value" = some (some (.ref f3)))
  (lq3 : K.lookup f3 = some ⟨oc3, od3, .func (PySem.W.fnOf "is_number_value" "is_number_value" (defArgs s_is_number_value) (defBody s_is_number_value) (defScope s_is_number_value) .none kV3 dc3 pm3 an3 cd3 ct3), sl3⟩)
  (cq3 : PySem.W.codeIn K cd3 "is_number_value" = true)
  (kq3 : PySem.W.keepIn K (.ref f3) = true)
  (aq4 : PySem.W.nsIn K mainGlobals "is_text_value" = some (some (.ref f4)))
  (lq4 : K.lookup f4 = some ⟨oc4, od4, .func (PySem.W.fnOf "is_text_value" "is_text_value" (defArgs s_is_text_value) (defBody s_is_text_value) (defScope s_is_text_value) .none kV4 dc4 pm4 an4 cd4 ct4), sl4⟩)
  (cq4 : PySem.W.codeIn K cd4 "is_text_value" = true)
  (kq4 : PySem.W.keepIn K (.ref f4) = true)
  (aq5 : PySem.W.nsIn K mainGlobals "is_value" = some (some (.ref f5)))
  (lq5 : K.lookup f5 = some ⟨oc5, od5, .func (PySem.W.fnOf "is_value" "is_value" (defArgs s_is_value) (defBody s_is_value) (defScope s_is_value) .none kV5 dc5 pm5 an5 cd5 ct5), sl5⟩)
  (cq5 : PySem.W.codeIn K cd5 "is_value" = true)
  (kq5 : PySem.W.keepIn K (.ref f5) = true)
  (aq6 : PySem.W.nsIn K mainGlobals "is_name" = some (some (.ref f6)))
  (lq6 : K.lookup f6 = some ⟨oc6, od6, .func (PySem.W.fnOf "is_name" "is_name" (defArgs s_is_name) (defBody s_is_name) (defScope s_is_name) .none kV6 dc6 pm6 an6 cd6 ct6), sl6⟩)
  (cq6 : PySem.W.codeIn K cd6 "is_name" = true)
  (kq6 : PySem.W.keepIn K (.ref f6) = true)
  (aq7 : PySem.W.nsIn K mainGlobals "ask_columns" = some (some (.ref f7)))
  (lq7 : K.lookup f7 = some ⟨oc7, od7, .func (PySem.W.fnOf "ask_columns" "ask_columns" (defArgs s_ask_columns) (defBody s_ask_columns) (defScope s_ask_columns) .none kV7 dc7 pm7 an7 cd7 ct7), sl7⟩)
  (cq7 : PySem.W.codeIn K cd7 "ask_columns" = true)
  (kq7 : PySem.W.keepIn K (.ref f7) = true)
  (aq8 : PySem.W.nsIn K mainGlobals "is_row_number" = some (some (.ref f8)))
  (lq8 : K.lookup f8 = some ⟨oc8, od8, .func (PySem.W.fnOf "is_row_number" "is_row_number" (defArgs s_is_row_number) (defBody s_is_row_number) (defScope s_is_row_number) .none kV8 dc8 pm8 an8 cd8 ct8), sl8⟩)
  (cq8 : PySem.W.codeIn K cd8 "is_row_number" = true)
  (kq8 : PySem.W.keepIn K (.ref f8) = true)
  (aq9 : PySem.W.nsIn K mainGlobals "is_row" = some (some (.ref f9)))
  (lq9 : K.lookup f9 = some ⟨oc9, od9, .func (PySem.W.fnOf "is_row" "is_row" (defArgs s_is_row) (defBody s_is_row) (defScope s_is_row) .none kV9 dc9 pm9 an9 cd9 ct9), sl9⟩)
  (cq9 : PySem.W.codeIn K cd9 "is_row" = true)
  (kq9 : PySem.W.keepIn K (.ref f9) = true)
  (aq10 : PySem.W.nsIn K mainGlobals "told_rows" = some (some (.ref f10)))
  (lq10 : K.lookup f10 = some ⟨oc10, od10, .func (PySem.W.fnOf "told_rows" "told_rows" (defArgs s_told_rows) (defBody s_told_rows) (defScope s_told_rows) .none kV10 dc10 pm10 an10 cd10 ct10), sl10⟩)
  (cq10 : PySem.W.codeIn K cd10 "told_rows" = true)
  (kq10 : PySem.W.keepIn K (.ref f10) = true)
  (aq11 : PySem.W.nsIn K mainGlobals "told_values" = some (some (.ref f11)))
  (lq11 : K.lookup f11 = some ⟨oc11, od11, .func (PySem.W.fnOf "told_values" "told_values" (defArgs s_told_values) (defBody s_told_values) (defScope s_told_values) .none kV11 dc11 pm11 an11 cd11 ct11), sl11⟩)
  (cq11 : PySem.W.codeIn K cd11 "told_values" = true)
  (kq11 : PySem.W.keepIn K (.ref f11) = true)
  (aq12 : PySem.W.nsIn K mainGlobals "put_back" = some (some (.ref f12)))
  (lq12 : K.lookup f12 = some ⟨oc12, od12, .func (PySem.W.fnOf "put_back" "put_back" (defArgs s_put_back) (defBody s_put_back) (defScope s_put_back) .none kV12 dc12 pm12 an12 cd12 ct12), sl12⟩)
  (cq12 : PySem.W.codeIn K cd12 "put_back" = true)
  (kq12 : PySem.W.keepIn K (.ref f12) = true)
  (aq13 : PySem.W.nsIn K mainGlobals "_law_draw" = some (some (.ref f13)))
  (lq13 : K.lookup f13 = some ⟨oc13, od13, .func (PySem.W.fnOf "_law_draw" "_law_draw" (defArgs s__law_draw) (defBody s__law_draw) (defScope s__law_draw) .none kV13 dc13 pm13 an13 cd13 ct13), sl13⟩)
  (cq13 : PySem.W.codeIn K cd13 "_law_draw" = true)
  (kq13 : PySem.W.keepIn K (.ref f13) = true)
  (aq14 : PySem.W.nsIn K mainGlobals "_law_columns" = some (some (.ref f14)))
  (lq14 : K.lookup f14 = some ⟨oc14, od14, .func (PySem.W.fnOf "_law_columns" "_law_columns" (defArgs s__law_columns) (defBody s__law_columns) (defScope s__law_columns) .none kV14 dc14 pm14 an14 cd14 ct14), sl14⟩)
  (cq14 : PySem.W.codeIn K cd14 "_law_columns" = true)
  (kq14 : PySem.W.keepIn K (.ref f14) = true)
  (aq15 : PySem.W.nsIn K mainGlobals "_law_value" = some (some (.ref f15)))
  (lq15 : K.lookup f15 = some ⟨oc15, od15, .func (PySem.W.fnOf "_law_value" "_law_value" (defArgs s__law_value) (defBody s__law_value) (defScope s__law_value) .none kV15 dc15 pm15 an15 cd15 ct15), sl15⟩)
  (cq15 : PySem.W.codeIn K cd15 "_law_value" = true)
  (kq15 : PySem.W.keepIn K (.ref f15) = true)
  (aq16 : PySem.W.nsIn K mainGlobals "_law_values" = some (some (.ref f16)))
  (lq16 : K.lookup f16 = some ⟨oc16, od16, .func (PySem.W.fnOf "_law_values" "_law_values" (defArgs s__law_values) (defBody s__law_values) (defScope s__law_values) .none kV16 dc16 pm16 an16 cd16 ct16), sl16⟩)
  (cq16 : PySem.W.codeIn K cd16 "_law_values" = true)
  (kq16 : PySem.W.keepIn K (.ref f16) = true)
  (aq17 : PySem.W.nsIn K mainGlobals "_law_numbers" = some (some (.ref f17)))
  (lq17 : K.lookup f17 = some ⟨oc17, od17, .func (PySem.W.fnOf "_law_numbers" "_law_numbers" (defArgs s__law_numbers) (defBody s__law_numbers) (defScope s__law_numbers) .none kV17 dc17 pm17 an17 cd17 ct17), sl17⟩)
  (cq17 : PySem.W.codeIn K cd17 "_law_numbers" = true)
  (kq17 : PySem.W.keepIn K (.ref f17) = true)
  (aq18 : PySem.W.nsIn K mainGlobals "_law_is_whole" = some (some (.ref f18)))
  (lq18 : K.lookup f18 = some ⟨oc18, od18, .func (PySem.W.fnOf "_law_is_whole" "_law_is_whole" (defArgs s__law_is_whole) (defBody s__law_is_whole) (defScope s__law_is_whole) .none kV18 dc18 pm18 an18 cd18 ct18), sl18⟩)
  (cq18 : PySem.W.codeIn K cd18 "_law_is_whole" = true)
  (kq18 : PySem.W.keepIn K (.ref f18) = true)
  (aq19 : PySem.W.nsIn K mainGlobals "_law_same" = some (some (.ref f19)))
  (lq19 : K.lookup f19 = some ⟨oc19, od19, .func (PySem.W.fnOf "_law_same" "_law_same" (defArgs s__law_same) (defBody s__law_same) (defScope s__law_same) .none kV19 dc19 pm19 an19 cd19 ct19), sl19⟩)
  (cq19 : PySem.W.codeIn K cd19 "_law_same" = true)
  (kq19 : PySem.W.keepIn K (.ref f19) = true)
  (aq20 : PySem.W.nsIn K mainGlobals "_law_same_rows" = some (some (.ref f20)))
  (lq20 : K.lookup f20 = some ⟨oc20, od20, .func (PySem.W.fnOf "_law_same_rows" "_law_same_rows" (defArgs s__law_same_rows) (defBody s__law_same_rows) (defScope s__law_same_rows) .none kV20 dc20 pm20 an20 cd20 ct20), sl20⟩)
  (cq20 : PySem.W.codeIn K cd20 "_law_same_rows" = true)
  (kq20 : PySem.W.keepIn K (.ref f20) = true)
  (aq21 : PySem.W.nsIn K mainGlobals "_law_asked" = some (some (.ref f21)))
  (lq21 : K.lookup f21 = some ⟨oc21, od21, .func (PySem.W.fnOf "_law_asked" "_law_asked" (defArgs s__law_asked) (defBody s__law_asked) (defScope s__law_asked) .none kV21 dc21 pm21 an21 cd21 ct21), sl21⟩)
  (cq21 : PySem.W.codeIn K cd21 "_law_asked" = true)
  (kq21 : PySem.W.keepIn K (.ref f21) = true)
  (aq22 : PySem.W.nsIn K mainGlobals "_law_moment" = some (some (.ref f22)))
  (lq22 : K.lookup f22 = some ⟨oc22, od22, .func (PySem.W.fnOf "_law_moment" "_law_moment" (defArgs s__law_moment) (defBody s__law_moment) (defScope s__law_moment) .none kV22 dc22 pm22 an22 cd22 ct22), sl22⟩)
  (cq22 : PySem.W.codeIn K cd22 "_law_moment" = true)
  (kq22 : PySem.W.keepIn K (.ref f22) = true)
  (aq23 : PySem.W.nsIn K mainGlobals "_law_right" = some (some (.ref f23)))
  (lq23 : K.lookup f23 = some ⟨oc23, od23, .func (PySem.W.fnOf "_law_right" "_law_right" (defArgs s__law_right) (defBody s__law_right) (defScope s__law_right) .none kV23 dc23 pm23 an23 cd23 ct23), sl23⟩)
  (cq23 : PySem.W.codeIn K cd23 "_law_right" = true)
  (kq23 : PySem.W.keepIn K (.ref f23) = true)
  (aq24 : PySem.W.nsIn K mainGlobals "law" = some (some (.ref f24)))
  (lq24 : K.lookup f24 = some ⟨oc24, od24, .func (PySem.W.fnOf "law" "law" (defArgs s_law) (defBody s_law) (defScope s_law) .none kV24 dc24 pm24 an24 cd24 ct24), sl24⟩)
  (cq24 : PySem.W.codeIn K cd24 "law" = true)
  (kq24 : PySem.W.keepIn K (.ref f24) = true)
  (gq0 : PySem.W.nsIn K mainGlobals "NUMBER" = some (some (.str "number" t0)))
  (gq1 : PySem.W.nsIn K mainGlobals "TEXT" = some (some (.str "text" t1)))
  (gq2 : PySem.W.nsIn K mainGlobals "LETTERS" = some (some (.str "abcdefghijklmnopqrstuvwxyz" t2)))
  (gq3 : PySem.W.nsIn K mainGlobals "TEXT_SIGNS" = some (some (.str "abcdefghijklmnopqrstuvwxyz0123456789-" t3)))
  (gq4 : PySem.W.nsIn K mainGlobals "LARGEST" = some (some (.int 1000000000000000000 t4)))
  (gq5 : PySem.W.nsIn K mainGlobals "LONGEST" = some (some (.int 20 t5)))
  (gq6 : PySem.W.nsIn K mainGlobals "MOST_COLUMNS" = some (some (.int 6 t6)))
  (gq7 : PySem.W.nsIn K mainGlobals "LONGEST_NAME" = some (some (.int 8 t7)))
  (gq8 : PySem.W.nsIn K mainGlobals "LARGEST_ROW" = some (some (.int 1000000000 t8)))
  (zq0 : PySem.W.nsIn K mainGlobals "ValueError" = some none)
  (zq1 : PySem.W.nsIn K mainGlobals "all" = some none)
  (zq2 : PySem.W.nsIn K mainGlobals "bool" = some none)
  (zq3 : PySem.W.nsIn K mainGlobals "dict" = some none)
  (zq4 : PySem.W.nsIn K mainGlobals "int" = some none)
  (zq5 : PySem.W.nsIn K mainGlobals "isinstance" = some none)
  (zq6 : PySem.W.nsIn K mainGlobals "len" = some none)
  (zq7 : PySem.W.nsIn K mainGlobals "list" = some none)
  (zq8 : PySem.W.nsIn K mainGlobals "max" = some none)
  (zq9 : PySem.W.nsIn K mainGlobals "range" = some none)
  (zq10 : PySem.W.nsIn K mainGlobals "reversed" = some none)
  (zq11 : PySem.W.nsIn K mainGlobals "set" = some none)
  (zq12 : PySem.W.nsIn K mainGlobals "sorted" = some none)
  (zq13 : PySem.W.nsIn K mainGlobals "str" = some none)
  (zq14 : PySem.W.nsIn K mainGlobals "tuple" = some none)
  (zq15 : PySem.W.nsIn K mainGlobals "zip" = some none)
  (xq0 : PySem.W.nsIn K mainGlobals "LeafError" = some (some (.ref C0)))
  (xq1 : PySem.W.nsIn K mainGlobals "NoColumns" = some (some (.ref C1)))
  (xq2 : PySem.W.nsIn K mainGlobals "NoValue" = some (some (.ref C2)))
  (xq3 : PySem.W.nsIn K mainGlobals "NoOrder" = some (some (.ref C3)))
  (xq4 : PySem.W.nsIn K mainGlobals "NoRow" = some (some (.ref C4)))
  (xq5 : PySem.W.nsIn K mainGlobals "NoMark" = some (some (.ref C5)))
  (xq6 : PySem.W.nsIn K mainGlobals "NoSize" = some (some (.ref C6)))
  (xq7 : PySem.W.nsIn K mainGlobals "NoLine" = some (some (.ref C7)))
  (xq8 : PySem.W.nsIn K mainGlobals "NoBook" = some (some (.ref C8)))
  (xq9 : PySem.W.nsIn K mainGlobals "NoSieve" = some (some (.ref C9)))
  (xq10 : PySem.W.nsIn K mainGlobals "NoPage" = some (some (.ref C10)))
  (xq11 : PySem.W.nsIn K mainGlobals "Twice" = some (some (.ref C11)))
  (xq12 : PySem.W.nsIn K mainGlobals "Absent" = some (some (.ref C12)))
  (xq13 : PySem.W.nsIn K mainGlobals "Gone" = some (some (.ref C13)))
  (xq14 : PySem.W.nsIn K mainGlobals "Later" = some (some (.ref C14)))
  (xq15 : PySem.W.nsIn K mainGlobals "Book" = some (some (.ref C15)))
  (yq0 : PySem.W.excIn K C1 bmV "ValueError.__new__" = true)
  (yq1 : PySem.W.excIn K C4 bmV "ValueError.__new__" = true)
  (bt0 : PySem.W.readsIn K C0 (.type "type") = true)
  (bt1 : PySem.W.findCls K (.ref C0) (.type "type") "__init__" = some (.val (.builtin "ValueError.__init__")))
  (bt2 : PySem.W.specialIn K (.ref C0) "__getattribute__" = some (some (.builtin "type.__getattribute__")))
  (bt3 : PySem.W.typeIn K (.ref C0) = some (.type "type"))
  (bt4 : PySem.W.mroIn K C0 (.type "BaseException") = some true)
  (wr0 : xcIn K C1 C0 = true)
  (cq0_0 : PySem.W.typeIn K (.ref C1) = some (.type "type"))
  (cq0_1 : PySem.W.hasDictIn K C1 = true)
  (cq0_2 : PySem.W.findIn K (.ref C1) "__getattribute__" = some (some (.builtin "BaseException.__getattribute__")))
  (cq0_3 : PySem.W.findIn K (.ref C1) "__getattr__" = some none)
  (cq0_4 : PySem.W.findIn K (.ref C1) "__class__" = some (some (.builtin "object.__class__")))
  (cq0_5 : PySem.W.specialIn K (.builtin "object.__class__") "__get__" = some (some (.builtin "getset_descriptor.__get__")))
  (cq0_6 : PySem.W.takesIn K (.builtin "object.__class__") = some true)
  (cq0_7 : PySem.W.mroIn K C1 (.type "object") = some true)
  (cq0_8 : PySem.W.mroIn K C1 (.type "BaseException") = some true)
  (wr1 : xcIn K C2 C0 = true)
  (cq1_0 : PySem.W.typeIn K (.ref C2) = some (.type "type"))
  (cq1_1 : PySem.W.hasDictIn K C2 = true)
  (cq1_2 : PySem.W.findIn K (.ref C2) "__getattribute__" = some (some (.builtin "BaseException.__getattribute__")))
  (cq1_3 : PySem.W.findIn K (.ref C2) "__getattr__" = some none)
  (cq1_4 : PySem.W.findIn K (.ref C2) "__class__" = some (some (.builtin "object.__class__")))
  (cq1_5 : PySem.W.specialIn K (.builtin "object.__class__") "__get__" = some (some (.builtin "getset_descriptor.__get__")))
  (cq1_6 : PySem.W.takesIn K (.builtin "object.__class__") = some true)
  (cq1_7 : PySem.W.mroIn K C2 (.type "object") = some true)
  (cq1_8 : PySem.W.mroIn K C2 (.type "BaseException") = some true)
  (wr2 : xcIn K C3 C0 = true)
  (cq2_0 : PySem.W.typeIn K (.ref C3) = some (.type "type"))
  (cq2_1 : PySem.W.hasDictIn K C3 = true)
  (cq2_2 : PySem.W.findIn K (.ref C3) "__getattribute__" = some (some (.builtin "BaseException.__getattribute__")))
  (cq2_3 : PySem.W.findIn K (.ref C3) "__getattr__" = some none)
  (cq2_4 : PySem.W.findIn K (.ref C3) "__class__" = some (some (.builtin "object.__class__")))
  (cq2_5 : PySem.W.specialIn K (.builtin "object.__class__") "__get__" = some (some (.builtin "getset_descriptor.__get__")))
  (cq2_6 : PySem.W.takesIn K (.builtin "object.__class__") = some true)
  (cq2_7 : PySem.W.mroIn K C3 (.type "object") = some true)
  (cq2_8 : PySem.W.mroIn K C3 (.type "BaseException") = some true)
  (wr3 : xcIn K C4 C0 = true)
  (cq3_0 : PySem.W.typeIn K (.ref C4) = some (.type "type"))
  (cq3_1 : PySem.W.hasDictIn K C4 = true)
  (cq3_2 : PySem.W.findIn K (.ref C4) "__getattribute__" = some (some (.builtin "BaseException.__getattribute__")))
  (cq3_3 : PySem.W.findIn K (.ref C4) "__getattr__" = some none)
  (cq3_4 : PySem.W.findIn K (.ref C4) "__class__" = some (some (.builtin "object.__class__")))
  (cq3_5 : PySem.W.specialIn K (.builtin "object.__class__") "__get__" = some (some (.builtin "getset_descriptor.__get__")))
  (cq3_6 : PySem.W.takesIn K (.builtin "object.__class__") = some true)
  (cq3_7 : PySem.W.mroIn K C4 (.type "object") = some true)
  (cq3_8 : PySem.W.mroIn K C4 (.type "BaseException") = some true)
  (wr4 : xcIn K C5 C0 = true)
  (cq4_0 : PySem.W.typeIn K (.ref C5) = some (.type "type"))
  (cq4_1 : PySem.W.hasDictIn K C5 = true)
  (cq4_2 : PySem.W.findIn K (.ref C5) "__getattribute__" = some (some (.builtin "BaseException.__getattribute__")))
  (cq4_3 : PySem.W.findIn K (.ref C5) "__getattr__" = some none)
  (cq4_4 : PySem.W.findIn K (.ref C5) "__class__" = some (some (.builtin "object.__class__")))
  (cq4_5 : PySem.W.specialIn K (.builtin "object.__class__") "__get__" = some (some (.builtin "getset_descriptor.__get__")))
  (cq4_6 : PySem.W.takesIn K (.builtin "object.__class__") = some true)
  (cq4_7 : PySem.W.mroIn K C5 (.type "object") = some true)
  (cq4_8 : PySem.W.mroIn K C5 (.type "BaseException") = some true)
  (wr5 : xcIn K C6 C0 = true)
  (cq5_0 : PySem.W.typeIn K (.ref C6) = some (.type "type"))
  (cq5_1 : PySem.W.hasDictIn K C6 = true)
  (cq5_2 : PySem.W.findIn K (.ref C6) "__getattribute__" = some (some (.builtin "BaseException.__getattribute__")))
  (cq5_3 : PySem.W.findIn K (.ref C6) "__getattr__" = some none)
  (cq5_4 : PySem.W.findIn K (.ref C6) "__class__" = some (some (.builtin "object.__class__")))
  (cq5_5 : PySem.W.specialIn K (.builtin "object.__class__") "__get__" = some (some (.builtin "getset_descriptor.__get__")))
  (cq5_6 : PySem.W.takesIn K (.builtin "object.__class__") = some true)
  (cq5_7 : PySem.W.mroIn K C6 (.type "object") = some true)
  (cq5_8 : PySem.W.mroIn K C6 (.type "BaseException") = some true)
  (wr6 : xcIn K C7 C0 = true)
  (cq6_0 : PySem.W.typeIn K (.ref C7) = some (.type "type"))
  (cq6_1 : PySem.W.hasDictIn K C7 = true)
  (cq6_2 : PySem.W.findIn K (.ref C7) "__getattribute__" = some (some (.builtin "BaseException.__getattribute__")))
  (cq6_3 : PySem.W.findIn K (.ref C7) "__getattr__" = some none)
  (cq6_4 : PySem.W.findIn K (.ref C7) "__class__" = some (some (.builtin "object.__class__")))
  (cq6_5 : PySem.W.specialIn K (.builtin "object.__class__") "__get__" = some (some (.builtin "getset_descriptor.__get__")))
  (cq6_6 : PySem.W.takesIn K (.builtin "object.__class__") = some true)
  (cq6_7 : PySem.W.mroIn K C7 (.type "object") = some true)
  (cq6_8 : PySem.W.mroIn K C7 (.type "BaseException") = some true)
  (wr7 : xcIn K C8 C0 = true)
  (cq7_0 : PySem.W.typeIn K (.ref C8) = some (.type "type"))
  (cq7_1 : PySem.W.hasDictIn K C8 = true)
  (cq7_2 : PySem.W.findIn K (.ref C8) "__getattribute__" = some (some (.builtin "BaseException.__getattribute__")))
  (cq7_3 : PySem.W.findIn K (.ref C8) "__getattr__" = some none)
  (cq7_4 : PySem.W.findIn K (.ref C8) "__class__" = some (some (.builtin "object.__class__")))
  (cq7_5 : PySem.W.specialIn K (.builtin "object.__class__") "__get__" = some (some (.builtin "getset_descriptor.__get__")))
  (cq7_6 : PySem.W.takesIn K (.builtin "object.__class__") = some true)
  (cq7_7 : PySem.W.mroIn K C8 (.type "object") = some true)
  (cq7_8 : PySem.W.mroIn K C8 (.type "BaseException") = some true)
  (wr8 : xcIn K C9 C0 = true)
  (cq8_0 : PySem.W.typeIn K (.ref C9) = some (.type "type"))
  (cq8_1 : PySem.W.hasDictIn K C9 = true)
  (cq8_2 : PySem.W.findIn K (.ref C9) "__getattribute__" = some (some (.builtin "BaseException.__getattribute__")))
  (cq8_3 : PySem.W.findIn K (.ref C9) "__getattr__" = some none)
  (cq8_4 : PySem.W.findIn K (.ref C9) "__class__" = some (some (.builtin "object.__class__")))
  (cq8_5 : PySem.W.specialIn K (.builtin "object.__class__") "__get__" = some (some (.builtin "getset_descriptor.__get__")))
  (cq8_6 : PySem.W.takesIn K (.builtin "object.__class__") = some true)
  (cq8_7 : PySem.W.mroIn K C9 (.type "object") = some true)
  (cq8_8 : PySem.W.mroIn K C9 (.type "BaseException") = some true)
  (wr9 : xcIn K C10 C0 = true)
  (cq9_0 : PySem.W.typeIn K (.ref C10) = some (.type "type"))
  (cq9_1 : PySem.W.hasDictIn K C10 = true)
  (cq9_2 : PySem.W.findIn K (.ref C10) "__getattribute__" = some (some (.builtin "BaseException.__getattribute__")))
  (cq9_3 : PySem.W.findIn K (.ref C10) "__getattr__" = some none)
  (cq9_4 : PySem.W.findIn K (.ref C10) "__class__" = some (some (.builtin "object.__class__")))
  (cq9_5 : PySem.W.specialIn K (.builtin "object.__class__") "__get__" = some (some (.builtin "getset_descriptor.__get__")))
  (cq9_6 : PySem.W.takesIn K (.builtin "object.__class__") = some true)
  (cq9_7 : PySem.W.mroIn K C10 (.type "object") = some true)
  (cq9_8 : PySem.W.mroIn K C10 (.type "BaseException") = some true)
  (wr10 : xcIn K C11 C0 = true)
  (cq10_0 : PySem.W.typeIn K (.ref C11) = some (.type "type"))
  (cq10_1 : PySem.W.hasDictIn K C11 = true)
  (cq10_2 : PySem.W.findIn K (.ref C11) "__getattribute__" = some (some (.builtin "BaseException.__getattribute__")))
  (cq10_3 : PySem.W.findIn K (.ref C11) "__getattr__" = some none)
  (cq10_4 : PySem.W.findIn K (.ref C11) "__class__" = some (some (.builtin "object.__class__")))
  (cq10_5 : PySem.W.specialIn K (.builtin "object.__class__") "__get__" = some (some (.builtin "getset_descriptor.__get__")))
  (cq10_6 : PySem.W.takesIn K (.builtin "object.__class__") = some true)
  (cq10_7 : PySem.W.mroIn K C11 (.type "object") = some true)
  (cq10_8 : PySem.W.mroIn K C11 (.type "BaseException") = some true)
  (wr11 : xcIn K C12 C0 = true)
  (cq11_0 : PySem.W.typeIn K (.ref C12) = some (.type "type"))
  (cq11_1 : PySem.W.hasDictIn K C12 = true)
  (cq11_2 : PySem.W.findIn K (.ref C12) "__getattribute__" = some (some (.builtin "BaseException.__getattribute__")))
  (cq11_3 : PySem.W.findIn K (.ref C12) "__getattr__" = some none)
  (cq11_4 : PySem.W.findIn K (.ref C12) "__class__" = some (some (.builtin "object.__class__")))
  (cq11_5 : PySem.W.specialIn K (.builtin "object.__class__") "__get__" = some (some (.builtin "getset_descriptor.__get__")))
  (cq11_6 : PySem.W.takesIn K (.builtin "object.__class__") = some true)
  (cq11_7 : PySem.W.mroIn K C12 (.type "object") = some true)
  (cq11_8 : PySem.W.mroIn K C12 (.type "BaseException") = some true)
  (wr12 : xcIn K C13 C0 = true)
  (cq12_0 : PySem.W.typeIn K (.ref C13) = some (.type "type"))
  (cq12_1 : PySem.W.hasDictIn K C13 = true)
  (cq12_2 : PySem.W.findIn K (.ref C13) "__getattribute__" = some (some (.builtin "BaseException.__getattribute__")))
  (cq12_3 : PySem.W.findIn K (.ref C13) "__getattr__" = some none)
  (cq12_4 : PySem.W.findIn K (.ref C13) "__class__" = some (some (.builtin "object.__class__")))
  (cq12_5 : PySem.W.specialIn K (.builtin "object.__class__") "__get__" = some (some (.builtin "getset_descriptor.__get__")))
  (cq12_6 : PySem.W.takesIn K (.builtin "object.__class__") = some true)
  (cq12_7 : PySem.W.mroIn K C13 (.type "object") = some true)
  (cq12_8 : PySem.W.mroIn K C13 (.type "BaseException") = some true)
  (wr13 : xcIn K C14 C0 = true)
  (cq13_0 : PySem.W.typeIn K (.ref C14) = some (.type "type"))
  (cq13_1 : PySem.W.hasDictIn K C14 = true)
  (cq13_2 : PySem.W.findIn K (.ref C14) "__getattribute__" = some (some (.builtin "BaseException.__getattribute__")))
  (cq13_3 : PySem.W.findIn K (.ref C14) "__getattr__" = some none)
  (cq13_4 : PySem.W.findIn K (.ref C14) "__class__" = some (some (.builtin "object.__class__")))
  (cq13_5 : PySem.W.specialIn K (.builtin "object.__class__") "__get__" = some (some (.builtin "getset_descriptor.__get__")))
  (cq13_6 : PySem.W.takesIn K (.builtin "object.__class__") = some true)
  (cq13_7 : PySem.W.mroIn K C14 (.type "object") = some true)
  (cq13_8 : PySem.W.mroIn K C14 (.type "BaseException") = some true)
  (ia0 : PySem.W.findIn K (.ref C12) "__init__" = some (some (.ref fi0)))
  (il0 : K.lookup fi0 = some ⟨ioc0, iod0, .func (PySem.W.fnOf "__init__" "Absent.__init__" (defArgs s_Absent) (defBody s_Absent) (defScope s_Absent) .none ikV0 idc0 ipm0 ian0 icd0 ict0), isl0⟩)
  (ic0 : PySem.W.codeIn K icd0 "Absent.__init__" = true)
  (ik0 : PySem.W.keepIn K (.ref fi0) = true)
  (wi0 : iniIn K C12 fi0 = true)
  (if0 : PySem.W.isFn K (.ref fi0) = true)
  (is0 : PySem.W.findIn K (.ref C12) "__setattr__" = some (some (.builtin "object.__setattr__")))
  (it0 : PySem.W.takerIn K C12 "row" = some none)
  (ia1 : PySem.W.findIn K (.ref C11) "__init__" = some (some (.ref fi1)))
  (il1 : K.lookup fi1 = some ⟨ioc1, iod1, .func (PySem.W.fnOf "__init__" "Twice.__init__" (defArgs s_Twice) (defBody s_Twice) (defScope s_Twice) .none ikV1 idc1 ipm1 ian1 icd1 ict1), isl1⟩)
  (ic1 : PySem.W.codeIn K icd1 "Twice.__init__" = true)
  (ik1 : PySem.W.keepIn K (.ref fi1) = true)
  (wi1 : iniIn K C11 fi1 = true)
  (if1 : PySem.W.isFn K (.ref fi1) = true)
  (is1 : PySem.W.findIn K (.ref C11) "__setattr__" = some (some (.builtin "object.__setattr__")))
  (it1 : PySem.W.takerIn K C11 "row" = some none)
  (ia2 : PySem.W.findIn K (.ref C13) "__init__" = some (some (.ref fi2)))
  (il2 : K.lookup fi2 = some ⟨ioc2, iod2, .func (PySem.W.fnOf "__init__" "Gone.__init__" (defArgs s_Gone) (defBody s_Gone) (defScope s_Gone) .none ikV2 idc2 ipm2 ian2 icd2 ict2), isl2⟩)
  (ic2 : PySem.W.codeIn K icd2 "Gone.__init__" = true)
  (ik2 : PySem.W.keepIn K (.ref fi2) = true)
  (wi2 : iniIn K C13 fi2 = true)
  (if2 : PySem.W.isFn K (.ref fi2) = true)
  (is2 : PySem.W.findIn K (.ref C13) "__setattr__" = some (some (.builtin "object.__setattr__")))
  (it2 : PySem.W.takerIn K C13 "known" = some none)
  (ia3 : PySem.W.findIn K (.ref C14) "__init__" = some (some (.ref fi3)))
  (il3 : K.lookup fi3 = some ⟨ioc3, iod3, .func (PySem.W.fnOf "__init__" "Later.__init__" (defArgs s_Later) (defBody s_Later) (defScope s_Later) .none ikV3 idc3 ipm3 ian3 icd3 ict3), isl3⟩)
  (ic3 : PySem.W.codeIn K icd3 "Later.__init__" = true)
  (ik3 : PySem.W.keepIn K (.ref fi3) = true)
  (wi3 : iniIn K C14 fi3 = true)
  (if3 : PySem.W.isFn K (.ref fi3) = true)
  (is3 : PySem.W.findIn K (.ref C14) "__setattr__" = some (some (.builtin "object.__setattr__")))
  (it3 : PySem.W.takerIn K C14 "now" = some none)
  (id0 : PySem.W.findIn K (.ref C12) "row" = some none)
  (id1 : PySem.W.findIn K (.ref C11) "row" = some none)
  (id2 : PySem.W.findIn K (.ref C13) "known" = some none)
  (id3 : PySem.W.findIn K (.ref C14) "now" = some none)
  (dd0 : [C0, C1, C2, C3, C4, C5, C6, C7, C8, C9, C10, C11, C12, C13, C14].Nodup)
  (oa0 : PySem.W.findIn K (.ref C15) "__init__" = some (some (.ref fo0)))
  (ol0 : K.lookup fo0 = some ⟨ooc0, ood0, .func (PySem.W.fnOf "__init__" "Book.__init__" (defArgs s_Book___init__) (defBody s_Book___init__) (defScope s_Book___init__) .none okV0 odc0 opm0 oan0 ocd0 oct0), osl0⟩)
  (oc0 : PySem.W.codeIn K ocd0 "Book.__init__" = true)
  (ok0 : PySem.W.keepIn K (.ref fo0) = true)
  (of0 : PySem.W.isFn K (.ref fo0) = true)
  (oa1 : PySem.W.findIn K (.ref C15) "columns" = some (some (.ref fo1)))
  (ol1 : K.lookup fo1 = some ⟨ooc1, ood1, .func (PySem.W.fnOf "columns" "Book.columns" (defArgs s_Book_columns) (defBody s_Book_columns) (defScope s_Book_columns) .none okV1 odc1 opm1 oan1 ocd1 oct1), osl1⟩)
  (oc1 : PySem.W.codeIn K ocd1 "Book.columns" = true)
  (ok1 : PySem.W.keepIn K (.ref fo1) = true)
  (of1 : PySem.W.isFn K (.ref fo1) = true)
  (oa2 : PySem.W.findIn K (.ref C15) "ask_row" = some (some (.ref fo2)))
  (ol2 : K.lookup fo2 = some ⟨ooc2, ood2, .func (PySem.W.fnOf "ask_row" "Book.ask_row" (defArgs s_Book_ask_row) (defBody s_Book_ask_row) (defScope s_Book_ask_row) .none okV2 odc2 opm2 oan2 ocd2 oct2), osl2⟩)
  (oc2 : PySem.W.codeIn K ocd2 "Book.ask_row" = true)
  (ok2 : PySem.W.keepIn K (.ref fo2) = true)
  (of2 : PySem.W.isFn K (.ref fo2) = true)
  (oa3 : PySem.W.findIn K (.ref C15) "ask_there" = some (some (.ref fo3)))
  (ol3 : K.lookup fo3 = some ⟨ooc3, ood3, .func (PySem.W.fnOf "ask_there" "Book.ask_there" (defArgs s_Book_ask_there) (defBody s_Book_ask_there) (defScope s_Book_ask_there) .none okV3 odc3 opm3 oan3 ocd3 oct3), osl3⟩)
  (oc3 : PySem.W.codeIn K ocd3 "Book.ask_there" = true)
  (ok3 : PySem.W.keepIn K (.ref fo3) = true)
  (of3 : PySem.W.isFn K (.ref fo3) = true)
  (oa4 : PySem.W.findIn K (.ref C15) "do" = some (some (.ref fo4)))
  (ol4 : K.lookup fo4 = some ⟨ooc4, ood4, .func (PySem.W.fnOf "do" "Book.do" (defArgs s_Book_do) (defBody s_Book_do) (defScope s_Book_do) .none okV4 odc4 opm4 oan4 ocd4 oct4), osl4⟩)
  (oc4 : PySem.W.codeIn K ocd4 "Book.do" = true)
  (ok4 : PySem.W.keepIn K (.ref fo4) = true)
  (of4 : PySem.W.isFn K (.ref fo4) = true)
  (oa5 : PySem.W.findIn K (.ref C15) "put" = some (some (.ref fo5)))
  (ol5 : K.lookup fo5 = some ⟨ooc5, ood5, .func (PySem.W.fnOf "put" "Book.put" (defArgs s_Book_put) (defBody s_Book_put) (defScope s_Book_put) .none okV5 odc5 opm5 oan5 ocd5 oct5), osl5⟩)
  (oc5 : PySem.W.codeIn K ocd5 "Book.put" = true)
  (ok5 : PySem.W.keepIn K (.ref fo5) = true)
  (of5 : PySem.W.isFn K (.ref fo5) = true)
  (oa6 : PySem.W.findIn K (.ref C15) "change" = some (some (.ref fo6)))
  (ol6 : K.lookup fo6 = some ⟨ooc6, ood6, .func (PySem.W.fnOf "change" "Book.change" (defArgs s_Book_change) (defBody s_Book_change) (defScope s_Book_change) .none okV6 odc6 opm6 oan6 ocd6 oct6), osl6⟩)
  (oc6 : PySem.W.codeIn K ocd6 "Book.change" = true)
  (ok6 : PySem.W.keepIn K (.ref fo6) = true)
  (of6 : PySem.W.isFn K (.ref fo6) = true)
  (oa7 : PySem.W.findIn K (.ref C15) "take" = some (some (.ref fo7)))
  (ol7 : K.lookup fo7 = some ⟨ooc7, ood7, .func (PySem.W.fnOf "take" "Book.take" (defArgs s_Book_take) (defBody s_Book_take) (defScope s_Book_take) .none okV7 odc7 opm7 oan7 ocd7 oct7), osl7⟩)
  (oc7 : PySem.W.codeIn K ocd7 "Book.take" = true)
  (ok7 : PySem.W.keepIn K (.ref fo7) = true)
  (of7 : PySem.W.isFn K (.ref fo7) = true)
  (oa8 : PySem.W.findIn K (.ref C15) "moment" = some (some (.ref fo8)))
  (ol8 : K.lookup fo8 = some ⟨ooc8, ood8, .func (PySem.W.fnOf "moment" "Book.moment" (defArgs s_Book_moment) (defBody s_Book_moment) (defScope s_Book_moment) .none okV8 odc8 opm8 oan8 ocd8 oct8), osl8⟩)
  (oc8 : PySem.W.codeIn K ocd8 "Book.moment" = true)
  (ok8 : PySem.W.keepIn K (.ref fo8) = true)
  (of8 : PySem.W.isFn K (.ref fo8) = true)
  (oa9 : PySem.W.findIn K (.ref C15) "has" = some (some (.ref fo9)))
  (ol9 : K.lookup fo9 = some ⟨ooc9, ood9, .func (PySem.W.fnOf "has" "Book.has" (defArgs s_Book_has) (defBody s_Book_has) (defScope s_Book_has) .none okV9 odc9 opm9 oan9 ocd9 oct9), osl9⟩)
  (oc9 : PySem.W.codeIn K ocd9 "Book.has" = true)
  (ok9 : PySem.W.keepIn K (.ref fo9) = true)
  (of9 : PySem.W.isFn K (.ref fo9) = true)
  (oa10 : PySem.W.findIn K (.ref C15) "values_of" = some (some (.ref fo10)))
  (ol10 : K.lookup fo10 = some ⟨ooc10, ood10, .func (PySem.W.fnOf "values_of" "Book.values_of" (defArgs s_Book_values_of) (defBody s_Book_values_of) (defScope s_Book_values_of) .none okV10 odc10 opm10 oan10 ocd10 oct10), osl10⟩)
  (oc10 : PySem.W.codeIn K ocd10 "Book.values_of" = true)
  (ok10 : PySem.W.keepIn K (.ref fo10) = true)
  (of10 : PySem.W.isFn K (.ref fo10) = true)
  (oa11 : PySem.W.findIn K (.ref C15) "since" = some (some (.ref fo11)))
  (ol11 : K.lookup fo11 = some ⟨ooc11, ood11, .func (PySem.W.fnOf "since" "Book.since" (defArgs s_Book_since) (defBody s_Book_since) (defScope s_Book_since) .none okV11 odc11 opm11 oan11 ocd11 oct11), osl11⟩)
  (oc11 : PySem.W.codeIn K ocd11 "Book.since" = true)
  (ok11 : PySem.W.keepIn K (.ref fo11) = true)
  (of11 : PySem.W.isFn K (.ref fo11) = true)
  (oa12 : PySem.W.findIn K (.ref C15) "now_rows" = some (some (.ref fo12)))
  (ol12 : K.lookup fo12 = some ⟨ooc12, ood12, .func (PySem.W.fnOf "now_rows" "Book.now_rows" (defArgs s_Book_now_rows) (defBody s_Book_now_rows) (defScope s_Book_now_rows) .none okV12 odc12 opm12 oan12 ocd12 oct12), osl12⟩)
  (oc12 : PySem.W.codeIn K ocd12 "Book.now_rows" = true)
  (ok12 : PySem.W.keepIn K (.ref fo12) = true)
  (of12 : PySem.W.isFn K (.ref fo12) = true)
  (oa13 : PySem.W.findIn K (.ref C15) "oldest" = some (some (.ref fo13)))
  (ol13 : K.lookup fo13 = some ⟨ooc13, ood13, .func (PySem.W.fnOf "oldest" "Book.oldest" (defArgs s_Book_oldest) (defBody s_Book_oldest) (defScope s_Book_oldest) .none okV13 odc13 opm13 oan13 ocd13 oct13), osl13⟩)
  (oc13 : PySem.W.codeIn K ocd13 "Book.oldest" = true)
  (ok13 : PySem.W.keepIn K (.ref fo13) = true)
  (of13 : PySem.W.isFn K (.ref fo13) = true)
  (oa14 : PySem.W.findIn K (.ref C15) "let_go" = some (some (.ref fo14)))
  (ol14 : K.lookup fo14 = some ⟨ooc14, ood14, .func (PySem.W.fnOf "let_go" "Book.let_go" (defArgs s_Book_let_go) (defBody s_Book_let_go) (defScope s_Book_let_go) .none okV14 odc14 opm14 oan14 ocd14 oct14), osl14⟩)
  (oc14 : PySem.W.codeIn K ocd14 "Book.let_go" = true)
  (ok14 : PySem.W.keepIn K (.ref fo14) = true)
  (of14 : PySem.W.isFn K (.ref fo14) = true)
  (oa15 : PySem.W.findIn K (.ref C15) "done_behind" = some (some (.ref fo15)))
  (ol15 : K.lookup fo15 = some ⟨ooc15, ood15, .func (PySem.W.fnOf "done_behind" "Book.done_behind" (defArgs s_Book_done_behind) (defBody s_Book_done_behind) (defScope s_Book_done_behind) .none okV15 odc15 opm15 oan15 ocd15 oct15), osl15⟩)
  (oc15 : PySem.W.codeIn K ocd15 "Book.done_behind" = true)
  (ok15 : PySem.W.keepIn K (.ref fo15) = true)
  (of15 : PySem.W.isFn K (.ref fo15) = true)
  (oa16 : PySem.W.findIn K (.ref C15) "rows_at" = some (some (.ref fo16)))
  (ol16 : K.lookup fo16 = some ⟨ooc16, ood16, .func (PySem.W.fnOf "rows_at" "Book.rows_at" (defArgs s_Book_rows_at) (defBody s_Book_rows_at) (defScope s_Book_rows_at) .none okV16 odc16 opm16 oan16 ocd16 oct16), osl16⟩)
  (oc16 : PySem.W.codeIn K ocd16 "Book.rows_at" = true)
  (ok16 : PySem.W.keepIn K (.ref fo16) = true)
  (of16 : PySem.W.isFn K (.ref fo16) = true)
  (oa17 : PySem.W.findIn K (.ref C15) "deeds" = some (some (.ref fo17)))
  (ol17 : K.lookup fo17 = some ⟨ooc17, ood17, .func (PySem.W.fnOf "deeds" "Book.deeds" (defArgs s_Book_deeds) (defBody s_Book_deeds) (defScope s_Book_deeds) .none okV17 odc17 opm17 oan17 ocd17 oct17), osl17⟩)
  (oc17 : PySem.W.codeIn K ocd17 "Book.deeds" = true)
  (ok17 : PySem.W.keepIn K (.ref fo17) = true)
  (of17 : PySem.W.isFn K (.ref fo17) = true)
  (pc15_0 : PySem.W.plainGet K C15 Str.empty = true)
  (pc15_1 : PySem.W.hasDictIn K C15 = true)
  (pc15_2 : PySem.W.plainOver K C15 = true)
  (pc15_3 : PySem.W.findIn K (.ref C15) "__setattr__" = some (some (.builtin "object.__setattr__")))
  (pi15 : PySem.W.makesIn K C15 = true)
  (pk15 : PySem.W.keepIn K (.ref C15) = true)
  (pf15_heads : PySem.W.findIn K (.ref C15) "heads" = some none)
  (pf15_rows : PySem.W.findIn K (.ref C15) "rows" = some none)
  (pf15_touched : PySem.W.findIn K (.ref C15) "touched" = some none)
  (pf15_done : PySem.W.findIn K (.ref C15) "done" = some none)
  (pf15_known : PySem.W.findIn K (.ref C15) "known" = some none)
  (pf15_now : PySem.W.findIn K (.ref C15) "now" = some none)
  : Txt K mg :=
 ⟨⟨_, _, fun_mk (st := s__wall) lq0 cq0 kq0, PySem.W.mg_of X G aq0⟩,
  ⟨_, _, fun_mk (st := s_is_whole) lq1 cq1 kq1, PySem.W.mg_of X G aq1⟩,
  ⟨_, _, fun_mk (st := s_made_of) lq2 cq2 kq2, PySem.W.mg_of X G aq2⟩,
  ⟨_, _, fun_mk (st := s_is_number_value) lq3 cq3 kq3, PySem.W.mg_of X G aq3⟩,
  ⟨_, _, fun_mk (st := s_is_text_value) lq4 cq4 kq4, PySem.W.mg_of X G aq4⟩,
  ⟨_, _, fun_mk (st := s_is_value) lq5 cq5 kq5, PySem.W.mg_of X G aq5⟩,
  ⟨_, _, fun_mk (st := s_is_name) lq6 cq6 kq6, PySem.W.mg_of X G aq6⟩,
  ⟨_, _, fun_mk (st := s_ask_columns) lq7 cq7 kq7, PySem.W.mg_of X G aq7⟩,
  ⟨_, _, fun_mk (st := s_is_row_number) lq8 cq8 kq8, PySem.W.mg_of X G aq8⟩,
  ⟨_, _, fun_mk (st := s_is_row) lq9 cq9 kq9, PySem.W.mg_of X G aq9⟩,
  ⟨_, _, fun_mk (st := s_told_rows) lq10 cq10 kq10, PySem.W.mg_of X G aq10⟩,
  ⟨_, _, fun_mk (st := s_told_values) lq11 cq11 kq11, PySem.W.mg_of X G aq11⟩,
  ⟨_, _, fun_mk (st := s_put_back) lq12 cq12 kq12, PySem.W.mg_of X G aq12⟩,
  ⟨_, _, fun_mk (st := s__law_draw) lq13 cq13 kq13, PySem.W.mg_of X G aq13⟩,
  ⟨_, _, fun_mk (st := s__law_columns) lq14 cq14 kq14, PySem.W.mg_of X G aq14⟩,
  ⟨_, _, fun_mk (st := s__law_value) lq15 cq15 kq15, PySem.W.mg_of X G aq15⟩,
  ⟨_, _, fun_mk (st := s__law_values) lq16 cq16 kq16, PySem.W.mg_of X G aq16⟩,
  ⟨_, _, fun_mk (st := s__law_numbers) lq17 cq17 kq17, PySem.W.mg_of X G aq17⟩,
  ⟨_, _, fun_mk (st := s__law_is_whole) lq18 cq18 kq18, PySem.W.mg_of X G aq18⟩,
  ⟨_, _, fun_mk (st := s__law_same) lq19 cq19 kq19, PySem.W.mg_of X G aq19⟩,
  ⟨_, _, fun_mk (st := s__law_same_rows) lq20 cq20 kq20, PySem.W.mg_of X G aq20⟩,
  ⟨_, _, fun_mk (st := s__law_asked) lq21 cq21 kq21, PySem.W.mg_of X G aq21⟩,
  ⟨_, _, fun_mk (st := s__law_moment) lq22 cq22 kq22, PySem.W.mg_of X G aq22⟩,
  ⟨_, _, fun_mk (st := s__law_right) lq23 cq23 kq23, PySem.W.mg_of X G aq23⟩,
  ⟨_, _, fun_mk (st := s_law) lq24 cq24 kq24, PySem.W.mg_of X G aq24⟩,
  ⟨_, PySem.W.mg_of X G gq0, _, rfl⟩,
  ⟨_, PySem.W.mg_of X G gq1, _, rfl⟩,
  ⟨_, PySem.W.mg_of X G gq2, _, rfl⟩,
  ⟨_, PySem.W.mg_of X G gq3, _, rfl⟩,
  ⟨_, PySem.W.mg_of X G gq4, _, rfl⟩,
  ⟨_, PySem.W.mg_of X G gq5, _, rfl⟩,
  ⟨_, PySem.W.mg_of X G gq6, _, rfl⟩,
  ⟨_, PySem.W.mg_of X G gq7, _, rfl⟩,
  ⟨_, PySem.W.mg_of X G gq8, _, rfl⟩,
  PySem.W.mg_none_of X G zq0,
  PySem.W.mg_none_of X G zq1,
  PySem.W.mg_none_of X G zq2,
  PySem.W.mg_none_of X G zq3,
  PySem.W.mg_none_of X G zq4,
  PySem.W.mg_none_of X G zq5,
  PySem.W.mg_none_of X G zq6,
  PySem.W.mg_none_of X G zq7,
  PySem.W.mg_none_of X G zq8,
  PySem.W.mg_none_of X G zq9,
  PySem.W.mg_none_of X G zq10,
  PySem.W.mg_none_of X G zq11,
  PySem.W.mg_none_of X G zq12,
  PySem.W.mg_none_of X G zq13,
  PySem.W.mg_none_of X G zq14,
  PySem.W.mg_none_of X G zq15,
  (by have e := PySem.W.mg_of X G xq0; rw [clsA_eq e]; exact e),
  (by have e := PySem.W.mg_of X G xq1; rw [clsA_eq e]; exact e),
  (by have e := PySem.W.mg_of X G xq2; rw [clsA_eq e]; exact e),
  (by have e := PySem.W.mg_of X G xq3; rw [clsA_eq e]; exact e),
  (by have e := PySem.W.mg_of X G xq4; rw [clsA_eq e]; exact e),
  (by have e := PySem.W.mg_of X G xq5; rw [clsA_eq e]; exact e),
  (by have e := PySem.W.mg_of X G xq6; rw [clsA_eq e]; exact e),
  (by have e := PySem.W.mg_of X G xq7; rw [clsA_eq e]; exact e),
  (by have e := PySem.W.mg_of X G xq8; rw [clsA_eq e]; exact e),
  (by have e := PySem.W.mg_of X G xq9; rw [clsA_eq e]; exact e),
  (by have e := PySem.W.mg_of X G xq10; rw [clsA_eq e]; exact e),
  (by have e := PySem.W.mg_of X G xq11; rw [clsA_eq e]; exact e),
  (by have e := PySem.W.mg_of X G xq12; rw [clsA_eq e]; exact e),
  (by have e := PySem.W.mg_of X G xq13; rw [clsA_eq e]; exact e),
  (by have e := PySem.W.mg_of X G xq14; rw [clsA_eq e]; exact e),
  (by have e := PySem.W.mg_of X G xq15; rw [clsA_eq e]; exact e),
  xcls_mk (PySem.W.mg_of X G xq1) yq0,
  xcls_mk (PySem.W.mg_of X G xq4) yq1,
  xtop_mk (PySem.W.mg_of X G xq0) bt0 bt1 bt2 bt3 bt4,
  xc_mk (PySem.W.mg_of X G xq1) (PySem.W.mg_of X G xq0) wr0 cq0_0 cq0_1 cq0_2 cq0_3 cq0_4 cq0_5 cq0_6 cq0_7 cq0_8,
  xc_mk (PySem.W.mg_of X G xq2) (PySem.W.mg_of X G xq0) wr1 cq1_0 cq1_1 cq1_2 cq1_3 cq1_4 cq1_5 cq1_6 cq1_7 cq1_8,
  xc_mk (PySem.W.mg_of X G xq3) (PySem.W.mg_of X G xq0) wr2 cq2_0 cq2_1 cq2_2 cq2_3 cq2_4 cq2_5 cq2_6 cq2_7 cq2_8,
  xc_mk (PySem.W.mg_of X G xq4) (PySem.W.mg_of X G xq0) wr3 cq3_0 cq3_1 cq3_2 cq3_3 cq3_4 cq3_5 cq3_6 cq3_7 cq3_8,
  xc_mk (PySem.W.mg_of X G xq5) (PySem.W.mg_of X G xq0) wr4 cq4_0 cq4_1 cq4_2 cq4_3 cq4_4 cq4_5 cq4_6 cq4_7 cq4_8,
  xc_mk (PySem.W.mg_of X G xq6) (PySem.W.mg_of X G xq0) wr5 cq5_0 cq5_1 cq5_2 cq5_3 cq5_4 cq5_5 cq5_6 cq5_7 cq5_8,
  xc_mk (PySem.W.mg_of X G xq7) (PySem.W.mg_of X G xq0) wr6 cq6_0 cq6_1 cq6_2 cq6_3 cq6_4 cq6_5 cq6_6 cq6_7 cq6_8,
  xc_mk (PySem.W.mg_of X G xq8) (PySem.W.mg_of X G xq0) wr7 cq7_0 cq7_1 cq7_2 cq7_3 cq7_4 cq7_5 cq7_6 cq7_7 cq7_8,
  xc_mk (PySem.W.mg_of X G xq9) (PySem.W.mg_of X G xq0) wr8 cq8_0 cq8_1 cq8_2 cq8_3 cq8_4 cq8_5 cq8_6 cq8_7 cq8_8,
  xc_mk (PySem.W.mg_of X G xq10) (PySem.W.mg_of X G xq0) wr9 cq9_0 cq9_1 cq9_2 cq9_3 cq9_4 cq9_5 cq9_6 cq9_7 cq9_8,
  xc_mk (PySem.W.mg_of X G xq11) (PySem.W.mg_of X G xq0) wr10 cq10_0 cq10_1 cq10_2 cq10_3 cq10_4 cq10_5 cq10_6 cq10_7 cq10_8,
  xc_mk (PySem.W.mg_of X G xq12) (PySem.W.mg_of X G xq0) wr11 cq11_0 cq11_1 cq11_2 cq11_3 cq11_4 cq11_5 cq11_6 cq11_7 cq11_8,
  xc_mk (PySem.W.mg_of X G xq13) (PySem.W.mg_of X G xq0) wr12 cq12_0 cq12_1 cq12_2 cq12_3 cq12_4 cq12_5 cq12_6 cq12_7 cq12_8,
  xc_mk (PySem.W.mg_of X G xq14) (PySem.W.mg_of X G xq0) wr13 cq13_0 cq13_1 cq13_2 cq13_3 cq13_4 cq13_5 cq13_6 cq13_7 cq13_8,
  xini_mk (PySem.W.mg_of X G xq12) (PySem.W.mg_of X G xq0) (fun_mk (st := s_Absent) il0 ic0 ik0) wi0 if0 is0 it0 wr11,
  xini_mk (PySem.W.mg_of X G xq11) (PySem.W.mg_of X G xq0) (fun_mk (st := s_Twice) il1 ic1 ik1) wi1 if1 is1 it1 wr10,
  xini_mk (PySem.W.mg_of X G xq13) (PySem.W.mg_of X G xq0) (fun_mk (st := s_Gone) il2 ic2 ik2) wi2 if2 is2 it2 wr12,
  xini_mk (PySem.W.mg_of X G xq14) (PySem.W.mg_of X G xq0) (fun_mk (st := s_Later) il3 ic3 ik3) wi3 if3 is3 it3 wr13,
  (by rw [clsA_eq (PySem.W.mg_of X G xq12)]; exact id0),
  (by rw [clsA_eq (PySem.W.mg_of X G xq11)]; exact id1),
  (by rw [clsA_eq (PySem.W.mg_of X G xq13)]; exact id2),
  (by rw [clsA_eq (PySem.W.mg_of X G xq14)]; exact id3),
  (by rw [clsA_eq (PySem.W.mg_of X G xq0), clsA_eq (PySem.W.mg_of X G xq1), clsA_eq (PySem.W.mg_of X G xq2), clsA_eq (PySem.W.mg_of X G xq3), clsA_eq (PySem.W.mg_of X G xq4), clsA_eq (PySem.W.mg_of X G xq5), clsA_eq (PySem.W.mg_of X G xq6), clsA_eq (PySem.W.mg_of X G xq7), clsA_eq (PySem.W.mg_of X G xq8), clsA_eq (PySem.W.mg_of X G xq9), clsA_eq (PySem.W.mg_of X G xq10), clsA_eq (PySem.W.mg_of X G xq11), clsA_eq (PySem.W.mg_of X G xq12), clsA_eq (PySem.W.mg_of X G xq13), clsA_eq (PySem.W.mg_of X G xq14)]; exact dd0),
  cls_mk (PySem.W.mg_of X G xq15) pc15_0 pc15_1 pc15_2 pc15_3,
  oi_mk (PySem.W.mg_of X G xq15) (fun_mk (st := s_Book___init__) ol0 oc0 ok0) oa0 of0 pi15 pk15,
  om_mk (PySem.W.mg_of X G xq15) (fun_mk (st := s_Book_ask_row) ol2 oc2 ok2) oa2 of2,
  om_mk (PySem.W.mg_of X G xq15) (fun_mk (st := s_Book_ask_there) ol3 oc3 ok3) oa3 of3,
  om_mk (PySem.W.mg_of X G xq15) (fun_mk (st := s_Book_change) ol6 oc6 ok6) oa6 of6,
  om_mk (PySem.W.mg_of X G xq15) (fun_mk (st := s_Book_columns) ol1 oc1 ok1) oa1 of1,
  om_mk (PySem.W.mg_of X G xq15) (fun_mk (st := s_Book_deeds) ol17 oc17 ok17) oa17 of17,
  om_mk (PySem.W.mg_of X G xq15) (fun_mk (st := s_Book_do) ol4 oc4 ok4) oa4 of4,
  om_mk (PySem.W.mg_of X G xq15) (fun_mk (st := s_Book_done_behind) ol15 oc15 ok15) oa15 of15,
  om_mk (PySem.W.mg_of X G xq15) (fun_mk (st := s_Book_has) ol9 oc9 ok9) oa9 of9,
  om_mk (PySem.W.mg_of X G xq15) (fun_mk (st := s_Book_let_go) ol14 oc14 ok14) oa14 of14,
  om_mk (PySem.W.mg_of X G xq15) (fun_mk (st := s_Book_moment) ol8 oc8 ok8) oa8 of8,
  om_mk (PySem.W.mg_of X G xq15) (fun_mk (st := s_Book_now_rows) ol12 oc12 ok12) oa12 of12,
  om_mk (PySem.W.mg_of X G xq15) (fun_mk (st := s_Book_oldest) ol13 oc13 ok13) oa13 of13,
  om_mk (PySem.W.mg_of X G xq15) (fun_mk (st := s_Book_put) ol5 oc5 ok5) oa5 of5,
  om_mk (PySem.W.mg_of X G xq15) (fun_mk (st := s_Book_rows_at) ol16 oc16 ok16) oa16 of16,
  om_mk (PySem.W.mg_of X G xq15) (fun_mk (st := s_Book_since) ol11 oc11 ok11) oa11 of11,
  om_mk (PySem.W.mg_of X G xq15) (fun_mk (st := s_Book_take) ol7 oc7 ok7) oa7 of7,
  om_mk (PySem.W.mg_of X G xq15) (fun_mk (st := s_Book_values_of) ol10 oc10 ok10) oa10 of10,
  (by rw [clsA_eq (PySem.W.mg_of X G xq15)]; exact pf15_heads),
  (by rw [clsA_eq (PySem.W.mg_of X G xq15)]; exact pf15_rows),
  (by rw [clsA_eq (PySem.W.mg_of X G xq15)]; exact pf15_touched),
  (by rw [clsA_eq (PySem.W.mg_of X G xq15)]; exact pf15_done),
  (by rw [clsA_eq (PySem.W.mg_of X G xq15)]; exact pf15_known),
  (by rw [clsA_eq (PySem.W.mg_of X G xq15)]; exact pf15_now)⟩
end K33
open PySem PySem.W PyProof.Rows
set_option maxRecDepth 100000 in
set_option maxHeartbeats 0 in
theorem PySem.Challenge.cw_turnleaf_k33_moments_let_go_holds : PySem.Challenge.rw_turnleaf_k33_moments_let_go.Holds := by
 w_on; o_law; k_head; (case hw => w_witness2)
 k_fill
 refine L2.walk_of (l := PySem.Challenge.rw_turnleaf_k33_moments_let_go) (n := 63) (k := 9) (x := "_law_script") (CX := fun w => L2.CX1 PySem.Challenge.rw_turnleaf_k33_moments_let_go.prog w) (cc := true) (sp := fun w => L2.spLaw _) rfl (by decide) rfl ⟨fun _ => rfl, by decide, by decide⟩ (fun w h Y => PySem.W.kIn_of Y) ?F (fun _ _ a ns hl _ hS => ⟨a, ns, rfl, hS, hl, fun _ => rfl⟩) (fun _ _ _ _ _ z => L2.CX1.never z)
 case F =>
  intro w mg fa h KX G hmg
  have T : K33.Txt (L2.KOf KX) mg := by
   dsimp only [L2.KOf]
   refine' K33.txt_mk KX G ?aq0 ?lq0 ?cq0 ?kq0 ?aq1 ?lq1 ?cq1 ?kq1 ?aq2 ?lq2 ?cq2 ?kq2 ?aq3 ?lq3 ?cq3 ?kq3 ?aq4 ?lq4 ?cq4 ?kq4 ?aq5 ?lq5 ?cq5 ?kq5 ?aq6 ?lq6 ?cq6 ?kq6 ?aq7 ?lq7 ?cq7 ?kq7 ?aq8 ?lq8 ?cq8 ?kq8 ?aq9 ?lq9 ?cq9 ?kq9 ?aq10 ?lq10 ?cq10 ?kq10 ?aq11 ?lq11 ?cq11 ?kq11 ?aq12 ?lq12 ?cq12 ?kq12 ?aq13 ?lq13 ?cq13 ?kq13 ?aq14 ?lq14 ?cq14 ?kq14 ?aq15 ?lq15 ?cq15 ?kq15 ?aq16 ?lq16 ?cq16 ?kq16 ?aq17 ?lq17 ?cq17 ?kq17 ?aq18 ?lq18 ?cq18 ?kq18 ?aq19 ?lq19 ?cq19 ?kq19 ?aq20 ?lq20 ?cq20 ?kq20 ?aq21 ?lq21 ?cq21 ?kq21 ?aq22 ?lq22 ?cq22 ?kq22 ?aq23 ?lq23 ?cq23 ?kq23 ?aq24 ?lq24 ?cq24 ?kq24 ?gq0 ?gq1 ?gq2 ?gq3 ?gq4 ?gq5 ?gq6 ?gq7 ?gq8 ?zq0 ?zq1 ?zq2 ?zq3 ?zq4 ?zq5 ?zq6 ?zq7 ?zq8 ?zq9 ?zq10 ?zq11 ?zq12 ?zq13 ?zq14 ?zq15 ?xq0 ?xq1 ?xq2 ?xq3 ?xq4 ?xq5 ?xq6 ?xq7 ?xq8 ?xq9 ?xq10 ?xq11 ?xq12 ?xq13 ?xq14 ?xq15 ?yq0 ?yq1 ?bt0 ?bt1 ?bt2 ?bt3 ?bt4 ?wr0 ?cq0_0 ?cq0_1 ?cq0_2 ?cq0_3 ?cq0_4 ?cq0_5 ?cq0_6 ?cq0_7 ?cq0_8 ?wr1 ?cq1_0 ?cq1_1 ?cq1_2 ?cq1_3 ?cq1_4 ?cq1_5 ?cq1_6 ?cq1_7 ?cq1_8 ?wr2 ?cq2_0 ?cq2_1 ?cq2_2 ?cq2_3 ?cq2_4 ?cq2_5 ?cq2_6 ?cq2_7 ?cq2_8 ?wr3 ?cq3_0 ?cq3_1 ?cq3_2 ?cq3_3 ?cq3_4 ?cq3_5 ?cq3_6 ?cq3_7 ?cq3_8 ?wr4 ?cq4_0 ?cq4_1 ?cq4_2 ?cq4_3 ?cq4_4 ?cq4_5 ?cq4_6 ?cq4_7 ?cq4_8 ?wr5 ?cq5_0 ?cq5_1 ?cq5_2 ?cq5_3 ?cq5_4 ?cq5_5 ?cq5_6 ?cq5_7 ?cq5_8 ?wr6 ?cq6_0 ?cq6_1 ?cq6_2 ?cq6_3 ?cq6_4 ?cq6_5 ?cq6_6 ?cq6_7 ?cq6_8 ?wr7 ?cq7_0 ?cq7_1 ?cq7_2 ?cq7_3 ?cq7_4 ?cq7_5 ?cq7_6 ?cq7_7 ?cq7_8 ?wr8 ?cq8_0 ?cq8_1 ?cq8_2 ?cq8_3 ?cq8_4 ?cq8_5 ?cq8_6 ?cq8_7 ?cq8_8 ?wr9 ?cq9_0 ?cq9_1 ?cq9_2 ?cq9_3 ?cq9_4 ?cq9_5 ?cq9_6 ?cq9_7 ?cq9_8 ?wr10 ?cq10_0 ?cq10_1 ?cq10_2 ?cq10_3 ?cq10_4 ?cq10_5 ?cq10_6 ?cq10_7 ?cq10_8 ?wr11 ?cq11_0 ?cq11_1 ?cq11_2 ?cq11_3 ?cq11_4 ?cq11_5 ?cq11_6 ?cq11_7 ?cq11_8 ?wr12 ?cq12_0 ?cq12_1 ?cq12_2 ?cq12_3 ?cq12_4 ?cq12_5 ?cq12_6 ?cq12_7 ?cq12_8 ?wr13 ?cq13_0 ?cq13_1 ?cq13_2 ?cq13_3 ?cq13_4 ?cq13_5 ?cq13_6 ?cq13_7 ?cq13_8 ?ia0 ?il0 ?ic0 ?ik0 ?wi0 ?if0 ?is0 ?it0 ?ia1 ?il1 ?ic1 ?ik1 ?wi1 ?if1 ?is1 ?it1 ?ia2 ?il2 ?ic2 ?ik2 ?wi2 ?if2 ?is2 ?it2 ?ia3 ?il3 ?ic3 ?ik3 ?wi3 ?if3 ?is3 ?it3 ?id0 ?id1 ?id2 ?id3 ?dd0 ?oa0 ?ol0 ?oc0 ?ok0 ?of0 ?oa1 ?ol1 ?oc1 ?ok1 ?of1 ?oa2 ?ol2 ?oc2 ?ok2 ?of2 ?oa3 ?ol3 ?oc3 ?ok3 ?of3 ?oa4 ?ol4 ?oc4 ?ok4 ?of4 ?oa5 ?ol5 ?oc5 ?ok5 ?of5 ?oa6 ?ol6 ?oc6 ?ok6 ?of6 ?oa7 ?ol7 ?oc7 ?ok7 ?of7 ?oa8 ?ol8 ?oc8 ?ok8 ?of8 ?oa9 ?ol9 ?oc9 ?ok9 ?of9 ?oa10 ?ol10 ?oc10 ?ok10 ?of10 ?oa11 ?ol11 ?oc11 ?ok11 ?of11 ?oa12 ?ol12 ?oc12 ?ok12 ?of12 ?oa13 ?ol13 ?oc13 ?ok13 ?of13 ?oa14 ?ol14 ?oc14 ?ok14 ?of14 ?oa15 ?ol15 ?oc15 ?ok15 ?of15 ?oa16 ?ol16 ?oc16 ?ok16 ?of16 ?oa17 ?ol17 ?oc17 ?ok17 ?of17 ?pc15_0 ?pc15_1 ?pc15_2 ?pc15_3 ?pi15 ?pk15 ?pf15_heads ?pf15_rows ?pf15_touched ?pf15_done ?pf15_known ?pf15_now
   (case aq0 => k_is)
   (case lq0 => k_is)
   (case cq0 => k_is)
   (case kq0 => k_is)
   (case aq1 => k_is)
   (case lq1 => k_is)
   (case cq1 => k_is)
   (case kq1 => k_is)
   (case aq2 => k_is)
   (case lq2 => k_is)
   (case cq2 => k_is)
   (case kq2 => k_is)
   (case aq3 => k_is)
   (case lq3 => k_is)
   (case cq3 => k_is)
   (case kq3 => k_is)
   (case aq4 => k_is)
   (case lq4 => k_is)
   (case cq4 => k_is)
   (case kq4 => k_is)
   (case aq5 => k_is)
   (case lq5 => k_is)
   (case cq5 => k_is)
   (case kq5 => k_is)
   (case aq6 => k_is)
   (case lq6 => k_is)
   (case cq6 => k_is)
   (case kq6 => k_is)
   (case aq7 => k_is)
   (case lq7 => k_is)
   (case cq7 => k_is)
   (case kq7 => k_is)
   (case aq8 => k_is)
   (case lq8 => k_is)
   (case cq8 => k_is)
   (case kq8 => k_is)
   (case aq9 => k_is)
   (case lq9 => k_is)
   (case cq9 => k_is)
   (case kq9 => k_is)
   (case aq10 => k_is)
   (case lq10 => k_is)
   (case cq10 => k_is)
   (case kq10 => k_is)
   (case aq11 => k_is)
   (case lq11 => k_is)
   (case cq11 => k_is)
   (case kq11 => k_is)
   (case aq12 => k_is)
   (case lq12 => k_is)
   (case cq12 => k_is)
   (case kq12 => k_is)
   (case aq13 => k_is)
   (case lq13 => k_is)
   (case cq13 => k_is)
   (case kq13 => k_is)
   (case aq14 => k_is)
   (case lq14 => k_is)
   (case cq14 => k_is)
   (case kq14 => k_is)
   (case aq15 => k_is)
   (case lq15 => k_is)
   (case cq15 => k_is)
   (case kq15 => k_is)
   (case aq16 => k_is)
   (case lq16 => k_is)
   (case cq16 => k_is)
   (case kq16 => k_is)
   (case aq17 => k_is)
   (case lq17 => k_is)
   (case cq17 => k_is)
   (case kq17 => k_is)
   (case aq18 => k_is)
   (case lq18 => k_is)
   (case cq18 => k_is)
   (case kq18 => k_is)
   (case aq19 => k_is)
   (case lq19 => k_is)
   (case cq19 => k_is)
   (case kq19 => k_is)
   (case aq20 => k_is)
   (case lq20 => k_is)
   (case cq20 => k_is)
   (case kq20 => k_is)
   (case aq21 => k_is)
   (case lq21 => k_is)
   (case cq21 => k_is)
   (case kq21 => k_is)
   (case aq22 => k_is)
   (case lq22 => k_is)
   (case cq22 => k_is)
   (case kq22 => k_is)
   (case aq23 => k_is)
   (case lq23 => k_is)
   (case cq23 => k_is)
   (case kq23 => k_is)
   (case aq24 => k_is)
   (case lq24 => k_is)
   (case cq24 => k_is)
   (case kq24 => k_is)
   (case gq0 => k_is)
   (case gq1 => k_is)
   (case gq2 => k_is)
   (case gq3 => k_is)
   (case gq4 => k_is)
   (case gq5 => k_is)
   (case gq6 => k_is)
   (case gq7 => k_is)
   (case gq8 => k_is)
   (case zq0 => k_is)
   (case zq1 => k_is)
   (case zq2 => k_is)
   (case zq3 => k_is)
   (case zq4 => k_is)
   (case zq5 => k_is)
   (case zq6 => k_is)
   (case zq7 => k_is)
   (case zq8 => k_is)
   (case zq9 => k_is)
   (case zq10 => k_is)
   (case zq11 => k_is)
   (case zq12 => k_is)
   (case zq13 => k_is)
   (case zq14 => k_is)
   (case zq15 => k_is)
   (case xq0 => k_is)
   (case xq1 => k_is)
   (case xq2 => k_is)
   (case xq3 => k_is)
   (case xq4 => k_is)
   (case xq5 => k_is)
   (case xq6 => k_is)
   (case xq7 => k_is)
   (case xq8 => k_is)
   (case xq9 => k_is)
   (case xq10 => k_is)
   (case xq11 => k_is)
   (case xq12 => k_is)
   (case xq13 => k_is)
   (case xq14 => k_is)
   (case xq15 => k_is)
   (case yq0 => k_exc)
   (case yq1 => k_exc)
   (case bt0 => k_is)
   (case bt1 => k_is)
   (case bt2 => k_is)
   (case bt3 => k_is)
   (case bt4 => k_is)
   (case wr0 => kernel_rfl)
   (case cq0_0 => k_is)
   (case cq0_1 => k_is)
   (case cq0_2 => k_is)
   (case cq0_3 => k_is)
   (case cq0_4 => k_is)
   (case cq0_5 => k_is)
   (case cq0_6 => k_is)
   (case cq0_7 => k_is)
   (case cq0_8 => k_is)
   (case wr1 => kernel_rfl)
   (case cq1_0 => k_is)
   (case cq1_1 => k_is)
   (case cq1_2 => k_is)
   (case cq1_3 => k_is)
   (case cq1_4 => k_is)
   (case cq1_5 => k_is)
   (case cq1_6 => k_is)
   (case cq1_7 => k_is)
   (case cq1_8 => k_is)
   (case wr2 => kernel_rfl)
   (case cq2_0 => k_is)
   (case cq2_1 => k_is)
   (case cq2_2 => k_is)
   (case cq2_3 => k_is)
   (case cq2_4 => k_is)
   (case cq2_5 => k_is)
   (case cq2_6 => k_is)
   (case cq2_7 => k_is)
   (case cq2_8 => k_is)
   (case wr3 => kernel_rfl)
   (case cq3_0 => k_is)
   (case cq3_1 => k_is)
   (case cq3_2 => k_is)
   (case cq3_3 => k_is)
   (case cq3_4 => k_is)
   (case cq3_5 => k_is)
   (case cq3_6 => k_is)
   (case cq3_7 => k_is)
   (case cq3_8 => k_is)
   (case wr4 => kernel_rfl)
   (case cq4_0 => k_is)
   (case cq4_1 => k_is)
   (case cq4_2 => k_is)
   (case cq4_3 => k_is)
   (case cq4_4 => k_is)
   (case cq4_5 => k_is)
   (case cq4_6 => k_is)
   (case cq4_7 => k_is)
   (case cq4_8 => k_is)
   (case wr5 => kernel_rfl)
   (case cq5_0 => k_is)
   (case cq5_1 => k_is)
   (case cq5_2 => k_is)
   (case cq5_3 => k_is)
   (case cq5_4 => k_is)
   (case cq5_5 => k_is)
   (case cq5_6 => k_is)
   (case cq5_7 => k_is)
   (case cq5_8 => k_is)
   (case wr6 => kernel_rfl)
   (case cq6_0 => k_is)
   (case cq6_1 => k_is)
   (case cq6_2 => k_is)
   (case cq6_3 => k_is)
   (case cq6_4 => k_is)
   (case cq6_5 => k_is)
   (case cq6_6 => k_is)
   (case cq6_7 => k_is)
   (case cq6_8 => k_is)
   (case wr7 => kernel_rfl)
   (case cq7_0 => k_is)
   (case cq7_1 => k_is)
   (case cq7_2 => k_is)
   (case cq7_3 => k_is)
   (case cq7_4 => k_is)
   (case cq7_5 => k_is)
   (case cq7_6 => k_is)
   (case cq7_7 => k_is)
   (case cq7_8 => k_is)
   (case wr8 => kernel_rfl)
   (case cq8_0 => k_is)
   (case cq8_1 => k_is)
   (case cq8_2 => k_is)
   (case cq8_3 => k_is)
   (case cq8_4 => k_is)
   (case cq8_5 => k_is)
   (case cq8_6 => k_is)
   (case cq8_7 => k_is)
   (case cq8_8 => k_is)
   (case wr9 => kernel_rfl)
   (case cq9_0 => k_is)
   (case cq9_1 => k_is)
   (case cq9_2 => k_is)
   (case cq9_3 => k_is)
   (case cq9_4 => k_is)
   (case cq9_5 => k_is)
   (case cq9_6 => k_is)
   (case cq9_7 => k_is)
   (case cq9_8 => k_is)
   (case wr10 => kernel_rfl)
   (case cq10_0 => k_is)
   (case cq10_1 => k_is)
   (case cq10_2 => k_is)
   (case cq10_3 => k_is)
   (case cq10_4 => k_is)
   (case cq10_5 => k_is)
   (case cq10_6 => k_is)
   (case cq10_7 => k_is)
   (case cq10_8 => k_is)
   (case wr11 => kernel_rfl)
   (case cq11_0 => k_is)
   (case cq11_1 => k_is)
   (case cq11_2 => k_is)
   (case cq11_3 => k_is)
   (case cq11_4 => k_is)
   (case cq11_5 => k_is)
   (case cq11_6 => k_is)
   (case cq11_7 => k_is)
   (case cq11_8 => k_is)
   (case wr12 => kernel_rfl)
   (case cq12_0 => k_is)
   (case cq12_1 => k_is)
   (case cq12_2 => k_is)
   (case cq12_3 => k_is)
   (case cq12_4 => k_is)
   (case cq12_5 => k_is)
   (case cq12_6 => k_is)
   (case cq12_7 => k_is)
   (case cq12_8 => k_is)
   (case wr13 => kernel_rfl)
   (case cq13_0 => k_is)
   (case cq13_1 => k_is)
   (case cq13_2 => k_is)
   (case cq13_3 => k_is)
   (case cq13_4 => k_is)
   (case cq13_5 => k_is)
   (case cq13_6 => k_is)
   (case cq13_7 => k_is)
   (case cq13_8 => k_is)
   (case ia0 => k_is)
   (case il0 => k_is)
   (case ic0 => k_is)
   (case ik0 => k_is)
   (case wi0 => kernel_rfl)
   (case if0 => k_is)
   (case is0 => k_is)
   (case it0 => k_is)
   (case ia1 => k_is)
   (case il1 => k_is)
   (case ic1 => k_is)
   (case ik1 => k_is)
   (case wi1 => kernel_rfl)
   (case if1 => k_is)
   (case is1 => k_is)
   (case it1 => k_is)
   (case ia2 => k_is)
   (case il2 => k_is)
   (case ic2 => k_is)
   (case ik2 => k_is)
   (case wi2 => kernel_rfl)
   (case if2 => k_is)
   (case is2 => k_is)
   (case it2 => k_is)
   (case ia3 => k_is)
   (case il3 => k_is)
   (case ic3 => k_is)
   (case ik3 => k_is)
   (case wi3 => kernel_rfl)
   (case if3 => k_is)
   (case is3 => k_is)
   (case it3 => k_is)
   (case id0 => k_is)
   (case id1 => k_is)
   (case id2 => k_is)
   (case id3 => k_is)
   (case dd0 => decide)
   (case oa0 => k_is)
   (case ol0 => k_is)
   (case oc0 => k_is)
   (case ok0 => k_is)
   (case of0 => k_is)
   (case oa1 => k_is)
   (case ol1 => k_is)
   (case oc1 => k_is)
   (case ok1 => k_is)
   (case of1 => k_is)
   (case oa2 => k_is)
   (case ol2 => k_is)
   (case oc2 => k_is)
   (case ok2 => k_is)
   (case of2 => k_is)
   (case oa3 => k_is)
   (case ol3 => k_is)
   (case oc3 => k_is)
   (case ok3 => k_is)
   (case of3 => k_is)
   (case oa4 => k_is)
   (case ol4 => k_is)
   (case oc4 => k_is)
   (case ok4 => k_is)
   (case of4 => k_is)
   (case oa5 => k_is)
   (case ol5 => k_is)
   (case oc5 => k_is)
   (case ok5 => k_is)
   (case of5 => k_is)
   (case oa6 => k_is)
   (case ol6 => k_is)
   (case oc6 => k_is)
   (case ok6 => k_is)
   (case of6 => k_is)
   (case oa7 => k_is)
   (case ol7 => k_is)
   (case oc7 => k_is)
   (case ok7 => k_is)
   (case of7 => k_is)
   (case oa8 => k_is)
   (case ol8 => k_is)
   (case oc8 => k_is)
   (case ok8 => k_is)
   (case of8 => k_is)
   (case oa9 => k_is)
   (case ol9 => k_is)
   (case oc9 => k_is)
   (case ok9 => k_is)
   (case of9 => k_is)
   (case oa10 => k_is)
   (case ol10 => k_is)
   (case oc10 => k_is)
   (case ok10 => k_is)
   (case of10 => k_is)
   (case oa11 => k_is)
   (case ol11 => k_is)
   (case oc11 => k_is)
   (case ok11 => k_is)
   (case of11 => k_is)
   (case oa12 => k_is)
   (case ol12 => k_is)
   (case oc12 => k_is)
   (case ok12 => k_is)
   (case of12 => k_is)
   (case oa13 => k_is)
   (case ol13 => k_is)
   (case oc13 => k_is)
   (case ok13 => k_is)
   (case of13 => k_is)
   (case oa14 => k_is)
   (case ol14 => k_is)
   (case oc14 => k_is)
   (case ok14 => k_is)
   (case of14 => k_is)
   (case oa15 => k_is)
   (case ol15 => k_is)
   (case oc15 => k_is)
   (case ok15 => k_is)
   (case of15 => k_is)
   (case oa16 => k_is)
   (case ol16 => k_is)
   (case oc16 => k_is)
   (case ok16 => k_is)
   (case of16 => k_is)
   (case oa17 => k_is)
   (case ol17 => k_is)
   (case oc17 => k_is)
   (case ok17 => k_is)
   (case of17 => k_is)
   (case pc15_0 => k_is)
   (case pc15_1 => k_is)
   (case pc15_2 => k_is)
   (case pc15_3 => k_is)
   (case pi15 => k_is)
   (case pk15 => k_is)
   (case pf15_heads => k_is)
   (case pf15_rows => k_is)
   (case pf15_touched => k_is)
   (case pf15_done => k_is)
   (case pf15_known => k_is)
   (case pf15_now => k_is)
  obtain ⟨f, fd, F, hm⟩ := T.d_law
  have e0 := hmg.symm.trans hm
  cases e0
  obtain ⟨oc, od, kV, doc, pm, an, cdv, ct, osl, rfl, lk, hcd⟩ := id F.ex
  exact ⟨_, fun s u => .of_eq rfl, fun base kb nb => K33.law_fn T F⟩
#print axioms PySem.Challenge.cw_turnleaf_k33_moments_let_go_holds
