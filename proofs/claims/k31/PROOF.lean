import PyProof.Rows.All
import Wide.All
import OpenK.AllK
import Wide.FinOn
import PyProof.EqAt
import PyProof.EqKinds
import PyProof.TupleCall
import KE.BitLaws
import KE.KUnpack
import PyProof.TupleOfSeq
import KE.KRevSl
import KE.KListMore
import PyProof.P3Eq
import KE.KItemsList
import KE.KSortTup
import KE.KSuper
import KE.KSuperObj
import OpenK.KCls
import PyProof.CallStr
import PyProof.Draws
import PyProof.ExcBaseAll.Exception
import PyProof.ExcBaseAll.ValueError
import PyProof.InstStoreFacts
import PyProof.ListRange
import PyProof.ListStr
import PyProof.Rows.FStr
import PyProof.Rows.RegStrCode
import PyProof.StrBlock2
import PySem.Challenge.RW_halfcrumb_k31_replies_to_cuts
set_option Elab.async false
set_option linter.all false
set_option maxRecDepth 100000
set_option maxHeartbeats 4100000
/-! THE HAND LAYER, for ints, bools, texts, own classes, lists, tuples, dicts, comprehensions, walks over dicts, enumerate, zip, reversed, texts, calls, loops. Paste it whole ahead of your own text; what your proof does not reach may be deleted. -/
namespace L2
open PySem PySem.Spec PyProof.Rows

/-- a key: an int or a str -/
abbrev Key := Sum Int Str
def keyIs : Key → Value → Bool
  | .inl k, v => Value.isInt k v
  | .inr x, v => Value.isStrOf x v
def keyH (w : World) : Key → Int
  | .inl k => hashInt k
  | .inr x => hashStr w x
theorem keyIs_shape : ∀ {k : Key} {v : Value}, keyIs k v = true → (∃ i t, k = Sum.inl i ∧ v = Value.int i t) ∨ (∃ x t, k = Sum.inr x ∧ v = Value.str x t)
  | .inl i, v, h => by
    obtain ⟨t, e⟩ := Value.isInt_shape (k := i) (v := v) h
    exact .inl ⟨i, t, rfl, e⟩
  | .inr x, v, h => by
    obtain ⟨t, e⟩ := Value.isStrOf_shape (x := x) (v := v) h
    exact .inr ⟨x, t, rfl, e⟩
theorem key_ll (a b : Int) : decide ((Sum.inl a : Key) = Sum.inl b) = (a == b) := by
  by_cases e : a = b
  · subst e; simp
  · have h : ¬ (Sum.inl a : Key) = Sum.inl b := fun q => e (Sum.inl.inj q)
    rw [decide_eq_false h]
    exact (beq_eq_false_iff_ne.mpr e).symm
theorem key_rr (a b : Str) : decide ((Sum.inr a : Key) = Sum.inr b) = decide (a = b) := by
  by_cases e : a = b
  · subst e; simp
  · have h : ¬ (Sum.inr a : Key) = Sum.inr b := fun q => e (Sum.inr.inj q)
    rw [decide_eq_false h, decide_eq_false e]
theorem key_lr (a : Int) (b : Str) : decide ((Sum.inl a : Key) = Sum.inr b) = false := decide_eq_false (fun q => nomatch q)
theorem key_rl (a : Str) (b : Int) : decide ((Sum.inr a : Key) = Sum.inl b) = false := decide_eq_false (fun q => nomatch q)

def mixKind (prog : Program) (w : World) : PySem.KeyKind prog w Key where
  is := keyIs
  hash := keyH w
  inj := fun v a b ha hb => by
    rcases keyIs_shape ha with ⟨i, t, rfl, rfl⟩ | ⟨x, t, rfl, rfl⟩
    · rcases keyIs_shape hb with ⟨j, u, rfl, e⟩ | ⟨y, u, rfl, e⟩
      · injection e with e1 _; rw [e1]
      · exact nomatch e
    · rcases keyIs_shape hb with ⟨j, u, rfl, e⟩ | ⟨y, u, rfl, e⟩
      · exact nomatch e
      · injection e with e1 _; rw [e1]
  byValue := fun k v h => by
    rcases keyIs_shape h with ⟨i, t, rfl, rfl⟩ | ⟨x, t, rfl, rfl⟩ <;> rfl
  pyHash := fun hv h => by
    rcases keyIs_shape hv with ⟨i, t, rfl, rfl⟩ | ⟨x, t, rfl, rfl⟩
    · exact wpAny_pyHash_int h
    · exact wpAny_pyHash_str h
  eqBool := fun hu hv h => by
    rcases keyIs_shape hu with ⟨i, t, rfl, rfl⟩ | ⟨x, t, rfl, rfl⟩
    · rcases keyIs_shape hv with ⟨j, u, rfl, rfl⟩ | ⟨y, u, rfl, rfl⟩
      · rw [key_ll] at h; exact wpAny_eqBool_int h
      · rw [key_lr] at h; exact SeqAt.EqAt.int_str i t y u _ _ _ _ h
    · rcases keyIs_shape hv with ⟨j, u, rfl, rfl⟩ | ⟨y, u, rfl, rfl⟩
      · rw [key_rl] at h; exact SeqAt.EqAt.str_int x t j u _ _ _ _ h
      · rw [key_rr] at h; exact wpAny_eqBool_str h
  «strs» := fun k x t v h => by
    rcases keyIs_shape h with ⟨i, u, rfl, e⟩ | ⟨y, u, rfl, e⟩
    · exact nomatch e
    · injection e with e1 _
      subst e1
      cases v <;> rfl

end L2

namespace L2
open PySem PySem.Spec PyProof.Rows

/-- a value, without the heap -/
inductive V where
  | non | bl (b : Bool) | int (i : Int) | str (x : Str) | byt (b : Array UInt8) | flt (b : UInt64) | ref (a : Addr) | ty (n : String)
  deriving DecidableEq

def RelV : V → Value → Prop
  | .non, u => u = Value.none
  | .bl b, u => u = Value.bool b
  | .int i, u => ∃ t, u = Value.int i t
  | .str x, u => ∃ t, u = Value.str x t
  | .byt b, u => ∃ t, u = Value.bytes b t
  | .flt b, u => ∃ t, u = Value.float b t
  | .ref a, u => u = Value.ref a
  | .ty n, u => u = Value.type n

abbrev Vals : List V → List Value → Prop := Paired RelV
theorem Vals.length {xs : List V} {us : List Value} (r : Vals xs us) : xs.length = us.length := Paired.length r
theorem Vals.get : ∀ {xs : List V} {us : List Value} {i : Nat} {x : V}, Vals xs us → xs[i]? = some x → ∃ u, us[i]? = some u ∧ RelV x u
  | _, _, _, _, .nil, e => by simp at e
  | _, _, 0, _, .cons r _, e => by simp at e; subst e; exact ⟨_, rfl, r⟩
  | _, _, i + 1, x, .cons _ t, e => by
    obtain ⟨u, h1, h2⟩ := Vals.get (i := i) (x := x) t (by simpa using e)
    exact ⟨u, by simpa using h1, h2⟩
theorem Vals.set {x : V} {u : Value} (r : RelV x u) : ∀ {xs : List V} {us : List Value} (i : Nat), Vals xs us → Vals (xs.set i x) (us.set i u)
  | _, _, _, .nil => .nil
  | _, _, 0, .cons _ t => .cons r t
  | _, _, i + 1, .cons q t => .cons q (Vals.set r i t)
theorem Vals.append : ∀ {xs ys : List V} {us ws : List Value}, Vals xs us → Vals ys ws → Vals (xs ++ ys) (us ++ ws)
  | _, _, _, _, .nil, s => s
  | _, _, _, _, .cons r t, s => .cons r (Vals.append t s)
theorem Vals.take : ∀ {xs : List V} {us : List Value} (n : Nat), Vals xs us → Vals (xs.take n) (us.take n)
  | _, _, 0, _ => .nil
  | _, _, _ + 1, .nil => .nil
  | _, _, n + 1, .cons r t => .cons r (Vals.take n t)
theorem Vals.drop : ∀ {xs : List V} {us : List Value} (n : Nat), Vals xs us → Vals (xs.drop n) (us.drop n)
  | _, _, 0, r => r
  | _, _, _ + 1, .nil => .nil
  | _, _, n + 1, .cons _ t => Vals.drop n t
theorem Vals.none_of : ∀ {xs : List V} {us : List Value} {i : Nat}, Vals xs us → xs[i]? = none → us[i]? = none := fun {xs us i} r e => by
  have h1 := r.length
  have h2 : xs.length ≤ i := List.getElem?_eq_none_iff.mp e
  exact List.getElem?_eq_none_iff.mpr (by omega)

def RelO : Option V → Option Value → Prop
  | some v, some u => RelV v u
  | none, none => True
  | _, _ => False
def KV {κ : Type} : List (κ × V) → List (κ × Value) → Prop := Paired fun (p : κ × V) (q : κ × Value) => p.1 = q.1 ∧ RelV p.2 q.2

/-- a key of a dict (00_mix): an int or a text -/
def kV : Key → V
  | .inl i => .int i
  | .inr x => .str x

/-- what stands at a tracked address -/
inductive HO where
  /-- a list -/
  | lst (xs : List V)
  /-- a tuple (never changes) -/
  | tup (xs : List V)
  /-- a dict whose keys are ints and texts; one whose keys are tuples of ints and texts (the empty one is both) -/
  | dK (kvs : List (Key × V)) | dT (kvs : List (List Key × V))
  /-- a set of ints: its members, its size -/
  | set (S : Int → Bool) (n : Nat)
  /-- an instance of the class at C, its dict at dx, its attributes -/
  | ins (C dx : Addr) (fs : List (Str × V))
  /-- the dict of the instance at x -/
  | own (x : Addr)
  /-- the dict of an exception -/
  | xd (fs : List (Str × V))
  /-- a bound method, f of x -/
  | met (f x : Addr)
  /-- a range object lo, lo + 1, .. below hi -/
  | rng (lo hi : Int)
  /-- a thing that is known to the object (the script; a dict while a loop walks it): read, never written while it is so -/
  | frz (o : Obj) (u : HO)
  /-- a code object's table -/
  | tbl (ps : Array Value)
  /-- any other thing, by what is true of its one object (a def of one's own: SetO a S n := HO.ext fun h => ..) -/
  | ext (φ : Heap → Prop)

abbrev Hp := Addr → Option HO
def upd (H : Hp) (a : Addr) (o : HO) : Hp := fun b => if b = a then some o else H b
theorem upd_same {H : Hp} {a : Addr} {o : HO} : upd H a o a = some o := by unfold upd; rw [if_pos rfl]
theorem upd_ne {H : Hp} {a b : Addr} {o : HO} (h : b ≠ a) : upd H a o b = H b := by unfold upd; rw [if_neg h]
theorem ne_of_none {H : Hp} {a b : Addr} {o : HO} (h : H a = some o) (h' : H b = none) : a ≠ b := by
  intro e; subst e; rw [h] at h'; cases h'

section
variable (P : Program) (w : World)
def ObjOk (H : Hp) (h : Heap) (a : Addr) : HO → Prop
  | .lst xs => xs.length ≤ sizeLine ∧ ∃ (its : List Value) (n : Nat), Vals xs its ∧ h.get? a = some { cls := .type "list", data := .seq its.toArray n }
  | .tup xs => xs.length ≤ sizeLine ∧ ∃ its : List Value, Vals xs its ∧ IsTup h a its.toArray
  | .dK kvs => kvs.length ≤ sizeLine ∧ (a == sysModules) = false ∧ ∃ vs, KV kvs vs ∧ h.DictOf (mixKind P w) a vs
  | .dT kvs => kvs.length ≤ sizeLine ∧ (a == sysModules) = false ∧ ∃ xs : List (List Key × Addr × Value),
      Paired (fun (p : List Key × V) (q : List Key × Addr × Value) => p.1 = q.1 ∧ H q.2.1 = some (.tup (p.1.map kV)) ∧ RelV p.2 q.2.2) kvs xs ∧
      ∃ o es ep, h.get? a = some o ∧ o.ExactDict ∧ o.data = .dict es ep ∧ es.toList = xs.map (entryOfKey (tupleKind (mixKind P w))) ∧ (xs.map (·.1)).Nodup
  | .set S n => h.SetOf (intKind P w) a S n
  | .ins C dx fs => H dx = some (.own a) ∧ fs.length ≤ 1000 ∧ dx ≠ a ∧ h.get? a = some (PySem.W.instObj C dx) ∧
      ∃ mA, h.Ns1 dx mA ∧ (∀ f, RelO (fs.lookup f) (mA f)) ∧ PySem.Within mA (fs.map (·.1))
  | .own _ => ∃ o, h.get? a = some o
  | .xd fs => ∃ mA, h.Ns1 a mA ∧ ∀ f, RelO (fs.lookup f) (mA f)
  | .rng lo hi => ∃ t u v, h.get? a = some { cls := .type "range", data := .fields #[.int lo t, .int hi u, .int 1 v] }
  | .frz o u => h.get? a = some o ∧ ObjOk H h a u
  | .tbl ps => h.get? a = some { cls := .none, data := .fields ps }
  | .met f x => h.get? a = some (PySem.W.methodObj (.ref f) (.ref x))
  | .ext φ => φ h ∧ (∃ o, h.get? a = some o) ∧ ∀ h1 h2 : Heap, φ h1 → (∀ o, h1.get? a = some o → h2.get? a = some o) → φ h2
/-- the abstract heap is held -/
def HOk (H : Hp) (h : Heap) : Prop := ∀ a o, H a = some o → ObjOk P w H h a o
end

section
variable {P : Program} {w : World} {H H' : Hp} {h h' : Heap} {a : Addr} {o : HO}
theorem ObjOk.lt (x : ObjOk P w H h a o) : a < h.objs.size := by
  cases o with
  | lst xs => obtain ⟨_, _, _, _, e⟩ := x; exact Heap.lt_size e
  | tup xs => obtain ⟨_, _, _, p⟩ := x; exact p.lt
  | dK kvs => obtain ⟨_, _, _, _, o, _, _, e, _⟩ := x; exact Heap.lt_size e
  | dT kvs => obtain ⟨_, _, _, _, o, _, _, e, _⟩ := x; exact Heap.lt_size e
  | set S n => obtain ⟨o, _, _, _, e, _⟩ := x; exact Heap.lt_size e
  | ins C dx fs => obtain ⟨_, _, _, e, _⟩ := x; exact Heap.lt_size e
  | own y => obtain ⟨_, e⟩ := x; exact Heap.lt_size e
  | xd fs => obtain ⟨_, ⟨_, _, _, e, _⟩, _⟩ := x; exact Heap.lt_size e
  | rng lo hi => obtain ⟨_, _, _, e⟩ := x; exact Heap.lt_size e
  | frz ob u => obtain ⟨e, _⟩ := x; exact Heap.lt_size e
  | tbl ps => exact Heap.lt_size (show h.get? a = some _ from x)
  | met f y => exact Heap.lt_size (show h.get? a = some _ from x)
  | ext φ => obtain ⟨_, ⟨_, e⟩, _⟩ := x; exact Heap.lt_size e
theorem Paired.mapP {α β : Type} {F G : α → β → Prop} : ∀ {l₁ : List α} {l₂ : List β}, Paired F l₁ l₂ → (∀ a b, F a b → G a b) → Paired G l₁ l₂
  | _, _, .nil, _ => .nil
  | _, _, .cons r t, f => .cons (f _ _ r) (Paired.mapP t f)
/-- what an object's description leans on: its own object, its own dict, the tuples -/
theorem ObjOk.stay (x : ObjOk P w H h a o) (k : ∀ b u, (b = a ∨ H b = some (.own a)) → h.get? b = some u → h'.get? b = some u)
    (ho : ∀ b, H b = some (.own a) → H' b = some (.own a)) (ht : ∀ b xs, H b = some (.tup xs) → H' b = some (.tup xs)) : ObjOk P w H' h' a o := by
  induction o with
  | lst xs => obtain ⟨z, its, n, r, e⟩ := x; exact ⟨z, its, n, r, k _ _ (.inl rfl) e⟩
  | tup xs => obtain ⟨z, its, r, ob, e, c⟩ := x; exact ⟨z, its, r, ob, k _ _ (.inl rfl) e, c⟩
  | dK kvs => obtain ⟨z, y, vs, r, ob, es, ep, e, c⟩ := x; exact ⟨z, y, vs, r, ob, es, ep, k _ _ (.inl rfl) e, c⟩
  | dT kvs =>
    obtain ⟨z, y, xs, r, ob, es, ep, e, c⟩ := x
    exact ⟨z, y, xs, Paired.mapP r fun p q z => ⟨z.1, ht _ _ z.2.1, z.2.2⟩, ob, es, ep, k _ _ (.inl rfl) e, c⟩
  | set S n => obtain ⟨ob, es, ep, t, e, c⟩ := x; exact ⟨ob, es, ep, t, k _ _ (.inl rfl) e, c⟩
  | ins C dx fs =>
    obtain ⟨d, z, ne, e, mA, ⟨od, es, ep, e2, c⟩, r⟩ := x
    exact ⟨ho _ d, z, ne, k _ _ (.inl rfl) e, mA, ⟨od, es, ep, k _ _ (.inr d) e2, c⟩, r⟩
  | own y => obtain ⟨ob, e⟩ := x; exact ⟨ob, k _ _ (.inl rfl) e⟩
  | xd fs => obtain ⟨mA, ⟨od, es, ep, e, c⟩, r⟩ := x; exact ⟨mA, ⟨od, es, ep, k _ _ (.inl rfl) e, c⟩, r⟩
  | rng lo hi => obtain ⟨t, u, v, e⟩ := x; exact ⟨t, u, v, k _ _ (.inl rfl) e⟩
  | frz ob u ih => obtain ⟨e, q⟩ := x; exact ⟨k _ _ (.inl rfl) e, ih q⟩
  | tbl ps =>
    have e : h.get? a = some { cls := .none, data := .fields ps } := x
    show h'.get? a = some { cls := .none, data := .fields ps }
    exact k a _ (.inl rfl) e
  | met f y =>
    have e : h.get? a = some (PySem.W.methodObj (.ref f) (.ref y)) := x
    show h'.get? a = some (PySem.W.methodObj (.ref f) (.ref y))
    exact k a _ (.inl rfl) e
  | ext φ => obtain ⟨p, ⟨o, e⟩, st⟩ := x; exact ⟨st _ _ p fun o q => k _ _ (.inl rfl) q, ⟨o, k _ _ (.inl rfl) e⟩, st⟩
theorem HOk.lt (x : HOk P w H h) (e : H a = some o) : a < h.objs.size := (x a o e).lt
theorem HOk.fresh (x : HOk P w H h) (e : h.objs.size ≤ a) : H a = none := by
  cases q : H a with
  | none => rfl
  | some u => exact absurd (Nat.lt_of_lt_of_le (x.lt q) e) (Nat.lt_irrefl _)
/-- every object of the heap is kept -/
theorem HOk.kept (x : HOk P w H h) (k : ∀ b u, h.get? b = some u → h'.get? b = some u) : HOk P w H h' := fun a o e =>
  (x a o e).stay (fun b u _ q => k b u q) (fun _ q => q) fun _ _ q => q
/-- a new object is laid and tracked -/
theorem HOk.laid (x : HOk P w H h) (k : ∀ b u, h.get? b = some u → h'.get? b = some u) (hp : h.objs.size ≤ a) (new : ObjOk P w (upd H a o) h' a o) : HOk P w (upd H a o) h' := fun b u e => by
  have hn := x.fresh hp
  by_cases hb : b = a
  · subst hb; rw [upd_same] at e; cases e; exact new
  · rw [upd_ne hb] at e
    exact (x b u e).stay (fun c v _ q => k c v q) (fun c q => by rw [upd_ne (ne_of_none q hn)]; exact q) fun c xs q => by rw [upd_ne (ne_of_none q hn)]; exact q
end

/-- what may be read as u: it is u, or a known u -/
def Rd (H : Hp) (a : Addr) (u : HO) : Prop := H a = some u ∨ ∃ o, H a = some (.frz o u)
theorem Rd.of {H : Hp} {a : Addr} {u : HO} (h : H a = some u) : Rd H a u := .inl h
theorem Rd.ok {P : Program} {w : World} {H : Hp} {h : Heap} {a : Addr} {u : HO} (r : Rd H a u) (x : HOk P w H h) : ObjOk P w H h a u := by
  rcases r with r | ⟨o, r⟩
  · exact x a u r
  · obtain ⟨_, q⟩ := x a _ r
    exact q
/-- what may be written -/
def Mut : Option HO → Prop
  | some (.lst _) => True
  | some (.dK _) => True
  | some (.dT _) => True
  | some (.set _ _) => True
  | some (.ins _ _ _) => True
  | some (.ext _) => True
  | _ => False
section
variable {P : Program} {w : World} {H : Hp} {h h' : Heap} {x e : Addr} {o' : HO}
/-- the object at e is changed: x itself, or the dict of the instance x -/
theorem HOk.write (ok : HOk P w H h) (mu : Mut (H x)) (he : e = x ∨ H e = some (.own x)) (k : ∀ b u, b ≠ e → h.get? b = some u → h'.get? b = some u) (heo : ∃ u, h'.get? e = some u)
    (new : ObjOk P w (upd H x o') h' x o') : HOk P w (upd H x o') h' := fun b u q => by
  have nown : ∀ c y, H c = some (.own y) → c ≠ x := fun c y r z => by subst z; rw [r] at mu; exact mu
  have ntup : ∀ c xs, H c = some (.tup xs) → c ≠ x := fun c xs r z => by subst z; rw [r] at mu; exact mu
  by_cases hb : b = x
  · subst hb; rw [upd_same] at q; cases q; exact new
  · rw [upd_ne hb] at q
    by_cases hbe : b = e
    · have q' : H b = some (.own x) := by
        rcases he with z | z
        · exact absurd (hbe.trans z) hb
        · rw [hbe]; exact z
      rw [q] at q'; cases q'
      obtain ⟨v, hv⟩ := heo
      exact ⟨v, by rw [hbe]; exact hv⟩
    · refine (ok b u q).stay (fun c v hc r => k c v ?_ r) (fun c r => by rw [upd_ne (nown c b r)]; exact r) fun c xs r => by rw [upd_ne (ntup c xs r)]; exact r
      rcases hc with rfl | hc
      · exact hbe
      · rintro rfl
        rcases he with z | z
        · exact nown c b hc z
        · rw [hc] at z; cases z; exact hb rfl
end

/-! ### kept unless tracked; of the frames at fs (the callers') the slots may change (an exception that passes writes there); of the records at ex (iterators) nothing is said -/
structure Un (fs ex : List Addr) (H H' : Hp) (h h' : Heap) : Prop where
  keep : ∀ b o, h.get? b = some o → H b = none → b ∉ fs → b ∉ ex → h'.get? b = some o
  slot : ∀ b o, h.get? b = some o → H b = none → b ∈ fs → b ∉ ex → ∃ sl, h'.get? b = some { o with slots := sl }
  free : ∀ b o, h.get? b = some o → H b = none → b ∉ ex → H' b = none
  there : ∀ b o, h.get? b = some o → b ∉ ex → ∃ o', h'.get? b = some o'
  tups : ∀ b xs, H b = some (.tup xs) → H' b = some (.tup xs)
  frzs : ∀ b o u, H b = some (.frz o u) → H' b = some (.frz o u)
  tbls : ∀ b ps, H b = some (.tbl ps) → ∃ more, H' b = some (.tbl (ps ++ more))
section
variable {fs fs' ex ex' : List Addr} {H H1 H2 : Hp} {h h1 h2 h' : Heap} {a x e : Addr} {o : HO}
theorem Un.any (u : Un fs ex H H1 h h1) {b : Addr} {ob : Obj} (q : h.get? b = some ob) (n : H b = none) (hx : b ∉ ex) : ∃ sl, h1.get? b = some { ob with slots := sl } := by
  by_cases hb : b ∈ fs
  · exact u.slot b ob q n hb hx
  · exact ⟨ob.slots, u.keep b ob q n hb hx⟩
theorem Un.trans (a : Un fs ex H H1 h h1) (b : Un fs ex H1 H2 h1 h2) : Un fs ex H H2 h h2 where
  keep := fun c ob q n hc hx => b.keep c ob (a.keep c ob q n hc hx) (a.free c ob q n hx) hc hx
  slot := fun c ob q n hc hx => by
    obtain ⟨sl, e1⟩ := a.slot c ob q n hc hx
    obtain ⟨sl', e2⟩ := b.slot c _ e1 (a.free c ob q n hx) hc hx
    exact ⟨sl', e2⟩
  free := fun c ob q n hx => by
    obtain ⟨o', e1⟩ := a.there c ob q hx
    exact b.free c o' e1 (a.free c ob q n hx) hx
  there := fun c ob q hx => by
    obtain ⟨o', e1⟩ := a.there c ob q hx
    exact b.there c o' e1 hx
  tups := fun c xs q => b.tups c xs (a.tups c xs q)
  frzs := fun c ob xs q => b.frzs c ob xs (a.frzs c ob xs q)
  tbls := fun c ps q => by
    obtain ⟨m1, e1⟩ := a.tbls c ps q
    obtain ⟨m2, e2⟩ := b.tbls c _ e1
    exact ⟨m1 ++ m2, by rw [e2, Array.append_assoc]⟩
theorem Un.kept (k : ∀ b u, h.get? b = some u → h'.get? b = some u) : Un fs ex H H h h' :=
  ⟨fun b ob q _ _ _ => k b ob q, fun b ob q _ _ _ => ⟨ob.slots, k b ob q⟩, fun _ _ _ n _ => n, fun b ob q _ => ⟨ob, k b ob q⟩, fun _ _ q => q, fun _ _ _ q => q, fun _ ps q => ⟨#[], by rw [q]; simp⟩⟩
theorem Un.refl : Un fs ex H H h h := Un.kept fun _ _ q => q
theorem Un.laid (k : ∀ b u, h.get? b = some u → h'.get? b = some u) (hp : h.objs.size ≤ a) (hn : H a = none) : Un fs ex H (upd H a o) h h' where
  keep := fun b u q _ _ _ => k b u q
  slot := fun b u q _ _ _ => ⟨u.slots, k b u q⟩
  free := fun b u q n _ => by rw [upd_ne (Nat.ne_of_lt (Nat.lt_of_lt_of_le (Heap.lt_size q) hp))]; exact n
  there := fun b u q _ => ⟨u, k b u q⟩
  tups := fun b xs q => by rw [upd_ne (ne_of_none q hn)]; exact q
  frzs := fun b u xs q => by rw [upd_ne (ne_of_none q hn)]; exact q
  tbls := fun b ps q => ⟨#[], by rw [upd_ne (ne_of_none q hn), q]; simp⟩
theorem Un.write (mu : Mut (H x)) (he : e = x ∨ H e = some (.own x)) (k : ∀ b u, b ≠ e → h.get? b = some u → h'.get? b = some u) (heo : ∃ u, h'.get? e = some u) : Un fs ex H (upd H x o) h h' := by
  have hx : ∀ b, H b = none → b ≠ x := fun b n z => by subst z; rw [n] at mu; exact mu
  have hb : ∀ b, H b = none → b ≠ e := fun b n z => by
    subst z
    rcases he with r | r
    · exact hx b n r
    · rw [n] at r; cases r
  have hm : ∀ b u, H b = some u → ¬ Mut (some u) → b ≠ x := fun b u q nm z => by subst z; rw [q] at mu; exact nm mu
  refine ⟨fun b u q n _ _ => k b u (hb b n) q, fun b u q n _ _ => ⟨u.slots, k b u (hb b n) q⟩, fun b u q n _ => by rw [upd_ne (hx b n)]; exact n, fun b u q _ => ?_,
    fun b xs q => by rw [upd_ne (hm b _ q fun z => z)]; exact q, fun b u xs q => by rw [upd_ne (hm b _ q fun z => z)]; exact q, fun b ps q => ⟨#[], by rw [upd_ne (hm b _ q fun z => z), q]; simp⟩⟩
  by_cases hbe : b = e
  · subst hbe; exact heo
  · exact ⟨u, k b u hbe q⟩
theorem Un.mono (u : Un fs ex H H1 h h1) (hs : ∀ b ∈ fs, b ∈ fs') (hx : ∀ b ∈ ex, b ∈ ex') : Un fs' ex' H H1 h h1 :=
  ⟨fun b ob q n hb he => u.keep b ob q n (fun z => hb (hs b z)) fun z => he (hx b z), fun _ _ q n _ he => u.any q n fun z => he (hx _ z), fun b ob q n he => u.free b ob q n fun z => he (hx b z), fun b ob q he => u.there b ob q fun z => he (hx b z), u.tups, u.frzs, u.tbls⟩
end

/-! ### the heap without what is tracked -/
def trk (h : Heap) (H : Hp) : List Addr := (List.range h.objs.size).filter fun a => (H a).isSome
def hidT (h : Heap) (H : Hp) : Heap := PySem.W.hideAll h (trk h H)
theorem hidT_size (h : Heap) (H : Hp) : (hidT h H).objs.size = h.objs.size := PySem.W.hideAll_size _ _
theorem hidT_get {h : Heap} {H : Hp} {b : Addr} {o : Obj} (e : h.get? b = some o) (n : H b = none) : (hidT h H).get? b = some o :=
  PySem.W.hideAll_get _ e fun hm => by
    have q : (H b).isSome = true := (List.mem_filter.mp hm).2
    rw [n] at q; simp at q
theorem of_hidT {h : Heap} {H : Hp} {b : Addr} {o : Obj} (e : (hidT h H).get? b = some o) : h.get? b = some o ∧ H b = none := by
  have e' : h.get? b = some o := PySem.W.of_hideAll (trk h H) e
  refine ⟨e', ?_⟩
  cases q : H b with
  | none => rfl
  | some x =>
    have hm : b ∈ trk h H := List.mem_filter.mpr ⟨List.mem_range.mpr (Heap.lt_size e'), by simp [q]⟩
    have z : (hidT h H).get? b = none := PySem.W.hideAll_none (trk h H) hm
    rw [z] at e; cases e

/-! ### OpenK's ledger, filled with every new object but one -/
def allNews (g h : Heap) (L : Addr) : List (Addr × Obj) := (List.range h.objs.size).filterMap fun a => if a = L ∨ (g.get? a).isSome = true then none else (h.get? a).map fun o => (a, o)
def rest (g h : Heap) (L d : Addr) : List (Addr × Obj) := (allNews g h L).filter fun p => decide (p.1 ≠ d)
end L2

namespace L2
open PySem PySem.Spec PyProof.Rows

/-- the module's facts, over the base: the heap at the law's entry without what is tracked there -/
structure Mod (K : PySem.W.Frag) (mg : Str → Option Value) (base : Heap) : Prop where
  kin : K.In base
  glob : base.Ns mainGlobals mg
  blt : ∃ mb, base.Ns builtinsNs mb ∧ ∀ x : Str, x ≠ "__name__" → mb x = bootBuiltins x
  nolimit : base.NoLimit

/-- the context: a def's body (or a comprehension's block) running. base: fixed through the whole law; s₀, H₀: the entry; outer: the frames whose slots others may change (a def's callers); stack: all frames that run;
   ex: iterators that were made ahead of the entry and are walked here (a comprehension's); fn: the names whose cells were made at the entry (a def: all; a comprehension's block: its own); calm: not within an except suite; pn: pins that every state bears; xe: what is wanted of an exception that leaves the code -/
structure Cx where
  prog : Program
  w : World
  K : PySem.W.Frag
  mg : Str → Option Value
  base : Heap
  A : Around
  N : List Str
  s_0 : Shared
  H_0 : Hp
  env : Env
  outer : List Env
  stack : List Env
  ex : List Addr
  fn : Str → Bool
  calm : Bool
  pn : List (Addr × Obj)
  xe : Value → Shared → Prop
/-- the callers' frames -/
def frs (l : List Env) : List Addr := l.filterMap (·.frame)
abbrev Cx.fs (X : Cx) : List Addr := frs X.outer

def Vis (sc : Scope) (x : Str) : Prop := sc.names.lookup x = some .local ∨ sc.names.lookup x = some .cell ∨ sc.names.lookup x = some .free
def Loc (sc : Scope) (x : Str) : Prop := sc.names.lookup x = some .local ∨ sc.names.lookup x = some .cell
def Look (env : Env) (h : Heap) (m : Str → Option Value) (x : Str) (u : Value) : Prop :=
  (env.kindOf x = some .local ∧ m x = some u) ∨ ((env.kindOf x = some .cell ∨ env.kindOf x = some .free) ∧ ∃ c, env.cells.lookup x = some c ∧ h.IsCell c (some u))

structure Cx.Ok (X : Cx) : Prop where
  mod : Mod X.K X.mg X.base
  kind : X.env.scope.kind = .function
  glob : X.env.globals = mainGlobals
  blt : X.env.builtins = builtinsNs
  above : X.s_0.heap.objs.size ≤ X.env.locals
  inj : ∀ x y c, X.env.cells.lookup x = some c → X.env.cells.lookup y = some c → x = y
  has : ∀ x, (X.env.kindOf x = some .cell ∨ X.env.kindOf x = some .free) → ∃ c, X.env.cells.lookup x = some c
  cab : ∀ x c, X.fn x = true → X.env.cells.lookup x = some c → X.s_0.heap.objs.size ≤ c
  hd : X.calm = true → X.A.handled = none
  frames : X.A.frames = some X.stack
  stk : X.stack = X.outer ∨ (X.stack = X.env :: X.outer ∧ X.env.frame = some X.env.locals)
  exf : ∀ b ∈ X.ex, b ≠ X.env.locals ∧ ∀ x c, X.env.cells.lookup x = some c → c ≠ b
  bs : ∀ b o, X.base.get? b = some o → X.s_0.heap.get? b = some o ∧ X.H_0 b = none
  bsz : X.base.objs.size ≤ X.s_0.heap.objs.size
  noex : ∀ b o, X.base.get? b = some o → b ∉ X.ex
  exfs : ∀ b ∈ X.ex, b ∉ X.fs
  funs : X.s_0.heap.FunFrames X.base X.outer
  frf : ∀ b ∈ X.fs, X.H_0 b = none

structure Inv (X : Cx) (pins : List (Addr × Obj)) (σ : List (Option V)) (H : Hp) (s : Shared) : Prop where
  ok : X.Ok
  os : s.os = X.s_0.os
  bare : AllBare s.gens
  base : Un X.fs X.ex X.H_0 H X.s_0.heap s.heap
  loc : ∃ m, s.heap.Ns X.env.locals m ∧ ∀ (i : Nat) (x : Str) (v : V), X.N[i]? = some x → σ[i]? = some (some v) → Vis X.env.scope x → ∃ u, RelV v u ∧ Look X.env s.heap m x u
  cell : ∀ x c, X.env.cells.lookup x = some c → ∃ v, s.heap.IsCell c v
  free : H X.env.locals = none
  freeC : ∀ x c, X.env.cells.lookup x = some c → H c = none
  pin : ∀ p ∈ X.pn ++ pins, s.heap.get? p.1 = some p.2 ∧ H p.1 = none ∧ p.1 ≠ X.env.locals ∧ p.1 ∉ X.fs ∧ ∀ v, p.2.data ≠ .cell v
  hok : HOk X.prog X.w H s.heap
  len : σ.length = X.N.length

section
variable {X : Cx} {pins : List (Addr × Obj)} {σ : List (Option V)} {H H' : Hp} {s : Shared} {h' : Heap}

theorem Cx.Ok.nofr (ok : X.Ok) {b : Addr} {o : Obj} (e : X.base.get? b = some o) : b ∉ X.fs := fun hb => by
  have := (ok.funs.mem hb).1
  rw [e] at this; cases this
theorem Inv.bs (I : Inv X pins σ H s) : ∀ b o, X.base.get? b = some o → s.heap.get? b = some o ∧ H b = none := fun b o e =>
  ⟨I.base.keep b o (I.ok.bs b o e).1 (I.ok.bs b o e).2 (I.ok.nofr e) (I.ok.noex b o e), I.base.free b o (I.ok.bs b o e).1 (I.ok.bs b o e).2 (I.ok.noex b o e)⟩
theorem Inv.bk (I : Inv X pins σ H s) : ∀ b o, X.base.get? b = some o → s.heap.get? b = some o := fun b o e => (I.bs b o e).1
theorem Inv.mod (I : Inv X pins σ H s) : Mod X.K X.mg X.base := I.ok.mod
theorem Inv.kIn (I : Inv X pins σ H s) : X.K.In s.heap := I.ok.mod.kin.keeps I.bk
theorem Inv.nolimit (I : Inv X pins σ H s) : s.heap.NoLimit := I.ok.mod.nolimit.keeps I.bk
/-- the frame over the base: for OpenK's rules (K.In X.base is I.mod.kin) -/
theorem Inv.fr (I : Inv X pins σ H s) : ∃ m, Fr X.base X.env.locals s.heap m :=
  let ⟨m, hn, _⟩ := I.loc
  ⟨m, hn, I.bk, Nat.le_trans I.ok.bsz I.ok.above⟩
theorem Inv.lt (I : Inv X pins σ H s) : X.env.locals < s.heap.objs.size := let ⟨_, hn, _⟩ := I.loc; hn.lt
theorem Inv.sz (I : Inv X pins σ H s) : X.s_0.heap.objs.size ≤ s.heap.objs.size := Nat.le_trans I.ok.above (Nat.le_of_lt I.lt)
theorem Inv.nofs (I : Inv X pins σ H s) {a : Addr} (h : s.heap.objs.size ≤ a) : a ∉ X.fs := fun hb => by
  obtain ⟨_, o, ho, _⟩ := I.ok.funs.mem hb
  exact absurd (Nat.lt_of_lt_of_le (Heap.lt_size ho) (Nat.le_trans I.sz h)) (Nat.lt_irrefl _)
theorem Inv.cne (I : Inv X pins σ H s) : ∀ x c, X.env.cells.lookup x = some c → c ≠ X.env.locals := fun x c e z => by
  obtain ⟨v, o, ho, hd⟩ := I.cell x c e
  obtain ⟨m, ⟨o', es, ep, ho', hd', _⟩, _⟩ := I.loc
  rw [z, ho'] at ho; cases ho; rw [hd'] at hd; cases hd
theorem Inv.funs (I : Inv X pins σ H s) : s.heap.FunFrames X.base X.outer := by
  have all : ∀ (l : List Env), (∀ b ∈ frs l, b ∈ X.fs) → X.s_0.heap.FunFrames X.base l → s.heap.FunFrames X.base l := by
    intro l
    induction l with
    | nil => intro _ _; trivial
    | cons env r ih =>
      intro hs hl
      obtain ⟨hk, ⟨L, o, hf, hn, ho, hd⟩, hr⟩ := hl
      have hL : L ∈ X.fs := hs L (by unfold frs; rw [List.filterMap_cons, hf]; exact List.mem_cons_self)
      obtain ⟨sl, e⟩ := I.base.slot L o ho (I.ok.frf L hL) hL fun z => I.ok.exfs L z hL
      exact ⟨hk, ⟨L, _, hf, hn, e, hd⟩, ih (fun b hb => hs b (by unfold frs; rw [List.filterMap_cons, hf]; exact List.mem_cons_of_mem _ hb)) hr⟩
  exact all X.outer (fun _ hb => hb) I.ok.funs

/-- the frames that run, for a call -/
theorem Inv.stack (I : Inv X pins σ H s) : s.heap.FunFrames X.base X.stack := by
  rcases I.ok.stk with e | ⟨e, hf⟩
  · rw [e]; exact I.funs
  · rw [e]
    obtain ⟨m, hn, _⟩ := I.loc
    refine .cons (by rw [I.ok.kind]; decide) hf hn ?_ I.funs
    exact Heap.get?_none_of_le (Nat.le_trans I.ok.bsz I.ok.above)
theorem Inv.stkSub (I : Inv X pins σ H s) : ∀ b ∈ frs X.stack, b ∈ X.env.locals :: X.fs := fun b hb => by
  rcases I.ok.stk with e | ⟨e, hf⟩
  · rw [e] at hb; exact List.mem_cons_of_mem _ hb
  · rw [e] at hb
    unfold frs at hb
    rw [List.filterMap_cons, hf] at hb
    exact hb
theorem Inv.stkFree (I : Inv X pins σ H s) : ∀ b ∈ frs X.stack, H b = none := fun b hb => by
  rcases List.mem_cons.mp (I.stkSub b hb) with e | hb
  · rw [e]; exact I.free
  · obtain ⟨_, o, ho, _⟩ := I.ok.funs.mem hb
    exact I.base.free b o ho (I.ok.frf b hb) fun z => I.ok.exfs b z hb

/-- THE STEP: the untracked objects but the frame and the records at ch are kept (the callers' frames up to slots), the frame's map is kept, the new abstract heap is held -/
theorem Inv.step {g' : Array GenState} {t' : Nat} {d' : Drawn} {ch : List Addr} (I : Inv X pins σ H s)
    (hch : ∀ b ∈ ch, (b ∈ X.ex ∨ X.s_0.heap.objs.size ≤ b) ∧ b ≠ X.env.locals ∧ (∀ x c, X.env.cells.lookup x = some c → c ≠ b) ∧ ∀ p ∈ X.pn ++ pins, p.1 ≠ b)
    (keep : ∀ b o, b ≠ X.env.locals → b ∉ X.fs → b ∉ ch → s.heap.get? b = some o → H b = none → h'.get? b = some o)
    (slot : ∀ b o, b ≠ X.env.locals → b ∈ X.fs → b ∉ ch → s.heap.get? b = some o → H b = none → ∃ sl, h'.get? b = some { o with slots := sl }) (free : ∀ b o, b ∉ ch → s.heap.get? b = some o → H b = none → H' b = none)
    (there : ∀ b o, b ∉ ch → s.heap.get? b = some o → ∃ o', h'.get? b = some o')
    (tups : ∀ b xs, H b = some (.tup xs) → H' b = some (.tup xs)) (frzs : ∀ b o u, H b = some (.frz o u) → H' b = some (.frz o u)) (tbls : ∀ b ps, H b = some (.tbl ps) → ∃ more, H' b = some (.tbl (ps ++ more)))
    (ns : ∀ m, s.heap.Ns X.env.locals m → h'.Ns X.env.locals m) (hok : HOk X.prog X.w H' h') (hg : AllBare g') :
    Inv X pins σ H' { s with heap := h', gens := g', drawn := d', toks := t' } := by
  have neL : ∀ b o, X.s_0.heap.get? b = some o → b ≠ X.env.locals := fun b o e => Nat.ne_of_lt (Nat.lt_of_lt_of_le (Heap.lt_size e) I.ok.above)
  have neC : ∀ b o, X.s_0.heap.get? b = some o → b ∉ X.ex → b ∉ ch := fun b o e hx hb => by
    rcases (hch b hb).1 with z | z
    · exact hx z
    · exact absurd (Nat.lt_of_lt_of_le (Heap.lt_size e) z) (Nat.lt_irrefl _)
  have cellK : ∀ x c, X.env.cells.lookup x = some c → ∀ v, s.heap.IsCell c v → h'.IsCell c v := fun x c e v ⟨o, ho, hd⟩ => by
    have nch : c ∉ ch := fun z => (hch c z).2.2.1 x c e rfl
    by_cases hc : c ∈ X.fs
    · obtain ⟨sl, q⟩ := slot c o (I.cne x c e) hc nch ho (I.freeC x c e)
      exact ⟨_, q, hd⟩
    · exact ⟨o, keep c o (I.cne x c e) hc nch ho (I.freeC x c e), hd⟩
  refine ⟨I.ok, I.os, hg, ⟨fun b o e n hb hx => ?_, fun b o e n hb hx => ?_, fun b o e n hx => ?_, fun b o e hx => ?_, fun b xs e => tups b xs (I.base.tups b xs e), fun b o xs e => frzs b o xs (I.base.frzs b o xs e), fun b ps e => ?_⟩, ?_, fun x c e => ?_, ?_, fun x c e => ?_, fun p hp => ?_, hok, I.len⟩
  · exact keep b o (neL b o e) hb (neC b o e hx) (I.base.keep b o e n hb hx) (I.base.free b o e n hx)
  · obtain ⟨sl, e1⟩ := I.base.slot b o e n hb hx
    obtain ⟨sl', e2⟩ := slot b _ (neL b o e) hb (neC b o e hx) e1 (I.base.free b o e n hx)
    exact ⟨sl', e2⟩
  · obtain ⟨o', e1⟩ := I.base.there b o e hx
    exact free b o' (neC b o e hx) e1 (I.base.free b o e n hx)
  · obtain ⟨o', e1⟩ := I.base.there b o e hx
    exact there b o' (neC b o e hx) e1
  · obtain ⟨m1, e1⟩ := I.base.tbls b ps e
    obtain ⟨m2, e2⟩ := tbls b _ e1
    exact ⟨m1 ++ m2, by rw [e2, Array.append_assoc]⟩
  · obtain ⟨m, hn, hl⟩ := I.loc
    refine ⟨m, ns m hn, fun i x v e1 e2 e3 => ?_⟩
    obtain ⟨u, r, l⟩ := hl i x v e1 e2 e3
    refine ⟨u, r, ?_⟩
    rcases l with l | ⟨k, c, e, z⟩
    · exact .inl l
    · exact .inr ⟨k, c, e, cellK x c e _ z⟩
  · obtain ⟨v, z⟩ := I.cell x c e
    exact ⟨v, cellK x c e v z⟩
  · obtain ⟨m, ⟨o, _, _, ho, _⟩, _⟩ := I.loc
    exact free _ o (fun z => (hch _ z).2.1 rfl) ho I.free
  · obtain ⟨v, o, ho, hd⟩ := I.cell x c e
    exact free c o (fun z => (hch c z).2.2.1 x c e rfl) ho (I.freeC x c e)
  · obtain ⟨e, n, ne, nf, d⟩ := I.pin p hp
    have nch : p.1 ∉ ch := fun z => (hch p.1 z).2.2.2 p hp rfl
    exact ⟨keep p.1 p.2 ne nf nch e n, free p.1 p.2 nch e n, ne, nf, d⟩
/-- .. where the frame's own object is kept too -/
theorem Inv.un {t' : Nat} (I : Inv X pins σ H s) (u : Un X.fs [] H H' s.heap h') (hok : HOk X.prog X.w H' h') : Inv X pins σ H' { s with heap := h', toks := t' } := by
  obtain ⟨m, ⟨o, es, ep, ho, r⟩, _⟩ := id I.loc
  obtain ⟨sl, hL⟩ := u.any ho I.free (by simp)
  exact I.step (g' := s.gens) (d' := s.drawn) (ch := []) (fun _ z => nomatch z) (fun b o _ hb _ e n => u.keep b o e n hb (by simp)) (fun b o _ hb _ e n => u.slot b o e n hb (by simp)) (fun b o _ e n => u.free b o e n (by simp)) (fun b o _ e => u.there b o e (by simp)) u.tups u.frzs u.tbls (fun m' hm => by
    obtain ⟨o', es', ep', ho', r'⟩ := hm
    rw [ho] at ho'; cases ho'
    exact ⟨_, es', ep', hL, r'⟩) hok I.bare
/-- behind a call (or a comprehension's block): the slots of this frame may have changed too, the records at ch may have turned -/
theorem Inv.call {g' : Array GenState} {t' : Nat} {d' : Drawn} {ch : List Addr} (I : Inv X pins σ H s) (u : Un (frs X.stack) ch H H' s.heap h') (hok : HOk X.prog X.w H' h') (hg : AllBare g')
    (hch : ∀ b ∈ ch, (b ∈ X.ex ∨ X.s_0.heap.objs.size ≤ b) ∧ b ≠ X.env.locals ∧ (∀ x c, X.env.cells.lookup x = some c → c ≠ b) ∧ ∀ p ∈ X.pn ++ pins, p.1 ≠ b) :
    Inv X pins σ H' { s with heap := h', gens := g', drawn := d', toks := t' } := by
  obtain ⟨m, ⟨o, es, ep, ho, r⟩, _⟩ := id I.loc
  obtain ⟨sl, hL⟩ := u.any ho I.free fun z => (hch _ z).2.1 rfl
  exact I.step (ch := ch) hch (fun b o hL hb hc e n => u.keep b o e n (fun z => (List.mem_cons.mp (I.stkSub b z)).elim hL hb) hc) (fun b o _ _ hc e n => u.any e n hc) (fun b o hc e n => u.free b o e n hc) (fun b o hc e => u.there b o e hc) u.tups u.frzs u.tbls (fun m' hm => by
    obtain ⟨o', es', ep', ho', r'⟩ := hm
    rw [ho] at ho'; cases ho'
    exact ⟨_, es', ep', hL, r'⟩) hok hg
/-- an untracked record of ours (an iterator) has turned -/
theorem Inv.turned {t' : Nat} {it : Addr} (I : Inv X pins σ H s) (k : ∀ b o, b ≠ it → s.heap.get? b = some o → h'.get? b = some o) (hn : H it = none) (hL : it ≠ X.env.locals)
    (h1 : it ∈ X.ex ∨ X.s_0.heap.objs.size ≤ it) (h2 : ∀ x c, X.env.cells.lookup x = some c → c ≠ it) (h3 : ∀ p ∈ X.pn ++ pins, p.1 ≠ it) : Inv X pins σ H { s with heap := h', toks := t' } := by
  have nit : ∀ b u, H b = some u → b ≠ it := fun b u e z => by rw [z, hn] at e; cases e
  refine I.step (g' := s.gens) (d' := s.drawn) (ch := [it]) (fun b hb => ?_) (fun b o _ _ hc e _ => k b o (fun z => hc (by simp [z])) e) (fun b o _ _ hc e _ => ⟨o.slots, k b o (fun z => hc (by simp [z])) e⟩) (fun _ _ _ _ n => n)
    (fun b o hc e => ⟨o, k b o (fun z => hc (by simp [z])) e⟩) (fun _ _ e => e) (fun _ _ _ e => e) (fun b ps e => ⟨#[], by rw [e]; simp⟩) (fun m hm => ?_) (fun b u e => ?_) I.bare
  · have e : b = it := by simpa using hb
    subst e
    exact ⟨h1, hL, h2, h3⟩
  · obtain ⟨o, es, ep, ho, r⟩ := hm
    exact ⟨o, es, ep, k _ o (Ne.symm hL) ho, r⟩
  · refine (I.hok b u e).stay (fun c v hc q => k c v ?_ q) (fun _ q => q) fun _ _ q => q
    rcases hc with z | z
    · rw [z]; exact nit b u e
    · exact nit c _ z
theorem Inv.tok (I : Inv X pins σ H s) (t : Nat) : Inv X pins σ H { s with toks := t } := I.un (h' := s.heap) (t' := t) Un.refl I.hok
/-- all objects kept -/
theorem Inv.kept {t' : Nat} (I : Inv X pins σ H s) (k : ∀ b u, s.heap.get? b = some u → h'.get? b = some u) : Inv X pins σ H { s with heap := h', toks := t' } := I.un (Un.kept k) (I.hok.kept k)
/-- a new object laid and tracked -/
theorem Inv.laid {a : Addr} {o : HO} {t' : Nat} (I : Inv X pins σ H s) (k : ∀ b u, s.heap.get? b = some u → h'.get? b = some u) (hp : s.heap.objs.size ≤ a) (new : ObjOk X.prog X.w (upd H a o) h' a o) :
    Inv X pins σ (upd H a o) { s with heap := h', toks := t' } := I.un (Un.laid k hp (I.hok.fresh hp)) (I.hok.laid k hp new)
/-- an object written -/
theorem Inv.write {x e : Addr} {o : HO} {t' : Nat} (I : Inv X pins σ H s) (mu : Mut (H x)) (he : e = x ∨ H e = some (.own x)) (k : ∀ b u, b ≠ e → s.heap.get? b = some u → h'.get? b = some u) (heo : ∃ u, h'.get? e = some u)
    (new : ObjOk X.prog X.w (upd H x o) h' x o) : Inv X pins σ (upd H x o) { s with heap := h', toks := t' } := I.un (Un.write mu he k heo) (I.hok.write mu he k heo new)
/-- forgetting slots, pins -/
theorem Inv.weak {σ' : List (Option V)} (I : Inv X pins σ H s) (hl : σ'.length = σ.length) (w : ∀ (i : Nat) v, σ'[i]? = some (some v) → σ[i]? = some (some v)) : Inv X pins σ' H s :=
  ⟨I.ok, I.os, I.bare, I.base, let ⟨m, hn, hl'⟩ := I.loc; ⟨m, hn, fun i x v e1 e2 e3 => hl' i x v e1 (w i v e2) e3⟩, I.cell, I.free, I.freeC, I.pin, I.hok, hl.trans I.len⟩
theorem Inv.pins_of {pins' : List (Addr × Obj)} (I : Inv X pins σ H s) (h : ∀ p ∈ pins', s.heap.get? p.1 = some p.2 ∧ H p.1 = none ∧ p.1 ≠ X.env.locals ∧ p.1 ∉ X.fs ∧ ∀ v, p.2.data ≠ .cell v) : Inv X pins' σ H s :=
  ⟨I.ok, I.os, I.bare, I.base, I.loc, I.cell, I.free, I.freeC, fun p hp => (List.mem_append.mp hp).elim (fun z => I.pin p (List.mem_append_left _ z)) (h p), I.hok, I.len⟩

theorem nodup_ix {N : List Str} (hN : N.Nodup) {i j : Nat} {x : Str} (a : N[i]? = some x) (b : N[j]? = some x) : i = j := by
  obtain ⟨h1, e1⟩ := List.getElem?_eq_some_iff.mp a
  obtain ⟨h2, e2⟩ := List.getElem?_eq_some_iff.mp b
  exact (List.getElem_inj hN).mp (e1.trans e2.symm)

/-- a name is stored; what changed -/
theorem store_ok2 {M : Model} {A : Around} {E : Value → Shared → Prop} {i : Nat} {x : Str} {v : V} {u : Value} {Q : Unit → Shared → Prop} (I : Inv X pins σ H s) (hN : X.N.Nodup) (hi : X.N[i]? = some x) (hx : Loc X.env.scope x) (r : RelV v u)
    (h : ∀ s', Inv X pins (σ.set i (some v)) H s' → (∃ a, Heap.SameBut a s.heap s'.heap ∧ (a = X.env.locals ∨ X.env.cells.lookup x = some a)) → Q () s') (hf : X.fn x = true ∨ X.env.scope.names.lookup x = some .local := by first | exact .inl rfl | exact .inr rfl | assumption) : wpAny M A (storeName X.env x u) Q E s := by
  obtain ⟨m, hn, hl⟩ := id I.loc
  have hcls : (X.env.scope.kind == .class || (X.env.scope.kind == .module && X.env.locals != X.env.globals)) = false := by rw [I.ok.kind]; rfl
  have hiσ : i < σ.length := by rw [I.len]; exact (List.getElem?_eq_some_iff.mp hi).1
  have cne := I.cne
  have tracked : ∀ {a : Addr} {h' : Heap}, (∃ o, s.heap.get? a = some o ∧ H a = none) → Heap.SameBut a s.heap h' → HOk X.prog X.w H h' := fun {a h'} ha hs b ob e => by
    obtain ⟨_, _, hfree⟩ := ha
    refine (I.hok b ob e).stay (fun c w' hc q => (hs.2 c ?_).trans q) (fun _ q => q) fun _ _ q => q
    rintro rfl
    rcases hc with rfl | hc
    · rw [hfree] at e; cases e
    · rw [hfree] at hc; cases hc
  rcases hx with hk | hk
  · refine wpAny_storeName_local hk hn (fun h' hn' hs => ?_) hcls
    obtain ⟨oL, _, _, hoL, _⟩ := id hn
    refine h _ ⟨I.ok, I.os, I.bare, ⟨fun b o e n hb hx => ?_, fun b o e n hb hx => ?_, I.base.free, fun b o e hx => ?_, I.base.tups, I.base.frzs, I.base.tbls⟩, ⟨_, hn', fun j y v' e1 e2 e3 => ?_⟩, fun y c e => ?_, I.free, I.freeC, fun p hp => ?_, tracked ⟨oL, hoL, I.free⟩ hs, by simpa using I.len⟩ ⟨_, hs, .inl rfl⟩
    · exact (hs.2 b (Nat.ne_of_lt (Nat.lt_of_lt_of_le (Heap.lt_size e) I.ok.above))).trans (I.base.keep b o e n hb hx)
    · obtain ⟨sl, e1⟩ := I.base.slot b o e n hb hx
      exact ⟨sl, (hs.2 b (Nat.ne_of_lt (Nat.lt_of_lt_of_le (Heap.lt_size e) I.ok.above))).trans e1⟩
    · obtain ⟨o', e1⟩ := I.base.there b o e hx
      exact ⟨o', (hs.2 b (Nat.ne_of_lt (Nat.lt_of_lt_of_le (Heap.lt_size e) I.ok.above))).trans e1⟩
    · by_cases hj : j = i
      · subst hj
        rw [hi] at e1; cases e1
        rw [List.getElem?_set_self hiσ] at e2
        cases e2
        exact ⟨u, r, .inl ⟨hk, by simp⟩⟩
      · rw [List.getElem?_set_ne (Ne.symm hj)] at e2
        obtain ⟨u', r', q⟩ := hl j y v' e1 e2 e3
        refine ⟨u', r', ?_⟩
        rcases q with ⟨k, e⟩ | ⟨k, c, e, z⟩
        · refine .inl ⟨k, ?_⟩
          have : y ≠ x := fun e => hj (nodup_ix hN e1 (e ▸ hi))
          simp [this, e]
        · exact .inr ⟨k, c, e, z.sameBut hs (cne y c e)⟩
    · obtain ⟨w', z⟩ := I.cell y c e
      exact ⟨w', z.sameBut hs (cne y c e)⟩
    · obtain ⟨e, n, ne, nf, d⟩ := I.pin p hp
      exact ⟨(hs.2 p.1 ne).trans e, n, ne, nf, d⟩
  · have hfn : X.fn x = true := by
      rcases hf with z | z
      · exact z
      · rw [z] at hk; cases hk
    obtain ⟨c, hc⟩ := I.ok.has x (.inl hk)
    obtain ⟨w', z⟩ := I.cell x c hc
    refine wpAny_storeName_cell I.ok.kind hk hc z (fun h' hc' hs => ?_)
    obtain ⟨oc, hoc, hocd⟩ := id z
    refine h { s with heap := h' } ⟨I.ok, I.os, I.bare, ⟨fun b o e n hb hx => ?_, fun b o e n hb hx => ?_, I.base.free, fun b o e hx => ?_, I.base.tups, I.base.frzs, I.base.tbls⟩, ⟨m, hn.sameBut hs (Ne.symm (cne x c hc)), fun j y v' e1 e2 e3 => ?_⟩, fun y c' e => ?_, I.free, I.freeC, fun p hp => ?_, tracked ⟨oc, hoc, I.freeC x c hc⟩ hs, by simpa using I.len⟩ ⟨c, hs, .inr hc⟩
    · exact (hs.2 b (Nat.ne_of_lt (Nat.lt_of_lt_of_le (Heap.lt_size e) (I.ok.cab x c hfn hc)))).trans (I.base.keep b o e n hb hx)
    · obtain ⟨sl, e1⟩ := I.base.slot b o e n hb hx
      exact ⟨sl, (hs.2 b (Nat.ne_of_lt (Nat.lt_of_lt_of_le (Heap.lt_size e) (I.ok.cab x c hfn hc)))).trans e1⟩
    · obtain ⟨o', e1⟩ := I.base.there b o e hx
      exact ⟨o', (hs.2 b (Nat.ne_of_lt (Nat.lt_of_lt_of_le (Heap.lt_size e) (I.ok.cab x c hfn hc)))).trans e1⟩
    · by_cases hj : j = i
      · subst hj
        rw [hi] at e1; cases e1
        rw [List.getElem?_set_self hiσ] at e2
        cases e2
        exact ⟨u, r, .inr ⟨.inl hk, c, hc, hc'⟩⟩
      · rw [List.getElem?_set_ne (Ne.symm hj)] at e2
        obtain ⟨u', r', q⟩ := hl j y v' e1 e2 e3
        refine ⟨u', r', ?_⟩
        rcases q with q | ⟨k, c', e, z'⟩
        · exact .inl q
        · refine .inr ⟨k, c', e, z'.sameBut hs ?_⟩
          rintro rfl
          exact hj (nodup_ix hN e1 (I.ok.inj _ _ _ e hc ▸ hi))
    · by_cases hcc : c' = c
      · subst hcc; exact ⟨_, hc'⟩
      · obtain ⟨w2, z2⟩ := I.cell y c' e
        exact ⟨w2, z2.sameBut hs hcc⟩
    · obtain ⟨e, n, ne, nf, d⟩ := I.pin p hp
      refine ⟨(hs.2 p.1 ?_).trans e, n, ne, nf, d⟩
      intro q
      rw [q, hoc] at e
      have q' : oc = p.2 := Option.some.inj e
      exact d w' (by rw [← q']; exact hocd)
theorem store_ok {M : Model} {A : Around} {E : Value → Shared → Prop} {i : Nat} {x : Str} {v : V} {u : Value} {Q : Unit → Shared → Prop} (I : Inv X pins σ H s) (hN : X.N.Nodup) (hi : X.N[i]? = some x) (hx : Loc X.env.scope x) (r : RelV v u)
    (h : ∀ s', Inv X pins (σ.set i (some v)) H s' → Q () s') (hf : X.fn x = true ∨ X.env.scope.names.lookup x = some .local := by first | exact .inl rfl | exact .inr rfl | assumption) : wpAny M A (storeName X.env x u) Q E s :=
  store_ok2 I hN hi hx r (fun s' I' _ => h s' I') hf
/-- behind a call or a block, the state as it is -/
theorem Inv.call' {s' : Shared} {ch : List Addr} (I : Inv X pins σ H s) (ho : s'.os = s.os) (u : Un (frs X.stack) ch H H' s.heap s'.heap) (hok : HOk X.prog X.w H' s'.heap) (hg : AllBare s'.gens)
    (hch : ∀ b ∈ ch, (b ∈ X.ex ∨ X.s_0.heap.objs.size ≤ b) ∧ b ≠ X.env.locals ∧ (∀ x c, X.env.cells.lookup x = some c → c ≠ b) ∧ ∀ p ∈ X.pn ++ pins, p.1 ≠ b) : Inv X pins σ H' s' := by
  obtain ⟨h', g', d', t', o'⟩ := s'
  have e : o' = s.os := ho
  subst e
  exact I.call (g' := g') (t' := t') (d' := d') u hok hg hch
end

/-! ### the judgements -/
/-- an exception: its class, its own dict's address (where it has one), the abstract heap behind it -/
abbrev XK := Value → Option Addr → Hp → Prop
abbrev St := List (Option V)
abbrev VK := V → Hp → Prop
/-- an expression's reading; a test's; an argument list's -/
abbrev TE := St → Hp → VK → Prop
abbrev TT := St → Hp → (Bool → Hp → Prop) → Prop
abbrev TA := St → Hp → (List V → Hp → Prop) → Prop
/-- what is wanted behind a statement -/
structure Ends where
  nx : St → Hp → Prop
  rt : VK
  bk : St → Hp → Prop := fun _ _ => False
  ct : St → Hp → Prop := fun _ _ => False
abbrev TS := Ends → St → Hp → Prop

def EP (X : Cx) (pins : List (Addr × Obj)) (σ : St) (Q : VK) (u : Value) (s' : Shared) : Prop := ∃ v H', Inv X pins σ H' s' ∧ RelV v u ∧ Q v H'
def TP (X : Cx) (pins : List (Addr × Obj)) (σ : St) (Q : Bool → Hp → Prop) (b : Bool) (s' : Shared) : Prop := ∃ H', Inv X pins σ H' s' ∧ Q b H'
def AP (X : Cx) (pins : List (Addr × Obj)) (σ : St) (Q : List V → Hp → Prop) (us : List Value) (s' : Shared) : Prop := ∃ vs H', Inv X pins σ H' s' ∧ Vals vs us ∧ Q vs H'
def SP (X : Cx) (pins : List (Addr × Obj)) (D : Ends) (f : Flow) (s' : Shared) : Prop :=
  match f with
  | .next => ∃ σ' H', Inv X pins σ' H' s' ∧ D.nx σ' H'
  | .brk => ∃ σ' H', Inv X pins σ' H' s' ∧ D.bk σ' H'
  | .cont => ∃ σ' H', Inv X pins σ' H' s' ∧ D.ct σ' H'
  | .ret u => ∃ v σ' H', Inv X pins σ' H' s' ∧ RelV v u ∧ D.rt v H'

def PE (X : Cx) (e : Expr) (t : TE) : Prop :=
  ∀ (pins : List (Addr × Obj)) (s : Shared) (σ : St) (H : Hp) (Q : VK), Inv X pins σ H s → t σ H Q → wpAny (model X.prog X.w) X.A (eval e X.env) (EP X pins σ Q) X.xe s
def PT (X : Cx) (e : Expr) (t : TT) : Prop :=
  ∀ (pins : List (Addr × Obj)) (s : Shared) (σ : St) (H : Hp) (Q : Bool → Hp → Prop), Inv X pins σ H s → t σ H Q → wpAny (model X.prog X.w) X.A (isTrue e X.env (eval e X.env)) (TP X pins σ Q) X.xe s
/-- a test whatever its 'whole' is (and, or) -/
def PW (X : Cx) (e : Expr) (t : TT) : Prop :=
  ∀ (whole : Sem Value) (pins : List (Addr × Obj)) (s : Shared) (σ : St) (H : Hp) (Q : Bool → Hp → Prop), Inv X pins σ H s → t σ H Q → wpAny (model X.prog X.w) X.A (isTrue e X.env whole) (TP X pins σ Q) X.xe s
theorem PW.pt {X : Cx} {e : Expr} {t : TT} (h : PW X e t) : PT X e t := h _
/-- an argument list (no star), from the left -/
def PA (X : Cx) (es : List Expr) (t : TA) : Prop :=
  ∀ (pos : Pos) (pins : List (Addr × Obj)) (s : Shared) (σ : St) (H : Hp) (Q : List V → Hp → Prop), Inv X pins σ H s → t σ H Q → wpAny (model X.prog X.w) X.A (spliced (backTo pos (starEach es X.env))) (AP X pins σ Q) X.xe s
def PS (X : Cx) (st : Stmt) (t : TS) : Prop :=
  ∀ (pins : List (Addr × Obj)) (s : Shared) (σ : St) (H : Hp) (D : Ends), Inv X pins σ H s → t D σ H → wpAny (model X.prog X.w) X.A (exec st X.env) (SP X pins D) X.xe s
def PSs (X : Cx) (st : List Stmt) (t : TS) : Prop :=
  ∀ (pins : List (Addr × Obj)) (s : Shared) (σ : St) (H : Hp) (D : Ends), Inv X pins σ H s → t D σ H → wpAny (model X.prog X.w) X.A (execs st X.env) (SP X pins D) X.xe s
/-- weaken the end -/
theorem thn {α : Type} {t : Sem α} {Q Q' : α → Shared → Prop} {M : Model} {A : Around} {E : Value → Shared → Prop} {s : Shared} (h : wpAny M A t Q E s) (hQ : ∀ a s, Q a s → Q' a s) : wpAny M A t Q' E s := wpAny_mono h hQ fun _ _ x => x
end L2

namespace L2
open PySem PySem.Spec PyProof.Rows
section
variable {X : Cx}

/-! ### names and constants -/
def tVar (i : Nat) : TE := fun σ H Q => ∃ v, σ[i]? = some (some v) ∧ Q v H
def tC (v : V) : TE := fun _ H Q => Q v H
theorem pe_var {i : Nat} {x : Str} {pos : Pos} (hN : X.N[i]? = some x) (hv : Vis X.env.scope x) (hd : (x == ("__debug__" : Str)) = false := by decide) (hcd : (x == ("__classdict__" : Str)) = false := by decide) : PE X (.Name x pos) (tVar i) := by
  intro pins s σ H Q I h
  obtain ⟨v, e, h⟩ := h
  obtain ⟨m, hn, hl⟩ := I.loc
  obtain ⟨u, r, l⟩ := hl i x v hN e hv
  have fin : EP X pins σ Q u s := ⟨v, H, I, r, h⟩
  rcases l with ⟨hk, hm⟩ | ⟨hk, c, hc, hcell⟩
  · exact wpAny_Name (wpAny_loadName_local I.ok.kind hk hn hm fin) hd
  · rcases hk with hk | hk
    · exact wpAny_Name (wpAny_loadName_cell I.ok.kind hk hc hcell fin) hd
    · exact wpAny_Name (wpAny_loadName_free I.ok.kind hk hc hcell fin hcd) hd
theorem pe_int {i j pos} : PE X (.Constant (.int i) j pos) (tC (.int i)) := fun _ _ _ H _ I h => wpAny_Constant_int ⟨.int i, H, I.tok _, ⟨_, rfl⟩, h⟩
theorem pe_bl {b j pos} : PE X (.Constant (.bool b) j pos) (tC (.bl b)) := fun _ _ _ H _ I h => Constant_bool ⟨.bl b, H, I, rfl, h⟩
theorem pe_non {j pos} : PE X (.Constant .none j pos) (tC .non) := fun _ _ _ H _ I h => Constant_none ⟨.non, H, I, rfl, h⟩
theorem pe_str {x j pos} : PE X (.Constant (.str x) j pos) (tC (.str x)) := fun _ _ _ H _ I h => Calls.Constant_str ⟨.str x, H, I.tok _, ⟨_, rfl⟩, h⟩

/-- a global name of the def -/
def Gl (X : Cx) (x : Str) : Prop := X.env.kindOf x = some .globalImplicit
theorem ld_glob {E : Value → Shared → Prop} {pins : List (Addr × Obj)} {s : Shared} {σ : St} {H : Hp} {x : Str} {u : Value} {pos : Pos} {Q : Value → Shared → Prop} (I : Inv X pins σ H s) (hg : Gl X x) (hm : X.mg x = some u) (h : Q u s)
    (hd : (x == ("__debug__" : Str)) = false := by decide) : wpAny (model X.prog X.w) X.A (eval (.Name x pos) X.env) Q E s :=
  Calls.Name_function_global I.ok.kind hg (Calls.loadGlobal_global (by rw [I.ok.glob]; exact I.mod.glob.keeps I.bk) hm h) hd
theorem ld_blt {E : Value → Shared → Prop} {pins : List (Addr × Obj)} {s : Shared} {σ : St} {H : Hp} {x : Str} {u : Value} {pos : Pos} {Q : Value → Shared → Prop} (I : Inv X pins σ H s) (hg : Gl X x) (hm : X.mg x = none) (hv : bootBuiltins x = some u) (h : Q u s)
    (hn : x ≠ "__name__" := by decide) (hd : (x == ("__debug__" : Str)) = false := by decide) : wpAny (model X.prog X.w) X.A (eval (.Name x pos) X.env) Q E s := by
  obtain ⟨mb, h1, h2⟩ := I.mod.blt
  exact Calls.Name_function_global I.ok.kind hg (Calls.loadGlobal_builtin (by rw [I.ok.glob]; exact I.mod.glob.keeps I.bk) hm (by rw [I.ok.blt]; exact h1.keeps I.bk) ((h2 x hn).trans hv) h) hd
/-- a module's constant, a class, a function, as a value -/
theorem pe_glob {x : Str} {v : V} {u : Value} {pos : Pos} (hg : Gl X x) (hm : X.mg x = some u) (r : RelV v u) (hd : (x == ("__debug__" : Str)) = false := by decide) : PE X (.Name x pos) (tC v) :=
  fun _ _ _ H _ I h => ld_glob I hg hm ⟨v, H, I, r, h⟩ hd
/-! ### arithmetic -/
variable {a b : Expr} {ta tb : TE} {pos : Pos}
/-! ### comparisons -/
/-- a comparison as a value, as a test -/
def tB (t : TE) : TT := fun σ H Q => t σ H fun x H1 => ∃ c, x = .bl c ∧ Q c H1
/-- an expression whose value is a bool, as a test -/
theorem pt_val {e : Expr} {t : TE} (h : PE X e t) (he : ∀ whole, isTrue e X.env whole = (do let v ← whole; standAt e.pos; holding [v] (truthy v)) := by intro _; rfl) : PT X e (tB t) := by
  intro pins s σ H Q I hw
  refine isTrue_plain (thn (h pins s σ H _ I hw) fun v s1 ⟨x, H1, I1, r1, q1⟩ => ?_) (he _)
  obtain ⟨d, rfl, q⟩ := q1
  cases r1
  exact wpAny_truthy_bool ⟨H1, I1, q⟩

/-! ### and, or, not -/
variable {tA tB' : TT} {rest : List Expr}
def tAnd (t u : TT) : TT := fun σ H Q => t σ H fun c H1 => if c = true then u σ H1 Q else Q false H1
def tOr (t u : TT) : TT := fun σ H Q => t σ H fun c H1 => if c = true then Q true H1 else u σ H1 Q
def tNot (t : TT) : TT := fun σ H Q => t σ H fun c H1 => Q (!c) H1
theorem pw_and1 (ha : PT X a tA) : PW X (.BoolOp .And [a] pos) tA := by
  intro wh pins s σ H Q I h
  refine isTrue_and (thn (ha pins s σ H Q I h) fun c s1 e => ?_)
  cases c with
  | true => exact isTrue_and_nil e
  | false => exact e
theorem pw_or1 (ha : PT X a tA) : PW X (.BoolOp .Or [a] pos) tA := by
  intro wh pins s σ H Q I h
  refine isTrue_or (thn (ha pins s σ H Q I h) fun c s1 e => ?_)
  cases c with
  | false => exact isTrue_or_nil e
  | true => exact e
theorem pw_and (ha : PT X a tA) (hb : PW X (.BoolOp .And (b :: rest) pos) tB') : PW X (.BoolOp .And (a :: b :: rest) pos) (tAnd tA tB') := by
  intro wh pins s σ H Q I h
  refine isTrue_and (thn (ha pins s σ H _ I h) fun c s1 ⟨H1, I1, q1⟩ => ?_)
  cases c with
  | true => exact hb wh pins s1 σ H1 Q I1 q1
  | false => exact ⟨H1, I1, q1⟩
theorem pw_or (ha : PT X a tA) (hb : PW X (.BoolOp .Or (b :: rest) pos) tB') : PW X (.BoolOp .Or (a :: b :: rest) pos) (tOr tA tB') := by
  intro wh pins s σ H Q I h
  refine isTrue_or (thn (ha pins s σ H _ I h) fun c s1 ⟨H1, I1, q1⟩ => ?_)
  cases c with
  | true => exact ⟨H1, I1, q1⟩
  | false => exact hb wh pins s1 σ H1 Q I1 q1
theorem pt_not (ha : PT X a tA) : PT X (.UnaryOp .Not a pos) (tNot tA) := by
  intro pins s σ H Q I h
  exact isTrue_not (ha pins s σ H (fun c H1 => Q (!c) H1) I h)
/-- .. as values (bools) -/
def tAndV (ta tb : TE) : TE := fun σ H Q => ta σ H fun x H1 => ∃ c, x = .bl c ∧ if c = true then tb σ H1 Q else Q (.bl false) H1
def tNotV (ta : TE) : TE := fun σ H Q => ta σ H fun x H1 => ∃ c, x = .bl c ∧ Q (.bl (!c)) H1
theorem pe_one {op} {t : TE} (h : PE X a t) : PE X (.BoolOp op [a] pos) t := fun pins s σ H Q I hw => BoolOp_one (h pins s σ H Q I hw)
theorem pe_and (ha : PE X a ta) (hb : PE X (.BoolOp .And (b :: rest) pos) tb) : PE X (.BoolOp .And (a :: b :: rest) pos) (tAndV ta tb) := by
  intro pins s σ H Q I h
  refine BoolOp_and (thn (ha pins s σ H _ I h) fun v s1 ⟨x, H1, I1, r1, q1⟩ => ?_)
  obtain ⟨c, rfl, q1⟩ := q1
  cases r1
  refine wpAny_truthy_bool ?_
  cases c with
  | true => exact hb pins s1 σ H1 Q I1 q1
  | false => exact ⟨.bl false, H1, I1, rfl, q1⟩
theorem pe_not (ha : PE X a ta) : PE X (.UnaryOp .Not a pos) (tNotV ta) := by
  intro pins s σ H Q I h
  refine UnaryOp_ (thn (ha pins s σ H _ I h) fun v s1 ⟨x, H1, I1, r1, q1⟩ => ?_)
  obtain ⟨c, rfl, q1⟩ := q1
  cases r1
  exact not_of (wpAny_truthy_bool ⟨.bl (!c), H1, I1, rfl, q1⟩)
/-- a if t else b -/
def tIf (t : TT) (ta tb : TE) : TE := fun σ H Q => t σ H fun c H1 => if c = true then ta σ H1 Q else tb σ H1 Q
theorem pe_ifExp {c : Expr} (hc : PT X c tA) (ha : PE X a ta) (hb : PE X b tb) : PE X (.IfExp c a b pos) (tIf tA ta tb) := by
  intro pins s σ H Q I h
  refine wpAny_IfExp (thn (hc pins s σ H _ I h) fun d s1 ⟨H1, I1, q1⟩ => ?_)
  cases d with
  | true => exact ha pins s1 σ H1 Q I1 q1
  | false => exact hb pins s1 σ H1 Q I1 q1
end
end L2

namespace L2
open PySem PySem.Spec PyProof.Rows

/-! ### a list, a tuple that is read: tracked, frozen, or an object of the module -/
def SqL (K : PySem.W.Frag) (H : Hp) (a : Addr) (xs : List V) : Prop :=
  Rd H a (.lst xs) ∨
    ∃ (o : Obj) (its : Array Value) (n : Nat), K.lookup a = some o ∧ o.cls = .type "list" ∧ o.dict = none ∧ o.data = .seq its n ∧ its.size ≤ sizeLine ∧ Vals xs its.toList
def SqT (K : PySem.W.Frag) (H : Hp) (a : Addr) (xs : List V) : Prop :=
  Rd H a (.tup xs) ∨
    ∃ (o : Obj) (its : Array Value) (n : Nat), K.lookup a = some o ∧ o.cls = .type "tuple" ∧ o.data = .seq its n ∧ its.size ≤ sizeLine ∧ Vals xs its.toList
def absV : Value → Option V
  | .none => some .non
  | .bool b => some (.bl b)
  | .int i _ => some (.int i)
  | .str x _ => some (.str x)
  | .bytes b _ => some (.byt b)
  | .float b _ => some (.flt b)
  | .ref a => some (.ref a)
  | .type n => some (.ty n)
  | _ => none
theorem RelV.abs {x : V} {u : Value} (r : RelV x u) : absV u = some x := by
  cases x with
  | non => cases r; rfl
  | bl _ => cases r; rfl
  | int _ => obtain ⟨t, rfl⟩ := r; rfl
  | str _ => obtain ⟨t, rfl⟩ := r; rfl
  | byt _ => obtain ⟨t, rfl⟩ := r; rfl
  | flt _ => obtain ⟨t, rfl⟩ := r; rfl
  | ref _ => cases r; rfl
  | ty _ => cases r; rfl
theorem RelV.inj {x y : V} {u : Value} (r : RelV x u) (q : RelV y u) : x = y := Option.some.inj (r.abs.symm.trans q.abs)
theorem Vals.inj : ∀ {xs ys : List V} {us : List Value}, Vals xs us → Vals ys us → xs = ys
  | _, _, _, .nil, .nil => rfl
  | _, _, _, .cons r t, .cons r' t' => by rw [r.inj r', Vals.inj t t']
section
variable {X : Cx} {pins : List (Addr × Obj)} {σ : St} {H : Hp} {s : Shared} {a : Addr} {xs ys : List V}
theorem SqL.of {K : PySem.W.Frag} (h : H a = some (.lst xs)) : SqL K H a xs := .inl (.inl h)
theorem SqT.of {K : PySem.W.Frag} (h : H a = some (.tup xs)) : SqT K H a xs := .inl (.inl h)
theorem Inv.list (I : Inv X pins σ H s) (h : SqL X.K H a xs) : ∃ its : List Value, Vals xs its ∧ PlainL s.heap a its.toArray ∧ xs.length ≤ sizeLine := by
  rcases h with h | ⟨o, its, n, hk, hc, hd, hs, hz, r⟩
  · obtain ⟨z, its, n, r, e⟩ := h.ok I.hok
    exact ⟨its, r, ⟨_, n, e, rfl, rfl, rfl⟩, z⟩
  · refine ⟨its.toList, r, ⟨o, n, I.kIn a o hk, hc, hd, by simpa using hs⟩, ?_⟩
    have e := r.length
    simp only [Array.length_toList] at e
    omega
theorem Inv.tuple (I : Inv X pins σ H s) (h : SqT X.K H a xs) : ∃ its : List Value, Vals xs its ∧ IsTup s.heap a its.toArray ∧ xs.length ≤ sizeLine := by
  rcases h with h | ⟨o, its, n, hk, hc, hs, hz, r⟩
  · obtain ⟨z, its, r, p⟩ := h.ok I.hok
    exact ⟨its, r, p, z⟩
  · refine ⟨its.toList, r, ⟨o, I.kIn a o hk, hc, n, by simpa using hs⟩, ?_⟩
    have e := r.length
    simp only [Array.length_toList] at e
    omega
theorem Inv.list_inj (I : Inv X pins σ H s) (h : SqL X.K H a xs) (h' : SqL X.K H a ys) : xs = ys := by
  obtain ⟨its, r, ⟨o, n, e, _, _, d⟩, _⟩ := I.list h
  obtain ⟨its', r', ⟨o', n', e', _, _, d'⟩, _⟩ := I.list h'
  rw [e] at e'; cases e'
  rw [d] at d'
  injection d' with d1 _
  have : its = its' := by simpa using congrArg Array.toList d1
  subst this
  exact r.inj r'
theorem Inv.tuple_inj (I : Inv X pins σ H s) (h : SqT X.K H a xs) (h' : SqT X.K H a ys) : xs = ys := by
  obtain ⟨its, r, ⟨o, e, _, n, d⟩, _⟩ := I.tuple h
  obtain ⟨its', r', ⟨o', e', _, n', d'⟩, _⟩ := I.tuple h'
  rw [e] at e'; cases e'
  rw [d] at d'
  injection d' with d1 _
  have : its = its' := by simpa using congrArg Array.toList d1
  subst this
  exact r.inj r'
end

/-! ### another wish about exceptions -/
abbrev Cx.wish (X : Cx) (E : Value → Shared → Prop) : Cx := { X with xe := E }
/-- no exception leaves -/
abbrev Cx.nox (X : Cx) : Cx := X.wish fun _ _ => False
theorem Cx.Ok.wish {X : Cx} (ok : X.Ok) (E : Value → Shared → Prop) : (X.wish E).Ok :=
  ⟨ok.mod, ok.kind, ok.glob, ok.blt, ok.above, ok.inj, ok.has, ok.cab, ok.hd, ok.frames, ok.stk, ok.exf, ok.bs, ok.bsz, ok.noex, ok.exfs, ok.funs, ok.frf⟩
theorem Cx.Ok.unwish {X : Cx} {E : Value → Shared → Prop} (ok : (X.wish E).Ok) : X.Ok :=
  ⟨ok.mod, ok.kind, ok.glob, ok.blt, ok.above, ok.inj, ok.has, ok.cab, ok.hd, ok.frames, ok.stk, ok.exf, ok.bs, ok.bsz, ok.noex, ok.exfs, ok.funs, ok.frf⟩
section
variable {X : Cx} {pins : List (Addr × Obj)} {σ : St} {H : Hp} {s : Shared} {E : Value → Shared → Prop}
theorem Inv.wish (I : Inv X pins σ H s) (E : Value → Shared → Prop) : Inv (X.wish E) pins σ H s := ⟨I.ok.wish E, I.os, I.bare, I.base, I.loc, I.cell, I.free, I.freeC, I.pin, I.hok, I.len⟩
theorem Inv.unwish (I : Inv (X.wish E) pins σ H s) : Inv X pins σ H s := ⟨I.ok.unwish, I.os, I.bare, I.base, I.loc, I.cell, I.free, I.freeC, I.pin, I.hok, I.len⟩
theorem SP.unwish {D : Ends} {f : Flow} {s' : Shared} (h : SP (X.wish E) pins D f s') : SP X pins D f s' := by
  cases f with
  | next => obtain ⟨σ', H', I, q⟩ := h; exact ⟨σ', H', I.unwish, q⟩
  | brk => obtain ⟨σ', H', I, q⟩ := h; exact ⟨σ', H', I.unwish, q⟩
  | cont => obtain ⟨σ', H', I, q⟩ := h; exact ⟨σ', H', I.unwish, q⟩
  | ret u => obtain ⟨v, σ', H', I, r, q⟩ := h; exact ⟨v, σ', H', I.unwish, r, q⟩
theorem PE.nox {e : Expr} {t : TE} (h : PE X.nox e t) : PE X e t := fun pins s σ H Q I hw =>
  wpAny_mono (h pins s σ H Q (I.wish _) hw) (fun _ _ ⟨v, H', I', r, q⟩ => ⟨v, H', I'.unwish, r, q⟩) fun _ _ z => False.elim z
theorem PT.nox {e : Expr} {t : TT} (h : PT X.nox e t) : PT X e t := fun pins s σ H Q I hw =>
  wpAny_mono (h pins s σ H Q (I.wish _) hw) (fun _ _ ⟨H', I', q⟩ => ⟨H', I'.unwish, q⟩) fun _ _ z => False.elim z
theorem PSs.nox {st : List Stmt} {t : TS} (h : PSs X.nox st t) : PSs X st t := fun pins s σ H D I hw =>
  wpAny_mono (h pins s σ H D (I.wish _) hw) (fun _ _ q => q.unwish) fun _ _ z => False.elim z
end

/-! ### blocks and small statements -/
section
variable {X : Cx} {st : Stmt} {rest : List Stmt} {t u : TS} {e : Expr} {te : TE} {pos : Pos}
def tNext : TS := fun D σ H => D.nx σ H
def tSeq (t u : TS) : TS := fun D σ H => t { D with nx := u D } σ H
theorem pss_nil : PSs X [] tNext := fun _ _ σ H _ I h => wpAny_execs_nil ⟨σ, H, I, h⟩
theorem pss_cons (h1 : PS X st t) (h2 : PSs X rest u) : PSs X (st :: rest) (tSeq t u) := by
  intro pins s σ H D I h
  refine wpAny_execs_cons (thn (h1 pins s σ H { D with nx := u D } I h) fun f s1 q => ?_)
  cases f with
  | next =>
    obtain ⟨σ', H', I', q⟩ := q
    exact h2 pins s1 σ' H' D I' q
  | ret v => exact q
  | brk => exact q
  | cont => exact q
theorem pss_one (h1 : PS X st t) : PSs X [st] t := by
  intro pins s σ H D I h
  refine wpAny_execs_cons (thn (h1 pins s σ H D I h) fun f s1 q => ?_)
  cases f with
  | next => exact wpAny_execs_nil q
  | ret v => exact q
  | brk => exact q
  | cont => exact q
/-- in a def's body nothing is shown -/
theorem Inv.quiet {pins : List (Addr × Obj)} {σ : St} {H : Hp} {s : Shared} (I : Inv X pins σ H s) : interactive X.env = false := by simp [interactive, I.ok.kind]
/-- an expression whose value is dropped -/
def tDrop (te : TE) : TS := fun D σ H => te σ H fun _ H1 => D.nx σ H1
theorem ps_expr (he : PE X e te) (hs : swapsWith e none pos.line X.env = pure false := by rfl) : PS X (.Expr e pos) (tDrop te) := by
  intro pins s σ H D I h
  exact wpAny_Expr_any (thn (he pins s σ H _ I h) fun v s1 ⟨x, H1, I1, r1, q1⟩ => ⟨σ, H1, I1, q1⟩) I.quiet hs
def tRet (te : TE) : TS := fun D σ H => te σ H D.rt
theorem ps_ret (he : PE X e te) : PS X (.Return (some e) pos) (tRet te) := by
  intro pins s σ H D I h
  exact wpAny_Return_some (thn (he pins s σ H _ I h) fun v s1 ⟨x, H1, I1, r1, q1⟩ => ⟨x, σ, H1, I1, r1, q1⟩)
def tIfS (c : TT) (t u : TS) : TS := fun D σ H => c σ H fun b H1 => if b = true then t D σ H1 else u D σ H1
theorem ps_if {c : Expr} {a b : List Stmt} {tc : TT} (hc : PT X c tc) (ha : PSs X a t) (hb : PSs X b u) : PS X (.If c a b pos) (tIfS tc t u) := by
  intro pins s σ H D I h
  refine wpAny_If (thn (hc pins s σ H _ I h) fun d s1 ⟨H1, I1, q1⟩ => ?_)
  cases d with
  | true => exact ha pins s1 σ H1 D I1 q1
  | false => exact hb pins s1 σ H1 D I1 q1
end

/-! ### targets -/
abbrev TG := V → St → Hp → (St → Hp → Prop) → Prop
abbrev TGs := List V → St → Hp → (St → Hp → Prop) → Prop
def PG (X : Cx) (target : Expr) (t : TG) : Prop :=
  ∀ (pins : List (Addr × Obj)) (s : Shared) (σ : St) (H : Hp) (v : V) (u : Value) (Q : St → Hp → Prop), Inv X pins σ H s → RelV v u → t v σ H Q →
    wpAny (model X.prog X.w) X.A (assign target X.env u) (fun _ s' => ∃ σ' H', Inv X pins σ' H' s' ∧ Q σ' H') X.xe s
/-- several targets, one after another -/
def PGs (X : Cx) (ts : List Expr) (t : TGs) : Prop :=
  ∀ (pins : List (Addr × Obj)) (s : Shared) (σ : St) (H : Hp) (vs : List V) (us : List Value) (Q : St → Hp → Prop), Inv X pins σ H s → Vals vs us → t vs σ H Q →
    wpAny (model X.prog X.w) X.A (assignInOrder ((assignEach ts X.env).map (·.2)) us) (fun _ s' => ∃ σ' H', Inv X pins σ' H' s' ∧ Q σ' H') X.xe s
/-- o[i] = v, by values -/
abbrev TSet := V → V → V → Hp → (Hp → Prop) → Prop
def PSet (X : Cx) (t : TSet) : Prop :=
  ∀ (pins : List (Addr × Obj)) (s : Shared) (σ : St) (H : Hp) (o i v : V) (ov iv u : Value) (Q : Hp → Prop), Inv X pins σ H s → RelV o ov → RelV i iv → RelV v u → t o i v H Q →
    wpAny (model X.prog X.w) X.A (setItem ov iv u) (fun _ s' => ∃ H', Inv X pins σ H' s' ∧ Q H') X.xe s
/-- a op= b, by values -/
abbrev TIp := V → V → Hp → VK → Prop
def PIp (X : Cx) (op : Operator) (t : TIp) : Prop :=
  ∀ (pins : List (Addr × Obj)) (s : Shared) (σ : St) (H : Hp) (x y : V) (v u : Value) (Q : VK), Inv X pins σ H s → RelV x v → RelV y u → t x y H Q →
    wpAny (model X.prog X.w) X.A (inplaceOp op v u) (EP X pins σ Q) X.xe s
section
variable {X : Cx} {pos : Pos}
def gName (i : Nat) : TG := fun v σ H Q => Q (σ.set i (some v)) H
theorem pg_name {i : Nat} {x : Str} (hN : X.N.Nodup) (hi : X.N[i]? = some x) (hx : Loc X.env.scope x) (hf : X.fn x = true ∨ X.env.scope.names.lookup x = some .local := by first | exact .inl rfl | exact .inr rfl | assumption) : PG X (.Name x pos) (gName i) := by
  intro pins s σ H v u Q I r h
  exact wpAny_assign_Name (store_ok I hN hi hx r (fun s' I' => ⟨_, H, I', h⟩) hf)
def gNil : TGs := fun vs σ H Q => vs = [] ∧ Q σ H
def gCons (t : TG) (u : TGs) : TGs := fun vs σ H Q => ∃ v r, vs = v :: r ∧ t v σ H fun σ' H' => u r σ' H' Q
theorem pgs_nil : PGs X [] gNil := by
  intro pins s σ H vs us Q I r h
  obtain ⟨e, h⟩ := h
  subst e
  cases r
  exact assignInOrder_nil ⟨σ, H, I, h⟩
theorem pgs_cons {e : Expr} {es : List Expr} {t : TG} {u : TGs} (h1 : PG X e t) (h2 : PGs X es u)
    (hs : (assignEach (e :: es) X.env).map (·.2) = assign e X.env :: (assignEach es X.env).map (·.2) := by rfl) : PGs X (e :: es) (gCons t u) := by
  intro pins s σ H vs us Q I r h
  obtain ⟨v, vr, e1, h⟩ := h
  subst e1
  cases r with
  | cons r rr =>
    rw [hs]
    refine assignInOrder_cons (thn (h1 pins s σ H _ _ _ I r h) fun _ s1 ⟨σ1, H1, I1, q1⟩ => ?_)
    exact h2 pins s1 σ1 H1 _ _ Q I1 rr q1
/-- (a, b, ..) = a tuple of that length -/
def gTup (K : PySem.W.Frag) (n : Nat) (t : TGs) : TG := fun v σ H Q => ∃ a xs, v = .ref a ∧ SqT K H a xs ∧ xs.length = n ∧ t xs σ H Q
theorem pg_tup {es : List Expr} {k : Nat} {t : TGs} {n : Nat} (hc : X.calm = true) (h : PGs X es t)
    (hn : (assignEach es X.env).length = n := by rfl) (hst : (assignEach es X.env).findIdx? (·.1) = none := by rfl) : PG X (.Tuple es k pos) (gTup X.K n t) := by
  intro pins s σ H v u Q I r hw
  obtain ⟨a, xs, e1, hq, hl, hw⟩ := hw
  subst e1
  cases r
  obtain ⟨its, rv, ht, hz⟩ := I.tuple hq
  refine assign_Tuple_tuple (I.ok.hd hc) ht (by simp [hn, ← hl, rv.length]) hst fun h' hx => ?_
  have I1 : Inv X pins σ H { s with heap := h' } := I.kept (t' := s.toks) fun b o e => hx b o (Nat.ne_of_lt (Heap.lt_size e)) e
  exact h pins _ σ H xs _ Q I1 (by simpa using rv) hw
/-- o[i] = .. -/
def gSub (to ti : TE) (t : TSet) : TG := fun v σ H Q => to σ H fun o H1 => ti σ H1 fun i H2 => t o i v H2 fun H3 => Q σ H3
theorem pg_sub {o i : Expr} {to ti : TE} {t : TSet} (ho : PE X o to) (hi : PE X i ti) (hs : PSet X t)
    (ha : ∀ v, assign (.Subscript o i pos) X.env v = (do
      let ov ← holding [v] (eval o X.env)
      let iv ← holding [v, ov] (eval i X.env)
      standAt pos
      holding [v, ov, iv] (setItem ov iv v)
      release [v, ov, iv] []) := by intro _; rfl) : PG X (.Subscript o i pos) (gSub to ti t) := by
  intro pins s σ H v u Q I r h
  rw [ha]
  refine wpAny_bind (wpAny_holding (thn (ho pins s σ H _ I h) fun ov s1 ⟨x, H1, I1, r1, q1⟩ => ?_))
  refine wpAny_bind (wpAny_holding (thn (hi pins s1 σ H1 _ I1 q1) fun iv s2 ⟨y, H2, I2, r2, q2⟩ => ?_))
  refine wpAny_bind (wpAny_standAt (wpAny_bind (wpAny_holding (thn (hs pins s2 σ H2 x y v ov iv u _ I2 r1 r2 r q2) fun _ s3 ⟨H3, I3, q3⟩ => ?_))))
  exact wpAny_release ⟨σ, H3, I3, q3⟩
/-- target = value -/
def tAsg (te : TE) (g : TG) : TS := fun D σ H => te σ H fun x H1 => g x σ H1 D.nx
theorem ps_asg {tg e : Expr} {te : TE} {g : TG} (he : PE X e te) (hg : PG X tg g) (hs : swapsWithSole [tg] e pos.line X.env = pure false := by rfl) (hw : swappedStores [tg] e X.env = pure none := by rfl)
    (h1 : (assignEach [tg] X.env).map (·.2) = [assign tg X.env] := by rfl) : PS X (.Assign [tg] e pos) (tAsg te g) := by
  intro pins s σ H D I h
  refine wpAny_Assign_stores (thn (he pins s σ H _ I h) fun v s1 ⟨x, H1, I1, r1, q1⟩ => ?_) hs hw
  rw [h1]
  exact thn (hg pins s1 σ H1 x v _ I1 r1 q1) fun _ s2 q => q
/-- name = value -/
theorem ps_set {i : Nat} {x : Str} {e : Expr} {te : TE} {pos' : Pos} (hN : X.N.Nodup) (hi : X.N[i]? = some x) (hx : Loc X.env.scope x) (he : PE X e te) (hs : swapsWith e (some (.Name x pos')) pos.line X.env = pure false := by rfl) (hf : X.fn x = true ∨ X.env.scope.names.lookup x = some .local := by first | exact .inl rfl | exact .inr rfl | assumption) :
    PS X (.Assign [.Name x pos'] e pos) (tAsg te (gName i)) := by
  intro pins s σ H D I h
  refine wpAny_Assign_Name (thn (he pins s σ H _ I h) fun v s1 ⟨y, H1, I1, r1, q1⟩ => ?_) hs
  exact store_ok I1 hN hi hx r1 (fun s2 I2 => ⟨_, H1, I2, q1⟩) hf
/-- a, b = x, y with plain local names: stored from the right; the pair itself is not tracked (the opening rows as in PyProof/Rows/TupAssign.lean:23) -/
def tPar (i j : Nat) (ta : TA) : TS := fun D σ H => ta σ H fun vs H1 => ∃ v w, vs = [v, w] ∧ D.nx ((σ.set i (some v)).set j (some w)) H1
theorem ps_par {i j : Nat} {x y : Str} {a b : Expr} {ta : TA} {px py pt : Pos} {kt k2 pt2} (hc : X.calm = true) (hN : X.N.Nodup) (hi : X.N[i]? = some x) (hj : X.N[j]? = some y) (hij : i ≠ j)
    (hx : X.env.scope.names.lookup x = some .local) (hy : X.env.scope.names.lookup y = some .local) (ha : PA X [a, b] ta)
    (hw : swappedStores [.Tuple [.Name x px, .Name y py] kt pt] (.Tuple [a, b] k2 pt2) X.env = pure (some [x, y]))
    (hs : swapsWithSole [.Tuple [.Name x px, .Name y py] kt pt] (.Tuple [a, b] k2 pt2) pos.line X.env = pure false := by rfl) :
    PS X (.Assign [.Tuple [.Name x px, .Name y py] kt pt] (.Tuple [a, b] k2 pt2) pos) (tPar i j ta) := by
  intro pins s σ H D I h
  rw [exec_Assign_arm]
  refine wpAny_bind (wpAny_standAt ?_)
  rw [hs]
  refine wpAny_bind (wpAny_pure ?_)
  rw [if_neg (by decide)]
  refine wpAny_bind (Tuple_ (thn (ha _ pins s σ H _ I h) fun us s1 ⟨vs, H1, I1, r1, q1⟩ => ?_))
  obtain ⟨v, w, e1, q1⟩ := q1
  subst e1
  obtain ⟨u1, u2, rfl, rv, rw'⟩ : ∃ u1 u2, us = [u1, u2] ∧ RelV v u1 ∧ RelV w u2 := by
    cases r1 with
    | cons p q =>
      cases q with
      | cons p' q' =>
        cases q'
        exact ⟨_, _, rfl, p, p'⟩
  refine wpAny_newObj_type ?_ (by show 2 ≤ sizeLine; decide)
  have I2 : Inv X pins σ H1 { s1 with heap := s1.heap.push { cls := .type "tuple", data := .seq [u1, u2].toArray } } := I1.kept (t' := s1.toks) fun b o e => Heap.get?_push_of_some _ e
  rw [hw]
  refine wpAny_bind (wpAny_pure ?_)
  show wpAny (model X.prog X.w) X.A (do rule "assign.swapped-stores"; let items ← unpackItems (.ref s1.heap.objs.size) 2 none; assignInOrder [fun v => bindName X.env y v, fun v => bindName X.env x v] items.reverse; pure Flow.next) _ _ _
  refine wpAny_bind (wpAny_rule (wpAny_bind (unpackItems_tuple (items := #[u1, u2]) (I.ok.hd hc) (IsTup.new s1.heap _) fun h' hx' => ?_)))
  have I3 := I2.kept (h' := h') (t' := s1.toks) fun b o e => hx' b o (Nat.ne_of_lt (Heap.lt_size e)) e
  show wpAny _ _ (assignInOrder [fun v => bindName X.env y v, fun v => bindName X.env x v] [u2, u1] >>= fun _ => pure Flow.next) _ _ _
  refine wpAny_bind (assignInOrder_cons (wpAny_bindName (store_ok I3 hN hj (.inl hy) rw' (fun s2 I4 => ?_) (.inr hy))))
  refine assignInOrder_cons (wpAny_bindName (store_ok I4 hN hi (.inl hx) rv (fun s3 I5 => assignInOrder_nil (wpAny_pure ?_)) (.inr hx)))
  rw [List.set_comm _ _ (Ne.symm hij)] at I5
  exact ⟨_, H1, I5, q1⟩
/-- name op= e -/
def tAug (i : Nat) (te : TE) (ti : TIp) : TS := fun D σ H => ∃ x, σ[i]? = some (some x) ∧ te σ H fun y H1 => ti x y H1 fun z H2 => D.nx (σ.set i (some z)) H2
theorem ps_aug {i : Nat} {x : Str} {e : Expr} {te : TE} {op : Operator} {ti : TIp} {pos' : Pos} (hN : X.N.Nodup) (hi : X.N[i]? = some x) (hx : Loc X.env.scope x) (he : PE X e te) (ho : PIp X op ti) (hf : X.fn x = true ∨ X.env.scope.names.lookup x = some .local := by first | exact .inl rfl | exact .inr rfl | assumption) :
    PS X (.AugAssign (.Name x pos') op e pos) (tAug i te ti) := by
  intro pins s σ H D I h
  obtain ⟨v, e1, h⟩ := h
  obtain ⟨m, hn, hl⟩ := I.loc
  have vis : Vis X.env.scope x := by rcases hx with k | k; exact .inl k; exact .inr (.inl k)
  obtain ⟨u, r, l⟩ := hl i x v hi e1 vis
  refine wpAny_AugAssign_Name ?_
  have go : wpAny (model X.prog X.w) X.A (eval e X.env) (fun w s₂ => wpAny (model X.prog X.w) X.A (inplaceOp op u w) (fun r s₃ => wpAny (model X.prog X.w) X.A (storeName X.env x r) (fun _ => SP X pins D .next) X.xe s₃) X.xe s₂) X.xe s := by
    refine thn (he pins s σ H _ I h) fun w s1 ⟨y, H1, I1, r1, q1⟩ => ?_
    refine thn (ho pins s1 σ H1 v y u w _ I1 r r1 q1) fun z s2 ⟨zv, H2, I2, r2, q2⟩ => ?_
    exact store_ok I2 hN hi hx r2 (fun s3 I3 => ⟨_, H2, I3, q2⟩) hf
  rcases l with ⟨hk, hm⟩ | ⟨hk, c, hc, hcell⟩
  · exact wpAny_loadName_local I.ok.kind hk hn hm go
  · rcases hk with hk | hk
    · exact wpAny_loadName_cell I.ok.kind hk hc hcell go
    · rcases hx with k | k
      · have : X.env.scope.names.lookup x = some .free := hk
        rw [k] at this; cases this
      · have : X.env.scope.names.lookup x = some .free := hk
        rw [k] at this; cases this
/-- ints -/
def ipI (f : Int → Int → Int) : TIp := fun x y H Q => ∃ i j, x = .int i ∧ y = .int j ∧ Q (.int (f i j)) H
theorem ip_add : PIp X .Add (ipI fun i j => i + j) := by
  intro pins s σ H x y v u Q I r1 r2 h
  obtain ⟨i, j, e1, e2, q⟩ := h
  subst e1; subst e2
  obtain ⟨t, rfl⟩ := r1
  obtain ⟨t', rfl⟩ := r2
  exact iadd_int ⟨.int _, H, I.tok _, ⟨_, rfl⟩, q⟩
theorem ip_sub : PIp X .Sub (ipI fun i j => i - j) := by
  intro pins s σ H x y v u Q I r1 r2 h
  obtain ⟨i, j, e1, e2, q⟩ := h
  subst e1; subst e2
  obtain ⟨t, rfl⟩ := r1
  obtain ⟨t', rfl⟩ := r2
  exact isub_int ⟨.int _, H, I.tok _, ⟨_, rfl⟩, q⟩
end

/-! ### while -/
section
variable {X : Cx} {pos : Pos}
/-- the invariant W with its measure -/
def tWhile (c : TT) (tb : TS) : TS := fun D σ H => ∃ W : Nat → St → Hp → Prop, (∃ m, W m σ H) ∧ ∀ m σ H, W m σ H →
  c σ H fun b H1 => if b = true then ∃ N : St → Hp → Prop, (∀ σ' H', N σ' H' → ∃ m', m' < m ∧ W m' σ' H') ∧ tb { D with nx := N, ct := N, bk := D.nx } σ H1 else D.nx σ H1
theorem ps_while {c : Expr} {body : List Stmt} {tc : TT} {tb : TS} (hp : PassesOwn (model X.prog X.w) X.A X.env X.xe) (hc : PT X c tc) (hb : PSs X body tb) : PS X (.While c body [] pos) (tWhile tc tb) := by
  intro pins s σ H D I h
  obtain ⟨W, ⟨m0, w0⟩, turn⟩ := h
  refine wpAny_While (codeAny_whileLoop (fun n s' => ∃ σ' H', Inv X pins σ' H' s' ∧ W n σ' H') ?_ m0 ⟨σ, H, I, w0⟩)
  rintro n s1 ⟨σ1, H1, I1, w1⟩
  refine wpAny_passesOwn hp (thn (hc pins s1 σ1 H1 _ I1 (turn n σ1 H1 w1)) fun b s2 ⟨H2, I2, q2⟩ => ?_)
  cases b with
  | true =>
    obtain ⟨N, hN, q2⟩ := q2
    rw [if_pos rfl]
    refine wpAny_passesOwn hp (thn (hb pins s2 σ1 H2 _ I2 q2) fun f s3 q3 => ?_)
    cases f with
    | next =>
      obtain ⟨σ3, H3, I3, n3⟩ := q3
      obtain ⟨m', hm, w3⟩ := hN σ3 H3 n3
      exact ⟨m', hm, σ3, H3, I3, w3⟩
    | cont =>
      obtain ⟨σ3, H3, I3, n3⟩ := q3
      obtain ⟨m', hm, w3⟩ := hN σ3 H3 n3
      exact ⟨m', hm, σ3, H3, I3, w3⟩
    | brk => exact q3
    | ret v => exact q3
  | false =>
    rw [if_neg Bool.false_ne_true]
    exact wpAny_execs_nil ⟨σ1, H2, I2, q2⟩
end

/-! ### what a loop or a comprehension walks -/
/-- at turn i: it yields x (the heap may grow), or it stops -/
structure It where
  go : Nat → Hp → Prop
  yld : Nat → Hp → V → Hp → Prop
  stop : Nat → Hp → Prop
/-- the iterator's own objects may turn: they are not the frame's, not pinned, younger than the entry (or a comprehension's own) -/
def FpOk (X : Cx) (pins : List (Addr × Obj)) (H : Hp) (b : Addr) : Prop :=
  H b = none ∧ b ≠ X.env.locals ∧ b ∉ X.fs ∧ (b ∈ X.ex ∨ X.s_0.heap.objs.size ≤ b) ∧ (∀ x c, X.env.cells.lookup x = some c → c ≠ b) ∧ ∀ p ∈ X.pn ++ pins, p.1 ≠ b
theorem Inv.fpOk {X : Cx} {pins : List (Addr × Obj)} {σ : St} {H H' : Hp} {s : Shared} {b : Addr} (I : Inv X pins σ H s) (hb : s.heap.objs.size ≤ b) (hn : H' b = none) : FpOk X pins H' b := by
  refine ⟨hn, Nat.ne_of_gt (Nat.lt_of_lt_of_le I.lt hb), I.nofs hb, .inr (Nat.le_trans I.sz hb), fun x c e z => ?_, fun p hp z => ?_⟩
  · obtain ⟨v, q⟩ := I.cell x c e
    exact absurd (Nat.lt_of_lt_of_le q.lt (by rw [z]; exact hb)) (Nat.lt_irrefl _)
  · exact absurd (Nat.lt_of_lt_of_le (Heap.lt_size (I.pin p hp).1) (by rw [z]; exact hb)) (Nat.lt_irrefl _)
structure Turn (P : Program) (w : World) (K : PySem.W.Frag) (tg : Expr) (J : It) (fp : List Addr) (it : Addr) (tn : Nat → Heap → Prop) : Prop where
  mem : it ∈ fp
  obj : ∀ i h, tn i h → ∀ b ∈ fp, ∃ o, h.get? b = some o ∧ ∀ v, o.data ≠ .cell v
  keep : ∀ i h h', tn i h → (∀ b ∈ fp, ∀ o, h.get? b = some o → h'.get? b = some o) → tn i h'
  item : ∀ (X : Cx), X.prog = P → X.w = w → X.K = K → X.calm = true → ∀ (i : Nat) (pins : List (Addr × Obj)) (s : Shared) (σ : St) (H : Hp) (E : Value → Shared → Prop), Inv X pins σ H s → (∀ b ∈ fp, FpOk X pins H b) → tn i s.heap → J.go i H →
    wpAny (model P w) X.A (pyNext (.ref it)) (fun r s1 => ∃ u, r = some u ∧
      wpAny (model P w) X.A (letOwnedTupleGo tg (.ref it) u) (fun _ s2 => ∃ x H', Inv X pins σ H' s2 ∧ RelV x u ∧ J.yld i H x H' ∧ tn (i + 1) s2.heap ∧ ∀ b ∈ fp, H' b = none) E s1) E s
  done : ∀ (X : Cx), X.prog = P → X.w = w → X.K = K → X.calm = true → ∀ (i : Nat) (pins : List (Addr × Obj)) (s : Shared) (σ : St) (H : Hp) (E : Value → Shared → Prop), Inv X pins σ H s → (∀ b ∈ fp, FpOk X pins H b) → tn i s.heap → J.stop i H →
    wpAny (model P w) X.A (pyNext (.ref it)) (fun r s1 => r = none ∧ Inv X pins σ H s1) E s
  self : ∀ (A : Around) (i : Nat) (s : Shared) (Q : Value → Shared → Prop) (E : Value → Shared → Prop), tn i s.heap → Q (.ref it) s → wpAny (model P w) A (pyIter (.ref it)) Q E s
abbrev TI := St → Hp → (It → Hp → Prop) → Prop
/-- an iterator has come -/
def PIE (X : Cx) (pins : List (Addr × Obj)) (σ : St) (tg : Expr) (R : It → Hp → Prop) (itv : Value) (s2 : Shared) : Prop :=
  ∃ (it : Addr) (fp : List Addr) (tn : Nat → Heap → Prop) (J : It) (H' : Hp), itv = .ref it ∧ Inv X pins σ H' s2 ∧ Turn X.prog X.w X.K tg J fp it tn ∧ tn 0 s2.heap ∧ (∀ b ∈ fp, FpOk X pins H' b) ∧ R J H'
def PI (X : Cx) (tg iter : Expr) (wi : TI) : Prop :=
  ∀ (pins : List (Addr × Obj)) (s : Shared) (σ : St) (H : Hp) (R : It → Hp → Prop), Inv X pins σ H s → wi σ H R →
    wpAny (model X.prog X.w) X.A (eval iter X.env) (fun v s1 => wpAny (model X.prog X.w) X.A (pyIter v) (PIE X pins σ tg R) X.xe s1) X.xe s

/-- the step ahead of the store is nothing for an iterator that keeps no tuple -/
theorem go_of {M : Model} {A : Around} {E : Value → Shared → Prop} {s : Shared} {tg : Expr} {it : Addr} {u : Value} {o : Obj} {n : String} {vs : Array Value} {Q : Unit → Shared → Prop} (ho : s.heap.get? it = some o) (hc : o.cls = .type n) (hd : o.data = .fields vs)
    (hn : ["enumerate", "zip", "dict_itemiterator", "dict_reverseitemiterator", "odict_iterator", "itertools.zip_longest", "itertools.pairwise"].contains n = false) (hQ : Q () s) : wpAny M A (letOwnedTupleGo tg (.ref it) u) Q E s := by
  unfold letOwnedTupleGo
  cases tg <;> first
    | exact wpAny_pure hQ
    | (cases u <;> first
        | exact wpAny_pure hQ
        | (refine wpAny_bind (wpAny_load ho ?_)
           rw [hc, hd]
           show wpAny M A (if (["enumerate", "zip", "dict_itemiterator", "dict_reverseitemiterator", "odict_iterator", "itertools.zip_longest", "itertools.pairwise"].contains n && vs[0]? == some (rawInt _)) = true then _ else _) Q E s
           rw [if_neg (by intro h; rw [hn, Bool.false_and] at h; cases h)]
           exact wpAny_pure hQ))

/-- the list at a, as it stands at each turn (a loop may append to it) -/
def Itl (K : PySem.W.Frag) (a : Addr) : It :=
  ⟨fun i H => ∃ xs x, SqL K H a xs ∧ xs[i]? = some x, fun i H x H' => H' = H ∧ ∀ xs, SqL K H a xs → xs[i]? = some x, fun i H => ∃ xs, SqL K H a xs ∧ xs.length ≤ i⟩
def Itt (K : PySem.W.Frag) (a : Addr) : It :=
  ⟨fun i H => ∃ xs x, SqT K H a xs ∧ xs[i]? = some x, fun i H x H' => H' = H ∧ ∀ xs, SqT K H a xs → xs[i]? = some x, fun i H => ∃ xs, SqT K H a xs ∧ xs.length ≤ i⟩
/-- lo, lo + 1, .. (n of them) -/
def Itr (lo : Int) (n : Nat) : It := ⟨fun i _ => i < n, fun i H x H' => H' = H ∧ x = .int (lo + i), fun i _ => n ≤ i⟩
theorem turn_list {P : Program} {w : World} {K : PySem.W.Frag} {tg : Expr} (a it : Addr) : Turn P w K tg (Itl K a) [it] it (fun i h => h.IsListIter it a i) where
  mem := by simp
  obj := fun i h st b hb => by
    have e : b = it := by simpa using hb
    subst e
    obtain ⟨o, e, c, d⟩ := st
    exact ⟨o, e, fun v z => by rw [d] at z; cases z⟩
  keep := fun i h h' st k => st.at fun o e => k it (by simp) o e
  item := by
    intro X hP hw hK hc i pins s σ H E I hf st hg
    subst hP hw hK
    obtain ⟨xs, x, hq, hx⟩ := hg
    obtain ⟨its, rv, p, hz⟩ := I.list hq
    obtain ⟨u, hu, ru⟩ := rv.get hx
    obtain ⟨f0, f1, f2, f3, f4, f5⟩ := hf it (by simp)
    refine wpAny_pyNext_list_item st p.isList (x := u) (by simpa using hu) fun h' st' sb => ?_
    have I1 : Inv X pins σ H { s with heap := h' } := I.turned (t' := s.toks) (fun b o hb e => (sb.2 b hb).trans e) f0 f1 f3 f4 f5
    obtain ⟨o, e, c, d⟩ := id st'
    exact ⟨u, rfl, go_of (s := { s with heap := h' }) e c d (by decide) ⟨x, H, I1, ru, ⟨rfl, fun ys hy => by rw [I.list_inj hy hq]; exact hx⟩, st', fun b hb => (hf b hb).1⟩⟩
  done := by
    intro X hP hw hK hc i pins s σ H E I hf st hg
    subst hP hw hK
    obtain ⟨xs, hq, hx⟩ := hg
    obtain ⟨its, rv, p, hz⟩ := I.list hq
    obtain ⟨f0, f1, f2, f3, f4, f5⟩ := hf it (by simp)
    have hl := rv.length
    exact wpAny_pyNext_list_end (I.ok.hd hc) st p.isList (by simp; omega) fun h' eb => ⟨rfl, I.turned (t' := s.toks) (fun b o hb e => eb b o hb e) f0 f1 f3 f4 f5⟩
  self := fun _ _ _ _ _ st h => wpAny_pyIter_listiter st h
theorem turn_tuple {P : Program} {w : World} {K : PySem.W.Frag} {tg : Expr} (a it : Addr) : Turn P w K tg (Itt K a) [it] it (fun i h => h.IsTupleIter it a i) where
  mem := by simp
  obj := fun i h st b hb => by
    have e : b = it := by simpa using hb
    subst e
    obtain ⟨o, e, c, d⟩ := st
    exact ⟨o, e, fun v z => by rw [d] at z; cases z⟩
  keep := fun i h h' st k => st.at fun o e => k it (by simp) o e
  item := by
    intro X hP hw hK hc i pins s σ H E I hf st hg
    subst hP hw hK
    obtain ⟨xs, x, hq, hx⟩ := hg
    obtain ⟨its, rv, p, hz⟩ := I.tuple hq
    obtain ⟨u, hu, ru⟩ := rv.get hx
    obtain ⟨f0, f1, f2, f3, f4, f5⟩ := hf it (by simp)
    refine wpAny_pyNext_tuple_item st (show s.heap.IsTuple a its.toArray from p) (x := u) (by simpa using hu) fun h' st' sb => ?_
    have I1 : Inv X pins σ H { s with heap := h' } := I.turned (t' := s.toks) (fun b o hb e => (sb.2 b hb).trans e) f0 f1 f3 f4 f5
    obtain ⟨o, e, c, d⟩ := id st'
    exact ⟨u, rfl, go_of (s := { s with heap := h' }) e c d (by decide) ⟨x, H, I1, ru, ⟨rfl, fun ys hy => by rw [I.tuple_inj hy hq]; exact hx⟩, st', fun b hb => (hf b hb).1⟩⟩
  done := by
    intro X hP hw hK hc i pins s σ H E I hf st hg
    subst hP hw hK
    obtain ⟨xs, hq, hx⟩ := hg
    obtain ⟨its, rv, p, hz⟩ := I.tuple hq
    obtain ⟨f0, f1, f2, f3, f4, f5⟩ := hf it (by simp)
    have hl := rv.length
    exact wpAny_pyNext_tuple_end (I.ok.hd hc) st (show s.heap.IsTuple a its.toArray from p) (by simp; omega) fun h' eb => ⟨rfl, I.turned (t' := s.toks) (fun b o hb e => eb b o hb e) f0 f1 f3 f4 f5⟩
  self := fun _ _ _ _ _ st h => wpAny_pyIter_tupleiter st h
theorem turn_range {P : Program} {w : World} {K : PySem.W.Frag} {tg : Expr} (it : Addr) (lo : Int) (n : Nat) : Turn P w K tg (Itr lo n) [it] it (fun i h => IsRangeIter h it (lo + (i : Nat) * 1) ((n : Int) - (i : Nat)) 1) where
  mem := by simp
  obj := fun i h st b hb => by
    have e : b = it := by simpa using hb
    subst e
    exact ⟨_, st, fun v z => by
      have z' : Data.fields _ = Data.cell v := z
      cases z'⟩
  keep := fun i h h' st k => k it (by simp) _ st
  item := by
    intro X hP hw hK hc i pins s σ H E I hf st hg
    subst hP hw hK
    obtain ⟨f0, f1, f2, f3, f4, f5⟩ := hf it (by simp)
    have W := Walks.range (prog := X.prog) (w := X.w) (I.ok.hd hc) it lo 1 n
    refine W.item i s _ _ hg st fun v h' tk hv st' kk => ?_
    obtain ⟨t, rfl⟩ := hv
    have I1 : Inv X pins σ H { s with heap := h', toks := tk } := I.turned (fun b o hb e => kk b o (by simpa using hb) e) f0 f1 f3 f4 f5
    refine ⟨_, rfl, go_of (s := { s with heap := h', toks := tk }) (n := "range_iterator") st' rfl rfl (by decide) ⟨.int (lo + i), H, I1, ⟨t, ?_⟩, ⟨rfl, rfl⟩, st', fun b hb => (hf b hb).1⟩⟩
    rw [Int.mul_one]
  done := by
    intro X hP hw hK hc i pins s σ H E I hf st hg
    subst hP hw hK
    obtain ⟨f0, f1, f2, f3, f4, f5⟩ := hf it (by simp)
    exact wpAny_pyNext_range_end (I.ok.hd hc) st (by have : n ≤ i := hg; omega) fun h' eb => ⟨rfl, I.turned (t' := s.toks) (fun b o hb e => eb b o hb e) f0 f1 f3 f4 f5⟩
  self := fun _ _ _ _ _ st h => wpAny_pyIter_rangeiter st h
end L2

namespace L2
open PySem PySem.Spec PyProof.Rows
section
variable {X : Cx} {tg : Expr}
/-- a range object just made, walked -/
theorem range_it {pins : List (Addr × Obj)} {σ : St} {H : Hp} {s : Shared} {R : It → Hp → Prop} {E : Value → Shared → Prop} {lo hi : Int} {t u v : Tok} {tk : Nat} (I : Inv X pins σ H s) (h1 : -(2 ^ 62) ≤ lo) (h2 : lo < 2 ^ 62) (h3 : -(2 ^ 62) ≤ hi) (h4 : hi < 2 ^ 62)
    (q : R (Itr lo (hi - lo).toNat) H) : wpAny (model X.prog X.w) X.A (pyIter (.ref s.heap.objs.size)) (PIE X pins σ tg R) E { s with heap := s.heap.push { cls := .type "range", data := .fields #[.int lo t, .int hi u, .int 1 v] }, toks := tk } := by
  refine wpAny_pyIter_range (IsRange.new ..) (small_one h1 h2 h3 h4) ?_
  have I1 : Inv X pins σ H { s with heap := s.heap.push { cls := .type "range", data := .fields #[.int lo t, .int hi u, .int 1 v] }, toks := tk } := I.kept fun b o e => Heap.get?_push_of_some _ e
  refine ⟨(s.heap.push { cls := .type "range", data := .fields #[.int lo t, .int hi u, .int 1 v] }).objs.size, [(s.heap.push { cls := .type "range", data := .fields #[.int lo t, .int hi u, .int 1 v] }).objs.size], _, _, H, rfl,
    I1.kept (t' := tk) fun b o e => Heap.get?_push_of_some _ e, turn_range _ lo (hi - lo).toNat, ?_, fun b hb => ?_, q⟩
  · have e1 : lo + ((0 : Nat) : Int) * 1 = lo := by simp
    have e2 : (((hi - lo).toNat : Nat) : Int) - ((0 : Nat) : Int) = Builtin.Range.rangeSize lo hi 1 := by rw [rangeSize_one]; split <;> omega
    show IsRangeIter _ _ (lo + ((0 : Nat) : Int) * 1) ((((hi - lo).toNat : Nat) : Int) - ((0 : Nat) : Int)) 1
    rw [e1, e2]
    exact Heap.get?_push_size _ rfl
  · have e : b = (s.heap.push { cls := .type "range", data := .fields #[.int lo t, .int hi u, .int 1 v] }).objs.size := by simpa using hb
    subst e
    exact I1.fpOk (Nat.le_refl _) (I1.hok.fresh (Nat.le_refl _))
def iRng1 (ta : TA) : TI := fun σ H R => ta σ H fun vs H1 => ∃ j : Int, vs = [.int j] ∧ -(2 ^ 62) ≤ j ∧ j < 2 ^ 62 ∧ R (Itr 0 j.toNat) H1
theorem pi_range1 {a : Expr} {ta : TA} {p pos : Pos} (hg : Gl X "range") (hm : X.mg "range" = none) (ha : PA X [a] ta) (hs : starEach [a] X.env = [(false, eval a X.env)] := by rfl) : PI X tg (.Call (.Name "range" p) [a] [] pos) (iRng1 ta) := by
  intro pins s σ H R I h
  refine Call_ (ld_blt I hg hm boot_range (PyProof.Rows.callWith_type1 (thn (ha pos pins s σ H _ I h) fun us s1 ⟨vs, H1, I1, r1, q1⟩ => ?_) hs rfl))
  obtain ⟨j, e, q1, q2, q⟩ := q1
  subst e
  cases r1 with
  | cons r rr =>
    cases rr
    obtain ⟨t, rfl⟩ := r
    exact call_range_1 (range_it I1 (by omega) (by omega) q1 q2 (by simpa using q))
/-! ### for -/
/-- W: the invariant by the turn and a measure; N: what the body is to reach -/
def tFor (wi : TI) (g : TG) (tb : TS) : TS := fun D σ H => wi σ H fun J H1 => ∃ W : Nat → Nat → St → Hp → Prop, (∃ m, W 0 m σ H1) ∧ ∀ i m σ H, W i m σ H →
  (J.stop i H ∧ D.nx σ H) ∨ (J.go i H ∧ ∃ N : St → Hp → Prop, (∀ σ' H', N σ' H' → ∃ m', m' < m ∧ W (i + 1) m' σ' H') ∧ ∀ x H', J.yld i H x H' → g x σ H' fun σ2 H2 => tb { D with nx := N, ct := N, bk := D.nx } σ2 H2)
/-- the records at fp as they stand -/
def pinsAt (fp : List Addr) (h : Heap) : List (Addr × Obj) := fp.filterMap fun b => (h.get? b).map fun o => (b, o)
theorem mem_pinsAt {fp : List Addr} {h : Heap} {b : Addr} {o : Obj} (hb : b ∈ fp) (e : h.get? b = some o) : (b, o) ∈ pinsAt fp h := List.mem_filterMap.mpr ⟨b, hb, by rw [e]; rfl⟩
theorem of_pinsAt {fp : List Addr} {h : Heap} {p : Addr × Obj} (hp : p ∈ pinsAt fp h) : p.1 ∈ fp ∧ h.get? p.1 = some p.2 := by
  obtain ⟨b, hb, e⟩ := List.mem_filterMap.mp hp
  cases q : h.get? b with
  | none => rw [q] at e; cases e
  | some o =>
    rw [q] at e
    have e' : (b, o) = p := Option.some.inj e
    subst e'
    exact ⟨hb, q⟩
theorem Inv.pinned {pins : List (Addr × Obj)} {σ : St} {H : Hp} {s : Shared} {fp : List Addr} (I : Inv X pins σ H s) (hf : ∀ b ∈ fp, FpOk X pins H b) (ho : ∀ b ∈ fp, ∃ o, s.heap.get? b = some o ∧ ∀ v, o.data ≠ .cell v) : Inv X (pins ++ pinsAt fp s.heap) σ H s :=
  I.pins_of fun p hp => (List.mem_append.mp hp).elim (fun z => I.pin p (List.mem_append_right _ z)) fun z => by
    obtain ⟨hb, e⟩ := of_pinsAt z
    obtain ⟨f0, f1, f2, _⟩ := hf p.1 hb
    obtain ⟨o, e', d⟩ := ho p.1 hb
    rw [e] at e'; cases e'
    exact ⟨e, f0, f1, f2, d⟩
theorem Inv.unpinned {pins pl : List (Addr × Obj)} {σ : St} {H : Hp} {s : Shared} (I : Inv X (pins ++ pl) σ H s) : Inv X pins σ H s := I.pins_of fun p hp => I.pin p (List.mem_append_right _ (List.mem_append_left _ hp))
theorem ps_for {iter : Expr} {body : List Stmt} {wi : TI} {g : TG} {tb : TS} {pos : Pos} (hp : PassesOwn (model X.prog X.w) X.A X.env X.xe) (hc : X.calm = true) (hi : PI X tg iter wi) (hg : PG X tg g) (hb : PSs X body tb)
    (hs : ∀ x, foldedSetIterable iter X.env x = pure x := by intro _; rfl) : PS X (.For tg iter body [] pos) (tFor wi g tb) := by
  intro pins s σ H D I h
  refine wpAny_For (thn (hi pins s σ H _ I h) fun v s1 h1 => thn h1 fun itv s2 h2 => ?_) hs
  obtain ⟨it, fp, tn, J, H2, e, I2, T, st2, f2, W, ⟨m0, w0⟩, turn⟩ := h2
  subst e
  -- what stays true of the iterator's objects through the loop
  have stat : ∀ {H' : Hp}, (∀ b ∈ fp, H' b = none) → ∀ b ∈ fp, FpOk X pins H' b := fun hn b hb => ⟨hn b hb, (f2 b hb).2⟩
  refine codeAny_forLoop_any (fun n s' => ∃ i σ' H', Inv X pins σ' H' s' ∧ tn i s'.heap ∧ (∀ b ∈ fp, H' b = none) ∧ W i n σ' H') ?_ m0 ⟨0, σ, H2, I2, st2, fun b hb => (f2 b hb).1, w0⟩
  rintro n s3 ⟨i, σ3, H3, I3, st3, fr3, w3⟩
  rcases turn i n σ3 H3 w3 with ⟨stop, qn⟩ | ⟨go, N, hN, step⟩
  · refine wpAny_passesOwn hp (thn (T.done X rfl rfl rfl hc i pins s3 σ3 H3 X.xe I3 (stat fr3) st3 stop) fun r s4 ⟨hr, I4⟩ => ?_)
    subst hr
    exact wpAny_execs_nil ⟨σ3, H3, I4, qn⟩
  · refine wpAny_passesOwn hp (thn (T.item X rfl rfl rfl hc i pins s3 σ3 H3 X.xe I3 (stat fr3) st3 go) fun r s4 ⟨u, hr, h4⟩ => ?_)
    subst hr
    refine wpAny_passesOwn hp (thn h4 fun _ s5 ⟨x, H5, I5, r5, y5, st5, fr5⟩ => ?_)
    have I5' := I5.pinned (stat fr5) (T.obj _ _ st5)
    refine wpAny_passesOwn hp (thn (hg _ s5 σ3 H5 x u _ I5' r5 (step x H5 y5)) fun _ s6 ⟨σ6, H6, I6, q6⟩ => ?_)
    refine wpAny_passesOwn hp (thn (hb _ s6 σ6 H6 _ I6 q6) fun f s7 q7 => ?_)
    have again : ∀ {σ7 : St} {H7 : Hp}, Inv X (pins ++ pinsAt fp s5.heap) σ7 H7 s7 → N σ7 H7 → ∃ m, m < n ∧ ∃ i σ' H', Inv X pins σ' H' s7 ∧ tn i s7.heap ∧ (∀ b ∈ fp, H' b = none) ∧ W i m σ' H' := fun {σ7 H7} I7 n7 => by
      obtain ⟨m', hm, w7⟩ := hN σ7 H7 n7
      refine ⟨m', hm, i + 1, σ7, H7, I7.unpinned, T.keep _ _ _ st5 fun b hb o e => (I7.pin (b, o) (List.mem_append_right _ (List.mem_append_right _ (mem_pinsAt hb e)))).1, fun b hb => ?_, w7⟩
      obtain ⟨o, e, d⟩ := T.obj _ _ st5 b hb
      exact (I7.pin (b, o) (List.mem_append_right _ (List.mem_append_right _ (mem_pinsAt hb e)))).2.1
    cases f with
    | next => obtain ⟨σ7, H7, I7, n7⟩ := q7; exact again I7 n7
    | cont => obtain ⟨σ7, H7, I7, n7⟩ := q7; exact again I7 n7
    | brk => obtain ⟨σ7, H7, I7, q7⟩ := q7; exact ⟨σ7, H7, I7.unpinned, q7⟩
    | ret v => obtain ⟨x7, σ7, H7, I7, r7, q7⟩ := q7; exact ⟨x7, σ7, H7, I7.unpinned, r7, q7⟩
end

/-! ### the forms one uses -/
end L2

namespace L2
open PySem PySem.Spec PyProof.Rows

abbrev R2 := V → V → Hp → VK → Prop
/-- a two-place operation on values: f is binaryOp op, inplaceOp op or compareOp op -/
def OpR (X : Cx) (f : Value → Value → Sem Value) (r : R2) : Prop :=
  ∀ (pins : List (Addr × Obj)) (s : Shared) (σ : St) (H : Hp) (x y : V) (v u : Value) (Q : VK), Inv X pins σ H s → RelV x v → RelV y u → r x y H Q →
    wpAny (model X.prog X.w) X.A (f v u) (EP X pins σ Q) X.xe s
/-- a one-place operation -/
def UnR (X : Cx) (f : Value → Sem Value) (r : V → Hp → VK → Prop) : Prop :=
  ∀ (pins : List (Addr × Obj)) (s : Shared) (σ : St) (H : Hp) (x : V) (v : Value) (Q : VK), Inv X pins σ H s → RelV x v → r x H Q →
    wpAny (model X.prog X.w) X.A (f v) (EP X pins σ Q) X.xe s
/-- a call of a value that is known (a builtin, a type) with values -/
def CallR (X : Cx) (f : Value) (r : List V → Hp → VK → Prop) : Prop :=
  ∀ (pins : List (Addr × Obj)) (s : Shared) (σ : St) (H : Hp) (xs : List V) (us : List Value) (Q : VK), Inv X pins σ H s → Vals xs us → r xs H Q →
    wpAny (model X.prog X.w) X.A (call f us) (EP X pins σ Q) X.xe s
def tOp (r : R2) (ta tb : TE) : TE := fun σ H Q => ta σ H fun x H1 => tb σ H1 fun y H2 => r x y H2 Q
def tUn (r : V → Hp → VK → Prop) (ta : TE) : TE := fun σ H Q => ta σ H fun x H1 => r x H1 Q
/-- ints in, under C, and a value out -/
def rI (C : Int → Int → Prop) (g : Int → Int → V) : R2 := fun x y H Q => ∃ i j, x = .int i ∧ y = .int j ∧ C i j ∧ Q (g i j) H
def rI0 (g : Int → Int → V) : R2 := fun x y H Q => ∃ i j, x = .int i ∧ y = .int j ∧ Q (g i j) H
def rU (g : Int → V) : V → Hp → VK → Prop := fun x H Q => ∃ i, x = .int i ∧ Q (g i) H

section
variable {X : Cx} {a b c : Expr} {ta tb tc : TE} {pos : Pos}

theorem binT (ha : PE X a ta) (hb : PE X b tb) {pins : List (Addr × Obj)} {s : Shared} {σ : St} {H : Hp} {R : V → V → Hp → Prop} (I : Inv X pins σ H s)
    (h : ta σ H fun x H1 => tb σ H1 fun y H2 => R x y H2) {Q : Value → Shared → Prop} {f : Value → Value → Sem Value}
    (hf : ∀ v u s2 x y H2, Inv X pins σ H2 s2 → RelV x v → RelV y u → R x y H2 → wpAny (model X.prog X.w) X.A (f v u) Q X.xe s2) :
    wpAny (model X.prog X.w) X.A (eval a X.env) (fun v s₁ => wpAny (model X.prog X.w) X.A (eval b X.env) (fun u s₂ => wpAny (model X.prog X.w) X.A (f v u) Q X.xe s₂) X.xe s₁) X.xe s := by
  refine thn (ha pins s σ H _ I h) fun v s1 ⟨x, H1, I1, r1, q1⟩ => ?_
  refine thn (hb pins s1 σ H1 _ I1 q1) fun u s2 ⟨y, H2, I2, r2, q2⟩ => ?_
  exact hf v u s2 x y H2 I2 r1 r2 q2

theorem pe_op {op : Operator} {r : R2} (ho : OpR X (binaryOp op) r) (ha : PE X a ta) (hb : PE X b tb) : PE X (.BinOp a op b pos) (tOp r ta tb) := by
  intro pins s σ H Q I h
  exact wpAny_BinOp (binT ha hb I h fun v u s2 x y H2 I2 rx ry q => ho pins s2 σ H2 x y v u Q I2 rx ry q)
theorem pe_un {op : UnaryOp} {r : V → Hp → VK → Prop} (ho : UnR X (unaryOp op) r) (ha : PE X a ta) : PE X (.UnaryOp op a pos) (tUn r ta) := by
  intro pins s σ H Q I h
  exact UnaryOp_ (thn (ha pins s σ H _ I h) fun v s1 ⟨x, H1, I1, r1, q1⟩ => ho pins s1 σ H1 x v Q I1 r1 q1)
/-! ### ints -/
theorem opI {f : Value → Value → Sem Value} {C : Int → Int → Prop} {g : Int → Int → Int}
    (rule : ∀ (i j : Int) (t u : Tok) (s : Shared) (Q : Value → Shared → Prop) (E : Value → Shared → Prop), C i j → Q (.int (g i j) s.toks) { s with toks := s.toks + 1 } → wpAny (model X.prog X.w) X.A (f (.int i t) (.int j u)) Q E s) :
    OpR X f (rI C fun i j => .int (g i j)) := by
  intro pins s σ H x y v u Q I rx ry h
  obtain ⟨i, j, rfl, rfl, hc, q⟩ := h
  obtain ⟨t, rfl⟩ := rx
  obtain ⟨t', rfl⟩ := ry
  exact rule i j t t' s _ _ hc ⟨.int (g i j), H, I.tok _, ⟨_, rfl⟩, q⟩
theorem opI0 {f : Value → Value → Sem Value} {g : Int → Int → Int}
    (rule : ∀ (i j : Int) (t u : Tok) (s : Shared) (Q : Value → Shared → Prop) (E : Value → Shared → Prop), Q (.int (g i j) s.toks) { s with toks := s.toks + 1 } → wpAny (model X.prog X.w) X.A (f (.int i t) (.int j u)) Q E s) :
    OpR X f (rI0 fun i j => .int (g i j)) := by
  intro pins s σ H x y v u Q I rx ry h
  obtain ⟨i, j, rfl, rfl, q⟩ := h
  obtain ⟨t, rfl⟩ := rx
  obtain ⟨t', rfl⟩ := ry
  exact rule i j t t' s _ _ ⟨.int (g i j), H, I.tok _, ⟨_, rfl⟩, q⟩
theorem opB0 {f : Value → Value → Sem Value} {g : Int → Int → Bool}
    (rule : ∀ (i j : Int) (t u : Tok) (s : Shared) (Q : Value → Shared → Prop) (E : Value → Shared → Prop), Q (.bool (g i j)) s → wpAny (model X.prog X.w) X.A (f (.int i t) (.int j u)) Q E s) :
    OpR X f (rI0 fun i j => .bl (g i j)) := by
  intro pins s σ H x y v u Q I rx ry h
  obtain ⟨i, j, rfl, rfl, q⟩ := h
  obtain ⟨t, rfl⟩ := rx
  obtain ⟨t', rfl⟩ := ry
  exact rule i j t t' s _ _ ⟨.bl (g i j), H, I, rfl, q⟩

def CPow (i j : Int) : Prop := 0 ≤ j ∧ j ≤ 1000000 ∧ i.natAbs < 2 ^ 64
def CMul (i j : Int) : Prop := (-(2 ^ 64) < i ∧ i < 2 ^ 64) ∨ (-(2 ^ 64) < j ∧ j < 2 ^ 64)
theorem CMul.ok {i j : Int} (h : CMul i j) : IntMulOk i j := by
  rcases h with ⟨h1, h2⟩ | ⟨h1, h2⟩
  · exact .of_left (intBits_le_64 h1 h2)
  · exact .of_right (intBits_le_64 h1 h2)
theorem op_add : OpR X (binaryOp .Add) (rI0 fun i j => .int (i + j)) := opI0 fun _ _ _ _ _ _ _ q => add_int q
theorem op_sub : OpR X (binaryOp .Sub) (rI0 fun i j => .int (i - j)) := opI0 fun _ _ _ _ _ _ _ q => sub_int q
/-- % by a positive divisor of any size -/
theorem op_mod : OpR X (binaryOp .Mod) (rI (fun _ j => 0 < j) fun i j => .int (i % j)) := opI fun i j _ _ _ _ _ hc q => by
  have h1 : (0 : Int) < j := hc
  exact mod_int' (by omega) (by rw [Int.fmod_eq_emod_of_nonneg i (by omega)]; exact q)
theorem op_pow : OpR X (binaryOp .Pow) (rI CPow fun i j => .int (i ^ j.toNat)) := opI fun _ _ _ _ _ _ _ hc q => pow_int_small hc.1 hc.2.1 hc.2.2 q
theorem unI {f : Value → Sem Value} {g : Int → Int}
    (rule : ∀ (i : Int) (t : Tok) (s : Shared) (Q : Value → Shared → Prop) (E : Value → Shared → Prop), Q (.int (g i) s.toks) { s with toks := s.toks + 1 } → wpAny (model X.prog X.w) X.A (f (.int i t)) Q E s) :
    UnR X f (rU fun i => .int (g i)) := by
  intro pins s σ H x v Q I rx h
  obtain ⟨i, rfl, q⟩ := h
  obtain ⟨t, rfl⟩ := rx
  exact rule i t s _ _ ⟨.int (g i), H, I.tok _, ⟨_, rfl⟩, q⟩
theorem un_neg : UnR X (unaryOp .USub) (rU fun i => .int (-i)) := unI fun _ _ _ _ _ q => neg_int q
/-! ### bools among ints: n += (a < b) -/
end

/-! ### comparisons -/
/-- the scalars that == tells apart as data does -/
def scal : V → V → Bool
  | .non, .non => true | .non, .int _ => true | .int _, .non => true | .non, .bl _ => true | .bl _, .non => true | .non, .str _ => true | .str _, .non => true
  | .int _, .int _ => true | .bl _, .bl _ => true | .str _, .str _ => true | .byt _, .byt _ => true
  | .int _, .str _ => true | .str _, .int _ => true | .bl _, .str _ => true | .str _, .bl _ => true
  | _, _ => false
def rEq : R2 := fun x y H Q => scal x y = true ∧ Q (.bl (decide (x = y))) H
def rNe : R2 := fun x y H Q => scal x y = true ∧ Q (.bl (!decide (x = y))) H

theorem dec_int {i j : Int} : decide (V.int i = V.int j) = (i == j) := by
  rw [Bool.eq_iff_iff]
  simp
theorem dec_bl {i j : Bool} : decide (V.bl i = V.bl j) = (i == j) := by
  rw [Bool.eq_iff_iff]
  simp
theorem dec_str {i j : Str} : decide (V.str i = V.str j) = (i == j) := by
  rw [Bool.eq_iff_iff]
  simp
theorem dec_byt {i j : Array UInt8} : decide (V.byt i = V.byt j) = (i.toList == j.toList) := by
  rw [Bool.eq_iff_iff]
  cases i
  cases j
  simp

section
variable {X : Cx} {a b c : Expr} {ta tb tc : TE} {pos : Pos}
theorem fin_bl {pins : List (Addr × Obj)} {σ : St} {H : Hp} {s : Shared} {Q : VK} {k k' : Bool} (I : Inv X pins σ H s) (q : Q (.bl k) H) (e : k = k') : EP X pins σ Q (.bool k') s := by
  subst e
  exact ⟨.bl k, H, I, rfl, q⟩
theorem op_eq : OpR X (compareOp .Eq) rEq := by
  intro pins s σ H x y v u Q I rx ry h
  obtain ⟨hs, q⟩ := h
  cases x with
  | non =>
    cases rx
    cases y with
    | non => cases ry; exact PySem.EqNone.eq_none_none (fin_bl I q (by simp))
    | bl j => cases ry; exact PySem.EqNone.eq_none_bool (fin_bl I q (by simp))
    | int j => obtain ⟨t', rfl⟩ := ry; exact PySem.EqNone.eq_none_int (fin_bl I q (by simp))
    | str j => obtain ⟨t', rfl⟩ := ry; exact PySem.EqNone.eq_none_str (fin_bl I q (by simp))
    | _ => exact absurd (show false = true from hs) Bool.false_ne_true
  | bl i =>
    cases rx
    cases y with
    | non => cases ry; exact PySem.EqNone.eq_bool_none (fin_bl I q (by simp))
    | bl j => cases ry; exact eq_bool (fin_bl I q dec_bl)
    | str j => obtain ⟨t', rfl⟩ := ry; exact PySem.EqMixed.eq_bool_str (fin_bl I q (by simp))
    | _ => exact absurd (show false = true from hs) Bool.false_ne_true
  | int i =>
    obtain ⟨t, rfl⟩ := rx
    cases y with
    | non => cases ry; exact PySem.EqNone.eq_int_none (fin_bl I q (by simp))
    | int j => obtain ⟨t', rfl⟩ := ry; exact eq_int (fin_bl I q dec_int)
    | str j => obtain ⟨t', rfl⟩ := ry; exact PySem.EqMixed.eq_int_str (fin_bl I q (by simp))
    | _ => exact absurd (show false = true from hs) Bool.false_ne_true
  | str i =>
    obtain ⟨t, rfl⟩ := rx
    cases y with
    | non => cases ry; exact PySem.EqNone.eq_str_none (fin_bl I q (by simp))
    | bl j => cases ry; exact PySem.EqMixed.eq_str_bool (fin_bl I q (by simp))
    | int j => obtain ⟨t', rfl⟩ := ry; exact PySem.EqMixed.eq_str_int (fin_bl I q (by simp))
    | str j => obtain ⟨t', rfl⟩ := ry; exact eq_str (fin_bl I q dec_str)
    | _ => exact absurd (show false = true from hs) Bool.false_ne_true
  | byt i =>
    obtain ⟨t, rfl⟩ := rx
    cases y with
    | byt j => obtain ⟨t', rfl⟩ := ry; exact PySem.W.eq_bytes (fin_bl I q dec_byt)
    | _ => exact absurd (show false = true from hs) Bool.false_ne_true
  | _ => cases y <;> exact absurd (show false = true from hs) Bool.false_ne_true
theorem op_ne : OpR X (compareOp .NotEq) rNe := by
  intro pins s σ H x y v u Q I rx ry h
  obtain ⟨hs, q⟩ := h
  cases x with
  | non =>
    cases rx
    cases y with
    | non => cases ry; exact PySem.EqNone.ne_none_none (fin_bl I q (by simp))
    | bl j => cases ry; exact PySem.EqNone.ne_none_bool (fin_bl I q (by simp))
    | int j => obtain ⟨t', rfl⟩ := ry; exact PySem.EqNone.ne_none_int (fin_bl I q (by simp))
    | str j => obtain ⟨t', rfl⟩ := ry; exact PySem.EqNone.ne_none_str (fin_bl I q (by simp))
    | _ => exact absurd (show false = true from hs) Bool.false_ne_true
  | bl i =>
    cases rx
    cases y with
    | non => cases ry; exact PySem.EqNone.ne_bool_none (fin_bl I q (by simp))
    | bl j => cases ry; exact ne_bool (fin_bl I q (congrArg not dec_bl))
    | str j => obtain ⟨t', rfl⟩ := ry; exact PySem.EqMixed.ne_bool_str (fin_bl I q (by simp))
    | _ => exact absurd (show false = true from hs) Bool.false_ne_true
  | int i =>
    obtain ⟨t, rfl⟩ := rx
    cases y with
    | non => cases ry; exact PySem.EqNone.ne_int_none (fin_bl I q (by simp))
    | int j => obtain ⟨t', rfl⟩ := ry; exact ne_int (fin_bl I q (congrArg not dec_int))
    | str j => obtain ⟨t', rfl⟩ := ry; exact PySem.EqMixed.ne_int_str (fin_bl I q (by simp))
    | _ => exact absurd (show false = true from hs) Bool.false_ne_true
  | str i =>
    obtain ⟨t, rfl⟩ := rx
    cases y with
    | non => cases ry; exact PySem.EqNone.ne_str_none (fin_bl I q (by simp))
    | bl j => cases ry; exact PySem.EqMixed.ne_str_bool (fin_bl I q (by simp))
    | int j => obtain ⟨t', rfl⟩ := ry; exact PySem.EqMixed.ne_str_int (fin_bl I q (by simp))
    | str j => obtain ⟨t', rfl⟩ := ry; exact ne_str (fin_bl I q (congrArg not dec_str))
    | _ => exact absurd (show false = true from hs) Bool.false_ne_true
  | byt i =>
    obtain ⟨t, rfl⟩ := rx
    cases y with
    | byt j => obtain ⟨t', rfl⟩ := ry; exact PySem.W.ne_bytes (fin_bl I q (congrArg not dec_byt))
    | _ => exact absurd (show false = true from hs) Bool.false_ne_true
  | _ => cases y <;> exact absurd (show false = true from hs) Bool.false_ne_true

theorem op_lt : OpR X (compareOp .Lt) (rI0 fun i j => .bl (decide (i < j))) := opB0 fun _ _ _ _ _ _ _ q => lt_int q
theorem op_le : OpR X (compareOp .LtE) (rI0 fun i j => .bl (decide (i ≤ j))) := opB0 fun _ _ _ _ _ _ _ q => le_int q
theorem op_gt : OpR X (compareOp .Gt) (rI0 fun i j => .bl (decide (j < i))) := opB0 fun _ _ _ _ _ _ _ q => gt_int q
theorem op_ge : OpR X (compareOp .GtE) (rI0 fun i j => .bl (decide (j ≤ i))) := opB0 fun _ _ _ _ _ _ _ q => ge_int q
/-- is None, is not None: the right side a value none -/
theorem op_isN : OpR X (compareOp .Is) (fun x y H Q => y = .non ∧ Q (.bl (decide (x = .non))) H) := by
  intro pins s σ H x y v u Q I rx ry h
  obtain ⟨rfl, q⟩ := h
  cases ry
  refine is_none_gen (fin_bl I q ?_)
  cases x <;> first
    | (cases rx; rfl)
    | (obtain ⟨t, rfl⟩ := rx; rfl)
/-- two rules for one operation: by cases -/
theorem OpR.or {f : Value → Value → Sem Value} {r r' : R2} (h : OpR X f r) (h' : OpR X f r') : OpR X f (fun x y H Q => r x y H Q ∨ r' x y H Q) := by
  intro pins s σ H x y v u Q I rx ry q
  rcases q with q | q
  · exact h pins s σ H x y v u Q I rx ry q
  · exact h' pins s σ H x y v u Q I rx ry q

theorem nomark (b : Expr) {op : CmpOp} (h : op ≠ .In := by decide) (h2 : op ≠ .NotIn := by decide) : behindInMarks op b = false := by
  have e1 : (op == CmpOp.In) = false := by cases op <;> first | rfl | exact absurd rfl h
  have e2 : (op == CmpOp.NotIn) = false := by cases op <;> first | rfl | exact absurd rfl h2
  cases b <;> simp [behindInMarks, e1, e2]
/-- a comparison as a value; hm: nomark b, or (for in, not in) by with_unfolding_all rfl -/
theorem pe_cmpR {op : CmpOp} {r : R2} (ho : OpR X (compareOp op) r) (ha : PE X a ta) (hb : PE X b tb) (hm : behindInMarks op b = false) : PE X (.Compare a [op] [b] pos) (tOp r ta tb) := by
  intro pins s σ H Q I h
  exact wpAny_Compare1 (binT ha hb I h fun v u s2 x y H2 I2 rx ry q => ho pins s2 σ H2 x y v u Q I2 rx ry q) hm
/-- a reading of a value as a test -/
def tTest (t : TE) : TT := fun σ H Q => t σ H fun x H' => ∃ k, x = .bl k ∧ Q k H'
theorem pt_cmpR {op : CmpOp} {r : R2} (ho : OpR X (compareOp op) r) (ha : PE X a ta) (hb : PE X b tb) (hm : behindInMarks op b = false) : PT X (.Compare a [op] [b] pos) (tTest (tOp r ta tb)) := by
  intro pins s σ H Q I h
  refine wpAny_isTrue_Compare1 (thn (ha pins s σ H _ I h) fun v s1 ⟨x, H1, I1, r1, q1⟩ => thn (hb pins s1 σ H1 _ I1 q1) fun u s2 ⟨y, H2, I2, r2, q2⟩ =>
    thn (ho pins s2 σ H2 x y v u _ I2 r1 r2 q2) fun c s3 ⟨z, H3, I3, r3, k, e, q3⟩ => ?_) hm
  subst e
  cases r3
  exact wpAny_truthy_bool ⟨H3, I3, q3⟩
/-- a op1 b op2 c -/
def tChain (r r' : R2) (ta tb tc : TE) : TE := fun σ H Q => ta σ H fun x H1 => tb σ H1 fun y H2 => r x y H2 fun z H3 => ∃ k, z = .bl k ∧
  (if k = true then tc σ H3 fun w' H4 => r' y w' H4 Q else Q (.bl false) H3)
theorem pe_chain {op op' : CmpOp} {r r' : R2} (ho : OpR X (compareOp op) r) (ho' : OpR X (compareOp op') r') (ha : PE X a ta) (hb : PE X b tb) (hc : PE X c tc)
    (hm : lastMarks [op, op'] [b, c] = false := by with_unfolding_all rfl) : PE X (.Compare a [op, op'] [b, c] pos) (tChain r r' ta tb tc) := by
  intro pins s σ H Q I h
  refine Compare_chain (thn (ha pins s σ H _ I h) fun v s1 ⟨x, H1, I1, r1, q1⟩ => chain_link (thn (hb pins s1 σ H1 _ I1 q1) fun u s2 ⟨y, H2, I2, r2, q2⟩ =>
    thn (ho pins s2 σ H2 x y v u _ I2 r1 r2 q2) fun d s3 ⟨z, H3, I3, r3, k, e, q3⟩ => ?_)) hm
  subst e
  cases r3
  refine wpAny_truthy_bool ?_
  cases k with
  | false => exact ite_ff ⟨.bl false, H3, I3, rfl, q3⟩
  | true => exact ite_tt (chain_last (thn (hc pins s3 σ H3 _ I3 q3) fun w' s4 ⟨z', H4, I4, r4, q4⟩ => ho' pins s4 σ H4 y z' u w' Q I4 r2 r4 q4))
theorem pt_chain {op op' : CmpOp} {r r' : R2} (ho : OpR X (compareOp op) r) (ho' : OpR X (compareOp op') r') (ha : PE X a ta) (hb : PE X b tb) (hc : PE X c tc)
    (hm : lastMarks [op, op'] [b, c] = false := by with_unfolding_all rfl) : PT X (.Compare a [op, op'] [b, c] pos) (tTest (tChain r r' ta tb tc)) := by
  intro pins s σ H Q I h
  refine isTrue_chain (thn (ha pins s σ H _ I h) fun v s1 ⟨x, H1, I1, r1, q1⟩ => test_link (thn (hb pins s1 σ H1 _ I1 q1) fun u s2 ⟨y, H2, I2, r2, q2⟩ =>
    thn (ho pins s2 σ H2 x y v u _ I2 r1 r2 q2) fun d s3 ⟨z, H3, I3, r3, k, e, q3⟩ => ?_)) hm
  subst e
  cases r3
  refine wpAny_truthy_bool ?_
  cases k with
  | false =>
    obtain ⟨k', e', q'⟩ := q3
    cases e'
    exact ite_ff ⟨H3, I3, q'⟩
  | true =>
    refine ite_tt (test_last (thn (hc pins s3 σ H3 _ I3 q3) fun w' s4 ⟨z', H4, I4, r4, q4⟩ => thn (ho' pins s4 σ H4 y z' u w' _ I4 r2 r4 q4) fun d' s5 ⟨z2, H5, I5, r5, k2, e2, q5⟩ => ?_))
    subst e2
    cases r5
    exact wpAny_truthy_bool ⟨H5, I5, q5⟩

/-! ### truth -/
theorem line63 : (sizeLine : Nat) < 2 ^ 63 := by rw [sizeLine_eq]; decide
/-! ### strs and bytes -/
theorem op_add_str : OpR X (binaryOp .Add) (fun x y H Q => ∃ i j, x = .str i ∧ y = .str j ∧ i.length + j.length ≤ sizeLine ∧ Q (.str (i ++ j)) H) := by
  intro pins s σ H x y v u Q I rx ry h
  obtain ⟨i, j, rfl, rfl, hz, q⟩ := h
  obtain ⟨t, rfl⟩ := rx
  obtain ⟨t', rfl⟩ := ry
  exact add_str (fun t' tk => ⟨.str (i ++ j), H, I.tok _, ⟨_, rfl⟩, q⟩) hz
/-! ### scalar builtins, by CallR -/
theorem vals1 {x : V} {us : List Value} (r : Vals [x] us) : ∃ u, us = [u] ∧ RelV x u := by
  cases r with
  | cons r1 r2 => cases r2; exact ⟨_, rfl, r1⟩
theorem vals2 {x y : V} {us : List Value} (r : Vals [x, y] us) : ∃ u w', us = [u, w'] ∧ RelV x u ∧ RelV y w' := by
  cases r with
  | cons r1 r2 =>
    cases r2 with
    | cons r3 r4 => cases r4; exact ⟨_, _, rfl, r1, r3⟩
theorem call_abs : CallR X (.builtin "abs") (fun xs H Q => ∃ i, xs = [.int i] ∧ Q (.int (if i < 0 then -i else i)) H) := by
  intro pins s σ H xs us Q I r h
  obtain ⟨i, rfl, q⟩ := h
  obtain ⟨u, rfl, t, rfl⟩ := vals1 r
  exact call_abs_int fun u tk => ⟨.int (if i < 0 then -i else i), H, I.tok _, ⟨_, rfl⟩, q⟩
theorem call_max2 (hc : X.calm = true) : CallR X (.builtin "max") (fun xs H Q => ∃ i j, xs = [.int i, .int j] ∧ Q (.int (if j > i then j else i)) H) := by
  intro pins s σ H xs us Q I r h
  obtain ⟨i, j, rfl, q⟩ := h
  obtain ⟨u, w', rfl, ⟨t, rfl⟩, ⟨t', rfl⟩⟩ := vals2 r
  refine max_two_ints (I.ok.hd hc) fun h' tk k => ⟨_, H, I.kept k, ?_, q⟩
  by_cases hj : j > i
  · rw [if_pos hj, if_pos hj]; exact ⟨_, rfl⟩
  · rw [if_neg hj, if_neg hj]; exact ⟨_, rfl⟩
theorem call_min2 (hc : X.calm = true) : CallR X (.builtin "min") (fun xs H Q => ∃ i j, xs = [.int i, .int j] ∧ Q (.int (if j < i then j else i)) H) := by
  intro pins s σ H xs us Q I r h
  obtain ⟨i, j, rfl, q⟩ := h
  obtain ⟨u, w', rfl, ⟨t, rfl⟩, ⟨t', rfl⟩⟩ := vals2 r
  refine min_two_ints (I.ok.hd hc) fun h' tk k => ⟨_, H, I.kept k, ?_, q⟩
  by_cases hj : j < i
  · rw [if_pos hj, if_pos hj]; exact ⟨_, rfl⟩
  · rw [if_neg hj, if_neg hj]; exact ⟨_, rfl⟩
/-- len of a str, a bytes, a list, a tuple -/
def LenV (K : PySem.W.Frag) (x : V) (H : Hp) (n : Nat) : Prop :=
  match x with
  | .str y => y.length ≤ sizeLine ∧ n = y.length
  | .byt y => y.size ≤ sizeLine ∧ n = y.size
  | .ref p => (∃ xs, SqL K H p xs ∧ n = xs.length) ∨ ∃ xs, SqT K H p xs ∧ n = xs.length
  | _ => False
theorem call_len : CallR X (.builtin "len") (fun xs H Q => ∃ x n, xs = [x] ∧ LenV X.K x H n ∧ Q (.int n) H) := by
  intro pins s σ H xs us Q I r h
  obtain ⟨x, n, rfl, e, q⟩ := h
  obtain ⟨u, rfl, rx⟩ := vals1 r
  have hl := line63
  have hs : sizeLine = 16777216 := sizeLine_eq
  cases x with
  | str y =>
    obtain ⟨t, rfl⟩ := rx
    obtain ⟨hy, e'⟩ : y.length ≤ sizeLine ∧ n = y.length := e
    subst e'
    exact len_str (by omega) ⟨.int _, H, I.tok _, ⟨_, rfl⟩, q⟩
  | byt y =>
    obtain ⟨t, rfl⟩ := rx
    obtain ⟨hy, e'⟩ : y.size ≤ sizeLine ∧ n = y.size := e
    subst e'
    exact PySem.W.len_bytes (by omega) ⟨.int _, H, I.tok _, ⟨_, rfl⟩, q⟩
  | ref p =>
    cases rx
    have e' : (∃ xs, SqL X.K H p xs ∧ n = xs.length) ∨ ∃ xs, SqT X.K H p xs ∧ n = xs.length := e
    rcases e' with ⟨xs, hx, e'⟩ | ⟨xs, hx, e'⟩
    · subst e'
      obtain ⟨its, r', pl, hz⟩ := I.list hx
      have hlen := r'.length
      exact Calls.call_len_list pl.isList (by simp only [List.size_toArray]; omega) ⟨.int xs.length, H, I.tok _, ⟨_, by simp only [List.size_toArray]; rw [hlen]⟩, q⟩
    · subst e'
      obtain ⟨its, r', pl, hz⟩ := I.tuple hx
      have hlen := r'.length
      exact len_tuple pl (by simp only [List.size_toArray]; omega) ⟨.int xs.length, H, I.tok _, ⟨_, by simp only [List.size_toArray]; rw [hlen]⟩, q⟩
  | _ => exact (show False from e).elim
end
end L2

namespace L2
open PySem PySem.Spec PyProof.Rows

/-! ### an instance, its attributes a map -/
structure ObjM (h : Heap) (x dx C : Addr) (mA : Str → Option Value) : Prop where
  obj : h.get? x = some (PySem.W.instObj C dx)
  ns : h.Ns1 dx mA
  ne : dx ≠ x

theorem lookIn_ns {h : Heap} {dx : Addr} {mA : Str → Option Value} (n : h.Ns1 dx mA) : ∃ od, h.get? dx = some od ∧ ∀ name, PySem.W.lookIn name od = some (mA name) := by
  obtain ⟨o, es, ep, ho, hd, hk, _, hm⟩ := n
  refine ⟨o, ho, fun name => ?_⟩
  have e := hm name
  unfold nsFind findBy at e
  rw [← Array.find?_toList] at e
  unfold PySem.W.lookIn
  rw [hd]
  dsimp only
  split
  · rename_i y q
    rw [q] at e
    exact congrArg some e
  · rename_i q
    rw [q] at e
    have a : es.toList.any (·.refKey) = false := by
      rw [List.any_eq_false]
      intro y hy
      obtain ⟨z, t, hkey⟩ := hk y (Array.mem_toList_iff.mp hy)
      simp [DictEntry.refKey, hkey]
    have a' : ¬ es.toList.any (·.refKey) = true := by rw [a]; exact Bool.false_ne_true
    rw [if_neg a']
    exact congrArg some e

theorem ObjM.look {h : Heap} {x dx C : Addr} {mA : Str → Option Value} (I : ObjM h x dx C mA) : ∃ od, PySem.W.InstAt h x (PySem.W.instObj C dx) C (some od) ∧ ∀ name, PySem.W.lookIn name od = some (mA name) :=
  let ⟨od, ho, hl⟩ := lookIn_ns I.ns
  ⟨od, ⟨I.obj, rfl, rfl, ho⟩, hl⟩

section
variable {prog : Program} {w : World} {A : Around} {E : Value → Shared → Prop} {s : Shared} {K : PySem.W.Frag} {x dx C f : Addr} {mA : Str → Option Value} {name : Str} {v : Value}

theorem get_map {expr : Bool} {Q : Value → Shared → Prop} (X : K.In s.heap) (I : ObjM s.heap x dx C mA) (hg : PySem.W.plainGet K C name = true) (hh : PySem.W.hasDictIn K C = true)
    (ha : PySem.W.findIn K (.ref C) name = some none) (hv : mA name = some v) (hv' : PySem.W.handedIn v = true) (h : Q v { s with toks := s.toks + 1 }) :
    wpAny (model prog w) A (getAttr (.ref x) name expr) Q E s := by
  obtain ⟨od, J, hl⟩ := I.look
  exact PySem.W.get_value X J (PySem.W.plainGet_of hg).1 (PySem.W.findObj_own hh ha rfl (by rw [hl, hv])) hv' h

theorem get_meth {pl : Sem Bool} {Q : Value × List Value → Shared → Prop} (X : K.In s.heap) (I : ObjM s.heap x dx C mA) (hg : PySem.W.plainGet K C name = true)
    (hf : PySem.W.findIn K (.ref C) name = some (some (.ref f))) (ht : PySem.W.isFn K (.ref f) = true) (hv : mA name = none) (h : Q (.ref f, [.ref x]) s) :
    wpAny (model prog w) A (getMethod (.ref x) name pl) Q E s := by
  obtain ⟨od, J, hl⟩ := I.look
  exact PySem.W.method_fn X J (PySem.W.plainGet_of hg).1 (PySem.W.plainGet_of hg).2 hf (beq_iff_eq.mp ht) (by show (PySem.W.lookIn name od).map (·.isSome) = some false; rw [hl, hv]; rfl) h

theorem set_map {ns : List Str} {Q : Unit → Shared → Prop} (X : K.In s.heap) (I : ObjM s.heap x dx C mA)
    (hs : PySem.W.findIn K (.ref C) "__setattr__" = some (some (.builtin "object.__setattr__"))) (hp : PySem.W.plainOver K C = true) (ht : PySem.W.takerIn K C name = some none) (hh : PySem.W.hasDictIn K C = true)
    (hw : PySem.Within mA ns) (hsz : ns.length ≤ sizeLine)
    (h : ∀ h', ObjM h' x dx C (fun y => if y = name then some v else mA y) → Heap.SameBut dx s.heap h' → Q () { s with heap := h', toks := s.toks + 2 }) :
    wpAny (model prog w) A (setAttr (.ref x) name v) Q E s := by
  obtain ⟨od, J, hl⟩ := I.look
  refine PySem.W.set_plain X J hs (PySem.W.osa_open (s := { s with toks := s.toks + 1 }) (r := none) X J hp ht fun b => ?_)
  obtain ⟨cd, hc, hd'⟩ := PySem.W.any_some hh
  have hx : s.heap.get? x = some ⟨.ref C, some dx, .plain, #[]⟩ := I.obj
  refine wpAny_bind (wpAny_pure (wpAny_bind (wpAny_bind (wpAny_loadPart hx (wpAny_bind (PySem.W.Looks.here (s := { s with toks := s.toks + 1 }) (PySem.W.looks_clsIn X hc) ?_))))))
  rw [hd']
  refine wpAny_pure (a := some dx) (wpAny_bind (wpAny_pure (wpAny_bind ?_)))
  refine wpAny_nsSet1 (s := { s with toks := s.toks + 1 }) I.ns fun h' hn2 hs2 => ?_
  obtain ⟨oD, esD, epD, hoD, hdD, hcD⟩ := hn2.count (PySem.Within.cons name v hw)
  refine wpAny_bind (wpAny_lookBehind hoD (by rw [hdD]; exact pastItsLine_dict (Nat.le_trans hcD (by rw [List.length_cons]; omega))) ?_)
  exact wpAny_pure (h _ ⟨(hs2.2 _ (Ne.symm I.ne)).trans I.obj, hn2, I.ne⟩ hs2)

/-- C(..): the dict at the heap's end, the instance behind it; then its __init__ -/
theorem make_map {R : Result → Shared → Prop} {vs : List Value} {kw : List (Str × Value)} (X : K.In s.heap) (hm : PySem.W.makesIn K C = true)
    (hi : PySem.W.findIn K (.ref C) "__init__" = some (some (.ref f))) (hf : PySem.W.typeIn K (.ref f) = some (.type "function"))
    (h : codeAny (model prog w) (A.under (.builtin "type.__call__" ⟨.ref C :: vs, kw⟩)) (.call (.ref f) ⟨.ref (s.heap.objs.size + 1) :: vs, kw⟩) (PySem.W.InitBack (s.heap.objs.size + 1) R)
      { s with heap := (s.heap.push PySem.W.emptyDict).push (PySem.W.instObj C s.heap.objs.size) }) :
    codeAny (model prog w) A (.call (.ref C) ⟨vs, kw⟩) R s := by
  obtain ⟨hh, g, d, t, os⟩ := s
  exact PySem.W.make_core (PySem.W.makes_of X hm) (PySem.W.looks_findIn X hi) (fun self => PySem.W.bind_fn X self hf) (.inl rfl) h
end

/-! ### the attributes as a list of pairs -/
def putF (f : Str) (v : V) : List (Str × V) → List (Str × V)
  | [] => [(f, v)]
  | (g, x) :: r => if g = f then (g, v) :: r else (g, x) :: putF f v r
theorem lookup_putF (f g : Str) (v : V) : ∀ fs : List (Str × V), (putF f v fs).lookup g = if g = f then some v else fs.lookup g
  | [] => by
    show List.lookup g [(f, v)] = _
    by_cases h : g = f
    · have hb : (g == f) = true := beq_iff_eq.mpr h
      simp only [List.lookup, hb, if_pos h]
    · have hb : (g == f) = false := beq_eq_false_iff_ne.mpr h
      simp only [List.lookup, hb, if_neg h]
  | (k, x) :: r => by
    have ih := lookup_putF f g v r
    rw [show putF f v ((k, x) :: r) = (if k = f then (k, v) :: r else (k, x) :: putF f v r) from rfl]
    by_cases hk : k = f
    · rw [if_pos hk]
      by_cases h : g = k
      · have hb : (g == k) = true := beq_iff_eq.mpr h
        simp only [List.lookup, hb, if_pos (h.trans hk)]
      · have hb : (g == k) = false := beq_eq_false_iff_ne.mpr h
        simp only [List.lookup, hb, if_neg (fun e : g = f => h (e.trans hk.symm))]
    · rw [if_neg hk]
      by_cases h : g = k
      · have hb : (g == k) = true := beq_iff_eq.mpr h
        simp only [List.lookup, hb, if_neg (fun e : g = f => hk (h.symm.trans e))]
      · have hb : (g == k) = false := beq_eq_false_iff_ne.mpr h
        simp only [List.lookup, hb]
        exact ih
theorem keys_putF (f : Str) (v : V) : ∀ fs : List (Str × V), f ∈ (putF f v fs).map (·.1) ∧ ∀ g, g ∈ fs.map (·.1) → g ∈ (putF f v fs).map (·.1)
  | [] => ⟨by simp [putF], fun g h => by simp at h⟩
  | (k, x) :: r => by
    obtain ⟨i1, i2⟩ := keys_putF f v r
    rw [show putF f v ((k, x) :: r) = (if k = f then (k, v) :: r else (k, x) :: putF f v r) from rfl]
    by_cases hk : k = f
    · rw [if_pos hk]
      subst hk
      exact ⟨by simp, fun g h => by simpa using h⟩
    · rw [if_neg hk]
      refine ⟨?_, fun g h => ?_⟩
      · rw [List.map_cons]
        exact List.mem_cons_of_mem _ i1
      · rw [List.map_cons] at h ⊢
        rcases List.mem_cons.mp h with e | e
        · exact List.mem_cons.mpr (.inl e)
        · exact List.mem_cons_of_mem _ (i2 g e)
theorem length_putF (f : Str) (v : V) : ∀ fs : List (Str × V), (putF f v fs).length ≤ fs.length + 1
  | [] => by simp [putF]
  | (k, x) :: r => by
    have ih := length_putF f v r
    rw [show putF f v ((k, x) :: r) = (if k = f then (k, v) :: r else (k, x) :: putF f v r) from rfl]
    by_cases hk : k = f
    · rw [if_pos hk, List.length_cons, List.length_cons]; omega
    · rw [if_neg hk, List.length_cons, List.length_cons]; omega

theorem RelO.some_of {v : V} {o : Option Value} (r : RelO (some v) o) : ∃ u, o = some u ∧ RelV v u := by
  cases o with
  | none => exact (show False from r).elim
  | some u => exact ⟨u, rfl, r⟩
theorem RelO.none_of {o : Option Value} (r : RelO none o) : o = none := by
  cases o with
  | none => rfl
  | some u => exact (show False from r).elim
theorem handed_of {v : V} {u : Value} (r : RelV v u) : PySem.W.handedIn u = true := by
  cases v with
  | non => cases (show u = Value.none from r); rfl
  | bl b => cases (show u = Value.bool b from r); rfl
  | int i => obtain ⟨t, e⟩ := (show ∃ t, u = Value.int i t from r); cases e; rfl
  | str x => obtain ⟨t, e⟩ := (show ∃ t, u = Value.str x t from r); cases e; rfl
  | byt b => obtain ⟨t, e⟩ := (show ∃ t, u = Value.bytes b t from r); cases e; rfl
  | flt b => obtain ⟨t, e⟩ := (show ∃ t, u = Value.float b t from r); cases e; rfl
  | ref a => cases (show u = Value.ref a from r); rfl
  | ty n => cases (show u = Value.type n from r); rfl

section
variable {P : Program} {w : World} {H H' : Hp} {h h' : Heap} {a C dx : Addr} {fs fs' : List (Str × V)}
theorem ins_get (hok : HOk P w H h) (e : H a = some (.ins C dx fs)) : ∃ mA, ObjM h a dx C mA ∧ (∀ f, RelO (fs.lookup f) (mA f)) ∧ PySem.Within mA (fs.map (·.1)) ∧ fs.length ≤ 1000 ∧ H dx = some (.own a) := by
  obtain ⟨d, z, ne, ob, mA, n, r, q⟩ := (show ObjOk P w H h a (.ins C dx fs) from hok a _ e)
  exact ⟨mA, ⟨ob, n, ne⟩, r, q, z, d⟩
end

/-! ### what of the text a class must have -/
structure Cls (K : PySem.W.Frag) (C : Addr) : Prop where
  pg : PySem.W.plainGet K C Str.empty = true
  hd : PySem.W.hasDictIn K C = true
  po : PySem.W.plainOver K C = true
  sa : PySem.W.findIn K (.ref C) "__setattr__" = some (some (.builtin "object.__setattr__"))
theorem Cls.get {K : PySem.W.Frag} {C : Addr} (c : Cls K C) (f : Str) : PySem.W.plainGet K C f = true := c.pg
/-- no class of it has the name -/
def NoAttr (K : PySem.W.Frag) (C : Addr) (f : Str) : Prop := PySem.W.findIn K (.ref C) f = some none
theorem NoAttr.taker {K : PySem.W.Frag} {C : Addr} {f : Str} (n : NoAttr K C f) : PySem.W.takerIn K C f = some none := by
  unfold PySem.W.takerIn
  rw [show PySem.W.findIn K (.ref C) f = some none from n]
  rfl
/-- a constant of the class -/
structure Con (K : PySem.W.Frag) (C : Addr) (f : Str) (v : V) (u : Value) : Prop where
  at_ : PySem.W.findIn K (.ref C) f = some (some u)
  rel : RelV v u
  get : PySem.W.specialIn K u "__get__" = some none
  cp : PySem.W.copiedNames.contains f = false
/-- a method: a plain def of the class or of one above it -/
structure Meth (K : PySem.W.Frag) (C : Addr) (m : Str) (f : Addr) : Prop where
  at_ : PySem.W.findIn K (.ref C) m = some (some (.ref f))
  fn : PySem.W.isFn K (.ref f) = true
  kp : PySem.W.keepIn K (.ref f) = true

section
variable {X : Cx} {pins : List (Addr × Obj)} {σ : St} {H : Hp} {s : Shared} {a C dx : Addr} {fs : List (Str × V)} {f : Str} {v : V} {A : Around} {E : Value → Shared → Prop}

theorem getattr_ok {b : Bool} {Q : Value → Shared → Prop} (I : Inv X pins σ H s) (e : H a = some (.ins C dx fs)) (c : Cls X.K C) (n : NoAttr X.K C f) (l : fs.lookup f = some v)
    (h : ∀ u s', Inv X pins σ H s' → RelV v u → Q u s') : wpAny (model X.prog X.w) A (getAttr (.ref a) f b) Q E s := by
  obtain ⟨mA, O, r, _, _, _⟩ := ins_get I.hok e
  obtain ⟨u, hu, ru⟩ := RelO.some_of (v := v) (o := mA f) (by rw [← l]; exact r f)
  exact get_map I.kIn O (c.get f) c.hd n hu (handed_of ru) (h u _ (I.tok _) ru)

theorem getmeth_ok {m : Str} {g : Addr} {pl : Sem Bool} {Q : Value × List Value → Shared → Prop} (I : Inv X pins σ H s) (e : H a = some (.ins C dx fs)) (c : Cls X.K C) (k : Meth X.K C m g) (l : fs.lookup m = none)
    (h : Q (.ref g, [.ref a]) s) : wpAny (model X.prog X.w) A (getMethod (.ref a) m pl) Q E s := by
  obtain ⟨mA, O, r, _, _, _⟩ := ins_get I.hok e
  have hn : mA m = none := RelO.none_of (by rw [← l]; exact r m)
  exact get_meth I.kIn O (c.get m) k.at_ k.fn hn h

theorem setattr_ok {y : V} {u : Value} {Q : Unit → Shared → Prop} (I : Inv X pins σ H s) (e : H a = some (.ins C dx fs)) (c : Cls X.K C) (n : NoAttr X.K C f) (hl : fs.length < 1000) (ry : RelV y u)
    (h : ∀ s', Inv X pins σ (upd H a (.ins C dx (putF f y fs))) s' → Q () s') : wpAny (model X.prog X.w) A (setAttr (.ref a) f u) Q E s := by
  obtain ⟨mA, O, r, wi, _, ho⟩ := ins_get I.hok e
  have hz : (fs.map (·.1)).length ≤ sizeLine := by rw [List.length_map, sizeLine_eq]; omega
  refine set_map I.kIn O c.sa c.po n.taker c.hd wi hz fun h' O' sb => h _ ?_
  have hd : ∃ o, h'.get? dx = some o := let ⟨o, _, _, e', _⟩ := O'.ns; ⟨o, e'⟩
  refine I.write (x := a) (e := dx) (by rw [e]; exact True.intro) (.inr ho) (fun b q hb z => (sb.2 b hb).trans z) hd ?_
  refine ⟨by rw [upd_ne O.ne]; exact ho, ?_, O.ne, O'.obj, _, O'.ns, fun g => ?_, fun g hg => ?_⟩
  · have := length_putF f y fs; omega
  · show RelO ((putF f y fs).lookup g) (if g = f then some u else mA g)
    rw [lookup_putF]
    by_cases q : g = f
    · rw [if_pos q, if_pos q]; exact ry
    · rw [if_neg q, if_neg q]; exact r g
  · by_cases q : g = f
    · rw [q]; exact (keys_putF f y fs).1
    · refine (keys_putF f y fs).2 g (wi g fun z => hg ?_)
      show (if g = f then some u else mA g) = none
      rw [if_neg q]; exact z

/-- a new instance, tracked, without attributes -/
theorem Inv.made (I : Inv X pins σ H s) : Inv X pins σ (upd (upd H s.heap.objs.size (.own (s.heap.objs.size + 1))) (s.heap.objs.size + 1) (.ins C s.heap.objs.size []))
    { s with heap := (s.heap.push PySem.W.emptyDict).push (PySem.W.instObj C s.heap.objs.size) } := by
  have e1 : (s.heap.push PySem.W.emptyDict).get? s.heap.objs.size = some PySem.W.emptyDict := Heap.get?_push_size s.heap rfl
  have e2 : ((s.heap.push PySem.W.emptyDict).push (PySem.W.instObj C s.heap.objs.size)).get? (s.heap.objs.size + 1) = some (PySem.W.instObj C s.heap.objs.size) := by
    have := Heap.get?_push_size (s.heap.push PySem.W.emptyDict) (o := PySem.W.instObj C s.heap.objs.size) rfl
    rwa [Heap.size_push] at this
  have e3 : (s.heap.push PySem.W.emptyDict).Ns s.heap.objs.size (fun _ => none) := ⟨PySem.W.emptyDict, #[], _, e1, rfl, (fun e he => absurd he (by simp)), fun _ => rfl⟩
  have I1 := I.laid (a := s.heap.objs.size) (o := .own (s.heap.objs.size + 1)) (h' := s.heap.push PySem.W.emptyDict) (t' := s.toks) (fun b u q => Heap.get?_push_of_some _ q) (Nat.le_refl _) ⟨_, e1⟩
  refine I1.laid (a := s.heap.objs.size + 1) (o := .ins C s.heap.objs.size []) (t' := s.toks) (fun b u q => Heap.get?_push_of_some _ q) (Nat.le_of_eq (Heap.size_push _ _)) ?_
  have ne : s.heap.objs.size ≠ s.heap.objs.size + 1 := Nat.ne_of_lt (Nat.lt_succ_self _)
  refine ⟨by rw [upd_ne ne, upd_same], Nat.zero_le _, ne, e2, fun _ => none, (Heap.Ns1.of_empty e3).at fun o q => Heap.get?_push_of_some _ q, fun _ => True.intro, fun y hy => absurd rfl hy⟩

/-- e.f where nothing but the object is asked: through attributeBase (super) and the last hold -/
theorem attr_of {prog : Program} {w : World} {env : Env} {e : Expr} {f : Str} {pos : Pos} {s : Shared} {Q : Value → Shared → Prop} (hb : attributeBase e f env (eval e env) = eval e env)
    (h : wpAny (model prog w) A (eval e env) (fun o s₁ => wpAny (model prog w) A (getAttr o f true) Q E s₁) E s) : wpAny (model prog w) A (eval (.Attribute e f pos) env) Q E s :=
  Attribute_any_ h (by rw [arm_eval_Attribute, hb])
end

/-! ### readings and rules -/
/-- e.f, an attribute of the instance -/
def tFld (K : PySem.W.Frag) (ta : TE) (f : Str) : TE := fun σ H Q => ta σ H fun x H1 => ∃ a C dx fs v, x = .ref a ∧ H1 a = some (.ins C dx fs) ∧ Cls K C ∧ NoAttr K C f ∧ fs.lookup f = some v ∧ Q v H1
/-- e.f = value -/
def sFld (K : PySem.W.Frag) (ta tv : TE) (f : Str) : TS := fun D σ H => tv σ H fun y H1 => ta σ H1 fun x H2 => ∃ a C dx fs, x = .ref a ∧ H2 a = some (.ins C dx fs) ∧ Cls K C ∧ NoAttr K C f ∧ fs.length < 1000 ∧
  D.nx σ (upd H2 a (.ins C dx (putF f y fs)))
section
variable {X : Cx} {o e value : Expr} {f : Str} {pos pos' tpos : Pos} {ta tv : TE}
theorem pe_fld (he : PE X e ta) (hb : attributeBase e f X.env (eval e X.env) = eval e X.env) : PE X (.Attribute e f pos) (tFld X.K ta f) := by
  intro pins s σ H Q I h
  refine attr_of hb (thn (he pins s σ H _ I h) fun u s1 ⟨x, H1, I1, rx, a, C, dx, fs, v, ex, ea, c, n, l, q⟩ => ?_)
  subst ex
  obtain rfl : u = Value.ref a := rx
  exact getattr_ok I1 ea c n l fun u' s2 I2 ru => ⟨v, H1, I2, ru, q⟩
theorem ps_fld (ha : PE X o ta) (hv : PE X value tv) (hs : swapsWith value (some (.Attribute o f pos')) pos.line X.env = pure false) : PS X (.Assign [.Attribute o f pos'] value pos) (sFld X.K ta tv f) := by
  intro pins s σ H D I h
  refine plainObj_wpAny_Assign_Attribute (thn (hv pins s σ H _ I h) fun u s1 ⟨y, H1, I1, ry, q⟩ => thn (ha pins s1 σ H1 _ I1 q) fun ov s2 ⟨x, H2, I2, rx, a, C, dx, fs, ex, ea, c, n, l, q2⟩ => ?_) hs
  subst ex
  obtain rfl : ov = Value.ref a := rx
  exact setattr_ok I2 ea c n l ry fun s3 I3 => ⟨σ, _, I3, q2⟩
end

/-! ### isinstance -/
section
variable {X : Cx} {pins : List (Addr × Obj)} {σ : St} {H : Hp} {s : Shared} {A : Around} {E : Value → Shared → Prop} {Q : Value → Shared → Prop} {c : Value} {b : Bool}
/-- the type of a value, as the fragment's deciders take it; for an instance its class -/
inductive TyOf (K : PySem.W.Frag) (H : Hp) : V → Value → Prop where
  | non : TyOf K H .non (.type "NoneType")
  | bl (x : Bool) : TyOf K H (.bl x) (.type "bool")
  | int (i : Int) : TyOf K H (.int i) (.type "int")
  | str (x : Str) : TyOf K H (.str x) (.type "str")
  | flt (x : UInt64) : TyOf K H (.flt x) (.type "float")
  | lst {a : Addr} {xs : List V} (e : H a = some (.lst xs)) : TyOf K H (.ref a) (.type "list")
  | frz {a : Addr} {o : Obj} {xs : List V} (e : H a = some (.frz o (.lst xs))) : TyOf K H (.ref a) (.type "list")
  | tup {a : Addr} {xs : List V} (e : H a = some (.tup xs)) : TyOf K H (.ref a) (.type "tuple")
  | dK {a : Addr} {kvs : List (Key × V)} (e : H a = some (.dK kvs)) : TyOf K H (.ref a) (.type "dict")
  | dT {a : Addr} {kvs : List (List Key × V)} (e : H a = some (.dT kvs)) : TyOf K H (.ref a) (.type "dict")
  | ins {a C dx : Addr} {fs : List (Str × V)} (e : H a = some (.ins C dx fs)) (cl : Cls K C) (ha : PySem.W.findIn K (.ref C) "__class__" = some (some (.builtin "object.__class__")))
      (hn : PySem.W.specialIn K (.builtin "object.__class__") "__get__" = some (some (.builtin "getset_descriptor.__get__"))) (htk : PySem.W.takesIn K (.builtin "object.__class__") = some true)
      (hm : PySem.W.mroIn K C (.type "object") = some true) : TyOf K H (.ref a) (.ref C)
end
end L2

namespace L2
open PySem PySem.Spec PyProof.Rows

/-! ### room -/
structure Room (k : Nat) (A : Around) : Prop where
  hd : A.handled = none
  dp : A.depth + 3 * k + 5 < recursionLimit
  un : A.units + 16 * k + 200 < cLine
theorem Room.mono {j k : Nat} {A : Around} (r : Room k A) (h : j ≤ k) : Room j A := ⟨r.hd, by have := r.dp; omega, by have := r.un; omega⟩
theorem Room.deeper {k : Nat} {A : Around} (r : Room (k + 1) A) (env : Env) : Room k (A.deeper env) :=
  ⟨r.hd, by have := r.dp; show A.depth + 1 + 3 * k + 5 < _; omega, by have := r.un; show A.units + 3 + 16 * k + 200 < _; omega⟩
theorem make_depth {A : Around} {C : Addr} {us : List Value} {kw : List (Str × Value)} : (A.under (.builtin "type.__call__" ⟨.ref C :: us, kw⟩)).depth = A.depth + 1 := by
  first | rfl | simp [Around.under, Code.weight, Code.isCreation, Code.isGuard, Code.isCaller, Code.frames, Code.isFrame, guardIds]
theorem make_units {A : Around} {C : Addr} {us : List Value} {kw : List (Str × Value)} : (A.under (.builtin "type.__call__" ⟨.ref C :: us, kw⟩)).units = A.units + 1 := by
  first | rfl | simp [Around.under, Code.cUnits, Code.frames, Code.isFrame]
theorem Room.make {k : Nat} {A : Around} (r : Room (k + 1) A) (C : Addr) (us : List Value) (kw : List (Str × Value)) : Room k (A.under (.builtin "type.__call__" ⟨.ref C :: us, kw⟩)) :=
  ⟨r.hd, by have := r.dp; rw [make_depth]; omega, by have := r.un; rw [make_units]; omega⟩
theorem Room.depth {k : Nat} {A : Around} (r : Room k A) : A.depth < recursionLimit := by have := r.dp; omega
theorem Room.units {k : Nat} {A : Around} (r : Room k A) : A.units + 64 < cLine := by have := r.un; omega
/-! ### argument lists and displays -/
def tNil : TA := fun _ H Q => Q [] H
def tCons (ta : TE) (tr : TA) : TA := fun σ H Q => ta σ H fun x H1 => tr σ H1 fun xs H2 => Q (x :: xs) H2
section
variable {X : Cx} {e : Expr} {es : List Expr} {te : TE} {t : TA} {pos : Pos}
theorem pa_nil : PA X [] tNil := fun _ _ _ _ H Q I h => Calls.spliced_nil ⟨[], H, I, .nil, h⟩
theorem pa_cons (ha : PE X e te) (hr : PA X es t) (hs : starEach (e :: es) X.env = (false, eval e X.env) :: starEach es X.env := by rfl) : PA X (e :: es) (tCons te t) := by
  intro pos pins s σ H Q I h
  rw [hs]
  show wpAny _ _ (spliced ((false, eval e X.env) :: backTo pos (starEach es X.env))) _ _ s
  refine Calls.spliced_cons (thn (ha pins s σ H _ I h) fun u s1 ⟨x, H1, I1, r1, q1⟩ => ?_)
  exact thn (hr pos pins s1 σ H1 _ I1 q1) fun us s2 ⟨xs, H2, I2, r2, q2⟩ => ⟨x :: xs, H2, I2, .cons r1 r2, q2⟩

/-- a tuple, a list of written items -/
def tTup (t : TA) : TE := fun σ H Q => t σ H fun xs H1 => xs.length ≤ sizeLine ∧ ∀ p, H1 p = none → Q (.ref p) (upd H1 p (.tup xs))
def tLst (t : TA) : TE := fun σ H Q => t σ H fun xs H1 => xs.length ≤ sizeLine ∧ ∀ p, H1 p = none → Q (.ref p) (upd H1 p (.lst xs))
theorem pe_tup {x1} (h : PA X es t) : PE X (.Tuple es x1 pos) (tTup t) := by
  intro pins s σ H Q I hq
  refine wpAny_Tuple_spliced (thn (h pos pins s σ H _ I hq) fun us s1 ⟨xs, H1, I1, r, z, q⟩ => ⟨by rw [← r.length]; exact z, ?_⟩)
  have hf : H1 s1.heap.objs.size = none := I1.hok.fresh (Nat.le_refl _)
  refine ⟨.ref s1.heap.objs.size, upd H1 s1.heap.objs.size (.tup xs), I1.laid (t' := s1.toks) (fun b u e => Heap.get?_push_of_some _ e) (Nat.le_refl _) ?_, rfl, q _ hf⟩
  exact ⟨z, us, r, ⟨_, Heap.get?_push_size _ rfl, rfl, _, rfl⟩⟩
theorem pe_lst (h : PA X es t) : PE X (.List es pos) (tLst t) := by
  intro pins s σ H Q I hq
  refine wpAny_List_spliced (thn (h pos pins s σ H _ I hq) fun us s1 ⟨xs, H1, I1, r, z, q⟩ => ⟨by rw [← r.length]; exact z, ?_⟩)
  have hf : H1 s1.heap.objs.size = none := I1.hok.fresh (Nat.le_refl _)
  refine ⟨.ref s1.heap.objs.size, upd H1 s1.heap.objs.size (.lst xs), I1.laid (t' := s1.toks) (fun b u e => Heap.get?_push_of_some _ e) (Nat.le_refl _) ?_, rfl, q _ hf⟩
  exact ⟨z, us, 0, r, Heap.get?_push_size _ rfl⟩
end

/-! ### what a def promises -/
/-- a def's promise: the bound arguments in the parameters' order, the heap, the wanted end, the wanted exception -/
abbrev Sp := List V → Hp → VK → XK → Prop
/-- how an exception lies behind a call (file 08 gives it): the callers' frames, abstract heap and state ahead of the call, the wish, the exception, the state -/
abbrev CXT := List Env → Hp → Shared → XK → Value → Shared → Prop

/-- the state at a call -/
structure Env0 (P : Program) (w : World) (K : PySem.W.Frag) (mg : Str → Option Value) (base : Heap) (A : Around) (outer : List Env) (s : Shared) (H : Hp) : Prop where
  frames : A.frames = some outer
  mod : Mod K mg base
  bs : ∀ b o, base.get? b = some o → s.heap.get? b = some o ∧ H b = none
  bsz : base.objs.size ≤ s.heap.objs.size
  funs : s.heap.FunFrames base outer
  frf : ∀ b ∈ frs outer, H b = none
  hok : HOk P w H s.heap
  bare : AllBare s.gens
/-- a call's end -/
def CE (outer : List Env) (P : Program) (w : World) (H : Hp) (s : Shared) (Q : VK) (u : Value) (s' : Shared) : Prop :=
  ∃ v H', s'.os = s.os ∧ AllBare s'.gens ∧ Un (frs outer) [] H H' s.heap s'.heap ∧ HOk P w H' s'.heap ∧ RelV v u ∧ Q v H'
def CR (CX : CXT) (outer : List Env) (P : Program) (w : World) (H : Hp) (s : Shared) (Q : VK) (E : XK) (r : Result) (s' : Shared) : Prop :=
  match r with
  | .ok (.ret u) => CE outer P w H s Q u s'
  | .ok _ => False
  | .error e => CX outer H s E e s'
structure FnOk (P : Program) (w : World) (K : PySem.W.Frag) (mg : Str → Option Value) (base : Heap) (CX : CXT) (k : Nat) (f : Addr) (fd : FuncData) (ps : List Str) (sp : Sp) : Prop where
  len : ∀ vs H Q E, sp vs H Q E → vs.length = ps.length
  run : ∀ (A : Around) (outer : List Env) (s : Shared) (H : Hp) (args : Args) (us : List Value) (vs : List V) (Q : VK) (E : XK), Room k A → Env0 P w K mg base A outer s H → BindsTo s fd args (ps.zip us) → Vals vs us → sp vs H Q E →
    codeAny (model P w) A (.call (.ref f) args) (CR CX outer P w H s Q E) s
theorem FnOk.mono {P : Program} {w : World} {K : PySem.W.Frag} {mg : Str → Option Value} {base : Heap} {CX : CXT} {j k : Nat} {f : Addr} {fd : FuncData} {ps : List Str} {sp : Sp} (F : FnOk P w K mg base CX j f fd ps sp) (h : j ≤ k) :
    FnOk P w K mg base CX k f fd ps sp := ⟨F.len, fun A outer s H args us vs Q E hr => F.run A outer s H args us vs Q E (hr.mono h)⟩
/-- a weaker promise -/
theorem FnOk.imp {P : Program} {w : World} {K : PySem.W.Frag} {mg : Str → Option Value} {base : Heap} {CX : CXT} {k : Nat} {f : Addr} {fd : FuncData} {ps : List Str} {sp sp' : Sp} (F : FnOk P w K mg base CX k f fd ps sp)
    (h : ∀ vs H Q E, sp' vs H Q E → sp vs H Q E) : FnOk P w K mg base CX k f fd ps sp' :=
  ⟨fun vs H Q E q => F.len vs H Q E (h _ _ _ _ q), fun A outer s H args us vs Q E hr he hb hv hs => F.run A outer s H args us vs Q E hr he hb hv (h _ _ _ _ hs)⟩

theorem Env0.make {P : Program} {w : World} {K : PySem.W.Frag} {mg : Str → Option Value} {base : Heap} {A : Around} {outer : List Env} {s : Shared} {H : Hp} (e : Env0 P w K mg base A outer s H) (C : Addr) (us : List Value) (kw : List (Str × Value)) :
    Env0 P w K mg base (A.under (.builtin "type.__call__" ⟨.ref C :: us, kw⟩)) outer s H := ⟨by first | exact e.frames | (simpa [Around.under, Code.envs, Code.isFrame, pushEnvs] using e.frames), e.mod, e.bs, e.bsz, e.funs, e.frf, e.hok, e.bare⟩
section
variable {X : Cx} {pins : List (Addr × Obj)} {σ : St} {H : Hp} {s s' : Shared}
/-- from a body: what a callee wants -/
theorem Inv.env0 (I : Inv X pins σ H s) : Env0 X.prog X.w X.K X.mg X.base X.A X.stack s H :=
  ⟨I.ok.frames, I.ok.mod, I.bs, Nat.le_trans I.ok.bsz I.sz, I.stack, I.stkFree, I.hok, I.bare⟩
/-- behind a call -/
theorem Inv.after {Q : VK} {u : Value} (I : Inv X pins σ H s) (h : CE X.stack X.prog X.w H s Q u s') : EP X pins σ Q u s' := by
  obtain ⟨v, H', os, bare, un, hok, r, q⟩ := h
  obtain ⟨hh, g, d, t, os'⟩ := s'
  obtain rfl : os' = s.os := os
  exact ⟨v, H', I.call (h' := hh) (g' := g) (d' := d) (t' := t) (ch := []) un hok bare (fun b z => absurd z (by simp)), r, q⟩
end

/-! ### calls -/
/-- f(..): the written arguments, then the defaults dvs; E: what is wanted of an exception -/
def tCall (sp : Sp) (dvs : List V) (E : St → XK) (t : TA) : TE := fun σ H Q => t σ H fun vs H1 => sp (vs ++ dvs) H1 Q (E σ)
/-- C(..): a new instance and its dict, then __init__ -/
def tMake (C : Addr) (sp : Sp) (dvs : List V) (E : St → XK) (t : TA) : TE := fun σ H Q => t σ H fun vs H1 => ∀ x dx, H1 x = none → H1 dx = none → dx ≠ x →
  sp (.ref x :: (vs ++ dvs)) (upd (upd H1 dx (.own x)) x (.ins C dx [])) (fun v H2 => v = .non ∧ Q (.ref x) H2) (E σ)

/-- how the parameters are bound: us the positional arguments, kw the keywords' values by name, ds the defaults that fill up -/
def Binds (K : PySem.W.Frag) (fd : FuncData) (ps : List Str) (ds : List Value) : Prop :=
  ∀ (s : Shared) (us : List Value), K.In s.heap → (us ++ ds).length = ps.length → BindsTo s fd ⟨us, []⟩ (ps.zip (us ++ ds))
/-- every parameter is given -/
theorem Binds.all {K : PySem.W.Frag} {fd : FuncData} {ps : List Str} (h : ∀ us : List Value, us.length = ps.length → bindArgs fd ⟨us, []⟩ = pure (ps.zip us)) : Binds K fd ps [] := fun s us _ hl => by
  rw [List.append_nil] at hl ⊢
  exact .of_eq (h us hl)

/-- an exception of a callee reaches what this body wants of exceptions -/
def Passes (CX : CXT) (X : Cx) (E : St → XK) : Prop := ∀ (pins : List (Addr × Obj)) (σ : St) (H : Hp) (s : Shared) (e : Value) (s' : Shared), Inv X pins σ H s → CX X.stack H s (E σ) e s' → X.xe e s'

section
variable {X : Cx} {CX : CXT} {k : Nat} {f C : Addr} {fd : FuncData} {ps : List Str} {sp : Sp} {dvs : List V} {ds : List Value} {E : St → XK} {x m : Str} {p pos apos : Pos} {e o : Expr} {es : List Expr} {ta : TE} {t : TA}

/-- the callee runs -/
theorem run_fn {pins : List (Addr × Obj)} {σ : St} {H : Hp} {s : Shared} {Q : VK} {us : List Value} {vs : List V} (F : FnOk X.prog X.w X.K X.mg X.base CX k f fd ps sp) (hr : Room k X.A) (hb : Binds X.K fd ps ds) (hd : Vals dvs ds) (hx : Passes CX X E)
    (I : Inv X pins σ H s) (r : Vals vs us) (h : sp (vs ++ dvs) H Q (E σ)) : wpAny (model X.prog X.w) X.A (call (.ref f) us) (EP X pins σ Q) X.xe s := by
  have r2 : Vals (vs ++ dvs) (us ++ ds) := r.append hd
  have hl : (us ++ ds).length = ps.length := by rw [← r2.length]; exact F.len _ _ _ _ h
  refine wpAny_call (codeAny_mono (F.run X.A X.stack s H ⟨us, []⟩ (us ++ ds) (vs ++ dvs) Q (E σ) hr I.env0 (hb s us I.kIn hl) r2 h) fun r s' hq => ?_)
  cases r with
  | error e => exact hx pins σ H s e s' I hq
  | ok fl =>
    cases fl with
    | ret u => exact I.after hq
    | next => exact False.elim hq
    | brk => exact False.elim hq
    | cont => exact False.elim hq

theorem pe_call (F : FnOk X.prog X.w X.K X.mg X.base CX k f fd ps sp) (hr : Room k X.A) (hg : Gl X x) (hm : X.mg x = some (.ref f)) (hk : PySem.W.keepIn X.K (.ref f) = true) (hb : Binds X.K fd ps ds) (hd : Vals dvs ds) (hx : Passes CX X E)
    (ha : PA X (e :: es) t) (hdb : (x == ("__debug__" : Str)) = false := by decide) (he : starEach (e :: es) X.env = (false, eval e X.env) :: starEach es X.env := by rfl) (hpl : (backTo pos (starEach es X.env)).any (·.1) = false := by rfl) :
    PE X (.Call (.Name x p) (e :: es) [] pos) (tCall sp dvs E t) := by
  intro pins s σ H Q I h
  refine wpAny_Call_Name_kw (ld_glob I hg hm ?_ hdb)
  refine PySem.W.callWith_K (h₀ := X.base) I.ok.mod.kin hk (thn (ha pos pins s σ H _ I h) fun us s1 ⟨vs, H1, I1, r, q⟩ => ⟨I1.kIn, ?_⟩) he hpl
  exact run_fn F hr hb hd hx I1 r q
/-- what a class must have to be made -/
structure Mk (K : PySem.W.Frag) (C f : Addr) : Prop where
  makes : PySem.W.makesIn K C = true
  init : PySem.W.findIn K (.ref C) "__init__" = some (some (.ref f))
  fn : PySem.W.isFn K (.ref f) = true
  kp : PySem.W.keepIn K (.ref C) = true

theorem run_make {pins : List (Addr × Obj)} {σ : St} {H : Hp} {s : Shared} {Q : VK} {us : List Value} {vs : List V} (M : Mk X.K C f) (F : FnOk X.prog X.w X.K X.mg X.base CX k f fd ps sp) (hr : Room (k + 1) X.A) (hb : Binds X.K fd ps ds) (hd : Vals dvs ds)
    (hx : Passes CX X E) (I : Inv X pins σ H s) (r : Vals vs us)
    (h : ∀ x dx, H x = none → H dx = none → dx ≠ x → sp (.ref x :: (vs ++ dvs)) (upd (upd H dx (.own x)) x (.ins C dx [])) (fun v H2 => v = .non ∧ Q (.ref x) H2) (E σ)) :
    wpAny (model X.prog X.w) X.A (call (.ref C) us) (EP X pins σ Q) X.xe s := by
  have hq := h (s.heap.objs.size + 1) s.heap.objs.size (I.hok.fresh (Nat.le_succ _)) (I.hok.fresh (Nat.le_refl _)) (Nat.ne_of_lt (Nat.lt_succ_self _))
  have I2 := Inv.made (C := C) I
  have r2 : Vals (V.ref (s.heap.objs.size + 1) :: (vs ++ dvs)) (Value.ref (s.heap.objs.size + 1) :: (us ++ ds)) := .cons rfl (r.append hd)
  have hl : (Value.ref (s.heap.objs.size + 1) :: us ++ ds).length = ps.length := by
    have e := r2.length
    rw [F.len _ _ _ _ hq] at e
    exact e.symm
  refine wpAny_call (make_map (f := f) I.kIn M.makes M.init (beq_iff_eq.mp M.fn) (codeAny_mono (F.run _ X.stack _ _ ⟨Value.ref (s.heap.objs.size + 1) :: us, []⟩ (Value.ref (s.heap.objs.size + 1) :: (us ++ ds)) _ _ (E σ) (hr.make C us [])
    (I2.env0.make C us []) (hb _ (Value.ref (s.heap.objs.size + 1) :: us) I2.kIn hl) r2 hq) fun r s' hq' => ?_))
  cases r with
  | error e => exact hx pins σ _ _ e s' I2 hq'
  | ok fl =>
    cases fl with
    | ret u =>
      obtain ⟨v, H', I3, rv, ev, q3⟩ := I2.after hq'
      subst ev
      exact ⟨rv, ⟨V.ref (s.heap.objs.size + 1), H', I3, rfl, q3⟩⟩
    | next => exact False.elim hq'
    | brk => exact False.elim hq'
    | cont => exact False.elim hq'
theorem pe_make (M : Mk X.K C f) (F : FnOk X.prog X.w X.K X.mg X.base CX k f fd ps sp) (hr : Room (k + 1) X.A) (hg : Gl X x) (hm : X.mg x = some (.ref C)) (hb : Binds X.K fd ps ds) (hd : Vals dvs ds) (hx : Passes CX X E)
    (ha : PA X (e :: es) t) (hdb : (x == ("__debug__" : Str)) = false := by decide) (he : starEach (e :: es) X.env = (false, eval e X.env) :: starEach es X.env := by rfl) (hpl : (backTo pos (starEach es X.env)).any (·.1) = false := by rfl) :
    PE X (.Call (.Name x p) (e :: es) [] pos) (tMake C sp dvs E t) := by
  intro pins s σ H Q I h
  refine wpAny_Call_Name_kw (ld_glob I hg hm ?_ hdb)
  refine PySem.W.callWith_K (h₀ := X.base) I.ok.mod.kin M.kp (thn (ha pos pins s σ H _ I h) fun us s1 ⟨vs, H1, I1, r, q⟩ => ⟨I1.kIn, ?_⟩) he hpl
  exact run_make M F hr hb hd hx I1 r q
end

/-! ### keywords -/
/-- the values of the keywords, from the left -/
def PK (X : Cx) (kws : List Keyword) (t : TA) : Prop :=
  ∀ (pos : Pos) (pins : List (Addr × Obj)) (s : Shared) (σ : St) (H : Hp) (Q : List V → Hp → Prop), Inv X pins σ H s → t σ H Q → wpAny (model X.prog X.w) X.A (evalAll ((backToKw pos (keywordEach kws X.env)).map (·.2))) (AP X pins σ Q) X.xe s
section
variable {X : Cx} {CX : CXT} {k : Nat} {f C : Addr} {fd : FuncData} {ps ks : List Str} {sp : Sp} {E : St → XK} {x m : Str} {p pos apos kpos : Pos} {e o : Expr} {es : List Expr} {kws : List Keyword} {te ta : TE} {t tk : TA} {nm : Option Str}
theorem pk_nil : PK X [] tNil := fun _ _ _ _ H Q I h => wpAny_evalAll_nil ⟨[], H, I, .nil, h⟩
theorem pk_cons (ha : PE X e te) (hr : PK X kws t) : PK X (⟨nm, e, kpos⟩ :: kws) (tCons te t) := by
  intro pos pins s σ H Q I h
  show wpAny _ _ (evalAll ((do let v ← eval e X.env; standAt pos; pure v) :: (backToKw pos (keywordEach kws X.env)).map (·.2))) _ _ s
  refine wpAny_evalAll_cons (wpAny_bind (thn (ha pins s σ H _ I h) fun u s1 ⟨x, H1, I1, r1, q1⟩ => wpAny_bind (wpAny_standAt (wpAny_pure ?_))))
  exact thn (hr pos pins s1 σ H1 _ I1 q1) fun us s2 ⟨xs, H2, I2, r2, q2⟩ => ⟨x :: xs, H2, I2, .cons r1 r2, q2⟩

/-- how a call with keywords binds: g puts the positional values us and the keywords' values ws (names ks) in the parameters' order, defaults among them -/
structure KBinds (K : PySem.W.Frag) (fd : FuncData) (ps ks : List Str) (g : List Value → List Value → List Value) (gV : List V → List V → List V) : Prop where
  to : ∀ (s : Shared) (us ws : List Value), K.In s.heap → (g us ws).length = ps.length → BindsTo s fd ⟨us, ks.zip ws⟩ (ps.zip (g us ws))
  rel : ∀ {vs : List V} {us : List Value} {zs : List V} {ws : List Value}, Vals vs us → Vals zs ws → Vals (gV vs zs) (g us ws)
variable {g : List Value → List Value → List Value} {gV : List V → List V → List V}
end

/-! ### a def's body keeps its promise -/
/-- names: the parameters first -/
structure FnScope (N P : List Str) (sc : Scope) : Prop where
  kind : sc.kind = .function
  co : sc.isCoroutine = false
  gen : sc.isGenerator = false
  nd : N.Nodup
  pre : N.take P.length = P
  par : ∀ x ∈ P, sc.names.lookup x = some .local ∨ sc.names.lookup x = some .cell
  nofree : ∀ y ∈ sc.names, y.2 ≠ .free

theorem bindL_out {kindOf : Str → Option NameKind} {x : Str} : ∀ {binds : List (Str × Value)} {m : Str → Option Value}, (∀ v, (x, v) ∉ binds) → bindL kindOf binds m x = m x
  | [], _, _ => rfl
  | (n, v) :: r, m, h => by
    unfold bindL
    rw [bindL_out fun w hw => h w (List.mem_cons_of_mem _ hw)]
    split
    · have : x ≠ n := by rintro rfl; exact h v List.mem_cons_self
      simp [this]
    · rfl
theorem bindC_out {kindOf : Str → Option NameKind} {x : Str} : ∀ {binds : List (Str × Value)} {m : Str → Option Value}, (∀ v, (x, v) ∉ binds) → bindC kindOf binds m x = m x
  | [], _, _ => rfl
  | (n, v) :: r, m, h => by
    unfold bindC
    rw [bindC_out fun w hw => h w (List.mem_cons_of_mem _ hw)]
    split
    · rfl
    · have : x ≠ n := by rintro rfl; exact h v List.mem_cons_self
      simp [this]
theorem bindL_get {kindOf : Str → Option NameKind} {x : Str} {v : Value} : ∀ {P : List Str} {vs : List Value} {i : Nat} {m : Str → Option Value}, P.Nodup → P[i]? = some x → vs[i]? = some v → kindOf x = some .local →
    bindL kindOf (P.zip vs) m x = some v
  | [], _, _, _, _, h, _, _ => by simp at h
  | _ :: _, [], _, _, _, _, h, _ => by simp at h
  | p :: P, w :: vs, 0, m, nd, h1, h2, hk => by
    simp at h1 h2; subst h1; subst h2
    show bindL kindOf ((p, w) :: P.zip vs) m p = _
    unfold bindL
    rw [bindL_out fun v hv => (List.nodup_cons.mp nd).1 (List.of_mem_zip hv).1, if_pos hk]
    simp
  | p :: P, w :: vs, i + 1, m, nd, h1, h2, hk => by
    show bindL kindOf ((p, w) :: P.zip vs) m x = _
    unfold bindL
    exact bindL_get (i := i) (List.nodup_cons.mp nd).2 (by simpa using h1) (by simpa using h2) hk
theorem bindC_get {kindOf : Str → Option NameKind} {x : Str} {v : Value} : ∀ {P : List Str} {vs : List Value} {i : Nat} {m : Str → Option Value}, P.Nodup → P[i]? = some x → vs[i]? = some v → kindOf x ≠ some .local →
    bindC kindOf (P.zip vs) m x = some v
  | [], _, _, _, _, h, _, _ => by simp at h
  | _ :: _, [], _, _, _, _, h, _ => by simp at h
  | p :: P, w :: vs, 0, m, nd, h1, h2, hk => by
    simp at h1 h2; subst h1; subst h2
    show bindC kindOf ((p, w) :: P.zip vs) m p = _
    unfold bindC
    rw [bindC_out fun v hv => (List.nodup_cons.mp nd).1 (List.of_mem_zip hv).1, if_neg hk]
    simp
  | p :: P, w :: vs, i + 1, m, nd, h1, h2, hk => by
    show bindC kindOf ((p, w) :: P.zip vs) m x = _
    unfold bindC
    exact bindC_get (i := i) (List.nodup_cons.mp nd).2 (by simpa using h1) (by simpa using h2) hk

/-- the names' values at the entry -/
def start (N : List Str) (vs : List V) : St := vs.map some ++ List.replicate (N.length - vs.length) none

/-- the context of a def's body, at its entry; an exception leaves the frame, then lies as CX says -/
def cxOf (CX : CXT) (P : Program) (w : World) (K : PySem.W.Frag) (mg : Str → Option Value) (base : Heap) (N : List Str) (qual : Str) (scope : Scope) (f : Addr) (cd : Value) (A : Around) (outer : List Env) (s : Shared) (H : Hp) (E : XK) : Cx where
  prog := P
  w := w
  K := K
  mg := mg
  base := base
  A := A.deeper (envOfC qual scope s.heap.objs.size f cd)
  N := N
  s_0 := s
  H_0 := H
  env := envOfC qual scope s.heap.objs.size f cd
  outer := outer
  stack := envOfC qual scope s.heap.objs.size f cd :: outer
  ex := []
  calm := true
  fn := fun _ => true
  pn := []
  xe := fun e s' => wpAny (model P w) (A.deeper (envOfC qual scope s.heap.objs.size f cd)) (leaving (envOfC qual scope s.heap.objs.size f cd) e) (fun _ s'' => CX outer H s E e s'') (fun e' s'' => CX outer H s E e' s'') s'

theorem cell_has {sc : Scope} {n : Nat} {x : Str} (h : sc.names.lookup x = some .cell) : ∃ c, (cellsFrom n sc.names []).lookup x = some c := by
  have q := PySem.W.cellsFrom_some sc.names n [] (.inl h)
  exact Option.isSome_iff_exists.mp q

theorem inv_start {CX : CXT} {P : Program} {w : World} {K : PySem.W.Frag} {mg : Str → Option Value} {base : Heap} {N ps : List Str} {qual : Str} {scope : Scope} {f : Addr} {cd : Value} {A : Around} {outer : List Env} {s s1 : Shared} {H : Hp} {E : XK} {us : List Value} {vs : List V}
    (S : FnScope N ps scope) (hd : A.handled = none) (e0 : Env0 P w K mg base A outer s H) (hl : vs.length = ps.length) (r : Vals vs us)
    (x : InCallC s s.heap.objs.size (bindL (envOfC qual scope s.heap.objs.size f cd).kindOf (ps.zip us) fun _ => none) (cellsFrom (s.heap.objs.size + 1) scope.names []) (bindC (envOfC qual scope s.heap.objs.size f cd).kindOf (ps.zip us) fun _ => none) s1) :
    Inv (cxOf CX P w K mg base N qual scope f cd A outer s H E) [] (start N vs) H s1 := by
  have hpl : ps.length ≤ N.length := by have := congrArg List.length S.pre; rw [List.length_take] at this; omega
  obtain ⟨h1, tk, rfl, hk⟩ := x.done
  have noA : ∀ b : Addr, b ∉ (cxOf CX P w K mg base N qual scope f cd A outer s H E).ex := fun b z => absurd (show b ∈ ([] : List Addr) from z) (by simp)
  refine ⟨⟨e0.mod, S.kind, rfl, rfl, Nat.le_refl _, fun y z c h1 h2 => ?_, fun y hy => ?_, fun y c _ h => ?_, fun _ => hd, Around.frames_deeper e0.frames, .inr ⟨rfl, rfl⟩, fun b z => absurd z (noA b), e0.bs, e0.bsz, fun b _ _ => noA b, fun b z => absurd z (noA b), e0.funs, e0.frf⟩,
    rfl, e0.bare, Un.kept hk, ⟨_, x.toInCall.ns, fun i y v h1 h2 h3 => ?_⟩, fun y c h => ⟨_, x.cell y c h⟩, e0.hok.fresh (Nat.le_refl _), fun y c h => ?_, fun p hp => absurd (show p ∈ ([] : List (Addr × Obj)) from hp) (by simp), e0.hok.kept hk, ?_⟩
  · exact name_of_addr x.apart (PySem.mem_of_lookup h1) (PySem.mem_of_lookup h2)
  · have hy : scope.names.lookup y = some .cell ∨ scope.names.lookup y = some .free := hy
    rcases hy with hy | hy
    · exact cell_has hy
    · exact absurd rfl (S.nofree _ (PySem.mem_of_lookup hy))
  · exact Nat.le_of_lt (x.above y c (PySem.mem_of_lookup h))
  · have hi : i < vs.length := by
      unfold start at h2
      by_cases hi : i < vs.length
      · exact hi
      · rw [List.getElem?_append_right (by simpa using hi)] at h2
        rw [List.getElem?_replicate] at h2
        split at h2 <;> cases h2
    have ha : vs[i]? = some v := by
      unfold start at h2
      rw [List.getElem?_append_left (by simpa using hi), List.getElem?_map] at h2
      cases e : vs[i]? with
      | none => rw [e] at h2; cases h2
      | some a => rw [e] at h2; cases h2; rfl
    obtain ⟨u, hu, rv⟩ := r.get ha
    have hp : ps[i]? = some y := by
      rw [← S.pre, List.getElem?_take_of_lt (by omega)]; exact h1
    have ndP : ps.Nodup := by rw [← S.pre]; exact S.nd.sublist (List.take_sublist _ _)
    refine ⟨u, rv, ?_⟩
    rcases S.par y (List.mem_of_getElem? hp) with k | k
    · exact .inl ⟨k, bindL_get ndP hp hu k⟩
    · obtain ⟨c, e⟩ := cell_has (n := s.heap.objs.size + 1) k
      refine .inr ⟨.inl k, c, e, ?_⟩
      have q := x.cell y c e
      rw [bindC_get ndP hp hu (by show scope.names.lookup y ≠ _; rw [k]; decide)] at q
      exact q
  · exact e0.hok.fresh (Nat.le_of_lt (x.above y c (PySem.mem_of_lookup h)))
  · unfold start
    show _ = N.length
    rw [List.length_append, List.length_map, List.length_replicate]
    omega

/-- THE RULE: a def (or a method) of the text, by its body. The body's reading t is chosen for each entry; it is run at the parameters' values -/
theorem fn_of {CX : CXT} {P : Program} {w : World} {K : PySem.W.Frag} {mg : Str → Option Value} {base : Heap} {k : Nat} {f : Addr} {name qual : Str} {params : Arguments} {body : List Stmt} {scope : Scope} {dV kV doc pm cdv ct oc : Value} {an od : Option Addr}
    {osl : Array (Option Value)} {N ps : List Str} {sp : Sp} (lk : K.lookup f = some ⟨oc, od, .func (PySem.W.fnOf name qual params body scope dV kV doc pm an cdv ct), osl⟩) (hcd : PySem.W.codeIn K cdv qual = true) (S : FnScope N ps scope)
    (len : ∀ vs H Q E, sp vs H Q E → vs.length = ps.length)
    (hbody : ∀ (A : Around) (outer : List Env) (s : Shared) (H : Hp) (vs : List V) (Q : VK) (E : XK), Room k (A.deeper (envOfC qual scope s.heap.objs.size f cdv)) → sp vs H Q E →
      ∃ t, PSs (cxOf CX P w K mg base N qual scope f cdv A outer s H E) body t ∧ t { nx := fun _ H' => Q .non H', rt := Q } (start N vs) H) :
    FnOk P w K mg base CX (k + 1) f (PySem.W.fnOf name qual params body scope dV kV doc pm an cdv ct) ps sp := by
  refine ⟨len, fun A outer s H args us vs Q E hr e0 hb r hsp => ?_⟩
  have hl := len _ _ _ _ hsp
  have KX : K.In s.heap := e0.mod.kin.keeps fun b o e => (e0.bs b o e).1
  have lim : s.heap.NoLimit := e0.mod.nolimit.keeps fun b o e => (e0.bs b o e).1
  have hkind : ∀ y ∈ ps.zip us, scope.names.lookup y.1 = some .local ∨ (scope.names.lookup y.1 = some .cell ∧ ((cellsFrom (s.heap.objs.size + 1) scope.names []).lookup y.1).isSome = true) := fun ⟨n, v⟩ hy => by
    rcases S.par n (List.of_mem_zip hy).1 with q | q
    · exact .inl q
    · exact .inr ⟨q, PySem.W.cellsFrom_some _ _ _ (.inl q)⟩
  refine codeAny_call_function hr.depth (KX _ _ lk) rfl S.co S.gen rfl (PySem.W.codeRec_of KX hcd) (hb _ _ _ _ ?_)
  refine wpAny_newFunctionEnv_cells S.kind hkind fun env he s1 x => ?_
  subst he
  refine ⟨lim.keeps x.toInCall.keep, codeAny_func ?_⟩
  obtain ⟨t, ht, hq⟩ := hbody A outer s H vs Q E (hr.deeper _) hsp
  have I : Inv (cxOf CX P w K mg base N qual scope f cdv A outer s H E) [] (start N vs) H s1 := inv_start S hr.hd e0 hl r x
  refine wpAny_mono (ht [] s1 (start N vs) H _ I hq) (fun fl s' hs => ?_) fun e s' hs => hs
  have fin : ∀ {σ' : St} {H' : Hp} {v : V} {u : Value}, Inv (cxOf CX P w K mg base N qual scope f cdv A outer s H E) [] σ' H' s' → RelV v u → Q v H' → CE outer P w H s Q u s' :=
    fun {σ' H' v u} J rv q => ⟨v, H', J.os, J.bare, J.base, J.hok, rv, q⟩
  cases fl with
  | ret u =>
    obtain ⟨v, σ', H', J, rv, q⟩ := hs
    exact fin J rv q
  | next =>
    obtain ⟨σ', H', J, q⟩ := hs
    exact fin (v := V.non) (u := Value.none) J rfl q
  | brk =>
    obtain ⟨_, _, _, q⟩ := hs
    exact False.elim q
  | cont =>
    obtain ⟨_, _, _, q⟩ := hs
    exact False.elim q
end L2

namespace L2
open PySem PySem.Spec PyProof.Rows
section
variable {X : Cx} {x : Str} {p pos : Pos} {e : Expr} {es : List Expr} {t : TA} {id T : String} {r : List V → Hp → VK → Prop}

def tCB (r : List V → Hp → VK → Prop) (t : TA) : TE := fun σ H Q => t σ H fun vs H1 => r vs H1 Q
/-- f(e, ..), f a built-in function -/
theorem pe_callB (hc : CallR X (.builtin id) r) (hg : Gl X x) (hm : X.mg x = none) (hv : bootBuiltins x = some (.builtin id)) (ha : PA X (e :: es) t) (hn : x ≠ "__name__" := by decide) (hdb : (x == ("__debug__" : Str)) = false := by decide)
    (he : starEach (e :: es) X.env = (false, eval e X.env) :: starEach es X.env := by rfl) (hpl : (backTo pos (starEach es X.env)).any (·.1) = false := by rfl) : PE X (.Call (.Name x p) (e :: es) [] pos) (tCB r t) := by
  intro pins s σ H Q I h
  refine wpAny_Call_Name_kw (ld_blt I hg hm hv ?_ hn hdb)
  exact PyProof.Rows.callWith_builtin1 (thn (ha pos pins s σ H _ I h) fun us s1 ⟨vs, H1, I1, r1, q1⟩ => hc pins s1 σ H1 vs us Q I1 r1 q1) he hpl
/-- T(e, ..), T a built-in type -/
theorem pe_callTy (hc : CallR X (.type T) r) (hg : Gl X x) (hm : X.mg x = none) (hv : bootBuiltins x = some (.type T)) (ha : PA X (e :: es) t) (hn : x ≠ "__name__" := by decide) (hdb : (x == ("__debug__" : Str)) = false := by decide)
    (he : starEach (e :: es) X.env = (false, eval e X.env) :: starEach es X.env := by rfl) (hpl : (backTo pos (starEach es X.env)).any (·.1) = false := by rfl) : PE X (.Call (.Name x p) (e :: es) [] pos) (tCB r t) := by
  intro pins s σ H Q I h
  refine wpAny_Call_Name_kw (ld_blt I hg hm hv ?_ hn hdb)
  exact PyProof.Rows.callWith_type1 (thn (ha pos pins s σ H _ I h) fun us s1 ⟨vs, H1, I1, r1, q1⟩ => hc pins s1 σ H1 vs us Q I1 r1 q1) he hpl
end
end L2

namespace HT
open PySem PyProof.Rows

section
open PySem.SeqAt
open PySem.AutoSeq1 (wpAny_loadPart')
open PySem.MeetsSeq PySem.MeetsSeq2 PySem.MeetsSeq3

end

section
variable {prog : Program} {w : World} {A : Around} {E : Value → Shared → Prop} {s : Shared}

/-- t + u, t not empty -/
theorem cat_tup {t b : Addr} {vs ws : List Value} {Q : Value → Shared → Prop} (ht : IsTup s.heap t vs.toArray) (hb : IsTup s.heap b ws.toArray) (hv : vs ≠ [])
    (h1 : ws = [] → Q (.ref t) s) (h2 : ws ≠ [] → Q (.ref s.heap.objs.size) { s with heap := s.heap.push { cls := .type "tuple", data := .seq (vs ++ ws).toArray } })
    (hsz : vs.length + ws.length ≤ sizeLine) : wpAny (model prog w) A (binaryOp .Add (.ref t) (.ref b)) Q E s := by
  obtain ⟨⟨cls, dd, data, sl⟩, ho, hc, n, hd⟩ := id ht
  obtain ⟨⟨cls2, dd2, data2, sl2⟩, ho2, hc2, n2, hd2⟩ := id hb
  simp only at hc hd hc2 hd2
  subst hc hd hc2 hd2
  have e : vs.toArray ++ ws.toArray = (vs ++ ws).toArray := by simp
  by_cases hw : ws = []
  · exact concat_meets ⟨_, ho, rfl⟩ ⟨_, ho2, rfl⟩ noFill_tuple_add seq_tuple_add PySem.F.slot_tuple_add PySem.F.entry_tuple_add (PySem.F.args_tuple_add_2 _ _)
      (tuple_addW1 t b vs.toArray ws.toArray n n2 dd dd2 sl sl2 (by simpa using hv) (by simp [hw])) ⟨ho, ho2, h1 hw⟩
  · refine concat_meets ⟨_, ho, rfl⟩ ⟨_, ho2, rfl⟩ noFill_tuple_add seq_tuple_add PySem.F.slot_tuple_add PySem.F.entry_tuple_add (PySem.F.args_tuple_add_2 _ _)
      (tuple_addW2 t b vs.toArray ws.toArray n n2 dd dd2 sl sl2 (by simpa using hv) (by simpa using hw) (by rw [List.size_toArray, List.size_toArray]; exact hsz)) ⟨ho, ho2, ?_⟩
    rw [e]
    exact h2 hw

/-! ### t[a:b], not the whole -/
/-- a slice's bound as a place among n (d where it is left out) -/
def sIx (n d : Nat) : Option Int → Nat
  | none => d
  | some v => if v < 0 then (v + (n : Int)).toNat else min v.toNat n
theorem sIx_le (n d : Nat) (hd : d ≤ n) (o : Option Int) : sIx n d o ≤ n := by
  cases o with
  | none => exact hd
  | some v =>
    show (if v < 0 then (v + (n : Int)).toNat else min v.toNat n) ≤ n
    by_cases hv : v < 0
    · rw [if_pos hv]; omega
    · rw [if_neg hv]; exact Nat.min_le_right _ _
theorem clip_eq (v : Int) (n d : Nat) : (if v < 0 then max (v + (n : Int)) 0 else min v (n : Int)) = ((sIx n d (some v) : Nat) : Int) := by
  show (if v < 0 then max (v + (n : Int)) 0 else min v (n : Int)) = (((if v < 0 then (v + (n : Int)).toNat else min v.toNat n) : Nat) : Int)
  by_cases hv : v < 0
  · simp only [if_pos hv]; omega
  · simp only [if_neg hv]; omega
theorem adjust_gen (lo hi : Option Int) (n : Nat) : Builtin.Slice.sliceAdjust lo hi 1 (n : Int) = (((sIx n 0 lo : Nat) : Int), ((sIx n n hi : Nat) : Int)) := by
  have h1 : ¬ ((1 : Int) < 0) := by omega
  unfold Builtin.Slice.sliceAdjust
  simp only [h1, if_false]
  refine Prod.ext ?_ ?_
  · cases lo with
    | none => rfl
    | some v => exact clip_eq v n 0
  · cases hi with
    | none => rfl
    | some v => exact clip_eq v n n
theorem places_gen (i j : Nat) : Builtin.Slice.slicePlaces (i : Int) (j : Int) 1 = j - i := by
  unfold Builtin.Slice.slicePlaces
  have h1 : (1 : Int) > 0 := by omega
  simp only [h1, if_true, Int.ediv_one]
  split <;> omega
theorem slicePart_ {v : Value} {o : Option Int} {Q : Option Int → Shared → Prop} (p : IsPart v o) (h : Q o s) : wpAny (model prog w) A (Builtin.Slice.slicePartIndex v) Q E s := by
  cases p with
  | none => exact slicePart_none h
  | int i t => exact slicePart_int h
theorem sliceApplied_gen {sl : Addr} {vl vu : Value} {lo hi : Option Int} {n : Nat} {Q : Int × Int × Nat → Shared → Prop} (hs : s.heap.IsSliceOf sl vl vu .none) (pl : IsPart vl lo) (pu : IsPart vu hi)
    (h : Q (((sIx n 0 lo : Nat) : Int), 1, sIx n n hi - sIx n 0 lo) s) : wpAny (model prog w) A (Builtin.Slice.sliceApplied (.ref sl) (pure (n : Int))) Q E s := by
  obtain ⟨os, hos, hcs, hds⟩ := id hs
  unfold Builtin.Slice.sliceApplied Builtin.Slice.sliceFields
  refine wpAny_bind (wpAny_bind (wpAny_field hos hds (x := vl) rfl (wpAny_bind (wpAny_field hos hds (x := vu) rfl (wpAny_bind (wpAny_field hos hds (x := .none) rfl (wpAny_pure ?_)))))))
  refine wpAny_bind (slicePart_none ?_)
  show wpAny _ _ (if ((1 : Int) == 0) = true then _ else _) _ _ s
  rw [if_neg (by decide)]
  refine wpAny_bind (slicePart_ pl (wpAny_bind (slicePart_ pu (wpAny_bind (wpAny_pure ?_)))))
  show wpAny _ _ (match Builtin.Slice.sliceAdjust lo hi 1 (n : Int) with | (lo, hi) => pure (lo, (1 : Int), Builtin.Slice.slicePlaces lo hi 1)) _ _ s
  rw [adjust_gen lo hi n]
  show wpAny _ _ (pure (((sIx n 0 lo : Nat) : Int), (1 : Int), Builtin.Slice.slicePlaces ((sIx n 0 lo : Nat) : Int) ((sIx n n hi : Nat) : Int) 1)) _ _ s
  rw [places_gen]
  exact wpAny_pure h
theorem pick_gen (xs : Array Value) (i k : Nat) : ((List.range k).filterMap fun (m : Nat) => xs[((i : Int) + (m : Int) * 1).toNat]?).toArray = ((xs.toList.drop i).take k).toArray := by
  have e : (fun (m : Nat) => xs[((i : Int) + (m : Int) * 1).toNat]?) = fun m => xs[i + m]? := by
    funext m
    have : ((i : Int) + (m : Int) * 1).toNat = i + m := by omega
    rw [this]
  rw [e]
  have := pick_run xs i k
  rw [List.filterMap_map] at this
  have e2 : ((fun x => xs[x]?) ∘ fun x => i + x) = fun m => xs[i + m]? := rfl
  rw [e2] at this
  rw [this]

theorem getItem_tuple_cut {t sl : Addr} {items : Array Value} {vl vu : Value} {lo hi : Option Int} {Q : Value → Shared → Prop} (ht : IsTup s.heap t items) (hs : s.heap.IsSliceOf sl vl vu .none) (pl : IsPart vl lo) (pu : IsPart vu hi)
    (hw : ¬ (sIx items.size 0 lo = 0 ∧ sIx items.size items.size hi = items.size))
    (h : Q (.ref s.heap.objs.size) { s with heap := s.heap.push { cls := .type "tuple", data := .seq ((items.toList.drop (sIx items.size 0 lo)).take (sIx items.size items.size hi - sIx items.size 0 lo)).toArray } })
    (hsz : items.size ≤ sizeLine) : wpAny (model prog w) A (getItem (.ref t) (.ref sl)) Q E s := by
  have htake : sizeOk (.seq ((items.toList.drop (sIx items.size 0 lo)).take (sIx items.size items.size hi - sIx items.size 0 lo)).toArray) := by
    show ((items.toList.drop (sIx items.size 0 lo)).take (sIx items.size items.size hi - sIx items.size 0 lo)).toArray.size ≤ sizeLine
    rw [List.size_toArray, List.length_take, List.length_drop, Array.length_toList]
    omega
  have hj : sIx items.size items.size hi ≤ items.size := sIx_le _ _ (Nat.le_refl _) hi
  obtain ⟨os, hos, hcs, hds⟩ := id hs
  have hTs : s.TypeIs (.ref sl) "slice" := ⟨os, hos, hcs⟩
  unfold getItem
  try with_reducible refine wpAny_holding ?_
  first | refine wpAny_bind (wpAny_pure ?_) | skip
  refine wpAny_bind (wpAny_sequenceKey ht.typeIs (by decide) ?_)
  refine wpAny_bind (wpAny_callSpecial?_slot (name := Str.ofString "__getitem__") ht.typeIs PyProof.Rows.slot_tuple_getitem
    (wpAny_call_entry PyProof.Rows.slot_tuple_getitem ht.typeIs entry_tuple_getitem ?_ (args_tuple_getitem _ _)))
  show wpAny _ _ (Builtin.Tuple.tupleItemsOf (.ref t) >>= _) _ _ s
  refine wpAny_bind (tupleItemsOf_ ht ?_)
  refine wpAny_bind (wpAny_typeOf hTs ?_)
  rw [if_pos (by decide)]
  refine wpAny_bind (sliceApplied_gen hs pl pu ?_)
  have hno : ¬ ((((sIx items.size 0 lo : Nat) : Int) == 0 && (1 : Int) == 1 && (sIx items.size items.size hi - sIx items.size 0 lo) == items.size) = true) := by
    intro q
    rw [Bool.and_eq_true, Bool.and_eq_true] at q
    have q1 : ((sIx items.size 0 lo : Nat) : Int) = 0 := eq_of_beq q.1.1
    have q2 : sIx items.size items.size hi - sIx items.size 0 lo = items.size := eq_of_beq q.2
    exact hw ⟨by omega, by omega⟩
  show wpAny _ _ (if (((sIx items.size 0 lo : Nat) : Int) == 0 && (1 : Int) == 1 && (sIx items.size items.size hi - sIx items.size 0 lo) == items.size) = true then _ else _) _ _ s
  rw [if_neg hno, pick_gen]
  first
    | exact wpAny_bind (m := Builtin.Tuple.tupleExact _) (wpAny_newObj_type (wpAny_pure ⟨_, rfl, wpAny_pure h⟩) htake)
    | exact wpAny_bind (m := Builtin.Tuple.tupleExact _) (wpAny_newObj_type (wpAny_bind (wpAny_pure (wpAny_pure ⟨_, rfl, wpAny_pure h⟩))) htake)
    | exact wpAny_bind (wpAny_bind (m := Builtin.Tuple.tupleExact _) (wpAny_newObj_type (wpAny_pure (wpAny_pure ⟨_, rfl, wpAny_pure h⟩)) htake))
    | exact wpAny_bind (wpAny_bind (m := Builtin.Tuple.tupleExact _) (wpAny_newObj_type (wpAny_pure ⟨_, rfl, wpAny_pure h⟩) htake))
end
end HT

namespace L2
open PySem PySem.Spec PyProof.Rows

/-! ### the parts of a slice -/
abbrev TO := St → Hp → (Option Int → Hp → Prop) → Prop
/-- a slice's part (left out, or an int) -/
def PO (X : Cx) (e : Option Expr) (t : TO) : Prop :=
  ∀ (pins : List (Addr × Obj)) (s : Shared) (σ : St) (H : Hp) (Q : Option Int → Hp → Prop), Inv X pins σ H s → t σ H Q →
    wpAny (model X.prog X.w) X.A (evalPart e X.env) (fun u s' => ∃ o H', Inv X pins σ H' s' ∧ IsPart u o ∧ Q o H') X.xe s
def tNoPart : TO := fun _ H Q => Q none H
def tPart (t : TE) : TO := fun σ H Q => t σ H fun x H1 => ∃ i, x = .int i ∧ Q (some i) H1

section
variable {X : Cx} {e : Expr} {te : TE} {lo hi : Option Expr} {tl th : TO} {pos p2 : Pos}

theorem po_none : PO X none tNoPart := by
  intro pins s σ H Q I h
  rw [evalPart_none]
  exact wpAny_pure ⟨none, H, I, .none, h⟩
theorem po_some (h : PE X e te) : PO X (some e) (tPart te) := by
  intro pins s σ H Q I hw
  rw [evalPart_some]
  refine thn (h pins s σ H _ I hw) fun u s1 ⟨x, H1, I1, r1, q1⟩ => ?_
  obtain ⟨i, rfl, q⟩ := q1
  obtain ⟨t, rfl⟩ := r1
  exact ⟨some i, H1, I1, .int i t, q⟩

/-- what a slice of a value is, by values: the slice object stands at sl -/
def SlR (X : Cx) (r : V → Option Int → Option Int → Hp → VK → Prop) : Prop :=
  ∀ (pins : List (Addr × Obj)) (s : Shared) (σ : St) (H : Hp) (x : V) (v vl vu : Value) (lo hi : Option Int) (sl : Addr) (Q : VK), Inv X pins σ H s → RelV x v → s.heap.IsSliceOf sl vl vu .none → IsPart vl lo → IsPart vu hi → r x lo hi H Q →
    ∃ T id, typeLookup (.type T) "__getitem__" = pure (some (.builtin id)) ∧ s.TypeIs v T ∧ wpAny (model X.prog X.w) X.A (getItem v (.ref sl)) (EP X pins σ Q) X.xe s
theorem SlR.or {r r' : V → Option Int → Option Int → Hp → VK → Prop} (h : SlR X r) (h' : SlR X r') : SlR X (fun x lo hi H Q => r x lo hi H Q ∨ r' x lo hi H Q) := by
  intro pins s σ H x v vl vu lo hi sl Q I rx hs pl pu q
  rcases q with q | q
  · exact h pins s σ H x v vl vu lo hi sl Q I rx hs pl pu q
  · exact h' pins s σ H x v vl vu lo hi sl Q I rx hs pl pu q
def tSl (r : V → Option Int → Option Int → Hp → VK → Prop) (te : TE) (tl th : TO) : TE := fun σ H Q => te σ H fun x H1 => tl σ H1 fun l H2 => th σ H2 fun u H3 => r x l u H3 Q
/-- a[lo:hi], any a -/
theorem pe_slice {r : V → Option Int → Option Int → Hp → VK → Prop} (hr : SlR X r) (he : PE X e te) (hl : PO X lo tl) (hu : PO X hi th) : PE X (.Subscript e (.Slice lo hi none p2) pos) (tSl r te tl th) := by
  intro pins s σ H Q I h
  refine Subscript_ (thn (he pins s σ H _ I h) fun v s1 ⟨x, H1, I1, r1, q1⟩ => ?_)
  refine wpAny_Slice (thn (hl pins s1 σ H1 _ I1 q1) fun vl s2 ⟨l, H2, I2, pl, q2⟩ => thn (hu pins s2 σ H2 _ I2 q2) fun vu s3 ⟨u, H3, I3, pu, q3⟩ => ?_)
  rw [evalPart_none]
  refine wpAny_pure ?_
  have I4 : Inv X pins σ H3 { s3 with heap := s3.heap.push { cls := .type "slice", data := .fields #[vl, vu, .none] } } := I3.kept (t' := s3.toks) fun b ob q => Heap.get?_push_of_some _ q
  obtain ⟨T, id, hT, ht, hg⟩ := hr pins { s3 with heap := s3.heap.push { cls := .type "slice", data := .fields #[vl, vu, .none] } } σ H3 x v vl vu l u s3.heap.objs.size Q I4 r1 (Heap.IsSliceOf.new ..) pl pu q3
  show wpAny (model X.prog X.w) X.A (subscriptTail e (.Slice lo hi none p2) v (.ref s3.heap.objs.size)) (EP X pins σ Q) X.xe { s3 with heap := s3.heap.push { cls := .type "slice", data := .fields #[vl, vu, .none] } }
  exact tail_any (ops := [.ref s3.heap.objs.size, v]) ht hT hg (by with_unfolding_all rfl)

/-- the items of xs[lo:hi] -/
def cutV (xs : List V) (lo hi : Option Int) : List V := (xs.drop (HT.sIx xs.length 0 lo)).take (HT.sIx xs.length xs.length hi - HT.sIx xs.length 0 lo)
theorem cutV_length (xs : List V) (lo hi : Option Int) : (cutV xs lo hi).length ≤ xs.length := by
  unfold cutV
  rw [List.length_take, List.length_drop]
  omega
/-- t[lo:hi], not the whole of it (the whole would be t itself) -/
def rSlT (K : PySem.W.Frag) : V → Option Int → Option Int → Hp → VK → Prop := fun x lo hi H Q => ∃ a xs, x = .ref a ∧ SqT K H a xs ∧
  ¬ (HT.sIx xs.length 0 lo = 0 ∧ HT.sIx xs.length xs.length hi = xs.length) ∧ ∀ p, H p = none → Q (.ref p) (upd H p (.tup (cutV xs lo hi)))
theorem sl_tup : SlR X (rSlT X.K) := by
  intro pins s σ H x v vl vu lo hi sl Q I rx hs pl pu h
  obtain ⟨a, xs, rfl, hx, hw, q⟩ := h
  cases rx
  obtain ⟨its, r, ht, hz⟩ := I.tuple hx
  have hlen : its.toArray.size = xs.length := by rw [List.size_toArray]; exact r.length.symm
  refine ⟨"tuple", _, PyProof.Rows.slot_tuple_getitem.lookup, ht.typeIs, ?_⟩
  refine HT.getItem_tuple_cut ht hs pl pu (by rw [hlen]; exact hw) ?_ (by rw [hlen]; exact hz)
  rw [hlen]
  refine ⟨.ref s.heap.objs.size, _, I.laid (t' := s.toks) (o := .tup (cutV xs lo hi)) (fun b ob q => Heap.get?_push_of_some _ q) (Nat.le_refl _) ?_, rfl, q _ (I.hok.fresh (Nat.le_refl _))⟩
  exact ⟨Nat.le_trans (cutV_length xs lo hi) hz, _, (r.drop (HT.sIx xs.length 0 lo)).take (HT.sIx xs.length xs.length hi - HT.sIx xs.length 0 lo), IsTup.new _ _⟩

/-! ### t < u, t + u -/
/-- t + u, t not empty: u empty gives t itself -/
def rCatT (K : PySem.W.Frag) : R2 := fun x y H Q => ∃ a b xs ys, x = .ref a ∧ y = .ref b ∧ SqT K H a xs ∧ SqT K H b ys ∧ xs ≠ [] ∧ xs.length + ys.length ≤ sizeLine ∧
  (ys = [] → Q (.ref a) H) ∧ (ys ≠ [] → ∀ p, H p = none → Q (.ref p) (upd H p (.tup (xs ++ ys))))
theorem Vals.nil_iff {xs : List V} {us : List Value} (r : Vals xs us) : us = [] ↔ xs = [] := by
  cases r with
  | nil => simp
  | cons _ _ => simp
theorem op_catT : OpR X (binaryOp .Add) (rCatT X.K) := by
  intro pins s σ H x y v u Q I rx ry h
  obtain ⟨a, b, xs, ys, rfl, rfl, ha, hb, hx, hz, q1, q2⟩ := h
  cases rx
  cases ry
  obtain ⟨its, r1, p1, _⟩ := I.tuple ha
  obtain ⟨its2, r2, p2, _⟩ := I.tuple hb
  refine HT.cat_tup p1 p2 (fun z => hx (r1.nil_iff.mp z)) (fun z => ⟨.ref a, H, I, rfl, q1 (r2.nil_iff.mp z)⟩) (fun z => ?_) (by rw [← r1.length, ← r2.length]; exact hz)
  refine ⟨.ref s.heap.objs.size, _, I.laid (t' := s.toks) (o := .tup (xs ++ ys)) (fun b ob q => Heap.get?_push_of_some _ q) (Nat.le_refl _) ?_, rfl, q2 (fun w => z (r2.nil_iff.mpr w)) _ (I.hok.fresh (Nat.le_refl _))⟩
  exact ⟨by rw [List.length_append]; exact hz, _, r1.append r2, IsTup.new _ _⟩
end
end L2

namespace L2
open PySem PySem.Spec PyProof.Rows

/-! ### places -/
/-- the place that an index of any sign means -/
def ixN (n : Nat) (i : Int) : Option Nat := if 0 ≤ i then (if i < n then some i.toNat else none) else if -(n : Int) ≤ i then some (i + n).toNat else none
def atI {α : Type} (xs : List α) (i : Int) : Option α := (ixN xs.length i).bind fun j => xs[j]?
theorem ixN_seq {n : Nat} {i : Int} {j : Nat} (h : ixN n i = some j) : seqIndex? i n = some j ∧ j < n ∧ -(n : Int) ≤ i ∧ i < n := by
  unfold ixN at h
  by_cases h0 : 0 ≤ i
  · rw [if_pos h0] at h
    by_cases h1 : i < n
    · rw [if_pos h1] at h
      have e : i.toNat = j := Option.some.inj h
      exact ⟨by rw [seqIndex_of h0 h1, e], by omega, by omega, h1⟩
    · rw [if_neg h1] at h; cases h
  · rw [if_neg h0] at h
    by_cases h1 : -(n : Int) ≤ i
    · rw [if_pos h1] at h
      have e : (i + n).toNat = j := Option.some.inj h
      exact ⟨by rw [seqIndex_neg (by omega) h1, e], by omega, h1, by omega⟩
    · rw [if_neg h1] at h; cases h
theorem atI_get {α : Type} {xs : List α} {i : Int} {v : α} (h : atI xs i = some v) : ∃ j, seqIndex? i xs.length = some j ∧ xs[j]? = some v ∧ j < xs.length ∧ -(xs.length : Int) ≤ i ∧ i < xs.length := by
  unfold atI at h
  cases e : ixN xs.length i with
  | none => rw [e] at h; cases h
  | some j =>
    rw [e] at h
    obtain ⟨h1, h2, h3, h4⟩ := ixN_seq e
    exact ⟨j, h1, h, h2, h3, h4⟩
/-! ### what may be subscripted -/
/-- what stands as an index of a plain subscript -/
def PlainIx (b : Expr) : Prop := ∀ o i, subscripted b false o i = operate [o, i] (getItem o i)
/-- a subscript by values -/
def IxR (X : Cx) (r : R2) : Prop :=
  ∀ (value slice : Expr) (pins : List (Addr × Obj)) (s : Shared) (σ : St) (H : Hp) (x y : V) (v u : Value) (Q : VK), Inv X pins σ H s → RelV x v → RelV y u → r x y H Q →
    subscripted slice false v u = operate [v, u] (getItem v u) → wpAny (model X.prog X.w) X.A (subscriptTail value slice v u) (EP X pins σ Q) X.xe s
/-- a call of a builtin's method by values: the receiver, the arguments -/
def MtR (X : Cx) (id : String) (r : V → List V → Hp → VK → Prop) : Prop :=
  ∀ (pins : List (Addr × Obj)) (s : Shared) (σ : St) (H : Hp) (x : V) (xs : List V) (v : Value) (us : List Value) (Q : VK), Inv X pins σ H s → RelV x v → Vals xs us → r x xs H Q →
    wpAny (model X.prog X.w) X.A (call (.builtin id) (v :: us)) (EP X pins σ Q) X.xe s
section
variable {X : Cx} {a b : Expr} {ta tb : TE} {pos : Pos}
theorem IxR.or {r r' : R2} (h : IxR X r) (h' : IxR X r') : IxR X (fun x y H Q => r x y H Q ∨ r' x y H Q) := by
  intro value slice pins s σ H x y v u Q I rx ry q hs
  rcases q with q | q
  · exact h value slice pins s σ H x y v u Q I rx ry q hs
  · exact h' value slice pins s σ H x y v u Q I rx ry q hs
theorem MtR.or {id : String} {r r' : V → List V → Hp → VK → Prop} (h : MtR X id r) (h' : MtR X id r') : MtR X id (fun x xs H Q => r x xs H Q ∨ r' x xs H Q) := by
  intro pins s σ H x xs v us Q I rx rs q
  rcases q with q | q
  · exact h pins s σ H x xs v us Q I rx rs q
  · exact h' pins s σ H x xs v us Q I rx rs q
/-- a[b] -/
theorem pe_ix {r : R2} (hr : IxR X r) (ha : PE X a ta) (hb : PE X b tb) (hs : PlainIx b) : PE X (.Subscript a b pos) (tOp r ta tb) := by
  intro pins s σ H Q I h
  exact Subscript_ (binT ha hb I h fun v u s2 x y H2 I2 rx ry q => hr a b pins s2 σ H2 x y v u Q I2 rx ry q (hs _ _))

def rIxL (K : PySem.W.Frag) : R2 := fun x y H Q => ∃ p xs i v, x = .ref p ∧ y = .int i ∧ SqL K H p xs ∧ atI xs i = some v ∧ Q v H
def rIxT (K : PySem.W.Frag) : R2 := fun x y H Q => ∃ p xs i v, x = .ref p ∧ y = .int i ∧ SqT K H p xs ∧ atI xs i = some v ∧ Q v H
def rIxS : R2 := fun x y H Q => ∃ z i c, x = .str z ∧ y = .int i ∧ z.length ≤ sizeLine ∧ atI z.cps.toList i = some c ∧ Q (.str ⟨#[c]⟩) H
theorem ix_list : IxR X (rIxL X.K) := by
  intro value slice pins s σ H x y v u Q I rx ry h hs
  obtain ⟨p, xs, i, z, rfl, rfl, hq, he, q⟩ := h
  cases rx
  obtain ⟨t, rfl⟩ := ry
  obtain ⟨its, r, pl, hz⟩ := I.list hq
  obtain ⟨j, h1, h2, h3, h4, h5⟩ := atI_get he
  obtain ⟨w, ew, rw'⟩ := r.get h2
  have hl := r.length
  have hn := line63
  have fin : EP X pins σ Q w s := ⟨z, H, I, rw', q⟩
  by_cases h0 : 0 ≤ i
  · have hj : i.toNat = j := by
      rw [seqIndex_of h0 h5] at h1
      exact Option.some.inj h1
    exact item_listR pl.isList h0 (by omega) (by rw [hj]; simpa using ew) fin hs
  · have hj : (i + (its.toArray.size : Int)).toNat = j := by
      rw [seqIndex_neg (by omega) h4] at h1
      rw [List.size_toArray, ← hl]
      exact Option.some.inj h1
    exact subscriptTail_builtinR (x := w) pl.isList.typeIs slot_list_getitem.lookup
      (wpAny_getItem_list_neg (Q := fun r s' => r = w ∧ EP X pins σ Q r s') pl.isList (by omega) (by rw [List.size_toArray] <;> omega) (by omega) (by rw [hj]; simpa using ew) ⟨rfl, fin⟩) hs
theorem ix_tup : IxR X (rIxT X.K) := by
  intro value slice pins s σ H x y v u Q I rx ry h hs
  obtain ⟨p, xs, i, z, rfl, rfl, hq, he, q⟩ := h
  cases rx
  obtain ⟨t, rfl⟩ := ry
  obtain ⟨its, r, pl, hz⟩ := I.tuple hq
  obtain ⟨j, h1, h2, h3, h4, h5⟩ := atI_get he
  obtain ⟨w, ew, rw'⟩ := r.get h2
  have hl := r.length
  have hn := line63
  have fin : EP X pins σ Q w s := ⟨z, H, I, rw', q⟩
  exact subscriptTail_builtinR (x := w) pl.typeIs slot_tuple_getitem.lookup
    (getItem_tuple (j := j) (Q := fun r s' => r = w ∧ EP X pins σ Q r s') pl (by omega) (by omega) (by rw [List.size_toArray, ← hl]; exact h1) (by simpa using ew) ⟨rfl, fin⟩) hs
theorem ix_str : IxR X rIxS := by
  intro value slice pins s σ H x y v u Q I rx ry h hs
  obtain ⟨z, i, c, rfl, rfl, hz, he, q⟩ := h
  obtain ⟨t, rfl⟩ := rx
  obtain ⟨t', rfl⟩ := ry
  obtain ⟨j, h1, h2, h3, h4, h5⟩ := atI_get he
  have hl : z.cps.toList.length = z.length := by simp [Str.length]
  rw [hl] at h1 h4 h5
  have hn := line63
  exact tail_any (typeIs_str s z t) slot_str_getitem.lookup (getItem_str (c := c) (by
    have e1 : decide (i < -(2 ^ 63 : Int)) = false := decide_eq_false (by omega)
    have e2 : decide (i ≥ 2 ^ 63) = false := decide_eq_false (by omega)
    rw [e1, e2, Bool.or_false]) (by rw [h1]; simpa using h2) ⟨.str ⟨#[c]⟩, H, I.tok _, ⟨_, rfl⟩, q⟩) hs
/-- list, tuple or str -/
def rIx (K : PySem.W.Frag) : R2 := fun x y H Q => rIxL K x y H Q ∨ rIxT K x y H Q ∨ rIxS x y H Q
theorem ix_seq : IxR X (rIx X.K) := ix_list.or (ix_tup.or ix_str)

/-! ### xs[i] = v, any sign -/
/-- the list's object behind a store -/
theorem mapSeq_set (its : List Value) (n j : Nat) (u : Value) : Obj.mapSeq (·.setIfInBounds j u) { cls := .type "list", data := .seq its.toArray n } = { cls := .type "list", data := .seq (its.set j u).toArray n } := by
  simp [Obj.mapSeq]
theorem Inv.lst {pins : List (Addr × Obj)} {σ : St} {H : Hp} {s : Shared} {p : Addr} {xs : List V} (I : Inv X pins σ H s) (h : H p = some (.lst xs)) :
    ∃ (its : List Value) (n : Nat), Vals xs its ∧ s.heap.get? p = some { cls := .type "list", data := .seq its.toArray n } ∧ xs.length ≤ sizeLine := by
  obtain ⟨z, its, n, r, e⟩ := I.hok p _ h
  exact ⟨its, n, r, e, z⟩
/-- the list at p is written by an update of its object -/
theorem Inv.lstUpd {pins : List (Addr × Obj)} {σ : St} {H : Hp} {s : Shared} {p : Addr} {xs ys : List V} {its its' : List Value} {n n' : Nat} {f : Obj → Obj} (I : Inv X pins σ H s) (h : H p = some (.lst xs))
    (ho : s.heap.get? p = some { cls := .type "list", data := .seq its.toArray n }) (hf : f { cls := .type "list", data := .seq its.toArray n } = { cls := .type "list", data := .seq its'.toArray n' }) (r : Vals ys its') (hz : ys.length ≤ sizeLine) (t : Nat) :
    Inv X pins σ (upd H p (.lst ys)) { s with heap := s.heap.update p f, toks := t } := by
  have e : (s.heap.update p f).get? p = some { cls := .type "list", data := .seq its'.toArray n' } := by
    rw [Heap.get?_update_self f ho (by rw [hf] <;> rfl), hf]
  refine I.write (x := p) (e := p) (by rw [h]; trivial) (.inl rfl) (fun b u hb q => (Heap.get?_update_other _ _ (Ne.symm hb)).trans q) ⟨_, e⟩ ?_
  exact ⟨hz, its', n', r, e⟩
def rSetL : V → V → V → Hp → (Hp → Prop) → Prop := fun o i v H Q => ∃ p xs k j, o = .ref p ∧ i = .int k ∧ H p = some (.lst xs) ∧ ixN xs.length k = some j ∧ Q (upd H p (.lst (xs.set j v)))
theorem set_list : PSet X rSetL := by
  intro pins s σ H o i v ov iv u Q I ro ri rv h
  obtain ⟨p, xs, k, j, rfl, rfl, hp, hj, q⟩ := h
  cases ro
  obtain ⟨t, rfl⟩ := ri
  obtain ⟨its, n, r, ho, hz⟩ := I.lst hp
  obtain ⟨h1, h2, h3, h4⟩ := ixN_seq hj
  have hl := r.length
  have hn := line63
  have I' : Inv X pins σ (upd H p (.lst (xs.set j v))) { s with heap := s.heap.update p (Obj.mapSeq (·.setIfInBounds j u)) } :=
    I.lstUpd hp ho (mapSeq_set its n j u) (r.set rv j) (by rw [List.length_set]; exact hz) s.toks
  by_cases h0 : 0 ≤ k
  · have hk : k.toNat = j := by
      rw [seqIndex_of h0 h4] at h1
      exact Option.some.inj h1
    exact PySem.W.ki_setAt ho h0 (by omega) (by rw [List.size_toArray, ← hl]; exact h4) (by rw [hk]; exact ⟨_, I', q⟩)
  · have hk : (k + (its.toArray.size : Int)).toNat = j := by
      rw [seqIndex_neg (by omega) h3] at h1
      rw [List.size_toArray, ← hl]
      exact Option.some.inj h1
    exact PySem.W.ki_setBack ho (by omega) (by rw [List.size_toArray, ← hl]; exact h3) (by omega) (by rw [hk]; exact ⟨_, I', q⟩)

/-! ### slices -/
theorem slice_bounds (lo hi : Option Int) (n : Nat) : (sliceBounds lo hi none n).1 = ((HT.sIx n 0 lo : Nat) : Int) ∧ (sliceBounds lo hi none n).2.1 = ((HT.sIx n n hi : Nat) : Int) ∧ (sliceBounds lo hi none n).2.2 = 1 := by
  refine ⟨?_, ?_, rfl⟩
  · cases lo with
    | none => simp [sliceBounds, HT.sIx]
    | some i =>
      simp only [sliceBounds, HT.sIx, Option.getD_none, show (1 : Int) > 0 by decide, if_true]
      by_cases h : i < 0
      · simp only [h, if_true] <;> omega
      · simp only [h, if_false] <;> omega
  · cases hi with
    | none => simp [sliceBounds, HT.sIx]
    | some i =>
      simp only [sliceBounds, HT.sIx, Option.getD_none, show (1 : Int) > 0 by decide, if_true]
      by_cases h : i < 0
      · simp only [h, if_true] <;> omega
      · simp only [h, if_false] <;> omega
theorem slicePick_cut (its : List Value) (lo hi : Option Int) : slicePick its.toArray lo hi none = ((its.drop (HT.sIx its.length 0 lo)).take (HT.sIx its.length its.length hi - HT.sIx its.length 0 lo)).toArray := by
  obtain ⟨h1, h2, h3⟩ := slice_bounds lo hi its.toArray.size
  unfold slicePick
  rw [h1, h2, h3]
  simp only [sliceRange_one, pick_run, List.size_toArray] <;> rfl
/-- xs[lo:hi] of a list: a new list -/
def rSlL (K : PySem.W.Frag) : V → Option Int → Option Int → Hp → VK → Prop := fun x lo hi H Q => ∃ a xs, x = .ref a ∧ SqL K H a xs ∧ ∀ p, H p = none → Q (.ref p) (upd H p (.lst (cutV xs lo hi)))
theorem sl_list : SlR X (rSlL X.K) := by
  intro pins s σ H x v vl vu lo hi sl Q I rx hs pl pu h
  obtain ⟨a, xs, rfl, hx, q⟩ := h
  cases rx
  obtain ⟨its, r, ht, hz⟩ := I.list hx
  have hlen := r.length
  refine ⟨"list", _, slot_list_getitem.lookup, ht.isList.typeIs, ?_⟩
  refine wpAny_getItem_list_slice ht.isList hs pl pu .none (by simp) ?_ (by rw [List.size_toArray] <;> omega)
  rw [slicePick_cut, ← hlen]
  refine ⟨.ref s.heap.objs.size, _, I.laid (t' := s.toks) (o := .lst (cutV xs lo hi)) (fun b ob q => Heap.get?_push_of_some _ q) (Nat.le_refl _) ?_, rfl, q _ (I.hok.fresh (Nat.le_refl _))⟩
  exact ⟨Nat.le_trans (cutV_length xs lo hi) hz, _, 0, (r.drop (HT.sIx xs.length 0 lo)).take (HT.sIx xs.length xs.length hi - HT.sIx xs.length 0 lo), Heap.get?_push_size _ rfl⟩

/-! ### in, not in: flat items -/
/-! ### len, list(x), tuple(x) of any list or tuple that is read -/
theorem call_len_seq : CallR X (.builtin "len") (fun xs H Q => ∃ p ys, xs = [.ref p] ∧ (SqL X.K H p ys ∨ SqT X.K H p ys) ∧ Q (.int ys.length) H) := by
  intro pins s σ H xs us Q I r h
  obtain ⟨p, ys, rfl, hq, q⟩ := h
  obtain ⟨u, rfl, rx⟩ := vals1 r
  cases rx
  have hn := line63
  rcases hq with hq | hq
  · obtain ⟨its, r', pl, hz⟩ := I.list hq
    have hlen := r'.length
    exact Calls.call_len_list pl.isList (by simp only [List.size_toArray] <;> omega) ⟨.int ys.length, H, I.tok _, ⟨s.toks + 1, by rw [List.size_toArray, hlen]⟩, q⟩
  · obtain ⟨its, r', pl, hz⟩ := I.tuple hq
    have hlen := r'.length
    exact len_tuple pl (by simp only [List.size_toArray] <;> omega) ⟨.int ys.length, H, I.tok _, ⟨s.toks + 1, by rw [List.size_toArray, hlen]⟩, q⟩
theorem CallR.or {f : Value} {r r' : List V → Hp → VK → Prop} (h : CallR X f r) (h' : CallR X f r') : CallR X f (fun xs H Q => r xs H Q ∨ r' xs H Q) := by
  intro pins s σ H xs us Q I rs q
  rcases q with q | q
  · exact h pins s σ H xs us Q I rs q
  · exact h' pins s σ H xs us Q I rs q
theorem call_list_of : CallR X (.type "list") (fun xs H Q => ∃ p ys, xs = [.ref p] ∧ (SqL X.K H p ys ∨ SqT X.K H p ys) ∧ ∀ l, H l = none → Q (.ref l) (upd H l (.lst ys))) := by
  intro pins s σ H xs us Q I r h
  obtain ⟨p, ys, rfl, hq, q⟩ := h
  obtain ⟨u, rfl, rx⟩ := vals1 r
  cases rx
  have fin : ∀ (its : List Value), Vals ys its → ys.length ≤ sizeLine → ∀ (h' : Heap) (c' : Nat), (∀ b o', s.heap.get? b = some o' → h'.get? b = some o') →
      h'.get? s.heap.objs.size = some { cls := .type "list", dict := none, data := .seq its.toArray c', slots := #[] } → EP X pins σ Q (.ref s.heap.objs.size) { s with heap := h' } := fun its r' hz h' c' kp e =>
    ⟨.ref s.heap.objs.size, _, I.laid (t' := s.toks) kp (Nat.le_refl _) (show ObjOk X.prog X.w _ h' _ (.lst ys) from ⟨hz, its, c', r', e⟩), rfl, q _ (I.hok.fresh (Nat.le_refl _))⟩
  rcases hq with hq | hq
  · obtain ⟨its, r', pl, hz⟩ := I.list hq
    have hlen := r'.length
    obtain ⟨o, ho, hc, n, hd⟩ := pl.isList
    exact call_list_seq p (.inl rfl) ho hc hd (fun h' c' kp e => fin its r' hz h' c' kp e) (by simp only [List.size_toArray] <;> omega)
  · obtain ⟨its, r', pl, hz⟩ := I.tuple hq
    have hlen := r'.length
    obtain ⟨o, ho, hc, n, hd⟩ := pl
    exact call_list_seq p (.inr rfl) ho hc hd (fun h' c' kp e => fin its r' hz h' c' kp e) (by simp only [List.size_toArray] <;> omega)
/-! ### the call of a builtin's method: o.m(..) -/
/-- the value is of that builtin type -/
def tyV (K : PySem.W.Frag) (T : String) (x : V) (H : Hp) : Prop := match x with
  | .str _ => T = "str"
  | .int _ => T = "int"
  | .ref p => (T = "list" ∧ ∃ xs, SqL K H p xs) ∨ (T = "tuple" ∧ ∃ o, K.lookup p = some o ∧ o.cls = .type "tuple" ∧ o.dict = none) ∨
      (T = "dict" ∧ ((∃ kvs, H p = some (.dK kvs)) ∨ ∃ kvs, H p = some (.dT kvs))) ∨ (T = "set" ∧ ∃ S n, H p = some (.set S n))
  | _ => False
theorem tyV_is {pins : List (Addr × Obj)} {σ : St} {H : Hp} {s : Shared} {T : String} {x : V} {v : Value} (I : Inv X pins σ H s) (r : RelV x v) (ty : tyV X.K T x H) :
    s.TypeIs v T ∧ ∀ a, v = .ref a → ∃ ob, s.heap.get? a = some ob ∧ ob.dict = none := by
  cases x with
  | str z =>
    obtain ⟨t, rfl⟩ := r
    cases (show T = "str" from ty)
    exact ⟨typeIs_str s z t, fun _ e => nomatch e⟩
  | int i =>
    obtain ⟨t, rfl⟩ := r
    cases (show T = "int" from ty)
    exact ⟨typeIs_int s i t, fun _ e => nomatch e⟩
  | ref p =>
    cases r
    rcases ty with ⟨rfl, xs, hq⟩ | ⟨rfl, o, hk, hc, hd⟩ | ⟨rfl, hk⟩ | ⟨rfl, S, n, hk⟩
    · obtain ⟨its, _, pl, _⟩ := I.list hq
      refine ⟨pl.isList.typeIs, fun a e => ?_⟩
      cases e
      obtain ⟨o, n, e, c, hd, _⟩ := pl
      exact ⟨o, e, hd⟩
    · refine ⟨⟨o, I.kIn p o hk, hc⟩, fun a e => ?_⟩
      cases e
      exact ⟨o, I.kIn _ o hk, hd⟩
    · have z : ∃ o, s.heap.get? p = some o ∧ o.ExactDict := by
        rcases hk with ⟨kvs, hk⟩ | ⟨kvs, hk⟩
        · obtain ⟨_, _, _, _, o, _, _, e, ex, _⟩ := I.hok p _ hk
          exact ⟨o, e, ex⟩
        · obtain ⟨_, _, _, _, o, _, _, e, ex, _⟩ := I.hok p _ hk
          exact ⟨o, e, ex⟩
      obtain ⟨o, e, ex⟩ := z
      refine ⟨⟨o, e, ex.1⟩, fun a e2 => ?_⟩
      cases e2
      exact ⟨o, e, ex.2.1⟩
    · obtain ⟨o, _, _, _, e, ex, _⟩ := I.hok p _ hk
      refine ⟨⟨o, e, ex.1⟩, fun a e2 => ?_⟩
      cases e2
      exact ⟨o, e, ex.2.1⟩
  | _ => exact False.elim ty
def tBM (K : PySem.W.Frag) (T : String) (r : V → List V → Hp → VK → Prop) (to : TE) (t : TA) : TE := fun σ H Q => to σ H fun x H1 => tyV K T x H1 ∧ t σ H1 fun xs H2 => r x xs H2 Q
variable {o e : Expr} {es : List Expr} {to : TE} {t : TA} {name : Str} {apos cpos : Pos} {T id : String} {r : V → List V → Hp → VK → Prop}
theorem pe_bm (pa : PlainAttrs T) (slot : Slot T name id) (hty : typeOf (.builtin id) = pure (.type "method_descriptor")) (hm : MtR X id r) (ho : PE X o to) (ha : PA X (e :: es) t)
    (hbase : attributeBase o name X.env (eval o X.env) = eval o X.env := by rfl)
    (hfew : ((backTo cpos (starEach (e :: es) X.env)).all (fun x => !x.1) && (backToKw cpos (keywordEach [] X.env)).all (fun x => x.1.isSome)
      && decide ((e :: es).length + ([] : List Keyword).length + (if ([] : List Keyword).isEmpty then 0 else 1) < 30)) = true := by rfl)
    (hline : (apos.endLine == cpos.line) = true := by rfl) (hs : starEach (e :: es) X.env = (false, eval e X.env) :: starEach es X.env := by rfl) (hplain : (backTo cpos (starEach es X.env)).any (·.1) = false := by rfl) :
    PE X (.Call (.Attribute o name apos) (e :: es) [] cpos) (tBM X.K T r to t) := by
  intro pins s σ H Q I h
  refine wpAny_Call_method_late hbase hfew hline rfl (thn (ho pins s σ H _ I h) fun v s1 ⟨x, H1, I1, r1, ty, q1⟩ => ?_)
  obtain ⟨h1, h2⟩ := tyV_is I1 r1 ty
  refine ⟨T, id, pa, slot, hty, h1, h2, ?_⟩
  have hA := ha cpos pins s1 σ H1 _ I1 q1
  rw [hs] at hA ⊢
  refine Calls.callWith_builtin (by show (false || (backTo cpos (starEach es X.env)).any (·.1)) = false; rw [hplain] <;> rfl) (Calls.evalArgs_plain ?_)
  exact thn hA fun us s2 ⟨vs, H2, I2, r2, q2⟩ => hm pins s2 σ H2 x vs v us Q I2 r1 r2 q2
/- xs.append(e), list.index on a module's tuple .. are MtR facts of 06m -/
end
end L2

namespace L2
open PySem PySem.Spec PyProof.Rows

def MtM (X : Cx) (id : String) (r : V → List V → Hp → VK → Prop) : Prop :=
  ∀ (pins : List (Addr × Obj)) (s : Shared) (σ : St) (H : Hp) (x : V) (xs : List V) (v : Value) (us : List Value) (Q : VK), Inv X pins σ H s → RelV x v → Vals xs us → r x xs H Q →
    wpAny (model X.prog X.w) X.A (call (.builtin id) (v :: us)) (EP X pins σ Q) X.xe s

/-! ### lists of values -/
theorem Vals.one : ∀ {x : V} {us : List Value}, Vals [x] us → ∃ u, us = [u] ∧ RelV x u
  | _, _, .cons r .nil => ⟨_, rfl, r⟩
theorem Vals.zero : ∀ {us : List Value}, Vals [] us → us = []
  | _, .nil => rfl
theorem Vals.dropLast {xs : List V} {us : List Value} (h : Vals xs us) : Vals xs.dropLast us.dropLast := by
  induction h with
  | nil => exact .nil
  | cons r t ih =>
    cases t with
    | nil => exact .nil
    | cons q t' => exact .cons r ih
theorem Vals.eraseIdx : ∀ {xs : List V} {us : List Value} (i : Nat), Vals xs us → Vals (xs.eraseIdx i) (us.eraseIdx i)
  | _, _, _, .nil => .nil
  | _, _, 0, .cons _ t => t
  | _, _, i + 1, .cons r t => .cons r (Vals.eraseIdx i t)
theorem Vals.rep {xs : List V} {us : List Value} (h : Vals xs us) : ∀ k : Nat, Vals (List.replicate k xs).flatten (List.replicate k us).flatten
  | 0 => .nil
  | k + 1 => by
    rw [List.replicate_succ, List.replicate_succ, List.flatten_cons, List.flatten_cons]
    exact Vals.append h (Vals.rep h k)
theorem erase_last {α : Type} (l : List α) : l.eraseIdx (l.length - 1) = l.dropLast := by
  induction l with
  | nil => rfl
  | cons a r ih =>
    cases r with
    | nil => rfl
    | cons b r =>
      have e : (a :: b :: r).length - 1 = ((b :: r).length - 1) + 1 := by
        have h1 : (a :: b :: r).length = r.length + 2 := rfl
        have h2 : (b :: r).length = r.length + 1 := rfl
        omega
      rw [e, List.eraseIdx_cons_succ, ih]
      all_goals rfl
theorem len_erase {α : Type} : ∀ (l : List α) (i : Nat), (l.eraseIdx i).length ≤ l.length
  | [], _ => Nat.le_refl _
  | _ :: _, 0 => Nat.le_succ _
  | _ :: r, i + 1 => Nat.succ_le_succ (len_erase r i)
theorem foldl_rep (its : List Value) : ∀ (k : Nat) (acc : List Value),
    List.foldl (fun x1 x2 => x1 ++ x2) acc.toArray (List.replicate k its.toArray) = (acc ++ (List.replicate k its).flatten).toArray
  | 0, acc => by simp
  | k + 1, acc => by
    have e : acc.toArray ++ its.toArray = (acc ++ its).toArray := by simp
    have e2 : (acc ++ its) ++ (List.replicate k its).flatten = acc ++ (List.replicate (k + 1) its).flatten := by
      rw [List.replicate_succ, List.flatten_cons, List.append_assoc]
    rw [← e2, ← foldl_rep its k (acc ++ its), ← e, List.replicate_succ, List.foldl_cons]

section
variable {X : Cx} {pins : List (Addr × Obj)} {σ : St} {H : Hp} {s : Shared} {l b : Addr} {xs ys zs : List V}

/-! ### the two steps: a tracked list is rewritten, a new list is laid -/
theorem Inv.lset {its its' : List Value} {n : Nat} {f : Array Value → Array Value} {t' : Nat} (I : Inv X pins σ H s) (hH : H l = some (.lst xs))
    (e : s.heap.get? l = some { cls := .type "list", data := .seq its.toArray n }) (hf : f its.toArray = its'.toArray) (hv : Vals ys its') (hz : ys.length ≤ sizeLine) :
    Inv X pins σ (upd H l (.lst ys)) { s with heap := s.heap.update l (Obj.mapSeq f), toks := t' } := by
  have q := PySem.IsL.update e f
  rw [hf] at q
  refine I.write (x := l) (e := l) (by rw [hH]; exact trivial) (.inl rfl) (fun b' u hb hu => (Heap.get?_update_other s.heap (Obj.mapSeq f) (Ne.symm hb)).trans hu) ⟨_, q⟩ ?_
  exact ⟨hz, its', _, hv, q⟩
theorem Inv.lnew {its : List Value} {t' : Nat} (I : Inv X pins σ H s) (hv : Vals ys its) (hz : ys.length ≤ sizeLine) :
    Inv X pins σ (upd H s.heap.objs.size (.lst ys)) { s with heap := s.heap.push { cls := .type "list", data := .seq its.toArray }, toks := t' } :=
  I.laid (fun _ _ q => Heap.get?_push_of_some _ q) (Nat.le_refl _) ⟨hz, its, 0, hv, Heap.get?_push_size _ rfl⟩
theorem Inv.fresh (I : Inv X pins σ H s) : H s.heap.objs.size = none := I.hok.fresh (Nat.le_refl _)
theorem Inv.lstM (I : Inv X pins σ H s) (hH : H l = some (.lst xs)) : xs.length ≤ sizeLine ∧ ∃ (its : List Value) (n : Nat), Vals xs its ∧ xs.length = its.length ∧ s.heap.get? l = some { cls := .type "list", data := .seq its.toArray n } := by
  obtain ⟨z, its, n, r, e⟩ := I.hok l _ hH
  exact ⟨z, its, n, r, r.length, e⟩

theorem notLongL {n : Nat} (h : n ≤ sizeLine) : Builtin.List.listTooLong n = false := by
  unfold Builtin.List.listTooLong
  exact decide_eq_false (by omega)
end

section
variable {X : Cx}

/-! ### methods -/
def rAppend : V → List V → Hp → VK → Prop := fun x vs H Q => ∃ l xs y, x = .ref l ∧ vs = [y] ∧ H l = some (.lst xs) ∧ xs.length < sizeLine ∧ Q .non (upd H l (.lst (xs ++ [y])))
theorem mt_append : MtM X "list.append" rAppend := by
  intro pins s σ H x vs v us Q I rx rv h
  obtain ⟨l, xs, y, rfl, rfl, hH, hz, q⟩ := h
  cases rx
  obtain ⟨u, rfl, ru⟩ := rv.one
  obtain ⟨z, its, n, r, hl, e⟩ := I.lstM hH
  refine call_meets F.slot_list_append ⟨_, e, rfl⟩ F.entry_list_append (F.args_list_append_2 _ _) (PySem.list_append l its.toArray n u (by rw [List.size_toArray]; omega)) ⟨e, ?_⟩
  refine ⟨.non, _, I.lset (its' := its ++ [u]) hH e (by simp) (r.append (.cons ru .nil)) ?_, rfl, q⟩
  rw [List.length_append, List.length_singleton]
  omega

def rPop : V → List V → Hp → VK → Prop := fun x vs H Q => ∃ l xs y, x = .ref l ∧ vs = [] ∧ H l = some (.lst xs) ∧ xs[xs.length - 1]? = some y ∧ Q y (upd H l (.lst xs.dropLast))
theorem mt_pop : MtM X "list.pop" rPop := by
  intro pins s σ H x vs v us Q I rx rv h
  obtain ⟨l, xs, y, rfl, rfl, hH, hy, q⟩ := h
  cases rx
  have hus := rv.zero
  subst hus
  obtain ⟨z, its, n, r, hl, e⟩ := I.lstM hH
  obtain ⟨u, hu, ru⟩ := r.get hy
  have hy' : its.toArray[its.toArray.size - 1]? = some u := by
    show its.toArray[its.length - 1]? = some u
    rw [← Array.getElem?_toList, ← hl]
    exact hu
  refine call_meets F.slot_list_pop ⟨_, e, rfl⟩ F.entry_list_pop (F.args_list_pop_1 _) (MeetsSeq.list_pop_last l its.toArray n u hy' (by rw [List.size_toArray]; omega)) ⟨e, ?_⟩
  refine ⟨y, _, I.lset (its' := its.dropLast) hH e ?_ r.dropLast ?_, ru, q⟩
  · show its.toArray.eraseIdxIfInBounds (its.toArray.size - 1) = its.dropLast.toArray
    rw [List.size_toArray, List.eraseIdxIfInBounds_toArray, erase_last]
  · rw [List.length_dropLast]
    omega

def rPopAt : V → List V → Hp → VK → Prop := fun x vs H Q => ∃ l xs i k y, x = .ref l ∧ vs = [.int i] ∧ H l = some (.lst xs) ∧ -(2 ^ 63) ≤ i ∧ i < 2 ^ 63 ∧ seqIndex? i xs.length = some k ∧ xs[k]? = some y ∧ Q y (upd H l (.lst (xs.eraseIdx k)))
theorem mt_popAt : MtM X "list.pop" rPopAt := by
  intro pins s σ H x vs v us Q I rx rv h
  obtain ⟨l, xs, i, k, y, rfl, rfl, hH, h1, h2, hk, hy, q⟩ := h
  cases rx
  obtain ⟨u, rfl, ru⟩ := rv.one
  obtain ⟨t, rfl⟩ := ru
  obtain ⟨z, its, n, r, hl, e⟩ := I.lstM hH
  obtain ⟨w, hw, rw'⟩ := r.get hy
  refine call_meets F.slot_list_pop ⟨_, e, rfl⟩ F.entry_list_pop (F.args_list_pop_2 _ _)
    (MeetsSeq.list_pop_at l its.toArray n i t k w (fitsIndex_both h1 h2) (by rw [List.size_toArray, ← hl]; exact hk) (by rw [← Array.getElem?_toList]; exact hw) (by rw [List.size_toArray]; omega)) ⟨e, ?_⟩
  refine ⟨y, _, I.lset (its' := its.eraseIdx k) hH e ?_ (r.eraseIdx k) ?_, rw', q⟩
  · show its.toArray.eraseIdxIfInBounds k = (its.eraseIdx k).toArray
    rw [List.eraseIdxIfInBounds_toArray]
  · have := len_erase xs k
    omega

/-! ### list + list, list += list, list * int -/
def rCat : R2 := fun x y H Q => ∃ l b xs zs, x = .ref l ∧ y = .ref b ∧ H l = some (.lst xs) ∧ H b = some (.lst zs) ∧ xs.length + zs.length ≤ sizeLine ∧ ∀ p, H p = none → Q (.ref p) (upd H p (.lst (xs ++ zs)))
theorem op_cat : OpR X (binaryOp .Add) rCat := by
  intro pins s σ H x y v u Q I rx ry h
  obtain ⟨l, b, xs, zs, rfl, rfl, hH, hB, hz, q⟩ := h
  cases rx
  cases ry
  obtain ⟨z, its, n, r, hl, e⟩ := I.lstM hH
  obtain ⟨z2, its2, n2, r2, hl2, e2⟩ := I.lstM hB
  refine PySem.P.add_list e e2 ?_ (by rw [List.size_toArray, List.size_toArray]; omega)
  have ea : its.toArray ++ its2.toArray = (its ++ its2).toArray := by simp
  rw [ea]
  exact ⟨.ref _, _, I.lnew (t' := s.toks) (r.append r2) (by rw [List.length_append]; omega), rfl, q _ I.fresh⟩
/-- a list times an int (a negative one is nothing) -/
def rRep : R2 := fun x y H Q => ∃ l k xs, x = .ref l ∧ y = .int k ∧ H l = some (.lst xs) ∧ -(2 ^ 63) ≤ k ∧ k < 2 ^ 63 ∧ xs.length * k.toNat ≤ sizeLine ∧
  ∀ p, H p = none → Q (.ref p) (upd H p (.lst (List.replicate k.toNat xs).flatten))
theorem len_rep {α : Type} (xs : List α) (k : Nat) : (List.replicate k xs).flatten.length = k * xs.length := by
  induction k with
  | zero => simp
  | succ k ih => rw [List.replicate_succ, List.flatten_cons, List.length_append, ih, Nat.succ_mul, Nat.add_comm]
theorem op_rep : OpR X (binaryOp .Mult) rRep := by
  intro pins s σ H x y v u Q I rx ry h
  obtain ⟨l, k, xs, rfl, rfl, hH, h1, h2, hz, q⟩ := h
  cases rx
  obtain ⟨t, rfl⟩ := ry
  obtain ⟨z, its, n, r, hl, e⟩ := I.lstM hH
  have hlen : its.toArray.size * k.toNat ≤ sizeLine := by rw [List.size_toArray, ← hl]; exact hz
  have hcap : ¬ its.toArray.size * k.toNat > (2 ^ 63 - 1) / 8 := by
    have : (sizeLine : Nat) ≤ (2 ^ 63 - 1) / 8 := by decide
    omega
  have hfit : ¬ (!Builtin.List.listFitsIndex k) = true := by
    rw [fitsIndex_both h1 h2]
    exact Bool.false_ne_true
  have hlong : ¬ Builtin.List.listTooLong (its.toArray.size * k.toNat) = true := by
    rw [notLongL hlen]
    exact Bool.false_ne_true
  have hnew : List.foldl (fun x1 x2 => x1 ++ x2) #[] (List.replicate (if its.toArray.isEmpty = true then 0 else k.toNat) its.toArray) = (List.replicate k.toNat its).flatten.toArray := by
    have f0 : ∀ m : Nat, List.foldl (fun x1 x2 => x1 ++ x2) #[] (List.replicate m its.toArray) = (List.replicate m its).flatten.toArray := fun m => by
      have := foldl_rep its m []
      rw [List.nil_append] at this
      exact this
    rw [f0]
    cases its with
    | nil => simp
    | cons a r' => rw [if_neg (by simp)]
  refine wpAny_binaryOp_repeat_ref (T := "list") (U := "int") (by decide) ⟨_, e, rfl⟩ (fun s' => typeIs_int s' k t) noFill_list_mul F.fills_int_mul F.slot_int_rmul repeat_list F.slot_int_index.lookup
    (call_meets F.slot_int_rmul (typeIs_int s k t) F.entry_int_rmul (F.args_int_rmul_2 _ _) (int___rmul___int_list k t l its.toArray n)
      ⟨e, rfl, ⟨_, e, rfl⟩, call_meets F.slot_list_mul ⟨_, e, rfl⟩ F.entry_list_mul (F.args_list_mul_2 _ _) (AutoListH.list___mul___list_int_3 l its.toArray n k t hfit hcap hlong) ⟨e, ?_⟩⟩)
  rw [hnew]
  exact ⟨.ref _, _, I.lnew (t' := s.toks) (r.rep k.toNat) (by rw [len_rep, Nat.mul_comm]; exact hz), rfl, q _ I.fresh⟩

/-! ### del xs[i] -/
end

/-! ### xs[a:b] = ys -/
section
variable {prog : Program} {w : World} {A : Around} {E : Value → Shared → Prop} {s : Shared}
end

section
variable {X : Cx}
end
end L2

namespace L2
open PySem PySem.Spec PyProof.Rows

theorem Vals.ints : ∀ {ns : List Int} {us : List Value}, Vals (ns.map V.int) us → IntsAre us ns
  | [], us, h => by
    rw [List.map_nil] at h
    cases h
    exact IntsAre.nil
  | n :: ns, us, h => by
    rw [List.map_cons] at h
    cases h with
    | cons r t =>
      obtain ⟨k, rfl⟩ := r
      exact IntsAre.cons n k (Vals.ints t)
theorem Vals.ref1 {a : Addr} {us : List Value} (r : Vals [V.ref a] us) : us = [Value.ref a] := by
  cases r with
  | cons r t =>
    cases t
    cases r
    rfl
/-! ### the library's walks over a list of ints, kept objects alone -/
section
variable {prog : Program} {w : World} {A : Around} {E : Value → Shared → Prop} {s : Shared} {l : Addr} {its : List Value} {ns : List Int} {Q : Value → Shared → Prop}
theorem sum_raw (hh : A.handled = none) (hl : s.heap.IsList l its.toArray) (hi : IntsAre its ns)
    (h : ∀ h' tk t', (∀ b o, s.heap.get? b = some o → h'.get? b = some o) → Q (.int ns.sum t') { s with heap := h', toks := tk }) : wpAny (model prog w) A (call (.builtin "sum") [.ref l]) Q E s := by
  obtain ⟨xs, e⟩ := hi.allInts.items
  have hn : numsOf (intItems xs).toList = ns := by rw [← e]; exact hi.numsOf
  rw [nums_intItems] at hn
  rw [e] at hl
  refine PySem.sum_intListG hh hl fun h' tk t' hk => ?_
  have := h h' tk t' hk
  rw [preSum_eq, List.take_of_length_le (by simp), hn]; exact this
theorem max_raw (hh : A.handled = none) (hl : s.heap.IsList l its.toArray) (hi : IntsAre its ns) (hne : 0 < ns.length)
    (h : ∀ h' tk M t', (∀ b o, s.heap.get? b = some o → h'.get? b = some o) → M ∈ ns → (∀ a, a ∈ ns → a ≤ M) → Q (.int M t') { s with heap := h', toks := tk }) : wpAny (model prog w) A (call (.builtin "max") [.ref l]) Q E s := by
  obtain ⟨xs, e⟩ := hi.allInts.items
  have hn : numsOf (intItems xs).toList = ns := by rw [← e]; exact hi.numsOf
  rw [nums_intItems] at hn
  subst hn
  rw [e] at hl
  have hsz : 0 < xs.size := by simpa using hne
  refine PySem.max_intList hh hl hsz fun v h' tk hv hk => ?_
  obtain ⟨t, rfl⟩ := intItems_at hv
  obtain ⟨h1, h2⟩ := argBest_gt (numAt xs) (xs.size - 1)
  refine h h' tk _ t hk ?_ fun a ha => ?_
  · rw [numAt_eq]; exact PySem.getD_mem (by rw [List.length_map, Array.length_toList]; omega)
  · obtain ⟨j, hj, rfl⟩ := mem_getD ha
    rw [List.length_map, Array.length_toList] at hj
    rw [← numAt_eq]; exact h2 j (by omega)
theorem min_raw (hh : A.handled = none) (hl : s.heap.IsList l its.toArray) (hi : IntsAre its ns) (hne : 0 < ns.length)
    (h : ∀ h' tk M t', (∀ b o, s.heap.get? b = some o → h'.get? b = some o) → M ∈ ns → (∀ a, a ∈ ns → M ≤ a) → Q (.int M t') { s with heap := h', toks := tk }) : wpAny (model prog w) A (call (.builtin "min") [.ref l]) Q E s := by
  obtain ⟨xs, e⟩ := hi.allInts.items
  have hn : numsOf (intItems xs).toList = ns := by rw [← e]; exact hi.numsOf
  rw [nums_intItems] at hn
  subst hn
  rw [e] at hl
  have hsz : 0 < xs.size := by simpa using hne
  refine PySem.min_intList hh hl hsz fun v h' tk hv hk => ?_
  obtain ⟨t, rfl⟩ := intItems_at hv
  obtain ⟨h1, h2⟩ := argBest_lt (numAt xs) (xs.size - 1)
  refine h h' tk _ t hk ?_ fun a ha => ?_
  · rw [numAt_eq]; exact PySem.getD_mem (by rw [List.length_map, Array.length_toList]; omega)
  · obtain ⟨j, hj, rfl⟩ := mem_getD ha
    rw [List.length_map, Array.length_toList] at hj
    rw [← numAt_eq]; exact h2 j (by omega)
end

/-! ### the calls, by values (CallR of 03t; MtR of 06l) -/
section
variable {X : Cx}
/-- sum(xs) of a list of ints -/
def rSum (K : PySem.W.Frag) : List V → Hp → VK → Prop := fun vs H Q => ∃ (a : Addr) (ns : List Int), vs = [V.ref a] ∧ SqL K H a (ns.map V.int) ∧ Q (.int ns.sum) H
/-- max(xs), min(xs) of a list of ints -/
def rMax (K : PySem.W.Frag) : List V → Hp → VK → Prop := fun vs H Q => ∃ (a : Addr) (ns : List Int), vs = [V.ref a] ∧ SqL K H a (ns.map V.int) ∧ 0 < ns.length ∧ ∀ m, m ∈ ns → (∀ y, y ∈ ns → y ≤ m) → Q (.int m) H
def rMin (K : PySem.W.Frag) : List V → Hp → VK → Prop := fun vs H Q => ∃ (a : Addr) (ns : List Int), vs = [V.ref a] ∧ SqL K H a (ns.map V.int) ∧ 0 < ns.length ∧ ∀ m, m ∈ ns → (∀ y, y ∈ ns → m ≤ y) → Q (.int m) H
theorem cr_sum (hc : X.calm = true) : CallR X (.builtin "sum") (rSum X.K) := by
  intro pins s σ H vs us Q I r h
  obtain ⟨a, ns, rfl, hs, q⟩ := h
  obtain ⟨its, rv, hl, _⟩ := I.list hs
  rw [Vals.ref1 r]
  exact sum_raw (I.ok.hd hc) hl.isList rv.ints fun h' tk t' hk => ⟨.int _, H, I.kept hk, ⟨_, rfl⟩, q⟩
theorem cr_max (hc : X.calm = true) : CallR X (.builtin "max") (rMax X.K) := by
  intro pins s σ H vs us Q I r h
  obtain ⟨a, ns, rfl, hs, hne, q⟩ := h
  obtain ⟨its, rv, hl, _⟩ := I.list hs
  rw [Vals.ref1 r]
  exact max_raw (I.ok.hd hc) hl.isList rv.ints hne fun h' tk m t' hk h1 h2 => ⟨.int _, H, I.kept hk, ⟨_, rfl⟩, q m h1 h2⟩
theorem cr_min (hc : X.calm = true) : CallR X (.builtin "min") (rMin X.K) := by
  intro pins s σ H vs us Q I r h
  obtain ⟨a, ns, rfl, hs, hne, q⟩ := h
  obtain ⟨its, rv, hl, _⟩ := I.list hs
  rw [Vals.ref1 r]
  exact min_raw (I.ok.hd hc) hl.isList rv.ints hne fun h' tk m t' hk h1 h2 => ⟨.int _, H, I.kept hk, ⟨_, rfl⟩, q m h1 h2⟩

/-! sorted, sort (fewer than 64 items: the library's own bound) -/
end

/-! ### list.index, flat items -/
section
variable {X : Cx}
end

/-! ### type(x) of an own instance; is, is not of a module's class -/
section
variable {X : Cx}
end

/-! ### any(xs), all(xs) of a list of bools -/
section
variable {X : Cx}
end

/-! ### == and != of data at any depth: none, bools, ints, texts, lists, tuples -/
mutual
inductive Dp (K : PySem.W.Frag) (H : Hp) : V → PyData → Prop
  | non : Dp K H .non .none
  | bl (b : Bool) : Dp K H (.bl b) (.bool b)
  | int (i : Int) : Dp K H (.int i) (.int i)
  | str (x : Str) : Dp K H (.str x) (.str x)
  | lst {a : Addr} {xs : List V} {ds : List PyData} : SqL K H a xs → DpAll K H xs ds → Dp K H (.ref a) (.list ds)
  | tup {a : Addr} {xs : List V} {ds : List PyData} : SqT K H a xs → DpAll K H xs ds → Dp K H (.ref a) (.tuple ds)
inductive DpAll (K : PySem.W.Frag) (H : Hp) : List V → List PyData → Prop
  | nil : DpAll K H [] []
  | cons {v : V} {vs : List V} {d : PyData} {ds : List PyData} : Dp K H v d → DpAll K H vs ds → DpAll K H (v :: vs) (d :: ds)
end
section
variable {X : Cx} {pins : List (Addr × Obj)} {σ : St} {H : Hp} {s : Shared}
mutual
theorem Dp.reads (I : Inv X pins σ H s) : ∀ (d : PyData) (v : V) (u : Value), Dp X.K H v d → RelV v u → ∃ as, Reads s.heap u d as
  | .none, _, _, h, r => by
    cases h
    cases r
    exact ⟨_, Reads.none⟩
  | .bool b, _, _, h, r => by
    cases h
    cases r
    exact ⟨_, Reads.bool b⟩
  | .int i, _, _, h, r => by
    cases h
    obtain ⟨t, rfl⟩ := r
    exact ⟨_, Reads.int i t⟩
  | .str x, _, _, h, r => by
    cases h
    obtain ⟨t, rfl⟩ := r
    exact ⟨_, Reads.str x t⟩
  | .list ds, _, _, h, r => by
    cases h with
    | lst hs ha =>
      cases r
      obtain ⟨its, rv, ⟨o, n, ho, hc, _, hd⟩, _⟩ := I.list hs
      obtain ⟨as, hr⟩ := Dp.readsAll I ds _ its ha rv
      exact ⟨_, Reads.list ho hc hd hr⟩
  | .tuple ds, _, _, h, r => by
    cases h with
    | tup hs ha =>
      cases r
      obtain ⟨its, rv, ⟨o, ho, hc, n, hd⟩, _⟩ := I.tuple hs
      obtain ⟨as, hr⟩ := Dp.readsAll I ds _ its ha rv
      exact ⟨_, Reads.tuple ho hc hd hr⟩
  | .dict _, _, _, h, _ => by cases h
theorem Dp.readsAll (I : Inv X pins σ H s) : ∀ (ds : List PyData) (vs : List V) (us : List Value), DpAll X.K H vs ds → Vals vs us → ∃ as, ReadsAll s.heap us ds as
  | [], _, _, h, r => by
    cases h
    cases r
    exact ⟨_, ReadsAll.nil⟩
  | d :: ds, _, _, h, r => by
    cases h with
    | cons h1 h2 =>
      cases r with
      | cons r1 r2 =>
        obtain ⟨as, q1⟩ := Dp.reads I d _ _ h1 r1
        obtain ⟨bs, q2⟩ := Dp.readsAll I ds _ _ h2 r2
        exact ⟨_, ReadsAll.cons q1 q2⟩
end
end
section
variable {X : Cx}
def rEqD (K : PySem.W.Frag) : R2 := fun x y H Q => ∃ d e, Dp K H x d ∧ Dp K H y e ∧ SeqAt.shaped d = true ∧ SeqAt.shaped e = true ∧ Q (.bl (PyData.eqv d e)) H
def rNeD (K : PySem.W.Frag) : R2 := fun x y H Q => ∃ d e, Dp K H x d ∧ Dp K H y e ∧ SeqAt.shaped d = true ∧ SeqAt.shaped e = true ∧ Q (.bl (!PyData.eqv d e)) H
theorem op_eqD (hu : X.A.units + 64 < cLine) : OpR X (compareOp .Eq) (rEqD X.K) := by
  intro pins s σ H x y v u Q I rx ry h
  obtain ⟨d, e, hd, he, sd, se, q⟩ := h
  obtain ⟨as, r1⟩ := Dp.reads I d x v hd rx
  obtain ⟨bs, r2⟩ := Dp.reads I e y u he ry
  exact SeqAt.compareEq_shaped r1 r2 sd se hu ⟨.bl _, H, I, rfl, q⟩
theorem op_neD (hu : X.A.units + 64 < cLine) : OpR X (compareOp .NotEq) (rNeD X.K) := by
  intro pins s σ H x y v u Q I rx ry h
  obtain ⟨d, e, hd, he, sd, se, q⟩ := h
  obtain ⟨as, r1⟩ := Dp.reads I d x v hd rx
  obtain ⟨bs, r2⟩ := Dp.reads I e y u he ry
  exact SeqAt.compareNe_shaped r1 r2 sd se hu ⟨.bl _, H, I, rfl, q⟩
end
end L2

namespace L2
open PySem PySem.Spec PyProof.Rows
abbrev CellAt (h : Heap) (c : Addr) (v : Option Value) : Prop := h.IsCell c v
def relS (scope sc : Scope) : Scope :=
  { scope with names := scope.names.map fun (n, k) => if (k == .free && sc.kind == .function && sc.names.lookup n == some .cell) then (n, .cell) else (n, k) }

def cloFrom (cells : List (Str × Addr)) : List (Str × NameKind) → List (Str × Addr) → List (Str × Addr)
  | [], acc => acc
  | (n, k) :: r, acc => if k == .free then cloFrom cells r ((n, (cells.lookup n).getD 0) :: acc) else cloFrom cells r acc

theorem closure_loop (env : Env) (f : Str × NameKind → List (Str × Addr) → Sem (ForInStep (List (Str × Addr))))
    (hf : ∀ n k c, f (n, k) c = if k == .free then (do let a ← cellOf env n; pure (.yield ((n, a) :: c))) else pure (.yield c)) :
    ∀ (names : List (Str × NameKind)) (acc : List (Str × Addr)), (∀ y ∈ names, y.2 = .free → ∃ c, env.cells.lookup y.1 = some c) → forIn names acc f = pure (cloFrom env.cells names acc)
  | [], acc, _ => by rw [List.forIn_nil]; rfl
  | (n, k) :: r, acc, h => by
    rw [List.forIn_cons, hf]
    have ih := fun acc => closure_loop env f hf r acc fun y hy => h y (List.mem_cons_of_mem _ hy)
    unfold cloFrom
    by_cases hk : (k == NameKind.free) = true
    · rw [if_pos hk, if_pos hk]
      obtain ⟨c, hc⟩ := h (n, k) List.mem_cons_self (by simpa using hk)
      have e : cellOf env n = pure c := by unfold cellOf; rw [hc]
      rw [e]
      have e2 : (env.cells.lookup n).getD 0 = c := by rw [hc]; rfl
      rw [e2]
      exact ih _
    · rw [if_neg hk, if_neg hk]
      exact ih _
theorem closure_ok {scope : Scope} {env : Env} (h : ∀ y ∈ scope.names, y.2 = .free → ∃ c, env.cells.lookup y.1 = some c) : closureFor scope env = pure (cloFrom env.cells scope.names []) := by
  simp only [closureFor]
  rw [closure_loop env _ (fun n k c => rfl) scope.names [] h]
  rfl

theorem mem_lookup {α : Type} : ∀ {l : List (Str × α)} {n : Str} {c : α}, (n, c) ∈ l → ∃ c', l.lookup n = some c'
  | (k, v) :: r, n, c, h => by
    rw [List.lookup_cons]
    cases hb : n == k with
    | true => exact ⟨_, rfl⟩
    | false =>
      rcases List.mem_cons.mp h with e | h
      · cases e; simp at hb
      · exact mem_lookup h

theorem cloFrom_mem {cells : List (Str × Addr)} : ∀ {names : List (Str × NameKind)} {acc : List (Str × Addr)} {n : Str} {c : Addr}, (n, c) ∈ cloFrom cells names acc → (n, c) ∈ acc ∨ ((n, .free) ∈ names ∧ c = (cells.lookup n).getD 0)
  | [], _, _, _, h => .inl h
  | (m, k) :: r, acc, n, c, h => by
    unfold cloFrom at h
    split at h
    · rename_i hk
      have hk : k = .free := by simpa using hk
      rcases cloFrom_mem h with h | ⟨h1, h2⟩
      · rcases List.mem_cons.mp h with e | h
        · cases e; exact .inr ⟨hk ▸ List.mem_cons_self, rfl⟩
        · exact .inl h
      · exact .inr ⟨List.mem_cons_of_mem _ h1, h2⟩
    · rcases cloFrom_mem h with h | ⟨h1, h2⟩
      · exact .inl h
      · exact .inr ⟨List.mem_cons_of_mem _ h1, h2⟩
theorem cloFrom_acc {cells : List (Str × Addr)} : ∀ {names : List (Str × NameKind)} {acc : List (Str × Addr)} {p : Str × Addr}, p ∈ acc → p ∈ cloFrom cells names acc
  | [], _, _, h => h
  | (m, k) :: r, acc, p, h => by
    unfold cloFrom
    split
    · exact cloFrom_acc (List.mem_cons_of_mem _ h)
    · exact cloFrom_acc h
theorem cloFrom_has {cells : List (Str × Addr)} : ∀ {names : List (Str × NameKind)} {acc : List (Str × Addr)} {n : Str}, (n, .free) ∈ names → (n, (cells.lookup n).getD 0) ∈ cloFrom cells names acc
  | (m, k) :: r, acc, n, h => by
    unfold cloFrom
    rcases List.mem_cons.mp h with e | h
    · cases e
      exact cloFrom_acc List.mem_cons_self
    · split
      · exact cloFrom_has h
      · exact cloFrom_has h

theorem cells_mem : ∀ {names : List (Str × NameKind)} {h : Heap} {acc : List (Str × Addr)} {x : Str} {c : Addr}, (x, c) ∈ cellsFrom h.objs.size names acc →
    (x, c) ∈ acc ∨ ((x, .cell) ∈ names ∧ h.objs.size ≤ c ∧ CellAt (pushCells h names) c none)
  | [], _, _, _, _, h => .inl h
  | (n, k) :: r, h, acc, x, c, hm => by
    unfold cellsFrom at hm
    unfold pushCells
    split at hm
    · rename_i hk
      rw [if_pos hk]
      have hk : k = .cell := by simpa using hk
      rw [← Heap.size_push h { cls := .type "cell", data := .cell none }] at hm
      rcases cells_mem hm with hm | ⟨h1, h2, h3⟩
      · rcases List.mem_cons.mp hm with e | hm
        · cases e
          exact .inr ⟨hk ▸ List.mem_cons_self, Nat.le_refl _, _, pushCells_keeps r _ _ _ (Heap.get?_push_size _ rfl), rfl⟩
        · exact .inl hm
      · rw [Heap.size_push] at h2
        exact .inr ⟨List.mem_cons_of_mem _ h1, Nat.le_of_succ_le h2, h3⟩
    · rename_i hk
      rw [if_neg hk]
      rcases cells_mem hm with hm | ⟨h1, h2, h3⟩
      · exact .inl hm
      · exact .inr ⟨List.mem_cons_of_mem _ h1, h2, h3⟩
theorem cells_acc : ∀ {names : List (Str × NameKind)} {n : Nat} {acc : List (Str × Addr)} {p : Str × Addr}, p ∈ acc → p ∈ cellsFrom n names acc
  | [], _, _, _, h => h
  | (m, k) :: r, n, acc, p, h => by
    unfold cellsFrom
    split
    · exact cells_acc (List.mem_cons_of_mem _ h)
    · exact cells_acc h
theorem cells_has : ∀ {names : List (Str × NameKind)} {n : Nat} {acc : List (Str × Addr)} {x : Str}, (x, .cell) ∈ names → ∃ c, (x, c) ∈ cellsFrom n names acc
  | (m, k) :: r, n, acc, x, h => by
    unfold cellsFrom
    rcases List.mem_cons.mp h with e | h
    · cases e
      exact ⟨n, cells_acc List.mem_cons_self⟩
    · split
      · exact cells_has h
      · exact cells_has h
theorem cells_inj : ∀ {names : List (Str × NameKind)} {h : Heap} {acc : List (Str × Addr)} {x y : Str} {c : Addr}, (∀ p ∈ acc, p.2 < h.objs.size) → (∀ x y c, (x, c) ∈ acc → (y, c) ∈ acc → x = y) →
    (x, c) ∈ cellsFrom h.objs.size names acc → (y, c) ∈ cellsFrom h.objs.size names acc → x = y
  | [], _, _, _, _, _, _, hi, h1, h2 => hi _ _ _ h1 h2
  | (n, k) :: r, h, acc, x, y, c, hl, hi, h1, h2 => by
    unfold cellsFrom at h1 h2
    split at h1
    · rename_i hk
      rw [if_pos hk] at h2
      rw [← Heap.size_push h { cls := .type "cell", data := .cell none }] at h1 h2
      refine cells_inj (h := h.push _) (fun p hp => ?_) (fun x y c a b => ?_) h1 h2
      · rw [Heap.size_push]
        rcases List.mem_cons.mp hp with rfl | hp
        · exact Nat.lt_succ_self _
        · exact Nat.lt_succ_of_lt (hl p hp)
      · rcases List.mem_cons.mp a with e | a <;> rcases List.mem_cons.mp b with e' | b
        · cases e; cases e'; rfl
        · cases e; exact absurd (hl _ b) (Nat.lt_irrefl _)
        · cases e'; exact absurd (hl _ a) (Nat.lt_irrefl _)
        · exact hi _ _ _ a b
    · rename_i hk
      rw [if_neg hk] at h2
      exact cells_inj hl hi h1 h2

theorem newEnv_comp {M : Model} {A : Around} {E : Value → Shared → Prop} {s : Shared} {scope : Scope} {globals : Addr} {closure : List (Str × Addr)} {qual : Str} {func : Option Addr} {code : Value} {around : Env} {builtins : Addr} {Q : Env → Shared → Prop}
    (h : Q (newEnv scope s.heap.objs.size globals (cellsFrom (s.heap.objs.size + 1) scope.names closure) qual func code (some around) builtins)
      { s with heap := pushCells (s.heap.push { cls := .type "dict", data := .dict #[] }) scope.names }) :
    wpAny M A (newFunctionEnv scope globals closure [] qual func code (some around) builtins) Q E s := by
  simp only [newFunctionEnv, Option.isSome_some, if_true]
  refine wpAny_bind (wpAny_alloc ?_)
  refine wpAny_bind (wpAny_layCells _ (fun n k c => rfl) scope.names closure _ _ ?_)
  rw [show ({ s with heap := s.heap.push { cls := .type "dict", data := .dict #[] } } : Shared).heap.objs.size = s.heap.objs.size + 1 from Heap.size_push ..]
  rw [List.forIn_nil]
  exact wpAny_bind (wpAny_pure (wpAny_pure h))

/-- every name of the written scope, in the scope that runs -/
theorem lookup_relS {sc : Scope} : ∀ {names : List (Str × NameKind)} {x : Str} {k : NameKind},
    (names.map fun (n, k) => if (k == NameKind.free && sc.kind == .function && sc.names.lookup n == some .cell) then (n, NameKind.cell) else (n, k)).lookup x = some k →
    ∃ k', names.lookup x = some k' ∧ (k = k' ∨ (k' = .free ∧ k = .cell))
  | [], _, _, h => by simp at h
  | (n, k₀) :: r, x, k, h => by
    have ih := @lookup_relS sc r x k
    have h' : List.lookup x ((if (k₀ == NameKind.free && sc.kind == .function && sc.names.lookup n == some .cell) = true then (n, NameKind.cell) else (n, k₀)) :: (r.map _)) = some k := h
    cases hx : x == n with
    | true =>
      simp only [List.lookup_cons, hx]
      by_cases hc : (k₀ == NameKind.free && sc.kind == .function && sc.names.lookup n == some .cell) = true
      · rw [if_pos hc] at h'
        simp only [List.lookup_cons, hx] at h'
        cases h'
        simp only [Bool.and_eq_true, beq_iff_eq] at hc
        exact ⟨k₀, rfl, .inr ⟨hc.1.1, rfl⟩⟩
      · rw [if_neg hc] at h'
        simp only [List.lookup_cons, hx] at h'
        cases h'
        exact ⟨_, rfl, .inl rfl⟩
    | false =>
      simp only [List.lookup_cons, hx]
      by_cases hc : (k₀ == NameKind.free && sc.kind == .function && sc.names.lookup n == some .cell) = true
      · rw [if_pos hc] at h'
        simp only [List.lookup_cons, hx] at h'
        exact ih h'
      · rw [if_neg hc] at h'
        simp only [List.lookup_cons, hx] at h'
        exact ih h'
/-- the names of a comprehension's block: its own (with their places in N), or captured -/
structure BlkOk (N : List Str) (sc scope : Scope) (own : List (Str × Nat)) : Prop where
  kind : scope.kind = .function
  uniq : ∀ y ∈ scope.names, scope.names.lookup y.1 = some y.2
  ix : ∀ p ∈ own, N[p.2]? = some p.1
  free : ∀ y ∈ scope.names, y.2 = .free → sc.names.lookup y.1 = some .cell ∨ sc.names.lookup y.1 = some .free
  own : ∀ y ∈ scope.names, y.2 = .local ∨ y.2 = .cell → y.1 ∈ own.map (·.1) ∨ y.1 ∉ N
/-- the slots of the block's own names forgotten -/
def wipe (σ : St) : List Nat → St
  | [] => σ
  | v :: vs => (wipe σ vs).set v none
theorem wipe_length (σ : St) : ∀ vs : List Nat, (wipe σ vs).length = σ.length
  | [] => rfl
  | v :: vs => by unfold wipe; rw [List.length_set, wipe_length σ vs]
theorem wipe_some {σ : St} {i : Nat} {x : V} : ∀ {vs : List Nat}, (wipe σ vs)[i]? = some (some x) → σ[i]? = some (some x) ∧ i ∉ vs
  | [], h => ⟨h, by simp⟩
  | v :: vs, h => by
    unfold wipe at h
    by_cases hi : v = i
    · subst hi
      by_cases hv : v < (wipe σ vs).length
      · rw [List.getElem?_set_self hv] at h; cases h
      · rw [List.getElem?_eq_none (by simpa using hv)] at h; cases h
    · rw [List.getElem?_set_ne hi] at h
      obtain ⟨h1, h2⟩ := wipe_some h
      exact ⟨h1, by simp only [List.mem_cons, not_or]; exact ⟨fun e => hi e.symm, h2⟩⟩

/-- the context of a block that starts at s, its iterator's objects at fp -/
abbrev Cx.blk (X : Cx) (s : Shared) (H : Hp) (scope : Scope) (cenv : Env) (fp : List Addr) : Cx := { X with s_0 := s, H_0 := H, env := cenv, outer := X.stack, ex := fp, fn := fun x => scope.names.lookup x == some .cell, pn := [], xe := fun _ _ => False }
section
variable {X : Cx} {pins : List (Addr × Obj)} {σ : St} {H : Hp} {s : Shared}
theorem block_start {scope : Scope} {own : List (Str × Nat)} {fp : List Addr} (I : Inv X pins σ H s) (ok : BlkOk X.N X.env.scope scope own) (hN : X.N.Nodup) (hfp : ∀ b ∈ fp, FpOk X pins H b ∧ b < s.heap.objs.size) :
    Inv (X.blk s H scope (compEnvC scope (cellsFrom (s.heap.objs.size + 1) scope.names (cloFrom X.env.cells scope.names [])) s.heap.objs.size X.env) fp) [] (wipe σ (own.map (·.2))) H { s with heap := pushCells (s.heap.push { cls := .type "dict", data := .dict #[] }) scope.names } := by
  have hfree : ∀ y ∈ scope.names, y.2 = .free → ∃ c, X.env.cells.lookup y.1 = some c := fun y hy e => by
    rcases ok.free y hy e with k | k
    · exact I.ok.has _ (.inl k)
    · exact I.ok.has _ (.inr k)
  generalize hcenv : compEnvC scope (cellsFrom (s.heap.objs.size + 1) scope.names (cloFrom X.env.cells scope.names [])) s.heap.objs.size X.env = cenv
  have kp : ∀ b o, s.heap.get? b = some o → (pushCells (s.heap.push { cls := .type "dict", data := .dict #[] }) scope.names).get? b = some o := fun b o e => pushCells_keeps _ _ _ _ (Heap.get?_push_of_some _ e)
  have hL : cenv.locals = s.heap.objs.size := by rw [← hcenv]; rfl
  have hcl : cenv.cells = cellsFrom (s.heap.objs.size + 1) scope.names (cloFrom X.env.cells scope.names []) := by rw [← hcenv]; rfl
  have hsc : cenv.scope = relS scope X.env.scope := by rw [← hcenv]; rfl
  rw [← Heap.size_push s.heap { cls := .type "dict", data := .dict #[] }] at hcl
  have cm : ∀ {y c}, (y, c) ∈ cloFrom X.env.cells scope.names [] → X.env.cells.lookup y = some c ∧ c < s.heap.objs.size := fun {y c} hm => by
    rcases cloFrom_mem hm with hm | ⟨h1, rfl⟩
    · cases hm
    · obtain ⟨c, hc⟩ := hfree _ h1 rfl
      rw [hc]
      obtain ⟨w, z⟩ := I.cell _ _ hc
      exact ⟨rfl, z.lt⟩
  have mem : ∀ {y c}, cenv.cells.lookup y = some c → (X.env.cells.lookup y = some c ∧ c < s.heap.objs.size) ∨ (s.heap.objs.size + 1 ≤ c ∧ CellAt (pushCells (s.heap.push { cls := .type "dict", data := .dict #[] }) scope.names) c none) := fun {y c} e => by
    rw [hcl] at e
    rcases cells_mem (PySem.mem_of_lookup e) with hm | ⟨_, h2, h3⟩
    · exact .inl (cm hm)
    · rw [Heap.size_push] at h2; exact .inr ⟨h2, h3⟩
  have look : ∀ {y}, scope.names.lookup y = some .free → ∃ c, cenv.cells.lookup y = some c ∧ X.env.cells.lookup y = some c := fun {y} hl => by
    have hy : (y, NameKind.free) ∈ scope.names := PySem.mem_of_lookup hl
    obtain ⟨c', e'⟩ := mem_lookup (cells_acc (names := scope.names) (n := (s.heap.push { cls := .type "dict", data := .dict #[] }).objs.size) (cloFrom_has (cells := X.env.cells) (acc := []) hy))
    rw [← hcl] at e'
    refine ⟨c', e', ?_⟩
    rw [hcl] at e'
    rcases cells_mem (PySem.mem_of_lookup e') with hm | ⟨h1, _, _⟩
    · exact (cm hm).1
    · have := ok.uniq _ h1
      rw [hl] at this; cases this
  have okB : (X.blk s H scope cenv fp).Ok := by
    refine ⟨I.ok.mod, by show cenv.scope.kind = _; rw [hsc]; exact ok.kind, by show cenv.globals = _; rw [← hcenv]; exact I.ok.glob, by show cenv.builtins = _; rw [← hcenv]; exact I.ok.blt, by show s.heap.objs.size ≤ cenv.locals; rw [hL]; exact Nat.le_refl _,
      fun y z c e1 e2 => ?_, fun y hy => ?_, fun y c z e => ?_, I.ok.hd, I.ok.frames, .inl rfl, fun b hb => ⟨?_, fun y c e z => ?_⟩, I.bs, Nat.le_trans I.ok.bsz I.sz, fun b o e hb => ?_, fun b hb z => ?_, I.stack, I.stkFree⟩
    · have e1 : cenv.cells.lookup y = some c := e1
      have e2 : cenv.cells.lookup z = some c := e2
      rw [hcl] at e1 e2
      refine cells_inj (fun p hp => ?_) (fun y z c a b => I.ok.inj y z c (cm a).1 (cm b).1) (PySem.mem_of_lookup e1) (PySem.mem_of_lookup e2)
      rw [Heap.size_push]
      exact Nat.lt_succ_of_lt (cm (y := p.1) (c := p.2) hp).2
    · show ∃ c, cenv.cells.lookup y = some c
      have key : ∀ k, cenv.kindOf y = some k → (k = .cell ∨ k = .free) → ∃ c, cenv.cells.lookup y = some c := fun k hk hk' => by
        unfold Env.kindOf at hk
        rw [hsc] at hk
        obtain ⟨k', e, r⟩ := lookup_relS hk
        have : k' = .cell ∨ k' = .free := by
          rcases r with rfl | ⟨rfl, _⟩
          · exact hk'
          · exact .inr rfl
        rcases this with rfl | rfl
        · obtain ⟨c, hm⟩ := cells_has (n := (s.heap.push { cls := .type "dict", data := .dict #[] }).objs.size) (acc := cloFrom X.env.cells scope.names []) (PySem.mem_of_lookup e)
          obtain ⟨c', e'⟩ := mem_lookup hm
          exact ⟨c', by rw [hcl]; exact e'⟩
        · obtain ⟨c, h1, _⟩ := look e
          exact ⟨c, h1⟩
      rcases hy with hy | hy
      · exact key _ hy (.inl rfl)
      · exact key _ hy (.inr rfl)
    · have z : (scope.names.lookup y == some NameKind.cell) = true := z
      have z : scope.names.lookup y = some .cell := by simpa using z
      have e : cenv.cells.lookup y = some c := e
      rw [hcl] at e
      rcases cells_mem (PySem.mem_of_lookup e) with hm | ⟨_, h2, _⟩
      · rcases cloFrom_mem hm with hm | ⟨h1, _⟩
        · cases hm
        · have q := ok.uniq _ h1
          rw [z] at q; cases q
      · rw [Heap.size_push] at h2
        exact Nat.le_of_succ_le h2
    · show b ≠ cenv.locals
      rw [hL]; exact Nat.ne_of_lt (hfp b hb).2
    · have e : cenv.cells.lookup y = some c := e
      rcases mem e with ⟨h1, _⟩ | ⟨h1, _⟩
      · exact (hfp b hb).1.2.2.2.2.1 y c h1 z
      · have h2 : s.heap.objs.size + 1 ≤ b := by rw [← z]; exact h1
        exact absurd (Nat.lt_of_lt_of_le (hfp b hb).2 (Nat.le_of_succ_le h2)) (Nat.lt_irrefl _)
    · rcases (hfp b hb).1.2.2.2.1 with z | z
      · exact I.ok.noex b o e z
      · exact absurd (Nat.lt_of_lt_of_le (Heap.lt_size e) (Nat.le_trans I.ok.bsz z)) (Nat.lt_irrefl _)
    · rcases List.mem_cons.mp (I.stkSub b z) with z | z
      · exact (hfp b hb).1.2.1 z
      · exact (hfp b hb).1.2.2.1 z
  refine ⟨okB, rfl, I.bare, Un.kept kp, ⟨fun _ => none, ?_, fun i y av e1 e2 e3 => ?_⟩, fun y c e => ?_, ?_, fun y c e => ?_, fun p hp => ?_, I.hok.kept kp, by rw [wipe_length]; exact I.len⟩
  · show Heap.Ns _ cenv.locals _
    rw [hL]
    exact Heap.Ns.keeps (Heap.Ns.new ..) fun b o e => pushCells_keeps _ _ _ _ e
  · obtain ⟨e2, hne⟩ := wipe_some e2
    have hfr : scope.names.lookup y = some .free ∧ (cenv.kindOf y = some .cell ∨ cenv.kindOf y = some .free) := by
      have key : ∀ k, cenv.scope.names.lookup y = some k → k = .local ∨ k = .cell ∨ k = .free → scope.names.lookup y = some .free ∧ (cenv.kindOf y = some .cell ∨ cenv.kindOf y = some .free) := fun k hk hk' => by
        have hk0 := hk
        rw [hsc] at hk
        obtain ⟨k', e, r⟩ := lookup_relS hk
        have no : ¬ (k' = .local ∨ k' = .cell) := fun hh => by
          rcases ok.own _ (PySem.mem_of_lookup e) hh with e' | e'
          · obtain ⟨p, hp, hpy⟩ := List.mem_map.mp e'
            have e3 := ok.ix p hp
            have : p.1 = y := hpy
            rw [this] at e3
            exact hne (List.mem_map.mpr ⟨p, hp, nodup_ix hN e3 e1⟩)
          · exact e' (List.mem_of_getElem? e1)
        rcases r with rfl | ⟨rfl, rfl⟩
        · rcases hk' with rfl | rfl | rfl
          · exact absurd (.inl rfl) no
          · exact absurd (.inr rfl) no
          · exact ⟨e, .inr hk0⟩
        · exact ⟨e, .inl hk0⟩
      have e3 : Vis cenv.scope y := e3
      rcases e3 with e3 | e3 | e3
      · exact key _ e3 (.inl rfl)
      · exact key _ e3 (.inr (.inl rfl))
      · exact key _ e3 (.inr (.inr rfl))
    obtain ⟨m, hn, hl⟩ := I.loc
    have hvis : Vis X.env.scope y := (ok.free _ (PySem.mem_of_lookup hfr.1) rfl).elim (fun k => .inr (.inl k)) (fun k => .inr (.inr k))
    obtain ⟨w, r, q⟩ := hl i y av e1 e2 hvis
    refine ⟨w, r, .inr ⟨hfr.2, ?_⟩⟩
    obtain ⟨c, h1, h2⟩ := look hfr.1
    rcases q with ⟨k, _⟩ | ⟨_, c', e', z⟩
    · have k : X.env.scope.names.lookup y = some .local := k
      rcases ok.free _ (PySem.mem_of_lookup hfr.1) rfl with k' | k' <;> rw [show X.env.scope.names.lookup y = _ from k'] at k <;> cases k
    · rw [h2] at e'; cases e'
      exact ⟨c, h1, z.keeps kp⟩
  · have e : cenv.cells.lookup y = some c := e
    rcases mem e with ⟨h1, _⟩ | ⟨_, z⟩
    · obtain ⟨w, z⟩ := I.cell y c h1
      exact ⟨w, z.keeps kp⟩
    · exact ⟨_, z⟩
  · show H cenv.locals = none
    rw [hL]; exact I.hok.fresh (Nat.le_refl _)
  · have e : cenv.cells.lookup y = some c := e
    rcases mem e with ⟨h1, _⟩ | ⟨h1, _⟩
    · exact I.freeC y c h1
    · exact I.hok.fresh (Nat.le_of_succ_le h1)
  · exact absurd (show p ∈ ([] : List (Addr × Obj)) ++ [] from hp) (by simp)

/-- an item appended to a tracked list -/
theorem app_ok {E : Value → Shared → Prop} {D : Addr} {xs : List V} {y : V} {v : Value} {Q : Value → Shared → Prop} (I : Inv X pins σ H s) (hD : H D = some (.lst xs)) (hz : xs.length < sizeLine) (r : RelV y v)
    (h : ∀ s', Inv X pins σ (upd H D (.lst (xs ++ [y]))) s' → Q .none s') : wpAny (model X.prog X.w) X.A (call (.builtin "list.append") [.ref D, v]) Q E s := by
  obtain ⟨hz', its, n, ri, e⟩ := I.hok D _ hD
  have hl := ri.length
  refine append_at (hsz := by rw [List.size_toArray]; omega) e fun h' sb ho' => ?_
  refine h { s with heap := h' } (I.write (t' := s.toks) (by rw [hD]; trivial) (.inl rfl) (fun b u hb q => (sb.2 b hb).trans q) ⟨_, ho'⟩ ⟨by rw [List.length_append]; exact hz, its ++ [v], n + 1, ri.append (.cons r .nil), ?_⟩)
  rw [ho']
  simp

/-- a clause's tests -/
def PTs (X : Cx) (ifs : List Expr) (t : TT) : Prop :=
  ∀ (pins : List (Addr × Obj)) (s : Shared) (σ : St) (H : Hp) (Q : Bool → Hp → Prop), Inv X pins σ H s → t σ H Q →
    wpAny (model X.prog X.w) X.A (forIn ifs true fun c r => if r = true then do let ok ← isTrue c X.env (eval c X.env); pure (ForInStep.yield ok) else pure (ForInStep.yield r)) (TP X pins σ Q) X.xe s
def tYes : TT := fun _ H Q => Q true H
theorem pts_nil : PTs X [] tYes := fun _ _ _ H _ I h => wpAny_tests_nil ⟨H, I, h⟩
theorem pts_one {c : Expr} {t : TT} (h : PT X c t) : PTs X [c] t := fun pins s σ H Q I hw => wpAny_tests_one (h pins s σ H Q I hw)
end

theorem thnF {α : Type} {t : Sem α} {Q Q' : α → Shared → Prop} {M : Model} {A : Around} {E : Value → Shared → Prop} {s : Shared} (h : wpAny M A t Q (fun _ _ => False) s) (hQ : ∀ a s, Q a s → Q' a s) : wpAny M A t Q' E s := wpAny_mono h hQ fun _ _ z => False.elim z

/-- the loop of a list comprehension's block, the target of any form (codeAny_compLoop_tests asks a target that no tuple goes to; statement and proof follow it, PyProof/CompMap.lean:41-61, with the step letOwnedTupleGo kept) -/
theorem compLoop_any {prog : Program} {w : World} {A : Around} {R : Result → Shared → Prop} {s : Shared} {elt target iter : Expr} {ifs : List Expr} {scope : Scope} {pos : Pos} {it acc : Value} {env : Env} (I : Nat → Shared → Prop)
    (turn : ∀ n s, I n s → wpAny (model prog w) A (pyNext it) (fun r s₁ => match r with
      | none => R (.ok .next) s₁
      | some v => wpAny (model prog w) A (letOwnedTupleGo target it v) (fun _ s₁' => wpAny (model prog w) A (assign target env v) (fun _ s₂ =>
          wpAny (model prog w) A (forIn ifs true fun c r => if r = true then do let ok ← isTrue c env (eval c env); pure (ForInStep.yield ok) else pure (ForInStep.yield r)) (fun ok s₃ =>
            if ok = true then wpAny (model prog w) A (eval elt env) (fun x s₄ =>
              wpAny (model prog w) A (call (.builtin "list.append") [acc, x]) (fun _ s₅ => ∃ m, m < n ∧ I m s₅) (notedBy (model prog w) A env fun e s' => R (.error e) s') s₄) (notedBy (model prog w) A env fun e s' => R (.error e) s') s₃
            else ∃ m, m < n ∧ I m s₃) (notedBy (model prog w) A env fun e s' => R (.error e) s') s₂) (notedBy (model prog w) A env fun e s' => R (.error e) s') s₁') (notedBy (model prog w) A env fun e s' => R (.error e) s') s₁) (notedBy (model prog w) A env fun e s' => R (.error e) s') s)
    (n : Nat) (h : I n s) :
    codeAny (model prog w) A (.compLoop (.ListComp elt [⟨target, iter, ifs, 0⟩] scope pos) 0 it acc env) R s := by
  refine codeAny_loop rfl I (fun n s hI => ?_) n h
  show wpAny _ A ((compTurn (.ListComp elt [⟨target, iter, ifs, 0⟩] scope pos) 0 it acc env).onRaise (fun x => do noteFrame x env; theTreesLotGoes x)) _ _ s
  refine wpAny_noted ?_
  rw [compTurn_list]
  refine wpAny_bind (wpAny_standAt (wpAny_bind (wpAny_mono (turn n s hI) (fun r s₁ h₁ => ?_) fun _ _ h' => h')))
  cases r with
  | none => exact wpAny_pure h₁
  | some v =>
    refine wpAny_bind (wpAny_mono h₁ (fun _ s₁' h₁' => ?_) fun _ _ h' => h')
    refine wpAny_bind (wpAny_mono h₁' (fun _ s₂ h₂ => wpAny_bind (wpAny_mono h₂ (fun ok s₃ h₃ => ?_) fun _ _ h' => h')) fun _ _ h' => h')
    cases ok with
    | false => exact wpAny_pure ⟨rfl, h₃⟩
    | true =>
      exact wpAny_bind (wpAny_bind (wpAny_mono h₃ (fun x s₄ h₄ => wpAny_bind (wpAny_mono h₄ (fun _ s₅ h₅ => wpAny_pure (wpAny_pure ⟨rfl, h₅⟩)) fun _ _ h' => h')) fun _ _ h' => h'))

section
variable {X : Cx}
/-- [elt for target in iter if ..]: D the new list; W by the turn and a measure, Nx what a turn is to reach -/
def tLc (wi : TI) (g : TG) (tt : TT) (te : TE) (vs : List Nat) : TE := fun σ H Q => wi σ H fun J H1 => ∀ D, H1 D = none → ∃ W : Nat → Nat → Hp → Prop, (∃ m, W 0 m (upd H1 D (.lst []))) ∧ ∀ i m H, W i m H →
  (J.stop i H ∧ Q (.ref D) H) ∨ (J.go i H ∧ ∃ Nx : Hp → Prop, (∀ H', Nx H' → ∃ m', m' < m ∧ W (i + 1) m' H') ∧ ∀ x H', J.yld i H x H' → g x (wipe σ vs) H' fun σ2 H2 => wipe σ2 vs = wipe σ vs ∧ tt σ2 H2 fun b H3 =>
    if b = true then te σ2 H3 fun y H4 => ∃ acc, H4 D = some (.lst acc) ∧ acc.length < sizeLine ∧ Nx (upd H4 D (.lst (acc ++ [y]))) else Nx H3)
theorem lc_core {pins : List (Addr × Obj)} {s : Shared} {σ : St} {H : Hp} {Q : VK} {elt tg iter : Expr} {ifs : List Expr} {scope : Scope} {own : List (Str × Nat)} {pos pos' : Pos} {wi : TI} {g : TG} {tt : TT} {te : TE} {use : Option (Value → Sem Unit)} {Qf : Value → Shared → Prop}
    (hc : X.calm = true) (hN : X.N.Nodup) (I : Inv X pins σ H s) (hi : PI X tg iter wi) (ok : BlkOk X.N X.env.scope scope own)
    (hg : ∀ (s : Shared) (H : Hp) (C : Addr) (cl : List (Str × Addr)) (fp : List Addr), PG (X.blk s H scope (compEnvC scope cl C X.env) fp) tg g) (ht : ∀ (s : Shared) (H : Hp) (C : Addr) (cl : List (Str × Addr)) (fp : List Addr), PTs (X.blk s H scope (compEnvC scope cl C X.env) fp) ifs tt)
    (he : ∀ (s : Shared) (H : Hp) (C : Addr) (cl : List (Str × Addr)) (fp : List Addr), PE (X.blk s H scope (compEnvC scope cl C X.env) fp) elt te) (hs : ∀ x, foldedSetIterable iter X.env x = pure x)
    (h : tLc wi g tt te (own.map (·.2)) σ H Q)
    (hRR : ∀ D C s' m H', Inv X pins σ H' s' → Q (.ref D) H' → s'.heap.Ns C m → FpOk X pins H' C → compPost (model X.prog X.w) X.A X.xe use Qf (.ref D) C (.ok .next) s') :
    wpAny (model X.prog X.w) X.A (comprehension (.ListComp elt [⟨tg, iter, ifs, 0⟩] scope pos) scope X.env pos' (newList []) false (eval iter X.env) use) Qf X.xe s := by
  have hfree : ∀ y ∈ scope.names, y.2 = .free → ∃ c, X.env.cells.lookup y.1 = some c := fun y hy e => by
    rcases ok.free y hy e with k | k
    · exact I.ok.has _ (.inl k)
    · exact I.ok.has _ (.inr k)
  refine wpAny_comprehension_free (use := use) rfl hs (closure_ok hfree) ok.kind (fun y hy e => by rw [ok.uniq y hy, e])
    (thn (hi pins s σ H _ I h) fun xv s1 hx => thn hx fun itv s2 h2 => ?_)
  obtain ⟨it, fp, tn, J, H2, e, I2, T, st2, f2, q⟩ := h2
  subst e
  refine wpAny_newObj_type (newEnv_comp ?_) (by show 0 ≤ sizeLine; decide)
  generalize hD : s2.heap.objs.size = D
  have hDn : H2 D = none := I2.hok.fresh (Nat.le_of_eq hD)
  obtain ⟨W, ⟨m0, w0⟩, turn⟩ := q D hDn
  -- the new list
  generalize hs3 : ({ s2 with heap := s2.heap.push { cls := .type "list", data := .seq ([] : List Value).toArray } } : Shared) = s3
  have I3 : Inv X pins σ (upd H2 D (.lst [])) s3 := by
    rw [← hs3]
    refine I2.laid (t' := s2.toks) (fun b o e => Heap.get?_push_of_some _ e) (Nat.le_of_eq hD) ⟨Nat.zero_le _, [], 0, .nil, ?_⟩
    rw [← hD]
    exact Heap.get?_push_size _ rfl
  have h3 : s3.heap = s2.heap.push { cls := .type "list", data := .seq ([] : List Value).toArray } := by rw [← hs3]
  have sz : ∀ b ∈ fp, b < s2.heap.objs.size := fun b hb => by
    obtain ⟨o, e, _⟩ := T.obj _ _ st2 b hb
    exact Heap.lt_size e
  have f3 : ∀ b ∈ fp, FpOk X pins (upd H2 D (.lst [])) b ∧ b < s3.heap.objs.size := fun b hb => by
    have hlt := sz b hb
    refine ⟨⟨?_, (f2 b hb).2⟩, by rw [h3, Heap.size_push]; exact Nat.lt_succ_of_lt hlt⟩
    rw [upd_ne (by rw [← hD]; exact Nat.ne_of_lt hlt)]
    exact (f2 b hb).1
  have st3 : tn 0 s3.heap := T.keep _ _ _ st2 fun b _ o e => by rw [h3]; exact Heap.get?_push_of_some _ e
  have I4 := block_start I3 ok hN f3
  have pg := hg s3 (upd H2 D (.lst [])) s3.heap.objs.size (cellsFrom (s3.heap.objs.size + 1) scope.names (cloFrom X.env.cells scope.names [])) fp
  have pt := ht s3 (upd H2 D (.lst [])) s3.heap.objs.size (cellsFrom (s3.heap.objs.size + 1) scope.names (cloFrom X.env.cells scope.names [])) fp
  have pe := he s3 (upd H2 D (.lst [])) s3.heap.objs.size (cellsFrom (s3.heap.objs.size + 1) scope.names (cloFrom X.env.cells scope.names [])) fp
  show codeAny _ _ (.compStart (.ListComp elt [⟨tg, iter, ifs, 0⟩] scope pos) 0 (.ref it) (.ref D) (compEnvC scope (cellsFrom (s3.heap.objs.size + 1) scope.names (cloFrom X.env.cells scope.names [])) s3.heap.objs.size X.env)) (compPost (model X.prog X.w) X.A X.xe use Qf (.ref D) s3.heap.objs.size) { s3 with heap := pushCells (s3.heap.push { cls := .type "dict", data := .dict #[] }) scope.names }
  have nfp : ∀ b ∈ fp, (upd H2 D (.lst [])) b = none := fun b hb => (f3 b hb).1.1
  generalize hce : compEnvC scope (cellsFrom (s3.heap.objs.size + 1) scope.names (cloFrom X.env.cells scope.names [])) s3.heap.objs.size X.env = ce at I4 pg pt pe ⊢
  have cL : ce.locals = s3.heap.objs.size := by subst hce; rfl
  generalize hH3 : upd H2 D (.lst []) = H3 at I3 I4 pg pt pe w0 nfp f3
  generalize hs4 : ({ s3 with heap := pushCells (s3.heap.push { cls := .type "dict", data := .dict #[] }) scope.names } : Shared) = s4 at I4 ⊢
  have st4 : tn 0 s4.heap := T.keep _ _ _ st3 fun b _ o e => by rw [← hs4]; exact pushCells_keeps _ _ _ _ (Heap.get?_push_of_some _ e)
  have stat : ∀ {σ' : St} {H' : Hp} {s' : Shared}, Inv (X.blk s3 H3 scope ce fp) [] σ' H' s' → (∀ b ∈ fp, H' b = none) → ∀ b ∈ fp, FpOk (X.blk s3 H3 scope ce fp) [] H' b := fun {σ' H' s'} I' hn b hb =>
    ⟨hn b hb, (I'.ok.exf b hb).1, I'.ok.exfs b hb, .inl hb, fun x c e => (I'.ok.exf b hb).2 x c e, fun p hp => absurd (show p ∈ ([] : List (Addr × Obj)) ++ [] from hp) (by simp)⟩
  have loop : codeAny (model X.prog X.w) X.A (.compLoop (.ListComp elt [⟨tg, iter, ifs, 0⟩] scope pos) 0 (.ref it) (.ref D) ce) (compPost (model X.prog X.w) X.A X.xe use Qf (.ref D) s3.heap.objs.size) s4 := by
    refine compLoop_any (fun n s' => ∃ i H', Inv (X.blk s3 H3 scope ce fp) [] (wipe σ (own.map (·.2))) H' s' ∧ tn i s'.heap ∧ (∀ b ∈ fp, H' b = none) ∧ W i n H') ?_ m0 ⟨0, H3, I4, st4, nfp, w0⟩
    rintro n s5 ⟨i, H5, I5, st5, n5, w5⟩
    rcases turn i n H5 w5 with ⟨stop, qq⟩ | ⟨go, Nx, hNx, step⟩
    · have td := T.done (X.blk s3 H3 scope ce fp) rfl rfl rfl hc i [] s5 _ H5 (fun _ _ => False) I5 (stat I5 n5) st5 stop
      refine thnF td fun r s6 ⟨hr, I6⟩ => ?_
      subst hr
      -- back in the def's context
      have I7 : Inv X pins σ H5 s6 := I3.call' (ch := fp) I6.os I6.base I6.hok I6.bare fun b hb => ⟨(f3 b hb).1.2.2.2.1, (f3 b hb).1.2.1, (f3 b hb).1.2.2.2.2.1, (f3 b hb).1.2.2.2.2.2⟩
      have nC : H5 s3.heap.objs.size = none := by
        have z : H5 ce.locals = none := I6.free
        rw [cL] at z
        exact z
      obtain ⟨m, hn, _⟩ := I6.loc
      have hn : s6.heap.Ns ce.locals m := hn
      rw [cL] at hn
      exact hRR D s3.heap.objs.size s6 m H5 I7 qq hn (I3.fpOk (Nat.le_refl _) nC)
    · have ti := T.item (X.blk s3 H3 scope ce fp) rfl rfl rfl hc i [] s5 _ H5 (fun _ _ => False) I5 (stat I5 n5) st5 go
      refine thnF ti fun r s6 ⟨u, hr, h6⟩ => ?_
      subst hr
      refine thnF h6 fun _ s7 ⟨x, H7, I7, r7, y7, st7, n7⟩ => ?_
      have I7' := I7.pinned (stat I7 n7) (T.obj _ _ st7)
      refine thnF (pg _ s7 _ H7 x u _ I7' r7 (step x H7 y7)) fun _ s8 ⟨σ8, H8, I8, hw8, q8⟩ => ?_
      refine thnF (pt _ s8 σ8 H8 _ I8 q8) fun b s9 ⟨H9, I9, q9⟩ => ?_
      -- the turn's end
      have fin : ∀ {s' : Shared} {H' : Hp}, Inv (X.blk s3 H3 scope ce fp) ([] ++ pinsAt fp s7.heap) σ8 H' s' → Nx H' → ∃ m, m < n ∧ ∃ i H', Inv (X.blk s3 H3 scope ce fp) [] (wipe σ (own.map (·.2))) H' s' ∧ tn i s'.heap ∧ (∀ b ∈ fp, H' b = none) ∧ W i m H' := fun {s' H'} I' nx => by
        obtain ⟨m', hm, w'⟩ := hNx H' nx
        have pin' : ∀ b ∈ fp, ∀ o, s7.heap.get? b = some o → s'.heap.get? b = some o ∧ H' b = none := fun b hb o e =>
          let z := I'.pin (b, o) (List.mem_append_right _ (List.mem_append_right _ (mem_pinsAt hb e)))
          ⟨z.1, z.2.1⟩
        have hl : (wipe σ (own.map (·.2))).length = σ8.length := by rw [← hw8, wipe_length]
        refine ⟨m', hm, i + 1, H', (I'.unpinned (pins := [])).weak hl (fun j v e => ?_), T.keep _ _ _ st7 fun b hb o e => (pin' b hb o e).1, fun b hb => ?_, w'⟩
        · rw [← hw8] at e
          exact (wipe_some e).1
        · obtain ⟨o, e, _⟩ := T.obj _ _ st7 b hb
          exact (pin' b hb o e).2
      cases b with
      | false =>
        simp only [Bool.false_eq_true, if_false] at q9 ⊢
        exact fin I9 q9
      | true =>
        simp only [if_true] at q9 ⊢
        refine thnF (pe _ s9 σ8 H9 _ I9 q9) fun z s10 ⟨yv, H10, I10, r10, acc, hD10, hz10, nx⟩ => ?_
        exact app_ok (X := X.blk s3 H3 scope ce fp) I10 hD10 hz10 r10 fun s11 I11 => fin I11 nx
  exact codeAny_compStart_list loop (T.self X.A 0 _ _ _ st4 loop)
/-- as a value -/
theorem pe_lc {elt tg iter : Expr} {ifs : List Expr} {scope : Scope} {own : List (Str × Nat)} {pos : Pos} {wi : TI} {g : TG} {tt : TT} {te : TE} (hc : X.calm = true) (hN : X.N.Nodup) (hi : PI X tg iter wi) (ok : BlkOk X.N X.env.scope scope own)
    (hg : ∀ (s : Shared) (H : Hp) (C : Addr) (cl : List (Str × Addr)) (fp : List Addr), PG (X.blk s H scope (compEnvC scope cl C X.env) fp) tg g) (ht : ∀ (s : Shared) (H : Hp) (C : Addr) (cl : List (Str × Addr)) (fp : List Addr), PTs (X.blk s H scope (compEnvC scope cl C X.env) fp) ifs tt)
    (he : ∀ (s : Shared) (H : Hp) (C : Addr) (cl : List (Str × Addr)) (fp : List Addr), PE (X.blk s H scope (compEnvC scope cl C X.env) fp) elt te) (hs : ∀ x, foldedSetIterable iter X.env x = pure x := by intro _; rfl) :
    PE X (.ListComp elt [⟨tg, iter, ifs, 0⟩] scope pos) (tLc wi g tt te (own.map (·.2))) := by
  intro pins s σ H Q I h
  rw [eval_ListComp]
  refine lc_core hc hN I hi ok hg ht he hs h fun D C s' m H' I' q hn f => ⟨m, hn, fun h'' sb => ?_⟩
  obtain ⟨f0, f1, f2, f3, f4, f5⟩ := f
  exact ⟨.ref D, H', I'.turned (t' := s'.toks) (fun b o hb e => (sb.2 b hb).trans e) f0 f1 f3 f4 f5, rfl, q⟩
/-- name = [..] on one line, the name a local -/
theorem ps_setLc {i : Nat} {y : Str} {py : Pos} {elt tg iter : Expr} {ifs : List Expr} {scope : Scope} {own : List (Str × Nat)} {pos spos : Pos} {wi : TI} {g : TG} {tt : TT} {te : TE} (hc : X.calm = true) (hN : X.N.Nodup) (hy : X.N[i]? = some y) (hyl : X.env.scope.names.lookup y = some .local)
    (hsw : swapsWith (.ListComp elt [⟨tg, iter, ifs, 0⟩] scope pos) (some (.Name y py)) spos.line X.env = pure true) (hi : PI X tg iter wi) (ok : BlkOk X.N X.env.scope scope own)
    (hg : ∀ (s : Shared) (H : Hp) (C : Addr) (cl : List (Str × Addr)) (fp : List Addr), PG (X.blk s H scope (compEnvC scope cl C X.env) fp) tg g) (ht : ∀ (s : Shared) (H : Hp) (C : Addr) (cl : List (Str × Addr)) (fp : List Addr), PTs (X.blk s H scope (compEnvC scope cl C X.env) fp) ifs tt)
    (he : ∀ (s : Shared) (H : Hp) (C : Addr) (cl : List (Str × Addr)) (fp : List Addr), PE (X.blk s H scope (compEnvC scope cl C X.env) fp) elt te) (hs : ∀ x, foldedSetIterable iter X.env x = pure x := by intro _; rfl) :
    PS X (.Assign [.Name y py] (.ListComp elt [⟨tg, iter, ifs, 0⟩] scope pos) spos) (tAsg (tLc wi g tt te (own.map (·.2))) (gName i)) := by
  intro pins s σ H D I h
  rw [exec_Assign_Name_used _ _ _ _ hsw]
  refine wpAny_bind (wpAny_standAt (wpAny_bind ?_))
  show wpAny _ X.A (do let _ ← comprehension (.ListComp elt [⟨tg, iter, ifs, 0⟩] scope pos) scope X.env (firstIterPos [⟨tg, iter, ifs, 0⟩] pos) (newList []) false (eval iter X.env) (some (assign (.Name y py) X.env))) _ _ s
  have h : tLc wi g tt te (own.map (·.2)) σ H (fun x H1 => gName i x σ H1 D.nx) := h
  refine wpAny_bind (thn (lc_core (Qf := fun _ s' => SP X pins D .next s') hc hN I hi ok hg ht he hs h fun L C s' m H' I' q hn f => ?_) fun _ s' hq => wpAny_pure (wpAny_pure hq))
  show wpAny _ _ (assign (.Name y py) X.env (.ref L)) _ _ _
  refine wpAny_assign_Name (store_ok2 (v := V.ref L) I' hN hy (.inl hyl) rfl (fun s2 I2 ⟨a, sb, ha⟩ => ?_) (.inr hyl))
  obtain ⟨f0, f1, f2, f3, f4, f5⟩ := f
  have haC : C ≠ a := by
    rcases ha with z | z
    · rw [z]; exact f1
    · exact fun e => f4 y a z e.symm
  refine ⟨m, hn.sameBut sb haC, fun h3 sb3 => ?_⟩
  exact ⟨_, H', I2.turned (t' := s2.toks) (fun b o hb e => (sb3.2 b hb).trans e) f0 f1 f3 f4 f5, q⟩
theorem sw_true {elt : Expr} {gs : List Comprehension} {scope : Scope} {pos py : Pos} {y : Str} {l : Nat} {env : Env} (hk : env.scope.kind = .function) (hy : env.scope.names.lookup y = some .local) (hl : (py.line == pos.line) = true)
    (ha : (scope.names.any fun (n, k) => n == y && (k == .local || k == .cell)) = false) : swapsWith (.ListComp elt gs scope pos) (some (.Name y py)) l env = pure true := by
  have ky : env.kindOf y = some .local := hy
  have hb : env.blockKind = .function := by unfold Env.blockKind; rw [hk]; rfl
  unfold swapsWith
  simp only [hb, ky, ha, Expr.pos, hl]
  rfl
end

/-! ### the forms one uses -/
def blkC (N : List Str) (sc scope : Scope) (own : List (Str × Nat)) : Bool :=
  (match scope.kind with | .function => true | _ => false) && (scope.names.all fun y => decide (scope.names.lookup y.1 = some y.2)) && (own.all fun p => decide (N[p.2]? = some p.1)) &&
    (scope.names.all fun y => match y.2 with
      | .free => (match sc.names.lookup y.1 with | some .cell => true | some .free => true | _ => false)
      | .local => decide (y.1 ∈ own.map (·.1)) || decide (y.1 ∉ N)
      | .cell => decide (y.1 ∈ own.map (·.1)) || decide (y.1 ∉ N)
      | _ => true)
theorem blkOk_by {N : List Str} {sc scope : Scope} {own : List (Str × Nat)} (h : blkC N sc scope own = true) : BlkOk N sc scope own := by
  unfold blkC at h
  simp only [Bool.and_eq_true, List.all_eq_true, decide_eq_true_eq] at h
  obtain ⟨⟨⟨h1, h2⟩, h3⟩, h4⟩ := h
  refine ⟨?_, h2, h3, fun y hy e => ?_, fun y hy e => ?_⟩
  · split at h1
    · assumption
    · cases h1
  · have q := h4 y hy
    simp only [e] at q
    split at q <;> first | exact .inl (by assumption) | exact .inr (by assumption) | cases q
  · have q := h4 y hy
    rcases e with e | e <;> (simp only [e, Bool.or_eq_true, decide_eq_true_eq] at q; exact q)
end L2

namespace L2
open PySem PySem.Spec PyProof.Rows

section
variable {prog : Program} {w : World} {A : Around} {R : Result → Shared → Prop} {s : Shared} {elt t0 i0 t1 i1 : Expr} {ifs0 ifs1 : List Expr} {scope : Scope} {pos : Pos} {it acc : Value} {env : Env}
end

section
variable {X : Cx}
end
end L2

namespace L2
open PySem PySem.Spec PyProof.Rows

/-! ### lists of pairs as tables -/
section
variable {κ : Type} [DecidableEq κ]
def valV (kvs : List (κ × V)) (k : κ) : Option V := (kvs.find? fun kv => decide (kv.1 = k)).map (·.2)
/-- in its place, or at the end -/
def putK (kvs : List (κ × V)) (k : κ) (v : V) : List (κ × V) :=
  if (kvs.any fun kv => decide (kv.1 = k)) = true then kvs.map (fun kv => if kv.1 = k then (kv.1, v) else kv) else kvs ++ [(k, v)]
def dropK (kvs : List (κ × V)) (k : κ) : List (κ × V) := kvs.filter fun kv => decide (kv.1 ≠ k)

theorem valV_pos {p : κ × V} {r : List (κ × V)} {k : κ} (e : p.1 = k) : valV (p :: r) k = some p.2 := by simp [valV, List.find?_cons, e]
theorem valV_neg {p : κ × V} {r : List (κ × V)} {k : κ} (e : ¬ p.1 = k) : valV (p :: r) k = valV r k := by simp [valV, List.find?_cons, e]
theorem valV_any (k : κ) : ∀ kvs : List (κ × V), (kvs.any fun kv => decide (kv.1 = k)) = (valV kvs k).isSome
  | [] => rfl
  | p :: r => by
    rw [List.any_cons]
    by_cases e : p.1 = k
    · simp only [valV_pos e, decide_eq_true e, Bool.true_or, Option.isSome_some]
    · rw [valV_neg e, decide_eq_false e, Bool.false_or]; exact valV_any k r
theorem RelO.isSome_eq {o : Option V} {u : Option Value} (r : RelO o u) : o.isSome = u.isSome := by
  cases o with
  | none => cases u with
    | none => rfl
    | some _ => exact (show False from r).elim
  | some _ => cases u with
    | none => exact (show False from r).elim
    | some _ => rfl
theorem RelO.getD {o : Option V} {u : Option Value} {d : V} {d' : Value} (r : RelO o u) (rd : RelV d d') : RelV (o.getD d) (u.getD d') := by
  cases o with
  | none => cases u with
    | none => exact rd
    | some _ => exact (show False from r).elim
  | some _ => cases u with
    | none => exact (show False from r).elim
    | some _ => exact r

/-- raw tables of the same keys -/
theorem KV.val {kvs : List (κ × V)} {vs : List (κ × Value)} (r : KV kvs vs) (k : κ) : RelO (valV kvs k) (valueAt vs k) := by
  unfold KV at r
  induction r with
  | nil => exact True.intro
  | @cons p q ps qs h t ih =>
    obtain ⟨h1, h2⟩ := h
    by_cases e : p.1 = k
    · have e' : q.1 = k := h1.symm.trans e
      have b : valueAt (q :: qs) k = some q.2 := by simp [valueAt, List.find?_cons, e']
      rw [valV_pos e, b]; exact h2
    · have e' : ¬ q.1 = k := fun z => e (h1.trans z)
      have b : valueAt (q :: qs) k = valueAt qs k := by simp [valueAt, List.find?_cons, e']
      rw [valV_neg e, b]; exact ih
theorem KV.any {kvs : List (κ × V)} {vs : List (κ × Value)} (r : KV kvs vs) (k : κ) : (kvs.any fun kv => decide (kv.1 = k)) = vs.any fun kv => decide (kv.1 = k) := by
  unfold KV at r
  induction r with
  | nil => rfl
  | cons h t ih => rw [List.any_cons, List.any_cons, ih, h.1]
theorem KV.repl {kvs : List (κ × V)} {vs : List (κ × Value)} (r : KV kvs vs) (k : κ) {y : V} {u : Value} (ry : RelV y u) :
    KV (kvs.map fun kv => if kv.1 = k then (kv.1, y) else kv) (vs.map fun kv => if kv.1 = k then (kv.1, u) else kv) := by
  unfold KV at r ⊢
  induction r with
  | nil => exact .nil
  | @cons p q ps qs h t ih =>
    rw [List.map_cons, List.map_cons]
    refine .cons ?_ ih
    obtain ⟨h1, h2⟩ := h
    by_cases e : p.1 = k
    · rw [if_pos e, if_pos (h1.symm.trans e)]; exact ⟨h1, ry⟩
    · rw [if_neg e, if_neg (fun z => e (h1.trans z))]; exact ⟨h1, h2⟩
theorem KV.put {kvs : List (κ × V)} {vs : List (κ × Value)} (r : KV kvs vs) (k : κ) {y : V} {u : Value} (ry : RelV y u) : KV (putK kvs k y) (stored vs k u) := by
  unfold putK stored
  rw [r.any k]
  by_cases e : (vs.any fun kv => decide (kv.1 = k)) = true
  · rw [if_pos e, if_pos e]; exact r.repl k ry
  · rw [if_neg e, if_neg e]; exact Paired.snoc r ⟨rfl, ry⟩
theorem KV.drop {kvs : List (κ × V)} {vs : List (κ × Value)} (r : KV kvs vs) (k : κ) : KV (dropK kvs k) (without vs k) := by
  unfold KV at r ⊢
  unfold dropK without
  induction r with
  | nil => exact .nil
  | @cons p q ps qs h t ih =>
    obtain ⟨h1, h2⟩ := h
    rw [List.filter_cons, List.filter_cons]
    by_cases e : p.1 = k
    · have a : ¬ decide (p.1 ≠ k) = true := by simp [e]
      have b : ¬ decide (q.1 ≠ k) = true := by simp [h1.symm.trans e]
      rw [if_neg a, if_neg b]; exact ih
    · have e' : ¬ q.1 = k := fun z => e (h1.trans z)
      have a : decide (p.1 ≠ k) = true := by simp [e]
      have b : decide (q.1 ≠ k) = true := by simp [e']
      rw [if_pos a, if_pos b]; exact .cons ⟨h1, h2⟩ ih
theorem KV.length {kvs : List (κ × V)} {vs : List (κ × Value)} (r : KV kvs vs) : kvs.length = vs.length := Paired.length r
end


/-! ### a tracked dict, its keys ints and texts or tuples of these -/
/-- raw entries of a dict with tuple keys -/
abbrev KT (H : Hp) : List (List Key × V) → List (List Key × Addr × Value) → Prop := Paired fun p q => p.1 = q.1 ∧ H q.2.1 = some (.tup (p.1.map kV)) ∧ RelV p.2 q.2.2
theorem KT.val {H : Hp} {kvs : List (List Key × V)} {xs : List (List Key × Addr × Value)} (r : KT H kvs xs) (k : List Key) : RelO (valV kvs k) ((atKey xs k).map (·.2)) := by
  induction r with
  | nil => exact True.intro
  | @cons p q ps qs h t ih =>
    obtain ⟨h1, _, h2⟩ := h
    by_cases e : p.1 = k
    · have e' : q.1 = k := h1.symm.trans e
      have b : atKey (q :: qs) k = some q.2 := by simp [atKey, List.find?_cons, e']
      rw [valV_pos e, b]; exact h2
    · have e' : ¬ q.1 = k := fun z => e (h1.trans z)
      have b : atKey (q :: qs) k = atKey qs k := by simp [atKey, List.find?_cons, e']
      rw [valV_neg e, b]; exact ih
theorem KT.repl {H : Hp} {kvs : List (List Key × V)} {xs : List (List Key × Addr × Value)} (r : KT H kvs xs) (k : List Key) {y : V} {u : Value} (ry : RelV y u) :
    KT H (kvs.map fun kv => if kv.1 = k then (kv.1, y) else kv) (xs.map (putAt k u)) := by
  induction r with
  | nil => exact .nil
  | @cons p q ps qs h t ih =>
    rw [List.map_cons, List.map_cons]
    refine .cons ?_ ih
    obtain ⟨h1, h2, h3⟩ := h
    unfold putAt
    by_cases e : p.1 = k
    · rw [if_pos e, if_pos (h1.symm.trans e)]; exact ⟨h1, h2, ry⟩
    · rw [if_neg e, if_neg (fun z => e (h1.trans z))]; exact ⟨h1, h2, h3⟩
theorem KT.put {H : Hp} {kvs : List (List Key × V)} {xs : List (List Key × Addr × Value)} (r : KT H kvs xs) (k : List Key) {b : Addr} {y : V} {u : Value} (hb : H b = some (.tup (k.map kV))) (ry : RelV y u) :
    KT H (putK kvs k y) (storedH xs k b u) := by
  have e : (kvs.any fun kv => decide (kv.1 = k)) = (atKey xs k).isSome := by
    rw [valV_any, (r.val k).isSome_eq, Option.isSome_map]
  unfold putK storedH
  rw [e]
  by_cases q : (atKey xs k).isSome = true
  · rw [if_pos q, if_pos q]; exact r.repl k ry
  · rw [if_neg q, if_neg q]; exact Paired.snoc r ⟨rfl, hb, ry⟩
theorem KT.keeps {H H' : Hp} {kvs : List (List Key × V)} {xs : List (List Key × Addr × Value)} (r : KT H kvs xs) (ht : ∀ b ys, H b = some (.tup ys) → H' b = some (.tup ys)) : KT H' kvs xs :=
  Paired.mapP r fun _ _ z => ⟨z.1, ht _ _ z.2.1, z.2.2⟩

section
variable {P : Program} {w : World} {H : Hp} {h : Heap} {a : Addr}
end

/-- what the dict at a holds at the key y -/
def DGet (H : Hp) (a : Addr) (y : V) (r : Option V) : Prop :=
  (∃ kvs k, Rd H a (.dK kvs) ∧ y = kV k ∧ r = valV kvs k) ∨ ∃ kvs k b, Rd H a (.dT kvs) ∧ y = .ref b ∧ H b = some (.tup (k.map kV)) ∧ r = valV kvs k
/-- the heap behind a[y] = v -/
def DPut (H : Hp) (a : Addr) (y v : V) (H' : Hp) : Prop :=
  (∃ kvs k, H a = some (.dK kvs) ∧ y = kV k ∧ kvs.length < sizeLine ∧ H' = upd H a (.dK (putK kvs k v))) ∨
  ∃ kvs k b, H a = some (.dT kvs) ∧ y = .ref b ∧ H b = some (.tup (k.map kV)) ∧ kvs.length < sizeLine ∧ H' = upd H a (.dT (putK kvs k v))
theorem DGet.k {H : Hp} {a : Addr} {kvs : List (Key × V)} {k : Key} (e : H a = some (.dK kvs)) : DGet H a (kV k) (valV kvs k) := .inl ⟨kvs, k, .inl e, rfl, rfl⟩
theorem DGet.t {H : Hp} {a b : Addr} {kvs : List (List Key × V)} {k : List Key} (e : H a = some (.dT kvs)) (eb : H b = some (.tup (k.map kV))) : DGet H a (.ref b) (valV kvs k) := .inr ⟨kvs, k, b, .inl e, rfl, eb, rfl⟩
theorem DPut.k {H : Hp} {a : Addr} {kvs : List (Key × V)} {k : Key} {v : V} (e : H a = some (.dK kvs)) (hl : kvs.length < sizeLine) : DPut H a (kV k) v (upd H a (.dK (putK kvs k v))) := .inl ⟨kvs, k, e, rfl, hl, rfl⟩
theorem DPut.t {H : Hp} {a b : Addr} {kvs : List (List Key × V)} {k : List Key} {v : V} (e : H a = some (.dT kvs)) (eb : H b = some (.tup (k.map kV))) (hl : kvs.length < sizeLine) :
    DPut H a (.ref b) v (upd H a (.dT (putK kvs k v))) := .inr ⟨kvs, k, b, e, rfl, eb, hl, rfl⟩


section
variable {X : Cx} {pins : List (Addr × Obj)} {σ : St} {H : Hp} {s : Shared} {a : Addr} {y v : V} {u r : Value} {o : Option V} {A : Around} {E : Value → Shared → Prop}

theorem Inv.big (I : Inv X pins σ H s) : sysModules < s.heap.objs.size := by
  have h : mainGlobals < s.heap.objs.size := (I.mod.glob.keeps I.bk).lt
  exact Nat.lt_trans (by decide) h

end

section
variable {X : Cx} {pins : List (Addr × Obj)} {σ : St} {H : Hp} {s : Shared} {a : Addr} {kvs : List (Key × V)} {k : Key} {u : Value} {A : Around} {E : Value → Shared → Prop}
end


/-! ### readings and rules -/
section
variable {X : Cx} {o i e value : Expr} {pos pos' tpos : Pos} {td ty tv : TE}
end


/-! ### displays -/
section
variable {X : Cx} {pos : Pos}
end

/-! ### methods -/
/-- a method call o.m(e) of a built-in, with one argument: what must be seen of the text -/
structure M1 (X : Cx) (o : Expr) (m : Str) (apos : Pos) (e : Expr) (cpos : Pos) : Prop where
  base : attributeBase o m X.env (eval o X.env) = eval o X.env
  few : ((backTo cpos (starEach [e] X.env)).all (fun x => !x.1) && (backToKw cpos (keywordEach [] X.env)).all (fun x => x.1.isSome)
    && decide (([e] : List Expr).length + ([] : List Keyword).length + (if ([] : List Keyword).isEmpty then 0 else 1) < 30)) = true
  line : (apos.endLine == cpos.line) = true
  trees : backTo cpos (starEach [e] X.env) = [(false, eval e X.env)]
structure M2 (X : Cx) (o : Expr) (m : Str) (apos : Pos) (e f : Expr) (cpos : Pos) : Prop where
  base : attributeBase o m X.env (eval o X.env) = eval o X.env
  few : ((backTo cpos (starEach [e, f] X.env)).all (fun x => !x.1) && (backToKw cpos (keywordEach [] X.env)).all (fun x => x.1.isSome)
    && decide (([e, f] : List Expr).length + ([] : List Keyword).length + (if ([] : List Keyword).isEmpty then 0 else 1) < 30)) = true
  line : (apos.endLine == cpos.line) = true
  trees : backTo cpos (starEach [e, f] X.env) = [(false, eval e X.env), (false, eval f X.env)]

section
variable {X : Cx} {pins : List (Addr × Obj)} {σ : St} {H : Hp} {s : Shared} {a : Addr} {y d : V} {u r : Value} {o : Option V} {A : Around} {E : Value → Shared → Prop}
end

section
variable {X : Cx} {o e f : Expr} {apos cpos : Pos} {td ty tx : TE}
end

/-! ### dict(d): a copy -/
section
variable {X : Cx} {pins : List (Addr × Obj)} {σ : St} {H : Hp} {s : Shared} {a : Addr} {kvs : List (Key × V)} {A : Around} {E : Value → Shared → Prop}
end


section
variable {X : Cx} {pins : List (Addr × Obj)} {σ : St} {H : Hp} {s : Shared} {a : Addr} {y : V} {u : Value} {A : Around} {E : Value → Shared → Prop}
end
end L2

namespace L2
open PySem PySem.Spec PyProof.Rows

section
variable {prog : Program} {w : World} {A : Around} {E : Value → Shared → Prop}
end

section
variable {X : Cx}
end
end L2

namespace L2
open PySem PySem.Spec PyProof.Rows

section
variable {X : Cx} {pins : List (Addr × Obj)} {σ : St} {H : Hp} {s : Shared} {h' : Heap}
/-! ### locking a thing while a statement runs -/
end
section
variable {X : Cx}
/-! ### one iterator just laid -/
theorem pi_one {tg : Expr} {pins : List (Addr × Obj)} {σ : St} {H : Hp} {s : Shared} {R : It → Hp → Prop} {J : It} {tn : Nat → Heap → Prop} {tk : Nat} (I : Inv X pins σ H s) (o : Obj)
    (T : Turn X.prog X.w X.K tg J [s.heap.objs.size] s.heap.objs.size tn) (st : tn 0 (s.heap.push o)) (q : R J H) : PIE X pins σ tg R (.ref s.heap.objs.size) { s with heap := s.heap.push o, toks := tk } := by
  refine ⟨s.heap.objs.size, [s.heap.objs.size], tn, J, H, rfl, I.kept fun b ob e => Heap.get?_push_of_some _ e, T, st, fun b hb => ?_, q⟩
  have e : b = s.heap.objs.size := by simpa using hb
  subst e
  exact I.fpOk (Nat.le_refl _) (I.hok.fresh (Nat.le_refl _))
end

/-! ### range with a step -/
/-- range(i, j, c): small bounds, n items -/
def RgC (i j c : Int) (n : Nat) : Prop := c ≠ 0 ∧ c.natAbs < 1073741824 ∧ Builtin.Range.small i j c = true ∧ Builtin.Range.rangeSize i j c = n
theorem RgC.neg {i j : Int} (ha : -(2 ^ 62) ≤ i) (ha' : i < 2 ^ 62) (hb : -(2 ^ 62) ≤ j) (hb' : j < 2 ^ 62) : RgC i j (-1) (i - j).toNat :=
  ⟨by decide, by decide, PySem.W.small_down ha ha' hb hb', PySem.W.rangeSize_downNat i j⟩
section
variable {X : Cx} {tg : Expr}
end
/-! ### reversed(list) -/
section
variable {X : Cx} {tg : Expr}
end

/-! ### a str -/
def Its (x : Str) : It := ⟨fun i _ => i < x.cps.size, fun i H v H' => H' = H ∧ ∃ c, x.cps[i]? = some c ∧ v = .str ⟨#[c]⟩, fun i _ => x.cps.size ≤ i⟩
theorem turn_str {P : Program} {w : World} {K : PySem.W.Frag} {tg : Expr} (it : Addr) (x : Str) (t : Tok) (ty : String) (hty : ty = "str_ascii_iterator" ∨ ty = "str_iterator") :
    Turn P w K tg (Its x) [it] it (fun i h => h.IsStrIter it ty x t i) where
  mem := by simp
  obj := fun i h st b hb => by
    have e : b = it := by simpa using hb
    subst e
    obtain ⟨o, e, c, d⟩ := st
    exact ⟨o, e, fun v z => by rw [d] at z; cases z⟩
  keep := fun i h h' st k => let ⟨o, ho, r⟩ := st; ⟨o, k it (by simp) o ho, r⟩
  item := by
    intro X hP hw hK hc i pins s σ H E I hf st hg
    subst hP hw hK
    obtain ⟨f0, f1, f2, f3, f4, f5⟩ := hf it (by simp)
    have W : Walks X.prog X.w X.A it [it] [it] x.cps.size (SignAt x) (fun i h => h.IsStrIter it ty x t i) := by
      rcases hty with e | e
      · rw [e]; exact Walks.strAscii (I.ok.hd hc) it x t
      · rw [e]; exact Walks.strWide (I.ok.hd hc) it x t
    have hno : ["enumerate", "zip", "dict_itemiterator", "dict_reverseitemiterator", "odict_iterator", "itertools.zip_longest", "itertools.pairwise"].contains ty = false := by
      rcases hty with e | e
      · rw [e]; decide
      · rw [e]; decide
    refine W.item i s _ _ hg st fun v h' tk hv st' kk => ?_
    obtain ⟨c, u, hcx, rfl⟩ := hv
    have I1 : Inv X pins σ H { s with heap := h', toks := tk } := I.turned (fun b o hb e => kk b o (by simpa using hb) e) f0 f1 f3 f4 f5
    obtain ⟨oi, e, cc, dd⟩ := id st'
    exact ⟨_, rfl, go_of (s := { s with heap := h', toks := tk }) e cc dd hno ⟨.str ⟨#[c]⟩, H, I1, ⟨u, rfl⟩, ⟨rfl, c, hcx, rfl⟩, st', fun b hb => (hf b hb).1⟩⟩
  done := by
    intro X hP hw hK hc i pins s σ H E I hf st hg
    subst hP hw hK
    obtain ⟨f0, f1, f2, f3, f4, f5⟩ := hf it (by simp)
    have hx : x.cps[i]? = none := Array.getElem?_eq_none hg
    rcases hty with e | e
    · rw [e] at st
      exact wpAny_pyNext_ascii_end (I.ok.hd hc) st hx fun h' eb => ⟨rfl, I.turned (t' := s.toks) (fun b o hb e => eb b o hb e) f0 f1 f3 f4 f5⟩
    · rw [e] at st
      exact wpAny_pyNext_wide_end (I.ok.hd hc) st hx fun h' eb => ⟨rfl, I.turned (t' := s.toks) (fun b o hb e => eb b o hb e) f0 f1 f3 f4 f5⟩
  self := fun A i s Q E st h => by
    rcases hty with e | e
    · rw [e] at st; exact wpAny_pyIter_striter_ascii st h
    · rw [e] at st; exact wpAny_pyIter_striter_wide st h
/-! ### a dict's keys: any dict's entries -/
section
variable {prog : Program} {w : World} {A : Around} {E : Value → Shared → Prop} {s : Shared}
end

/-! ### a locked dict -/
section
variable {X : Cx} {pins : List (Addr × Obj)} {σ : St} {H : Hp} {s : Shared} {d : Addr} {o : Obj}
end

section
variable {P : Program} {w : World} {K : PySem.W.Frag} {tg : Expr} {d : Addr} {o : Obj} {es : Array DictEntry} {ep : Nat}
end

/-! ### for k in d, d.keys(), d.values(), d.items() -/
section
variable {X : Cx} {tg e : Expr} {td : TE} {apos cpos : Pos}
end

/-! ### enumerate(list) -/
/-! ### zip(list, list) -/
end L2

section 
namespace Bits
open PySem PyProof.Rows

end Bits
end 

section 
namespace TL
open PySem PySem.Builtin PySem.Builtin.Str PySem.StrLaws

abbrev tl (x : Str) : List Nat := x.cps.toList
/-! ### the list functions -/
/-- S stands at the head of l -/
def pre (S l : List Nat) : Bool := l.take S.length == S
/-- what stands before the first S, and behind it -/
def par (S : List Nat) : List Nat → List Nat → Option (List Nat × List Nat)
  | _, [] => none
  | acc, c :: r => if pre S (c :: r) = true then some (acc, (c :: r).drop S.length) else par S (acc ++ [c]) r

/-! ### the model's split and partition are these -/
/-! ### computing spl and par -/
/-! ### digits -/
/-! ### words: x.split() -/
end TL
end 

namespace L2
open PySem PySem.Spec PyProof.Rows

section
variable {X : Cx} {pins : List (Addr × Obj)} {σ : St} {H : Hp} {s : Shared} {Q : VK}
end

section
variable {X : Cx}

/-! ### of a text alone -/
/-! ### of a text and a text -/
end

section
variable {X : Cx} {o e : Expr} {to te : TE}
end
end L2

namespace L2
open PySem PySem.Spec PyProof.Rows

section
variable {X : Cx}
end

/-! ### slices of a text -/
theorem IsPart.raw {v : Value} {o : Option Int} (p : IsPart v o) : ∃ l : Option (Int × Tok), v = partValue l ∧ l.map (·.1) = o := by
  cases p with
  | none => exact ⟨none, rfl, rfl⟩
  | int i t => exact ⟨some (i, t), rfl, rfl⟩

/-- a part, clipped, as the text's slice reckons it -/
def clipS (n d : Nat) : Option Int → Int
  | none => (d : Int)
  | some i => max 0 (min (if i < 0 then i + (n : Int) else i) (n : Int))
theorem clipS_eq (n d : Nat) (o : Option Int) : clipS n d o = ((HT.sIx n d o : Nat) : Int) := by
  cases o with
  | none => rfl
  | some v =>
    show max (0 : Int) (min (if v < 0 then v + (n : Int) else v) (n : Int)) = (((if v < 0 then (v + (n : Int)).toNat else min v.toNat n) : Nat) : Int)
    by_cases hv : v < 0
    · simp only [if_pos hv]
      omega
    · simp only [if_neg hv]
      omega
theorem sidx_clip (a b : Option Int) (n : Nat) : Builtin.Str.strSliceIndices a b 1 n = sliceRange (clipS n 0 a) (clipS n n b) 1 := by
  have h1 : ((1 : Int) > 0) = True := by simp
  cases a <;> cases b <;> first
    | rfl
    | (simp only [Builtin.Str.strSliceIndices, clipS, h1, if_true]; rfl)
    | simp [Builtin.Str.strSliceIndices, clipS]
theorem sidx (a b : Option Int) (n : Nat) : Builtin.Str.strSliceIndices a b 1 n = (List.range (HT.sIx n n b - HT.sIx n 0 a)).map (fun k => HT.sIx n 0 a + k) := by
  rw [sidx_clip, clipS_eq, clipS_eq]
  generalize HT.sIx n 0 a = p
  generalize HT.sIx n n b = q
  simp only [sliceRange, show ((1 : Int) > 0) = True from by simp, if_true]
  by_cases hlt : (p : Int) < q
  · have e3 : (((q : Int) - p + 1 - 1) / 1).toNat = q - p := by first | omega | (simp; done) | (simp; omega)
    simp only [hlt, if_true, e3]
    refine List.map_congr_left fun k _ => ?_
    omega
  · have : q - p = 0 := by omega
    simp [hlt, this]

/-- z[lo:hi] -/
def cutS (z : Str) (lo hi : Option Int) : Str :=
  ⟨((z.cps.toList.drop (HT.sIx z.length 0 lo)).take (HT.sIx z.length z.length hi - HT.sIx z.length 0 lo)).toArray⟩
theorem sliceText_cut (z : Str) (lo hi : Option Int) : PySem.StrLaws.sliceText z lo hi = cutS z lo hi := by
  have h1 : HT.sIx z.length 0 lo ≤ z.length := HT.sIx_le _ _ (Nat.zero_le _) _
  have h2 : HT.sIx z.length z.length hi ≤ z.length := HT.sIx_le _ _ (Nat.le_refl _) _
  have hp : HT.sIx z.length 0 lo ≤ max (HT.sIx z.length 0 lo) (HT.sIx z.length z.length hi) := Nat.le_max_left _ _
  have hq : max (HT.sIx z.length 0 lo) (HT.sIx z.length z.length hi) ≤ z.length := Nat.max_le.mpr ⟨h1, h2⟩
  have hd : max (HT.sIx z.length 0 lo) (HT.sIx z.length z.length hi) - HT.sIx z.length 0 lo = HT.sIx z.length z.length hi - HT.sIx z.length 0 lo := by omega
  have e : Builtin.Str.strSliceIndices lo hi 1 z.length =
      Builtin.Str.strSliceIndices (some ((HT.sIx z.length 0 lo : Nat) : Int)) (some ((max (HT.sIx z.length 0 lo) (HT.sIx z.length z.length hi) : Nat) : Int)) 1 z.length := by
    rw [PySem.StrLaws.strSliceIndices_plain hp hq, hd, sidx]
  have e2 : PySem.StrLaws.sliceText z lo hi =
      PySem.StrLaws.sliceText z (some ((HT.sIx z.length 0 lo : Nat) : Int)) (some ((max (HT.sIx z.length 0 lo) (HT.sIx z.length z.length hi) : Nat) : Int)) := by
    unfold PySem.StrLaws.sliceText
    rw [e]
  rw [e2, PySem.StrLaws.sliceText_nat z hp hq, hd]
  rfl
theorem cutS_length (z : Str) (lo hi : Option Int) : (cutS z lo hi).length ≤ z.length := by
  show (((z.cps.toList.drop (HT.sIx z.length 0 lo)).take (HT.sIx z.length z.length hi - HT.sIx z.length 0 lo)).toArray).size ≤ z.cps.size
  rw [List.size_toArray, List.length_take, List.length_drop, Array.length_toList]
  omega
def rSlS : V → Option Int → Option Int → Hp → VK → Prop := fun x lo hi H Q => ∃ z, x = .str z ∧ z.length ≤ sizeLine ∧ Q (.str (cutS z lo hi)) H
theorem sl_str {X : Cx} : SlR X rSlS := by
  intro pins s σ H x v vl vu lo hi sl Q I rx hs pl pu h
  obtain ⟨z, rfl, hz, q⟩ := h
  obtain ⟨t, rfl⟩ := rx
  obtain ⟨os, hos, hcs, hds⟩ := hs
  obtain ⟨l, rfl, rfl⟩ := IsPart.raw pl
  obtain ⟨u, rfl, rfl⟩ := IsPart.raw pu
  refine ⟨"str", _, F.slot_str_getitem.lookup, typeIs_str _ _ _, ?_⟩
  refine wpAny_getItem_str_slice (l := l) (u := u) (st := none) ⟨os, hos, hcs, hds⟩ rfl ?_
  have hl : (PySem.StrLaws.sliceText z (l.map (·.1)) (u.map (·.1))).length ≤ sizeLine := by
    rw [sliceText_cut]
    exact Nat.le_trans (cutS_length z _ _) hz
  rw [← sliceText_cut] at q
  unfold PySem.StrLaws.sliceText at q hl
  show Made.post (if ((1 : Int) == 1 && (Builtin.Str.strSliceIndices (l.map (·.1)) (u.map (·.1)) 1 z.length).length == z.length) = true then Made.val (.str z t)
    else Made.str ⟨((Builtin.Str.strSliceIndices (l.map (·.1)) (u.map (·.1)) 1 z.length).filterMap (z.cps[·]?)).toArray⟩) (EP X pins σ Q) s
  by_cases c : ((1 : Int) == 1 && (Builtin.Str.strSliceIndices (l.map (·.1)) (u.map (·.1)) 1 z.length).length == z.length) = true
  · rw [if_pos c] at q ⊢
    exact ⟨.str z, H, I, ⟨t, rfl⟩, q⟩
  · rw [if_neg c] at q hl ⊢
    exact ⟨hl, .str _, H, I.tok _, ⟨_, rfl⟩, q⟩
end L2

namespace Att
open PySem PySem.W PySem.Calls PyProof.Rows

/-! ### the script -/
theorem ints_of_wellAll {P : Params} {h : Heap} : ∀ (ns : List Int) (vs : List Value), WellAll P h vs (ns.map WData.int) → IntsAre vs ns := by
  intro ns
  induction ns with
  | nil =>
    intro vs w
    rw [List.map_nil] at w
    cases w
    exact .nil
  | cons n ns ih =>
    intro vs w
    rw [List.map_cons] at w
    cases w with
    | cons a b =>
      cases a
      exact .cons _ _ (ih _ b)

theorem script_of {l : OpenLaw} {n : Nat} (hn : l.most = some n) {P : Params} {h : Heap} {args : List WData} {vals : List Value}
    (hpre : l.row.toRowW.claim.pre args = true) (hwl : WellAll P h vals args) :
    ∃ a vs ns, vals = [Value.ref a] ∧ args = [WData.list (ns.map WData.int)] ∧ h.get? a = some { cls := .type "list", data := .seq vs.toArray } ∧ IntsAre vs ns ∧ ns.length ≤ n := by
  have hsh : WShape.hasAll [] args [.list .int] = true := (pre_splitW hpre).1
  have hc : l.pre.holds [] { args := args } = true := (pre_splitW hpre).2
  obtain ⟨d, r, rfl, h1, h2⟩ := hasAllW_cons hsh
  obtain rfl := hasAllW_nil h2
  obtain ⟨xs, rfl, h3⟩ := hasW_list h1
  obtain ⟨ns, rfl⟩ := items_int h3
  have hlen : ns.length ≤ n := by
    unfold OpenLaw.pre at hc
    have h4 : (WTm.not (.lt (.lit (.int (n : Int))) (.len (.arg 0)))).holds [] { args := [.list (ns.map .int)] } = true := by
      have h4 := (holds_andW hc).1
      rw [hn] at h4
      exact h4
    have h5 := condW_of h4 (w_not (w_lt w_lit (w_len_list (w_arg rfl))))
    rw [List.length_map] at h5
    refine Nat.le_of_not_lt fun q => ?_
    have q' : (n : Int) < ((ns.length : Nat) : Int) := by omega
    first
      | (rw [decide_eq_true q'] at h5; exact absurd h5 (by decide))
      | (simp at h5; omega)
  cases hwl with
  | cons w1 w2 =>
    cases w2
    cases w1 with
    | list ho hall => exact ⟨_, _, ns, rfl, rfl, ho, ints_of_wellAll ns _ hall, hlen⟩

theorem post_true (l : OpenLaw) (args : List WData) : l.row.toRowW.claim.post args (.bool true) args = true :=
  postW_of (r := l.row.toRowW) (X := (true == true))
    (show WShape.has [] (.bool true) .bool = true by first | rfl | decide | simp [WShape.has, WShape.arms, WShape.armsAll])
    (show (WTm.eq .res (.lit (.bool true))).value [] { args := args, res := some (.bool true), after := args } = some (.bool (true == true)) from w_eq_bool (w_res rfl) w_lit) rfl

/-! ### the attachment: holds_open's last premise (the goal 'hc' behind k_head) from a wpAny of the law's body -/
/-- the same from a codeAny of the CALL (for a layer whose function contracts speak of calls) -/
theorem attach_call {l : OpenLaw} {n : Nat} {q : Program} {loose : List Str} {XP : (Str → Option Value) → Heap → Prop} {YP : World → Heap → Prop} {d : DefRec}
    (hn : l.most = some n) (hdf : d.params.defaults = [])
    (call : ∀ (w : World) (s₀ s₁ : Shared) (mg mb : Str → Option Value) (fa : Addr) (o : Obj) (pm cd doc : Value) (a : Addr) (vs : List Value) (ns : List Int),
      Ground q loose [] XP w s₀ mg mb s₁.heap → YP w s₁.heap →
      s₁.heap.get? fa = some o → o.data = .func (docDef d.name d.params d.body d.scope pm cd doc) → s₁.heap.CodeRec cd d.name → mg d.name = some (.ref fa) →
      s₁.heap.get? a = some { cls := .type "list", data := .seq vs.toArray } → IntsAre vs ns → ns.length ≤ n → s₁.gens = #[] →
      codeAny (model l.prog w) callerA (.call (.ref fa) ⟨[.ref a], []⟩) (fun r s' => r = .ok (.ret (.bool true)) ∧ OldK s₁.heap s'.heap ∧ s'.os = s₁.os ∧ AllBare s'.gens) s₁) :
    WalkO q loose XP YP l.row.toRowW d [] (fun f vs => PySem.call f vs) := by
  intro w s₀ s₁ mg mb G Y fa o pm cd doc dV kV ho hd hcd hD hmg hg args vals as hpre hlay hrd hwl hlo
  obtain rfl : dV = .none := Dflts.none hD hdf
  obtain rfl : kV = .none := Dflts.noKw hD
  obtain ⟨a, vs, ns, rfl, rfl, hobj, hints, hlen⟩ := script_of hn hpre hwl
  refine enter_call (codeAny_mono (call w s₀ s₁ mg mb fa o pm cd doc a vs ns G Y ho (fd_plain hd) hcd hmg hobj hints hlen hg) fun r s' hq => ?_)
  obtain ⟨rfl, h2, h3, h4⟩ := hq
  exact ⟨.inl ⟨.bool true, .bool true, [], rfl, fun _ => rfl, .bool true, post_true l _, fun _ => ⟨List.Pairwise.nil, fun _ hm => (nomatch hm)⟩⟩, h2, h3, h4⟩

/-! ### rules over ANY heap (no ledger) from facts about the written part K: the library's own take a ledger (News) for what they write -/
section
variable {prog : Program} {w : World} {A : Around} {E : Value → Shared → Prop} {s : Shared} {K : Frag}

/-! the whole heap as the ledger: makes every rule that writes through a ledger a rule over any heap -/
end
end Att

namespace L2
open PySem PySem.Spec PyProof.Rows

theorem vals_ints : ∀ {vs : List Value} {ns : List Int}, IntsAre vs ns → Vals (ns.map V.int) vs
  | _, _, .nil => .nil
  | _, _, .cons n t h => .cons ⟨t, rfl⟩ (vals_ints h)

/-- nothing is tracked but the script, known to the object (or it is an object of the module) -/
def Only (H : Hp) : Prop := ∀ b, H b = none ∨ ∃ o xs, H b = some (.frz o (.lst xs))

/-- THE HEAD: the law's promise, at the heap behind the top. F, the promise of the law's def, may use that base is part of the heap (so K.In base, base.Ns mainGlobals mg stand in Mod) -/
theorem law_call {P : Program} {w : World} {K : PySem.W.Frag} {mg mb : Str → Option Value} {CX : CXT} {k : Nat} {fa a : Addr} {fd : FuncData} {x : Str} {sp : Sp} {s₁ : Shared} {vs : List Value} {ns : List Int}
    (KX : K.In s₁.heap) (hns : s₁.heap.Ns mainGlobals mg) (hb : s₁.heap.Ns builtinsNs mb) (hbb : ∀ x : Str, x ≠ "__name__" → mb x = bootBuiltins x) (hlim : s₁.heap.NoLimit) (hg : s₁.gens = #[])
    (ha : s₁.heap.get? a = some { cls := .type "list", data := .seq vs.toArray }) (hi : IntsAre vs ns) (hl : ns.length ≤ sizeLine) (hr : Room k callerA)
    (F : ∀ base : Heap, K.In base → base.Ns mainGlobals mg → FnOk P w K mg base CX k fa fd [x] sp) (hbind : ∀ (s : Shared) (u : Value), BindsTo s fd ⟨[u], []⟩ [(x, u)])
    (hsp : ∀ H : Hp, Only H → SqL K H a (ns.map V.int) → sp [.ref a] H (fun v _ => v = .bl true) fun _ _ _ => False)
    (hCX : ∀ H e s', CX [] H s₁ (fun _ _ _ => False) e s' → False) :
    codeAny (model P w) callerA (.call (.ref fa) ⟨[.ref a], []⟩) (fun r s' => r = .ok (.ret (.bool true)) ∧ OldK s₁.heap s'.heap ∧ s'.os = s₁.os ∧ AllBare s'.gens) s₁ := by
  have rv := vals_ints hi
  have lenV := hi.length
  -- from an abstract heap in which nothing but the script may be tracked
  have core : ∀ H : Hp, Only H → SqL K H a (ns.map V.int) → HOk P w H s₁.heap → (∀ b, H b ≠ none → b = a) → (H a ≠ none → K.lookup a = none) →
      codeAny (model P w) callerA (.call (.ref fa) ⟨[.ref a], []⟩) (fun r s' => r = .ok (.ret (.bool true)) ∧ OldK s₁.heap s'.heap ∧ s'.os = s₁.os ∧ AllBare s'.gens) s₁ := by
    intro H hO hS hok hA hK
    have base_of : ∀ {b : Addr} {o : Obj}, s₁.heap.get? b = some o → H b = none → (hidT s₁.heap H).get? b = some o := fun e n => hidT_get e n
    have noA : ∀ {b : Addr} {o : Obj} {es : Array DictEntry} {ep : Nat}, s₁.heap.get? b = some o → o.data = .dict es ep → H b = none := fun {b o es ep} e d => by
      cases q : H b with
      | none => rfl
      | some u =>
        have e' : b = a := hA b (by rw [q]; simp)
        subst e'
        rw [ha] at e; cases e
        have d' : Data.seq vs.toArray _ = Data.dict es ep := d
        cases d'
    have nsK : ∀ {b : Addr} {m : Str → Option Value}, s₁.heap.Ns b m → (hidT s₁.heap H).Ns b m := fun {b m} ⟨o, es, ep, e, d, r⟩ => ⟨o, es, ep, base_of e (noA e d), d, r⟩
    have hKb : K.In (hidT s₁.heap H) := fun b o e => base_of (KX b o e) (by
      cases q : H b with
      | none => rfl
      | some u =>
        have e' : b = a := hA b (by rw [q]; simp)
        subst e'
        rw [hK (by rw [q]; simp)] at e; cases e)
    have hM : Mod K mg (hidT s₁.heap H) := ⟨hKb, nsK hns, ⟨mb, nsK hb, hbb⟩, let ⟨mc, h1, h2⟩ := hlim; ⟨mc, nsK h1, h2⟩⟩
    have e0 : Env0 P w K mg (hidT s₁.heap H) callerA [] s₁ H := ⟨rfl, hM, fun b o e => of_hidT e, Nat.le_of_eq (hidT_size _ _), trivial, fun b hb => absurd (show b ∈ ([] : List Addr) from hb) (by simp), hok, .of_eq hg⟩
    refine codeAny_mono ((F _ hKb (nsK hns)).run callerA [] s₁ H ⟨[.ref a], []⟩ [.ref a] [.ref a] _ _ hr e0 (hbind s₁ (.ref a)) (.cons rfl .nil) (hsp H hO hS)) fun r s' h => ?_
    cases r with
    | error e => exact (hCX H e s' h).elim
    | ok fl =>
      cases fl with
      | next => exact False.elim h
      | brk => exact False.elim h
      | cont => exact False.elim h
      | ret u =>
        obtain ⟨v, H', os, bare, un, hok', r', q⟩ := h
        have q' : v = .bl true := q
        subst q'
        obtain rfl : u = Value.bool true := r'
        refine ⟨rfl, OldK.of_keep fun b o e => ?_, os, bare⟩
        cases q : H b with
        | none => exact un.keep b o e q (by intro z; exact absurd (show b ∈ ([] : List Addr) from z) (by simp)) (by simp)
        | some u =>
          rcases hO b with z | ⟨ob, xs, z⟩
          · rw [q] at z; cases z
          · have z2 := un.frzs b ob _ z
            obtain ⟨e1, _⟩ := hok b _ z
            obtain ⟨e2, _⟩ := hok' b _ z2
            rw [e] at e1; cases e1
            exact e2
  cases hk : K.lookup a with
  | some o =>
    -- the script is one of the module's own objects
    have e := KX a o hk
    rw [ha] at e
    cases e
    refine core (fun _ => none) (fun _ => .inl rfl) (.inr ⟨_, vs.toArray, _, hk, rfl, rfl, rfl, by rw [List.size_toArray, lenV]; exact hl, by simpa using rv⟩) (fun b u z => by have z' : (none : Option HO) = some u := z; cases z') (fun b z => absurd rfl z) fun z => absurd rfl z
  | none =>
    refine core (fun b => if b = a then some (.frz { cls := .type "list", data := .seq vs.toArray } (.lst (ns.map V.int))) else none) (fun b => ?_) (.inl (.inr ⟨{ cls := .type "list", data := .seq vs.toArray }, if_pos rfl⟩)) (fun b u z => ?_) (fun b z => ?_) fun _ => hk
    · by_cases hb : b = a
      · exact .inr ⟨_, _, if_pos hb⟩
      · exact .inl (if_neg hb)
    · by_cases hb : b = a
      · have z' := (if_pos hb).symm.trans z
        cases z'
        subst hb
        exact ⟨ha, by rw [List.length_map]; exact hl, vs, _, rv, ha⟩
      · have z' := (if_neg hb).symm.trans z
        cases z'
    · by_cases hb : b = a
      · exact hb
      · exact absurd (if_neg hb) z
end L2

namespace L2
open PySem PySem.Spec PyProof.Rows

abbrev KOf {K : PySem.W.Frag} {h : Heap} (_ : K.In h) : PySem.W.Frag := K

/-- the goal that k_head leaves (case hc), from the law's promise. F gives the function object fd (K's own) once, then the promise over every base -/
theorem walk_of {l : PySem.W.OpenLaw} {n k : Nat} {q : Program} {loose : List Str} {XP : (Str → Option Value) → Heap → Prop} {YP : World → Heap → Prop} {d : DefRec} {K : Params → PySem.W.Frag} {CX : World → CXT} {sp : World → Sp} {x : Str}
    (hn : l.most = some n) (hn2 : n ≤ sizeLine) (hdf : d.params.defaults = []) (hr : Room k callerA)
    (hY : ∀ (w : World) (h : Heap), YP w h → (K w.params).In h)
    (F : ∀ (w : World) (mg : Str → Option Value) (fa : Addr) (h : Heap), (K w.params).In h → h.Ns mainGlobals mg → mg d.name = some (.ref fa) →
      ∃ fd : FuncData, (∀ (s : Shared) (u : Value), BindsTo s fd ⟨[u], []⟩ [(x, u)]) ∧
        ∀ base : Heap, (K w.params).In base → base.Ns mainGlobals mg → FnOk l.prog w (K w.params) mg base (CX w) k fa fd [x] (sp w))
    (hsp : ∀ (w : World) (H : Hp) (a : Addr) (ns : List Int), ns.length ≤ n → Only H → SqL (K w.params) H a (ns.map V.int) → sp w [.ref a] H (fun v _ => v = .bl true) fun _ _ _ => False)
    (hCX : ∀ (w : World) (H : Hp) (s : Shared) (e : Value) (s' : Shared), CX w [] H s (fun _ _ _ => False) e s' → False) :
    PySem.W.WalkO q loose XP YP l.row.toRowW d [] (fun f vs => PySem.call f vs) := by
  refine Att.attach_call hn hdf fun w s₀ s₁ mg mb fa o pm cd doc a vs ns G Y ho hd hcd hmg hobj hints hlen hg => ?_
  have KX := hY w _ Y
  obtain ⟨fd, hb, hF⟩ := F w mg fa _ KX G.T.g hmg
  exact law_call KX G.T.g G.T.b G.T.builtins G.T.nolimit hg hobj hints (Nat.le_trans hlen hn2) hr hF hb (fun H hO hS => hsp w H a ns hlen hO hS) fun H e s' => hCX w H s₁ e s'
end L2

/- THE LAST THEOREM (shape; LID, My.* are yours):
   My.Adr: a structure of the addresses that your layer names (classes, functions); My.Txt K t: a structure (Prop) of the equations over K;
   My.txt_mk : {K} {implicit addresses ..} (e1 : nsIn K mainGlobals "law" = some (some (.ref f))) (e2 : K.lookup f = some ⟨oc, od, .func (fnOf "law" "law" params body scope dV kV doc pm an cdv ct), sl⟩) (e3 : codeIn K cdv "law" = true) .. : ∃ t, My.Txt K t

theorem PySem.Challenge.cw_LID_holds : PySem.Challenge.rw_LID.Holds := by
  w_on; o_law; k_head; (case hw => w_witness2)
  k_fill
  refine L2.walk_of (l := PySem.Challenge.rw_LID) (n := 63) (k := 40) (x := "script") (CX := fun w => ..) (sp := fun _ => My.sp_law) rfl (by decide) rfl ⟨rfl, by decide, by decide⟩ (fun w h Y => PySem.W.kIn_of Y) ?F ?S ?C
  case F =>
    intro w mg fa h KX G hmg
    have T : ∃ t, My.Txt (L2.KOf KX) t := by
      dsimp only [L2.KOf]                          -- K must stand as «<heap const> w.params» for k_is
      refine' My.txt_mk ?e1 ?e2 ?e3 ..
      (case e1 => PySem.W.k_is)                    -- in the order: a name -> its address -> its object -> its parts
      (case e2 => PySem.W.k_is)
      ..
    obtain ⟨t, T⟩ := T
    have e0 := hmg.symm.trans (PySem.W.mg_of KX G T.law)
    cases e0                                       -- fa is the law's own address
    exact ⟨_, fun s u => .of_eq rfl, fun base kb nb => My.law_fn T kb nb⟩     -- if «.of_eq rfl» comes too early: refine' ⟨_, ?b, fun base kb nb => My.law_fn T kb nb⟩; exact fun s u => .of_eq rfl
  case S => exact fun w H a ns hl hO hS => ..
  case C => exact ..
(the tactic k_is has no namespace: write k_is) -/

/-! SHORT WORDS over the layer: a def of the text, its body, what a loop and a test want. -/
namespace L2
open PySem PySem.Spec PyProof.Rows

/-! ### the text by places -/
/-- the j-th statement of a class's body -/
def inClass (s : Stmt) (j : Nat) : Stmt := match s with
  | .ClassDef _ _ _ body _ _ _ _ _ _ _ => body.getD j (.Pass ⟨0, 0, 0, 0⟩)
  | _ => .Pass ⟨0, 0, 0, 0⟩
def defArgs (s : Stmt) : Arguments := match s with
  | .FunctionDef _ a _ _ _ _ _ _ _ _ => a
  | _ => { posonlyargs := [], args := [], vararg := none, kwonlyargs := [], kw_defaults := [], kwarg := none, defaults := [] }
def defBody (s : Stmt) : List Stmt := match s with
  | .FunctionDef _ _ b _ _ _ _ _ _ _ => b
  | _ => []
def defScope (s : Stmt) : Scope := match s with
  | .FunctionDef _ _ _ _ _ _ sc _ _ _ => sc
  | _ => { kind := .function, names := [], isGenerator := false, isCoroutine := false }

/-! ### no exception leaves a def -/
abbrev CX0 : CXT := fun _ _ _ _ _ _ => False
/-! ### a def (or method) of the text as it stands behind the top -/
structure Fun (K : PySem.W.Frag) (x qual : Str) (st : Stmt) (f : Addr) (fd : FuncData) : Prop where
  ex : ∃ (oc : Value) (od : Option Addr) (kV doc pm : Value) (an : Option Addr) (cdv ct : Value) (osl : Array (Option Value)),
    fd = PySem.W.fnOf x qual (defArgs st) (defBody st) (defScope st) .none kV doc pm an cdv ct ∧ K.lookup f = some ⟨oc, od, .func fd, osl⟩ ∧ PySem.W.codeIn K cdv qual = true
  kp : PySem.W.keepIn K (.ref f) = true
section
variable {P : Program} {w : World} {K : PySem.W.Frag} {mg : Str → Option Value} {base : Heap}
/-- THE RULE for a def: its body as a term of rules, and the reading of that term -/
theorem Fun.ok {x qual : Str} {st : Stmt} {f : Addr} {fd : FuncData} {N ps : List Str} {k : Nat} {sp : Sp} (F : Fun K x qual st f fd) (S : FnScope N ps (defScope st)) (len : ∀ vs H Q E, sp vs H Q E → vs.length = ps.length)
    (hbody : ∀ (cdv : Value) (A : Around) (outer : List Env) (s : Shared) (H : Hp) (vs : List V) (Q : VK) (E : XK), Room k (A.deeper (envOfC qual (defScope st) s.heap.objs.size f cdv)) → sp vs H Q E →
      ∃ t, PSs (cxOf CX0 P w K mg base N qual (defScope st) f cdv A outer s H E).nox (defBody st) t ∧ t { nx := fun _ H' => Q .non H', rt := Q } (start N vs) H) : FnOk P w K mg base CX0 (k + 1) f fd ps sp := by
  obtain ⟨oc, od, kV, doc, pm, an, cdv, ct, osl, rfl, lk, hcd⟩ := F.ex
  refine fn_of lk hcd S len fun A outer s H vs Q E hr hsp => ?_
  obtain ⟨t, h, q⟩ := hbody cdv A outer s H vs Q E hr hsp
  exact ⟨t, h.nox, q⟩
end
/-! ### expressions in short: the name that stands in the i-th slot -/
section
variable {X : Cx}
theorem pv (i : Nat) {x : Str} {pos : Pos} (hN : X.N[i]? = some x := by rfl) (hv : Vis X.env.scope x := by first | exact Or.inl rfl | exact Or.inr (Or.inl rfl) | exact Or.inr (Or.inr rfl)) (hd : (x == ("__debug__" : Str)) = false := by decide)
    (hcd : (x == ("__classdict__" : Str)) = false := by decide) : PE X (.Name x pos) (tVar i) := pe_var hN hv hd hcd
end

/-! ### tests -/
/-! ### heaps -/
/-- all that was tracked is as it was -/
def Same (H H' : Hp) : Prop := ∀ b o, H b = some o → H' b = some o
theorem Same.refl (H : Hp) : Same H H := fun _ _ h => h
theorem Same.trans {H H1 H2 : Hp} (a : Same H H1) (b : Same H1 H2) : Same H H2 := fun c o h => b c o (a c o h)
theorem Same.free {H H' : Hp} (e : Same H H') {l : Addr} (h : H' l = Option.none) : H l = Option.none := by
  cases q : H l with
  | none => rfl
  | some o =>
    rw [e l o q] at h
    cases h
theorem Same.seq {K : PySem.W.Frag} {H H' : Hp} {a : Addr} {xs : List V} (e : Same H H') (h : SqL K H a xs) : SqL K H' a xs := by
  rcases h with (h | ⟨o, h⟩) | h
  · exact .inl (.inl (e _ _ h))
  · exact .inl (.inr ⟨o, e _ _ h⟩)
  · exact .inr h

/-! ### a dict's pairs: keys that differ -/
section
variable {κ : Type} [DecidableEq κ]
end
/-! ### lists -/
/-- a new instance and its __init__ leave all that was tracked as it was -/
theorem Same.made {H H1 : Hp} {x dx C : Addr} (nx : H x = Option.none) (nd : H dx = Option.none) (k : ∀ b o, (upd (upd H dx (.own x)) x (.ins C dx [])) b = some o → b ≠ x → H1 b = some o) : Same H H1 := fun b o e =>
  k b o (by rw [upd_ne (ne_of_none e nx), upd_ne (ne_of_none e nd)]; exact e) (ne_of_none e nx)
end L2

namespace L2
open PySem PySem.Spec PyProof.Rows
/-! ### what keeps each object's dict where it is -/
def DK (h h' : Heap) : Prop := ∀ b o, h.get? b = some o → ∃ o', h'.get? b = some o' ∧ o'.dict = o.dict
theorem DK.rf (h : Heap) : DK h h := fun _ o e => ⟨o, e, rfl⟩
theorem DK.tr {h1 h2 h3 : Heap} (x : DK h1 h2) (y : DK h2 h3) : DK h1 h3 := fun b o e =>
  let ⟨_, e1, d1⟩ := x b o e; let ⟨o2, e2, d2⟩ := y b _ e1; ⟨o2, e2, d2.trans d1⟩
def KD {α : Type} (t : Sem α) : Prop := ∀ (M : Model) (Γ : PySem.Ctx) (Q : α → Pos → Shared → Prop) (E : Value → Pos → Shared → Prop) (p : Pos) (s : Shared),
  Sem.wp M Γ t Q E p s → Sem.wp M Γ t (fun a p' s' => Q a p' s' ∧ DK s.heap s'.heap) (fun e p' s' => E e p' s' ∧ DK s.heap s'.heap) p s
theorem KD.bd {α β : Type} {m : Sem α} {f : α → Sem β} (a : KD m) (b : ∀ x, KD (f x)) : KD (m >>= f) := by
  intro M Γ Q E p s h
  rw [Sem.wp_bind'] at h ⊢
  refine Sem.wp_mono _ _ _ (fun x p1 s1 z => ?_) (fun _ _ _ z => z) _ _ (a M Γ _ _ p s h)
  refine Sem.wp_mono _ _ _ (fun y p2 s2 w => ⟨w.1, z.2.tr w.2⟩) (fun _ _ _ w => ⟨w.1, z.2.tr w.2⟩) _ _ (b x M Γ _ _ p1 s1 z.1)
theorem KD.pr {α : Type} (a : α) : KD (pure a : Sem α) := fun M Γ Q E p s h => by
  rw [Sem.wp_pure'] at h ⊢; exact ⟨h, DK.rf _⟩
theorem KD.no {α : Type} (w : String) : KD (unsupported w : Sem α) := fun M Γ Q E p s h => by
  have h : Sem.wp M Γ (.unsupported w : Sem α) Q E p s := h
  rw [Sem.wp_unsupported] at h; exact h.elim
theorem KD.ld (a : Addr) (pt : Option Value) : KD (Sem.load a pt .pure) := fun M Γ Q E p s h => by
  rw [Sem.wp_load] at h ⊢
  obtain ⟨o, e, h⟩ := h
  rw [Sem.wp_pure] at h
  exact ⟨o, e, by rw [Sem.wp_pure]; exact ⟨h, DK.rf _⟩⟩
theorem KD.al (o : Obj) : KD (alloc o) := fun M Γ Q E p s h => by
  unfold alloc at h ⊢
  rw [Sem.wp] at h ⊢
  rw [Sem.wp_pure] at h ⊢
  exact ⟨h, fun b ob e => ⟨ob, Heap.get?_push_of_some _ e, rfl⟩⟩
theorem KD.st : KD stack := fun M Γ Q E p s h => by
  unfold stack at h ⊢
  rw [Sem.wp] at h ⊢
  rw [Sem.wp_pure] at h ⊢
  exact ⟨h, DK.rf _⟩
/-- writing that keeps the dict -/
theorem KD.up {a : Addr} {pt : Option Value} {f : Obj → Obj} (hd : ∀ o, (f o).dict = o.dict) (hf : ∀ o, o.isFreed = false → (f o).isFreed = false) : KD (Sem.update a pt f .pure) := fun M Γ Q E p s h => by
  rw [Sem.wp] at h ⊢
  rw [Sem.wp_pure] at h ⊢
  refine ⟨h.1, h.2, fun b o e => ?_⟩
  by_cases c : b = a
  · subst c
    exact ⟨f o, Heap.get?_update_self f e (hf o (Heap.get?_some_iff.mp e).2), hd o⟩
  · exact ⟨o, (Heap.get?_update_other _ _ (Ne.symm c)).trans e, rfl⟩
theorem KD.load (a : Addr) : KD (load a) := KD.ld a none
theorem KD.iteM {α : Type} {c : Prop} [Decidable c] {x y : Sem α} (a : KD x) (b : KD y) : KD (if c then x else y) := by split <;> assumption
theorem mf_dict (f : Array Value → Array Value) (o : Obj) : (Obj.mapFields f o).dict = o.dict := by
  obtain ⟨c, d, dt, sl⟩ := o
  cases dt <;> rfl
theorem mf_freed (f : Array Value → Array Value) (o : Obj) (h : o.isFreed = false) : (Obj.mapFields f o).isFreed = false := by
  obtain ⟨c, d, dt, sl⟩ := o
  cases dt <;> first | rfl | exact h
theorem kd_fieldsOf (v : Value) : KD (fieldsOf v) := by
  unfold fieldsOf
  split
  · refine KD.bd (KD.load _) fun o => ?_
    split
    · exact KD.pr _
    · exact KD.no _
  · exact KD.no _
theorem kd_field (v : Value) (i : Nat) : KD (field v i) := by
  unfold field
  refine KD.bd (kd_fieldsOf v) fun vs => ?_
  split
  · exact KD.pr _
  · exact KD.no _
theorem kd_setField (v : Value) (i : Nat) (x : Value) : KD (setField v i x) := by
  unfold setField
  split
  · unfold updateField
    refine KD.bd (KD.load _) fun o => ?_
    split
    · exact KD.iteM (KD.up (mf_dict _) (mf_freed _)) (KD.no _)
    · exact KD.no _
  · exact KD.no _
theorem kd_setFlight (e : Value) (fr : Option Addr) : KD (setFlight e fr) := by
  unfold setFlight
  refine KD.bd (kd_field _ _) fun tb => ?_
  exact KD.iteM (kd_setField _ _ _) (KD.pr _)
theorem kd_ready : ∀ l : List Env, KD (readyFrames l)
  | [] => KD.pr _
  | env :: outer => by
    unfold readyFrames
    split
    · rename_i f _
      refine KD.bd (KD.load f) fun o => ?_
      refine KD.iteM (KD.pr _) ?_
      refine KD.bd ?_ fun im => ?_
      · unfold behindIsImport
        refine KD.iteM (KD.pr _) ?_
        refine KD.iteM (KD.pr _) ?_
        exact KD.bd (kd_field _ _) fun v => KD.pr _
      refine KD.bd ?_ fun bk => ?_
      · unfold keptBack
        split
        · refine KD.iteM (KD.pr _) ?_
          refine KD.bd ?_ fun b => KD.pr _
          unfold underTheClaimsCaller
          exact KD.bd KD.st fun _ => KD.pr _
        · exact KD.pr _
      exact KD.bd (KD.up (fun _ => rfl) (fun o h => by
        obtain ⟨c, d, dt, sl⟩ := o
        cases dt <;> first | rfl | exact h)) fun _ => kd_ready outer
    · exact KD.no _
theorem kd_frameOf (env : Env) : KD (PySem.frameOf env) := by
  unfold PySem.frameOf
  refine KD.bd ?_ fun l => ?_
  · unfold frameEnvs
    exact KD.bd KD.st fun _ => KD.pr _
  refine KD.bd ?_ fun o => ?_
  · unfold frameObject
    split
    · exact KD.pr _
    · exact KD.bd (kd_ready _) fun _ => KD.pr _
  · split
    · exact KD.pr _
    · exact KD.no _
theorem kd_place (f : Addr) (b : Bool) : KD (entryPlaceOf f b) := by
  unfold entryPlaceOf
  refine KD.bd KD.st fun acts => ?_
  split <;> exact KD.pr _
theorem kd_newFields (ty : String) (vs : List Value) : KD (newFields ty vs) := by
  unfold newFields newObj newObjAsIs
  dsimp only
  exact KD.iteM (KD.bd (KD.no _) fun _ => KD.bd (KD.al _) fun _ => KD.pr _) (KD.bd (KD.al _) fun _ => KD.pr _)
theorem kd_entry (a b c d e : Value) (l : List Value) : KD (EntryCells.newEntry a b c d e l) := kd_newFields _ _
theorem kd_note (e : Value) (env : Env) : KD (noteFrame e env) := by
  unfold noteFrame
  split
  · rename_i f _
    refine KD.bd (kd_field _ _) fun hd => ?_
    have rest : KD (do setField e 1 (← EntryCells.newEntry hd (← PySem.frameOf env) .none (rawInt f) .none (← entryPlaceOf f (hd != .none))) : Sem Unit) :=
      KD.bd (kd_frameOf _) fun _ => KD.bd (kd_place _ _) fun _ => KD.bd (kd_entry _ _ _ _ _ _) fun _ => kd_setField _ _ _
    refine KD.iteM ?_ ?_
    · refine KD.bd (kd_field _ _) fun z => ?_
      refine KD.iteM (KD.pr _) ?_
      exact KD.bd (kd_setField _ _ _) fun _ => rest
    · exact rest
  · exact KD.no _
theorem kd_leaving (env : Env) (e : Value) : KD (leaving env e) := KD.bd (kd_note e env) fun _ => kd_setFlight e none
/-- the same, at any place -/
theorem KD.any {α : Type} {t : Sem α} (k : KD t) {M : Model} {A : Around} {Q : α → Shared → Prop} {E : Value → Shared → Prop} {s : Shared} (h : wpAny M A t Q E s) : wpAny M A t (fun a s' => Q a s' ∧ DK s.heap s'.heap) (fun e s' => E e s' ∧ DK s.heap s'.heap) s :=
  fun Γ p g => k M Γ _ _ p s (h Γ p g)
end L2

namespace L2
open PySem PySem.Spec PyProof.Rows

section
variable {P : Program} {w : World} {H : Hp} {h : Heap} {a : Addr} {o : HO}
theorem ObjOk.obj (x : ObjOk P w H h a o) : ∃ ob, h.get? a = some ob := by
  cases o with
  | lst xs => obtain ⟨_, _, _, _, e⟩ := x; exact ⟨_, e⟩
  | tup xs => obtain ⟨_, _, _, ob, e, _⟩ := x; exact ⟨_, e⟩
  | dK kvs => obtain ⟨_, _, _, _, o, _, _, e, _⟩ := x; exact ⟨_, e⟩
  | dT kvs => obtain ⟨_, _, _, _, o, _, _, e, _⟩ := x; exact ⟨_, e⟩
  | set S n => obtain ⟨o, _, _, _, e, _⟩ := x; exact ⟨_, e⟩
  | ins C dx fs => obtain ⟨_, _, _, e, _⟩ := x; exact ⟨_, e⟩
  | own y => exact x
  | xd fs => obtain ⟨_, ⟨_, _, _, e, _⟩, _⟩ := x; exact ⟨_, e⟩
  | rng lo hi => obtain ⟨_, _, _, e⟩ := x; exact ⟨_, e⟩
  | frz ob u => obtain ⟨e, _⟩ := x; exact ⟨_, e⟩
  | tbl ps => exact ⟨_, show h.get? a = some _ from x⟩
  | met f y => exact ⟨_, show h.get? a = some _ from x⟩
  | ext φ => obtain ⟨_, e, _⟩ := x; exact e
end

/-- an exception of the class cls flies over the frames l; its records are untracked and none of them is bad -/
def Fly (bad : Addr → Prop) (H : Hp) (l : List Env) (e : Addr) (cls : Value) (dx : Option Addr) (h : Heap) : Prop :=
  ∃ (a0 : Value) (ex : List Addr), Heap.FlyingW (PySem.W.hideAll h (frs l ++ ex)) l e cls a0 h ∧ (∀ b ∈ ex, H b = none ∧ ¬ bad b) ∧ e ∈ ex ∧ ∃ oe, h.get? e = some oe ∧ oe.dict = dx
theorem Fly.mono {bad bad' : Addr → Prop} {H : Hp} {l : List Env} {e : Addr} {cls : Value} {dx : Option Addr} {h : Heap} (F : Fly bad H l e cls dx h) (m : ∀ b, bad' b → bad b) : Fly bad' H l e cls dx h := by
  obtain ⟨a0, ex, f, p, q⟩ := F
  exact ⟨a0, ex, f, fun b hb => ⟨(p b hb).1, fun z => (p b hb).2 (m b z)⟩, q⟩
theorem Fly.obj {bad : Addr → Prop} {H : Hp} {l : List Env} {e : Addr} {cls : Value} {dx : Option Addr} {h : Heap} (F : Fly bad H l e cls dx h) : ∃ oe vs, h.get? e = some oe ∧ oe.cls = cls ∧ oe.data = .fields vs ∧ oe.dict = dx := by
  obtain ⟨a0, ex, f, p, q, od, e1, e2⟩ := F
  obtain ⟨oe, vs, h1, h2, h3, _⟩ := f.first
  rw [e1] at h1; cases h1
  exact ⟨od, vs, e1, h2, h3, e2⟩
theorem Fly.free {bad : Addr → Prop} {H : Hp} {l : List Env} {e : Addr} {cls : Value} {dx : Option Addr} {h : Heap} (F : Fly bad H l e cls dx h) : H e = none ∧ ¬ bad e := by
  obtain ⟨a0, ex, f, p, q⟩ := F
  exact p e q.1
theorem DK.dict {h h' : Heap} {e : Addr} {dx : Option Addr} (k : DK h h') (d : ∃ oe, h.get? e = some oe ∧ oe.dict = dx) : ∃ oe, h'.get? e = some oe ∧ oe.dict = dx := by
  obtain ⟨o, e1, e2⟩ := d
  obtain ⟨o', e3, e4⟩ := k e o e1
  exact ⟨o', e3, e4.trans e2⟩

section
variable {P : Program} {w : World} {H H0 : Hp} {h h' g : Heap} {l l' : List Env} {ex fs : List Addr} {bad : Addr → Prop} {e : Addr} {cls a0 : Value}
/-- one step of an exception in flight: what stays -/
structure Flown (H : Hp) (l : List Env) (ex : List Addr) (h h' : Heap) : Prop where
  keep : ∀ b o, h.get? b = some o → b ∉ frs l → b ∉ ex → h'.get? b = some o
  slot : ∀ b o, h.get? b = some o → b ∈ frs l → ∃ sl, h'.get? b = some { o with slots := sl }
  exf : ∀ b ∈ ex, H b = none
  frF : ∀ b ∈ frs l, H b = none
theorem flown_of (st : (PySem.W.hideAll h (frs l ++ ex)).StaysIn h') (up : h.UpToSlots h') (FF : ∀ b ∈ frs l, ∃ o, h.get? b = some o ∧ ∀ vs, o.data ≠ .fields vs) (hx : ∀ b ∈ ex, H b = none) (frF : ∀ b ∈ frs l, H b = none) : Flown H l ex h h' where
  keep := fun b o q n1 n2 => st b o (PySem.W.hideAll_get _ q (by rw [List.mem_append]; rintro (z | z); exact n1 z; exact n2 z))
  slot := fun b o q hb => by
    obtain ⟨o', e', d⟩ := FF b hb
    rw [q] at e'; cases e'
    exact up b o q d
  exf := hx
  frF := frF
theorem Flown.hok (W : Flown H l ex h h') (S : HOk P w H h) : HOk P w H h' := fun a o ea =>
  (S a o ea).stay (fun b u hb q => by
    have hn : H b ≠ none := by
      rcases hb with rfl | hb
      · rw [ea]; exact fun z => by cases z
      · rw [hb]; exact fun z => by cases z
    exact W.keep b u q (fun z => hn (W.frF b z)) (fun z => hn (W.exf b z))) (fun _ q => q) fun _ _ q => q
theorem Flown.un (W : Flown H l ex h h') (U : Un fs [] H0 H g h) (gx : ∀ b ∈ ex, g.get? b = none) (gf : ∀ b ∈ frs l, b ∈ fs ∨ g.get? b = none) : Un fs [] H0 H g h' where
  keep := fun b o q n hb hx => by
    have := U.keep b o q n hb hx
    refine W.keep b o this (fun z => ?_) (fun z => by rw [gx b z] at q; cases q)
    rcases gf b z with y | y
    · exact hb y
    · rw [y] at q; cases q
  slot := fun b o q n hb hx => by
    obtain ⟨sl, q1⟩ := U.slot b o q n hb hx
    by_cases z : b ∈ frs l
    · obtain ⟨sl', q2⟩ := W.slot b _ q1 z
      exact ⟨sl', q2⟩
    · exact ⟨sl, W.keep b _ q1 z (fun z => by rw [gx b z] at q; cases q)⟩
  free := U.free
  there := fun b o q hx => by
    obtain ⟨o', q1⟩ := U.there b o q hx
    by_cases z : b ∈ frs l
    · obtain ⟨sl', q2⟩ := W.slot b _ q1 z
      exact ⟨_, q2⟩
    · exact ⟨o', W.keep b _ q1 z (fun z => by rw [gx b z] at q; cases q)⟩
  tups := U.tups
  frzs := U.frzs
  tbls := U.tbls
theorem Flown.fly (W : Flown H l ex h h') (S : HOk P w H h) (FF : ∀ b ∈ frs l, ∃ o, h.get? b = some o ∧ ∀ vs, o.data ≠ .fields vs) (bx : ∀ b ∈ ex, ¬ bad b) (hbad : ∀ b, bad b → ∃ o, h.get? b = some o)
    (fl : Heap.FlyingW (PySem.W.hideAll h (frs l ++ ex)) l' e cls a0 h') (he : H e = none ∧ ¬ bad e) {dx : Option Addr} (hdx : ∃ oe, h'.get? e = some oe ∧ oe.dict = dx) : Fly bad H l' e cls dx h' := by
  obtain ⟨f1, f2, f3, oe, vs, T, oT, ts, a1, a2, a3, a4, a5, a6, a7, a8, a9⟩ := fl
  have inx : ∀ o, h.get? T = some o → T ∈ ex := fun o q => by
    by_cases z : T ∈ frs l ++ ex
    · rcases List.mem_append.1 z with z | z
      · obtain ⟨o', e', d⟩ := FF T z
        rw [q] at e'; cases e'
        obtain ⟨sl, q2⟩ := W.slot T o q z
        rw [a7] at q2; cases q2
        exact absurd a8 (d ts)
      · exact z
    · rw [PySem.W.hideAll_get _ q z] at a5; cases a5
  have hT : H T = none := by
    cases q : H T with
    | none => rfl
    | some u =>
      obtain ⟨o, qo⟩ := (S T u q).obj
      rw [W.exf T (inx o qo)] at q; cases q
  have bT : ¬ bad T := fun z => by
    obtain ⟨o, q⟩ := hbad T z
    exact bx T (inx o q) z
  refine ⟨a0, [e, T], ⟨fun b o q => PySem.W.of_hideAll _ q, PySem.W.hideAll_none _ (by simp), PySem.W.funFrames_hide f3 (fun env he b hb => List.mem_append_left _ (List.mem_filterMap.mpr ⟨env, he, hb⟩)), oe, vs, T, oT, ts, a1, a2, a3, a4, PySem.W.hideAll_none _ (by simp), a6, a7, a8, a9⟩, ?_, by simp, hdx⟩
  intro b hb
  simp only [List.mem_cons, or_false, List.not_mem_nil] at hb
  rcases hb with rfl | rfl
  · exact he
  · exact ⟨hT, bT⟩
theorem Fly.ff {bad : Addr → Prop} {dx : Option Addr} (F : Fly bad H l e cls dx h) : ∀ b ∈ frs l, ∃ o, h.get? b = some o ∧ ∀ vs, o.data ≠ .fields vs := by
  obtain ⟨a0, ex, f, p, q⟩ := F
  intro b hb
  exact (f.2.2.1.mem hb).2
end

/-- how an exception lies behind a call -/
def CXR (P : Program) (w : World) : CXT := fun outer H s E e s' => ∃ (a : Addr) (cls : Value) (dx : Option Addr) (H' : Hp), e = .ref a ∧ s'.os = s.os ∧ AllBare s'.gens ∧ Un (frs outer) [] H H' s.heap s'.heap ∧ HOk P w H' s'.heap ∧
  Fly (fun b => (s.heap.get? b).isSome = true) H' outer a cls dx s'.heap ∧ E cls dx H'
theorem CXR.no {P : Program} {w : World} {outer : List Env} {H : Hp} {s : Shared} {e : Value} {s' : Shared} (h : CXR P w outer H s (fun _ _ _ => False) e s') : False := by
  obtain ⟨_, _, _, _, _, _, _, _, _, _, z⟩ := h
  exact z

section
variable {P : Program} {w : World} {K : PySem.W.Frag} {mg : Str → Option Value} {base : Heap} {N : List Str} {qual : Str} {scope : Scope} {f : Addr} {cd : Value} {A : Around} {outer : List Env} {s₀ : Shared} {H₀ : Hp} {E₀ : XK}
/-- the exceptions of a callee leave the def -/
theorem passR {E : St → XK} (hE : ∀ σ cls dx H, E σ cls dx H → E₀ cls dx H) : Passes (CXR P w) (cxOf (CXR P w) P w K mg base N qual scope f cd A outer s₀ H₀ E₀) E := by
  intro pins σ H s x s' I hx
  obtain ⟨a, cls, dx, H', rfl, os, bare, un, hok, fly, ex⟩ := hx
  have I' := I.call' os un hok bare (fun b z => absurd z (by simp))
  have fly0 : Fly (fun b => (s₀.heap.get? b).isSome = true) H' (envOfC qual scope s₀.heap.objs.size f cd :: outer) a cls dx s'.heap := fly.mono fun b z => by
    obtain ⟨o, q⟩ := Option.isSome_iff_exists.mp z
    obtain ⟨o', q'⟩ := I.base.there b o q (by intro z; exact absurd (show b ∈ ([] : List Addr) from z) (by simp))
    rw [q']; rfl
  obtain ⟨a0, xs, fl, p, q, dd⟩ := id fly0
  refine wpAny_mono ((kd_leaving _ _).any (wpAny_leaves_onW (Q := fun _ sx => ∃ h', sx = { s' with heap := h' } ∧ Heap.FlyingW _ outer a cls a0 h' ∧ s'.heap.UpToSlots h') I.ok.frames rfl fl fun h' f1 up => ⟨h', rfl, f1, up⟩)) ?_ fun _ _ z => z.1
  rintro _ _ ⟨⟨h', rfl, f1, up⟩, dk⟩
  have W : Flown H' (envOfC qual scope s₀.heap.objs.size f cd :: outer) xs s'.heap h' := flown_of f1.1 up fly0.ff (fun b hb => (p b hb).1) I'.stkFree
  refine ⟨a, cls, dx, H', rfl, I'.os, I'.bare, W.un I'.base (fun b hb => ?_) (fun b hb => ?_), W.hok hok, ?_, hE _ _ _ _ ex⟩
  · cases q : s₀.heap.get? b with
    | none => rfl
    | some o => exact absurd (show (s₀.heap.get? b).isSome = true by rw [q]; rfl) (p b hb).2
  · rcases List.mem_cons.mp (show b ∈ s₀.heap.objs.size :: frs outer from hb) with z | z
    · exact .inr (by rw [z]; exact Heap.get?_none_of_le (Nat.le_refl _))
    · exact .inl z
  · refine W.fly (bad := fun b => (s₀.heap.get? b).isSome = true) hok fly0.ff (fun b hb => (p b hb).2) (fun b z => ?_) f1 (p a q) (dk.dict dd)
    obtain ⟨o, q⟩ := Option.isSome_iff_exists.mp z
    exact I'.base.there b o q (by intro z; exact absurd (show b ∈ ([] : List Addr) from z) (by simp))

/-- raise C(e, ..) of an own class without __init__ -/
def tRaise (E : XK) (C : Addr) (t : TA) : TS := fun _ σ H => t σ H fun vs H1 => vs.length ≤ sizeLine ∧ E (.ref C) none H1
theorem ps_raise {x : Str} {C : Addr} {bm : List Value} {B newId initId : String} {e : Expr} {es : List Expr} {t : TA} {np cpos pos : Pos} (O : OwnCls x C bm newId mg base) (FB : ExcBaseFacts B newId initId bm)
    (hg : Gl (cxOf (CXR P w) P w K mg base N qual scope f cd A outer s₀ H₀ E₀) x) (ha : PA (cxOf (CXR P w) P w K mg base N qual scope f cd A outer s₀ H₀ E₀) (e :: es) t)
    (he : starEach (e :: es) (envOfC qual scope s₀.heap.objs.size f cd) = (false, eval e (envOfC qual scope s₀.heap.objs.size f cd)) :: starEach es (envOfC qual scope s₀.heap.objs.size f cd) := by rfl)
    (hpl : (backTo cpos (starEach es (envOfC qual scope s₀.heap.objs.size f cd))).any (·.1) = false := by rfl) (hdb : (x == ("__debug__" : Str)) = false := by decide) :
    PS (cxOf (CXR P w) P w K mg base N qual scope f cd A outer s₀ H₀ E₀) (.Raise (some (.Call (.Name x np) (e :: es) [] cpos)) none pos) (tRaise E₀ C t) := by
  intro pins s σ H D I h
  have O' := O.keeps I.bk
  obtain ⟨tl, NN, nm, q, bs, hdct, sn, sub, ab, col, dd, k0, k1, k2, k3, k5, mN, hC, hN, hni, T⟩ := O.obj
  have hh : A.handled = none := I.ok.hd rfl
  refine wpAny_Raise_call_subT (C := C) (nm := nm) (q := q) (N := NN) (bs := bs) (bm := tl) (hdct := hdct) (sn := sn) (sub := sub) (ab := ab) (col := col) (dd := dd) (k0 := k0) (k1 := k1) (k2 := k2) (k3 := k3) (k5 := k5)
    FB (mN := mN) (T.hasType FB.hasBase) hh (by show (backTo cpos (starEach (e :: es) (envOfC qual scope s₀.heap.objs.size f cd))).any (·.1) = false; rw [he]; show (false || (backTo cpos (starEach es (envOfC qual scope s₀.heap.objs.size f cd))).any (·.1)) = false; rw [hpl]; rfl) hni (ld_glob I hg O.bound ⟨rfl, ?_⟩ hdb)
  have pl : wpAny (model P w) (A.deeper (envOfC qual scope s₀.heap.objs.size f cd)) (spliced (backTo cpos (starEach (e :: es) (envOfC qual scope s₀.heap.objs.size f cd)))) (fun vs s₂ => vs.length ≤ sizeLine ∧ (∀ b o, base.get? b = some o → s₂.heap.get? b = some o) ∧
      ∀ h' e, Heap.MadeExcOf s₂.heap h' e (.ref C) vs → (cxOf (CXR P w) P w K mg base N qual scope f cd A outer s₀ H₀ E₀).xe (.ref e) { s₂ with heap := h' }) (cxOf (CXR P w) P w K mg base N qual scope f cd A outer s₀ H₀ E₀).xe s := by
    refine thn (ha cpos pins s σ H _ I h) fun us s2 ⟨vs, H2, I2, r, hl, q2⟩ => ⟨by rw [← r.length]; exact hl, I2.bk, fun h' ea hx => ?_⟩
    have FF : ∀ b ∈ frs (envOfC qual scope s₀.heap.objs.size f cd :: outer), ∃ o, s2.heap.get? b = some o ∧ ∀ vs, o.data ≠ .fields vs := fun b hb => (I2.stack.mem hb).2
    have hin : ∀ env ∈ (envOfC qual scope s₀.heap.objs.size f cd :: outer), ∀ b, env.frame = some b → b ∈ frs (envOfC qual scope s₀.heap.objs.size f cd :: outer) ++ [] := fun env he b hb => List.mem_append_left _ (List.mem_filterMap.mpr ⟨env, he, hb⟩)
    refine wpAny_mono ((kd_leaving _ _).any (s := { s2 with heap := h' }) (wpAny_leaves_madeW (Q := fun _ sx => ∃ h'' t', sx = { s2 with heap := h'' } ∧ Heap.FlyingW _ outer ea (.ref C) (.ref t') h'' ∧ h'.UpToSlots h'') (base := PySem.W.hideAll s2.heap (frs (envOfC qual scope s₀.heap.objs.size f cd :: outer) ++ [])) I2.ok.frames rfl (fun b o q => PySem.W.of_hideAll _ q) (PySem.W.funFrames_hide I2.stack hin) hx fun h'' t' f1 _ _ up => ⟨h'', t', rfl, f1, up⟩)) ?_ fun _ _ z => z.1
    rintro _ _ ⟨⟨h'', t', rfl, f1, up⟩, dk⟩
    have up' : s2.heap.UpToSlots h'' := (Heap.UpToSlots.of_keeps hx.keeps).trans up
    have W : Flown H2 (envOfC qual scope s₀.heap.objs.size f cd :: outer) [] s2.heap h'' := flown_of f1.1 up' FF (fun b hb => absurd hb (by simp)) I2.stkFree
    have hea : H2 ea = none := by
      cases q : H2 ea with
      | none => rfl
      | some u =>
        obtain ⟨o, qo⟩ := (I2.hok ea u q).obj
        rw [hx.new] at qo; cases qo
    have dom : ∀ b, (s₀.heap.get? b).isSome = true → ∃ o, s2.heap.get? b = some o := fun b z => by
      obtain ⟨o, q⟩ := Option.isSome_iff_exists.mp z
      exact I2.base.there b o q (by intro z; exact absurd (show b ∈ ([] : List Addr) from z) (by simp))
    refine ⟨ea, .ref C, none, H2, rfl, I2.os, I2.bare, W.un I2.base (fun b hb => absurd hb (by simp)) (fun b hb => ?_), W.hok I2.hok, ?_, q2⟩
    · rcases List.mem_cons.mp (show b ∈ s₀.heap.objs.size :: frs outer from hb) with z | z
      · exact .inr (by rw [z]; exact Heap.get?_none_of_le (Nat.le_refl _))
      · exact .inl z
    · refine W.fly (bad := fun b => (s₀.heap.get? b).isSome = true) I2.hok FF (fun b hb => absurd hb (by simp)) dom f1 ⟨hea, fun z => ?_⟩ (dk.dict ?_)
      · obtain ⟨o, qo⟩ := dom ea z
        rw [hx.new] at qo; cases qo
      · obtain ⟨t0, e0, _⟩ := hx.there
        exact ⟨_, e0, rfl⟩
  show wpAny (model P w) (A.deeper (envOfC qual scope s₀.heap.objs.size f cd)) (evalArgs (.ref C) true (backTo cpos (starEach (e :: es) (envOfC qual scope s₀.heap.objs.size f cd))) []) _ _ s
  rw [he] at pl ⊢
  exact Calls.evalArgs_plain (wpAny_mono pl (fun vs s₂ h₂ => ⟨rfl, h₂.1, h₂.2.1 _ _ hC, hN.keeps h₂.2.1, T.keeps h₂.2.1, h₂.2.2⟩) fun _ _ y => y)
end

/-! ### a def that may raise -/
structure FunD (K : PySem.W.Frag) (x qual : Str) (st : Stmt) (dV : Value) (f : Addr) (fd : FuncData) : Prop where
  ex : ∃ (oc : Value) (od : Option Addr) (kV doc pm : Value) (an : Option Addr) (cdv ct : Value) (osl : Array (Option Value)),
    fd = PySem.W.fnOf x qual (defArgs st) (defBody st) (defScope st) dV kV doc pm an cdv ct ∧ K.lookup f = some ⟨oc, od, .func fd, osl⟩ ∧ PySem.W.codeIn K cdv qual = true
  kp : PySem.W.keepIn K (.ref f) = true
section
variable {P : Program} {w : World} {K : PySem.W.Frag} {mg : Str → Option Value} {base : Heap}
/-- THE RULE for a def that may raise -/
theorem FunD.okR {x qual : Str} {st : Stmt} {dV : Value} {f : Addr} {fd : FuncData} {N ps : List Str} {k : Nat} {sp : Sp} (F : FunD K x qual st dV f fd) (S : FnScope N ps (defScope st)) (len : ∀ vs H Q E, sp vs H Q E → vs.length = ps.length)
    (hbody : ∀ (cdv : Value) (A : Around) (outer : List Env) (s : Shared) (H : Hp) (vs : List V) (Q : VK) (E : XK), Room k (A.deeper (envOfC qual (defScope st) s.heap.objs.size f cdv)) → sp vs H Q E →
      ∃ t, PSs (cxOf (CXR P w) P w K mg base N qual (defScope st) f cdv A outer s H E) (defBody st) t ∧ t { nx := fun _ H' => Q .non H', rt := Q } (start N vs) H) : FnOk P w K mg base (CXR P w) (k + 1) f fd ps sp := by
  obtain ⟨oc, od, kV, doc, pm, an, cdv, ct, osl, rfl, lk, hcd⟩ := F.ex
  exact fn_of lk hcd S len fun A outer s H vs Q E hr hsp => hbody cdv A outer s H vs Q E hr hsp
/-- .. that never raises -/
theorem FunD.ok {x qual : Str} {st : Stmt} {dV : Value} {f : Addr} {fd : FuncData} {N ps : List Str} {k : Nat} {sp : Sp} (F : FunD K x qual st dV f fd) (S : FnScope N ps (defScope st)) (len : ∀ vs H Q E, sp vs H Q E → vs.length = ps.length)
    (hbody : ∀ (cdv : Value) (A : Around) (outer : List Env) (s : Shared) (H : Hp) (vs : List V) (Q : VK) (E : XK), Room k (A.deeper (envOfC qual (defScope st) s.heap.objs.size f cdv)) → sp vs H Q E →
      ∃ t, PSs (cxOf (CXR P w) P w K mg base N qual (defScope st) f cdv A outer s H E).nox (defBody st) t ∧ t { nx := fun _ H' => Q .non H', rt := Q } (start N vs) H) : FnOk P w K mg base (CXR P w) (k + 1) f fd ps sp :=
  F.okR S len fun cdv A outer s H vs Q E hr hsp => by
    obtain ⟨t, h, q⟩ := hbody cdv A outer s H vs Q E hr hsp
    exact ⟨t, h.nox, q⟩
end
end L2

namespace L2
open PySem PySem.Spec PyProof.Rows

section
variable {X : Cx} {pins : List (Addr × Obj)} {σ : St} {H : Hp} {s : Shared} {h' : Heap} {ex : List Addr}
end

/-! ### try -/
abbrev RK := St → Value → Option Addr → Hp → Prop
def badX (X : Cx) (pins : List (Addr × Obj)) : Addr → Prop := fun b => (X.s_0.heap.get? b).isSome = true ∨ ∃ p ∈ X.pn ++ pins, p.1 = b
structure InDef (X : Cx) : Prop where
  st : X.stack = X.env :: X.outer
  fr : X.env.frame = some X.env.locals
  ex : X.ex = []
section
variable {X : Cx} {pn : List (Addr × Obj)} {R : RK}
theorem Cx.Ok.re {X Y : Cx} (ok : X.Ok) (h1 : Y.prog = X.prog) (h2 : Y.K = X.K) (h3 : Y.mg = X.mg) (h4 : Y.base = X.base) (h5 : Y.A.frames = X.A.frames) (h6 : Y.s_0 = X.s_0) (h7 : Y.H_0 = X.H_0) (h8 : Y.env = X.env) (h9 : Y.outer = X.outer) (h10 : Y.stack = X.stack) (h11 : Y.ex = X.ex) (h12 : Y.fn = X.fn) (h13 : Y.calm = true → Y.A.handled = none) : Y.Ok := by
  obtain ⟨a1, a2, a3, a4, a5, a6, a7, a8, a9, a10, a11, a12, a13, a14, a15, a16, a17, a18⟩ := ok
  obtain ⟨yprog, yw, yK, ymg, ybase, yA, yN, ys, yH, yenv, youter, ystack, yex, yfn, ycalm, ypn, yxe⟩ := Y
  dsimp only at h1 h2 h3 h4 h5 h6 h7 h8 h9 h10 h11 h12 h13
  subst h1 h2 h3 h4 h6 h7 h8 h9 h10 h11 h12
  exact ⟨a1, a2, a3, a4, a5, a6, a7, a8, h13, h5.trans a10, a11, a12, a13, a14, a15, a16, a17, a18⟩
/-! ### the handlers -/
abbrev TH := Ends → St → Hp → Addr → Value → Option Addr → Prop
def PH (X : Cx) (hs : List ExceptHandler) (t : TH) : Prop := ∀ (pins : List (Addr × Obj)) (s : Shared) (σ : St) (H : Hp) (D : Ends) (a : Addr) (cls : Value) (dx : Option Addr), Inv X pins σ H s → Fly (badX X pins) H X.stack a cls dx s.heap → t D σ H a cls dx →
  wpAny (model X.prog X.w) X.A (handleBy (.ref a) X.env hs) (SP X pins D) X.xe s
/-- a caught exception, by its class -/
def excO (a : Addr) (cls : Value) (dx : Option Addr) : HO := .ext fun h => ∃ o vs, h.get? a = some o ∧ o.cls = cls ∧ o.data = .fields vs ∧ o.dict = dx
theorem Inv.exc {pins : List (Addr × Obj)} {σ : St} {H : Hp} {s : Shared} {a : Addr} {cls : Value} {dx : Option Addr} (I : Inv X pins σ H s) (ho : ∃ o vs, s.heap.get? a = some o ∧ o.cls = cls ∧ o.data = .fields vs ∧ o.dict = dx) (hn : H a = none) (hb : ¬ badX X pins a) : Inv X pins σ (upd H a (excO a cls dx)) s := by
  obtain ⟨o, vs, ha, hc, hd, hdx⟩ := id ho
  have nd : ∀ b ob, s.heap.get? b = some ob → (∀ vs, ob.data ≠ .fields vs) → b ≠ a := fun b ob q n z => by
    subst z; rw [ha] at q; cases q; exact n vs hd
  refine ⟨I.ok, I.os, I.bare, ⟨I.base.keep, I.base.slot, fun b ob q n hx => ?_, I.base.there, fun b xs q => ?_, fun b ob u q => ?_, fun b ps q => ?_⟩, I.loc, I.cell, ?_, fun x c e => ?_, fun p hp => ?_, fun b ob q => ?_, I.len⟩
  · have : b ≠ a := fun z => hb (.inl (by rw [← z, q]; rfl))
    rw [upd_ne this]; exact I.base.free b ob q n hx
  · have := I.base.tups b xs q
    rw [upd_ne (ne_of_none this hn)]; exact this
  · have := I.base.frzs b ob u q
    rw [upd_ne (ne_of_none this hn)]; exact this
  · obtain ⟨more, q1⟩ := I.base.tbls b ps q
    exact ⟨more, by rw [upd_ne (ne_of_none q1 hn)]; exact q1⟩
  · obtain ⟨m, ⟨o', es, ep, ho', hd', _⟩, _⟩ := I.loc
    rw [upd_ne (nd _ _ ho' (fun vs q => by rw [hd'] at q; cases q))]; exact I.free
  · obtain ⟨v, o', ho', hd'⟩ := I.cell x c e
    rw [upd_ne (nd _ _ ho' (fun vs q => by rw [hd'] at q; cases q))]; exact I.freeC x c e
  · obtain ⟨e, n, ne, nf, d⟩ := I.pin p hp
    refine ⟨e, ?_, ne, nf, d⟩
    rw [upd_ne fun z => hb (.inr ⟨p, hp, z⟩)]; exact n
  · by_cases z : b = a
    · subst z
      rw [upd_same] at q; cases q
      exact ⟨ho, ⟨o, ha⟩, fun h1 h2 ⟨o1, vs1, q1, c1, d1, z1⟩ k => ⟨o1, vs1, k _ q1, c1, d1, z1⟩⟩
    · rw [upd_ne z] at q
      exact (I.hok b ob q).stay (fun _ _ _ q => q) (fun c q => by rw [upd_ne (ne_of_none q hn)]; exact q) fun c xs q => by rw [upd_ne (ne_of_none q hn)]; exact q

/-- the context of a handler's suite: no exception leaves it -/
abbrev Cx.hdl (X : Cx) (a : Addr) : Cx := { X with A := X.A.mark (some (.ref a)), calm := false, xe := fun _ _ => False }
theorem Inv.hdl {pins : List (Addr × Obj)} {σ : St} {H : Hp} {s : Shared} (I : Inv X pins σ H s) (a : Addr) : Inv (X.hdl a) pins σ H s :=
  ⟨I.ok.re rfl rfl rfl rfl rfl rfl rfl rfl rfl rfl rfl rfl (fun z => by cases z), I.os, I.bare, I.base, I.loc, I.cell, I.free, I.freeC, I.pin, I.hok, I.len⟩
/-- a class's name -/
def NameIs (X : Cx) (x : Str) (c : Value) : Prop := ∀ (a : Addr) (np : Pos) (E : Value → Shared → Prop) (pins : List (Addr × Obj)) (s : Shared) (σ : St) (H : Hp) (Q : Value → Shared → Prop), Inv (X.hdl a) pins σ H s → Q c s → wpAny (model X.prog X.w) (X.A.mark (some (.ref a))) (eval (.Name x np) X.env) Q E s
theorem NameIs.own {x : Str} {c : Value} (hg : Gl X x) (hm : X.mg x = some c) (hd : (x == ("__debug__" : Str)) = false := by decide) : NameIs X x c := fun a np E pins s σ H Q I h => ld_glob (X := X.hdl a) I hg hm h hd
theorem NameIs.blt {x : Str} {c : Value} (hg : Gl X x) (hm : X.mg x = none) (hv : bootBuiltins x = some c) (hn : x ≠ "__name__" := by decide) (hd : (x == ("__debug__" : Str)) = false := by decide) : NameIs X x c := fun a np E pins s σ H Q I h => ld_blt (X := X.hdl a) I hg hm hv h hn hd

end
end L2

namespace L2
open PySem PySem.Spec PyProof.Rows PySem.W Builtin Builtin.ObjectAttr Builtin.Getset_descriptor
/-- what the text must say of a class c of exceptions for isinstance to read an exception's class off it -/
structure ExcCls (K : Frag) (c : Addr) : Prop where
  ga : findIn K (.ref c) "__getattribute__" = some (some (.builtin "BaseException.__getattribute__"))
  gn : findIn K (.ref c) "__getattr__" = some none
  gc : findIn K (.ref c) "__class__" = some (some (.builtin "object.__class__"))
  mo : mroIn K c (.type "object") = some true
  mb : mroIn K c (.type "BaseException") = some true
  is : (clsIn K c).isSome = true
section
variable {P : Program} {w : World} {A : Around} {E : Value → Shared → Prop} {K : Frag} {e c : Addr} {m : Heap} {g : Array GenState} {dr : Drawn} {tk : Nat} {os : OsState}
end
section
variable {X : Cx}
end
end L2

namespace L2
open PySem PySem.Spec PyProof.Rows

/-! ### whole numbers of any size -/
section
variable {X : Cx}
theorem op_mulB : OpR X (binaryOp .Mult) (rI IntMulOk fun i j => .int (i * j)) := opI fun _ _ _ _ _ _ _ hc q => mul_int q hc
def CDivB (_ j : Int) : Prop := j ≠ 0 ∧ j.natAbs.log2 < 9000
theorem op_fdivB : OpR X (binaryOp .FloorDiv) (rI CDivB fun i j => .int (i.fdiv j)) := opI fun _ _ _ _ _ _ _ hc q => floordiv_int hc.1 q (.inl (PyProof.noPylong_of_log2 hc.2))
end

/-! ### unpacking a list -/
def gLst (K : PySem.W.Frag) (n : Nat) (t : TGs) : TG := fun v σ H Q => ∃ a xs, v = .ref a ∧ SqL K H a xs ∧ xs.length = n ∧ t xs σ H Q
theorem pg_lst {X : Cx} {pos : Pos} {es : List Expr} {k : Nat} {t : TGs} {n : Nat} (hc : X.calm = true) (h : PGs X es t)
    (hn : (assignEach es X.env).length = n := by rfl) (hst : (assignEach es X.env).findIdx? (·.1) = none := by rfl) : PG X (.Tuple es k pos) (gLst X.K n t) := by
  intro pins s σ H v u Q I r hw
  obtain ⟨a, xs, e1, hq, hl, hw⟩ := hw
  subst e1
  cases r
  obtain ⟨its, rv, ⟨o, n', e, hcl, hdi, hda⟩, hz⟩ := I.list hq
  rw [assign_Tuple]
  refine wpAny_bind (wpAny_standAt ?_)
  unfold unpack
  rw [hst, show (assignEach es X.env).length = its.toArray.size by simp [hn, ← hl, rv.length]]
  refine wpAny_bind (wpAny_holding (PySem.W.kun_itemsOf (I.ok.hd hc) ⟨o, e, hcl, n', hda⟩ fun h' hx => ?_))
  have I1 : Inv X pins σ H { s with heap := h' } := I.kept (t' := s.toks) fun b o e => hx b o (Nat.ne_of_lt (Heap.lt_size e)) e
  exact h pins _ σ H xs _ Q I1 (by simpa using rv) hw

/-! ### for i, x in enumerate(xs) -/
/-! ### a def of the text, to be called -/
structure Cal (P : Program) (w : World) (K : PySem.W.Frag) (mg : Str → Option Value) (base : Heap) (k : Nat) (x : Str) (ps : List Str) (sp : Sp) : Prop where
  ex : ∃ (f : Addr) (fd : FuncData), FnOk P w K mg base (CXR P w) k f fd ps sp ∧ mg x = some (.ref f) ∧ PySem.W.keepIn K (.ref f) = true ∧ Binds K fd ps []
/-- .. one default -/
structure CalD (P : Program) (w : World) (K : PySem.W.Frag) (mg : Str → Option Value) (base : Heap) (k : Nat) (x : Str) (ps : List Str) (dvs : List V) (sp : Sp) : Prop where
  ex : ∃ (f : Addr) (fd : FuncData) (ds : List Value), FnOk P w K mg base (CXR P w) k f fd ps sp ∧ mg x = some (.ref f) ∧ PySem.W.keepIn K (.ref f) = true ∧ Binds K fd ps ds ∧ Vals dvs ds
/-- .. by keywords alone, ks their order, the values put by g -/
structure CalK (P : Program) (w : World) (K : PySem.W.Frag) (mg : Str → Option Value) (base : Heap) (k : Nat) (x : Str) (ps ks : List Str) (gV : List V → List V → List V) (sp : Sp) : Prop where
  ex : ∃ (f : Addr) (fd : FuncData) (g : List Value → List Value → List Value), FnOk P w K mg base (CXR P w) k f fd ps sp ∧ mg x = some (.ref f) ∧ PySem.W.keepIn K (.ref f) = true ∧ KBinds K fd ps ks g gV
section
variable {X : Cx} {k n : Nat} {ps ks : List Str} {sp : Sp} {dvs : List V} {E : St → XK} {x : Str} {p pos : Pos} {e : Expr} {es : List Expr} {t tk : TA} {gV : List V → List V → List V} {kws : List Keyword}
theorem pe_cal (c : Cal X.prog X.w X.K X.mg X.base k x ps sp) (hr : Room n X.A) (ha : PA X (e :: es) t) (hx : Passes (CXR X.prog X.w) X E) (hk : k ≤ n := by decide) (hg : Gl X x := by rfl)
    (hdb : (x == ("__debug__" : Str)) = false := by decide) (he : starEach (e :: es) X.env = (false, eval e X.env) :: starEach es X.env := by rfl) (hpl : (backTo pos (starEach es X.env)).any (·.1) = false := by rfl) :
    PE X (.Call (.Name x p) (e :: es) [] pos) (tCall sp [] E t) := by
  obtain ⟨f, fd, G, m, kp, b⟩ := c.ex
  exact pe_call G (hr.mono hk) hg m kp b .nil hx ha hdb he hpl
end

/-! ### data in the heap that stays -/
theorem Same.tup {K : PySem.W.Frag} {H H' : Hp} {a : Addr} {xs : List V} (e : Same H H') (h : SqT K H a xs) : SqT K H' a xs := by
  rcases h with (h | ⟨o, h⟩) | h
  · exact .inl (.inl (e _ _ h))
  · exact .inl (.inr ⟨o, e _ _ h⟩)
  · exact .inr h
theorem Same.new {H : Hp} {p : Addr} {o : HO} (h : H p = none) : Same H (upd H p o) := fun b u e => by
  rw [upd_ne (ne_of_none e h)]; exact e
theorem Same.step {H0 H : Hp} {p : Addr} {o : HO} (s : Same H0 H) (h : H p = none) : Same H0 (upd H p o) := s.trans (.new h)
theorem Same.app {H0 H : Hp} {l : Addr} {o : HO} (s : Same H0 H) (h : H0 l = none) : Same H0 (upd H l o) := fun b u e => by
  rw [upd_ne (ne_of_none e h)]; exact s b u e

/-! ### making a Cal -/
section
variable {P : Program} {w : World} {K : PySem.W.Frag} {mg : Str → Option Value} {base h : Heap}
theorem funD_mk {x qual : Str} {st : Stmt} {f : Addr} {oc : Value} {od an : Option Addr} {osl : Array (Option Value)} {dV kV doc pm cdv ct : Value} (l : K.lookup f = some ⟨oc, od, .func (PySem.W.fnOf x qual (defArgs st) (defBody st) (defScope st) dV kV doc pm an cdv ct), osl⟩)
    (c : PySem.W.codeIn K cdv qual = true) (k : PySem.W.keepIn K (.ref f) = true) : FunD K x qual st dV f (PySem.W.fnOf x qual (defArgs st) (defBody st) (defScope st) dV kV doc pm an cdv ct) := ⟨⟨oc, od, kV, doc, pm, an, cdv, ct, osl, rfl, l, c⟩, k⟩
/-- what the top has written of a def -/
structure Top1 (K : PySem.W.Frag) (mg : Str → Option Value) (x : Str) (st : Stmt) (dV : Value) : Prop where
  ex : ∃ (f : Addr) (fd : FuncData), FunD K x x st dV f fd ∧ mg x = some (.ref f)
theorem top1 {x : Str} {st : Stmt} {f : Addr} {oc : Value} {od an : Option Addr} {osl : Array (Option Value)} {dV kV doc pm cdv ct : Value} (X : K.In h) (G : h.Ns mainGlobals mg) (a : PySem.W.nsIn K mainGlobals x = some (some (.ref f)))
    (l : K.lookup f = some ⟨oc, od, .func (PySem.W.fnOf x x (defArgs st) (defBody st) (defScope st) dV kV doc pm an cdv ct), osl⟩) (c : PySem.W.codeIn K cdv x = true) (k : PySem.W.keepIn K (.ref f) = true) : Top1 K mg x st dV :=
  ⟨f, _, funD_mk l c k, PySem.W.mg_of X G a⟩
theorem Top1.cal {x : Str} {st : Stmt} {n : Nat} {ps : List Str} {sp : Sp} (T : Top1 K mg x st .none) (h : ∀ (kV doc pm : Value) (an : Option Addr) (cdv ct : Value) (us : List Value), us.length = ps.length → bindArgs (PySem.W.fnOf x x (defArgs st) (defBody st) (defScope st) .none kV doc pm an cdv ct) ⟨us, []⟩ = pure (ps.zip us))
    (ok : ∀ f fd, FunD K x x st .none f fd → FnOk P w K mg base (CXR P w) n f fd ps sp) : Cal P w K mg base n x ps sp := by
  obtain ⟨f, fd, F, m⟩ := T.ex
  refine ⟨f, fd, ok f fd F, m, F.kp, ?_⟩
  obtain ⟨oc, od, kV, doc, pm, an, cdv, ct, osl, rfl, lk, hcd⟩ := F.ex
  exact .all (h kV doc pm an cdv ct)
end
end L2

namespace L2
open PySem PySem.Spec PyProof.Rows
/-- an own class of errors, by what the top has written -/
theorem own_mk {K : PySem.W.Frag} {m : Heap} {mg : Str → Option Value} {x : Str} {c : Addr} {line : List Value} {new : String} (kin : K.In m) (top : m.Ns mainGlobals mg) (name : PySem.W.nsIn K mainGlobals x = some (some (.ref c))) (q : PySem.W.excIn K c line new = true) :
    OwnCls x c line new mg m := by
  constructor
  · exact PySem.W.mg_of kin top name
  delta PySem.W.excIn at q
  split at q
  case h_2 => cases q
  case h_1 d cd l at_ =>
    split at q
    case h_2 => cases q
    case h_1 c' tl z0 z1 z2 z3 z4 z5 e1 e2 =>
      have p := kin c _ at_
      simp only [Bool.and_eq_true] at q
      rcases q with ⟨⟨⟨⟨⟨p1, p2⟩, p3⟩, p4⟩, p5⟩, p6⟩
      cases eq_of_beq p1
      cases eq_of_beq p2
      have e3 := Array.toList_inj.mp (e2.trans (show _ = #[z0, z1, z2, z3, some (Value.builtin new), z5].toList from rfl))
      rcases cd with ⟨f1, f2, f3, f4, f5, f6, f7, f8, f9, f10, f11⟩
      cases e1
      cases (Bool.not_eq_true' _).mp p3
      cases e3
      exact ⟨tl, f4, f1, f5, f2, f6, f7, f8, f9, f10, d, z0, z1, z2, z3, z5, _, p, .of_isNs (PySem.W.isNs_of_in kin p5), PySem.W.nsMap_none_of_in kin p5 (eq_of_beq p6), PySem.W.tail_of_in kin p4⟩
end L2

namespace L2
open PySem PySem.Spec PyProof.Rows
end L2

namespace L2
open PySem PySem.Spec PyProof.Rows
/-- a class of the text, to be made -/
structure Mak (P : Program) (w : World) (K : PySem.W.Frag) (mg : Str → Option Value) (base : Heap) (k : Nat) (x : Str) (C : Addr) (ps : List Str) (sp : Sp) : Prop where
  ex : ∃ (f : Addr) (fd : FuncData), Mk K C f ∧ FnOk P w K mg base (CXR P w) k f fd ps sp ∧ mg x = some (.ref C) ∧ Binds K fd ps []
/-- .. its one argument by its name -/
structure MakK (P : Program) (w : World) (K : PySem.W.Frag) (mg : Str → Option Value) (base : Heap) (k : Nat) (x : Str) (C : Addr) (ps : List Str) (sp : Sp) : Prop where
  ex : ∃ (f : Addr) (fd : FuncData), Mk K C f ∧ FnOk P w K mg base (CXR P w) k f fd ps sp ∧ mg x = some (.ref C) ∧ Binds K fd ps []
/-- a method, to be called -/
structure Met (P : Program) (w : World) (K : PySem.W.Frag) (mg : Str → Option Value) (base : Heap) (k : Nat) (C : Addr) (m : Str) (ps : List Str) (sp : Sp) : Prop where
  cl : Cls K C
  ex : ∃ (f : Addr) (fd : FuncData), Meth K C m f ∧ FnOk P w K mg base (CXR P w) k f fd ps sp ∧ Binds K fd ps []
section
variable {X : Cx} {k n : Nat} {ps : List Str} {sp : Sp} {E : St → XK} {x m : Str} {C : Addr} {p pos apos : Pos} {e o : Expr} {es : List Expr} {ta : TE} {t : TA} {pl : Sem Bool}
theorem pe_mak (c : Mak X.prog X.w X.K X.mg X.base k x C ps sp) (hr : Room n X.A) (ha : PA X (e :: es) t) (hx : Passes (CXR X.prog X.w) X E) (hk : k + 1 ≤ n := by decide) (hg : Gl X x := by rfl)
    (hdb : (x == ("__debug__" : Str)) = false := by decide) (he : starEach (e :: es) X.env = (false, eval e X.env) :: starEach es X.env := by rfl) (hpl : (backTo pos (starEach es X.env)).any (·.1) = false := by rfl) :
    PE X (.Call (.Name x p) (e :: es) [] pos) (tMake C sp [] E t) := by
  obtain ⟨f, fd, M, G, m, b⟩ := c.ex
  exact pe_make M G (hr.mono hk) hg m b .nil hx ha hdb he hpl
end
/-- what the top has written of a method -/
structure TopM (K : PySem.W.Frag) (C : Addr) (x qual : Str) (st : Stmt) : Prop where
  ex : ∃ (f : Addr) (fd : FuncData), FunD K x qual st .none f fd ∧ Meth K C x f
theorem topM {K : PySem.W.Frag} {C f : Addr} {x qual : Str} {st : Stmt} {oc : Value} {od an : Option Addr} {osl : Array (Option Value)} {kV doc pm cdv ct : Value} (a : PySem.W.findIn K (.ref C) x = some (some (.ref f))) (i : PySem.W.isFn K (.ref f) = true)
    (l : K.lookup f = some ⟨oc, od, .func (PySem.W.fnOf x qual (defArgs st) (defBody st) (defScope st) .none kV doc pm an cdv ct), osl⟩) (c : PySem.W.codeIn K cdv qual = true) (k : PySem.W.keepIn K (.ref f) = true) : TopM K C x qual st :=
  ⟨f, _, funD_mk l c k, ⟨a, i, k⟩⟩
section
variable {P : Program} {w : World} {K : PySem.W.Frag} {mg : Str → Option Value} {base : Heap} {C : Addr} {x qual cn : Str} {st : Stmt} {n : Nat} {ps : List Str} {sp : Sp}
theorem TopM.met (T : TopM K C x qual st) (cl : Cls K C) (h : ∀ (kV doc pm : Value) (an : Option Addr) (cdv ct : Value) (us : List Value), us.length = ps.length → bindArgs (PySem.W.fnOf x qual (defArgs st) (defBody st) (defScope st) .none kV doc pm an cdv ct) ⟨us, []⟩ = pure (ps.zip us))
    (ok : ∀ f fd, FunD K x qual st .none f fd → FnOk P w K mg base (CXR P w) n f fd ps sp) : Met P w K mg base n C x ps sp := by
  obtain ⟨f, fd, F, m⟩ := T.ex
  refine ⟨cl, f, fd, m, ok f fd F, ?_⟩
  obtain ⟨oc, od, kV, doc, pm, an, cdv, ct, osl, rfl, lk, hcd⟩ := F.ex
  exact .all (h kV doc pm an cdv ct)
theorem TopM.mak (T : TopM K C "__init__" qual st) (mk : PySem.W.makesIn K C = true) (kc : PySem.W.keepIn K (.ref C) = true) (hm : mg cn = some (.ref C)) (h : ∀ (kV doc pm : Value) (an : Option Addr) (cdv ct : Value) (us : List Value), us.length = ps.length → bindArgs (PySem.W.fnOf "__init__" qual (defArgs st) (defBody st) (defScope st) .none kV doc pm an cdv ct) ⟨us, []⟩ = pure (ps.zip us))
    (ok : ∀ f fd, FunD K "__init__" qual st .none f fd → FnOk P w K mg base (CXR P w) n f fd ps sp) : Mak P w K mg base n cn C ps sp := by
  obtain ⟨f, fd, F, m⟩ := T.ex
  refine ⟨f, fd, ⟨mk, m.at_, m.fn, kc⟩, ok f fd F, hm, ?_⟩
  obtain ⟨oc, od, kV, doc, pm, an, cdv, ct, osl, rfl, lk, hcd⟩ := F.ex
  exact .all (h kV doc pm an cdv ct)
end
end L2

namespace L2
open PySem PySem.Spec PyProof.Rows
end L2

namespace L2
open PySem PySem.Spec PyProof.Rows
/-- a method whose last parameters are left out -/
structure MetD (P : Program) (w : World) (K : PySem.W.Frag) (mg : Str → Option Value) (base : Heap) (k : Nat) (C : Addr) (m : Str) (ps : List Str) (dvs : List V) (sp : Sp) : Prop where
  cl : Cls K C
  ex : ∃ (f : Addr) (fd : FuncData) (ds : List Value), Meth K C m f ∧ FnOk P w K mg base (CXR P w) k f fd ps sp ∧ Binds K fd ps ds ∧ Vals dvs ds
/-- a method whose arguments are given by their names -/
structure MetK (P : Program) (w : World) (K : PySem.W.Frag) (mg : Str → Option Value) (base : Heap) (k : Nat) (C : Addr) (m : Str) (ps ks : List Str) (gV : List V → List V → List V) (sp : Sp) : Prop where
  cl : Cls K C
  ex : ∃ (f : Addr) (fd : FuncData) (g : List Value → List Value → List Value), Meth K C m f ∧ FnOk P w K mg base (CXR P w) k f fd ps sp ∧ KBinds K fd ps ks g gV
section
variable {X : Cx} {k n : Nat} {ps ks : List Str} {sp : Sp} {E : St → XK} {m : Str} {C : Addr} {pos apos : Pos} {e o : Expr} {es : List Expr} {ta : TE} {t tk : TA} {pl : Sem Bool} {dvs : List V} {gV : List V → List V → List V} {kws : List Keyword}
end
end L2

namespace L2
open PySem PySem.Spec PyProof.Rows
end L2

namespace L2
open PySem PySem.Spec PyProof.Rows
/-- a class of the text, made by keywords alone: gV puts the values in their order, the new object ahead -/
structure MakKw (P : Program) (w : World) (K : PySem.W.Frag) (mg : Str → Option Value) (base : Heap) (k : Nat) (x : Str) (C : Addr) (ps ks : List Str) (gV : List V → List V → List V) (sp : Sp) : Prop where
  ex : ∃ (f : Addr) (fd : FuncData) (g : List Value → List Value → List Value), Mk K C f ∧ FnOk P w K mg base (CXR P w) k f fd ps sp ∧ mg x = some (.ref C) ∧ KBinds K fd ps ks g gV
def tMakeK (C : Addr) (sp : Sp) (gV : List V → List V → List V) (E : St → XK) (tk : TA) : TE := fun σ H Q => tk σ H fun zs H1 => ∀ x dx, H1 x = none → H1 dx = none → dx ≠ x →
  sp (gV [.ref x] zs) (upd (upd H1 dx (.own x)) x (.ins C dx [])) (fun v H2 => v = .non ∧ Q (.ref x) H2) (E σ)
section
variable {X : Cx} {k n : Nat} {ps ks : List Str} {sp : Sp} {E : St → XK} {x m : Str} {C f : Addr} {fd : FuncData} {p pos apos : Pos} {e o : Expr} {es : List Expr} {ta : TE} {t tk : TA} {pl : Sem Bool} {g : List Value → List Value → List Value} {gV : List V → List V → List V} {kws : List Keyword}
theorem run_makeK {CX : CXT} {pins : List (Addr × Obj)} {σ : St} {H : Hp} {s : Shared} {Q : VK} {ws : List Value} {zs : List V} (M : Mk X.K C f) (F : FnOk X.prog X.w X.K X.mg X.base CX k f fd ps sp) (hr : Room (k + 1) X.A) (hb : KBinds X.K fd ps ks g gV)
    (hx : Passes CX X E) (I : Inv X pins σ H s) (r : Vals zs ws)
    (h : ∀ x dx, H x = none → H dx = none → dx ≠ x → sp (gV [.ref x] zs) (upd (upd H dx (.own x)) x (.ins C dx [])) (fun v H2 => v = .non ∧ Q (.ref x) H2) (E σ)) :
    wpAny (model X.prog X.w) X.A (call (.ref C) [] (ks.zip ws)) (EP X pins σ Q) X.xe s := by
  have hq := h (s.heap.objs.size + 1) s.heap.objs.size (I.hok.fresh (Nat.le_succ _)) (I.hok.fresh (Nat.le_refl _)) (Nat.ne_of_lt (Nat.lt_succ_self _))
  have I2 := Inv.made (C := C) I
  have r2 : Vals (gV [V.ref (s.heap.objs.size + 1)] zs) (g [Value.ref (s.heap.objs.size + 1)] ws) := hb.rel (.cons rfl .nil) r
  have hl : (g [Value.ref (s.heap.objs.size + 1)] ws).length = ps.length := by
    have e := r2.length
    rw [F.len _ _ _ _ hq] at e
    exact e.symm
  refine wpAny_call (make_map (f := f) I.kIn M.makes M.init (beq_iff_eq.mp M.fn) (codeAny_mono (F.run _ X.stack _ _ ⟨[Value.ref (s.heap.objs.size + 1)], ks.zip ws⟩ (g [Value.ref (s.heap.objs.size + 1)] ws) _ _ (E σ) (hr.make C [] (ks.zip ws))
    (I2.env0.make C [] (ks.zip ws)) (hb.to _ [Value.ref (s.heap.objs.size + 1)] ws I2.kIn hl) r2 hq) fun r s' hq' => ?_))
  cases r with
  | error e => exact hx pins σ _ _ e s' I2 hq'
  | ok fl =>
    cases fl with
    | ret u =>
      obtain ⟨v, H', I3, rv, ev, q3⟩ := I2.after hq'
      subst ev
      exact ⟨rv, ⟨V.ref (s.heap.objs.size + 1), H', I3, rfl, q3⟩⟩
    | next => exact False.elim hq'
    | brk => exact False.elim hq'
    | cont => exact False.elim hq'
theorem pe_makK0 (c : MakKw X.prog X.w X.K X.mg X.base k x C ps ks gV sp) (hr : Room n X.A) (hkw : PK X kws tk) (hx : Passes (CXR X.prog X.w) X E) (hk : k + 1 ≤ n := by decide) (hg : Gl X x := by rfl)
    (hall : (backToKw pos (keywordEach kws X.env)).all (·.1.isSome) = true := by rfl) (hks : (backToKw pos (keywordEach kws X.env)).filterMap (·.1) = ks := by rfl)
    (hdb : (x == ("__debug__" : Str)) = false := by decide) (hpl : ((backTo pos (starEach [] X.env)).any (·.1) || (backToKw pos (keywordEach kws X.env)).any (·.1.isNone)) = false := by rfl) :
    PE X (.Call (.Name x p) [] kws pos) (tMakeK C sp gV E tk) := by
  obtain ⟨f, fd, g, M, G, m, b⟩ := c.ex
  intro pins s σ H Q I h
  refine wpAny_Call_Name_kw (ld_glob I hg m ?_ hdb)
  refine PySem.W.callWith_KW0 (h₀ := X.base) I.ok.mod.kin M.kp hall (thn (hkw pos pins s σ H _ I h) fun ws s2 ⟨zs, H2, I2, rz, q2⟩ => ⟨I2.kIn, ?_⟩) hpl
  rw [hks]
  exact run_makeK M G (hr.mono hk) b hx I2 rz q2
end
end L2

namespace L2
open PySem PySem.Spec PyProof.Rows
section
variable {X : Cx}
theorem room_d {A : Around} {ds : List PyData} {d : PyData} (hd : SeqAt.shaped d = true) (hu : A.units + 65 < cLine) : A.units + 1 + min (PyData.depthAll ds) d.depth < cLine := by
  have h1 := SeqAt.depth_of_shaped hd
  have h2 : min (PyData.depthAll ds) d.depth ≤ d.depth := Nat.min_le_right _ _
  omega
/-- list.count of data -/
def rCountD (K : PySem.W.Frag) : V → List V → Hp → VK → Prop := fun x xs H Q => ∃ (a : Addr) (ys : List V) (y : V) (ds : List PyData) (d : PyData), x = V.ref a ∧ xs = [y] ∧ SqL K H a ys ∧ DpAll K H ys ds ∧ Dp K H y d ∧ PyData.canLayAll0 ds = true ∧ SeqAt.shaped d = true ∧
  Q (.int ((ds.countP fun e => PyData.eqv e d : Nat) : Int)) H
theorem mt_countD (hu : X.A.units + 65 < cLine) : MtR X "list.count" (rCountD X.K) := by
  intro pins s σ H x xs v us Q I rx rxs h
  obtain ⟨a, ys, y, ds, d, rfl, rfl, hs, hds, hd, hc, sd, q⟩ := h
  cases rx
  cases rxs with
  | cons ry rt =>
    rename_i uy ut
    cases rt
    obtain ⟨bs, r1⟩ := Dp.reads I d y uy hd ry
    obtain ⟨its, rv, ⟨⟨cls, dd, data, sl⟩, n, ho, hc', hdn, hd'⟩, hlen⟩ := I.list hs
    simp only at hc' hd'
    subst hc' hd'
    obtain ⟨as, r2⟩ := Dp.readsAll I ds ys its hds rv
    refine call_meets PySem.F.slot_list_count ⟨_, ho, rfl⟩ PySem.F.entry_list_count (PySem.F.args_list_count_2 _ _)
      (SeqAt.list_countAt a its.toArray n dd sl uy (fun z => PyData.eqv (SeqAt.readOf s.heap z) d)) ⟨ho, SeqAt.items_eqAt (by simpa using r2) r1 hc (SeqAt.canLay_of_shaped sd) (room_d sd hu), ?_⟩
    have e : its.toArray.toList.countP (fun z => PyData.eqv (SeqAt.readOf s.heap z) d) = ds.countP fun e => PyData.eqv e d := by
      rw [← SeqAt.readsAll_map ds its _ hc r2, List.countP_map]
      rfl
    rw [e]
    exact ⟨.int _, H, I.tok _, ⟨_, rfl⟩, q⟩
/-- list.index of data -/
def rIndexD (K : PySem.W.Frag) : V → List V → Hp → VK → Prop := fun x xs H Q => ∃ (a : Addr) (ys : List V) (y : V) (ds : List PyData) (d : PyData) (j : Nat) (e : PyData), x = V.ref a ∧ xs = [y] ∧ SqL K H a ys ∧ DpAll K H ys ds ∧ Dp K H y d ∧ PyData.canLayAll0 ds = true ∧ SeqAt.shaped d = true ∧
  ds[j]? = some e ∧ PyData.eqv e d = true ∧ (∀ (m : Nat) (e' : PyData), m < j → ds[m]? = some e' → PyData.eqv e' d = false) ∧ Q (.int (j : Nat)) H
theorem mt_indexD (hu : X.A.units + 65 < cLine) : MtR X "list.index" (rIndexD X.K) := by
  intro pins s σ H x xs v us Q I rx rxs h
  obtain ⟨a, ys, y, ds, d, j, e, rfl, rfl, hs, hds, hd, hc, sd, hj, he, hno, q⟩ := h
  cases rx
  cases rxs with
  | cons ry rt =>
    rename_i uy ut
    cases rt
    obtain ⟨bs, r1⟩ := Dp.reads I d y uy hd ry
    obtain ⟨its, rv, ⟨⟨cls, dd, data, sl⟩, n, ho, hc', hdn, hd'⟩, hlen⟩ := I.list hs
    simp only at hc' hd'
    subst hc' hd'
    obtain ⟨as, r2⟩ := Dp.readsAll I ds ys its hds rv
    have em := SeqAt.readsAll_map ds its _ hc r2
    have hl : its.length = ds.length := by rw [← em, List.length_map]
    obtain ⟨hjl, hje⟩ := List.getElem?_eq_some_iff.mp hj
    have hvl := rv.length
    have hjs : j < its.toArray.size := by simp; omega
    have hsl := sizeLine_eq
    have at_ : ∀ (m : Nat) (hm : m < its.length), SeqAt.readOf s.heap its[m] = ds[m]'(by omega) := fun m hm => by
      have : (its.map (SeqAt.readOf s.heap))[m]? = ds[m]? := by rw [em]
      rw [List.getElem?_map, List.getElem?_eq_getElem hm, List.getElem?_eq_getElem (by omega)] at this
      exact Option.some.inj this
    refine call_meets PySem.F.slot_list_index ⟨_, ho, rfl⟩ PySem.F.entry_list_index (PySem.F.args_list_index_2 _ _)
      (SeqAt.list_indexAt a its.toArray n dd sl uy (fun z => PyData.eqv (SeqAt.readOf s.heap z) d) j hjs (by omega) ?_ ?_) ⟨ho, SeqAt.items_eqAt (by simpa using r2) r1 hc (SeqAt.canLay_of_shaped sd) (room_d sd hu), ?_⟩
    · have e1 : its.toArray[j] = its[j]'(by omega) := by simp
      show PyData.eqv (SeqAt.readOf s.heap its.toArray[j]) d = true
      rw [e1, at_ j (by omega), hje]
      exact he
    · intro m hm hmj
      have hml : m < its.length := by simpa using hm
      have e1 : its.toArray[m] = its[m] := by simp
      show PyData.eqv (SeqAt.readOf s.heap its.toArray[m]) d = false
      rw [e1, at_ m hml]
      exact hno m _ hmj (List.getElem?_eq_getElem (by omega))
    · exact ⟨.int (j : Nat), H, I.tok _, ⟨_, rfl⟩, q⟩
end
section
variable {X : Cx} {e st : Expr} {te ts : TE} {pos p2 : Pos}
end
end L2

namespace L2
open PySem PySem.Spec PyProof.Rows
/-! ### a value whose tuples are known by what they hold; objects by their numbers -/
inductive U where
  | non | bl (b : Bool) | int (i : Int) | str (x : Str) | tup (xs : List U) | obj (n : Nat)
/-- what stands at a number: a list, one that is read alone, an instance of an own class, an exception that was caught -/
inductive AO where
  | lst (xs : List U) | rol (xs : List U) | krl (xs : List U) | ins (c : Str) (fs : List (Str × U)) | exc (c : Str) (fs : List (Str × U) := [])
abbrev AH := List AO
mutual
inductive RU (K : PySem.W.Frag) (H : Hp) (φ : List Addr) : U → V → Prop
  | non : RU K H φ .non .non
  | bl {b : Bool} : RU K H φ (.bl b) (.bl b)
  | int {i : Int} : RU K H φ (.int i) (.int i)
  | str {x : Str} : RU K H φ (.str x) (.str x)
  | tup {us : List U} {a : Addr} {vs : List V} : SqT K H a vs → RUs K H φ us vs → RU K H φ (.tup us) (.ref a)
  | obj {n : Nat} {a : Addr} : φ[n]? = some a → RU K H φ (.obj n) (.ref a)
inductive RUs (K : PySem.W.Frag) (H : Hp) (φ : List Addr) : List U → List V → Prop
  | nil : RUs K H φ [] []
  | cons {u : U} {v : V} {us : List U} {vs : List V} : RU K H φ u v → RUs K H φ us vs → RUs K H φ (u :: us) (v :: vs)
end
/-- later -/
structure Ext (K : PySem.W.Frag) (φ : List Addr) (H : Hp) (φ' : List Addr) (H' : Hp) : Prop where
  num : ∀ (n : Nat) (a : Addr), φ[n]? = some a → φ'[n]? = some a
  tup : ∀ a xs, SqT K H a xs → SqT K H' a xs
  frz : ∀ a o u, H a = some (.frz o u) → H' a = some (.frz o u)
section
variable {K : PySem.W.Frag} {φ φ' φ1 φ2 : List Addr} {H H' H1 H2 : Hp}
theorem Ext.refl : Ext K φ H φ H := ⟨fun _ _ h => h, fun _ _ h => h, fun _ _ _ h => h⟩
theorem Ext.trans (a : Ext K φ H φ1 H1) (b : Ext K φ1 H1 φ2 H2) : Ext K φ H φ2 H2 := ⟨fun n x h => b.num n x (a.num n x h), fun x xs h => b.tup x xs (a.tup x xs h), fun x o u h => b.frz x o u (a.frz x o u h)⟩
mutual
theorem RU.mono (e : Ext K φ H φ' H') : ∀ {u : U} {v : V}, RU K H φ u v → RU K H' φ' u v
  | _, _, .non => .non
  | _, _, .bl => .bl
  | _, _, .int => .int
  | _, _, .str => .str
  | _, _, .tup h r => .tup (e.tup _ _ h) (RUs.mono e r)
  | _, _, .obj h => .obj (e.num _ _ h)
theorem RUs.mono (e : Ext K φ H φ' H') : ∀ {us : List U} {vs : List V}, RUs K H φ us vs → RUs K H' φ' us vs
  | _, _, .nil => .nil
  | _, _, .cons h r => .cons (RU.mono e h) (RUs.mono e r)
end
theorem RUs.len : ∀ {us : List U} {vs : List V}, RUs K H φ us vs → us.length = vs.length
  | _, _, .nil => rfl
  | _, _, .cons _ r => by rw [List.length_cons, List.length_cons, RUs.len r]
theorem RUs.app : ∀ {us us' : List U} {vs vs' : List V}, RUs K H φ us vs → RUs K H φ us' vs' → RUs K H φ (us ++ us') (vs ++ vs')
  | _, _, _, _, .nil, s => s
  | _, _, _, _, .cons h r, s => .cons h (RUs.app r s)
theorem RUs.at : ∀ {us : List U} {vs : List V} {i : Nat} {u : U}, RUs K H φ us vs → us[i]? = some u → ∃ v, vs[i]? = some v ∧ RU K H φ u v
  | _, _, _, _, .nil, e => by simp at e
  | _, _, 0, _, .cons h _, e => by simp at e; subst e; exact ⟨_, rfl, h⟩
  | _, _, i + 1, u, .cons _ r, e => by
    obtain ⟨v, h1, h2⟩ := RUs.at (i := i) (u := u) r (by simpa using e)
    exact ⟨v, by simpa using h1, h2⟩
theorem RUs.at' : ∀ {us : List U} {vs : List V} {i : Nat} {v : V}, RUs K H φ us vs → vs[i]? = some v → ∃ u, us[i]? = some u ∧ RU K H φ u v
  | _, _, _, _, .nil, e => by simp at e
  | _, _, 0, _, .cons h _, e => by simp at e; subst e; exact ⟨_, rfl, h⟩
  | _, _, i + 1, u, .cons _ r, e => by
    obtain ⟨v, h1, h2⟩ := RUs.at' (i := i) (v := u) r (by simpa using e)
    exact ⟨v, by simpa using h1, h2⟩
theorem RUs.take : ∀ {us : List U} {vs : List V} (n : Nat), RUs K H φ us vs → RUs K H φ (us.take n) (vs.take n)
  | _, _, 0, _ => .nil
  | _, _, _ + 1, .nil => .nil
  | _, _, n + 1, .cons h r => .cons h (RUs.take n r)
theorem RUs.drop : ∀ {us : List U} {vs : List V} (n : Nat), RUs K H φ us vs → RUs K H φ (us.drop n) (vs.drop n)
  | _, _, 0, r => r
  | _, _, _ + 1, .nil => .nil
  | _, _, n + 1, .cons _ r => RUs.drop n r
theorem RUs.set : ∀ {us : List U} {vs : List V} {u : U} {v : V} (i : Nat), RU K H φ u v → RUs K H φ us vs → RUs K H φ (us.set i u) (vs.set i v)
  | _, _, _, _, _, _, .nil => .nil
  | _, _, _, _, 0, h, .cons _ r => .cons h r
  | _, _, _, _, i + 1, h, .cons g r => .cons g (RUs.set i h r)
theorem RUs.era : ∀ {us : List U} {vs : List V} (i : Nat), RUs K H φ us vs → RUs K H φ (us.eraseIdx i) (vs.eraseIdx i)
  | _, _, _, .nil => .nil
  | _, _, 0, .cons _ r => r
  | _, _, i + 1, .cons h r => .cons h (RUs.era i r)
theorem RUs.last {us : List U} {vs : List V} (r : RUs K H φ us vs) : RUs K H φ us.dropLast vs.dropLast := by
  rw [List.dropLast_eq_take, List.dropLast_eq_take, r.len]; exact r.take _
theorem RUs.ints : ∀ {ns : List Int} {vs : List V}, RUs K H φ (ns.map U.int) vs → vs = ns.map V.int
  | [], _, .nil => rfl
  | n :: ns, _, .cons h r => by cases h; rw [RUs.ints r]; rfl
theorem RUs.ofInts : ∀ {ns : List Int}, RUs K H φ (ns.map U.int) (ns.map V.int)
  | [] => .nil
  | _ :: _ => .cons .int RUs.ofInts
/-- names with values -/
inductive RFs (K : PySem.W.Frag) (H : Hp) (φ : List Addr) : List (Str × U) → List (Str × V) → Prop
  | nil : RFs K H φ [] []
  | cons {x : Str} {u : U} {v : V} {us : List (Str × U)} {vs : List (Str × V)} : RU K H φ u v → RFs K H φ us vs → RFs K H φ ((x, u) :: us) ((x, v) :: vs)
theorem RFs.mono (e : Ext K φ H φ' H') : ∀ {us : List (Str × U)} {vs : List (Str × V)}, RFs K H φ us vs → RFs K H' φ' us vs
  | _, _, .nil => .nil
  | _, _, .cons h r => .cons (h.mono e) (RFs.mono e r)
theorem RFs.at {x : Str} : ∀ {us : List (Str × U)} {vs : List (Str × V)} {u : U}, RFs K H φ us vs → us.lookup x = some u → ∃ v, vs.lookup x = some v ∧ RU K H φ u v
  | _, _, _, .nil, e => by cases e
  | _, _, u, @RFs.cons _ _ _ y _ _ _ _ h r, e => by
    rw [List.lookup_cons] at e ⊢
    cases hx : x == y with
    | true => rw [hx] at e; cases e; exact ⟨_, rfl, h⟩
    | false => rw [hx] at e; exact RFs.at r e
theorem RFs.no {x : Str} : ∀ {us : List (Str × U)} {vs : List (Str × V)}, RFs K H φ us vs → us.lookup x = none → vs.lookup x = none
  | _, _, .nil, e => rfl
  | _, _, @RFs.cons _ _ _ y _ _ _ _ h r, e => by
    rw [List.lookup_cons] at e ⊢
    cases hx : x == y with
    | true => rw [hx] at e; cases e
    | false => rw [hx] at e; exact RFs.no r e
theorem RFs.len : ∀ {us : List (Str × U)} {vs : List (Str × V)}, RFs K H φ us vs → us.length = vs.length
  | _, _, .nil => rfl
  | _, _, .cons _ r => by rw [List.length_cons, List.length_cons, RFs.len r]
/-- a list of the text's own -/
def KL (K : PySem.W.Frag) (a : Addr) (xs : List V) : Prop := ∃ (o : Obj) (its : Array Value) (n : Nat), K.lookup a = some o ∧ o.cls = .type "list" ∧ o.dict = none ∧ o.data = .seq its n ∧ its.size ≤ sizeLine ∧ Vals xs its.toList
/-- an exception's fields: none that are told, or those of its dict, which is frozen -/
def XF (K : PySem.W.Frag) (H : Hp) (φ : List Addr) (dx : Option Addr) (fs : List (Str × U)) : Prop := fs = [] ∨ ∃ d od vs, dx = some d ∧ H d = some (.frz od (.xd vs)) ∧ RFs K H φ fs vs
theorem XF.mono {dx : Option Addr} {fs : List (Str × U)} (x : XF K H φ dx fs) (e : Ext K φ H φ' H') : XF K H' φ' dx fs := by
  rcases x with x | ⟨d, od, vs, h1, h2, h3⟩
  · exact .inl x
  · exact .inr ⟨d, od, vs, h1, e.frz _ _ _ h2, h3.mono e⟩
def RObj (K : PySem.W.Frag) (G : Str → Addr) (H : Hp) (φ : List Addr) (a : Addr) : AO → Prop
  | .lst us => ∃ vs, H a = some (.lst vs) ∧ RUs K H φ us vs
  | .rol us => ∃ vs, Rd H a (.lst vs) ∧ RUs K H φ us vs
  | .krl us => ∃ vs, KL K a vs ∧ RUs K H φ us vs
  | .ins c fs => ∃ dx gs, H a = some (.ins (G c) dx gs) ∧ RFs K H φ fs gs
  | .exc c fs => ∃ dx, H a = some (excO a (.ref (G c)) dx) ∧ XF K H φ dx fs
def isK : Option AO → Prop
  | some (.krl _) => True
  | _ => False
structure RH (K : PySem.W.Frag) (G : Str → Addr) (φ : List Addr) (h : AH) (H : Hp) : Prop where
  len : φ.length = h.length
  inj : ∀ (m n : Nat) (a : Addr), φ[m]? = some a → φ[n]? = some a → m = n ∨ isK h[m]? ∨ isK h[n]?
  ob : ∀ (n : Nat) (a : Addr) (o : AO), φ[n]? = some a → h[n]? = some o → RObj K G H φ a o
variable {G : Str → Addr} {h h' : AH}
theorem RObj.there {a : Addr} {o : AO} (r : RObj K G H φ a o) : H a ≠ none ∨ isK (some o) := by
  cases o with
  | lst us => obtain ⟨vs, e, _⟩ := r; rw [e]; exact .inl fun z => by cases z
  | rol us =>
    obtain ⟨vs, e | ⟨o, e⟩, _⟩ := r
    · rw [e]; exact .inl fun z => by cases z
    · rw [e]; exact .inl fun z => by cases z
  | krl us => exact .inr trivial
  | ins c fs => obtain ⟨dx, gs, e, _⟩ := r; rw [e]; exact .inl fun z => by cases z
  | exc c fs => obtain ⟨dx, e, _⟩ := r; rw [e]; exact .inl fun z => by cases z
theorem RObj.stay {a : Addr} {o : AO} (r : RObj K G H φ a o) (e : Ext K φ H φ' H') (s : H' a = H a ∨ isK (some o)) : RObj K G H' φ' a o := by
  cases o with
  | lst us => obtain ⟨vs, q, z⟩ := r; rcases s with s | s; exact ⟨vs, s.trans q, z.mono e⟩; exact s.elim
  | rol us =>
    obtain ⟨vs, q, z⟩ := r
    refine ⟨vs, ?_, z.mono e⟩
    rcases s with s | s
    · unfold Rd; rw [s]; exact q
    · exact s.elim
  | krl us => obtain ⟨vs, q, z⟩ := r; exact ⟨vs, q, z.mono e⟩
  | ins c fs => obtain ⟨dx, gs, q, z⟩ := r; rcases s with s | s; exact ⟨dx, gs, s.trans q, z.mono e⟩; exact s.elim
  | exc c fs => obtain ⟨dx, q, z⟩ := r; rcases s with s | s; exact ⟨dx, s.trans q, z.mono e⟩; exact s.elim
theorem RH.there (r : RH K G φ h H) {n : Nat} {a : Addr} (e : φ[n]? = some a) : ∃ o, h[n]? = some o ∧ RObj K G H φ a o := by
  have hl : n < h.length := by rw [← r.len]; exact (List.getElem?_eq_some_iff.mp e).1
  exact ⟨_, List.getElem?_eq_getElem hl, r.ob n a _ e (List.getElem?_eq_getElem hl)⟩
theorem RH.get (r : RH K G φ h H) {n : Nat} {o : AO} (e : h[n]? = some o) : ∃ a, φ[n]? = some a ∧ RObj K G H φ a o := by
  have hl : n < φ.length := by rw [r.len]; exact (List.getElem?_eq_some_iff.mp e).1
  exact ⟨_, List.getElem?_eq_getElem hl, r.ob n _ _ (List.getElem?_eq_getElem hl) e⟩
/-- a new tuple, or anything else that is new: the objects stay -/
theorem Ext.upd {p : Addr} {o : HO} (hp : H p = none) : Ext K φ H φ (upd H p o) := ⟨fun _ _ h => h, fun a xs h => by
  rcases h with (h | ⟨o', h⟩) | h
  · exact .inl (.inl (by rw [upd_ne (ne_of_none h hp)]; exact h))
  · exact .inl (.inr ⟨o', by rw [upd_ne (ne_of_none h hp)]; exact h⟩)
  · exact .inr h, fun a o' u h => by rw [upd_ne (ne_of_none h hp)]; exact h⟩
theorem RH.upd {p : Addr} {o : HO} (r : RH K G φ h H) (hp : H p = none) : RH K G φ h (upd H p o) := ⟨r.len, r.inj, fun n a ob e1 e2 => by
  have q := r.ob n a ob e1 e2
  rcases q.there with t | t
  · exact q.stay (.upd hp) (.inl (upd_ne fun z => t (z ▸ hp)))
  · exact q.stay (.upd hp) (.inr t)⟩
/-- a new object, numbered -/
theorem Ext.push {p : Addr} {o : HO} (hp : H p = none) : Ext K φ H (φ ++ [p]) (L2.upd H p o) := ⟨fun n a h => by
  rw [List.getElem?_append_left (List.getElem?_eq_some_iff.mp h).1]; exact h, (Ext.upd hp (φ := φ) (K := K)).tup, (Ext.upd hp (φ := φ) (K := K)).frz⟩
theorem RH.push {p : Addr} {o : HO} {ao : AO} (r : RH K G φ h H) (hp : H p = none) (ho : RObj K G (L2.upd H p o) (φ ++ [p]) p ao) : RH K G (φ ++ [p]) (h ++ [ao]) (L2.upd H p o) := by
  have hx : Ext K φ H (φ ++ [p]) (L2.upd H p o) := .push hp
  have ne : ∀ (n : Nat) (a : Addr), φ[n]? = some a → a ≠ p ∨ isK h[n]? := fun n a e => by
    obtain ⟨ob, eo, q⟩ := r.there e
    rcases q.there with t | t
    · exact .inl fun z => t (z ▸ hp)
    · rw [eo]; exact .inr t
  have hl : ∀ n : Nat, n < φ.length → (h ++ [ao])[n]? = h[n]? := fun n hn => List.getElem?_append_left (by rw [← r.len]; exact hn)
  refine ⟨by simp [r.len], fun m n a e1 e2 => ?_, fun n a ob e1 e2 => ?_⟩
  · by_cases h1 : m < φ.length <;> by_cases h2 : n < φ.length
    · rw [List.getElem?_append_left h1] at e1
      rw [List.getElem?_append_left h2] at e2
      rw [hl m h1, hl n h2]
      exact r.inj m n a e1 e2
    · rw [List.getElem?_append_left h1] at e1
      rw [List.getElem?_append_right (by omega)] at e2
      have : a = p := by
        have h3 : n - φ.length = 0 := by
          have := (List.getElem?_eq_some_iff.mp e2).1
          simp at this; omega
        rw [h3] at e2; simpa using e2.symm
      rcases ne m a e1 with z | z
      · exact absurd this z
      · rw [hl m h1]; exact .inr (.inl z)
    · rw [List.getElem?_append_right (by omega)] at e1
      rw [List.getElem?_append_left h2] at e2
      have : a = p := by
        have h3 : m - φ.length = 0 := by
          have := (List.getElem?_eq_some_iff.mp e1).1
          simp at this; omega
        rw [h3] at e1; simpa using e1.symm
      rcases ne n a e2 with z | z
      · exact absurd this z
      · rw [hl n h2]; exact .inr (.inr z)
    · have z1 := (List.getElem?_eq_some_iff.mp e1).1
      have z2 := (List.getElem?_eq_some_iff.mp e2).1
      simp at z1 z2; exact .inl (by omega)
  · by_cases h1 : n < φ.length
    · rw [List.getElem?_append_left h1] at e1
      rw [hl n h1] at e2
      rcases ne n a e1 with z | z
      · exact (r.ob n a ob e1 e2).stay hx (.inl (upd_ne z))
      · rw [e2] at z; exact (r.ob n a ob e1 e2).stay hx (.inr z)
    · have z1 := (List.getElem?_eq_some_iff.mp e1).1
      simp at z1
      have h3 : n = φ.length := by omega
      subst h3
      rw [List.getElem?_append_right (by omega)] at e1
      rw [r.len, List.getElem?_append_right (by omega)] at e2
      simp at e1 e2
      subst e1 e2
      exact ho
/-- the object n is changed -/
theorem Ext.put {p : Addr} {o o' : HO} (hp : H p = some o') (nt : ∀ xs, o' ≠ .tup xs) (nf : ∀ b u, o' ≠ .frz b u) : Ext K φ H φ (L2.upd H p o) := ⟨fun _ _ h => h, fun a xs h => by
  rcases h with (h | ⟨o1, h⟩) | h
  · exact .inl (.inl (by rw [upd_ne (fun z => by subst z; rw [hp] at h; cases h; exact nt _ rfl)]; exact h))
  · exact .inl (.inr ⟨o1, by rw [upd_ne (fun z => by subst z; rw [hp] at h; cases h; exact nf _ _ rfl)]; exact h⟩)
  · exact .inr h, fun a o1 u h => by rw [upd_ne (fun z => by subst z; rw [hp] at h; cases h; exact nf _ _ rfl)]; exact h⟩
theorem RH.put {n : Nat} {p : Addr} {o o' : HO} {ao : AO} (r : RH K G φ h H) (hn : φ[n]? = some p) (hp : H p = some o') (nt : ∀ xs, o' ≠ .tup xs) (nf : ∀ b u, o' ≠ .frz b u) (ho : RObj K G (L2.upd H p o) φ p ao) (hk : ¬ isK h[n]?) (hk' : ¬ isK (some ao)) : RH K G φ (h.set n ao) (L2.upd H p o) := by
  have hl : n < h.length := by rw [← r.len]; exact (List.getElem?_eq_some_iff.mp hn).1
  have same : ∀ m, isK h[m]? → isK (h.set n ao)[m]? := fun m z => by
    by_cases hm : n = m
    · subst hm; exact absurd z hk
    · rw [List.getElem?_set_ne hm]; exact z
  refine ⟨by simp [r.len], fun m k a e1 e2 => (r.inj m k a e1 e2).imp id fun z => z.imp (same m) (same k), fun m a ob e1 e2 => ?_⟩
  by_cases hm : m = n
  · subst hm
    rw [hn] at e1; cases e1
    rw [List.getElem?_set_self hl] at e2
    cases e2
    exact ho
  · rw [List.getElem?_set_ne (Ne.symm hm)] at e2
    have q := r.ob m a ob e1 e2
    by_cases hkm : isK (some ob)
    · exact q.stay (.put hp nt nf) (.inr hkm)
    · refine q.stay (.put hp nt nf) (.inl (upd_ne fun z => ?_))
      rcases r.inj m n p (z ▸ e1) hn with t | t | t
      · exact hm t
      · rw [e2] at t; exact hkm t
      · exact hk t
end
/-! ### the state -/
abbrev SU := List (Option U)
inductive RO (K : PySem.W.Frag) (H : Hp) (φ : List Addr) : SU → St → Prop
  | nil : RO K H φ [] []
  | no {ρ : SU} {σ : St} {o : Option V} : RO K H φ ρ σ → RO K H φ (none :: ρ) (o :: σ)
  | so {u : U} {v : V} {ρ : SU} {σ : St} : RU K H φ u v → RO K H φ ρ σ → RO K H φ (some u :: ρ) (some v :: σ)
/-- where the def was entered -/
structure Bs where
  G : Str → Addr
  φ : List Addr
  H : Hp
section
variable {K : PySem.W.Frag} {φ φ' : List Addr} {H H' : Hp}
theorem RO.mono (e : Ext K φ H φ' H') : ∀ {ρ : SU} {σ : St}, RO K H φ ρ σ → RO K H' φ' ρ σ
  | _, _, .nil => .nil
  | _, _, .no r => .no (RO.mono e r)
  | _, _, .so h r => .so (h.mono e) (RO.mono e r)
theorem RO.at : ∀ {ρ : SU} {σ : St} {i : Nat} {u : U}, RO K H φ ρ σ → ρ[i]? = some (some u) → ∃ v, σ[i]? = some (some v) ∧ RU K H φ u v
  | _, _, _, _, .nil, e => by simp at e
  | _, _, 0, _, .no r, e => by simp at e
  | _, _, 0, _, .so h r, e => by simp at e; subst e; exact ⟨_, rfl, h⟩
  | _, _, i + 1, u, .no r, e => by
    obtain ⟨v, h1, h2⟩ := RO.at (i := i) (u := u) r (by simpa using e)
    exact ⟨v, by simpa using h1, h2⟩
  | _, _, i + 1, u, .so _ r, e => by
    obtain ⟨v, h1, h2⟩ := RO.at (i := i) (u := u) r (by simpa using e)
    exact ⟨v, by simpa using h1, h2⟩
theorem RO.set {u : U} {v : V} (h : RU K H φ u v) : ∀ {ρ : SU} {σ : St} (i : Nat), RO K H φ ρ σ → RO K H φ (ρ.set i (some u)) (σ.set i (some v))
  | _, _, _, .nil => .nil
  | _, _, 0, .no r => .so h r
  | _, _, 0, .so _ r => .so h r
  | _, _, i + 1, .no r => .no (RO.set h i r)
  | _, _, i + 1, .so g r => .so g (RO.set h i r)
theorem RO.unset : ∀ {ρ : SU} {σ : St} (i : Nat) (o : Option V), RO K H φ ρ σ → RO K H φ (ρ.set i none) (σ.set i o)
  | _, _, _, _, .nil => .nil
  | _, _, 0, _, .no r => .no r
  | _, _, 0, _, .so _ r => .no r
  | _, _, i + 1, o, .no r => .no (RO.unset i o r)
  | _, _, i + 1, o, .so g r => .so g (RO.unset i o r)
theorem RO.nones : ∀ (n : Nat), RO K H φ (List.replicate n none) (List.replicate n none)
  | 0 => .nil
  | n + 1 => .no (RO.nones n)
theorem RO.start : ∀ {us : List U} {vs : List V} (n : Nat), RUs K H φ us vs → RO K H φ (us.map some ++ List.replicate n none) (vs.map some ++ List.replicate n none)
  | _, _, n, .nil => RO.nones n
  | _, _, n, .cons h r => .so h (RO.start n r)
end
structure R (K : PySem.W.Frag) (B : Bs) (φ : List Addr) (ρ : SU) (h : AH) (σ : St) (H : Hp) : Prop where
  ext : Ext K B.φ B.H φ H
  st : RO K H φ ρ σ
  hp : RH K B.G φ h H
theorem R.step {K : PySem.W.Frag} {B : Bs} {φ φ' : List Addr} {ρ : SU} {h h' : AH} {σ : St} {H H' : Hp} (r : R K B φ ρ h σ H) (e : Ext K φ H φ' H') (q : RH K B.G φ' h' H') : R K B φ' ρ h' σ H' := ⟨r.ext.trans e, r.st.mono e, q⟩
/-- an exception -/
structure UX where
  c : Str
  fs : List (Str × U) := []
abbrev UQ := U → AH → Prop
abbrev XQ := UX → AH → Prop
abbrev EX := SU → XQ
abbrev WE := SU → AH → UQ → XQ → Prop
abbrev WT := SU → AH → (Bool → AH → Prop) → XQ → Prop
abbrev WA := SU → AH → (List U → AH → Prop) → XQ → Prop
structure UD where
  nx : SU → AH → Prop
  rt : UQ
  bk : SU → AH → Prop := fun _ _ => False
  ct : SU → AH → Prop := fun _ _ => False
abbrev SK := SU → AH → Prop
abbrev WS := SK → UQ → SK → SK → EX → SU → AH → Prop
def AQ (K : PySem.W.Frag) (G : Str → Addr) (φ : List Addr) (H : Hp) (Q : UQ) : VK := fun v H' => ∃ φ' u h', Ext K φ H φ' H' ∧ RH K G φ' h' H' ∧ RU K H' φ' u v ∧ Q u h'
def tA (K : PySem.W.Frag) (B : Bs) (E : EX) (W : WE) : TE := fun σ H Q => ∃ φ ρ h QA, R K B φ ρ h σ H ∧ W ρ h QA (E ρ) ∧ ∀ v H', AQ K B.G φ H QA v H' → Q v H'
def tAT (K : PySem.W.Frag) (B : Bs) (E : EX) (W : WT) : TT := fun σ H Q => ∃ φ ρ h QA, R K B φ ρ h σ H ∧ W ρ h QA (E ρ) ∧ ∀ b H' φ' h', Ext K φ H φ' H' → RH K B.G φ' h' H' → QA b h' → Q b H'
def tAA (K : PySem.W.Frag) (B : Bs) (E : EX) (W : WA) : TA := fun σ H Q => ∃ φ ρ h QA, R K B φ ρ h σ H ∧ W ρ h QA (E ρ) ∧ ∀ vs H' φ' us h', Ext K φ H φ' H' → RH K B.G φ' h' H' → RUs K H' φ' us vs → QA us h' → Q vs H'
/-- the ends of what began at φ, H -/
structure Fin (K : PySem.W.Frag) (B : Bs) (φ : List Addr) (H : Hp) (DA : UD) (D : Ends) : Prop where
  nx : ∀ φ' ρ' h' σ' H', Ext K φ H φ' H' → R K B φ' ρ' h' σ' H' → DA.nx ρ' h' → D.nx σ' H'
  rt : ∀ v H' φ' u h', Ext K φ H φ' H' → RH K B.G φ' h' H' → RU K H' φ' u v → DA.rt u h' → D.rt v H'
  bk : ∀ φ' ρ' h' σ' H', Ext K φ H φ' H' → R K B φ' ρ' h' σ' H' → DA.bk ρ' h' → D.bk σ' H'
  ct : ∀ φ' ρ' h' σ' H', Ext K φ H φ' H' → R K B φ' ρ' h' σ' H' → DA.ct ρ' h' → D.ct σ' H'
theorem Fin.step {K : PySem.W.Frag} {B : Bs} {φ φ1 : List Addr} {H H1 : Hp} {DA : UD} {D : Ends} (f : Fin K B φ H DA D) (e : Ext K φ H φ1 H1) : Fin K B φ1 H1 DA D :=
  ⟨fun φ' ρ' h' σ' H' e' r q => f.nx φ' ρ' h' σ' H' (e.trans e') r q, fun v H' φ' u h' e' rh ru q => f.rt v H' φ' u h' (e.trans e') rh ru q, fun φ' ρ' h' σ' H' e' r q => f.bk φ' ρ' h' σ' H' (e.trans e') r q, fun φ' ρ' h' σ' H' e' r q => f.ct φ' ρ' h' σ' H' (e.trans e') r q⟩
def tAS (K : PySem.W.Frag) (B : Bs) (E : EX) (W : WS) : TS := fun D σ H => ∃ φ ρ h DA, R K B φ ρ h σ H ∧ W DA.nx DA.rt DA.bk DA.ct E ρ h ∧ Fin K B φ H DA D
structure AE (X : Cx) (B : Bs) (E : EX) (e : Expr) (W : WE) : Prop where
  pe : PE X e (tA X.K B E W)
structure AT (X : Cx) (B : Bs) (E : EX) (e : Expr) (W : WT) : Prop where
  pt : PT X e (tAT X.K B E W)
structure AW (X : Cx) (B : Bs) (E : EX) (e : Expr) (W : WT) : Prop where
  pw : PW X e (tAT X.K B E W)
structure AA (X : Cx) (B : Bs) (E : EX) (es : List Expr) (W : WA) : Prop where
  pa : PA X es (tAA X.K B E W)
structure AS (X : Cx) (B : Bs) (E : EX) (st : Stmt) (W : WS) : Prop where
  ps : PS X st (tAS X.K B E W)
structure ASs (X : Cx) (B : Bs) (E : EX) (st : List Stmt) (W : WS) : Prop where
  pss : PSs X st (tAS X.K B E W)
theorem PE.weak {X : Cx} {e : Expr} {t t' : TE} (h : PE X e t) (w : ∀ σ H Q, t' σ H Q → t σ H Q) : PE X e t' := fun pins s σ H Q I q => h pins s σ H Q I (w _ _ _ q)
theorem PT.weak {X : Cx} {e : Expr} {t t' : TT} (h : PT X e t) (w : ∀ σ H Q, t' σ H Q → t σ H Q) : PT X e t' := fun pins s σ H Q I q => h pins s σ H Q I (w _ _ _ q)
theorem PW.weak {X : Cx} {e : Expr} {t t' : TT} (h : PW X e t) (w : ∀ σ H Q, t' σ H Q → t σ H Q) : PW X e t' := fun wh pins s σ H Q I q => h wh pins s σ H Q I (w _ _ _ q)
theorem PA.weak {X : Cx} {e : List Expr} {t t' : TA} (h : PA X e t) (w : ∀ σ H Q, t' σ H Q → t σ H Q) : PA X e t' := fun pos pins s σ H Q I q => h pos pins s σ H Q I (w _ _ _ q)
theorem PS.weak {X : Cx} {e : Stmt} {t t' : TS} (h : PS X e t) (w : ∀ D σ H, t' D σ H → t D σ H) : PS X e t' := fun pins s σ H D I q => h pins s σ H D I (w _ _ _ q)
theorem PSs.weak {X : Cx} {e : List Stmt} {t t' : TS} (h : PSs X e t) (w : ∀ D σ H, t' D σ H → t D σ H) : PSs X e t' := fun pins s σ H D I q => h pins s σ H D I (w _ _ _ q)
section
variable {K : PySem.W.Frag} {B : Bs} {E : EX} {φ : List Addr} {ρ : SU} {h : AH} {σ : St} {H : Hp}
theorem tA.mk {W : WE} {QA : UQ} {Q : VK} (r : R K B φ ρ h σ H) (w : W ρ h QA (E ρ)) (k : ∀ v H' φ' u h', Ext K φ H φ' H' → R K B φ' ρ h' σ H' → RU K H' φ' u v → QA u h' → Q v H') : tA K B E W σ H Q :=
  ⟨φ, ρ, h, QA, r, w, fun v H' ⟨φ', u, h', e, q, ru, qa⟩ => k v H' φ' u h' e (r.step e q) ru qa⟩
theorem tAT.mk {W : WT} {QA : Bool → AH → Prop} {Q : Bool → Hp → Prop} (r : R K B φ ρ h σ H) (w : W ρ h QA (E ρ)) (k : ∀ b H' φ' h', Ext K φ H φ' H' → R K B φ' ρ h' σ H' → QA b h' → Q b H') : tAT K B E W σ H Q :=
  ⟨φ, ρ, h, QA, r, w, fun b H' φ' h' e q qa => k b H' φ' h' e (r.step e q) qa⟩
theorem tAA.mk {W : WA} {QA : List U → AH → Prop} {Q : List V → Hp → Prop} (r : R K B φ ρ h σ H) (w : W ρ h QA (E ρ)) (k : ∀ vs H' φ' us h', Ext K φ H φ' H' → R K B φ' ρ h' σ H' → RUs K H' φ' us vs → QA us h' → Q vs H') : tAA K B E W σ H Q :=
  ⟨φ, ρ, h, QA, r, w, fun vs H' φ' us h' e q ru qa => k vs H' φ' us h' e (r.step e q) ru qa⟩
end
end L2

namespace L2
open PySem PySem.Spec PyProof.Rows
/-- not, by its two values -/
@[reducible] def nB : Bool → Bool
  | true => false
  | false => true
theorem nB_not (b : Bool) : nB b = !b := by cases b <;> rfl
/-! ### operations on values -/
abbrev O2 := U → U → AH → UQ → Prop
abbrev O1 := U → AH → UQ → Prop
abbrev ON := List U → AH → UQ → Prop
def rA (K : PySem.W.Frag) (G : Str → Addr) (w : O2) : R2 := fun x y H Q => ∃ φ a b h QA, RH K G φ h H ∧ RU K H φ a x ∧ RU K H φ b y ∧ w a b h QA ∧ ∀ v H', AQ K G φ H QA v H' → Q v H'
def rA1 (K : PySem.W.Frag) (G : Str → Addr) (w : O1) : V → Hp → VK → Prop := fun x H Q => ∃ φ a h QA, RH K G φ h H ∧ RU K H φ a x ∧ w a h QA ∧ ∀ v H', AQ K G φ H QA v H' → Q v H'
def rAN (K : PySem.W.Frag) (G : Str → Addr) (w : ON) : List V → Hp → VK → Prop := fun xs H Q => ∃ φ us h QA, RH K G φ h H ∧ RUs K H φ us xs ∧ w us h QA ∧ ∀ v H', AQ K G φ H QA v H' → Q v H'
structure AOp (X : Cx) (G : Str → Addr) (f : Value → Value → Sem Value) (w : O2) : Prop where
  op : OpR X f (rA X.K G w)
structure AUn (X : Cx) (G : Str → Addr) (f : Value → Sem Value) (w : O1) : Prop where
  op : UnR X f (rA1 X.K G w)
structure ACl (X : Cx) (G : Str → Addr) (f : Value) (w : ON) : Prop where
  op : CallR X f (rAN X.K G w)
section
variable {K : PySem.W.Frag} {G : Str → Addr} {φ : List Addr} {h : AH} {H : Hp} {QA : UQ}
theorem AQ.here {u : U} {v : V} (rh : RH K G φ h H) (ru : RU K H φ u v) (q : QA u h) : AQ K G φ H QA v H := ⟨φ, u, h, .refl, rh, ru, q⟩
theorem AQ.tup {us : List U} {vs : List V} {p : Addr} (rh : RH K G φ h H) (hp : H p = none) (ru : RUs K H φ us vs) (q : QA (.tup us) h) : AQ K G φ H QA (.ref p) (upd H p (.tup vs)) :=
  ⟨φ, .tup us, h, .upd hp, rh.upd hp, .tup (SqT.of upd_same) (ru.mono (.upd hp)), q⟩
theorem AQ.lst {us : List U} {vs : List V} {p : Addr} (rh : RH K G φ h H) (hp : H p = none) (ru : RUs K H φ us vs) (q : QA (.obj h.length) (h ++ [.lst us])) : AQ K G φ H QA (.ref p) (upd H p (.lst vs)) :=
  ⟨φ ++ [p], .obj h.length, h ++ [.lst us], .push hp, rh.push (ao := .lst us) hp ⟨vs, upd_same, ru.mono (.push hp)⟩, .obj (by rw [← rh.len]; simp), q⟩
theorem RH.lst (r : RH K G φ h H) {n : Nat} {us : List U} (e : h[n]? = some (.lst us)) {v : V} (q : RU K H φ (.obj n) v) : ∃ a vs, v = .ref a ∧ φ[n]? = some a ∧ H a = some (.lst vs) ∧ RUs K H φ us vs := by
  cases q with
  | obj hn =>
    obtain ⟨vs, h1, h2⟩ := r.ob _ _ _ hn e
    exact ⟨_, vs, rfl, hn, h1, h2⟩
theorem RH.rol (r : RH K G φ h H) {n : Nat} {us : List U} (e : h[n]? = some (.lst us) ∨ h[n]? = some (.rol us) ∨ h[n]? = some (.krl us)) {v : V} (q : RU K H φ (.obj n) v) : ∃ a vs, v = .ref a ∧ φ[n]? = some a ∧ SqL K H a vs ∧ RUs K H φ us vs := by
  cases q with
  | obj hn =>
    rcases e with e | e | e
    · obtain ⟨vs, h1, h2⟩ := r.ob _ _ _ hn e
      exact ⟨_, vs, rfl, hn, SqL.of h1, h2⟩
    · obtain ⟨vs, h1, h2⟩ := r.ob _ _ _ hn e
      exact ⟨_, vs, rfl, hn, .inl h1, h2⟩
    · obtain ⟨vs, h1, h2⟩ := r.ob _ _ _ hn e
      exact ⟨_, vs, rfl, hn, .inr h1, h2⟩
end
/-- the items of a list at a number -/
def lstAt (h : AH) (n : Nat) : Option (List U) := match h[n]? with
  | some (.lst xs) => some xs
  | some (.rol xs) => some xs
  | some (.krl xs) => some xs
  | _ => none
theorem lstAt_of {h : AH} {n : Nat} {us : List U} (e : lstAt h n = some us) : h[n]? = some (.lst us) ∨ h[n]? = some (.rol us) ∨ h[n]? = some (.krl us) := by
  unfold lstAt at e
  split at e
  · cases e; exact .inl (by assumption)
  · cases e; exact .inr (.inl (by assumption))
  · cases e; exact .inr (.inr (by assumption))
  · cases e
/-- list or tuple, its items -/
def itemsOf (h : AH) : U → Option (List U)
  | .tup xs => some xs
  | .obj n => lstAt h n
  | _ => none
def ownLst (h : AH) (n : Nat) : Option (List U) := match h[n]? with
  | some (.lst xs) => some xs
  | _ => none
theorem ownLst_of {h : AH} {n : Nat} {us : List U} (e : ownLst h n = some us) : h[n]? = some (.lst us) := by
  unfold ownLst at e
  split at e
  · cases e; assumption
  · cases e
/-- in an option's way -/
def Opt {α : Type} (o : Option α) (k : α → Prop) : Prop := match o with
  | some a => k a
  | none => False
theorem Opt.of {α : Type} {o : Option α} {k : α → Prop} (h : Opt o k) : ∃ a, o = some a ∧ k a := by
  cases o with
  | none => exact h.elim
  | some a => exact ⟨a, rfl, h⟩
theorem Opt.mk {α : Type} {o : Option α} {k : α → Prop} {a : α} (e : o = some a) (h : k a) : Opt o k := by rw [e]; exact h
def uAdd : O2 := fun a b h Q => match a, b with
  | .int i, .int j => Q (.int (i + j)) h
  | .str x, .str y => x.length + y.length ≤ sizeLine ∧ Q (.str (x ++ y)) h
  | .tup xs, .tup ys => xs ≠ [] ∧ xs.length + ys.length ≤ sizeLine ∧ Q (.tup (xs ++ ys)) h
  | .obj m, .obj n => Opt (ownLst h m) fun xs => Opt (ownLst h n) fun ys => xs.length + ys.length ≤ sizeLine ∧ Q (.obj h.length) (h ++ [.lst (xs ++ ys)])
  | _, _ => False
def uI (g : Int → Int → U) : O2 := fun a b h Q => match a, b with
  | .int i, .int j => Q (g i j) h
  | _, _ => False
def uIC (C : Int → Int → Prop) (g : Int → Int → U) : O2 := fun a b h Q => match a, b with
  | .int i, .int j => C i j ∧ Q (g i j) h
  | _, _ => False
def uSub : O2 := uI fun i j => .int (i - j)
def uMul : O2 := fun a b h Q => match a, b with
  | .int i, .int j => IntMulOk i j ∧ Q (.int (i * j)) h
  | .obj m, .int k => Opt (ownLst h m) fun xs => -(2 ^ 63) ≤ k ∧ k < 2 ^ 63 ∧ xs.length * k.toNat ≤ sizeLine ∧ Q (.obj h.length) (h ++ [.lst (List.replicate k.toNat xs).flatten])
  | _, _ => False
def uMod : O2 := uIC (fun _ j => 0 < j) fun i j => .int (i % j)
def uDiv : O2 := uIC CDivB fun i j => .int (i.fdiv j)
def uPow : O2 := uIC CPow fun i j => .int (i ^ j.toNat)
def uLt : O2 := uI fun i j => .bl (decide (i < j))
def uLe : O2 := uI fun i j => .bl (decide (i ≤ j))
def uGt : O2 := uI fun i j => .bl (decide (j < i))
def uGe : O2 := uI fun i j => .bl (decide (j ≤ i))
section
variable {X : Cx} {G : Str → Addr}
theorem aop_int {f : Value → Value → Sem Value} {g : Int → Int → U} {g' : Int → Int → V} (ho : OpR X f (rI0 g')) (hg : ∀ K H φ i j, RU K H φ (g i j) (g' i j)) : AOp X G f (uI g) := ⟨by
  rintro pins s σ H x y v u Q I rx ry ⟨φ, a, b, h, QA, rh, ra, rb, w, k⟩
  cases a <;> cases b <;> first | exact w.elim | skip
  cases ra; cases rb
  exact ho pins s σ H _ _ v u Q I rx ry ⟨_, _, rfl, rfl, k _ _ (.here rh (hg _ _ _ _ _) w)⟩⟩
theorem aop_intC {f : Value → Value → Sem Value} {C : Int → Int → Prop} {g : Int → Int → U} {g' : Int → Int → V} (ho : OpR X f (rI C g')) (hg : ∀ K H φ i j, RU K H φ (g i j) (g' i j)) : AOp X G f (uIC C g) := ⟨by
  rintro pins s σ H x y v u Q I rx ry ⟨φ, a, b, h, QA, rh, ra, rb, w, k⟩
  cases a <;> cases b <;> first | exact w.elim | skip
  cases ra; cases rb
  exact ho pins s σ H _ _ v u Q I rx ry ⟨_, _, rfl, rfl, w.1, k _ _ (.here rh (hg _ _ _ _ _) w.2)⟩⟩
theorem ao_sub : AOp X G (binaryOp .Sub) uSub := aop_int op_sub fun _ _ _ _ _ => .int
theorem ao_mod : AOp X G (binaryOp .Mod) uMod := aop_intC op_mod fun _ _ _ _ _ => .int
theorem ao_div : AOp X G (binaryOp .FloorDiv) uDiv := aop_intC op_fdivB fun _ _ _ _ _ => .int
theorem ao_pow : AOp X G (binaryOp .Pow) uPow := aop_intC op_pow fun _ _ _ _ _ => .int
theorem ao_lt : AOp X G (compareOp .Lt) uLt := aop_int op_lt fun _ _ _ _ _ => .bl
theorem ao_le : AOp X G (compareOp .LtE) uLe := aop_int op_le fun _ _ _ _ _ => .bl
theorem ao_gt : AOp X G (compareOp .Gt) uGt := aop_int op_gt fun _ _ _ _ _ => .bl
theorem ao_ge : AOp X G (compareOp .GtE) uGe := aop_int op_ge fun _ _ _ _ _ => .bl
theorem ao_mul : AOp X G (binaryOp .Mult) uMul := ⟨by
  rintro pins s σ H x y v u Q I rx ry ⟨φ, a, b, h, QA, rh, ra, rb, w, k⟩
  cases a <;> cases b <;> first | exact w.elim | skip
  · cases ra; cases rb
    exact op_mulB pins s σ H _ _ v u Q I rx ry ⟨_, _, rfl, rfl, w.1, k _ _ (.here rh .int w.2)⟩
  · obtain ⟨xs, e, w1, w2, w3, w4⟩ := Opt.of w
    obtain ⟨p, vs, rfl, hn, hp, r⟩ := rh.lst (ownLst_of e) ra
    cases rb
    refine op_rep pins s σ H _ _ v u Q I rx ry ⟨_, _, _, rfl, rfl, hp, w1, w2, by rw [← r.len]; exact w3, fun q hq => k _ _ (.lst rh hq ?_ w4)⟩
    generalize (Int.toNat _) = m
    induction m with
    | zero => exact .nil
    | succ m ih => rw [List.replicate_succ, List.replicate_succ, List.flatten_cons, List.flatten_cons]; exact r.app ih⟩
theorem ao_add : AOp X G (binaryOp .Add) uAdd := ⟨by
  rintro pins s σ H x y v u Q I rx ry ⟨φ, a, b, h, QA, rh, ra, rb, w, k⟩
  cases a <;> cases b <;> first | exact w.elim | skip
  · cases ra; cases rb
    exact op_add pins s σ H _ _ v u Q I rx ry ⟨_, _, rfl, rfl, k _ _ (.here rh .int w)⟩
  · cases ra; cases rb
    exact op_add_str pins s σ H _ _ v u Q I rx ry ⟨_, _, rfl, rfl, w.1, k _ _ (.here rh .str w.2)⟩
  · obtain ⟨w1, w2, w3⟩ := w
    cases ra with
    | tup t1 r1 => cases rb with
      | tup t2 r2 =>
        refine op_catT pins s σ H _ _ v u Q I rx ry ⟨_, _, _, _, rfl, rfl, t1, t2, ?_, by rw [← r1.len, ← r2.len]; exact w2, fun z => k _ _ ?_, fun _ p hp => k _ _ (.tup rh hp (r1.app r2) w3)⟩
        · intro z; subst z; cases r1; exact w1 rfl
        · subst z; cases r2; rw [List.append_nil] at w3; exact .here rh (.tup t1 r1) w3
  · obtain ⟨xs, e, w⟩ := Opt.of w
    obtain ⟨ys, e', w1, w2⟩ := Opt.of w
    obtain ⟨p, vs, rfl, hn, hp, r⟩ := rh.lst (ownLst_of e) ra
    obtain ⟨p', vs', rfl, hn', hp', r'⟩ := rh.lst (ownLst_of e') rb
    exact op_cat pins s σ H _ _ v u Q I rx ry ⟨_, _, _, _, rfl, rfl, hp, hp', by rw [← r.len, ← r'.len]; exact w1, fun q hq => k _ _ (.lst rh hq (r.app r') w2)⟩⟩
/-- - a -/
def uNeg : O1 := fun a h Q => match a with
  | .int i => Q (.int (-i)) h
  | _ => False
theorem ao_neg : AUn X G (unaryOp .USub) uNeg := ⟨by
  rintro pins s σ H x v Q I rx ⟨φ, a, h, QA, rh, ra, w, k⟩
  cases a <;> first | exact w.elim | skip
  cases ra
  exact un_neg pins s σ H _ v Q I rx ⟨_, rfl, k _ _ (.here rh .int w)⟩⟩
end
/-! ### data -/
def datL (f : U → Option PyData) : List U → Option (List PyData)
  | [] => some []
  | u :: us => match f u, datL f us with
    | some e, some es => some (e :: es)
    | _, _ => none
def dat (h : AH) : Nat → U → Option PyData
  | 0, _ => none
  | n + 1, u => match u with
    | .non => some .none
    | .bl b => some (.bool b)
    | .int i => some (.int i)
    | .str x => some (.str x)
    | .tup xs => (datL (dat h n) xs).map .tuple
    | .obj k => match lstAt h k with
      | some xs => (datL (dat h n) xs).map .list
      | none => none
section
variable {K : PySem.W.Frag} {G : Str → Addr} {φ : List Addr} {h : AH} {H : Hp}
theorem datL_dp {f : U → Option PyData} (hf : ∀ u d v, f u = some d → RU K H φ u v → Dp K H v d) : ∀ {us : List U} {ds : List PyData} {vs : List V}, datL f us = some ds → RUs K H φ us vs → DpAll K H vs ds
  | [], ds, _, e, r => by cases e; cases r; exact .nil
  | u :: us, ds, _, e, r => by
    unfold datL at e
    split at e
    · rename_i d ds' e1 e2
      cases e
      cases r with
      | cons r1 r2 => exact .cons (hf u d _ e1 r1) (datL_dp hf e2 r2)
    · cases e
theorem dat_dp (rh : RH K G φ h H) : ∀ (n : Nat) {u : U} {d : PyData} {v : V}, dat h n u = some d → RU K H φ u v → Dp K H v d
  | 0, _, _, _, e, _ => by cases e
  | n + 1, u, d, v, e, r => by
    unfold dat at e
    cases u with
    | non => cases e; cases r; exact .non
    | bl b => cases e; cases r; exact .bl b
    | int i => cases e; cases r; exact .int i
    | str x => cases e; cases r; exact .str x
    | tup xs =>
      cases r with
      | tup t r =>
        dsimp only at e
        cases e1 : datL (dat h n) xs with
        | none => rw [e1] at e; cases e
        | some ds => rw [e1] at e; cases e; exact .tup t (datL_dp (fun u d v => dat_dp rh n) e1 r)
    | obj k =>
      dsimp only at e
      split at e
      · rename_i xs e0
        obtain ⟨a, vs, rfl, _, hs, r'⟩ := rh.rol (lstAt_of e0) r
        cases e1 : datL (dat h n) xs with
        | none => rw [e1] at e; cases e
        | some ds => rw [e1] at e; cases e; exact .lst hs (datL_dp (fun u d v => dat_dp rh n) e1 r')
      · cases e
end
/-- == of data -/
def uEqD (neg : Bool) : O2 := fun a b h Q => Opt (dat h 9 a) fun d => Opt (dat h 9 b) fun e => SeqAt.shaped d = true ∧ SeqAt.shaped e = true ∧ Q (.bl (if neg then !PyData.eqv d e else PyData.eqv d e)) h
def uEq : O2 := fun a b h Q => match a, b with
  | .int i, .int j => Q (.bl (decide (i = j))) h
  | .str i, .str j => Q (.bl (decide (i = j))) h
  | .bl i, .bl j => Q (.bl (decide (i = j))) h
  | .non, .non => Q (.bl true) h
  | .non, .int _ => Q (.bl false) h
  | .int _, .non => Q (.bl false) h
  | .non, .str _ => Q (.bl false) h
  | .str _, .non => Q (.bl false) h
  | a, b => uEqD false a b h Q
def uNe : O2 := fun a b h Q => match a, b with
  | .int i, .int j => Q (.bl (!decide (i = j))) h
  | .str i, .str j => Q (.bl (!decide (i = j))) h
  | .bl i, .bl j => Q (.bl (!decide (i = j))) h
  | .non, .non => Q (.bl false) h
  | .non, .int _ => Q (.bl true) h
  | .int _, .non => Q (.bl true) h
  | .non, .str _ => Q (.bl true) h
  | .str _, .non => Q (.bl true) h
  | a, b => uEqD true a b h Q
section
variable {X : Cx} {G : Str → Addr}
theorem dec_V {α : Type} [DecidableEq α] {f : α → V} (hf : ∀ a b, f a = f b → a = b) (a b : α) : decide (f a = f b) = decide (a = b) := by
  rw [Bool.eq_iff_iff]; simp only [decide_eq_true_eq]; exact ⟨hf a b, fun e => by rw [e]⟩
theorem ao_eqD (hu : X.A.units + 64 < cLine) : AOp X G (compareOp .Eq) (uEqD false) := ⟨by
  rintro pins s σ H x y v u Q I rx ry ⟨φ, a, b, h, QA, rh, ra, rb, w, k⟩
  obtain ⟨d, e1, w⟩ := Opt.of w
  obtain ⟨e, e2, s1, s2, w⟩ := Opt.of w
  exact op_eqD hu pins s σ H _ _ v u Q I rx ry ⟨d, e, dat_dp rh 9 e1 ra, dat_dp rh 9 e2 rb, s1, s2, k _ _ (.here rh .bl w)⟩⟩
theorem ao_neD (hu : X.A.units + 64 < cLine) : AOp X G (compareOp .NotEq) (uEqD true) := ⟨by
  rintro pins s σ H x y v u Q I rx ry ⟨φ, a, b, h, QA, rh, ra, rb, w, k⟩
  obtain ⟨d, e1, w⟩ := Opt.of w
  obtain ⟨e, e2, s1, s2, w⟩ := Opt.of w
  exact op_neD hu pins s σ H _ _ v u Q I rx ry ⟨d, e, dat_dp rh 9 e1 ra, dat_dp rh 9 e2 rb, s1, s2, k _ _ (.here rh .bl w)⟩⟩
theorem ao_eq (hu : X.A.units + 64 < cLine) : AOp X G (compareOp .Eq) uEq := ⟨by
  rintro pins s σ H x y v u Q I rx ry ⟨φ, a, b, h, QA, rh, ra, rb, w, k⟩
  have dfl : uEqD false a b h QA → wpAny (model X.prog X.w) X.A (compareOp .Eq v u) (EP X pins σ Q) X.xe s := fun w => (ao_eqD hu).op pins s σ H x y v u Q I rx ry ⟨φ, a, b, h, QA, rh, ra, rb, w, k⟩
  have one : ∀ c, scal x y = true → decide (x = y) = c → QA (.bl c) h → wpAny (model X.prog X.w) X.A (compareOp .Eq v u) (EP X pins σ Q) X.xe s := fun c h1 h2 q => op_eq pins s σ H x y v u Q I rx ry ⟨h1, by rw [h2]; exact k _ _ (.here rh .bl q)⟩
  cases a <;> cases b <;> first
    | exact dfl w
    | (cases ra; cases rb; exact one _ rfl (dec_V (fun _ _ e => by cases e; rfl) _ _) w)
    | (cases ra; cases rb; exact one _ rfl (by decide) w)
    | (cases ra; cases rb; exact one _ rfl (decide_eq_false (fun z => by cases z)) w)⟩
theorem ao_ne (hu : X.A.units + 64 < cLine) : AOp X G (compareOp .NotEq) uNe := ⟨by
  rintro pins s σ H x y v u Q I rx ry ⟨φ, a, b, h, QA, rh, ra, rb, w, k⟩
  have dfl : uEqD true a b h QA → wpAny (model X.prog X.w) X.A (compareOp .NotEq v u) (EP X pins σ Q) X.xe s := fun w => (ao_neD hu).op pins s σ H x y v u Q I rx ry ⟨φ, a, b, h, QA, rh, ra, rb, w, k⟩
  have one : ∀ c, scal x y = true → decide (x = y) = c → QA (.bl (!c)) h → wpAny (model X.prog X.w) X.A (compareOp .NotEq v u) (EP X pins σ Q) X.xe s := fun c h1 h2 q => op_ne pins s σ H x y v u Q I rx ry ⟨h1, by rw [h2]; exact k _ _ (.here rh .bl q)⟩
  cases a <;> cases b <;> first
    | exact dfl w
    | (cases ra; cases rb; exact one _ rfl (dec_V (fun _ _ e => by cases e; rfl) _ _) w)
    | (cases ra; cases rb; exact one true rfl (by decide) w)
    | (cases ra; cases rb; exact one false rfl (decide_eq_false (fun z => by cases z)) w)⟩
/-- is None, is not None -/
@[reducible] def uNon : U → Bool
  | .non => true
  | _ => false
def uIs : O2 := fun a b h Q => match b with
  | .non => Q (.bl (uNon a)) h
  | _ => False
theorem non_is {K : PySem.W.Frag} {H : Hp} {φ : List Addr} {a : U} {x : V} (r : RU K H φ a x) : decide (x = .non) = uNon a := by
  cases r <;> first | rfl | exact decide_eq_false (fun z => by cases z)
theorem ao_is : AOp X G (compareOp .Is) uIs := ⟨by
  rintro pins s σ H x y v u Q I rx ry ⟨φ, a, b, h, QA, rh, ra, rb, w, k⟩
  cases b <;> first | exact w.elim | skip
  cases rb
  exact op_isN pins s σ H _ _ v u Q I rx ry ⟨rfl, by rw [non_is ra]; exact k _ _ (.here rh .bl w)⟩⟩
end
/-! ### expressions -/
section
variable {X : Cx} {B : Bs} {E : EX} {a b c e : Expr} {es : List Expr} {Wa Wb Wc We : WE} {pos : Pos}
@[reducible] def aVar (i : Nat) : WE := fun ρ h Q _ => match ρ[i]? with
  | some (some u) => Q u h
  | _ => False
@[reducible] def aC (u : U) : WE := fun _ h Q _ => Q u h
theorem ae_var {i : Nat} {x : Str} (hN : X.N[i]? = some x) (hv : Vis X.env.scope x) (hd : (x == ("__debug__" : Str)) = false := by decide) (hcd : (x == ("__classdict__" : Str)) = false := by decide) : AE X B E (.Name x pos) (aVar i) := ⟨by
  refine (pe_var (pos := pos) hN hv hd hcd).weak ?_
  rintro σ H Q ⟨φ, ρ, h, QA, r, w, k⟩
  unfold aVar at w
  split at w
  · rename_i u e
    obtain ⟨v, e', ru⟩ := r.st.at e
    exact ⟨v, e', k _ _ (.here r.hp ru w)⟩
  · exact w.elim⟩
theorem ae_const {u : U} {v : V} {t : Expr} (h : PE X t (tC v)) (ru : ∀ H φ, RU X.K H φ u v) : AE X B E t (aC u) := ⟨by
  refine h.weak ?_
  rintro σ H Q ⟨φ, ρ, h, QA, r, w, k⟩
  exact k _ _ (.here r.hp (ru _ _) w)⟩
theorem ae_int {i : Int} {j} : AE X B E (.Constant (.int i) j pos) (aC (.int i)) := ae_const pe_int fun _ _ => .int
theorem ae_bl {i : Bool} {j} : AE X B E (.Constant (.bool i) j pos) (aC (.bl i)) := ae_const pe_bl fun _ _ => .bl
theorem ae_non {j} : AE X B E (.Constant .none j pos) (aC .non) := ae_const pe_non fun _ _ => .non
theorem ae_str {x : Str} {j} : AE X B E (.Constant (.str x) j pos) (aC (.str x)) := ae_const pe_str fun _ _ => .str
@[reducible] def aOp (w : O2) (Wa Wb : WE) : WE := fun ρ h Q E => Wa ρ h (fun x h1 => Wb ρ h1 (fun y h2 => w x y h2 Q) E) E
@[reducible] def aUn (w : O1) (Wa : WE) : WE := fun ρ h Q E => Wa ρ h (fun x h1 => w x h1 Q) E
theorem aOp_low {K : PySem.W.Frag} {w : O2} {σ : St} {H : Hp} {Q : VK} (q : tA K B E (aOp w Wa Wb) σ H Q) : tOp (rA K B.G w) (tA K B E Wa) (tA K B E Wb) σ H Q := by
  obtain ⟨φ, ρ, h, QA, r, w, k⟩ := q
  refine tA.mk r w fun x H1 φ1 u1 h1 e1 r1 ru1 w1 => tA.mk r1 w1 fun y H2 φ2 u2 h2 e2 r2 ru2 w2 => ?_
  exact ⟨φ2, u1, u2, h2, QA, r2.hp, ru1.mono e2, ru2, w2, fun v H' ⟨φ', u, h', e, q⟩ => k v H' ⟨φ', u, h', (e1.trans e2).trans e, q⟩⟩
theorem ae_op {op : Operator} {w : O2} (ho : AOp X B.G (binaryOp op) w) (ha : AE X B E a Wa) (hb : AE X B E b Wb) : AE X B E (.BinOp a op b pos) (aOp w Wa Wb) := ⟨(pe_op ho.op ha.pe hb.pe).weak fun _ _ _ => aOp_low⟩
theorem ae_un {op : UnaryOp} {w : O1} (ho : AUn X B.G (unaryOp op) w) (ha : AE X B E a Wa) : AE X B E (.UnaryOp op a pos) (aUn w Wa) := ⟨(pe_un ho.op ha.pe).weak fun σ H Q q => by
  obtain ⟨φ, ρ, h, QA, r, w, k⟩ := q
  refine tA.mk r w fun x H1 φ1 u1 h1 e1 r1 ru1 w1 => ?_
  exact ⟨φ1, u1, h1, QA, r1.hp, ru1, w1, fun v H' ⟨φ', u, h', e, q⟩ => k v H' ⟨φ', u, h', e1.trans e, q⟩⟩⟩
theorem ae_cmp {op : CmpOp} {w : O2} (ho : AOp X B.G (compareOp op) w) (ha : AE X B E a Wa) (hb : AE X B E b Wb) (hm : behindInMarks op b = false := by first | exact nomark _ | with_unfolding_all rfl) : AE X B E (.Compare a [op] [b] pos) (aOp w Wa Wb) := ⟨(pe_cmpR ho.op ha.pe hb.pe hm).weak fun _ _ _ => aOp_low⟩
end
end L2

namespace L2
open PySem PySem.Spec PyProof.Rows
/-- two ways -/
@[reducible] def Br (b : Bool) (A C : Prop) : Prop := match b with
  | true => A
  | false => C
section
variable {b : Bool} {A C : Prop} {p : Prop} [Decidable p]
theorem Br.t (h : A) : Br true A C := h
theorem Br.f (h : C) : Br false A C := h
theorem Br.dec (h : p → A) (h' : ¬ p → C) : Br (decide p) A C := by
  by_cases hp : p
  · rw [decide_eq_true hp]; exact h hp
  · rw [decide_eq_false hp]; exact h' hp
theorem Br.ndec (h : p → C) (h' : ¬ p → A) : Br (!decide p) A C := by
  by_cases hp : p
  · rw [decide_eq_true hp]; exact h hp
  · rw [decide_eq_false hp]; exact h' hp
theorem Br.pos (hp : p) (h : A) : Br (decide p) A C := by rw [decide_eq_true hp]; exact h
theorem Br.neg (hp : ¬ p) (h : C) : Br (decide p) A C := by rw [decide_eq_false hp]; exact h
theorem Br.npos (hp : p) (h : C) : Br (!decide p) A C := by rw [decide_eq_true hp]; exact h
theorem Br.mdec (h : p → C) (h' : ¬ p → A) : Br (nB (decide p)) A C := by rw [nB_not]; exact Br.ndec h h'
theorem Br.mpos (hp : p) (h : C) : Br (nB (decide p)) A C := by rw [nB_not]; exact Br.npos hp h
theorem Br.any (h : b = true → A) (h' : b = false → C) : Br b A C := by
  cases b with
  | true => exact h rfl
  | false => exact h' rfl
theorem Br.is {c : Bool} (e : b = c) (h : Br c A C) : Br b A C := by rw [e]; exact h
end
/-- a value that is a truth -/
@[reducible] def asB (u : U) (k : Bool → Prop) : Prop := match u with
  | .bl b => k b
  | _ => False
@[reducible] def asI (u : U) (k : Int → Prop) : Prop := match u with
  | .int b => k b
  | _ => False
@[reducible] def asN (u : U) (k : Prop) : Prop := match u with
  | .non => k
  | _ => False
theorem asB.of {K : PySem.W.Frag} {H : Hp} {φ : List Addr} {u : U} {v : V} {k : Bool → Prop} (h : asB u k) (r : RU K H φ u v) : ∃ b, v = .bl b ∧ k b := by
  cases u <;> first | exact h.elim | skip
  cases r
  exact ⟨_, rfl, h⟩
theorem asI.of {K : PySem.W.Frag} {H : Hp} {φ : List Addr} {u : U} {v : V} {k : Int → Prop} (h : asI u k) (r : RU K H φ u v) : ∃ b, v = .int b ∧ k b := by
  cases u <;> first | exact h.elim | skip
  cases r
  exact ⟨_, rfl, h⟩
section
variable {X : Cx} {B : Bs} {E : EX} {a b c e : Expr} {es rest : List Expr} {Wa Wb Wc We : WE} {Ta Tb Tc : WT} {pos p2 : Pos}
/-! ### tests -/
@[reducible] def aB (W : WE) : WT := fun ρ h Q E => W ρ h (fun u h1 => asB u fun b => Q b h1) E
theorem aB_low {K : PySem.W.Frag} {W : WE} {t : TE} {σ : St} {H : Hp} {Q : Bool → Hp → Prop} (hw : ∀ σ H Q, tA K B E W σ H Q → t σ H Q) (q : tAT K B E (aB W) σ H Q) : t σ H (fun x H1 => ∃ c, x = .bl c ∧ Q c H1) := by
  obtain ⟨φ, ρ, h, QA, r, w, k⟩ := q
  refine hw _ _ _ (tA.mk r w fun v H1 φ1 u h1 e1 r1 ru w1 => ?_)
  obtain ⟨b, rfl, w2⟩ := asB.of w1 ru
  exact ⟨b, rfl, k _ _ _ _ e1 r1.hp w2⟩
theorem at_val (ha : AE X B E e We) (he : ∀ whole, isTrue e X.env whole = (do let v ← whole; standAt e.pos; holding [v] (truthy v)) := by intro _; rfl) : AT X B E e (aB We) := ⟨(pt_val ha.pe he).weak fun _ _ _ q => aB_low (fun _ _ _ z => z) q⟩
theorem at_cmp {op : CmpOp} {w : O2} (ho : AOp X B.G (compareOp op) w) (ha : AE X B E a Wa) (hb : AE X B E b Wb) (hm : behindInMarks op b = false := by first | exact nomark _ | with_unfolding_all rfl) : AT X B E (.Compare a [op] [b] pos) (aB (aOp w Wa Wb)) := ⟨(pt_cmpR ho.op ha.pe hb.pe hm).weak fun _ _ _ q => aB_low (fun _ _ _ => aOp_low) q⟩
/-- a op1 b op2 c -/
@[reducible] def aChain (w w' : O2) (Wa Wb Wc : WE) : WE := fun ρ h Q E => Wa ρ h (fun x h1 => Wb ρ h1 (fun y h2 => w x y h2 fun z h3 => asB z fun k => Br k (Wc ρ h3 (fun t h4 => w' y t h4 Q) E) (Q (.bl false) h3)) E) E
theorem aChain_low {K : PySem.W.Frag} {w w' : O2} {σ : St} {H : Hp} {Q : VK} (q : tA K B E (aChain w w' Wa Wb Wc) σ H Q) : tChain (rA K B.G w) (rA K B.G w') (tA K B E Wa) (tA K B E Wb) (tA K B E Wc) σ H Q := by
  obtain ⟨φ, ρ, h, QA, r, w, k⟩ := q
  refine tA.mk r w fun x H1 φ1 u1 h1 e1 r1 ru1 w1 => tA.mk r1 w1 fun y H2 φ2 u2 h2 e2 r2 ru2 w2 => ?_
  refine ⟨φ2, u1, u2, h2, _, r2.hp, ru1.mono e2, ru2, w2, fun v H3 ⟨φ3, u, h3, e3, rh3, ru3, w3⟩ => ?_⟩
  obtain ⟨c, rfl, w4⟩ := asB.of w3 ru3
  refine ⟨c, rfl, ?_⟩
  have r3 := r2.step e3 rh3
  cases c with
  | false => exact k _ _ ⟨φ3, _, h3, (e1.trans e2).trans e3, rh3, .bl, w4⟩
  | true =>
    refine tA.mk r3 w4 fun t H4 φ4 u4 h4 e4 r4 ru4 w5 => ?_
    exact ⟨φ4, u2, u4, h4, QA, r4.hp, ru2.mono (e3.trans e4), ru4, w5, fun v H' ⟨φ', u, h', e, q⟩ => k v H' ⟨φ', u, h', (((e1.trans e2).trans e3).trans e4).trans e, q⟩⟩
theorem ae_chain {op op' : CmpOp} {w w' : O2} (ho : AOp X B.G (compareOp op) w) (ho' : AOp X B.G (compareOp op') w') (ha : AE X B E a Wa) (hb : AE X B E b Wb) (hc : AE X B E c Wc) (hm : lastMarks [op, op'] [b, c] = false := by with_unfolding_all rfl) :
    AE X B E (.Compare a [op, op'] [b, c] pos) (aChain w w' Wa Wb Wc) := ⟨(pe_chain ho.op ho'.op ha.pe hb.pe hc.pe hm).weak fun _ _ _ => aChain_low⟩
theorem at_chain {op op' : CmpOp} {w w' : O2} (ho : AOp X B.G (compareOp op) w) (ho' : AOp X B.G (compareOp op') w') (ha : AE X B E a Wa) (hb : AE X B E b Wb) (hc : AE X B E c Wc) (hm : lastMarks [op, op'] [b, c] = false := by with_unfolding_all rfl) :
    AT X B E (.Compare a [op, op'] [b, c] pos) (aB (aChain w w' Wa Wb Wc)) := ⟨(pt_chain ho.op ho'.op ha.pe hb.pe hc.pe hm).weak fun _ _ _ q => aB_low (fun _ _ _ => aChain_low) q⟩
@[reducible] def aNotT (T : WT) : WT := fun ρ h Q E => T ρ h (fun c h1 => Q (nB c) h1) E
@[reducible] def aAndT (T U : WT) : WT := fun ρ h Q E => T ρ h (fun c h1 => Br c (U ρ h1 Q E) (Q false h1)) E
@[reducible] def aOrT (T U : WT) : WT := fun ρ h Q E => T ρ h (fun c h1 => Br c (Q true h1) (U ρ h1 Q E)) E
theorem at_not (ha : AT X B E a Ta) : AT X B E (.UnaryOp .Not a pos) (aNotT Ta) := ⟨(pt_not ha.pt).weak fun σ H Q q => by
  obtain ⟨φ, ρ, h, QA, r, w, k⟩ := q
  exact tAT.mk r w fun b H1 φ1 h1 e1 r1 w1 => by rw [← nB_not]; exact k _ _ _ _ e1 r1.hp w1⟩
theorem aw_and1 (ha : AT X B E a Ta) : AW X B E (.BoolOp .And [a] pos) Ta := ⟨pw_and1 ha.pt⟩
theorem aw_or1 (ha : AT X B E a Ta) : AW X B E (.BoolOp .Or [a] pos) Ta := ⟨pw_or1 ha.pt⟩
theorem aw_and (ha : AT X B E a Ta) (hb : AW X B E (.BoolOp .And (b :: rest) pos) Tb) : AW X B E (.BoolOp .And (a :: b :: rest) pos) (aAndT Ta Tb) := ⟨(pw_and ha.pt hb.pw).weak fun σ H Q q => by
  obtain ⟨φ, ρ, h, QA, r, w, k⟩ := q
  refine tAT.mk r w fun c H1 φ1 h1 e1 r1 w1 => ?_
  cases c with
  | false => exact k _ _ _ _ e1 r1.hp w1
  | true => exact tAT.mk r1 w1 fun c H2 φ2 h2 e2 r2 w2 => k _ _ _ _ (e1.trans e2) r2.hp w2⟩
theorem aw_or (ha : AT X B E a Ta) (hb : AW X B E (.BoolOp .Or (b :: rest) pos) Tb) : AW X B E (.BoolOp .Or (a :: b :: rest) pos) (aOrT Ta Tb) := ⟨(pw_or ha.pt hb.pw).weak fun σ H Q q => by
  obtain ⟨φ, ρ, h, QA, r, w, k⟩ := q
  refine tAT.mk r w fun c H1 φ1 h1 e1 r1 w1 => ?_
  cases c with
  | true => exact k _ _ _ _ e1 r1.hp w1
  | false => exact tAT.mk r1 w1 fun c H2 φ2 h2 e2 r2 w2 => k _ _ _ _ (e1.trans e2) r2.hp w2⟩
theorem AW.at (h : AW X B E a Ta) : AT X B E a Ta := ⟨h.pw.pt⟩
/-! ### and, or, not, if as values -/
@[reducible] def aAnd (Wa Wb : WE) : WE := fun ρ h Q E => Wa ρ h (fun x h1 => asB x fun c => Br c (Wb ρ h1 Q E) (Q (.bl false) h1)) E
@[reducible] def aNot (Wa : WE) : WE := fun ρ h Q E => Wa ρ h (fun x h1 => asB x fun c => Q (.bl (nB c)) h1) E
@[reducible] def aIfE (T : WT) (Wa Wb : WE) : WE := fun ρ h Q E => T ρ h (fun c h1 => Br c (Wa ρ h1 Q E) (Wb ρ h1 Q E)) E
theorem ae_one {op} (ha : AE X B E a Wa) : AE X B E (.BoolOp op [a] pos) Wa := ⟨pe_one ha.pe⟩
theorem ae_and (ha : AE X B E a Wa) (hb : AE X B E (.BoolOp .And (b :: rest) pos) Wb) : AE X B E (.BoolOp .And (a :: b :: rest) pos) (aAnd Wa Wb) := ⟨(pe_and ha.pe hb.pe).weak fun σ H Q q => by
  obtain ⟨φ, ρ, h, QA, r, w, k⟩ := q
  refine tA.mk r w fun v H1 φ1 u h1 e1 r1 ru w1 => ?_
  obtain ⟨c, rfl, w2⟩ := asB.of w1 ru
  refine ⟨c, rfl, ?_⟩
  cases c with
  | false => exact k _ _ ⟨φ1, _, h1, e1, r1.hp, .bl, w2⟩
  | true => exact tA.mk r1 w2 fun v H2 φ2 u h2 e2 r2 ru w3 => k _ _ ⟨φ2, _, h2, e1.trans e2, r2.hp, ru, w3⟩⟩
theorem ae_not (ha : AE X B E a Wa) : AE X B E (.UnaryOp .Not a pos) (aNot Wa) := ⟨(pe_not ha.pe).weak fun σ H Q q => by
  obtain ⟨φ, ρ, h, QA, r, w, k⟩ := q
  refine tA.mk r w fun v H1 φ1 u h1 e1 r1 ru w1 => ?_
  obtain ⟨c, rfl, w2⟩ := asB.of w1 ru
  exact ⟨c, rfl, by rw [← nB_not]; exact k _ _ ⟨φ1, _, h1, e1, r1.hp, .bl, w2⟩⟩⟩
theorem ae_if (hc : AT X B E c Tc) (ha : AE X B E a Wa) (hb : AE X B E b Wb) : AE X B E (.IfExp c a b pos) (aIfE Tc Wa Wb) := ⟨(pe_ifExp hc.pt ha.pe hb.pe).weak fun σ H Q q => by
  obtain ⟨φ, ρ, h, QA, r, w, k⟩ := q
  refine tAT.mk r w fun c H1 φ1 h1 e1 r1 w1 => ?_
  cases c with
  | true => exact tA.mk r1 w1 fun v H2 φ2 u h2 e2 r2 ru w3 => k _ _ ⟨φ2, _, h2, e1.trans e2, r2.hp, ru, w3⟩
  | false => exact tA.mk r1 w1 fun v H2 φ2 u h2 e2 r2 ru w3 => k _ _ ⟨φ2, _, h2, e1.trans e2, r2.hp, ru, w3⟩⟩
/-! ### argument lists, displays -/
@[reducible] def aNil : WA := fun _ h Q _ => Q [] h
@[reducible] def aCons (W : WE) (R : WA) : WA := fun ρ h Q E => W ρ h (fun u h1 => R ρ h1 (fun us h2 => Q (u :: us) h2) E) E
variable {Wr : WA}
theorem aa_nil : AA X B E [] aNil := ⟨pa_nil.weak fun σ H Q q => by
  obtain ⟨φ, ρ, h, QA, r, w, k⟩ := q
  exact k _ _ _ _ _ .refl r.hp .nil w⟩
theorem aa_cons (ha : AE X B E e We) (hr : AA X B E es Wr) (hs : starEach (e :: es) X.env = (false, eval e X.env) :: starEach es X.env := by rfl) : AA X B E (e :: es) (aCons We Wr) := ⟨(pa_cons ha.pe hr.pa hs).weak fun σ H Q q => by
  obtain ⟨φ, ρ, h, QA, r, w, k⟩ := q
  refine tA.mk r w fun v H1 φ1 u h1 e1 r1 ru w1 => tAA.mk r1 w1 fun vs H2 φ2 us h2 e2 r2 rus w2 => ?_
  exact k _ _ _ _ _ (e1.trans e2) r2.hp (.cons (ru.mono e2) rus) w2⟩
@[reducible] def aTup (R : WA) : WE := fun ρ h Q E => R ρ h (fun us h1 => us.length ≤ sizeLine ∧ Q (.tup us) h1) E
@[reducible] def aLst (R : WA) : WE := fun ρ h Q E => R ρ h (fun us h1 => us.length ≤ sizeLine ∧ Q (.obj h1.length) (h1 ++ [.lst us])) E
theorem ae_tup {x1} (hr : AA X B E es Wr) : AE X B E (.Tuple es x1 pos) (aTup Wr) := ⟨(pe_tup hr.pa).weak fun σ H Q q => by
  obtain ⟨φ, ρ, h, QA, r, w, k⟩ := q
  refine tAA.mk r w fun vs H1 φ1 us h1 e1 r1 rus w1 => ⟨by rw [← rus.len]; exact w1.1, fun p hp => ?_⟩
  obtain ⟨φ', u, h', e, q⟩ := AQ.tup (QA := QA) r1.hp hp rus w1.2
  exact k _ _ ⟨φ', u, h', e1.trans e, q⟩⟩
theorem ae_lst (hr : AA X B E es Wr) : AE X B E (.List es pos) (aLst Wr) := ⟨(pe_lst hr.pa).weak fun σ H Q q => by
  obtain ⟨φ, ρ, h, QA, r, w, k⟩ := q
  refine tAA.mk r w fun vs H1 φ1 us h1 e1 r1 rus w1 => ⟨by rw [← rus.len]; exact w1.1, fun p hp => ?_⟩
  obtain ⟨φ', u, h', e, q⟩ := AQ.lst (QA := QA) r1.hp hp rus w1.2
  exact k _ _ ⟨φ', u, h', e1.trans e, q⟩⟩
/-! ### subscripts -/
def uIx : O2 := fun a b h Q => match a, b with
  | .tup xs, .int i => Opt (atI xs i) fun u => Q u h
  | .obj n, .int i => Opt (lstAt h n) fun xs => Opt (atI xs i) fun u => Q u h
  | .str z, .int i => z.length ≤ sizeLine ∧ Opt (atI z.cps.toList i) fun c => Q (.str ⟨#[c]⟩) h
  | _, _ => False
theorem atI_rel {K : PySem.W.Frag} {H : Hp} {φ : List Addr} {us : List U} {vs : List V} {i : Int} {u : U} (r : RUs K H φ us vs) (e : atI us i = some u) : ∃ v, atI vs i = some v ∧ RU K H φ u v := by
  unfold atI at e ⊢
  rw [← r.len]
  cases e1 : ixN us.length i with
  | none => rw [e1] at e; cases e
  | some j => rw [e1] at e; exact r.at e
theorem ix_uIx : IxR X (rA X.K B.G uIx) := by
  rintro value slice pins s σ H x y v u Q I rx ry ⟨φ, a, b, h, QA, rh, ra, rb, w, k⟩ hs
  refine ix_seq value slice pins s σ H x y v u Q I rx ry ?_ hs
  cases a <;> cases b <;> first | exact w.elim | skip
  · obtain ⟨w1, w⟩ := w
    obtain ⟨c, e, w⟩ := Opt.of w
    cases ra; cases rb
    exact .inr (.inr ⟨_, _, _, rfl, rfl, w1, e, k _ _ (.here rh .str w)⟩)
  · obtain ⟨c, e, w⟩ := Opt.of w
    cases rb
    cases ra with
    | tup t r =>
      obtain ⟨v, ev, rv⟩ := atI_rel r e
      exact .inr (.inl ⟨_, _, _, _, rfl, rfl, t, ev, k _ _ (.here rh rv w)⟩)
  · obtain ⟨xs, e1, w⟩ := Opt.of w
    obtain ⟨c, e, w⟩ := Opt.of w
    cases rb
    obtain ⟨p, vs, rfl, _, hs, r⟩ := rh.rol (lstAt_of e1) ra
    obtain ⟨v, ev, rv⟩ := atI_rel r e
    exact .inl ⟨_, _, _, _, rfl, rfl, hs, ev, k _ _ (.here rh rv w)⟩
theorem ae_ix (ha : AE X B E a Wa) (hb : AE X B E b Wb) (hs : PlainIx b := by exact fun _ _ => rfl) : AE X B E (.Subscript a b pos) (aOp uIx Wa Wb) := ⟨(pe_ix ix_uIx ha.pe hb.pe hs).weak fun _ _ _ => aOp_low⟩
/-- the items of xs[lo:hi] -/
def cutU (xs : List U) (lo hi : Option Int) : List U := (xs.drop (HT.sIx xs.length 0 lo)).take (HT.sIx xs.length xs.length hi - HT.sIx xs.length 0 lo)
theorem cut_rel {K : PySem.W.Frag} {H : Hp} {φ : List Addr} {us : List U} {vs : List V} {lo hi : Option Int} (r : RUs K H φ us vs) : RUs K H φ (cutU us lo hi) (cutV vs lo hi) := by
  unfold cutU cutV; rw [r.len]; exact (r.drop _).take _
def uSl (lo hi : Option Int) : O1 := fun a h Q => match a with
  | .tup xs => (HT.sIx xs.length 0 lo = 0 ∧ HT.sIx xs.length xs.length hi = xs.length → False) ∧ Q (.tup (cutU xs lo hi)) h
  | .obj n => Opt (lstAt h n) fun xs => Q (.obj h.length) (h ++ [.lst (cutU xs lo hi)])
  | .str z => z.length ≤ sizeLine ∧ Q (.str (cutS z lo hi)) h
  | _ => False
abbrev WO := SU → AH → (Option Int → AH → Prop) → XQ → Prop
def tAO (K : PySem.W.Frag) (B : Bs) (E : EX) (W : WO) : TO := fun σ H Q => ∃ φ ρ h QA, R K B φ ρ h σ H ∧ W ρ h QA (E ρ) ∧ ∀ o H' φ' h', Ext K φ H φ' H' → RH K B.G φ' h' H' → QA o h' → Q o H'
structure AP0 (X : Cx) (B : Bs) (E : EX) (e : Option Expr) (W : WO) : Prop where
  po : PO X e (tAO X.K B E W)
@[reducible] def oNone : WO := fun _ h Q _ => Q none h
@[reducible] def oSome (W : WE) : WO := fun ρ h Q E => W ρ h (fun u h1 => asI u fun i => Q (some i) h1) E
theorem PO.weak {e : Option Expr} {t t' : TO} (h : PO X e t) (w : ∀ σ H Q, t' σ H Q → t σ H Q) : PO X e t' := fun pins s σ H Q I q => h pins s σ H Q I (w _ _ _ q)
theorem ao_none : AP0 X B E none oNone := ⟨po_none.weak fun σ H Q q => by
  obtain ⟨φ, ρ, h, QA, r, w, k⟩ := q
  exact k _ _ _ _ .refl r.hp w⟩
theorem ao_some (ha : AE X B E e We) : AP0 X B E (some e) (oSome We) := ⟨PO.weak (po_some ha.pe) fun σ H Q q => by
  obtain ⟨φ, ρ, h, QA, r, w, k⟩ := q
  refine tA.mk r w fun v H1 φ1 u h1 e1 r1 ru w1 => ?_
  obtain ⟨i, rfl, w2⟩ := asI.of w1 ru
  exact ⟨i, rfl, k _ _ _ _ e1 r1.hp w2⟩⟩
@[reducible] def aSl (W : WE) (Lo Hi : WO) : WE := fun ρ h Q E => W ρ h (fun u h1 => Lo ρ h1 (fun lo h2 => Hi ρ h2 (fun hi h3 => uSl lo hi u h3 Q) E) E) E
theorem ae_slice {lo hi : Option Expr} {Lo Hi : WO} (he : AE X B E e We) (hl : AP0 X B E lo Lo) (hh : AP0 X B E hi Hi) : AE X B E (.Subscript e (.Slice lo hi none p2) pos) (aSl We Lo Hi) := ⟨(pe_slice (sl_list.or (sl_tup.or sl_str)) he.pe hl.po hh.po).weak fun σ H Q q => by
  obtain ⟨φ, ρ, h, QA, r, w, k⟩ := q
  refine tA.mk r w fun v H1 φ1 u h1 e1 r1 ru w1 => ⟨φ1, ρ, h1, _, r1, w1, fun lo H2 φ2 h2 e2 rh2 w2 => ⟨φ2, ρ, h2, _, r1.step e2 rh2, w2, fun hi H3 φ3 h3 e3 rh3 w3 => ?_⟩⟩
  have ru3 := ru.mono (e2.trans e3)
  have ke : ∀ v H', AQ X.K B.G φ3 H3 QA v H' → Q v H' := fun v H' ⟨φ', u, h', e, q⟩ => k v H' ⟨φ', u, h', ((e1.trans e2).trans e3).trans e, q⟩
  cases u <;> first | exact w3.elim | skip
  · cases ru3
    exact .inr (.inr ⟨_, rfl, w3.1, ke _ _ (.here rh3 .str w3.2)⟩)
  · cases ru3 with
    | tup t r => exact .inr (.inl ⟨_, _, rfl, t, by rw [← r.len]; exact w3.1, fun p hp => ke _ _ (.tup rh3 hp (cut_rel r) w3.2)⟩)
  · obtain ⟨xs, ex, w4⟩ := Opt.of w3
    obtain ⟨p, vs, rfl, _, hs, r⟩ := rh3.rol (lstAt_of ex) ru3
    exact .inl ⟨_, _, rfl, hs, fun q hq => ke _ _ (.lst rh3 hq (cut_rel r) w4)⟩⟩
end
end L2

namespace L2
open PySem PySem.Spec PyProof.Rows
/-! ### targets that are names -/
abbrev GU := AH → U → SU → Option SU
def tAG (K : PySem.W.Frag) (G : Str → Addr) (vs : List Nat) (g : GU) : TG := fun v σ H Q => ∃ φ u ρ ρ' h, RH K G φ h H ∧ RU K H φ u v ∧ RO K H φ ρ σ ∧ g h u ρ = some ρ' ∧ ∀ σ', RO K H φ ρ' σ' → (∀ ws : List Nat, (∀ i ∈ vs, i ∈ ws) → wipe σ' ws = wipe σ ws) → Q σ' H
structure AG (X : Cx) (G : Str → Addr) (tg : Expr) (vs : List Nat) (g : GU) : Prop where
  pg : PG X tg (tAG X.K G vs g)
abbrev GUs := AH → List U → SU → Option SU
def tAGs (K : PySem.W.Frag) (G : Str → Addr) (vs : List Nat) (g : GUs) : TGs := fun v σ H Q => ∃ φ u ρ ρ' h, RH K G φ h H ∧ RUs K H φ u v ∧ RO K H φ ρ σ ∧ g h u ρ = some ρ' ∧ ∀ σ', RO K H φ ρ' σ' → (∀ ws : List Nat, (∀ i ∈ vs, i ∈ ws) → wipe σ' ws = wipe σ ws) → Q σ' H
structure AGs (X : Cx) (G : Str → Addr) (tg : List Expr) (vs : List Nat) (g : GUs) : Prop where
  pg : PGs X tg (tAGs X.K G vs g)
theorem wipe_set (σ : St) (i : Nat) (o : Option V) : ∀ (ws : List Nat), i ∈ ws → wipe (σ.set i o) ws = wipe σ ws
  | w :: ws, hi => by
    unfold wipe
    by_cases h : i ∈ ws
    · rw [wipe_set σ i o ws h]
    · have e : i = w := by rcases List.mem_cons.mp hi with z | z; exact z; exact absurd z h
      subst e
      have : ∀ ws : List Nat, (wipe (σ.set i o) ws).set i none = (wipe σ ws).set i none := by
        intro ws
        induction ws with
        | nil => unfold wipe; rw [List.set_set]
        | cons v vs ih =>
          unfold wipe
          by_cases hv : v = i
          · subst hv; rw [List.set_set, List.set_set]; exact ih
          · rw [List.set_comm _ _ hv, List.set_comm _ _ hv, ih]
      exact this ws
theorem wipe_wipe (σ : St) (ws : List Nat) : wipe (wipe σ ws) ws = wipe σ ws := by
  have : ∀ vs : List Nat, (∀ i ∈ vs, i ∈ ws) → wipe (wipe σ vs) ws = wipe σ ws := by
    intro vs
    induction vs with
    | nil => intro _; rfl
    | cons v vs ih => intro h; rw [show wipe σ (v :: vs) = (wipe σ vs).set v none from rfl, wipe_set _ _ _ _ (h v (by simp)), ih fun i hi => h i (by simp [hi])]
  exact this ws fun _ h => h
theorem PG.weak {X : Cx} {e : Expr} {t t' : TG} (h : PG X e t) (w : ∀ v σ H Q, t' v σ H Q → t v σ H Q) : PG X e t' := fun pins s σ H v u Q I r q => h pins s σ H v u Q I r (w _ _ _ _ q)
theorem PGs.weak {X : Cx} {e : List Expr} {t t' : TGs} (h : PGs X e t) (w : ∀ v σ H Q, t' v σ H Q → t v σ H Q) : PGs X e t' := fun pins s σ H v u Q I r q => h pins s σ H v u Q I r (w _ _ _ _ q)
section
variable {X : Cx} {G : Str → Addr} {pos : Pos} {vs vs' : List Nat}
def gN (i : Nat) : GU := fun _ u ρ => some (ρ.set i (some u))
def gsNil : GUs := fun _ us ρ => match us with
  | [] => some ρ
  | _ => none
def gsCons (g : GU) (gs : GUs) : GUs := fun h us ρ => match us with
  | u :: us => (g h u ρ).bind fun ρ' => gs h us ρ'
  | [] => none
def gT (n : Nat) (gs : GUs) : GU := fun h u ρ => match itemsOf h u with
  | some us => if us.length = n then gs h us ρ else none
  | none => none
theorem ag_name {i : Nat} {x : Str} (hN : X.N.Nodup) (hi : X.N[i]? = some x) (hx : Loc X.env.scope x) (hf : X.fn x = true ∨ X.env.scope.names.lookup x = some .local := by first | exact .inl rfl | exact .inr rfl | assumption) : AG X G (.Name x pos) [i] (gN i) := ⟨(pg_name (pos := pos) hN hi hx hf).weak fun v σ H Q q => by
  obtain ⟨φ, u, ρ, ρ', h, rh, ru, ro, e, k⟩ := q
  cases e
  exact k _ (ro.set ru i) fun ws hw => wipe_set _ _ _ _ (hw i (by simp))⟩
theorem ags_nil : AGs X G [] [] gsNil := ⟨pgs_nil.weak fun v σ H Q q => by
  obtain ⟨φ, us, ρ, ρ', h, rh, ru, ro, e, k⟩ := q
  cases ru with
  | nil => cases e; exact ⟨rfl, k _ ro fun _ _ => rfl⟩
  | cons _ _ => cases e⟩
theorem ags_cons {e : Expr} {es : List Expr} {g : GU} {gs : GUs} (h1 : AG X G e vs g) (h2 : AGs X G es vs' gs) (hs : (assignEach (e :: es) X.env).map (·.2) = assign e X.env :: (assignEach es X.env).map (·.2) := by rfl) : AGs X G (e :: es) (vs ++ vs') (gsCons g gs) := ⟨(pgs_cons h1.pg h2.pg hs).weak fun v σ H Q q => by
  obtain ⟨φ, us, ρ, ρ', h, rh, ru, ro, e, k⟩ := q
  cases ru with
  | nil => cases e
  | @cons u v us vs ru rus =>
    cases e1 : g h u ρ with
    | none => unfold gsCons at e; dsimp only at e; rw [e1] at e; cases e
    | some ρ1 =>
      unfold gsCons at e; dsimp only at e; rw [e1] at e
      refine ⟨v, vs, rfl, φ, u, ρ, ρ1, h, rh, ru, ro, e1, fun σ1 ro1 w1 => ⟨φ, us, ρ1, ρ', h, rh, rus, ro1, e, fun σ2 ro2 w2 => k _ ro2 fun ws hw => ?_⟩⟩
      rw [w2 ws fun i hi => hw i (by simp [hi]), w1 ws fun i hi => hw i (by simp [hi])]⟩
theorem ag_tup {es : List Expr} {kk n : Nat} {gs : GUs} (hc : X.calm = true) (h : AGs X G es vs gs) (hn : (assignEach es X.env).length = n := by rfl) (hst : (assignEach es X.env).findIdx? (·.1) = none := by rfl) : AG X G (.Tuple es kk pos) vs (gT n gs) := ⟨fun pins s σ H v u Q I r q => by
  obtain ⟨φ, a, ρ, ρ', hh, rh, ru, ro, e, k⟩ := q
  unfold gT at e
  cases e0 : itemsOf hh a with
  | none => rw [e0] at e; cases e
  | some us =>
    rw [e0] at e
    dsimp only at e
    split at e
    · rename_i hl
      cases a <;> first | cases e0 | skip
      · cases ru with
        | tup t rus => exact pg_tup hc h.pg hn hst pins s σ H _ u Q I r ⟨_, _, rfl, t, by rw [← rus.len]; exact hl, φ, us, ρ, ρ', hh, rh, rus, ro, e, k⟩
      · obtain ⟨p, ws, rfl, _, hs, rus⟩ := rh.rol (lstAt_of e0) ru
        exact pg_lst hc h.pg hn hst pins s σ H _ u Q I r ⟨_, _, rfl, hs, by rw [← rus.len]; exact hl, φ, us, ρ, ρ', hh, rh, rus, ro, e, k⟩
    · cases e⟩
end
/-! ### what is walked -/
structure RIt (K : PySem.W.Frag) (G : Str → Addr) (φ : List Addr) (H : Hp) (J : It) (xs : List U) (live : AH → Prop) : Prop where
  go : ∀ i φ' h' H', Ext K φ H φ' H' → RH K G φ' h' H' → live h' → i < xs.length → J.go i H'
  stop : ∀ φ' h' H', Ext K φ H φ' H' → RH K G φ' h' H' → live h' → J.stop xs.length H'
  yld : ∀ i φ' h' H' v H2, Ext K φ H φ' H' → RH K G φ' h' H' → live h' → i < xs.length → J.yld i H' v H2 → Ext K φ' H' φ' H2 ∧ RH K G φ' h' H2 ∧ ∃ u, xs[i]? = some u ∧ RU K H2 φ' u v
abbrev WI := SU → AH → (List U → (AH → Prop) → AH → Prop) → XQ → Prop
def tAI (K : PySem.W.Frag) (B : Bs) (E : EX) (W : WI) : TI := fun σ H Rk => ∃ φ ρ h QA, R K B φ ρ h σ H ∧ W ρ h QA (E ρ) ∧ ∀ J H' φ' h' xs live, Ext K φ H φ' H' → RH K B.G φ' h' H' → RIt K B.G φ' H' J xs live → QA xs live h' → Rk J H'
structure AI (X : Cx) (B : Bs) (E : EX) (tg iter : Expr) (W : WI) : Prop where
  pi : PI X tg iter (tAI X.K B E W)
theorem PI.weak {X : Cx} {tg e : Expr} {t t' : TI} (h : PI X tg e t) (w : ∀ σ H Q, t' σ H Q → t σ H Q) : PI X tg e t' := fun pins s σ H Q I q => h pins s σ H Q I (w _ _ _ q)
def iSeq (K : PySem.W.Frag) (tl : TE) : TI := fun σ H R => tl σ H fun x H1 => (∃ a, x = .ref a ∧ (∃ xs, SqL K H1 a xs) ∧ R (Itl K a) H1) ∨ (∃ a, x = .ref a ∧ (∃ xs, SqT K H1 a xs) ∧ R (Itt K a) H1) ∨ ∃ z, x = .str z ∧ R (Its z) H1
theorem pi_seq {X : Cx} {tg l : Expr} {tl : TE} (hl : PE X l tl) : PI X tg l (iSeq X.K tl) := by
  intro pins s σ H R I h
  refine thn (hl pins s σ H _ I h) fun v s1 ⟨x, H1, I1, r1, q1⟩ => ?_
  rcases q1 with ⟨a, e, ⟨xs, hq⟩, q⟩ | ⟨a, e, ⟨xs, hq⟩, q⟩ | ⟨z, e, q⟩
  · subst e
    cases r1
    obtain ⟨its, rv, p, hz⟩ := I1.list hq
    refine wpAny_pyIter_list p.isList ?_
    refine ⟨s1.heap.objs.size, [s1.heap.objs.size], _, _, H1, rfl, I1.kept (t' := s1.toks) fun b o e => Heap.get?_push_of_some _ e, turn_list a _, ⟨_, Heap.get?_push_size _ rfl, rfl, rfl⟩, fun b hb => ?_, q⟩
    have e : b = s1.heap.objs.size := by simpa using hb
    subst e
    exact I1.fpOk (Nat.le_refl _) (I1.hok.fresh (Nat.le_refl _))
  · subst e
    cases r1
    obtain ⟨its, rv, p, hz⟩ := I1.tuple hq
    refine wpAny_pyIter_tuple (show s1.heap.IsTuple a its.toArray from p) ?_
    refine ⟨s1.heap.objs.size, [s1.heap.objs.size], _, _, H1, rfl, I1.kept (t' := s1.toks) fun b o e => Heap.get?_push_of_some _ e, turn_tuple a _, ⟨_, Heap.get?_push_size _ rfl, rfl, rfl⟩, fun b hb => ?_, q⟩
    have e : b = s1.heap.objs.size := by simpa using hb
    subst e
    exact I1.fpOk (Nat.le_refl _) (I1.hok.fresh (Nat.le_refl _))
  · subst e
    obtain ⟨t, rfl⟩ := r1
    cases ha : z.cps.all (· < 128)
    · exact wpAny_pyIter_wide ha (pi_one (tk := s1.toks) I1 _ (turn_str _ z t "str_iterator" (.inr rfl)) ⟨_, Heap.get?_push_size _ rfl, rfl, rfl⟩ q)
    · exact wpAny_pyIter_ascii ha (pi_one (tk := s1.toks) I1 _ (turn_str _ z t "str_ascii_iterator" (.inl rfl)) ⟨_, Heap.get?_push_size _ rfl, rfl, rfl⟩ q)
/-- the items of a list, a tuple, a text, and what must stay while they are walked -/
def uWalk (h : AH) : U → Option (List U × (AH → Prop))
  | .tup xs => some (xs, fun _ => True)
  | .obj n => (lstAt h n).map fun xs => (xs, fun h' => lstAt h' n = some xs)
  | .str z => some (z.cps.toList.map fun c => .str ⟨#[c]⟩, fun _ => True)
  | _ => none
section
variable {K : PySem.W.Frag} {G : Str → Addr} {φ : List Addr} {H : Hp} {h : AH}
theorem rit_list {n : Nat} {a : Addr} {xs : List U} (hn : φ[n]? = some a) : RIt K G φ H (Itl K a) xs (fun h' => lstAt h' n = some xs) := by
  have key : ∀ φ' h' H', Ext K φ H φ' H' → RH K G φ' h' H' → lstAt h' n = some xs → ∃ vs, SqL K H' a vs ∧ RUs K H' φ' xs vs := fun φ' h' H' e r l => by
    obtain ⟨b, vs, eb, hb, hs, rs⟩ := r.rol (lstAt_of l) (.obj (e.num n a hn))
    cases eb
    exact ⟨vs, hs, rs⟩
  refine ⟨fun i φ' h' H' e r l hi => ?_, fun φ' h' H' e r l => ?_, fun i φ' h' H' v H2 e r l hi y => ?_⟩
  · obtain ⟨vs, hs, rs⟩ := key φ' h' H' e r l
    obtain ⟨v, hv, _⟩ := rs.at (List.getElem?_eq_getElem hi)
    exact ⟨vs, v, hs, hv⟩
  · obtain ⟨vs, hs, rs⟩ := key φ' h' H' e r l
    exact ⟨vs, hs, by rw [rs.len]; exact Nat.le_refl _⟩
  · obtain ⟨vs, hs, rs⟩ := key φ' h' H' e r l
    obtain ⟨rfl, y⟩ := y
    obtain ⟨u, hu, ru⟩ := rs.at' (y vs hs)
    exact ⟨.refl, r, u, hu, ru⟩
theorem rit_str {z : Str} : RIt K G φ H (Its z) (z.cps.toList.map fun c => .str ⟨#[c]⟩) (fun _ => True) := by
  refine ⟨fun i φ' h' H' e r l hi => ?_, fun φ' h' H' e r l => ?_, fun i φ' h' H' v H2 e r l hi y => ?_⟩
  · rw [List.length_map] at hi; exact (show i < z.cps.size by simpa using hi)
  · exact (show z.cps.size ≤ _ by rw [List.length_map]; simp)
  · obtain ⟨rfl, c, hc, rfl⟩ := y
    refine ⟨.refl, r, .str ⟨#[c]⟩, ?_, .str⟩
    rw [List.getElem?_map, Array.getElem?_toList, hc]; rfl
theorem rit_rng {lo : Int} {n : Nat} : RIt K G φ H (Itr lo n) ((List.range n).map fun i => .int (lo + (i : Nat))) (fun _ => True) := by
  refine ⟨fun i φ' h' H' e r l hi => ?_, fun φ' h' H' e r l => ?_, fun i φ' h' H' v H2 e r l hi y => ?_⟩
  · rw [List.length_map, List.length_range] at hi; exact hi
  · exact (show n ≤ _ by rw [List.length_map, List.length_range]; exact Nat.le_refl _)
  · obtain ⟨rfl, rfl⟩ := y
    rw [List.length_map, List.length_range] at hi
    exact ⟨.refl, r, .int (lo + (i : Nat)), by rw [List.getElem?_map, List.getElem?_range hi]; rfl, .int⟩
end
section
variable {X : Cx} {B : Bs} {E : EX} {tg a b c e : Expr} {es : List Expr} {Wa Wb We : WE} {Wr : WA} {p pos tpos : Pos}
@[reducible] def aWalk (W : WE) : WI := fun ρ h Q E => W ρ h (fun u h1 => Opt (uWalk h1 u) fun p => Q p.1 p.2 h1) E
theorem ai_seq (he : AE X B E e We) : AI X B E tg e (aWalk We) := ⟨(pi_seq he.pe).weak fun σ H Rk q => by
  obtain ⟨φ, ρ, h, QA, r, w, k⟩ := q
  refine tA.mk r w fun v H1 φ1 u h1 e1 r1 ru w1 => ?_
  obtain ⟨⟨xs, live⟩, eo, w2⟩ := Opt.of w1
  cases u <;> first | cases eo | skip
  · cases ru
    exact .inr (.inr ⟨_, rfl, k _ _ _ _ _ _ e1 r1.hp rit_str w2⟩)
  · cases ru with
    | tup t rs =>
      refine .inr (.inl ⟨_, rfl, ⟨_, t⟩, k _ _ _ _ _ _ e1 r1.hp ?_ w2⟩)
      refine ⟨fun i φ' h' H' e r l hi => ?_, fun φ' h' H' e r l => ?_, fun i φ' h' H' v H2 e r l hi y => ?_⟩
      · obtain ⟨v, hv, _⟩ := rs.at (List.getElem?_eq_getElem hi)
        exact ⟨_, v, e.tup _ _ t, hv⟩
      · exact ⟨_, e.tup _ _ t, by rw [rs.len]; exact Nat.le_refl _⟩
      · obtain ⟨rfl, y⟩ := y
        obtain ⟨u, hu, ru⟩ := rs.at' (y _ (e.tup _ _ t))
        exact ⟨.refl, r, u, hu, ru.mono e⟩
  · rename_i n
    have eo : (lstAt h1 n).map (fun xs => (xs, fun h' => lstAt h' n = some xs)) = some (xs, live) := eo
    cases e2 : lstAt h1 n with
    | none => rw [e2] at eo; cases eo
    | some ys =>
      rw [e2] at eo; cases eo
      obtain ⟨a, vs, rfl, hn, hs, _⟩ := r1.hp.rol (lstAt_of e2) ru
      exact .inl ⟨a, rfl, ⟨vs, hs⟩, k _ _ _ _ _ _ e1 r1.hp (rit_list hn) w2⟩⟩
def rngU (lo hi : Int) : List U := (List.range (hi - lo).toNat).map fun i => .int (lo + (i : Nat))
@[reducible] def aRng1 (W : WE) : WI := fun ρ h Q E => W ρ h (fun u h1 => asI u fun j => -(2 ^ 62) ≤ j ∧ j < 2 ^ 62 ∧ Q (rngU 0 j) (fun _ => True) h1) E
theorem ai_rng1 (hg : Gl X "range") (hm : X.mg "range" = none) (he : AE X B E a We) (hs : starEach [a] X.env = [(false, eval a X.env)] := by rfl) : AI X B E tg (.Call (.Name "range" p) [a] [] pos) (aRng1 We) := ⟨(pi_range1 hg hm (pa_cons he.pe pa_nil hs) hs).weak fun σ H Rk q => by
  obtain ⟨φ, ρ, h, QA, r, w, k⟩ := q
  refine tA.mk r w fun v H1 φ1 u h1 e1 r1 ru w1 => ?_
  obtain ⟨j, rfl, h1, h2, w2⟩ := asI.of w1 ru
  refine ⟨j, rfl, h1, h2, k _ _ _ _ _ _ e1 r1.hp rit_rng ?_⟩
  have : (j - 0).toNat = j.toNat := by omega
  unfold rngU at w2; rw [this] at w2; exact w2⟩
end
end L2

namespace L2
open PySem PySem.Spec PyProof.Rows
section
variable {X : Cx} {B : Bs} {E : EX} {a b c e o i : Expr} {es : List Expr} {Wa Wb Wc We Wo Wi : WE} {Wr : WA} {T : WT} {pos pos' : Pos} {st : Stmt} {rest sa sb : List Stmt} {S S1 S2 : WS}
theorem Ext.of {K : PySem.W.Frag} {φ φ' : List Addr} {H H' : Hp} (h : Ext K φ H φ' H') : Ext K φ H φ' H' := h
/-! ### blocks -/
@[reducible] def sNext : WS := fun nx _ _ _ _ ρ h => nx ρ h
@[reducible] def sSeq (s t : WS) : WS := fun nx rt bk ct E ρ h => s (fun ρ' h' => t nx rt bk ct E ρ' h') rt bk ct E ρ h
theorem ass_nil : ASs X B E [] sNext := ⟨pss_nil.weak fun D σ H q => by
  obtain ⟨φ, ρ, h, DA, r, w, f⟩ := q
  exact f.nx _ _ _ _ _ .refl r w⟩
theorem ass_cons (h1 : AS X B E st S1) (h2 : ASs X B E rest S2) : ASs X B E (st :: rest) (sSeq S1 S2) := ⟨(pss_cons h1.ps h2.pss).weak fun D σ H q => by
  obtain ⟨φ, ρ, h, DA, r, w, f⟩ := q
  exact ⟨φ, ρ, h, ⟨fun ρ' h' => S2 DA.nx DA.rt DA.bk DA.ct E ρ' h', DA.rt, DA.bk, DA.ct⟩, r, w, fun φ' ρ' h' σ' H' e r' q => ⟨φ', ρ', h', DA, r', q, f.step e⟩, f.rt, f.bk, f.ct⟩⟩
theorem ass_one (h1 : AS X B E st S1) : ASs X B E [st] S1 := ⟨pss_one h1.ps⟩
@[reducible] def sDrop (W : WE) : WS := fun nx _ _ _ E ρ h => W ρ h (fun _ h1 => nx ρ h1) (E ρ)
theorem as_expr (he : AE X B E e We) (hs : swapsWith e none pos.line X.env = pure false := by rfl) : AS X B E (.Expr e pos) (sDrop We) := ⟨(ps_expr he.pe hs).weak fun D σ H q => by
  obtain ⟨φ, ρ, h, DA, r, w, f⟩ := q
  exact tA.mk r w fun v H1 φ1 u h1 e1 r1 ru w1 => f.nx _ _ _ _ _ e1 r1 w1⟩
@[reducible] def sRet (W : WE) : WS := fun _ rt _ _ E ρ h => W ρ h rt (E ρ)
theorem as_ret (he : AE X B E e We) : AS X B E (.Return (some e) pos) (sRet We) := ⟨(ps_ret he.pe).weak fun D σ H q => by
  obtain ⟨φ, ρ, h, DA, r, w, f⟩ := q
  exact tA.mk r w fun v H1 φ1 u h1 e1 r1 ru w1 => f.rt _ _ _ _ _ e1 r1.hp ru w1⟩
@[reducible] def sIf (T : WT) (s t : WS) : WS := fun nx rt bk ct E ρ h => T ρ h (fun b h1 => Br b (s nx rt bk ct E ρ h1) (t nx rt bk ct E ρ h1)) (E ρ)
theorem as_if (hc : AT X B E c T) (ha : ASs X B E sa S1) (hb : ASs X B E sb S2) : AS X B E (.If c sa sb pos) (sIf T S1 S2) := ⟨(ps_if hc.pt ha.pss hb.pss).weak fun D σ H q => by
  obtain ⟨φ, ρ, h, DA, r, w, f⟩ := q
  refine tAT.mk r w fun b H1 φ1 h1 e1 r1 w1 => ?_
  cases b with
  | true => exact ⟨φ1, ρ, h1, DA, r1, w1, f.step e1⟩
  | false => exact ⟨φ1, ρ, h1, DA, r1, w1, f.step e1⟩⟩
/-! ### stores -/
@[reducible] def sAsg (W : WE) (g : GU) : WS := fun nx _ _ _ E ρ h => W ρ h (fun u h1 => Opt (g h1 u ρ) fun ρ' => nx ρ' h1) (E ρ)
theorem sAsg_low {K : PySem.W.Frag} {vs : List Nat} {g : GU} {D : Ends} {σ : St} {H : Hp} (q : tAS K B E (sAsg We g) D σ H) : tAsg (tA K B E We) (tAG K B.G vs g) D σ H := by
  obtain ⟨φ, ρ, h, DA, r, w, f⟩ := q
  refine tA.mk r w fun v H1 φ1 u h1 e1 r1 ru w1 => ?_
  obtain ⟨ρ', eo, w2⟩ := Opt.of w1
  exact ⟨φ1, u, ρ, ρ', h1, r1.hp, ru, r1.st, eo, fun σ' ro _ => f.nx _ _ _ _ _ e1 ⟨r1.ext, ro, r1.hp⟩ w2⟩
theorem as_asg {tg : Expr} {vs : List Nat} {g : GU} (he : AE X B E e We) (hg : AG X B.G tg vs g) (hs : swapsWithSole [tg] e pos.line X.env = pure false := by rfl) (hw : swappedStores [tg] e X.env = pure none := by rfl)
    (h1 : (assignEach [tg] X.env).map (·.2) = [assign tg X.env] := by rfl) : AS X B E (.Assign [tg] e pos) (sAsg We g) := ⟨(ps_asg he.pe hg.pg hs hw h1).weak fun _ _ _ => sAsg_low⟩
@[reducible] def sSet (i : Nat) (W : WE) : WS := fun nx _ _ _ E ρ h => W ρ h (fun u h1 => nx (ρ.set i (some u)) h1) (E ρ)
theorem as_set {i : Nat} {x : Str} (hN : X.N.Nodup) (hi : X.N[i]? = some x) (hx : Loc X.env.scope x) (he : AE X B E e We) (hs : swapsWith e (some (.Name x pos')) pos.line X.env = pure false := by rfl) (hf : X.fn x = true ∨ X.env.scope.names.lookup x = some .local := by first | exact .inl rfl | exact .inr rfl | assumption) :
    AS X B E (.Assign [.Name x pos'] e pos) (sSet i We) := ⟨(ps_set hN hi hx he.pe hs hf).weak fun D σ H q => by
  obtain ⟨φ, ρ, h, DA, r, w, f⟩ := q
  exact tA.mk r w fun v H1 φ1 u h1 e1 r1 ru w1 => f.nx _ _ _ _ _ e1 ⟨r1.ext, r1.st.set ru i, r1.hp⟩ w1⟩
/-- a, b = e1, e2 -/
@[reducible] def sPar (i j : Nat) (W : WA) : WS := fun nx _ _ _ E ρ h => W ρ h (fun us h1 => match us with
  | [u, v] => nx ((ρ.set i (some u)).set j (some v)) h1
  | _ => False) (E ρ)
theorem as_par {i j : Nat} {x y : Str} {px py pt : Pos} {kt k2 pt2} (hc : X.calm = true) (hN : X.N.Nodup) (hi : X.N[i]? = some x) (hj : X.N[j]? = some y) (hij : i ≠ j)
    (hx : X.env.scope.names.lookup x = some .local) (hy : X.env.scope.names.lookup y = some .local) (ha : AA X B E [a, b] Wr)
    (hw : swappedStores [.Tuple [.Name x px, .Name y py] kt pt] (.Tuple [a, b] k2 pt2) X.env = pure (some [x, y]))
    (hs : swapsWithSole [.Tuple [.Name x px, .Name y py] kt pt] (.Tuple [a, b] k2 pt2) pos.line X.env = pure false := by rfl) :
    AS X B E (.Assign [.Tuple [.Name x px, .Name y py] kt pt] (.Tuple [a, b] k2 pt2) pos) (sPar i j Wr) := ⟨(ps_par hc hN hi hj hij hx hy ha.pa hw hs).weak fun D σ H q => by
  obtain ⟨φ, ρ, h, DA, r, w, f⟩ := q
  refine tAA.mk r w fun vs H1 φ1 us h1 e1 r1 rus w1 => ?_
  cases rus with
  | nil => exact w1.elim
  | cons r2 rs => cases rs with
    | nil => exact w1.elim
    | cons r3 rs => cases rs with
      | cons _ _ => exact w1.elim
      | nil => exact ⟨_, _, rfl, f.nx _ _ _ _ _ e1 ⟨r1.ext, (r1.st.set r2 i).set r3 j, r1.hp⟩ w1⟩⟩
/-- o[i] = v -/
def uSet (o i v : U) (h : AH) (k : AH → Prop) : Prop := match o, i with
  | .obj n, .int z => Opt (ownLst h n) fun xs => Opt (ixN xs.length z) fun j => k (h.set n (.lst (xs.set j v)))
  | _, _ => False
theorem uSet_low {K : PySem.W.Frag} {G : Str → Addr} {φ : List Addr} {o i u : U} {x y v : V} {h : AH} {H : Hp} {k : AH → Prop} {Q : Hp → Prop} (rh : RH K G φ h H) (ro : RU K H φ o x) (ri : RU K H φ i y) (ru : RU K H φ u v) (w : uSet o i u h k) (hk : ∀ H' h', Ext K φ H φ H' → RH K G φ h' H' → k h' → Q H') : rSetL x y v H Q := by
  cases o <;> cases i <;> first | exact w.elim | skip
  obtain ⟨xs, e1, w⟩ := Opt.of w
  obtain ⟨j, e2, w⟩ := Opt.of w
  obtain ⟨p, vs, rfl, hn, hp, rs⟩ := rh.lst (ownLst_of e1) ro
  cases ri
  have ex : Ext K φ H φ (upd H p (.lst (vs.set j v))) := .put hp (fun _ z => by cases z) (fun _ _ z => by cases z)
  refine ⟨p, vs, _, j, rfl, rfl, hp, by rw [← rs.len]; exact e2, hk _ _ ex (rh.put hn hp (fun _ z => by cases z) (fun _ _ z => by cases z) (ao := .lst (xs.set j u)) ⟨_, upd_same, (rs.set j ru).mono ex⟩ (by rw [ownLst_of e1]; exact fun z => z) (fun z => z)) w⟩
@[reducible] def sIx (We Wo Wi : WE) : WS := fun nx _ _ _ E ρ h => We ρ h (fun v h1 => Wo ρ h1 (fun o h2 => Wi ρ h2 (fun i h3 => uSet o i v h3 fun h4 => nx ρ h4) (E ρ)) (E ρ)) (E ρ)
theorem as_ix {tpos : Pos} (he : AE X B E e We) (ho : AE X B E o Wo) (hi : AE X B E i Wi) (hs : swapsWithSole [.Subscript o i tpos] e pos.line X.env = pure false := by rfl) (hw : swappedStores [.Subscript o i tpos] e X.env = pure none := by rfl)
    (h1 : (assignEach [.Subscript o i tpos] X.env).map (·.2) = [assign (.Subscript o i tpos) X.env] := by rfl)
    (ha : ∀ v, assign (.Subscript o i tpos) X.env v = (do
      let ov ← holding [v] (eval o X.env)
      let iv ← holding [v, ov] (eval i X.env)
      standAt tpos
      holding [v, ov, iv] (setItem ov iv v)
      release [v, ov, iv] []) := by intro _; rfl) : AS X B E (.Assign [.Subscript o i tpos] e pos) (sIx We Wo Wi) := ⟨(ps_asg he.pe (pg_sub ho.pe hi.pe set_list ha) hs hw h1).weak fun D σ H q => by
  obtain ⟨φ, ρ, h, DA, r, w, f⟩ := q
  refine tA.mk r w fun v H1 φ1 u h1 e1 r1 ru w1 => tA.mk r1 w1 fun x H2 φ2 o h2 e2 r2 ro w2 => tA.mk r2 w2 fun y H3 φ3 i h3 e3 r3 ri w3 => ?_
  exact uSet_low r3.hp (ro.mono e3) ri (ru.mono (e2.trans e3)) w3 fun H' h' e rh q => f.nx _ _ _ _ _ (((e1.trans e2).trans e3).trans e) (r3.step e rh) q⟩
/-- the instance at a number -/
def insAt (h : AH) (n : Nat) : Option (Str × List (Str × U)) := match h[n]? with
  | some (.ins c fs) => some (c, fs)
  | _ => none
theorem insAt_of {h : AH} {n : Nat} {p : Str × List (Str × U)} (e : insAt h n = some p) : h[n]? = some (.ins p.1 p.2) := by
  unfold insAt at e
  split at e
  · cases e; assumption
  · cases e
theorem RH.ins {K : PySem.W.Frag} {G : Str → Addr} {φ : List Addr} {h : AH} {H : Hp} (r : RH K G φ h H) {n : Nat} {p : Str × List (Str × U)} (e : insAt h n = some p) {v : V} (q : RU K H φ (.obj n) v) : ∃ a dx gs, v = .ref a ∧ φ[n]? = some a ∧ H a = some (.ins (G p.1) dx gs) ∧ RFs K H φ p.2 gs := by
  cases q with
  | obj hn =>
    obtain ⟨dx, gs, h1, h2⟩ := r.ob _ _ _ hn (insAt_of e)
    exact ⟨_, dx, gs, rfl, hn, h1, h2⟩
/-- what is known of own classes: fields that are no names of the class -/
structure FldOk (K : PySem.W.Frag) (G : Str → Addr) (cs : List Str) (f : Str) : Prop where
  cl : ∀ c ∈ cs, Cls K (G c)
  na : ∀ c ∈ cs, NoAttr K (G c) f
def uFld (cs : List Str) (f : Str) : O1 := fun u h Q => match u with
  | .obj n => Opt (insAt h n) fun p => p.1 ∈ cs ∧ Opt (p.2.lookup f) fun v => Q v h
  | _ => False
theorem ae_fld {cs : List Str} {f : Str} (F : FldOk X.K B.G cs f) (he : AE X B E e We) (hb : attributeBase e f X.env (eval e X.env) = eval e X.env := by rfl) : AE X B E (.Attribute e f pos) (aUn (uFld cs f) We) := ⟨(pe_fld he.pe hb).weak fun σ H Q q => by
  obtain ⟨φ, ρ, h, QA, r, w, k⟩ := q
  refine tA.mk r w fun v H1 φ1 u h1 e1 r1 ru w1 => ?_
  cases u <;> first | exact w1.elim | skip
  obtain ⟨p, e2, hc, w2⟩ := Opt.of w1
  obtain ⟨y, e3, w3⟩ := Opt.of w2
  obtain ⟨a, dx, gs, rfl, hn, ha, rf⟩ := r1.hp.ins e2 ru
  obtain ⟨z, hz, rz⟩ := rf.at e3
  exact ⟨a, _, dx, gs, z, rfl, ha, F.cl _ hc, F.na _ hc, hz, k _ _ ⟨φ1, y, h1, e1, r1.hp, rz, w3⟩⟩⟩
def putU (f : Str) (v : U) : List (Str × U) → List (Str × U)
  | [] => [(f, v)]
  | p :: r => if p.1 = f then (f, v) :: r else p :: putU f v r
theorem putU_rel {K : PySem.W.Frag} {H : Hp} {φ : List Addr} {f : Str} {u : U} {v : V} (ru : RU K H φ u v) : ∀ {us : List (Str × U)} {vs : List (Str × V)}, RFs K H φ us vs → RFs K H φ (putU f u us) (putF f v vs)
  | _, _, .nil => .cons ru .nil
  | _, _, @RFs.cons _ _ _ y _ _ _ _ h r => by
    unfold putU putF
    by_cases e : y = f
    · subst e; rw [if_pos rfl, if_pos rfl]; exact .cons ru r
    · rw [if_neg e, if_neg e]; exact .cons h (putU_rel ru r)
@[reducible] def sFldU (cs : List Str) (f : Str) (We Wo : WE) : WS := fun nx _ _ _ E ρ h => We ρ h (fun v h1 => Wo ρ h1 (fun o h2 => match o with
  | .obj n => Opt (insAt h2 n) fun p => p.1 ∈ cs ∧ p.2.length < 1000 ∧ nx ρ (h2.set n (.ins p.1 (putU f v p.2)))
  | _ => False) (E ρ)) (E ρ)
theorem as_fld {cs : List Str} {f : Str} {tpos : Pos} (F : FldOk X.K B.G cs f) (he : AE X B E e We) (ho : AE X B E o Wo) (hs : swapsWith e (some (.Attribute o f tpos)) pos.line X.env = pure false := by rfl) : AS X B E (.Assign [.Attribute o f tpos] e pos) (sFldU cs f We Wo) := ⟨(ps_fld ho.pe he.pe hs).weak fun D σ H q => by
  obtain ⟨φ, ρ, h, DA, r, w, fi⟩ := q
  refine tA.mk r w fun v H1 φ1 u h1 e1 r1 ru w1 => tA.mk r1 w1 fun x H2 φ2 o h2 e2 r2 ro w2 => ?_
  cases o <;> first | exact w2.elim | skip
  obtain ⟨p, e3, hc, hl, w3⟩ := Opt.of w2
  obtain ⟨a, dx, gs, rfl, hn, ha, rf⟩ := r2.hp.ins e3 ro
  have ex : Ext X.K φ2 H2 φ2 (upd H2 a (.ins (B.G p.1) dx (putF f v gs))) := .put ha (fun _ z => by cases z) (fun _ _ z => by cases z)
  refine ⟨a, _, dx, gs, rfl, ha, F.cl _ hc, F.na _ hc, by rw [← rf.len]; exact hl, fi.nx _ _ _ _ _ ((e1.trans e2).trans ex) (r2.step ex (r2.hp.put hn ha (fun _ z => by cases z) (fun _ _ z => by cases z) (ao := .ins p.1 (putU f u p.2)) ⟨dx, _, upd_same, (putU_rel (ru.mono e2) rf).mono ex⟩ (by rw [insAt_of e3]; exact fun z => z) (fun z => z))) w3⟩⟩
/-- x op= e, ints -/
structure AIp (X : Cx) (G : Str → Addr) (op : Operator) (w : O2) : Prop where
  ip : PIp X op (rA X.K G w)
@[reducible] def sAug (i : Nat) (w : O2) (We : WE) : WS := fun nx _ _ _ E ρ h => match ρ[i]? with
  | some (some u) => We ρ h (fun v h1 => w u v h1 fun z h2 => nx (ρ.set i (some z)) h2) (E ρ)
  | _ => False
def uAddI : O2 := uI fun i j => .int (i + j)
theorem aip_int {op : Operator} {g : Int → Int → Int} (ho : PIp X op (ipI g)) : AIp X B.G op (uI fun i j => .int (g i j)) := ⟨by
  rintro pins s σ H x y v u Q I rx ry ⟨φ, a, b, h, QA, rh, ra, rb, w, k⟩
  cases a <;> cases b <;> first | exact w.elim | skip
  cases ra; cases rb
  exact ho pins s σ H _ _ v u Q I rx ry ⟨_, _, rfl, rfl, k _ _ (.here rh .int w)⟩⟩
theorem aip_add : AIp X B.G .Add uAddI := aip_int ip_add
theorem aip_sub : AIp X B.G .Sub uSub := aip_int ip_sub
theorem as_aug {i : Nat} {x : Str} {op : Operator} {w : O2} (hN : X.N.Nodup) (hi : X.N[i]? = some x) (hx : Loc X.env.scope x) (he : AE X B E e We) (ho : AIp X B.G op w) (hf : X.fn x = true ∨ X.env.scope.names.lookup x = some .local := by first | exact .inl rfl | exact .inr rfl | assumption) :
    AS X B E (.AugAssign (.Name x pos') op e pos) (sAug i w We) := ⟨(ps_aug hN hi hx he.pe ho.ip hf).weak fun D σ H q => by
  obtain ⟨φ, ρ, h, DA, r, w, f⟩ := q
  unfold sAug at w
  split at w
  · rename_i u eu
    obtain ⟨v, ev, ru⟩ := r.st.at eu
    refine ⟨v, ev, tA.mk r w fun y H1 φ1 u1 h1 e1 r1 ru1 w1 => ?_⟩
    exact ⟨φ1, u, u1, h1, _, r1.hp, ru.mono e1, ru1, w1, fun z H' ⟨φ', u', h', e, rh, ru', q⟩ => f.nx _ _ _ _ _ (e1.trans e) ⟨(r1.step e rh).ext, (r1.step e rh).st.set ru' i, rh⟩ q⟩
  · exact w.elim⟩
/-! ### loops -/
/-- what a loop over xs asks -/
def ForB (xs : List U) (live : AH → Prop) (g : GU) (Sb : WS) (nx : SK) (rt : UQ) (E : EX) (ρ : SU) (h1 : AH) : Prop := ∃ P : Nat → SU → AH → Prop, P 0 ρ h1 ∧
  (∀ i x ρ' h', xs[i]? = some x → P i ρ' h' → live h' ∧ Opt (g h' x ρ') fun ρ2 => Sb (P (i + 1)) rt nx (P (i + 1)) E ρ2 h') ∧ ∀ ρ' h', P xs.length ρ' h' → live h' ∧ nx ρ' h'
@[reducible] def sFor (It : WI) (g : GU) (Sb : WS) : WS := fun nx rt bk ct E ρ h => It ρ h (fun xs live h1 => ForB xs live g Sb nx rt E ρ h1) (E ρ)
theorem as_for {tg iter : Expr} {It : WI} {vs : List Nat} {g : GU} {Sb : WS} (hp : PassesOwn (model X.prog X.w) X.A X.env X.xe) (hc : X.calm = true) (hi : AI X B E tg iter It) (hg : AG X B.G tg vs g) (hb : ASs X B E rest Sb)
    (hs : ∀ x, foldedSetIterable iter X.env x = pure x := by intro _; rfl) : AS X B E (.For tg iter rest [] pos) (sFor It g Sb) := ⟨(ps_for hp hc hi.pi hg.pg hb.pss hs).weak fun D σ H q => by
  obtain ⟨φ, ρ, h, DA, r, w, f⟩ := q
  refine ⟨φ, ρ, h, _, r, w, fun J H1 φ1 h1 xs live e1 rh1 J1 ⟨P, p0, pt, pd⟩ => ?_⟩
  have r1 := r.step e1 rh1
  refine ⟨fun i m σ' H' => i ≤ xs.length ∧ m = xs.length - i ∧ ∃ φ' ρ' h', Ext X.K φ1 H1 φ' H' ∧ R X.K B φ' ρ' h' σ' H' ∧ P i ρ' h', ⟨_, Nat.zero_le _, rfl, φ1, ρ, h1, .refl, r1, p0⟩, ?_⟩
  rintro i m σ' H' ⟨hi, rfl, φ', ρ', h', e', r', p⟩
  by_cases hl : i < xs.length
  · obtain ⟨lv, _⟩ := pt i _ ρ' h' (List.getElem?_eq_getElem hl) p
    refine .inr ⟨J1.go i φ' h' H' e' r'.hp lv hl, fun σ2 H2 => i + 1 ≤ xs.length ∧ ∃ φ2 ρ2 h2, Ext X.K φ1 H1 φ2 H2 ∧ R X.K B φ2 ρ2 h2 σ2 H2 ∧ P (i + 1) ρ2 h2, fun σ2 H2 ⟨h3, z⟩ => ⟨xs.length - (i + 1), by omega, h3, rfl, z⟩, fun v H2 y => ?_⟩
    obtain ⟨e2, rh2, u, hu, ru⟩ := J1.yld i φ' h' H' v H2 e' r'.hp lv hl y
    obtain ⟨lv, w1⟩ := pt i u ρ' h' hu p
    obtain ⟨ρ2, eg, w2⟩ := Opt.of w1
    have r2 := r'.step e2 rh2
    refine ⟨φ', u, ρ', ρ2, h', rh2, ru, r2.st, eg, fun σ3 ro _ => ⟨φ', ρ2, h', ⟨P (i + 1), DA.rt, DA.nx, P (i + 1)⟩, ⟨r2.ext, ro, rh2⟩, w2, ?_⟩⟩
    have ee := e'.trans e2
    exact ⟨fun φ3 ρ3 h3 σ4 H3 e3 r3 q => ⟨hl, φ3, ρ3, h3, ee.trans e3, r3, q⟩, (f.step (e1.trans ee)).rt, fun φ3 ρ3 h3 σ4 H3 e3 r3 q => f.nx _ _ _ _ _ ((e1.trans ee).trans e3) r3 q, fun φ3 ρ3 h3 σ4 H3 e3 r3 q => ⟨hl, φ3, ρ3, h3, ee.trans e3, r3, q⟩⟩
  · have e : i = xs.length := by omega
    subst e
    obtain ⟨lv, q⟩ := pd ρ' h' p
    exact .inl ⟨J1.stop φ' h' H' e' r'.hp lv, f.nx _ _ _ _ _ (e1.trans e') r' q⟩⟩
def WhB (T : WT) (Sb : WS) (nx : SK) (rt : UQ) (E : EX) (ρ : SU) (h : AH) : Prop := ∃ P : Nat → SU → AH → Prop, (∃ m, P m ρ h) ∧ ∀ m ρ' h', P m ρ' h' → T ρ' h' (fun b h1 => Br b
  (Sb (fun ρ2 h2 => ∃ m', m' < m ∧ P m' ρ2 h2) rt nx (fun ρ2 h2 => ∃ m', m' < m ∧ P m' ρ2 h2) E ρ' h1) (nx ρ' h1)) (E ρ')
@[reducible] def sWhile (T : WT) (Sb : WS) : WS := fun nx rt bk ct E ρ h => WhB T Sb nx rt E ρ h
theorem as_while {Sb : WS} (hp : PassesOwn (model X.prog X.w) X.A X.env X.xe) (hc : AT X B E c T) (hb : ASs X B E rest Sb) : AS X B E (.While c rest [] pos) (sWhile T Sb) := ⟨(ps_while hp hc.pt hb.pss).weak fun D σ H q => by
  obtain ⟨φ, ρ, h, DA, r, ⟨P, ⟨m0, p0⟩, pt⟩, f⟩ := q
  refine ⟨fun m σ' H' => ∃ φ' ρ' h', Ext X.K φ H φ' H' ∧ R X.K B φ' ρ' h' σ' H' ∧ P m ρ' h', ⟨m0, φ, ρ, h, .refl, r, p0⟩, ?_⟩
  rintro m σ' H' ⟨φ', ρ', h', e', r', p⟩
  refine tAT.mk r' (pt m ρ' h' p) fun b H1 φ1 h1 e1 r1 w1 => ?_
  have ee := e'.trans e1
  cases b with
  | false => exact f.nx _ _ _ _ _ ee r1 w1
  | true =>
    refine ⟨fun σ2 H2 => ∃ m', m' < m ∧ ∃ φ' ρ' h', Ext X.K φ H φ' H2 ∧ R X.K B φ' ρ' h' σ2 H2 ∧ P m' ρ' h', fun _ _ z => z, φ1, ρ', h1, ⟨fun ρ2 h2 => ∃ m', m' < m ∧ P m' ρ2 h2, DA.rt, DA.nx, fun ρ2 h2 => ∃ m', m' < m ∧ P m' ρ2 h2⟩, r1, w1, ?_⟩
    exact ⟨fun φ3 ρ3 h3 σ4 H3 e3 r3 ⟨m', hm, q⟩ => ⟨m', hm, φ3, ρ3, h3, ee.trans e3, r3, q⟩, (f.step ee).rt, fun φ3 ρ3 h3 σ4 H3 e3 r3 q => f.nx _ _ _ _ _ (ee.trans e3) r3 q, fun φ3 ρ3 h3 σ4 H3 e3 r3 ⟨m', hm, q⟩ => ⟨m', hm, φ3, ρ3, h3, ee.trans e3, r3, q⟩⟩⟩
/-! ### comprehensions -/
def wipeU (ρ : SU) : List Nat → SU
  | [] => ρ
  | v :: vs => (wipeU ρ vs).set v none
theorem wipe_rel {K : PySem.W.Frag} {H : Hp} {φ : List Addr} {ρ : SU} {σ : St} (r : RO K H φ ρ σ) : ∀ vs, RO K H φ (wipeU ρ vs) (wipe σ vs)
  | [] => r
  | v :: vs => (wipe_rel r vs).unset v none
abbrev X0 : EX := fun _ _ _ => False
@[reducible] def tYesU : WT := fun _ h Q _ => Q true h
def LcB (xs : List U) (live : AH → Prop) (g : GU) (Tt : WT) (W : WE) (ρw : SU) (h1 : AH) (Q : UQ) : Prop := ∃ P : Nat → List U → AH → Prop, P 0 [] (h1 ++ [.lst []]) ∧
  (∀ i x acc h', xs[i]? = some x → P i acc h' → live h' ∧ h'[h1.length]? = some (.lst acc) ∧ acc.length < sizeLine ∧ Opt (g h' x ρw) fun ρ2 => Tt ρ2 h' (fun b h3 => Br b
    (W ρ2 h3 (fun y h4 => h4[h1.length]? = some (.lst acc) ∧ P (i + 1) (acc ++ [y]) (h4.set h1.length (.lst (acc ++ [y])))) (X0 ρ2)) (P (i + 1) acc h3)) (X0 ρ2)) ∧
  ∀ acc h', P xs.length acc h' → live h' ∧ Q (.obj h1.length) h'
@[reducible] def aLc (It : WI) (g : GU) (Tt : WT) (W : WE) (vs : List Nat) : WE := fun ρ h Q E => It ρ h (fun xs live h1 => LcB xs live g Tt W (wipeU ρ vs) h1 Q) E
structure ATs (X : Cx) (B : Bs) (E : EX) (ifs : List Expr) (W : WT) : Prop where
  pts : PTs X ifs (tAT X.K B E W)
theorem ats_nil : ATs X B E [] tYesU := ⟨fun pins s σ H Q I q => by
  obtain ⟨φ, ρ, h, QA, r, w, k⟩ := q
  exact pts_nil pins s σ H Q I (k _ _ _ _ .refl r.hp w)⟩
theorem ats_one (h : AT X B E c T) : ATs X B E [c] T := ⟨pts_one h.pt⟩
theorem aLc_low {K : PySem.W.Frag} {It : WI} {vs ws : List Nat} {g : GU} {Tt : WT} {σ : St} {H : Hp} {Q : VK} (hv : ∀ i ∈ ws, i ∈ vs) (q : tA K B E (aLc It g Tt We vs) σ H Q) : tLc (tAI K B E It) (tAG K B.G ws g) (tAT K B X0 Tt) (tA K B X0 We) vs σ H Q := by
  obtain ⟨φ, ρ, h, QA, r, w, k⟩ := q
  refine ⟨φ, ρ, h, _, r, w, fun J H1 φ1 h1 xs live e1 rh1 J1 ⟨P, p0, pt, pd⟩ D hD => ?_⟩
  have r1 := r.step e1 rh1
  have eD : Ext K φ1 H1 (φ1 ++ [D]) (upd H1 D (.lst [])) := .push hD
  have rD : RH K B.G (φ1 ++ [D]) (h1 ++ [.lst []]) (upd H1 D (.lst [])) := rh1.push (ao := .lst []) hD ⟨[], upd_same, .nil⟩
  have nD : (φ1 ++ [D])[h1.length]? = some D := by rw [← rh1.len]; simp
  refine ⟨fun i m H' => i ≤ xs.length ∧ m = xs.length - i ∧ ∃ φ' h' acc, Ext K (φ1 ++ [D]) (upd H1 D (.lst [])) φ' H' ∧ RH K B.G φ' h' H' ∧ P i acc h', ⟨_, Nat.zero_le _, rfl, _, _, [], .refl, rD, p0⟩, ?_⟩
  rintro i m H' ⟨hi, rfl, φ', h', acc, e', r', p⟩
  by_cases hl : i < xs.length
  · obtain ⟨lv, _⟩ := pt i _ acc h' (List.getElem?_eq_getElem hl) p
    refine .inr ⟨J1.go i φ' h' H' (eD.trans e') r' lv hl, fun H2 => i + 1 ≤ xs.length ∧ ∃ φ2 h2 acc2, Ext K (φ1 ++ [D]) (upd H1 D (.lst [])) φ2 H2 ∧ RH K B.G φ2 h2 H2 ∧ P (i + 1) acc2 h2, fun H2 ⟨h3, z⟩ => ⟨xs.length - (i + 1), by omega, h3, rfl, z⟩, fun v H2 y => ?_⟩
    obtain ⟨e2, rh2, u, hu, ru⟩ := J1.yld i φ' h' H' v H2 (eD.trans e') r' lv hl y
    obtain ⟨lv, hacc, hlen, w1⟩ := pt i u acc h' hu p
    obtain ⟨ρ2, eg, w2⟩ := Opt.of w1
    have ee := (eD.trans e').trans e2
    refine ⟨φ', u, wipeU ρ vs, ρ2, h', rh2, ru, wipe_rel (r1.st.mono ee) vs, eg, fun σ3 ro wq => ⟨?_, ?_⟩⟩
    · rw [wq vs hv, wipe_wipe]
    · have r2 : R K B φ' ρ2 h' σ3 H2 := ⟨r1.ext.trans ee, ro, rh2⟩
      refine tAT.mk r2 w2 fun b H3 φ3 h3 e3 r3 w3 => ?_
      cases b with
      | false => exact ⟨hl, φ3, h3, acc, (e'.trans e2).trans e3, r3.hp, w3⟩
      | true =>
        refine tA.mk r3 w3 fun y H4 φ4 uy h4 e4 r4 ruy ⟨ha4, w4⟩ => ?_
        have n4 : φ4[h1.length]? = some D := e4.num _ _ (e3.num _ _ (e'.num _ _ nD))
        obtain ⟨vs4, hD4, rs4⟩ := r4.hp.ob _ _ _ n4 ha4
        have ex : Ext K φ4 H4 φ4 (upd H4 D (.lst (vs4 ++ [y]))) := .put hD4 (fun _ z => by cases z) (fun _ _ z => by cases z)
        exact ⟨vs4, hD4, by rw [← rs4.len]; exact hlen, hl, φ4, _, _, (((e'.trans e2).trans e3).trans e4).trans ex, r4.hp.put n4 hD4 (fun _ z => by cases z) (fun _ _ z => by cases z) (ao := .lst (acc ++ [uy])) ⟨_, upd_same, (rs4.app (.cons ruy .nil)).mono ex⟩ (by rw [ha4]; exact fun z => z) (fun z => z), w4⟩
  · have e : i = xs.length := by omega
    subst e
    obtain ⟨lv, q⟩ := pd acc h' p
    exact .inl ⟨J1.stop φ' h' H' (eD.trans e') r' lv, k _ _ ⟨φ', .obj h1.length, h', (e1.trans eD).trans e', r', .obj (e'.num _ _ nD), q⟩⟩
theorem ae_lc {elt tg iter : Expr} {ifs : List Expr} {scope : Scope} {own : List (Str × Nat)} {It : WI} {ws : List Nat} {g : GU} {Tt : WT} (hc : X.calm = true) (hN : X.N.Nodup) (hi : AI X B E tg iter It) (ok : BlkOk X.N X.env.scope scope own) (hv : ∀ i ∈ ws, i ∈ own.map (·.2))
    (hg : ∀ (s : Shared) (H : Hp) (C : Addr) (cl : List (Str × Addr)) (fp : List Addr), AG (X.blk s H scope (compEnvC scope cl C X.env) fp) B.G tg ws g) (ht : ∀ (s : Shared) (H : Hp) (C : Addr) (cl : List (Str × Addr)) (fp : List Addr), ATs (X.blk s H scope (compEnvC scope cl C X.env) fp) B X0 ifs Tt)
    (he : ∀ (s : Shared) (H : Hp) (C : Addr) (cl : List (Str × Addr)) (fp : List Addr), AE (X.blk s H scope (compEnvC scope cl C X.env) fp) B X0 elt We) (hs : ∀ x, foldedSetIterable iter X.env x = pure x := by intro _; rfl) :
    AE X B E (.ListComp elt [⟨tg, iter, ifs, 0⟩] scope pos) (aLc It g Tt We (own.map (·.2))) := ⟨(pe_lc hc hN hi.pi ok (fun s H C cl fp => (hg s H C cl fp).pg) (fun s H C cl fp => (ht s H C cl fp).pts) (fun s H C cl fp => (he s H C cl fp).pe) hs).weak fun σ H Q q => aLc_low hv q⟩
theorem as_setLc {i : Nat} {y : Str} {py spos : Pos} {elt tg iter : Expr} {ifs : List Expr} {scope : Scope} {own : List (Str × Nat)} {It : WI} {ws : List Nat} {g : GU} {Tt : WT} (hc : X.calm = true) (hN : X.N.Nodup) (hy : X.N[i]? = some y) (hyl : X.env.scope.names.lookup y = some .local)
    (hsw : swapsWith (.ListComp elt [⟨tg, iter, ifs, 0⟩] scope pos) (some (.Name y py)) spos.line X.env = pure true) (hi : AI X B E tg iter It) (ok : BlkOk X.N X.env.scope scope own) (hv : ∀ i ∈ ws, i ∈ own.map (·.2))
    (hg : ∀ (s : Shared) (H : Hp) (C : Addr) (cl : List (Str × Addr)) (fp : List Addr), AG (X.blk s H scope (compEnvC scope cl C X.env) fp) B.G tg ws g) (ht : ∀ (s : Shared) (H : Hp) (C : Addr) (cl : List (Str × Addr)) (fp : List Addr), ATs (X.blk s H scope (compEnvC scope cl C X.env) fp) B X0 ifs Tt)
    (he : ∀ (s : Shared) (H : Hp) (C : Addr) (cl : List (Str × Addr)) (fp : List Addr), AE (X.blk s H scope (compEnvC scope cl C X.env) fp) B X0 elt We) (hs : ∀ x, foldedSetIterable iter X.env x = pure x := by intro _; rfl) :
    AS X B E (.Assign [.Name y py] (.ListComp elt [⟨tg, iter, ifs, 0⟩] scope pos) spos) (sSet i (aLc It g Tt We (own.map (·.2)))) := ⟨(ps_setLc hc hN hy hyl hsw hi.pi ok (fun s H C cl fp => (hg s H C cl fp).pg) (fun s H C cl fp => (ht s H C cl fp).pts) (fun s H C cl fp => (he s H C cl fp).pe) hs).weak fun D σ H q => by
  obtain ⟨φ, ρ, h, DA, r, w, f⟩ := q
  refine aLc_low hv ⟨φ, ρ, h, _, r, w, fun v H' ⟨φ', u, h', e, rh, ru, q⟩ => ?_⟩
  exact f.nx _ _ _ _ _ e ⟨(r.step e rh).ext, (r.step e rh).st.set ru i, rh⟩ q⟩
end
end L2

namespace L2
open PySem PySem.Spec PyProof.Rows
/-! ### defs -/
abbrev WF := List U → AH → UQ → XQ → Prop
def xA (K : PySem.W.Frag) (B : Bs) (E : EX) : St → XK := fun σ cls dx H => ∃ φ ρ x h, R K B φ ρ h σ H ∧ (cls = .ref (B.G x.c) ∧ XF K H φ dx x.fs) ∧ E ρ x h
def AX (K : PySem.W.Frag) (G : Str → Addr) (φ : List Addr) (H : Hp) (E : XQ) : XK := fun cls dx H' => ∃ φ' x h', Ext K φ H φ' H' ∧ RH K G φ' h' H' ∧ (cls = .ref (G x.c) ∧ XF K H' φ' dx x.fs) ∧ E x h'
def spA (K : PySem.W.Frag) (G : Str → Addr) (W : WF) : Sp := fun vs H Q E => ∃ φ us h QA EA, RUs K H φ us vs ∧ RH K G φ h H ∧ W us h QA EA ∧ (∀ v H', AQ K G φ H QA v H' → Q v H') ∧ ∀ cls dx H', AX K G φ H EA cls dx H' → E cls dx H'
@[reducible] def wFn (N n : Nat) (S : WS) : WF := fun us h Q E => us.length = n ∧ S (fun _ h' => Q .non h') Q (fun _ _ => False) (fun _ _ => False) (fun _ => E) (us.map some ++ List.replicate (N - us.length) none) h
section
variable {P : Program} {w : World} {K : PySem.W.Frag} {mg : Str → Option Value} {base : Heap} {G : Str → Addr}
theorem FunD.okA {x qual : Str} {st : Stmt} {dV : Value} {f : Addr} {fd : FuncData} {N ps : List Str} {k : Nat} {S : WS} (F : FunD K x qual st dV f fd) (sc : FnScope N ps (defScope st))
    (hb : ∀ (cdv : Value) (A : Around) (outer : List Env) (s : Shared) (H : Hp) (E₀ : XK) (φ : List Addr) (E : EX), Room k (A.deeper (envOfC qual (defScope st) s.heap.objs.size f cdv)) → (∀ σ cls dx H', xA K ⟨G, φ, H⟩ E σ cls dx H' → E₀ cls dx H') →
      Passes (CXR P w) (cxOf (CXR P w) P w K mg base N qual (defScope st) f cdv A outer s H E₀) (xA K ⟨G, φ, H⟩ E) →
      ASs (cxOf (CXR P w) P w K mg base N qual (defScope st) f cdv A outer s H E₀) ⟨G, φ, H⟩ E (defBody st) S) : FnOk P w K mg base (CXR P w) (k + 1) f fd ps (spA K G (wFn N.length ps.length S)) := by
  refine F.okR sc ?_ ?_
  · rintro vs H Q E ⟨φ, us, h, QA, EA, ru, rh, ⟨hl, _⟩, _⟩
    rw [← ru.len]; exact hl
  · rintro cdv A outer s H vs Q E₀ hr ⟨φ, us, h, QA, EA, ru, rh, ⟨hl, w1⟩, hq, hx⟩
    have hE : ∀ σ cls dx H', xA K ⟨G, φ, H⟩ (fun _ => EA) σ cls dx H' → E₀ cls dx H' := fun σ cls dx H' ⟨φ', ρ, x, h', r, ec, ea⟩ => hx cls dx H' ⟨φ', x, h', r.ext, r.hp, ec, ea⟩
    refine ⟨_, (hb cdv A outer s H E₀ φ (fun _ => EA) hr hE (passR hE)).pss, φ, _, h, ⟨fun _ h' => QA .non h', QA, fun _ _ => False, fun _ _ => False⟩, ⟨.refl, ?_, rh⟩, w1, ?_⟩
    · unfold start; rw [← ru.len]; exact RO.start _ ru
    · exact ⟨fun φ' ρ' h' σ' H' e r q => hq _ _ ⟨φ', .non, h', e, r.hp, .non, q⟩, fun v H' φ' u h' e rh ru q => hq _ _ ⟨φ', u, h', e, rh, ru, q⟩, fun φ' ρ' h' σ' H' e r q => q, fun φ' ρ' h' σ' H' e r q => q⟩
theorem passX0 {X : Cx} {B : Bs} : Passes (CXR X.prog X.w) X (xA X.K B X0) := fun _ _ _ _ _ _ _ h => by
  obtain ⟨_, _, _, _, _, _, _, _, _, _, ⟨_, _, _, _, _, _, z⟩⟩ := h
  exact z.elim
end
section
variable {X : Cx} {B : Bs} {E : EX} {a b c e o i : Expr} {es : List Expr} {Wa Wb Wc We Wo Wi : WE} {Wr Wk : WA} {T : WT} {p pos pos' apos : Pos} {W : WF} {k n : Nat} {ps ks : List Str} {x m : Str}
@[reducible] def aCall (W : WF) (ds : List U) (R : WA) : WE := fun ρ h Q E => R ρ h (fun us h1 => W (us ++ ds) h1 Q E) E
theorem aCall_low {σ : St} {H H1 : Hp} {Q : VK} {φ φ1 : List Addr} {ρ : SU} {h1 : AH} {us : List U} {vs : List V} {QA : UQ} (k : ∀ v H', AQ X.K B.G φ H QA v H' → Q v H') (e1 : Ext X.K φ H φ1 H1) (r1 : R X.K B φ1 ρ h1 σ H1) (rus : RUs X.K H1 φ1 us vs) (w1 : W us h1 QA (E ρ)) : spA X.K B.G W vs H1 Q (xA X.K B E σ) :=
  ⟨φ1, us, h1, QA, E ρ, rus, r1.hp, w1, fun v H' ⟨φ', u, h', e, q⟩ => k v H' ⟨φ', u, h', e1.trans e, q⟩, fun cls dx H' ⟨φ', x, h', e, rh, ec, ea⟩ => ⟨φ', ρ, x, h', r1.step e rh, ec, ea⟩⟩
theorem ae_call (c : Cal X.prog X.w X.K X.mg X.base k x ps (spA X.K B.G W)) (hr : Room n X.A) (hp : Passes (CXR X.prog X.w) X (xA X.K B E)) (ha : AA X B E (e :: es) Wr) (hk : k ≤ n := by decide) (hg : Gl X x := by rfl)
    (hdb : (x == ("__debug__" : Str)) = false := by decide) (he : starEach (e :: es) X.env = (false, eval e X.env) :: starEach es X.env := by rfl) (hpl : (backTo pos (starEach es X.env)).any (·.1) = false := by rfl) :
    AE X B E (.Call (.Name x p) (e :: es) [] pos) (aCall W [] Wr) := ⟨(pe_cal c hr ha.pa hp hk hg hdb he hpl).weak fun σ H Q q => by
  obtain ⟨φ, ρ, h, QA, r, w, k⟩ := q
  refine tAA.mk r w fun vs H1 φ1 us h1 e1 r1 rus w1 => ?_
  rw [List.append_nil] at w1 ⊢
  exact aCall_low k e1 r1 rus w1⟩
/-- defaults that are constants -/
def KU (K : PySem.W.Frag) (us : List U) (vs : List V) : Prop := ∀ H φ, RUs K H φ us vs
/-- f(k = v, ..): g puts them in order -/
structure AK (X : Cx) (B : Bs) (E : EX) (kws : List Keyword) (W : WA) : Prop where
  pk : PK X kws (tAA X.K B E W)
theorem PK.weak {kws : List Keyword} {t t' : TA} (h : PK X kws t) (w : ∀ σ H Q, t' σ H Q → t σ H Q) : PK X kws t' := fun pos pins s σ H Q I q => h pos pins s σ H Q I (w _ _ _ q)
theorem ak_nil : AK X B E [] aNil := ⟨PK.weak pk_nil fun σ H Q q => by
  obtain ⟨φ, ρ, h, QA, r, w, k⟩ := q
  exact k _ _ _ _ _ .refl r.hp .nil w⟩
theorem ak_cons {nm : Option Str} {kpos : Pos} {kws : List Keyword} (ha : AE X B E e We) (hr : AK X B E kws Wk) : AK X B E (⟨nm, e, kpos⟩ :: kws) (aCons We Wk) := ⟨PK.weak (pk_cons ha.pe hr.pk) fun σ H Q q => by
  obtain ⟨φ, ρ, h, QA, r, w, k⟩ := q
  refine tA.mk r w fun v H1 φ1 u h1 e1 r1 ru w1 => tAA.mk r1 w1 fun vs H2 φ2 us h2 e2 r2 rus w2 => ?_
  exact k _ _ _ _ _ (e1.trans e2) r2.hp (.cons (ru.mono e2) rus) w2⟩
/-! ### making an instance -/
@[reducible] def aMake (c : Str) (W : WF) (R : WA) : WE := fun ρ h Q E => R ρ h (fun us h1 => W (.obj h1.length :: us) (h1 ++ [.ins c []]) (fun u h2 => asN u (Q (.obj h1.length) h2)) E) E
theorem aMake_low {cn : Str} {σ : St} {H H1 : Hp} {Q : VK} {φ φ1 : List Addr} {ρ : SU} {h1 : AH} {us : List U} {vs : List V} {QA : UQ} {x dx : Addr} (k : ∀ v H', AQ X.K B.G φ H QA v H' → Q v H') (e1 : Ext X.K φ H φ1 H1) (r1 : R X.K B φ1 ρ h1 σ H1) (rus : RUs X.K H1 φ1 us vs)
    (w1 : W (.obj h1.length :: us) (h1 ++ [.ins cn []]) (fun u h2 => asN u (QA (.obj h1.length) h2)) (E ρ)) (hx : H1 x = none) (hdx : H1 dx = none) (ne : dx ≠ x) :
    spA X.K B.G W (.ref x :: vs) (upd (upd H1 dx (.own x)) x (.ins (B.G cn) dx [])) (fun v H2 => v = .non ∧ Q (.ref x) H2) (xA X.K B E σ) := by
  have hx2 : (upd H1 dx (.own x)) x = none := by rw [upd_ne (Ne.symm ne)]; exact hx
  have ea : Ext X.K φ1 H1 φ1 (upd H1 dx (.own x)) := .upd hdx
  have eb : Ext X.K φ1 (upd H1 dx (.own x)) (φ1 ++ [x]) (upd (upd H1 dx (.own x)) x (.ins (B.G cn) dx [])) := .push hx2
  have rb : RH X.K B.G (φ1 ++ [x]) (h1 ++ [.ins cn []]) (upd (upd H1 dx (.own x)) x (.ins (B.G cn) dx [])) := (r1.hp.upd hdx).push (ao := .ins cn []) hx2 ⟨dx, [], upd_same, .nil⟩
  have nx : (φ1 ++ [x])[h1.length]? = some x := by rw [← r1.hp.len]; simp
  refine ⟨φ1 ++ [x], _, _, _, E ρ, .cons (.obj nx) (rus.mono (ea.trans eb)), rb, w1, fun v H' ⟨φ', u, h', e, rh, ru, q⟩ => ?_, fun cls d H' ⟨φ', x, h', e, rh, ec, z⟩ => ⟨φ', ρ, x, h', r1.step ((ea.trans eb).trans e) rh, ec, z⟩⟩
  cases u <;> first | exact q.elim | skip
  cases ru
  exact ⟨rfl, k _ _ ⟨φ', .obj h1.length, h', ((e1.trans ea).trans eb).trans e, rh, .obj (e.num _ _ nx), q⟩⟩
theorem ae_make {cn : Str} (c : Mak X.prog X.w X.K X.mg X.base k x (B.G cn) ps (spA X.K B.G W)) (hr : Room n X.A) (hp : Passes (CXR X.prog X.w) X (xA X.K B E)) (ha : AA X B E (e :: es) Wr) (hk : k + 1 ≤ n := by decide) (hg : Gl X x := by rfl)
    (hdb : (x == ("__debug__" : Str)) = false := by decide) (he : starEach (e :: es) X.env = (false, eval e X.env) :: starEach es X.env := by rfl) (hpl : (backTo pos (starEach es X.env)).any (·.1) = false := by rfl) :
    AE X B E (.Call (.Name x p) (e :: es) [] pos) (aMake cn W Wr) := ⟨(pe_mak c hr ha.pa hp hk hg hdb he hpl).weak fun σ H Q q => by
  obtain ⟨φ, ρ, h, QA, r, w, k⟩ := q
  refine tAA.mk r w fun vs H1 φ1 us h1 e1 r1 rus w1 y dy hy hdy ne => ?_
  rw [List.append_nil]
  exact aMake_low k e1 r1 rus w1 hy hdy ne⟩
/-! ### methods -/
structure MFam (X : Cx) (G : Str → Addr) (k : Nat) (m : Str) (ds : List U) (F : List (Str × WF)) : Prop where
  me : ∀ c W, F.lookup c = some W → ∃ ps dvs, MetD X.prog X.w X.K X.mg X.base k (G c) m ps dvs (spA X.K G W) ∧ KU X.K ds dvs
@[reducible] def aMeth (m : Str) (ds : List U) (F : List (Str × WF)) (Wo : WE) (R : WA) : WE := fun ρ h Q E => Wo ρ h (fun o h1 => match o with
  | .obj n => Opt (insAt h1 n) fun p => p.2.lookup m = none ∧ Opt (F.lookup p.1) fun W => R ρ h1 (fun us h2 => W (.obj n :: (us ++ ds)) h2 Q E) E
  | _ => False) E
theorem ae_meth {ds : List U} {F : List (Str × WF)} {pl : Sem Bool} (fm : MFam X B.G k m ds F) (hr : Room n X.A) (hp : Passes (CXR X.prog X.w) X (xA X.K B E)) (ho : AE X B E o Wo) (ha : AA X B E (e :: es) Wr) (hk : k ≤ n := by decide)
    (hst : starEach (e :: es) X.env = (false, eval e X.env) :: starEach es X.env := by rfl) (hpl : (backTo pos (starEach es X.env)).any (·.1) = false := by rfl)
    (ht : eval (.Call (.Attribute o m apos) (e :: es) [] pos) X.env = (do
      let ov ← eval o X.env
      standAt apos.atName
      let (f, first) ← holding [ov] (getMethod ov m pl)
      callWith pos f first (backTo pos (starEach (e :: es) X.env)) (backToKw pos (keywordEach [] X.env))) := by rfl) : AE X B E (.Call (.Attribute o m apos) (e :: es) [] pos) (aMeth m ds F Wo Wr) := ⟨by
  rintro pins s σ H Q I ⟨φ, ρ, h, QA, r, w, kk⟩
  refine PySem.W.methodCall_KW (pl := pl) (thn (ho.pe pins s σ H _ I (tA.mk (Q := fun v H1 => ∃ a n φ1 h1 p, v = .ref a ∧ φ1[n]? = some a ∧ Ext X.K φ H φ1 H1 ∧ R X.K B φ1 ρ h1 σ H1 ∧ insAt h1 n = some p ∧ p.2.lookup m = none ∧ Opt (F.lookup p.1) fun W => Wr ρ h1 (fun us h2 => W (.obj n :: (us ++ ds)) h2 QA (E ρ)) (E ρ)) r w fun v H1 φ1 u h1 e1 r1 ru w1 => ?_)) fun u s1 ⟨x, H1, I1, rx, a, nn, φ1, h1, p, ex, hn, e1, r1, ep, hl, w2⟩ => ?_) ht
  · cases u <;> first | exact w1.elim | skip
    obtain ⟨p, ep, hl, w2⟩ := Opt.of w1
    cases ru with
    | obj hn => exact ⟨_, _, φ1, h1, p, rfl, hn, e1, r1, ep, hl, w2⟩
  · subst ex
    obtain rfl : u = Value.ref a := rx
    obtain ⟨W, eW, w3⟩ := Opt.of w2
    obtain ⟨ps, dvs, M, hd⟩ := fm.me _ _ eW
    obtain ⟨f, fd, dsv, Me, Fn, bi, vd⟩ := M.ex
    obtain ⟨b, dx, gs, eb, hn', hb, rf⟩ := r1.hp.ins ep (.obj hn)
    cases eb
    refine getmeth_ok I1 hb M.cl Me (rf.no hl) ?_
    refine PySem.W.callWith_K (first := [.ref a]) (h₀ := X.base) I.ok.mod.kin Me.kp (thn (ha.pa pos pins s1 σ H1 _ I1 (tAA.mk (Q := fun vs H2 => spA X.K B.G W ((V.ref a :: vs) ++ dvs) H2 Q (xA X.K B E σ)) r1 w3 fun vs H2 φ2 us h2 e2 r2 rus w4 => ?_)) fun us s2 ⟨vs, H2, I2, rv, q2⟩ => ⟨I2.kIn, ?_⟩) hst hpl
    · exact aCall_low kk (e1.trans e2) r2 (.cons (.obj (e2.num _ _ hn)) (rus.app (hd _ _))) w4
    · exact run_fn (us := .ref a :: us) (vs := .ref a :: vs) Fn (hr.mono hk) bi vd hp I2 (.cons rfl rv) q2⟩
theorem ae_meth0 {ds : List U} {F : List (Str × WF)} {pl : Sem Bool} (fm : MFam X B.G k m ds F) (hr : Room n X.A) (hp : Passes (CXR X.prog X.w) X (xA X.K B E)) (ho : AE X B E o Wo) (hk : k ≤ n := by decide)
    (ht : eval (.Call (.Attribute o m apos) [] [] pos) X.env = (do
      let ov ← eval o X.env
      standAt apos.atName
      let (f, first) ← holding [ov] (getMethod ov m pl)
      callWith pos f first (backTo pos (starEach [] X.env)) (backToKw pos (keywordEach [] X.env))) := by rfl) : AE X B E (.Call (.Attribute o m apos) [] [] pos) (aMeth m ds F Wo aNil) := ⟨by
  rintro pins s σ H Q I ⟨φ, ρ, h, QA, r, w, kk⟩
  refine PySem.W.methodCall_KW (pl := pl) (thn (ho.pe pins s σ H _ I (tA.mk (Q := fun v H1 => ∃ a n φ1 h1 p, v = .ref a ∧ φ1[n]? = some a ∧ Ext X.K φ H φ1 H1 ∧ R X.K B φ1 ρ h1 σ H1 ∧ insAt h1 n = some p ∧ p.2.lookup m = none ∧ Opt (F.lookup p.1) fun W => W (.obj n :: ([] ++ ds)) h1 QA (E ρ)) r w fun v H1 φ1 u h1 e1 r1 ru w1 => ?_)) fun u s1 ⟨x, H1, I1, rx, a, nn, φ1, h1, p, ex, hn, e1, r1, ep, hl, w2⟩ => ?_) ht
  · cases u <;> first | exact w1.elim | skip
    obtain ⟨p, ep, hl, w2⟩ := Opt.of w1
    cases ru with
    | obj hn => exact ⟨_, _, φ1, h1, p, rfl, hn, e1, r1, ep, hl, w2⟩
  · subst ex
    obtain rfl : u = Value.ref a := rx
    obtain ⟨W, eW, w3⟩ := Opt.of w2
    obtain ⟨ps, dvs, M, hd⟩ := fm.me _ _ eW
    obtain ⟨f, fd, dsv, Me, Fn, bi, vd⟩ := M.ex
    obtain ⟨b, dx, gs, eb, hn', hb, rf⟩ := r1.hp.ins ep (.obj hn)
    cases eb
    refine getmeth_ok I1 hb M.cl Me (rf.no hl) ?_
    refine PySem.W.callWith_K0 (first := [.ref a]) I1.kIn Me.kp (run_fn (us := [.ref a]) (vs := [.ref a]) Fn (hr.mono hk) bi vd hp I1 (.cons rfl .nil) ?_)
    exact aCall_low kk e1 r1 (.cons (.obj hn) (hd _ _)) w3⟩
/-! ### built-ins -/
@[reducible] def aBlt (w : ON) (R : WA) : WE := fun ρ h Q E => R ρ h (fun us h1 => w us h1 Q) E
theorem aBlt_low {w : ON} {σ : St} {H : Hp} {Q : VK} (q : tA X.K B E (aBlt w Wr) σ H Q) : tCB (rAN X.K B.G w) (tAA X.K B E Wr) σ H Q := by
  obtain ⟨φ, ρ, h, QA, r, w, k⟩ := q
  refine tAA.mk r w fun vs H1 φ1 us h1 e1 r1 rus w1 => ?_
  exact ⟨φ1, us, h1, QA, r1.hp, rus, w1, fun v H' ⟨φ', u, h', e, q⟩ => k v H' ⟨φ', u, h', e1.trans e, q⟩⟩
theorem ae_blt {id : String} {w : ON} (hc : ACl X B.G (.builtin id) w) (hg : Gl X x) (hm : X.mg x = none) (hv : bootBuiltins x = some (.builtin id)) (ha : AA X B E (e :: es) Wr) (hn : x ≠ "__name__" := by decide) (hdb : (x == ("__debug__" : Str)) = false := by decide)
    (he : starEach (e :: es) X.env = (false, eval e X.env) :: starEach es X.env := by rfl) (hpl : (backTo pos (starEach es X.env)).any (·.1) = false := by rfl) : AE X B E (.Call (.Name x p) (e :: es) [] pos) (aBlt w Wr) := ⟨(pe_callB hc.op hg hm hv ha.pa hn hdb he hpl).weak fun _ _ _ => aBlt_low⟩
theorem ae_bty {T : String} {w : ON} (hc : ACl X B.G (.type T) w) (hg : Gl X x) (hm : X.mg x = none) (hv : bootBuiltins x = some (.type T)) (ha : AA X B E (e :: es) Wr) (hn : x ≠ "__name__" := by decide) (hdb : (x == ("__debug__" : Str)) = false := by decide)
    (he : starEach (e :: es) X.env = (false, eval e X.env) :: starEach es X.env := by rfl) (hpl : (backTo pos (starEach es X.env)).any (·.1) = false := by rfl) : AE X B E (.Call (.Name x p) (e :: es) [] pos) (aBlt w Wr) := ⟨(pe_callTy hc.op hg hm hv ha.pa hn hdb he hpl).weak fun _ _ _ => aBlt_low⟩
def uLen : ON := fun us h Q => match us with
  | [.str y] => y.length ≤ sizeLine ∧ Q (.int y.length) h
  | [.tup xs] => Q (.int xs.length) h
  | [.obj n] => Opt (lstAt h n) fun xs => Q (.int xs.length) h
  | _ => False
theorem ac_len : ACl X B.G (.builtin "len") uLen := ⟨by
  rintro pins s σ H xs us Q I r ⟨φ, as, h, QA, rh, ru, w, k⟩
  cases ru with
  | nil => exact w.elim
  | cons r1 rs =>
    rename_i u v us' vs'
    cases rs with
    | cons _ _ => cases u <;> exact w.elim
    | nil =>
      cases u <;> first | exact w.elim | skip
      · cases r1
        exact call_len pins s σ H _ us Q I r ⟨_, _, rfl, ⟨w.1, rfl⟩, k _ _ (.here rh .int w.2)⟩
      · cases r1 with
        | tup t rs => exact call_len_seq pins s σ H _ us Q I r ⟨_, _, rfl, .inr t, k _ _ (.here rh .int (by rw [← rs.len]; exact w))⟩
      · obtain ⟨xs, e, w⟩ := Opt.of w
        obtain ⟨a, ws, rfl, _, hs, rs⟩ := rh.rol (lstAt_of e) r1
        exact call_len_seq pins s σ H _ us Q I r ⟨_, _, rfl, .inl hs, k _ _ (.here rh .int (by rw [← rs.len]; exact w))⟩⟩
def uAbs : ON := fun us h Q => match us with
  | [.int i] => Q (.int (if i < 0 then -i else i)) h
  | _ => False
theorem ac_abs : ACl X B.G (.builtin "abs") uAbs := ⟨by
  rintro pins s σ H xs us Q I r ⟨φ, as, h, QA, rh, ru, w, k⟩
  match as, ru, w with
  | [.int i], .cons .int .nil, w => exact call_abs pins s σ H _ us Q I r ⟨_, rfl, k _ _ (.here rh .int w)⟩⟩
def intsOf : List U → Option (List Int)
  | [] => some []
  | .int i :: us => (intsOf us).map (i :: ·)
  | _ => none
theorem intsOf_of : ∀ {us : List U} {ns : List Int}, intsOf us = some ns → us = ns.map U.int
  | [], _, e => by cases e; rfl
  | .int i :: us, _, e => by
    unfold intsOf at e
    cases e1 : intsOf us with
    | none => rw [e1] at e; cases e
    | some ms => rw [e1] at e; cases e; rw [intsOf_of e1]; rfl
  | .non :: _, _, e => by cases e
  | .bl _ :: _, _, e => by cases e
  | .str _ :: _, _, e => by cases e
  | .tup _ :: _, _, e => by cases e
  | .obj _ :: _, _, e => by cases e
theorem intsOf_map : ∀ (ns : List Int), intsOf (ns.map U.int) = some ns
  | [] => rfl
  | n :: ns => by show (intsOf (ns.map U.int)).map (n :: ·) = _; rw [intsOf_map ns]; rfl
def uMax : ON := fun us h Q => match us with
  | [.int i, .int j] => Q (.int (if j > i then j else i)) h
  | [.obj n] => Opt (lstAt h n) fun xs => Opt (intsOf xs) fun ns => 0 < ns.length ∧ ∀ m, m ∈ ns → (∀ y, y ∈ ns → y ≤ m) → Q (.int m) h
  | _ => False
def uMin : ON := fun us h Q => match us with
  | [.int i, .int j] => Q (.int (if j < i then j else i)) h
  | [.obj n] => Opt (lstAt h n) fun xs => Opt (intsOf xs) fun ns => 0 < ns.length ∧ ∀ m, m ∈ ns → (∀ y, y ∈ ns → m ≤ y) → Q (.int m) h
  | _ => False
theorem ac_max (hc : X.calm = true) : ACl X B.G (.builtin "max") uMax := ⟨by
  rintro pins s σ H xs us Q I r ⟨φ, as, h, QA, rh, ru, w, k⟩
  match as, ru, w with
  | [.int i, .int j], .cons .int (.cons .int .nil), w => exact call_max2 hc pins s σ H _ us Q I r ⟨_, _, rfl, k _ _ (.here rh .int w)⟩
  | [.obj n], .cons r1 .nil, w =>
    obtain ⟨xs, e, w⟩ := Opt.of w
    obtain ⟨ns, e2, w1, w2⟩ := Opt.of w
    obtain ⟨a, ws, rfl, _, hs, rs⟩ := rh.rol (lstAt_of e) r1
    rw [intsOf_of e2] at rs
    rw [rs.ints] at hs
    exact cr_max hc pins s σ H _ us Q I r ⟨a, ns, rfl, hs, w1, fun m h1 h2 => k _ _ (.here rh .int (w2 m h1 h2))⟩⟩
theorem ac_min (hc : X.calm = true) : ACl X B.G (.builtin "min") uMin := ⟨by
  rintro pins s σ H xs us Q I r ⟨φ, as, h, QA, rh, ru, w, k⟩
  match as, ru, w with
  | [.int i, .int j], .cons .int (.cons .int .nil), w => exact call_min2 hc pins s σ H _ us Q I r ⟨_, _, rfl, k _ _ (.here rh .int w)⟩
  | [.obj n], .cons r1 .nil, w =>
    obtain ⟨xs, e, w⟩ := Opt.of w
    obtain ⟨ns, e2, w1, w2⟩ := Opt.of w
    obtain ⟨a, ws, rfl, _, hs, rs⟩ := rh.rol (lstAt_of e) r1
    rw [intsOf_of e2] at rs
    rw [rs.ints] at hs
    exact cr_min hc pins s σ H _ us Q I r ⟨a, ns, rfl, hs, w1, fun m h1 h2 => k _ _ (.here rh .int (w2 m h1 h2))⟩⟩
def uSum : ON := fun us h Q => match us with
  | [.obj n] => Opt (lstAt h n) fun xs => Opt (intsOf xs) fun ns => Q (.int ns.sum) h
  | _ => False
theorem ac_sum (hc : X.calm = true) : ACl X B.G (.builtin "sum") uSum := ⟨by
  rintro pins s σ H xs us Q I r ⟨φ, as, h, QA, rh, ru, w, k⟩
  match as, ru, w with
  | [.obj n], .cons r1 .nil, w =>
    obtain ⟨xs, e, w⟩ := Opt.of w
    obtain ⟨ns, e2, w1⟩ := Opt.of w
    obtain ⟨a, ws, rfl, _, hs, rs⟩ := rh.rol (lstAt_of e) r1
    rw [intsOf_of e2] at rs
    rw [rs.ints] at hs
    exact cr_sum hc pins s σ H _ us Q I r ⟨a, ns, rfl, hs, k _ _ (.here rh .int w1)⟩⟩
def uList : ON := fun us h Q => match us with
  | [u] => Opt (itemsOf h u) fun xs => Q (.obj h.length) (h ++ [.lst xs])
  | _ => False
theorem ac_list : ACl X B.G (.type "list") uList := ⟨by
  rintro pins s σ H xs us Q I r ⟨φ, as, h, QA, rh, ru, w, k⟩
  match as, ru, w with
  | [u], .cons r1 .nil, w =>
    obtain ⟨xs, e, w9⟩ := Opt.of w
    cases u <;> first | cases e | skip
    · cases r1 with
      | tup t rs => exact call_list_of pins s σ H _ us Q I r ⟨_, _, rfl, .inr t, fun l hl => k _ _ (.lst rh hl rs w9)⟩
    · obtain ⟨a, ws, rfl, _, hs, rs⟩ := rh.rol (lstAt_of e) r1
      exact call_list_of pins s σ H _ us Q I r ⟨_, _, rfl, .inl hs, fun l hl => k _ _ (.lst rh hl rs w9)⟩⟩
/-! ### built-in methods of lists -/
abbrev OM := U → List U → AH → UQ → Prop
def rAM (K : PySem.W.Frag) (G : Str → Addr) (w : OM) : V → List V → Hp → VK → Prop := fun x xs H Q => ∃ φ u us h QA, RH K G φ h H ∧ RU K H φ u x ∧ RUs K H φ us xs ∧ w u us h QA ∧ ∀ v H', AQ K G φ H QA v H' → Q v H'
structure AMt (X : Cx) (G : Str → Addr) (id : String) (w : OM) : Prop where
  op : MtR X id (rAM X.K G w)
/-- the receiver is a list -/
def isLst (h : AH) : U → Prop
  | .obj n => ∃ xs, lstAt h n = some xs
  | _ => False
@[reducible] def aBm (w : OM) (Wo : WE) (R : WA) : WE := fun ρ h Q E => Wo ρ h (fun o h1 => isLst h1 o ∧ R ρ h1 (fun us h2 => w o us h2 Q) E) E
variable {name : Str} {cpos : Pos}
theorem isLst_ty {K : PySem.W.Frag} {G : Str → Addr} {φ : List Addr} {h : AH} {H : Hp} {u : U} {v : V} (rh : RH K G φ h H) (ru : RU K H φ u v) (hl : isLst h u) : tyV K "list" v H := by
  cases u <;> first | exact hl.elim | skip
  obtain ⟨xs, e⟩ := hl
  obtain ⟨a, ws, rfl, _, hs, rs⟩ := rh.rol (lstAt_of e) ru
  exact .inl ⟨rfl, ws, hs⟩
theorem ae_bm {id : String} {w : OM} (slot : Slot "list" name id) (hty : typeOf (.builtin id) = pure (.type "method_descriptor")) (hm : AMt X B.G id w) (ho : AE X B E o Wo) (ha : AA X B E (e :: es) Wr)
    (hbase : attributeBase o name X.env (eval o X.env) = eval o X.env := by rfl)
    (hfew : ((backTo cpos (starEach (e :: es) X.env)).all (fun x => !x.1) && (backToKw cpos (keywordEach [] X.env)).all (fun x => x.1.isSome)
      && decide ((e :: es).length + ([] : List Keyword).length + (if ([] : List Keyword).isEmpty then 0 else 1) < 30)) = true := by rfl)
    (hline : (apos.endLine == cpos.line) = true := by rfl) (hs : starEach (e :: es) X.env = (false, eval e X.env) :: starEach es X.env := by rfl) (hplain : (backTo cpos (starEach es X.env)).any (·.1) = false := by rfl) :
    AE X B E (.Call (.Attribute o name apos) (e :: es) [] cpos) (aBm w Wo Wr) := ⟨(pe_bm PySem.F.plainAttrs_list slot hty hm.op ho.pe ha.pa hbase hfew hline hs hplain).weak fun σ H Q q => by
  obtain ⟨φ, ρ, h, QA, r, w, k⟩ := q
  refine tA.mk r w fun v H1 φ1 u h1 e1 r1 ru w1 => ⟨isLst_ty r1.hp ru w1.1, tAA.mk r1 w1.2 fun vs H2 φ2 us h2 e2 r2 rus w2 => ?_⟩
  exact ⟨φ2, u, us, h2, QA, r2.hp, ru.mono e2, rus, w2, fun v H' ⟨φ', u, h', e, q⟩ => k v H' ⟨φ', u, h', (e1.trans e2).trans e, q⟩⟩⟩
theorem AQ.put {K : PySem.W.Frag} {G : Str → Addr} {φ : List Addr} {h : AH} {H : Hp} {QA : UQ} {n : Nat} {p : Addr} {vs vs' : List V} {us us' : List U} {u : U} {v : V} (rh : RH K G φ h H) (ho : ownLst h n = some us) (hn : φ[n]? = some p) (hp : H p = some (.lst vs)) (rs : RUs K H φ us' vs') (ru : RU K H φ u v) (q : QA u (h.set n (.lst us'))) : AQ K G φ H QA v (upd H p (.lst vs')) := by
  have ex : Ext K φ H φ (upd H p (.lst vs')) := .put hp (fun _ z => by cases z) (fun _ _ z => by cases z)
  exact ⟨φ, u, _, ex, rh.put hn hp (fun _ z => by cases z) (fun _ _ z => by cases z) (ao := .lst us') ⟨_, upd_same, rs.mono ex⟩ (by rw [ownLst_of ho]; exact fun z => z) (fun z => z), ru.mono ex, q⟩
def uAppend : OM := fun o us h Q => match o, us with
  | .obj n, [u] => Opt (ownLst h n) fun xs => xs.length < sizeLine ∧ Q .non (h.set n (.lst (xs ++ [u])))
  | _, _ => False
theorem am_append : AMt X B.G "list.append" uAppend := ⟨by
  rintro pins s σ H x xs v us Q I rx rxs ⟨φ, o, as, h, QA, rh, ro, ras, w, k⟩
  match o, as, ro, ras, w with
  | .obj n, [u], ro, .cons r1 .nil, w =>
    obtain ⟨ys, e, w1, w2⟩ := Opt.of w
    obtain ⟨a, ws, rfl, hn, hs, rs⟩ := rh.lst (ownLst_of e) ro
    exact mt_append pins s σ H _ _ v us Q I rx rxs ⟨a, ws, _, rfl, rfl, hs, by rw [← rs.len]; exact w1, k _ _ (.put rh e hn hs (rs.app (.cons r1 .nil)) .non w2)⟩⟩
def uPop : OM := fun o us h Q => match o, us with
  | .obj n, [] => Opt (ownLst h n) fun xs => Opt (xs[xs.length - 1]?) fun y => Q y (h.set n (.lst xs.dropLast))
  | .obj n, [.int i] => Opt (ownLst h n) fun xs => -(2 ^ 63) ≤ i ∧ i < 2 ^ 63 ∧ Opt (seqIndex? i xs.length) fun j => Opt xs[j]? fun y => Q y (h.set n (.lst (xs.eraseIdx j)))
  | _, _ => False
theorem am_pop : AMt X B.G "list.pop" uPop := ⟨by
  rintro pins s σ H x xs v us Q I rx rxs ⟨φ, o, as, h, QA, rh, ro, ras, w, k⟩
  match o, as, ro, ras, w with
  | .obj n, [], ro, .nil, w =>
    obtain ⟨ys, e, w⟩ := Opt.of w
    obtain ⟨y, e1, w2⟩ := Opt.of w
    obtain ⟨a, ws, rfl, hn, hs, rs⟩ := rh.lst (ownLst_of e) ro
    obtain ⟨z, ez, rz⟩ := rs.at e1
    exact mt_pop pins s σ H _ _ v us Q I rx rxs ⟨a, ws, z, rfl, rfl, hs, by rw [← rs.len]; exact ez, k _ _ (.put rh e hn hs rs.last rz w2)⟩
  | .obj n, [.int i], ro, .cons .int .nil, w =>
    obtain ⟨ys, e, w1, w2, w⟩ := Opt.of w
    obtain ⟨j, ej, w⟩ := Opt.of w
    obtain ⟨y, e1, w3⟩ := Opt.of w
    obtain ⟨a, ws, rfl, hn, hs, rs⟩ := rh.lst (ownLst_of e) ro
    obtain ⟨z, ez, rz⟩ := rs.at e1
    exact mt_popAt pins s σ H _ _ v us Q I rx rxs ⟨a, ws, i, j, z, rfl, rfl, hs, w1, w2, by rw [← rs.len]; exact ej, ez, k _ _ (.put rh e hn hs (rs.era j) rz w3)⟩⟩
end
end L2

namespace L2
open PySem PySem.Spec PyProof.Rows
/-! ### isinstance -/
inductive TTag where
  | non | bl | int | str | tup | lst | ins (c : Str) | exc (c : Str)
def tyTag (h : AH) : U → Option TTag
  | .non => some .non
  | .bl _ => some .bl
  | .int _ => some .int
  | .str _ => some .str
  | .tup _ => some .tup
  | .obj n => match h[n]? with
    | some (.lst _) => some .lst
    | some (.rol _) => some .lst
    | some (.krl _) => some .lst
    | some (.ins c _) => some (.ins c)
    | some (.exc c _) => some (.exc c)
    | none => none
structure InsT (K : PySem.W.Frag) (C : Addr) : Prop where
  cl : Cls K C
  ha : PySem.W.findIn K (.ref C) "__class__" = some (some (.builtin "object.__class__"))
  hn : PySem.W.specialIn K (.builtin "object.__class__") "__get__" = some (some (.builtin "getset_descriptor.__get__"))
  htk : PySem.W.takesIn K (.builtin "object.__class__") = some true
  hm : PySem.W.mroIn K C (.type "object") = some true
def uIsi (f : TTag → Option Bool) : O1 := fun u h Q => Opt (tyTag h u) fun t => Opt (f t) fun b => Q (.bl b) h
section
variable {X : Cx} {B : Bs} {E : EX} {a b c e o i ec : Expr} {es : List Expr} {Wa Wb Wc We Wo Wi : WE} {Wr Wk : WA} {T : WT} {p pos pos' apos : Pos} {x m : Str}
/-- a constant of the module -/
theorem ae_glob {u : U} {v : V} {uv : Value} (hg : Gl X x) (hm : X.mg x = some uv) (r : RelV v uv) (ru : ∀ H φ, RU X.K H φ u v) (hd : (x == ("__debug__" : Str)) = false := by decide) : AE X B E (.Name x pos) (aC u) := ae_const (pe_glob hg hm r hd) ru
end
/-! ### raise -/
section
variable {P : Program} {w : World} {K : PySem.W.Frag} {mg : Str → Option Value} {base : Heap} {N : List Str} {qual : Str} {scope : Scope} {f : Addr} {cd : Value} {A : Around} {outer : List Env} {s₀ : Shared} {H₀ : Hp} {E₀ : XK} {B : Bs} {E : EX}
@[reducible] def sRaise (c : Str) (R : WA) : WS := fun _ _ _ _ E ρ h => R ρ h (fun us h1 => us.length ≤ sizeLine ∧ E ρ ⟨c, []⟩ h1) (E ρ)
theorem as_raise {x : Str} {cn : Str} {bm : List Value} {Bn newId initId : String} {e : Expr} {es : List Expr} {Wr : WA} {np cpos pos : Pos} (O : OwnCls x (B.G cn) bm newId mg base) (FB : ExcBaseFacts Bn newId initId bm) (hE : ∀ σ cls dx H', xA K B E σ cls dx H' → E₀ cls dx H')
    (ha : AA (cxOf (CXR P w) P w K mg base N qual scope f cd A outer s₀ H₀ E₀) B E (e :: es) Wr) (hg : Gl (cxOf (CXR P w) P w K mg base N qual scope f cd A outer s₀ H₀ E₀) x := by rfl)
    (he : starEach (e :: es) (envOfC qual scope s₀.heap.objs.size f cd) = (false, eval e (envOfC qual scope s₀.heap.objs.size f cd)) :: starEach es (envOfC qual scope s₀.heap.objs.size f cd) := by rfl)
    (hpl : (backTo cpos (starEach es (envOfC qual scope s₀.heap.objs.size f cd))).any (·.1) = false := by rfl) (hdb : (x == ("__debug__" : Str)) = false := by decide) :
    AS (cxOf (CXR P w) P w K mg base N qual scope f cd A outer s₀ H₀ E₀) B E (.Raise (some (.Call (.Name x np) (e :: es) [] cpos)) none pos) (sRaise cn Wr) := ⟨(ps_raise O FB hg ha.pa he hpl hdb).weak fun D σ H q => by
  obtain ⟨φ, ρ, h, DA, r, w, fi⟩ := q
  refine tAA.mk r w fun vs H1 φ1 us h1 e1 r1 rus w1 => ⟨by rw [← rus.len]; exact w1.1, hE σ _ _ _ ⟨φ1, ρ, ⟨cn, []⟩, h1, r1, ⟨rfl, .inl rfl⟩, w1.2⟩⟩⟩
end
/-! ### try -/
abbrev WH := SK → UQ → SK → SK → EX → UX → SU → AH → Prop
def tAH (K : PySem.W.Frag) (B : Bs) (E : EX) (W : WH) : TH := fun D σ H a cls dx => ∃ φ ρ h DA x, R K B φ ρ h σ H ∧ (cls = .ref (B.G x.c) ∧ XF K H φ dx x.fs) ∧ H a = none ∧ W DA.nx DA.rt DA.bk DA.ct E x ρ h ∧ Fin K B φ H DA D
structure AHd (X : Cx) (B : Bs) (E : EX) (hs : List ExceptHandler) (W : WH) : Prop where
  ph : PH X hs (tAH X.K B E W)
theorem PH.weak {X : Cx} {hs : List ExceptHandler} {t t' : TH} (h : PH X hs t) (w : ∀ D σ H a cls dx, t' D σ H a cls dx → t D σ H a cls dx) : PH X hs t' := fun pins s σ H D a cls dx I fl q => h pins s σ H D a cls dx I fl (w _ _ _ _ _ _ q)
section
variable {X : Cx} {B : Bs} {E : EX} {W : WH} {Sb : WS}
end
end L2

namespace L2
open PySem PySem.Spec PyProof.Rows
section
variable {X : Cx} {B : Bs} {E : EX} {a b c e o i ec : Expr} {es : List Expr} {Wa Wb Wc We Wo Wi : WE} {Wr Wk : WA} {T : WT} {p p2 pos pos' apos : Pos} {x m : Str}
theorem av (i : Nat) {x : Str} {pos : Pos} (hN : X.N[i]? = some x := by rfl) (hv : Vis X.env.scope x := by first | exact Or.inl rfl | exact Or.inr (Or.inl rfl) | exact Or.inr (Or.inr rfl)) (hd : (x == ("__debug__" : Str)) = false := by decide)
    (hcd : (x == ("__classdict__" : Str)) = false := by decide) : AE X B E (.Name x pos) (aVar i) := ae_var hN hv hd hcd
/-- in, not in: data -/
def uIn (neg : Bool) : O2 := fun a b h Q => match b with
  | .str z => match a with
    | .str y => Q (.bl (if neg then !(!(Builtin.Str.occurrences z y 0 z.length 1).isEmpty) else !(Builtin.Str.occurrences z y 0 z.length 1).isEmpty)) h
    | _ => False
  | b => Opt (itemsOf h b) fun xs => Opt (datL (dat h 9) xs) fun ds => Opt (dat h 9 a) fun d => PyData.canLayAll0 ds = true ∧ SeqAt.shaped d = true ∧ Q (.bl (if neg then !(ds.any fun e => PyData.eqv e d) else ds.any fun e => PyData.eqv e d)) h
end
end L2

namespace L2
open PySem PySem.Spec PyProof.Rows
theorem Room.units65 {k : Nat} {A : Around} (r : Room k A) : A.units + 65 < cLine := by have := r.un; omega
abbrev EXCB : List Value := [.type "ValueError", .type "Exception", .type "BaseException", .type "object"]
def is_int : TTag → Option Bool
  | .ins _ => none
  | .exc _ => none
  | .bl => some true
  | .int => some true
  | _ => some false
def is_bool : TTag → Option Bool
  | .ins _ => none
  | .exc _ => none
  | .bl => some true
  | _ => some false
theorem KU.nil {K : PySem.W.Frag} : KU K [] [] := fun _ _ => .nil
theorem Met.fam {P : Program} {w : World} {K : PySem.W.Frag} {mg : Str → Option Value} {base : Heap} {k : Nat} {C : Addr} {m : Str} {ps : List Str} {sp : Sp} (M : Met P w K mg base k C m ps sp) : MetD P w K mg base k C m ps [] sp := by
  obtain ⟨f, fd, h1, h2, h3⟩ := M.ex
  exact ⟨M.cl, f, fd, [], h1, h2, h3, .nil⟩
theorem mfam1 {X : Cx} {G : Str → Addr} {k : Nat} {c m : Str} {ps : List Str} {W : WF} (M : Met X.prog X.w X.K X.mg X.base k (G c) m ps (spA X.K G W)) : MFam X G k m [] [(c, W)] := ⟨fun c' W' e => by
  rw [List.lookup_cons] at e
  cases h : c' == c with
  | true => rw [h] at e; cases e; have := beq_iff_eq.mp h; subst this; exact ⟨ps, [], M.fam, .nil⟩
  | false => rw [h] at e; cases e⟩
end L2

namespace L2
open PySem PySem.Spec PyProof.Rows
/-- what the law is asked: a script of whole numbers, and True -/
def spL (K : PySem.W.Frag) : Sp := fun vs H Q _ => ∃ (a : Addr) (ns : List Int), vs = [.ref a] ∧ SqL K H a (ns.map V.int) ∧ ns.length ≤ 63 ∧ ∀ H', Q (.bl true) H'
section
variable {P : Program} {w : World} {K : PySem.W.Frag} {mg : Str → Option Value} {base : Heap} {G : Str → Addr} {k : Nat} {f : Addr} {fd : FuncData} {ps : List Str} {W : WF}
theorem FnOk.law (F : FnOk P w K mg base (CXR P w) k f fd ps (spA K G W)) (hl : ps.length = 1)
    (hW : ∀ (h : AH) (sc : Nat) (ns : List Int), lstAt h sc = some (ns.map U.int) → ns.length ≤ 63 → W [.obj sc] h (fun u _ => u = .bl true) (fun _ _ => False)) : FnOk P w K mg base (CXR P w) k f fd ps (spL K) := by
  refine ⟨fun vs H Q E ⟨a, ns, e, _⟩ => by rw [e, hl]; rfl, fun A outer s H args us vs Q E hr e0 hb r hsp => F.run A outer s H args us vs Q E hr e0 hb r ?_⟩
  obtain ⟨a, ns, rfl, hs, hn, q⟩ := hsp
  have fin : ∀ (o : AO), RObj K G H [a] a o → lstAt [o] 0 = some (ns.map U.int) → spA K G W [.ref a] H Q E := fun o ro hl0 => by
    refine ⟨[a], [.obj 0], [o], fun u _ => u = .bl true, fun _ _ => False, .cons (.obj rfl) .nil, ⟨rfl, fun m n b e1 e2 => ?_, fun n b ob e1 e2 => ?_⟩, hW _ _ ns hl0 hn, fun v H' ⟨φ', u, h', _, _, ru, e⟩ => ?_, fun cls dx H' ⟨_, _, _, _, _, _, z⟩ => z.elim⟩
    · have h1 := (List.getElem?_eq_some_iff.mp e1).1
      have h2 := (List.getElem?_eq_some_iff.mp e2).1
      simp at h1 h2
      exact .inl (by omega)
    · have h1 := (List.getElem?_eq_some_iff.mp e1).1
      simp at h1
      subst h1
      cases e1; cases e2
      exact ro
    · subst e; cases ru; exact q H'
  rcases hs with hs | hs
  · exact fin (.rol (ns.map U.int)) ⟨_, hs, RUs.ofInts⟩ rfl
  · exact fin (.krl (ns.map U.int)) ⟨_, hs, RUs.ofInts⟩ rfl
theorem walkL {l : PySem.W.OpenLaw} {q : Program} {loose : List Str} {XP : (Str → Option Value) → Heap → Prop} {YP : World → Heap → Prop} {d : DefRec} {K : Params → PySem.W.Frag} {k : Nat} (hn : l.most = some 63) (hdf : d.params.defaults = []) (hr : Room k callerA)
    (hY : ∀ (w : World) (h : Heap), YP w h → (K w.params).In h)
    (F : ∀ (w : World) (mg : Str → Option Value) (fa : Addr) (h : Heap), (K w.params).In h → h.Ns mainGlobals mg → mg d.name = some (.ref fa) →
      ∃ fd : FuncData, (∀ (s : Shared) (u : Value), BindsTo s fd ⟨[u], []⟩ [("_law_script", u)]) ∧ ∀ base : Heap, (K w.params).In base → base.Ns mainGlobals mg → FnOk l.prog w (K w.params) mg base (CXR l.prog w) k fa fd ["_law_script"] (spL (K w.params))) :
    PySem.W.WalkO q loose XP YP l.row.toRowW d [] (fun f vs => PySem.call f vs) :=
  L2.walk_of (n := 63) (k := k) (x := "_law_script") (CX := fun w => CXR l.prog w) (sp := fun w => spL (K w.params)) hn (by decide) hdf hr hY F (fun _ _ a ns hl _ hS => ⟨a, ns, rfl, hS, hl, fun _ => rfl⟩) fun _ _ _ _ _ z => CXR.no z
end
/-! ### what the top has written -/
section
variable {K : PySem.W.Frag} {h : Heap} {mg : Str → Option Value} {G : Str → Addr}
theorem int_mk {x : Str} {v : Int} {tk : Tok} (X : K.In h) (N : h.Ns mainGlobals mg) (z : PySem.W.nsIn K mainGlobals x = some (some (.int v tk))) : ∃ tk, mg x = some (.int v tk) := ⟨_, PySem.W.mg_of X N z⟩
theorem tup2_mk {x : Str} {a b : Int} {A : Addr} {o : Obj} {k0 k1 : Tok} {n : Nat} (X : K.In h) (N : h.Ns mainGlobals mg) (z : PySem.W.nsIn K mainGlobals x = some (some (.ref A))) (t : K.lookup A = some o) (c : o.cls = .type "tuple") (d : o.data = .seq #[.int a k0, .int b k1] n) :
    ∃ A, mg x = some (.ref A) ∧ ∀ H φ, RU K H φ (.tup [.int a, .int b]) (.ref A) :=
  ⟨A, PySem.W.mg_of X N z, fun H φ => .tup (vs := [.int a, .int b]) (.inr ⟨o, _, _, t, c, d, (by show 2 ≤ sizeLine; decide), .cons ⟨_, rfl⟩ (.cons ⟨_, rfl⟩ .nil)⟩) (.cons .int (.cons .int .nil))⟩
/-- an own class -/
structure ClsX (K : PySem.W.Frag) (mg : Str → Option Value) (x : Str) (C : Addr) : Prop where
  cl : Cls K C
  mks : PySem.W.makesIn K C = true
  kc : PySem.W.keepIn K (.ref C) = true
  nm : mg x = some (.ref C)
theorem clsX_mk {x : Str} {C : Addr} (X : K.In h) (N : h.Ns mainGlobals mg) (aC : PySem.W.nsIn K mainGlobals x = some (some (.ref C))) (pg : PySem.W.plainGet K C Str.empty = true) (hd : PySem.W.hasDictIn K C = true) (po : PySem.W.plainOver K C = true) (sa : PySem.W.findIn K (.ref C) "__setattr__" = some (some (.builtin "object.__setattr__"))) (mk : PySem.W.makesIn K C = true) (kc : PySem.W.keepIn K (.ref C) = true) : ClsX K mg x C :=
  ⟨⟨pg, hd, po, sa⟩, mk, kc, PySem.W.mg_of X N aC⟩
theorem fld1 {c f : Str} (cl : Cls K (G c)) (na : PySem.W.findIn K (.ref (G c)) f = some none) : FldOk K G [c] f := ⟨fun d hd => by rw [List.mem_singleton] at hd; subst hd; exact cl, fun d hd => by rw [List.mem_singleton] at hd; subst hd; exact na⟩
end
end L2

namespace L2
open PySem PySem.Spec PyProof.Rows
section
variable {X : Cx} {B : Bs}
/-- xs.count(y), data -/
def uCount : OM := fun o us h Q => match o, us with
  | .obj n, [u] => Opt (lstAt h n) fun xs => Opt (datL (dat h 9) xs) fun ds => Opt (dat h 9 u) fun d => PyData.canLayAll0 ds = true ∧ SeqAt.shaped d = true ∧ Q (.int ((ds.countP fun e => PyData.eqv e d : Nat) : Int)) h
  | _, _ => False
theorem am_count (hu : X.A.units + 65 < cLine) : AMt X B.G "list.count" uCount := ⟨by
  rintro pins s σ H x xs v us Q I rx rxs ⟨φ, o, as, h, QA, rh, ro, ras, w, k⟩
  match o, as, ro, ras, w with
  | .obj n, [u], ro, .cons r1 .nil, w =>
    obtain ⟨ys, e, w⟩ := Opt.of w
    obtain ⟨ds, e2, w⟩ := Opt.of w
    obtain ⟨d, e3, w1, w2, w3⟩ := Opt.of w
    obtain ⟨a, ws, rfl, _, hs, rs⟩ := rh.rol (lstAt_of e) ro
    exact mt_countD hu pins s σ H _ _ v us Q I rx rxs ⟨a, ws, _, ds, d, rfl, rfl, hs, datL_dp (fun u d v => dat_dp rh 9) e2 rs, dat_dp rh 9 e3 r1, w1, w2, k _ _ (.here rh .int w3)⟩⟩
/-- xs.index(y), data; y is there -/
def uIndex : OM := fun o us h Q => match o, us with
  | .obj n, [u] => Opt (lstAt h n) fun xs => Opt (datL (dat h 9) xs) fun ds => Opt (dat h 9 u) fun d => PyData.canLayAll0 ds = true ∧ SeqAt.shaped d = true ∧ ∃ (j : Nat) (e : PyData), ds[j]? = some e ∧ PyData.eqv e d = true ∧ (∀ (m : Nat) (e' : PyData), m < j → ds[m]? = some e' → PyData.eqv e' d = false) ∧ Q (.int (j : Nat)) h
  | _, _ => False
theorem am_index (hu : X.A.units + 65 < cLine) : AMt X B.G "list.index" uIndex := ⟨by
  rintro pins s σ H x xs v us Q I rx rxs ⟨φ, o, as, h, QA, rh, ro, ras, w, k⟩
  match o, as, ro, ras, w with
  | .obj n, [u], ro, .cons r1 .nil, w =>
    obtain ⟨ys, e, w⟩ := Opt.of w
    obtain ⟨ds, e2, w⟩ := Opt.of w
    obtain ⟨d, e3, w1, w2, j, e', w3, w4, w5, w6⟩ := Opt.of w
    obtain ⟨a, ws, rfl, _, hs, rs⟩ := rh.rol (lstAt_of e) ro
    exact mt_indexD hu pins s σ H _ _ v us Q I rx rxs ⟨a, ws, _, ds, d, j, e', rfl, rfl, hs, datL_dp (fun u d v => dat_dp rh 9) e2 rs, dat_dp rh 9 e3 r1, w1, w2, w3, w4, w5, k _ _ (.here rh .int w6)⟩⟩
end
end L2

namespace L2
open PySem PySem.W PyProof.Rows
/-! ### the tree of questions of a sort: its answer rises -/
section
variable {n : Nat} {key : Nat → Int}
abbrev kyA (key : Nat → Int) (p : Array Nat) (i : Nat) : Int := key (p.getD i 0)
structure PmA (n : Nat) (p : Array Nat) : Prop where
  pm : p.Perm (List.toArray (List.range n))
theorem PmA.size {p : Array Nat} (h : PmA n p) : p.size = n := by have := h.pm.size_eq; simpa using this
theorem PmA.lt {p : Array Nat} (h : PmA n p) {i : Nat} (hi : i < n) : p.getD i 0 < n := by
  have hs := h.size
  have e : p.getD i 0 = p[i]'(by omega) := by simp [Array.getD, show i < p.size by omega]
  rw [e]
  have : p[i]'(by omega) ∈ p := Array.getElem_mem _
  have := h.pm.mem_iff.mp this
  simpa using this
def Dn (key : Nat → Int) (p : Array Nat) (m : Nat) : Prop := ∀ i j, i ≤ j → j < m → kyA key p j ≤ kyA key p i
theorem Dn.step {p : Array Nat} {m : Nat} (d : Dn key p m) (h1 : 1 ≤ m) (c : kyA key p m ≤ kyA key p (m - 1)) : Dn key p (m + 1) := by
  intro i j hij hj
  by_cases hjm : j < m
  · exact d i j hij hjm
  · have : j = m := by omega
    subst this
    by_cases him : i = j
    · subst him; exact Int.le_refl _
    · have a := d i (j - 1) (by omega) (by omega)
      omega
end
end L2

namespace L2
open PySem PySem.W PyProof.Rows
section
variable {prog : Program} {w : World} {A : Around} {E : Value → Shared → Prop} {s : Shared}
end
end L2

namespace L2
open PySem PySem.W PyProof.Rows
structure PrAt (h : Heap) (v : Value) (p : Int × Int) : Prop where
  ex : ∃ (b : Addr) (o : Obj) (t1 t2 : Tok) (n : Nat), v = .ref b ∧ h.get? b = some o ∧ o.cls = .type "tuple" ∧ o.data = .seq #[.int p.1 t1, .int p.2 t2] n
section
variable {prog : Program} {w : World} {A : Around} {E : Value → Shared → Prop} {s : Shared}
end
end L2

namespace L2
open PySem PySem.W PyProof.Rows
section
variable {prog : Program} {w : World} {A : Around} {E : Value → Shared → Prop} {s : Shared}
theorem PrAt.keep {h h' : Heap} {v : Value} {p : Int × Int} (x : PrAt h v p) (k : ∀ b o, h.get? b = some o → h'.get? b = some o) : PrAt h' v p := by
  obtain ⟨b, o, t1, t2, n, rfl, ho, r⟩ := x.ex
  exact ⟨b, o, t1, t2, n, rfl, k _ _ ho, r⟩
end
end L2

namespace L2
open PySem PySem.Spec PyProof.Rows
section
variable {X : Cx}
end
/-! ### in the abstract -/
section
variable {X : Cx} {B : Bs}
end
end L2

namespace L2
open PySem PySem.Spec PyProof.Rows
section
variable {X : Cx} {CX : CXT} {k : Nat} {f C : Addr} {fd : FuncData} {ps : List Str} {sp : Sp} {dvs : List V} {ds : List Value} {E : St → XK}
end
/-! ### in the abstract -/
section
variable {X : Cx} {B : Bs} {k n : Nat}
end
/-! ### C(name = v), a class of one parameter -/
def g1V : List V → List V → List V
  | [x], [v] => [x, v]
  | _, _ => []
def g1u : List Value → List Value → List Value
  | [x], [v] => [x, v]
  | _, _ => []
theorem g1_rel {vs : List V} {us : List Value} {zs : List V} {ws : List Value} (r : Vals vs us) (q : Vals zs ws) : Vals (g1V vs zs) (g1u us ws) := by
  match vs, us, zs, ws, r, q with
  | [], [], _, _, _, _ => exact .nil
  | [_], [_], [], [], _, _ => exact .nil
  | [_], [_], [_], [_], .cons a .nil, .cons b .nil => exact .cons a (.cons b .nil)
  | [_], [_], _ :: _ :: _, _ :: _ :: _, _, _ => exact .nil
  | _ :: _ :: _, _ :: _ :: _, _, _, _, _ => exact .nil
@[reducible] def aMake1 (c : Str) (W : WF) (R : WA) : WE := fun ρ h Q E => R ρ h (fun us h1 => match us with
  | [v] => W [.obj h1.length, v] (h1 ++ [.ins c []]) (fun u h2 => asN u (Q (.obj h1.length) h2)) E
  | _ => False) E
section
variable {X : Cx} {B : Bs} {E : EX} {Wk : WA} {p pos : Pos} {W : WF} {k n : Nat} {ps ks : List Str} {x : Str} {kws : List Keyword}
theorem ae_make1 {cn : Str} (c : MakKw X.prog X.w X.K X.mg X.base k x (B.G cn) ps ks g1V (spA X.K B.G W)) (hr : Room n X.A) (hp : Passes (CXR X.prog X.w) X (xA X.K B E)) (ha : AK X B E kws Wk) (hk : k + 1 ≤ n := by decide) (hg : Gl X x := by rfl)
    (hall : (backToKw pos (keywordEach kws X.env)).all (·.1.isSome) = true := by rfl) (hks : (backToKw pos (keywordEach kws X.env)).filterMap (·.1) = ks := by rfl)
    (hdb : (x == ("__debug__" : Str)) = false := by decide) (hpl : ((backTo pos (starEach [] X.env)).any (·.1) || (backToKw pos (keywordEach kws X.env)).any (·.1.isNone)) = false := by rfl) :
    AE X B E (.Call (.Name x p) [] kws pos) (aMake1 cn W Wk) := ⟨(pe_makK0 c hr ha.pk hp hk hg hall hks hdb hpl).weak fun σ H Q q => by
  obtain ⟨φ, ρ, h, QA, r, w, k⟩ := q
  refine tAA.mk r w fun vs H1 φ1 us h1 e1 r1 rus w1 y dy hy hdy ne => ?_
  match us, vs, rus, w1 with
  | [u], [v], .cons a .nil, w1 => exact aMake_low k e1 r1 (.cons a .nil) w1 hy hdy ne⟩
end
theorem TopM.mak1 {P : Program} {w : World} {K : PySem.W.Frag} {mg : Str → Option Value} {base : Heap} {C : Addr} {qual cn kw : Str} {st : Stmt} {n : Nat} {ps : List Str} {sp : Sp} (T : TopM K C "__init__" qual st) (mk : PySem.W.makesIn K C = true) (kc : PySem.W.keepIn K (.ref C) = true) (hm : mg cn = some (.ref C))
    (h : ∀ (kV doc pm : Value) (an : Option Addr) (cdv ct : Value) (u v : Value), bindArgs (PySem.W.fnOf "__init__" qual (defArgs st) (defBody st) (defScope st) .none kV doc pm an cdv ct) ⟨[u], [(kw, v)]⟩ = pure (ps.zip [u, v])) (h0 : 0 < ps.length)
    (ok : ∀ f fd, FunD K "__init__" qual st .none f fd → FnOk P w K mg base (CXR P w) n f fd ps sp) : MakKw P w K mg base n cn C ps [kw] g1V sp := by
  obtain ⟨f, fd, F, m⟩ := T.ex
  refine ⟨f, fd, g1u, ⟨mk, m.at_, m.fn, kc⟩, ok f fd F, hm, ⟨fun s us ws X hl => ?_, g1_rel⟩⟩
  obtain ⟨oc, od, kV, doc, pm, an, cdv, ct, osl, rfl, lk, hcd⟩ := F.ex
  match us, ws, hl with
  | [x], [v], _ => exact .of_eq (h kV doc pm an cdv ct x v)
  | [], _, hl => exact absurd hl (by simp [g1u]; omega)
  | [_], [], hl => exact absurd hl (by simp [g1u]; omega)
  | [_], _ :: _ :: _, hl => exact absurd hl (by simp [g1u]; omega)
  | _ :: _ :: _, _, hl => exact absurd hl (by simp [g1u]; omega)
end L2

namespace L2
open PySem PySem.Spec PyProof.Rows
/-! ### which exceptions a clause takes, and of which classes they are: by a list of the classes that can come -/
section
variable {K : PySem.W.Frag} {G : Str → Addr} {c : Value} {l : List (Str × Bool)} {d : Str} {b : Bool}
end
end L2

namespace L2
open PySem PySem.Spec PyProof.Rows
section
variable {K : PySem.W.Frag} {M : Model} {A : Around} {E : Value → Shared → Prop} {s : Shared} {x y C f : Addr} {ox oy : Obj} {od od' : Option Obj}
end

section
variable {prog : Program} {w : World} {A : Around} {R : Result → Shared → Prop} {l : Addr} {items : Array Value} {x : Value}
end
end L2

namespace L2
open PySem PySem.Spec PyProof.Rows
/-- is one of these objects like it -/
def InL (F : List (Str × WF)) (l : Nat) (xs : List U) (m : Nat) : List Nat → AH → UQ → Prop
  | [], h, Q => ownLst h l = some xs ∧ Q (.bl false) h
  | k :: ks, h, Q => ownLst h l = some xs ∧ k ≠ m ∧ Opt (insAt h k) fun p => Opt (insAt h m) fun q => p.1 = q.1 ∧ Opt (F.lookup p.1) fun W => W [.obj k, .obj m] h (fun u h' => asB u fun t => (t = true → Q (.bl true) h') ∧ (t = false → InL F l xs m ks h' Q)) (fun _ _ => False)
theorem RUs.objs {K : PySem.W.Frag} {H : Hp} {φ : List Addr} : ∀ {ks : List Nat} {vs : List V}, RUs K H φ (ks.map U.obj) vs → ∃ as : List Addr, vs = as.map V.ref ∧ as.length = ks.length ∧ ∀ (i k : Nat), ks[i]? = some k → ∃ a, as[i]? = some a ∧ φ[k]? = some a
  | [], _, .nil => ⟨[], rfl, rfl, fun i k e => by simp at e⟩
  | k :: ks, _, .cons (.obj (a := a) h) r => by
    obtain ⟨as, e, l, q⟩ := RUs.objs (ks := ks) r
    refine ⟨a :: as, by rw [e]; rfl, by simp [l], fun i k' e' => ?_⟩
    cases i with
    | zero => simp at e'; subst e'; exact ⟨a, rfl, h⟩
    | succ i => obtain ⟨a', e1, e2⟩ := q i k' (by simpa using e'); exact ⟨a', by simpa using e1, e2⟩
section
variable {X : Cx} {B : Bs} {k n : Nat}
theorem InL.lst {F : List (Str × WF)} {l m : Nat} {xs : List U} {ks : List Nat} {h : AH} {Q : UQ} (w : InL F l xs m ks h Q) : ownLst h l = some xs := by
  cases ks with
  | nil => exact w.1
  | cons u us => exact w.1
end

/-! ### isinstance(x, C), C an own class -/
structure KitB (K : PySem.W.Frag) (u : Value) : Prop where
  h1 : PySem.W.kitOne K (.type "NoneType") u = some false
  h2 : PySem.W.kitOne K (.type "bool") u = some false
  h3 : PySem.W.kitOne K (.type "int") u = some false
  h4 : PySem.W.kitOne K (.type "str") u = some false
  h5 : PySem.W.kitOne K (.type "tuple") u = some false
  h6 : PySem.W.kitOne K (.type "list") u = some false
section
variable {K : PySem.W.Frag} {G : Str → Addr} {u : Value} {l : List (Str × Bool)} {d : Str} {b : Bool}
end
end L2

namespace L2
open PySem PySem.Spec PyProof.Rows
/-! ### o.m(name = v, ..): the values of the names in the parameters' order, None where one is left out -/
def nthD {α : Type} (d : α) : List α → Nat → α
  | [], _ => d
  | a :: _, 0 => a
  | _ :: l, n + 1 => nthD d l n
def pkA {α : Type} (d : α) (ws : List α) : List Nat → List α
  | [] => []
  | i :: is => nthD d ws i :: pkA d ws is
def gP {α : Type} (d : α) (n : Nat) (is : List Nat) : List α → List α → List α
  | [x], ws => bif ws.length == n then x :: pkA d ws is else []
  | _, _ => []
structure MFamK (X : Cx) (G : Str → Addr) (k : Nat) (m : Str) (ks : List Str) (n : Nat) (is : List Nat) (F : List (Str × WF)) : Prop where
  me : ∀ c W, F.lookup c = some W → ∃ ps, MetK X.prog X.w X.K X.mg X.base k (G c) m ps ks (gP .non n is) (spA X.K G W)
section
variable {X : Cx} {B : Bs} {E : EX} {Wk : WA} {Wo : WE} {o : Expr} {pos apos : Pos} {k n N : Nat} {ks : List Str} {m : Str} {kws : List Keyword} {is : List Nat}
end
end L2

namespace L2
open PySem PySem.Spec PyProof.Rows
section
variable {X : Cx} {B : Bs} {E : EX} {a b c e e' o i o' i' : Expr} {es : List Expr} {Wa Wb Wc We We' Wo Wi Wo' Wi' : WE} {Wr Wk : WA} {pos pos' apos cpos tpos t1 t2 tp : Pos}
/-! ### o[i], o'[i'] = e -/
@[reducible] def sIx2 (We Wo Wi Wo' Wi' : WE) : WS := fun nx _ _ _ E ρ h => We ρ h (fun t h1 => match t with
  | .tup [u, v] => Wo ρ h1 (fun o h2 => Wi ρ h2 (fun i h3 => uSet o i u h3 fun h4 => Wo' ρ h4 (fun o' h5 => Wi' ρ h5 (fun i' h6 => uSet o' i' v h6 fun h7 => nx ρ h7) (E ρ)) (E ρ)) (E ρ)) (E ρ)
  | _ => False) (E ρ)
theorem as_ix2 {kt : Nat} (hc : X.calm = true) (he : AE X B E e We) (ho : AE X B E o Wo) (hi : AE X B E i Wi) (ho' : AE X B E o' Wo') (hi' : AE X B E i' Wi')
    (hs : swapsWithSole [.Tuple [.Subscript o i t1, .Subscript o' i' t2] kt tp] e pos.line X.env = pure false := by rfl)
    (hw : swappedStores [.Tuple [.Subscript o i t1, .Subscript o' i' t2] kt tp] e X.env = pure none := by rfl)
    (h1 : (assignEach [.Tuple [.Subscript o i t1, .Subscript o' i' t2] kt tp] X.env).map (·.2) = [assign (.Tuple [.Subscript o i t1, .Subscript o' i' t2] kt tp) X.env] := by rfl)
    (ha : ∀ v, assign (.Subscript o i t1) X.env v = (do
      let ov ← holding [v] (eval o X.env)
      let iv ← holding [v, ov] (eval i X.env)
      standAt t1
      holding [v, ov, iv] (setItem ov iv v)
      release [v, ov, iv] []) := by intro _; rfl)
    (ha' : ∀ v, assign (.Subscript o' i' t2) X.env v = (do
      let ov ← holding [v] (eval o' X.env)
      let iv ← holding [v, ov] (eval i' X.env)
      standAt t2
      holding [v, ov, iv] (setItem ov iv v)
      release [v, ov, iv] []) := by intro _; rfl)
    (hs1 : (assignEach [.Subscript o i t1, .Subscript o' i' t2] X.env).map (·.2) = assign (.Subscript o i t1) X.env :: (assignEach [.Subscript o' i' t2] X.env).map (·.2) := by rfl)
    (hs2 : (assignEach [.Subscript o' i' t2] X.env).map (·.2) = assign (.Subscript o' i' t2) X.env :: (assignEach [] X.env).map (·.2) := by rfl)
    (hn : (assignEach [.Subscript o i t1, .Subscript o' i' t2] X.env).length = 2 := by rfl) (hst : (assignEach [.Subscript o i t1, .Subscript o' i' t2] X.env).findIdx? (·.1) = none := by rfl) :
    AS X B E (.Assign [.Tuple [.Subscript o i t1, .Subscript o' i' t2] kt tp] e pos) (sIx2 We Wo Wi Wo' Wi') := ⟨(ps_asg he.pe (pg_tup hc (pgs_cons (pg_sub ho.pe hi.pe set_list ha) (pgs_cons (pg_sub ho'.pe hi'.pe set_list ha') pgs_nil hs2) hs1) hn hst) hs hw h1).weak fun D σ H q => by
  obtain ⟨φ, ρ, h, DA, r, w, f⟩ := q
  refine tA.mk r w fun v H1 φ1 t h1 e1 r1 rt w1 => ?_
  split at w1
  · rename_i u u'
    cases rt with
    | tup ht rs => cases rs with
      | cons ru rs => cases rs with
        | cons rv rs =>
          rename_i x _ _ _ y
          cases rs
          refine ⟨_, [_, _], rfl, ht, rfl, _, [_], rfl, ?_⟩
          refine tA.mk r1 w1 fun ox H2 φ2 uo h2 e2 r2 ro w2 => tA.mk r2 w2 fun ix H3 φ3 ui h3 e3 r3 ri w3 => ?_
          refine uSet_low r3.hp (ro.mono e3) ri (ru.mono (e2.trans e3)) w3 fun H4 h4 e4 rh4 w4 => ?_
          have r4 := r3.step e4 rh4
          refine ⟨_, [], rfl, ?_⟩
          refine tA.mk r4 w4 fun ox' H5 φ5 uo' h5 e5 r5 ro' w5 => tA.mk r5 w5 fun ix' H6 φ6 ui' h6 e6 r6 ri' w6 => ?_
          refine uSet_low r6.hp (ro'.mono e6) ri' (rv.mono ((((e2.trans e3).trans e4).trans e5).trans e6)) w6 fun H7 h7 e7 rh7 w7 => ?_
          exact ⟨rfl, f.nx _ _ _ _ _ ((((((e1.trans e2).trans e3).trans e4).trans e5).trans e6).trans e7) (r6.step e7 rh7) w7⟩
  · exact w1.elim⟩
/-! ### o[i] += e -/
/-! ### methods of texts -/
variable {name : Str}
/-! ### str(n), int(s), int(truth) -/
/-! ### f-strings -/
/-- the parts of an f-string, behind what is written already -/
abbrev WJ := Str → WE
def PJ (X : Cx) (es : List Expr) (t : Str → TE) : Prop := ∀ (acc : Str) (pins : List (Addr × Obj)) (s : Shared) (σ : St) (H : Hp) (Q : VK), Inv X pins σ H s → t acc σ H Q → wpAny (model X.prog X.w) X.A (joinParts acc (evalEach es X.env)) (EP X pins σ Q) X.xe s
structure AJ (X : Cx) (B : Bs) (E : EX) (es : List Expr) (W : WJ) : Prop where
  pj : PJ X es (fun acc => tA X.K B E (W acc))
end
end L2

namespace L2
open PySem PySem.Spec PyProof.Rows
section
variable {K : PySem.W.Frag} {M : Model} {A : Around} {E : Value → Shared → Prop} {s : Shared} {x C f : Addr} {ox : Obj} {od : Option Obj} {v : Value}
end
section
variable {K : PySem.W.Frag} {prog : Program} {w : World} {A : Around} {E : Value → Shared → Prop} {s : Shared} {x C f : Addr} {ox : Obj} {od : Option Obj} {v : Value}
end
/-! ### in the abstract -/
structure NeF (K : PySem.W.Frag) (G : Str → Addr) (F : List (Str × WF)) : Prop where
  f : ∀ c W, F.lookup c = some W → PySem.W.mroIn K (G c) (.type "object") = some true ∧ PySem.W.findIn K (.ref (G c)) "__ne__" = some (some (.builtin "object.__ne__"))
section
variable {X : Cx} {B : Bs} {k n : Nat}
end
end L2

namespace L2
open PySem PySem.Spec PyProof.Rows
/-! ### f(name = v), a function of one parameter -/
end L2

namespace L2
open PySem PySem.Spec PyProof.Rows
section
variable {K : PySem.W.Frag} {prog : Program} {w : World} {A : Around} {E : Value → Shared → Prop} {s : Shared} {x C f : Addr} {ox : Obj} {od : Option Obj} {v : Value}
/-! who declines -/
end
section
variable {prog : Program} {w : World} {A : Around} {l : Addr} {x : Value} {R : Result → Shared → Prop} {N : Nat}
end
/-! ### in the abstract: in, the things of the list of any kinds, x of an own class -/
def dcl (h : AH) : U → Prop
  | .non => True
  | .int _ => True
  | .str _ => True
  | .obj k => ∃ xs, lstAt h k = some xs
  | _ => False
def InM (F : List (Str × WF)) (l : Nat) (xs : List U) (m : Nat) : List U → AH → UQ → Prop
  | [], h, Q => ownLst h l = some xs ∧ Q (.bl false) h
  | u :: us, h, Q => ownLst h l = some xs ∧ u ≠ .obj m ∧ Opt (insAt h m) fun q => Opt (F.lookup q.1) fun W =>
      (∃ k p, u = .obj k ∧ insAt h k = some p ∧ p.1 = q.1 ∧ W [.obj k, .obj m] h (fun u h' => asB u fun t => (t = true → Q (.bl true) h') ∧ (t = false → InM F l xs m us h' Q)) (fun _ _ => False))
      ∨ (dcl h u ∧ W [.obj m, u] h (fun u h' => asB u fun t => (t = true → Q (.bl true) h') ∧ (t = false → InM F l xs m us h' Q)) (fun _ _ => False))
structure DcF (K : PySem.W.Frag) (G : Str → Addr) (F : List (Str × WF)) : Prop where
  f : ∀ c W, F.lookup c = some W → PySem.W.mroIn K (G c) (.type "list") = some false ∧ PySem.W.mroIn K (G c) (.type "int") = some false ∧ PySem.W.mroIn K (G c) (.type "str") = some false ∧ PySem.W.mroIn K (G c) (.type "NoneType") = some false
section
variable {X : Cx} {B : Bs} {k n : Nat}
theorem InM.lst {F : List (Str × WF)} {l m : Nat} {xs us : List U} {h : AH} {Q : UQ} (w : InM F l xs m us h Q) : ownLst h l = some xs := by
  cases us with
  | nil => exact w.1
  | cons u us => exact w.1
/-! ### list.clear -/
end
end L2

namespace L2
open PySem PySem.Spec PyProof.Rows
section
variable {X : Cx} {B : Bs}
end
end L2

namespace L2
open PySem PySem.Spec PyProof.Rows
end L2
namespace L2
open PySem PySem.Spec PyProof.Rows
section
variable {K : PySem.W.Frag} {G : Str → Addr} {φ : List Addr} {H : Hp}
end
section
variable {X : Cx} {B : Bs} {E : EX} {a : Expr} {We : WE} {p pos tpos : Pos}
end
end L2

namespace L2
open PySem PySem.Spec PyProof.Rows
/-- every other thing -/
def ev {α : Type} : List α → List α
  | [] => []
  | [x] => [x]
  | x :: _ :: r => x :: ev r
section
variable {X : Cx} {e lo st : Expr} {te tl ts : TE} {pos p2 : Pos}
end
section
variable {X : Cx} {B : Bs} {E : EX} {a b c : Expr} {Wa Wb Wc : WE} {pos p2 : Pos}
end
end L2

namespace L2
open PySem PySem.Spec PyProof.Rows
/-- a zip that has handed out its tuple -/
abbrev IsZipO (h : Heap) (z TI TO a : Addr) (f : Bool) : Prop :=
  h.get? z = some { cls := .type "zip", dict := none, data := .fields #[rawInt a, .bool f, .bool false, .ref TI, .ref TO], slots := #[] }
/-- a zip of two lists that stands at the places p and q of them, its first tuple handed out -/
structure Zip2 (h : Heap) (z TI TO i1 i2 l1 l2 a : Addr) (f : Bool) (p q : Nat) (xs ys : Array Value) : Prop where
  ap : ZipApart z TI TO i1 i2 l1 l2
  zp : IsZipO h z TI TO a f
  own : ∃ o, h.get? a = some o
  ti : IsPair h TI (.ref i1) (.ref i2)
  p1 : h.IsListIter i1 l1 p
  p2 : h.IsListIter i2 l2 q
  b1 : h.IsList l1 xs
  b2 : h.IsList l2 ys
section
variable {P : Program} {w : World} {A : Around} {E : Value → Shared → Prop} {m : Heap} {g : Array GenState} {dr : Drawn} {tk : Nat} {os : OsState} {z TI TO i1 i2 l1 l2 a : Addr} {f : Bool} {p q : Nat} {xs ys : Array Value}
end
/-- where a walk over a zip stands, its list in the making at S -/
structure ZSt (z TI TO i1 i2 l1 l2 S n1 : Addr) (xs ys : Array Value) (h : Heap) (i : Nat) (acc : Array Value) : Prop where
  zp : IsZip h z TI TO .none ∨ ∃ a f oa, n1 ≤ a ∧ IsZipO h z TI TO a f ∧ h.get? a = some oa
  ti : IsPair h TI (.ref i1) (.ref i2)
  to : ∃ a b, IsPair h TO a b
  a1 : h.IsListIter i1 l1 i
  a2 : h.IsListIter i2 l2 i
  b1 : h.IsList l1 xs
  b2 : h.IsList l2 ys
  sS : ∃ c, h.get? S = some { cls := .type "list", dict := none, data := .seq acc c, slots := #[] }
  sz : acc.size = i
  it : ∀ (j : Nat) (v : Value), acc[j]? = some v → ∃ (T : Addr) (x y : Value), v = Value.ref T ∧ n1 ≤ T ∧ IsPair h T x y ∧ xs[j]? = some x ∧ ys[j]? = some y
  big : n1 ≤ h.objs.size
  inj : ∀ (j k : Nat) (v : Value), acc[j]? = some v → acc[k]? = some v → j = k
structure ZAp (z TI TO i1 i2 l1 l2 S n1 : Addr) : Prop where
  D : ZipApart z TI TO i1 i2 l1 l2
  zn : z < n1
  TIn : TI < n1
  TOn : TO < n1
  i1n : i1 < n1
  i2n : i2 < n1
  Sn : S < n1
  Sz : S ≠ z
  STI : S ≠ TI
  STO : S ≠ TO
  Si1 : S ≠ i1
  Si2 : S ≠ i2
  Sl1 : S ≠ l1
  Sl2 : S ≠ l2
section
variable {pr : Program} {w : World} {A : Around} {E : Value → Shared → Prop} {s : Shared}
end
end L2

namespace L2
open PySem PySem.Spec PyProof.Rows
section
variable {X : Cx} {B : Bs}
/-! ### list.reverse -/
/-! ### list(range(..)), list(zip(..)) -/
/-! many new tuples at once -/
structure NewT (H : Hp) (ps : List (Addr × List V)) : Prop where
  nd : (ps.map (·.1)).Nodup
  new : ∀ p ∈ ps, H p.1 = none
theorem NewT.tail {H : Hp} {p : Addr × List V} {ps : List (Addr × List V)} {o : HO} (n : NewT H (p :: ps)) : NewT (upd H p.1 o) ps := by
  have nd := n.nd
  rw [List.map_cons, List.nodup_cons] at nd
  refine ⟨nd.2, fun q hq => ?_⟩
  rw [upd_ne (fun e => nd.1 (by rw [← e]; exact List.mem_map_of_mem hq))]
  exact n.new q (List.mem_cons_of_mem _ hq)
theorem HOk.add {P : Program} {w : World} {H : Hp} {h : Heap} {a : Addr} {o : HO} (x : HOk P w H h) (hn : H a = none) (new : ObjOk P w (upd H a o) h a o) : HOk P w (upd H a o) h := fun b u e => by
  by_cases hb : b = a
  · subst hb; rw [upd_same] at e; cases e; exact new
  · rw [upd_ne hb] at e
    exact (x b u e).stay (fun c v _ q => q) (fun c q => by rw [upd_ne (ne_of_none q hn)]; exact q) fun c xs q => by rw [upd_ne (ne_of_none q hn)]; exact q
/-- all that is new is laid at once -/
theorem Inv.all {pins : List (Addr × Obj)} {σ : St} {H H' : Hp} {s : Shared} {h' : Heap} {t' : Nat} (I : Inv X pins σ H s) (k : ∀ b u, s.heap.get? b = some u → h'.get? b = some u) (d : ∀ b, H' b = H b ∨ (H b = none ∧ s.heap.objs.size ≤ b)) (hok : HOk X.prog X.w H' h') : Inv X pins σ H' { s with heap := h', toks := t' } :=
  I.un ⟨fun b ob q _ _ _ => k b ob q, fun b ob q _ _ _ => ⟨ob.slots, k b ob q⟩, fun b ob q n _ => (d b).elim (fun e => e.trans n) (fun e => absurd (Nat.lt_of_lt_of_le (Heap.lt_size q) e.2) (Nat.lt_irrefl _)),
    fun b ob q _ => ⟨ob, k b ob q⟩, fun b xs q => (d b).elim (fun e => e.trans q) (fun e => absurd (e.1.symm.trans q) (fun z => nomatch z)),
    fun b u xs q => (d b).elim (fun e => e.trans q) (fun e => absurd (e.1.symm.trans q) (fun z => nomatch z)),
    fun b ps q => (d b).elim (fun e => ⟨#[], by rw [e, q]; simp⟩) (fun e => absurd (e.1.symm.trans q) (fun z => nomatch z))⟩ hok
/-! ### in the abstract -/
theorem AQ.pre {K : PySem.W.Frag} {G : Str → Addr} {φ φ1 : List Addr} {H H1 H' : Hp} {QA : UQ} {v : V} (e : Ext K φ H φ1 H1) (q : AQ K G φ1 H1 QA v H') : AQ K G φ H QA v H' := by
  obtain ⟨φ', u, h', e', q1, q2, q3⟩ := q
  exact ⟨φ', u, h', e.trans e', q1, q2, q3⟩
/-! ### sorted, whole numbers -/
end
end L2

namespace L2
open PySem PySem.Spec PyProof.Rows
/-! ### an exception that a block has noted already -/
section
variable {M : Model} {s : Shared} {A : Around} {E : Value → Shared → Prop}
end
/-- as Fly, whatever the flight says -/
def FlyA (bad : Addr → Prop) (H : Hp) (l : List Env) (e : Addr) (cls : Value) (dx : Option Addr) (h : Heap) : Prop :=
  ∃ (a0 fl : Value) (ex : List Addr), (PySem.W.hideAll h (frs l ++ ex)).get? e = none ∧ h.FunFrames (PySem.W.hideAll h (frs l ++ ex)) l ∧ h.TracedAtW (PySem.W.hideAll h (frs l ++ ex)) e cls a0 fl ∧ (∀ b ∈ ex, H b = none ∧ ¬ bad b) ∧ e ∈ ex ∧ ∃ oe, h.get? e = some oe ∧ oe.dict = dx
theorem Fly.any {bad : Addr → Prop} {H : Hp} {l : List Env} {e : Addr} {cls : Value} {dx : Option Addr} {h : Heap} (F : Fly bad H l e cls dx h) : FlyA bad H l e cls dx h := by
  obtain ⟨a0, ex, f, p, q, d⟩ := F
  exact ⟨a0, _, ex, f.2.1, f.2.2.1, f.2.2.2.at, p, q, d⟩
theorem FlyA.mono {bad bad' : Addr → Prop} {H : Hp} {l : List Env} {e : Addr} {cls : Value} {dx : Option Addr} {h : Heap} (F : FlyA bad H l e cls dx h) (m : ∀ b, bad' b → bad b) : FlyA bad' H l e cls dx h := by
  obtain ⟨a0, fl, ex, f1, f2, f3, p, q⟩ := F
  exact ⟨a0, fl, ex, f1, f2, f3, fun b hb => ⟨(p b hb).1, fun z => (p b hb).2 (m b z)⟩, q⟩
/-- what lies behind a call in a block, its exception perhaps noted -/
def CXA (P : Program) (w : World) : CXT := fun outer H s E e s' => ∃ (a : Addr) (cls : Value) (dx : Option Addr) (H' : Hp), e = .ref a ∧ s'.os = s.os ∧ AllBare s'.gens ∧ Un (frs outer) [] H H' s.heap s'.heap ∧ HOk P w H' s'.heap ∧
  FlyA (fun b => (s.heap.get? b).isSome = true) H' outer a cls dx s'.heap ∧ E cls dx H'
theorem CXR.any {P : Program} {w : World} {outer : List Env} {H : Hp} {s : Shared} {E : XK} {e : Value} {s' : Shared} (h : CXR P w outer H s E e s') : CXA P w outer H s E e s' := by
  obtain ⟨a, cls, dx, H', h1, h2, h3, h4, h5, h6, h7⟩ := h
  exact ⟨a, cls, dx, H', h1, h2, h3, h4, h5, h6.any, h7⟩
section
variable {P : Program} {w : World} {K : PySem.W.Frag} {mg : Str → Option Value} {base : Heap} {N : List Str} {qual : Str} {scope : Scope} {f : Addr} {cd : Value} {A : Around} {outer : List Env} {s₀ : Shared} {H₀ : Hp} {E₀ : XK}
end
section
variable {X : Cx} {pn : List (Addr × Obj)} {R : RK}
end
end L2

namespace L2
open PySem PySem.Spec PyProof.Rows
section
variable {X : Cx} {pins pinsB : List (Addr × Obj)} {σ σB : St} {H3 HB : Hp} {s3 sB s' : Shared} {scope : Scope} {ce : Env} {fp : List Addr} {E : St → XK} {Rk : XK}
end
end L2

namespace L2
open PySem PySem.Spec PyProof.Rows
section
variable {X : Cx}
end
end L2

namespace L2
open PySem PySem.Spec PyProof.Rows
/-! ### a comprehension whose step may raise -/
section
variable {X : Cx} {B : Bs} {E : EX} {We : WE} {T : WT}
end
end L2

namespace L2
open PySem PySem.Spec PyProof.Rows
/-! ### text * number -/
section
variable {X : Cx} {G : Str → Addr}
end
end L2

namespace L2
open PySem PySem.Spec PyProof.Rows
/-! ### C.m(x, ..): a method read off its class -/
structure CMet (P : Program) (w : World) (K : PySem.W.Frag) (mg : Str → Option Value) (base : Heap) (k : Nat) (cn : Str) (C : Addr) (m : Str) (ps : List Str) (sp : Sp) : Prop where
  ex : ∃ (f : Addr) (fd : FuncData) (mc : Value), mg cn = some (.ref C) ∧ PySem.W.specialIn K (.ref C) "__getattribute__" = some (some (.builtin "type.__getattribute__")) ∧ PySem.W.readsIn K C mc = true ∧
    PySem.W.findCls K (.ref C) mc m = some (.val (.ref f)) ∧ PySem.W.handedIn (.ref f) = true ∧ PySem.W.keepIn K (.ref f) = true ∧ FnOk P w K mg base (CXR P w) k f fd ps sp ∧ Binds K fd ps []
section
variable {X : Cx} {k n : Nat} {ps : List Str} {sp : Sp} {E : St → XK} {x cn m : Str} {C : Addr} {np p pos apos : Pos} {e o : Expr} {es : List Expr} {ta : TE} {t : TA} {pl : Sem Bool}
end
end L2

/-! A field stored on an object of an own class that has no dict yet (an exception that is being made) -/
namespace XJ
open PySem PySem.W PyProof.Rows Builtin Builtin.ObjectAttr
abbrev withDict (ob : Obj) (a : Addr) : Obj := { cls := ob.cls, dict := some a, data := ob.data, slots := ob.slots }
section
variable {m : Heap} {e : Addr} {ob : Obj}
end
/-- the object and its class, as the frozen part of the heap tells them -/
structure Bare (P : Program) (w : World) (K : Frag) (m : Heap) (e c : Addr) (ob : Obj) (line : List Value) (cd : ClassData) : Prop where
  kin : K.In m
  here : m.get? e = some ob
  cls : ob.cls = .ref c
  inst : ∀ z, ob.data ≠ .cls z
  bare : ob.dict = none
  mro : Looks (model P w) m (mroOf (.ref c)) line
  lets : refuseLoop (.ref e) "__setattr__" line = pure ()
  own : clsIn K c = some cd
  dicts : cd.hasDict = true
section
variable {P : Program} {w : World} {A : Around} {E : Value → Shared → Prop} {K : Frag} {m : Heap} {e c : Addr} {ob : Obj} {line : List Value} {cd : ClassData} {f : Str} {v : Value} {g : Array GenState} {dr : Drawn} {tk : Nat} {os : OsState}
/-- what a store leaves -/
structure Stored (m m' : Heap) (e : Addr) (ob : Obj) (f : Str) (v : Value) : Prop where
  old : ∀ b o, b ≠ e → m.get? b = some o → m'.get? b = some o
  obj : m'.get? e = some (withDict ob m.objs.size)
  ns : m'.Ns1 m.objs.size fun y => if y = f then some v else none
end
end XJ

/-! super().__init__(text) in a class that stands over ValueError -/
namespace XJ
open PySem PySem.W PyProof.Rows Builtin
abbrev vin : Value := .builtin "ValueError.__init__"
abbrev sup (d e c : Addr) : Obj := { cls := .type "super", dict := none, data := .fields #[.ref d, .ref e, .ref c], slots := #[] }
/-- a super object, its instance, and what stands behind the class d in the line of c -/
structure Sup (P : Program) (w : World) (K : Frag) (m : Heap) (so d e c : Addr) (ob : Obj) (line rest : List Value) : Prop where
  kin : K.In m
  at_ : m.get? so = some (sup d e c)
  here : m.get? e = some ob
  cls : ob.cls = .ref c
  ne : e ≠ c
  own : Looks (model P w) m (opaqueClassAbove (.ref c)) none
  mro : Looks (model P w) m (mroOf (.ref c)) line
  cut : (line.dropWhile (· != .ref d)).drop 1 = rest
  init : alongIn K "__init__" rest = some (some vin)
  sub : Looks (model P w) m (isSubtype (.ref c) (.type "ValueError")) true
section
variable {P : Program} {w : World} {A : Around} {E : Value → Shared → Prop} {K : Frag} {m : Heap} {so d e c : Addr} {ob : Obj} {line rest : List Value} {v : Value} {g : Array GenState} {dr : Drawn} {tk : Nat} {os : OsState}
end
end XJ

namespace XJ
open PySem PySem.W PyProof.Rows Builtin
section
variable {P : Program} {w : World} {A : Around} {E : Value → Shared → Prop} {K : Frag} {m : Heap} {so d e c : Addr} {ob : Obj} {line rest : List Value} {v : Value} {g : Array GenState} {dr : Drawn} {tk : Nat} {os : OsState}
end
end XJ

/-! C(..): an own class of exceptions with an __init__ of its own is called -/
namespace XJ
open PySem PySem.W PyProof.Rows Builtin
/-- the class in the heap: its line, its base's making, its own __init__ -/
structure ExcInit (m : Heap) (c n fn : Addr) (nm q : Str) (bs tl bmB : List Value) (hd : Bool) (sn : List Str) (sub : List Value) (ab : Bool) (col : Option Bool) (dd : Option Addr) (k0 k1 k2 k3 k5 : Option Value) (B nid iid : String) (ns : Str → Option Value) (fo : Obj) : Prop where
  base : ExcBaseFacts B nid iid bmB
  cls : m.get? c = some (excClassObj nm q c n bs tl hd sn sub ab col dd k0 k1 k2 k3 k5 nid)
  names : m.Ns n ns
  tail : OwnTail m bmB tl
  init : ns "__init__" = some (.ref fn)
  fn : m.get? fn = some fo
  isFn : fo.cls = .type "function"
section
variable {P : Program} {w : World} {A : Around} {E : Value → Shared → Prop} {m : Heap} {g : Array GenState} {dr : Drawn} {tk : Nat} {os : OsState} {c n fn : Addr} {nm q : Str} {bs tl bmB : List Value} {hd : Bool} {sn : List Str} {sub : List Value} {ab : Bool} {col : Option Bool} {dd : Option Addr} {k0 k1 k2 k3 k5 : Option Value} {B nid iid : String} {ns : Str → Option Value} {fo : Obj} {vs : List Value}
abbrev rawExc (c t : Addr) : Obj := { cls := .ref c, data := .fields #[.ref t, .none, .none, .none, .bool false, .none] }
end
end XJ

/-! raise C(..) for such a class -/
namespace XJ
open PySem PySem.W PyProof.Rows Builtin
section
variable {M : Model} {A : Around} {E : Value → Shared → Prop} {s : Shared} {env : Env} {c n : Addr} {nm q : Str} {bs tl : List Value} {hd : Bool} {sn : List Str} {sub : List Value} {ab : Bool} {col : Option Bool} {dd : Option Addr} {k0 k1 k2 k3 k5 : Option Value} {nid : String}
/-- an exception that may be raised: an object of the class c, not yet raised -/
structure Ready (h : Heap) (c n : Addr) (nm q : Str) (bs tl : List Value) (hd : Bool) (sn : List Str) (sub : List Value) (ab : Bool) (col : Option Bool) (dd : Option Addr) (k0 k1 k2 k3 k5 : Option Value) (nid : String) (e : Addr) (dx : Option Addr) (t : Addr) : Prop where
  cls : h.get? c = some (excClassObj nm q c n bs tl hd sn sub ab col dd k0 k1 k2 k3 k5 nid)
  obj : h.get? e = some { cls := .ref c, dict := dx, data := .fields #[.ref t, .none, .none, .none, .bool false, .none] }
end
section
variable {P : Program} {w : World} {A : Around} {E : Value → Shared → Prop} {s : Shared} {env : Env} {c n fn : Addr} {nm q : Str} {bs tl bmB : List Value} {hd : Bool} {sn : List Str} {sub : List Value} {ab : Bool} {col : Option Bool} {dd : Option Addr} {k0 k1 k2 k3 k5 : Option Value} {B nid iid : String} {ns : Str → Option Value} {fo : Obj}
end
end XJ

/-! the def's own body: super() -/
namespace XJ
open PySem PySem.W PyProof.Rows Builtin
/-- what the frozen heap tells of a method whose body says super() -/
structure Node (P : Program) (w : World) (K : Frag) (m : Heap) (mg : Str → Option Value) (fn d e c cc cda : Addr) (fd : FuncData) (ob : Obj) (cd : ClassData) (me : Str) : Prop where
  kin : K.In m
  fn : ∃ of, m.get? fn = some of ∧ of.data = .func fd
  first : ∃ ar, (fd.params.posonlyargs ++ fd.params.args).head? = some ar ∧ ar.arg = me
  code : ∃ oc vs file tf, m.get? cda = some oc ∧ oc.data = .fields vs ∧ vs[2]? = some (.str file tf) ∧ ((P.main.file : Str) == file) = true
  cell : m.IsCell cc (some (.ref d))
  dcls : ∃ od, m.get? d = some od ∧ od.data = .cls cd
  here : m.get? e = some ob
  cls : ob.cls = .ref c
  inst : ∀ z, ob.data ≠ .cls z
  sub : Looks (model P w) m (isSubtype (.ref c) (.ref d)) true
  glob : m.Ns mainGlobals mg
  noSup : mg "super" = none
  blt : ∃ mb, m.Ns builtinsNs mb ∧ mb "super" = some (.type "super")
  top : (P.main.scope.names.lookup ("super" : Str)).isSome = false
section
variable {P : Program} {w : World} {A : Around} {E : Value → Shared → Prop} {K : Frag} {m : Heap} {mg ml : Str → Option Value} {fn d e c cc cda L : Addr} {fd : FuncData} {ob : Obj} {cd : ClassData} {me q : Str} {scope : Scope} {body : List Stmt} {g : Array GenState} {dr : Drawn} {tk : Nat} {os : OsState} {p0 p1 : Pos} {whole : Sem Value}
end
end XJ

/-! the def's own body: super().__init__(text) -/
namespace XJ
open PySem PySem.W PyProof.Rows Builtin
section
variable {P : Program} {w : World} {A : Around} {E : Value → Shared → Prop} {s : Shared} {env : Env} {b e : Addr} {te : Expr} {pos : Pos}
end
end XJ

/-! the def's own body: super().__init__(text) -/
namespace XJ
open PySem PySem.W PyProof.Rows Builtin
/-- the line behind the class d -/
structure Line (P : Program) (w : World) (K : Frag) (m : Heap) (d c : Addr) (line rest : List Value) : Prop where
  own : Looks (model P w) m (opaqueClassAbove (.ref c)) none
  mro : Looks (model P w) m (mroOf (.ref c)) line
  cut : (line.dropWhile (· != .ref d)).drop 1 = rest
  init : alongIn K "__init__" rest = some (some vin)
  sub : Looks (model P w) m (isSubtype (.ref c) (.type "ValueError")) true
section
variable {P : Program} {w : World} {A : Around} {E : Value → Shared → Prop} {K : Frag} {m : Heap} {mg ml : Str → Option Value} {fn d e c cc cda L : Addr} {fd : FuncData} {ob : Obj} {cd cdc : ClassData} {me q : Str} {scope : Scope} {body : List Stmt} {g : Array GenState} {dr : Drawn} {tk : Nat} {os : OsState} {p0 p1 ap cp sp : Pos} {te : Expr} {line rest : List Value} {t0 : Addr} {vs : Array Value}
end
end XJ

/-! the whole def: super().__init__(text); me.f = pv -/
namespace XJ
open PySem PySem.W PyProof.Rows Builtin
section
variable {P : Program} {w : World} {A : Around} {E : Value → Shared → Prop} {K : Frag} {m : Heap} {mg : Str → Option Value} {fn d e c cc cda t0 : Addr} {cd cdc : ClassData} {me pv f q : Str} {scope : Scope} {g : Array GenState} {dr : Drawn} {tk : Nat} {os : OsState} {p0 p1 p2 p3 p4 ap cp sp sp2 : Pos} {te : Expr} {line rest : List Value}
  {params : Arguments} {dV kV doc pm ct oc v : Value} {an od : Option Addr} {osl : Array (Option Value)} {R : Result → Shared → Prop}
/-- what the def leaves: the exception bears a dict with its one field -/
structure Told (m m' : Heap) (e c : Addr) (f : Str) (v : Value) : Prop where
  old : ∀ b o, b ≠ e → m.get? b = some o → m'.get? b = some o
  obj : ∃ t1 dx, m'.get? e = some { cls := .ref c, dict := some dx, data := .fields #[.ref t1, .none, .none, .none, .bool false, .none] } ∧ m.get? dx = none ∧ m'.Ns1 dx fun y => if y = f then some v else none
end
end XJ

/-! super().__init__(text) in a class that stands over Exception -/
namespace XE
open XJ PySem PySem.W PyProof.Rows Builtin
abbrev vin : Value := .builtin "Exception.__init__"
abbrev sup (d e c : Addr) : Obj := { cls := .type "super", dict := none, data := .fields #[.ref d, .ref e, .ref c], slots := #[] }
/-- a super object, its instance, and what stands behind the class d in the line of c -/
structure Sup (P : Program) (w : World) (K : Frag) (m : Heap) (so d e c : Addr) (ob : Obj) (line rest : List Value) : Prop where
  kin : K.In m
  at_ : m.get? so = some (sup d e c)
  here : m.get? e = some ob
  cls : ob.cls = .ref c
  ne : e ≠ c
  own : Looks (model P w) m (opaqueClassAbove (.ref c)) none
  mro : Looks (model P w) m (mroOf (.ref c)) line
  cut : (line.dropWhile (· != .ref d)).drop 1 = rest
  init : alongIn K "__init__" rest = some (some vin)
  sub : Looks (model P w) m (isSubtype (.ref c) (.type "Exception")) true
section
variable {P : Program} {w : World} {A : Around} {E : Value → Shared → Prop} {K : Frag} {m : Heap} {so d e c : Addr} {ob : Obj} {line rest : List Value} {v : Value} {g : Array GenState} {dr : Drawn} {tk : Nat} {os : OsState}
end
end XE

namespace XE
open XJ PySem PySem.W PyProof.Rows Builtin
section
variable {P : Program} {w : World} {A : Around} {E : Value → Shared → Prop} {K : Frag} {m : Heap} {so d e c : Addr} {ob : Obj} {line rest : List Value} {v : Value} {g : Array GenState} {dr : Drawn} {tk : Nat} {os : OsState}
end
end XE

/-! the def's own body: super().__init__(text) -/
namespace XE
open XJ PySem PySem.W PyProof.Rows Builtin
section
variable {P : Program} {w : World} {A : Around} {E : Value → Shared → Prop} {s : Shared} {env : Env} {b e : Addr} {te : Expr} {pos : Pos}
end
end XE

/-! the def's own body: super().__init__(text) -/
namespace XE
open XJ PySem PySem.W PyProof.Rows Builtin
/-- the line behind the class d -/
structure Line (P : Program) (w : World) (K : Frag) (m : Heap) (d c : Addr) (line rest : List Value) : Prop where
  own : Looks (model P w) m (opaqueClassAbove (.ref c)) none
  mro : Looks (model P w) m (mroOf (.ref c)) line
  cut : (line.dropWhile (· != .ref d)).drop 1 = rest
  init : alongIn K "__init__" rest = some (some vin)
  sub : Looks (model P w) m (isSubtype (.ref c) (.type "Exception")) true
section
variable {P : Program} {w : World} {A : Around} {E : Value → Shared → Prop} {K : Frag} {m : Heap} {mg ml : Str → Option Value} {fn d e c cc cda L : Addr} {fd : FuncData} {ob : Obj} {cd cdc : ClassData} {me q : Str} {scope : Scope} {body : List Stmt} {g : Array GenState} {dr : Drawn} {tk : Nat} {os : OsState} {p0 p1 ap cp sp : Pos} {te : Expr} {line rest : List Value} {t0 : Addr} {vs : Array Value}
end
end XE

/-! the whole def: super().__init__(text); me.f = pv -/
namespace XE
open XJ PySem PySem.W PyProof.Rows Builtin
section
variable {P : Program} {w : World} {A : Around} {E : Value → Shared → Prop} {K : Frag} {m : Heap} {mg : Str → Option Value} {fn d e c cc cda t0 : Addr} {cd cdc : ClassData} {me pv f q : Str} {scope : Scope} {g : Array GenState} {dr : Drawn} {tk : Nat} {os : OsState} {p0 p1 p2 p3 p4 ap cp sp sp2 : Pos} {te : Expr} {line rest : List Value}
  {params : Arguments} {dV kV doc pm ct oc v : Value} {an od : Option Addr} {osl : Array (Option Value)} {R : Result → Shared → Prop}
end
end XE

/-! the text that an exception with a told field is made of -/
namespace L2
open PySem PySem.Spec PyProof.Rows
/-- a value that can stand in such a text -/
def Fit (v : Value) : Prop := (∃ i t, v = .int i t ∧ i.natAbs.log2 < 1920) ∨ (∃ x t, v = .str x t ∧ x.length ≤ 1000000)
/-- parts of a text: written ones, and the value named pv -/
inductive Pts (pv : Str) : List Expr → Prop
  | nil : Pts pv []
  | txt {x : Str} {j p es} (h : x.length ≤ 1000) (r : Pts pv es) : Pts pv (.Constant (.str x) j p :: es)
  | val {np p es} (r : Pts pv es) : Pts pv (.FormattedValue (.Name pv np) (-1) none p :: es)
section
variable {P : Program} {w : World} {A : Around} {E : Value → Shared → Prop} {env : Env} {L : Addr} {mA : Str → Option Value} {v : Value} {pv : Str} {g : Array GenState} {dr : Drawn} {os : OsState} {m : Heap}
/-- one text as the only argument -/
inductive Txt1 (pv : Str) (okv : Value → Prop) : Expr → Prop
  | txt {x : Str} {j p} : Txt1 pv okv (.Constant (.str x) j p)
  | many {a b es p} (F : ∀ v, okv v → Fit v) (T : Pts pv (a :: b :: es)) (few : (a :: b :: es).length ≤ 5) : Txt1 pv okv (.JoinedStr (a :: b :: es) p)
end
end L2

namespace L2
open PySem PySem.Spec PyProof.Rows
section
variable {P : Program} {w : World} {K : PySem.W.Frag} {mg : Str → Option Value} {base : Heap} {N : List Str} {qual : Str} {scope : Scope} {f : Addr} {cd : Value} {A : Around} {outer : List Env} {s₀ : Shared} {H₀ : Hp} {E₀ : XK}
end
end L2

namespace L2
open PySem PySem.Spec PyProof.Rows
/-- an own class of exceptions whose __init__ stores one field -/
structure OwnI (P : Program) (w : World) (K : PySem.W.Frag) (x : Str) (C : Addr) (fld : Str) (fit : Bool) (mg : Str → Option Value) (base : Heap) (k : Nat) : Prop where
  ex : Mod K mg base → ∃ (n fn : Addr) (nm q : Str) (bs tl bmB : List Value) (hd : Bool) (sn : List Str) (sub : List Value) (ab : Bool) (col : Option Bool) (dd : Option Addr) (k0 k1 k2 k3 k5 : Option Value) (B nid iid : String) (ns : Str → Option Value) (fo : Obj),
    XJ.ExcInit base C n fn nm q bs tl bmB hd sn sub ab col dd k0 k1 k2 k3 k5 B nid iid ns fo ∧ mg x = some (.ref C) ∧ tl.contains (.type "BaseException") = true ∧
    ∀ (A : Around) (s : Shared) (e t0 : Addr) (v : Value) (R : Result → Shared → Prop), (fit = true → Fit v) → Room k A → (∀ b o, base.get? b = some o → s.heap.get? b = some o) → s.heap.get? e = some (XJ.rawExc C t0) → base.get? e = none →
      (∀ m' t', XJ.Told s.heap m' e C fld v → R (.ok (.ret .none)) { s with heap := m', toks := t' }) → codeAny (model P w) A (.call (.ref fn) ⟨.ref e :: [v], []⟩) R s
section
variable {P : Program} {w : World} {K : PySem.W.Frag} {mg : Str → Option Value} {base : Heap} {N : List Str} {qual : Str} {scope : Scope} {f : Addr} {cd : Value} {A : Around} {outer : List Env} {s₀ : Shared} {H₀ : Hp} {E₀ : XK} {k n : Nat}
theorem Inv.more {X : Cx} {pins : List (Addr × Obj)} {σ : St} {H H' : Hp} {s : Shared} {h' : Heap} {t' : Nat} (I : Inv X pins σ H s) (k : ∀ b u, s.heap.get? b = some u → h'.get? b = some u) (d : ∀ b, H' b = H b ∨ (H b = none ∧ s.heap.get? b = none)) (hok : HOk X.prog X.w H' h') : Inv X pins σ H' { s with heap := h', toks := t' } := by
  have no : ∀ {b : Addr} {o : HO}, (H b = none ∧ s.heap.get? b = none) → H b ≠ some o := fun z q => by rw [z.1] at q; cases q
  refine I.un ⟨fun b ob q _ _ _ => k b ob q, fun b ob q _ _ _ => ⟨ob.slots, k b ob q⟩, fun b ob q n _ => ?_, fun b ob q _ => ⟨ob, k b ob q⟩, fun b xs q => ?_, fun b u xs q => ?_, fun b ps q => ?_⟩ hok
  · rcases d b with z | z
    · exact z.trans n
    · rw [z.2] at q; cases q
  · rcases d b with z | z
    · exact z.trans q
    · exact absurd q (no z)
  · rcases d b with z | z
    · exact z.trans q
    · exact absurd q (no z)
  · rcases d b with z | z
    · exact ⟨#[], by rw [z, q]; simp⟩
    · exact absurd q (no z)
end
end L2

/-! a class of exceptions with a told field, from what the top has written -/
namespace L2
open PySem PySem.Spec PyProof.Rows
section
variable {K : PySem.W.Frag} {x fld : Str} {C n fn cda cc : Addr} {fit : Bool} {file me pv q : Str} {scope : Scope} {params : Arguments} {dd od od2 od3 an : Option Addr} {cd : ClassData} {sl osl osl2 osl3 : Array (Option Value)} {tl : List Value} {k0 k1 k2 k3 k5 : Option Value} {te : Expr} {p0 p1 p2 p3 p4 ap cp sp sp2 : Pos} {dV kV doc pm ct oc2 oc3 : Value} {vs : Array Value} {tf : Tok} {ar : Arg} {pl : Sem Bool} {fd : FuncData}
end
end L2

/-! a class of exceptions with a told field, from what the top has written -/
namespace L2
open PySem PySem.Spec PyProof.Rows
section
variable {K : PySem.W.Frag} {x fld : Str} {C n fn cda cc : Addr} {fit : Bool} {file me pv q : Str} {scope : Scope} {params : Arguments} {dd od od2 od3 an : Option Addr} {cd : ClassData} {sl osl osl2 osl3 : Array (Option Value)} {tl : List Value} {k0 k1 k2 k3 k5 : Option Value} {te : Expr} {p0 p1 p2 p3 p4 ap cp sp sp2 : Pos} {dV kV doc pm ct oc2 oc3 : Value} {vs : Array Value} {tf : Tok} {ar : Arg} {pl : Sem Bool} {fd : FuncData}
end
end L2

namespace L2
open PySem PySem.Spec PyProof.Rows
section
variable {P : Program} {w : World} {K : PySem.W.Frag} {mg : Str → Option Value} {base : Heap} {N : List Str} {qual : Str} {scope : Scope} {f : Addr} {cd : Value} {A : Around} {outer : List Env} {s₀ : Shared} {H₀ : Hp} {E₀ : XK} {B : Bs} {E : EX} {We : WE} {k : Nat}
end
end L2

namespace L2
open PySem PySem.Spec PyProof.Rows
/-! ### C.m(x, ..): a method read off its class -/
section
variable {X : Cx} {B : Bs} {E : EX} {Wr : WA} {W : WF} {k n : Nat} {ps : List Str}
end
end L2

namespace XJ
open PySem PySem.W PyProof.Rows Builtin
section
variable {P : Program} {w : World} {A : Around} {E : Value → Shared → Prop} {K : Frag} {m : Heap} {e c d : Addr} {ob : Obj} {nm : Str} {v : Value} {ns : Str → Option Value} {vs : Array Value} {g : Array GenState} {dr : Drawn} {tk : Nat} {os : OsState}
end
end XJ

namespace XJ
open PySem PySem.W PyProof.Rows Builtin
section
variable {P : Program} {w : World} {A : Around} {E : Value → Shared → Prop} {K : Frag} {m : Heap} {e c d : Addr} {ob : Obj} {nm : Str} {v : Value} {ns : Str → Option Value} {vs : Array Value} {g : Array GenState} {dr : Drawn} {tk : Nat} {os : OsState}
end
end XJ

namespace L2
open PySem PySem.Spec PyProof.Rows
/-- what is asked of the class of an exception whose field is read -/
structure ExF (K : PySem.W.Frag) (C : Addr) (f : Str) : Prop where
  cls : ExcCls K C
  no : PySem.W.findIn K (.ref C) f = some none
  own : ∃ cd, PySem.W.clsIn K C = some cd ∧ cd.hasDict = true
section
variable {X : Cx} {e : Expr} {f : Str} {pos : Pos} {te : TE}
end
end L2

namespace L2
open PySem PySem.Spec PyProof.Rows
section
variable {X : Cx} {B : Bs} {E : EX} {e : Expr} {We : WE} {pos : Pos}
end
end L2

namespace L2
open PySem PySem.Spec PyProof.Rows
/-- a class of own objects, made with nothing but what its def has by itself -/
structure MakD (P : Program) (w : World) (K : PySem.W.Frag) (mg : Str → Option Value) (base : Heap) (k : Nat) (x : Str) (C : Addr) (ps : List Str) (dvs : List V) (sp : Sp) : Prop where
  ex : ∃ (f : Addr) (fd : FuncData) (ds : List Value), Mk K C f ∧ FnOk P w K mg base (CXR P w) k f fd ps sp ∧ mg x = some (.ref C) ∧ Binds K fd ps ds ∧ Vals dvs ds
section
variable {X : Cx} {B : Bs} {E : EX} {W : WF} {k n : Nat} {ps : List Str} {x : Str} {p pos : Pos}
end
/-- a def of a class, read off the class -/
structure TopC (K : PySem.W.Frag) (mg : Str → Option Value) (cn : Str) (C : Addr) (m qual : Str) (st : Stmt) : Prop where
  ex : ∃ (f : Addr) (fd : FuncData), FunD K m qual st .none f fd ∧ mg cn = some (.ref C) ∧ PySem.W.specialIn K (.ref C) "__getattribute__" = some (some (.builtin "type.__getattribute__")) ∧ PySem.W.readsIn K C (.type "type") = true ∧
    PySem.W.findCls K (.ref C) (.type "type") m = some (.val (.ref f)) ∧ PySem.W.handedIn (.ref f) = true ∧ PySem.W.keepIn K (.ref f) = true
section
variable {P : Program} {w : World} {K : PySem.W.Frag} {mg : Str → Option Value} {base : Heap} {cn m qual : Str} {C f : Addr} {st : Stmt} {n : Nat} {ps : List Str} {sp : Sp}
theorem TopC.met (T : TopC K mg cn C m qual st) (h : ∀ (kV doc pm : Value) (an : Option Addr) (cdv ct : Value) (us : List Value), us.length = ps.length → bindArgs (PySem.W.fnOf m qual (defArgs st) (defBody st) (defScope st) .none kV doc pm an cdv ct) ⟨us, []⟩ = pure (ps.zip us))
    (ok : ∀ f fd, FunD K m qual st .none f fd → FnOk P w K mg base (CXR P w) n f fd ps sp) : CMet P w K mg base n cn C m ps sp := by
  obtain ⟨f, fd, F, hm, ga, rd, fc, hh, kp⟩ := T.ex
  refine ⟨f, fd, _, hm, ga, rd, fc, hh, kp, ok f fd F, ?_⟩
  obtain ⟨oc, od, kV, doc, pm, an, cdv, ct, osl, rfl, lk, hcd⟩ := F.ex
  exact .all (h kV doc pm an cdv ct)
end
end L2

namespace K
open PySem L2
/-! ### the mathematics of fractions -/
/-- top and bottom in lowest terms -/
def dv (a b : Int) : Int := if b < 0 then -(Int.gcd a b : Int) else (Int.gcd a b : Int)
def lo1 (a b : Int) : Int := a.fdiv (dv a b)
def lo2 (a b : Int) : Int := b.fdiv (dv a b)
theorem dv_ne {a b : Int} (h : b ≠ 0) : dv a b ≠ 0 := by
  unfold dv
  have : 0 < Int.gcd a b := Int.gcd_pos_of_ne_zero_right _ h
  split <;> omega
theorem dv_small {a b : Int} (h : b ≠ 0) (hb : b.natAbs.log2 < 9000) : (dv a b).natAbs.log2 < 9000 := by
  have e : (dv a b).natAbs = Int.gcd a b := by unfold dv; split <;> simp
  rw [e]
  have hp : 0 < Int.gcd a b := Int.gcd_pos_of_ne_zero_right _ h
  have hle : Int.gcd a b ≤ b.natAbs := Nat.le_of_dvd (by omega) (by have := Int.gcd_dvd_right (a := a) (b := b); exact Int.natAbs_dvd_natAbs.mpr this |> fun z => by simpa using z)
  refine (Nat.log2_lt (by omega)).mpr ?_
  exact Nat.lt_of_le_of_lt hle ((Nat.log2_lt (by omega)).mp hb)
theorem gcd_step {x y : Int} (h1 : 0 ≤ x) (h2 : 0 < y) : Int.gcd y (x % y) = Int.gcd x y := by
  obtain ⟨m, rfl⟩ := Int.eq_ofNat_of_zero_le h1
  obtain ⟨n, rfl⟩ := Int.eq_ofNat_of_zero_le (Int.le_of_lt h2)
  show Nat.gcd n (m % n) = Nat.gcd m n
  rw [Nat.gcd_comm n, ← Nat.gcd_rec, Nat.gcd_comm]
theorem log2_le {n k : Nat} (h : n < 2 ^ k) (hk : 0 < k) : n.log2 < k := by
  rcases Nat.eq_zero_or_pos n with rfl | hp
  · simpa using hk
  · exact (Nat.log2_lt (by omega)).mpr h

/-! ### sizes -/
def Sz (x : Int) : Prop := x.natAbs < 10 ^ 41
theorem Sz.bits {x : Int} (h : Sz x) : Builtin.Int.intBits x ≤ 137 := PyProof.Rows.intBits_le (Nat.lt_of_lt_of_le h (by decide))
theorem Sz.mul {x y : Int} (h : Sz x) (g : Sz y) : IntMulOk x y := PyProof.Rows.mulOk_of_bits h.bits g.bits (by decide)
theorem dv_dvd (a b : Int) : dv a b ∣ a ∧ dv a b ∣ b := by
  unfold dv
  split
  · exact ⟨Int.neg_dvd.mpr (Int.gcd_dvd_left ..), Int.neg_dvd.mpr (Int.gcd_dvd_right ..)⟩
  · exact ⟨Int.gcd_dvd_left .., Int.gcd_dvd_right ..⟩
theorem quo_le {d x : Int} (h0 : d ≠ 0) (h : d ∣ x) : (x.fdiv d).natAbs ≤ x.natAbs ∧ d * x.fdiv d = x := by
  obtain ⟨q, rfl⟩ := h
  rw [Int.mul_fdiv_cancel_left _ h0]
  refine ⟨?_, rfl⟩
  rw [Int.natAbs_mul]
  exact Nat.le_mul_of_pos_left _ (by omega)
/-! ### fractions in lowest terms are the rational numbers -/
theorem dv_eq {a b : Int} (hb : b ≠ 0) : ∃ m n : Int, a = (Int.gcd a b : Int) * m ∧ b = (Int.gcd a b : Int) * n ∧ 0 < (Int.gcd a b : Int) := by
  obtain ⟨m, hm⟩ := Int.gcd_dvd_left a b
  obtain ⟨n, hn⟩ := Int.gcd_dvd_right a b
  have : 0 < Int.gcd a b := Int.gcd_pos_of_ne_zero_right _ hb
  exact ⟨m, n, hm, hn, by omega⟩
theorem lo_num {a b : Int} (hb : b ≠ 0) : lo1 a b = (Rat.divInt a b).num := by
  rw [Rat.num_divInt, Int.gcd_comm b a]
  obtain ⟨m, n, hm, hn, hg⟩ := dv_eq (a := a) hb
  unfold lo1 dv
  generalize (Int.gcd a b : Int) = g at *
  have g0 : g ≠ 0 := by omega
  subst hm
  split
  · rename_i h
    rw [Int.sign_eq_neg_one_of_neg h, show (-g : Int) = g * (-1) by omega, show g * m = g * (-1) * (-m) by grind, Int.mul_fdiv_cancel_left _ (by omega), show -1 * (g * -1 * -m) = g * (-m) by grind, Int.mul_ediv_cancel_left _ g0]
  · rename_i h
    rw [Int.sign_eq_one_of_pos (by omega), Int.one_mul, Int.mul_ediv_cancel_left _ g0, Int.mul_fdiv_cancel_left _ g0]
theorem lo_den {a b : Int} (hb : b ≠ 0) : lo2 a b = ((Rat.divInt a b).den : Int) := by
  rw [Rat.den_divInt, if_neg hb, Int.gcd_comm b a]
  obtain ⟨m, n, hm, hn, hg⟩ := dv_eq (a := a) hb
  unfold lo2 dv
  rw [Int.natCast_ediv]
  generalize (Int.gcd a b : Int) = g at *
  have g0 : g ≠ 0 := by omega
  subst hn
  split
  · rename_i h
    rw [show ((g * n).natAbs : Int) = g * (-n) by rw [Int.ofNat_natAbs_of_nonpos (by omega)]; grind, Int.mul_ediv_cancel_left _ g0, show (-g : Int) = g * (-1) by omega, show g * n = g * (-1) * (-n) by grind, Int.mul_fdiv_cancel_left _ (by omega)]
  · rename_i h
    rw [Int.natAbs_of_nonneg (by omega), Int.mul_ediv_cancel_left _ g0, Int.mul_fdiv_cancel_left _ g0]
/-- a bound of both parts -/
structure Bt (k : Nat) (r : Rat) : Prop where
  n : r.num.natAbs < 2 ^ k
  d : r.den < 2 ^ k
theorem Bt.mono {j k : Nat} {r : Rat} (h : Bt j r) (e : j ≤ k) : Bt k r := ⟨Nat.lt_of_lt_of_le h.n (Nat.pow_le_pow_right (by decide) e), Nat.lt_of_lt_of_le h.d (Nat.pow_le_pow_right (by decide) e)⟩
theorem Bt.div {k : Nat} {a b : Int} (hb : b ≠ 0) (h1 : a.natAbs < 2 ^ k) (h2 : b.natAbs < 2 ^ k) : Bt k (Rat.divInt a b) := by
  refine ⟨?_, ?_⟩
  · rw [← lo_num hb]
    exact Nat.lt_of_le_of_lt (quo_le (dv_ne hb) (dv_dvd a b).1).1 h1
  · have := (quo_le (dv_ne (a := a) hb) (dv_dvd a b).2).1
    have e : lo2 a b = _ := lo_den (a := a) hb
    unfold lo2 at e
    rw [e, Int.natAbs_natCast] at this
    exact Nat.lt_of_le_of_lt this h2
theorem mul_lt_pow {x y j k : Nat} (h : x < 2 ^ j) (g : y < 2 ^ k) : x * y < 2 ^ (j + k) := by
  rw [Nat.pow_add]
  exact Nat.mul_lt_mul'' h g
theorem num_den (r : Rat) : Rat.divInt r.num r.den = r := Rat.num_divInt_den r
theorem den_ne (r : Rat) : (r.den : Int) ≠ 0 := by have := r.den_nz; omega
theorem den_mul_ne (r s : Rat) : (r.den : Int) * s.den ≠ 0 := Int.mul_ne_zero (den_ne r) (den_ne s)
theorem add_div (r s : Rat) : Rat.divInt (r.num * s.den + s.num * r.den) (r.den * s.den) = r + s := by
  rw [← Rat.divInt_add_divInt _ _ (den_ne r) (den_ne s), num_den, num_den]
theorem sub_div (r s : Rat) : Rat.divInt (r.num * s.den - s.num * r.den) (r.den * s.den) = r - s := by
  rw [← Rat.divInt_sub_divInt _ _ (den_ne r) (den_ne s), num_den, num_den]
theorem mul_div (r s : Rat) : Rat.divInt (r.num * s.num) (r.den * s.den) = r * s := by
  rw [← Rat.divInt_mul_divInt, num_den, num_den]
theorem Bt.mulN {j k : Nat} {r s : Rat} (h : Bt j r) (g : Bt k s) : ((r.den : Int) * s.den).natAbs < 2 ^ (j + k) := by
  rw [Int.natAbs_mul]; exact mul_lt_pow h.d g.d
theorem Bt.addN {j k : Nat} {r s : Rat} (h : Bt j r) (g : Bt k s) : (r.num * s.den + s.num * r.den).natAbs < 2 ^ (j + k + 1) := by
  have h1 := mul_lt_pow h.n g.d
  have h2 := mul_lt_pow g.n h.d
  rw [Nat.add_comm k j] at h2
  have h3 : (r.num * s.den).natAbs = r.num.natAbs * s.den := by rw [Int.natAbs_mul]; rfl
  have h4 : (s.num * r.den).natAbs = s.num.natAbs * r.den := by rw [Int.natAbs_mul]; rfl
  rw [Nat.pow_succ]
  omega
theorem Bt.subN {j k : Nat} {r s : Rat} (h : Bt j r) (g : Bt k s) : (r.num * s.den - s.num * r.den).natAbs < 2 ^ (j + k + 1) := by
  have h1 := mul_lt_pow h.n g.d
  have h2 := mul_lt_pow g.n h.d
  rw [Nat.add_comm k j] at h2
  have h3 : (r.num * s.den).natAbs = r.num.natAbs * s.den := by rw [Int.natAbs_mul]; rfl
  have h4 : (s.num * r.den).natAbs = s.num.natAbs * r.den := by rw [Int.natAbs_mul]; rfl
  rw [Nat.pow_succ]
  omega
theorem Bt.add {j k : Nat} {r s : Rat} (h : Bt j r) (g : Bt k s) : Bt (j + k + 1) (r + s) := by
  rw [← add_div]
  exact .div (den_mul_ne r s) (h.addN g) (Nat.lt_of_lt_of_le (h.mulN g) (Nat.pow_le_pow_right (by decide) (by omega)))
theorem Bt.sub {j k : Nat} {r s : Rat} (h : Bt j r) (g : Bt k s) : Bt (j + k + 1) (r - s) := by
  rw [← sub_div]
  exact .div (den_mul_ne r s) (h.subN g) (Nat.lt_of_lt_of_le (h.mulN g) (Nat.pow_le_pow_right (by decide) (by omega)))
theorem Bt.neg {j : Nat} {r : Rat} (h : Bt j r) : Bt j (-r) := ⟨by rw [Rat.neg_num, Int.natAbs_neg]; exact h.n, by rw [Rat.neg_den]; exact h.d⟩
theorem Bt.mul {j k : Nat} {r s : Rat} (h : Bt j r) (g : Bt k s) : Bt (j + k) (r * s) := by
  rw [← mul_div]
  exact .div (den_mul_ne r s) (by rw [Int.natAbs_mul]; exact mul_lt_pow h.n g.n) (h.mulN g)
theorem log_pow {x k : Nat} (h : x < 2 ^ k) (hk : k ≤ 9000) (h0 : 0 < k) : x.log2 < 9000 := Nat.lt_of_lt_of_le (log2_le h h0) hk
theorem mulOk {x y : Int} {j k : Nat} (h : x.natAbs < 2 ^ j) (g : y.natAbs < 2 ^ k) (e : j ≤ 9000) (e' : k ≤ 9000) : IntMulOk x y := PyProof.Rows.mulOk_of_bits (Nat.le_trans (PyProof.Rows.intBits_le h) e) (Nat.le_trans (PyProof.Rows.intBits_le g) e') (by decide)
theorem dn {k : Nat} {r : Rat} (h : Bt k r) : ((r.den : Int)).natAbs < 2 ^ k := h.d

end K

namespace K
open PySem L2
def w_is_table : WF := wFn 5 1 (sSeq (sIf (aNotT (aB (aChain uLe uLe (aC (.int 1)) (aBlt uLen (aCons (aVar 0) aNil)) (aC (.int 8))))) (sRet (aC (.bl false))) sNext)
    (sSeq (sSet 3 (aLc (aWalk (aVar 0)) (gT 2 (gsCons (gN 1) (gsCons (gN 2) gsNil))) tYesU (aVar 1) [1, 2]))
    (sSeq (sSet 4 (aLc (aWalk (aVar 0)) (gT 2 (gsCons (gN 1) (gsCons (gN 2) gsNil))) tYesU (aVar 2) [1, 2]))
    (sSeq (sIf (aOrT (aB (aOp uLt (aBlt uMin (aCons (aVar 3) aNil)) (aC (.int 1)))) (aB (aOp uGt (aBlt uMax (aCons (aVar 3) aNil)) (aC (.int 999))))) (sRet (aC (.bl false))) sNext)
    (sRet (aAnd (aOp uGe (aBlt uMin (aCons (aVar 4) aNil)) (aC (.int 0))) (aChain uLt uLe (aC (.int 0)) (aBlt uMax (aCons (aVar 4) aNil)) (aC (.int 999999999)))))))))

def w_Table_init : WF := wFn 4 2 (sSeq (sIf (aNotT (aB (aCall w_is_table [] (aCons (aVar 1) aNil)))) (sRaise "NoTable" (aCons (aC (.str "these stretches make no table")) aNil)) sNext)
    (sSeq (sFldU ["Table"] "rows" (aLc (aWalk (aVar 1)) (gT 2 (gsCons (gN 2) (gsCons (gN 3) gsNil))) tYesU (aTup (aCons (aVar 2) (aCons (aVar 3) aNil))) [2, 3]) (aVar 0))
    (sFldU ["Table"] "breadth" (aBlt uSum (aCons (aLc (aWalk (aVar 1)) (gT 2 (gsCons (gN 2) (gsCons (gN 3) gsNil))) tYesU (aVar 2) [2, 3]) aNil)) (aVar 0))))

def w_law_less_5e3f : WF := wFn 2 2 (sRet (aOp uLt (aOp uMul (aOp uIx (aVar 0) (aC (.int 0))) (aOp uIx (aVar 1) (aC (.int 1)))) (aOp uMul (aOp uIx (aVar 1) (aC (.int 0))) (aOp uIx (aVar 0) (aC (.int 1))))))

def w_greatest_divisor : WF := wFn 2 2 (sSeq (sWhile (aB (aOp uNe (aVar 1) (aC (.int 0)))) (sPar 0 1 (aCons (aVar 1) (aCons (aOp uMod (aVar 0) (aVar 1)) aNil))))
    (sRet (aVar 0)))

def w_fraction_of : WF := wFn 3 2 (sSeq (sIf (aB (aOp uEq (aVar 1) (aC (.int 0)))) (sRaise "NoFraction" (aCons (aC (.str "the bottom of a fraction is not 0")) aNil)) sNext)
    (sSeq (sSet 2 (aCall w_greatest_divisor [] (aCons (aBlt uAbs (aCons (aVar 0) aNil)) (aCons (aBlt uAbs (aCons (aVar 1) aNil)) aNil))))
    (sSeq (sIf (aB (aOp uLt (aVar 1) (aC (.int 0)))) (sSet 2 (aUn uNeg (aVar 2))) sNext)
    (sRet (aTup (aCons (aOp uDiv (aVar 0) (aVar 2)) (aCons (aOp uDiv (aVar 1) (aVar 2)) aNil)))))))

def w_is_less : WF := wFn 2 2 (sRet (aOp uLt (aOp uMul (aOp uIx (aVar 0) (aC (.int 0))) (aOp uIx (aVar 1) (aC (.int 1)))) (aOp uMul (aOp uIx (aVar 1) (aC (.int 0))) (aOp uIx (aVar 0) (aC (.int 1))))))

def w_Table_stretches : WF := wFn 1 1 (sRet (aBlt uList (aCons (aUn (uFld ["Table"] "rows") (aVar 0)) aNil)))

def w_law_box_1502 : WF := wFn 3 1 (sSeq (sSet 2 (aLc (aWalk (aVar 0)) (gN 1) (aB (aOp uGe (aVar 1) (aOp uPow (aC (.int 10)) (aC (.int 18))))) (aVar 1) [1]))
    (sRet (aLst (aCons (aVar 2) (aCons (aC (.int 0)) (aCons (aLc (aWalk (aVar 0)) (gN 1) (aB (aOp uLt (aVar 1) (aOp uPow (aC (.int 10)) (aC (.int 18))))) (aVar 1) [1]) (aCons (aC (.int 0)) aNil)))))))

def w_law_mixed_0002 : WF := wFn 3 2 (sSeq (sSet 2 (aOp uMod (aOp uPow (aOp uAdd (aOp uAdd (aOp uAdd (aOp uMod (aVar 0) (aC (.int 2147483647))) (aOp uMul (aOp uMul (aC (.int 1009)) (aVar 1)) (aVar 1))) (aOp uMul (aC (.int 48611)) (aVar 1))) (aC (.int 17))) (aC (.int 5))) (aC (.int 2147483647))))
    (sRet (aOp uMod (aOp uAdd (aOp uMul (aVar 2) (aC (.int 39373))) (aOp uMul (aC (.int 7919)) (aVar 1))) (aC (.int 1000000007)))))

def w_law_take_dbef : WF := wFn 5 2 (sSeq (sIx (aOp uAdd (aOp uIx (aVar 0) (aC (.int 3))) (aC (.int 1))) (aVar 0) (aC (.int 3)))
    (sSeq (sIf (aAndT (aB (aOp uEq (aOp uIx (aVar 0) (aC (.int 1))) (aC (.int 0)))) (aB (aOp uGt (aBlt uLen (aCons (aOp uIx (aVar 0) (aC (.int 0))) aNil)) (aC (.int 0))))) (sIx (aBm uPop (aOp uIx (aVar 0) (aC (.int 0))) (aCons (aC (.int 0)) aNil)) (aVar 0) (aC (.int 1))) sNext)
    (sSeq (sIf (aB (aOp uGt (aOp uIx (aVar 0) (aC (.int 1))) (aC (.int 0)))) (sSeq (sSet 2 (aOp uMod (aOp uIx (aVar 0) (aC (.int 1))) (aVar 1)))
    (sSeq (sIx (aOp uDiv (aOp uIx (aVar 0) (aC (.int 1))) (aVar 1)) (aVar 0) (aC (.int 1)))
    (sRet (aVar 2)))) sNext)
    (sSeq (sSet 3 (aOp uMul (aC (.int 7)) (aOp uIx (aVar 0) (aC (.int 3)))))
    (sSeq (sIf (aB (aOp uGt (aBlt uLen (aCons (aOp uIx (aVar 0) (aC (.int 2))) aNil)) (aC (.int 0)))) (sSet 3 (aOp uIx (aOp uIx (aVar 0) (aC (.int 2))) (aOp uMod (aOp uIx (aVar 0) (aC (.int 3))) (aBlt uLen (aCons (aOp uIx (aVar 0) (aC (.int 2))) aNil))))) sNext)
    (sSeq (sSet 2 (aC (.int 0)))
    (sSeq (sSet 4 (aC (.int 1)))
    (sSeq (sWhile (aB (aOp uLt (aVar 4) (aVar 1))) (sSeq (sSet 2 (aOp uAdd (aOp uMul (aVar 2) (aC (.int 1000000007))) (aCall w_law_mixed_0002 [] (aCons (aVar 3) (aCons (aOp uAdd (aOp uIx (aVar 0) (aC (.int 3))) (aOp uMul (aC (.int 1000)) (aOp uMod (aVar 2) (aC (.int 89))))) aNil)))))
    (sSet 4 (aOp uMul (aVar 4) (aC (.int 1000000007))))))
    (sRet (aOp uMod (aVar 2) (aVar 1)))))))))))

def w_law_rows_667c : WF := wFn 9 2 (sSeq (sSet 2 (aCall w_law_take_dbef [] (aCons (aVar 0) (aCons (aC (.int 4)) aNil))))
    (sSeq (sSet 3 (aCall w_law_take_dbef [] (aCons (aVar 0) (aCons (aC (.int 2)) aNil))))
    (sSeq (sSet 4 (aLst aNil))
    (sSeq (sFor (aRng1 (aOp uAdd (aC (.int 1)) (aCall w_law_take_dbef [] (aCons (aVar 0) (aCons (aVar 1) aNil))))) (gN 5) (sSeq (sSet 6 (aOp uAdd (aC (.int 1)) (aCall w_law_take_dbef [] (aCons (aVar 0) (aCons (aOp uIx (aLst (aCons (aC (.int 1)) (aCons (aC (.int 4)) (aCons (aC (.int 30)) (aCons (aC (.int 999)) aNil))))) (aVar 2)) aNil)))))
    (sSeq (sSet 7 (aCall w_law_take_dbef [] (aCons (aVar 0) (aCons (aOp uIx (aLst (aCons (aC (.int 4)) (aCons (aC (.int 10)) (aCons (aC (.int 1000)) (aCons (aOp uPow (aC (.int 10)) (aC (.int 9))) aNil))))) (aVar 2)) aNil))))
    (sSeq (sIf (aAndT (aB (aOp uEq (aVar 3) (aC (.int 1)))) (aB (aOp uEq (aCall w_law_take_dbef [] (aCons (aVar 0) (aCons (aC (.int 3)) aNil))) (aC (.int 0))))) (sSet 7 (aC (.int 0))) sNext)
    (sDrop (aBm uAppend (aVar 4) (aCons (aTup (aCons (aVar 6) (aCons (aVar 7) aNil))) aNil)))))))
    (sSeq (sIf (aB (aOp uEq (aBlt uSum (aCons (aLc (aWalk (aVar 4)) (gT 2 (gsCons (gN 6) (gsCons (gN 7) gsNil))) tYesU (aVar 7) [6, 7]) aNil)) (aC (.int 0)))) (sSeq (sSet 8 (aCall w_law_take_dbef [] (aCons (aVar 0) (aCons (aBlt uLen (aCons (aVar 4) aNil)) aNil))))
    (sIx (aTup (aCons (aOp uIx (aOp uIx (aVar 4) (aVar 8)) (aC (.int 0))) (aCons (aOp uAdd (aC (.int 1)) (aCall w_law_take_dbef [] (aCons (aVar 0) (aCons (aC (.int 9)) aNil)))) aNil))) (aVar 4) (aVar 8))) sNext)
    (sRet (aVar 4)))))))

def w_law_low_35aa : WF := wFn 4 2 (sSeq (sSet 2 (aBlt uAbs (aCons (aVar 0) aNil)))
    (sSeq (sSet 3 (aBlt uAbs (aCons (aVar 1) aNil)))
    (sSeq (sWhile (aB (aOp uGt (aVar 3) (aC (.int 0)))) (sPar 2 3 (aCons (aVar 3) (aCons (aOp uMod (aVar 2) (aVar 3)) aNil))))
    (sSeq (sIf (aB (aOp uLt (aVar 1) (aC (.int 0)))) (sSet 2 (aUn uNeg (aVar 2))) sNext)
    (sRet (aTup (aCons (aOp uDiv (aVar 0) (aVar 2)) (aCons (aOp uDiv (aVar 1) (aVar 2)) aNil))))))))

def w_law_place_31c3 : WF := wFn 2 1 (sSeq (sSet 1 (aOp uAdd (aC (.int 1)) (aCall w_law_take_dbef [] (aCons (aVar 0) (aCons (aOp uIx (aLst (aCons (aC (.int 4)) (aCons (aC (.int 30)) (aCons (aC (.int 1000)) (aCons (aOp uPow (aC (.int 10)) (aC (.int 12))) aNil))))) (aCall w_law_take_dbef [] (aCons (aVar 0) (aCons (aC (.int 4)) aNil)))) aNil)))))
    (sRet (aCall w_law_low_35aa [] (aCons (aCall w_law_take_dbef [] (aCons (aVar 0) (aCons (aOp uAdd (aVar 1) (aC (.int 1))) aNil))) (aCons (aVar 1) aNil)))))

def w_law_plus_7700 : WF := wFn 2 2 (sRet (aCall w_law_low_35aa [] (aCons (aOp uAdd (aOp uMul (aOp uIx (aVar 0) (aC (.int 0))) (aOp uIx (aVar 1) (aC (.int 1)))) (aOp uMul (aOp uIx (aVar 1) (aC (.int 0))) (aOp uIx (aVar 0) (aC (.int 1))))) (aCons (aOp uMul (aOp uIx (aVar 0) (aC (.int 1))) (aOp uIx (aVar 1) (aC (.int 1)))) aNil))))

def w_law_worth_3dd4 : WF := wFn 11 3 (sSeq (sSet 5 (aBlt uSum (aCons (aLc (aWalk (aVar 0)) (gT 2 (gsCons (gN 3) (gsCons (gN 4) gsNil))) tYesU (aVar 3) [3, 4]) aNil)))
    (sSeq (sSet 6 (aTup (aCons (aC (.int 0)) (aCons (aC (.int 1)) aNil))))
    (sSeq (sSet 7 (aC (.int 0)))
    (sSeq (sFor (aWalk (aVar 0)) (gT 2 (gsCons (gN 3) (gsCons (gN 4) gsNil))) (sSeq (sSet 8 (aTup (aCons (aVar 7) (aCons (aVar 5) aNil))))
    (sSeq (sSet 9 (aTup (aCons (aOp uAdd (aVar 7) (aVar 3)) (aCons (aVar 5) aNil))))
    (sSeq (sSet 7 (aOp uAdd (aVar 7) (aVar 3)))
    (sSeq (sIf (aB (aCall w_law_less_5e3f [] (aCons (aVar 8) (aCons (aVar 1) aNil)))) (sSet 8 (aVar 1)) sNext)
    (sSeq (sIf (aB (aCall w_law_less_5e3f [] (aCons (aVar 2) (aCons (aVar 9) aNil)))) (sSet 9 (aVar 2)) sNext)
    (sIf (aB (aCall w_law_less_5e3f [] (aCons (aVar 8) (aCons (aVar 9) aNil)))) (sSeq (sSet 10 (aOp uSub (aOp uMul (aOp uIx (aVar 9) (aC (.int 0))) (aOp uIx (aVar 8) (aC (.int 1)))) (aOp uMul (aOp uIx (aVar 8) (aC (.int 0))) (aOp uIx (aVar 9) (aC (.int 1))))))
    (sSeq (sSet 10 (aOp uMul (aOp uMul (aVar 10) (aVar 4)) (aVar 5)))
    (sSet 6 (aCall w_law_plus_7700 [] (aCons (aVar 6) (aCons (aCall w_law_low_35aa [] (aCons (aVar 10) (aCons (aOp uMul (aOp uMul (aOp uIx (aVar 9) (aC (.int 1))) (aOp uIx (aVar 8) (aC (.int 1)))) (aVar 3)) aNil))) aNil)))))) sNext)))))))
    (sRet (aVar 6))))))

def w_law_cut_03a2 : WF := wFn 12 4 (sSeq (sIf (aB (aOp uEq (aOp uIx (aVar 2) (aC (.int 0))) (aC (.int 0)))) (sRet (aVar 1)) sNext)
    (sSeq (sSet 6 (aBlt uSum (aCons (aLc (aWalk (aVar 0)) (gT 2 (gsCons (gN 4) (gsCons (gN 5) gsNil))) tYesU (aVar 4) [4, 5]) aNil)))
    (sSeq (sSet 7 (aC (.int 0)))
    (sSeq (sFor (aWalk (aVar 0)) (gT 2 (gsCons (gN 4) (gsCons (gN 5) gsNil))) (sSeq (sSet 8 (aTup (aCons (aVar 7) (aCons (aVar 6) aNil))))
    (sSeq (sSet 9 (aTup (aCons (aOp uAdd (aVar 7) (aVar 4)) (aCons (aVar 6) aNil))))
    (sSeq (sSet 7 (aOp uAdd (aVar 7) (aVar 4)))
    (sSeq (sIf (aB (aCall w_law_less_5e3f [] (aCons (aVar 8) (aCons (aVar 1) aNil)))) (sSet 8 (aVar 1)) sNext)
    (sSeq (sIf (aB (aCall w_law_less_5e3f [] (aCons (aVar 3) (aCons (aVar 9) aNil)))) (sSet 9 (aVar 3)) sNext)
    (sIf (aB (aCall w_law_less_5e3f [] (aCons (aVar 8) (aCons (aVar 9) aNil)))) (sSeq (sSet 10 (aCall w_law_worth_3dd4 [] (aCons (aVar 0) (aCons (aVar 8) (aCons (aVar 9) aNil)))))
    (sSeq (sIf (aNotT (aB (aCall w_law_less_5e3f [] (aCons (aVar 10) (aCons (aVar 2) aNil))))) (sSeq (sSet 11 (aOp uMul (aOp uIx (aVar 2) (aC (.int 0))) (aVar 4)))
    (sRet (aCall w_law_plus_7700 [] (aCons (aVar 8) (aCons (aCall w_law_low_35aa [] (aCons (aVar 11) (aCons (aOp uMul (aOp uMul (aOp uIx (aVar 2) (aC (.int 1))) (aVar 5)) (aVar 6)) aNil))) aNil))))) sNext)
    (sSet 2 (aCall w_law_plus_7700 [] (aCons (aVar 2) (aCons (aTup (aCons (aUn uNeg (aOp uIx (aVar 10) (aC (.int 0)))) (aCons (aOp uIx (aVar 10) (aC (.int 1))) aNil))) aNil)))))) sNext)))))))
    (sRet (aC .non))))))

def w_is_span : WF := wFn 2 2 (sRet (aAnd (aNot (aCall w_is_less [] (aCons (aVar 0) (aCons (aC (.tup [.int 0, .int 1])) aNil)))) (aAnd (aNot (aCall w_is_less [] (aCons (aC (.tup [.int 1, .int 1])) (aCons (aVar 1) aNil)))) (aNot (aCall w_is_less [] (aCons (aVar 1) (aCons (aVar 0) aNil)))))))

def w_check_span : WF := wFn 2 2 (sIf (aNotT (aB (aCall w_is_span [] (aCons (aVar 0) (aCons (aVar 1) aNil))))) (sRaise "NoSpan" (aCons (aC (.str "a span goes from 0 or more to 1 or less, and not backwards")) aNil)) sNext)

def w_minus : WF := wFn 2 2 (sRet (aCall w_fraction_of [] (aCons (aOp uSub (aOp uMul (aOp uIx (aVar 0) (aC (.int 0))) (aOp uIx (aVar 1) (aC (.int 1)))) (aOp uMul (aOp uIx (aVar 1) (aC (.int 0))) (aOp uIx (aVar 0) (aC (.int 1))))) (aCons (aOp uMul (aOp uIx (aVar 0) (aC (.int 1))) (aOp uIx (aVar 1) (aC (.int 1)))) aNil))))

def w_plus : WF := wFn 2 2 (sRet (aCall w_fraction_of [] (aCons (aOp uAdd (aOp uMul (aOp uIx (aVar 0) (aC (.int 0))) (aOp uIx (aVar 1) (aC (.int 1)))) (aOp uMul (aOp uIx (aVar 1) (aC (.int 0))) (aOp uIx (aVar 0) (aC (.int 1))))) (aCons (aOp uMul (aOp uIx (aVar 0) (aC (.int 1))) (aOp uIx (aVar 1) (aC (.int 1)))) aNil))))

def w_Table_worth_ahead : WF := wFn 10 2 (sSeq (sAsg (aVar 1) (gT 2 (gsCons (gN 2) (gsCons (gN 3) gsNil))))
    (sSeq (sSet 4 (aOp uMul (aVar 2) (aUn (uFld ["Table"] "breadth") (aVar 0))))
    (sSeq (sSet 5 (aTup (aCons (aC (.int 0)) (aCons (aC (.int 1)) aNil))))
    (sSeq (sFor (aWalk (aUn (uFld ["Table"] "rows") (aVar 0))) (gT 2 (gsCons (gN 6) (gsCons (gN 7) gsNil))) (sSeq (sSet 8 (aOp uMul (aVar 6) (aVar 3)))
    (sSeq (sSet 9 (aBlt uMin (aCons (aBlt uMax (aCons (aVar 4) (aCons (aC (.int 0)) aNil))) (aCons (aVar 8) aNil))))
    (sSeq (sSet 5 (aCall w_plus [] (aCons (aVar 5) (aCons (aCall w_fraction_of [] (aCons (aOp uMul (aVar 7) (aVar 9)) (aCons (aVar 8) aNil))) aNil))))
    (sAug 4 uSub (aVar 8))))))
    (sRet (aVar 5))))))

def w_Table_worth : WF := wFn 5 3 (sSeq (sSet 3 (aIfE (aB (aOp uIs (aVar 1) (aC .non))) (aC (.tup [.int 0, .int 1])) (aVar 1)))
    (sSeq (sSet 4 (aIfE (aB (aOp uIs (aVar 2) (aC .non))) (aC (.tup [.int 1, .int 1])) (aVar 2)))
    (sSeq (sDrop (aCall w_check_span [] (aCons (aVar 3) (aCons (aVar 4) aNil))))
    (sRet (aCall w_minus [] (aCons (aMeth "worth_ahead" [] [("Table", w_Table_worth_ahead)] (aVar 0) (aCons (aVar 4) aNil)) (aCons (aMeth "worth_ahead" [] [("Table", w_Table_worth_ahead)] (aVar 0) (aCons (aVar 3) aNil)) aNil)))))))

def w_times : WF := wFn 2 2 (sRet (aCall w_fraction_of [] (aCons (aOp uMul (aOp uIx (aVar 0) (aC (.int 0))) (aOp uIx (aVar 1) (aC (.int 0)))) (aCons (aOp uMul (aOp uIx (aVar 0) (aC (.int 1))) (aOp uIx (aVar 1) (aC (.int 1)))) aNil))))

def w_over : WF := wFn 2 2 (sRet (aCall w_fraction_of [] (aCons (aOp uMul (aOp uIx (aVar 0) (aC (.int 0))) (aOp uIx (aVar 1) (aC (.int 1)))) (aCons (aOp uMul (aOp uIx (aVar 0) (aC (.int 1))) (aOp uIx (aVar 1) (aC (.int 0)))) aNil))))

def w_Table_reached : WF := wFn 8 2 (sSeq (sSet 2 (aC (.int 0)))
    (sSeq (sSet 3 (aC (.int 0)))
    (sSeq (sSet 4 (aVar 1))
    (sSeq (sWhile (aB (aCall w_is_less [] (aCons (aTup (aCons (aOp uIx (aOp uIx (aUn (uFld ["Table"] "rows") (aVar 0)) (aVar 2)) (aC (.int 1))) (aCons (aC (.int 1)) aNil))) (aCons (aVar 4) aNil)))) (sSeq (sSet 4 (aCall w_minus [] (aCons (aVar 4) (aCons (aTup (aCons (aOp uIx (aOp uIx (aUn (uFld ["Table"] "rows") (aVar 0)) (aVar 2)) (aC (.int 1))) (aCons (aC (.int 1)) aNil))) aNil))))
    (sSeq (sAug 3 uAddI (aOp uIx (aOp uIx (aUn (uFld ["Table"] "rows") (aVar 0)) (aVar 2)) (aC (.int 0))))
    (sAug 2 uAddI (aC (.int 1))))))
    (sSeq (sAsg (aOp uIx (aUn (uFld ["Table"] "rows") (aVar 0)) (aVar 2)) (gT 2 (gsCons (gN 5) (gsCons (gN 6) gsNil))))
    (sSeq (sSet 7 (aCall w_times [] (aCons (aVar 4) (aCons (aCall w_fraction_of [] (aCons (aVar 5) (aCons (aVar 6) aNil))) aNil))))
    (sRet (aCall w_over [] (aCons (aCall w_plus [] (aCons (aTup (aCons (aVar 3) (aCons (aC (.int 1)) aNil))) (aCons (aVar 7) aNil))) (aCons (aTup (aCons (aUn (uFld ["Table"] "breadth") (aVar 0)) (aCons (aC (.int 1)) aNil))) aNil))))))))))

def w_Table_cut : WF := wFn 5 4 (sSeq (sSet 4 (aIfE (aB (aOp uIs (aVar 3) (aC .non))) (aC (.tup [.int 1, .int 1])) (aVar 3)))
    (sSeq (sDrop (aCall w_check_span [] (aCons (aVar 1) (aCons (aVar 4) aNil))))
    (sSeq (sIf (aB (aOp uLt (aOp uIx (aVar 2) (aC (.int 0))) (aC (.int 0)))) (sRaise "NoWorth" (aCons (aC (.str "no worth is below nought")) aNil)) sNext)
    (sSeq (sIf (aB (aCall w_is_less [] (aCons (aMeth "worth" [] [("Table", w_Table_worth)] (aVar 0) (aCons (aVar 1) (aCons (aVar 4) aNil))) (aCons (aVar 2) aNil)))) (sRet (aC .non)) sNext)
    (sSeq (sIf (aB (aOp uEq (aOp uIx (aVar 2) (aC (.int 0))) (aC (.int 0)))) (sRet (aVar 1)) sNext)
    (sRet (aMeth "reached" [] [("Table", w_Table_reached)] (aVar 0) (aCons (aCall w_plus [] (aCons (aMeth "worth_ahead" [] [("Table", w_Table_worth_ahead)] (aVar 0) (aCons (aVar 1) aNil)) (aCons (aVar 2) aNil))) aNil))))))))

def w_place_by : WF := wFn 5 4 (sSeq (sSet 4 (aMeth "cut" [] [("Table", w_Table_cut)] (aVar 0) (aCons (aVar 1) (aCons (aVar 3) (aCons (aVar 2) aNil)))))
    (sRet (aIfE (aB (aOp uIs (aVar 4) (aC .non))) (aVar 2) (aVar 4))))

def w_greater : WF := wFn 2 2 (sRet (aIfE (aB (aCall w_is_less [] (aCons (aVar 0) (aCons (aVar 1) aNil)))) (aVar 1) (aVar 0)))

def w_greatest_of : WF := wFn 3 1 (sSeq (sSet 1 (aOp uIx (aVar 0) (aC (.int 0))))
    (sSeq (sFor (aWalk (aVar 0)) (gN 2) (sSet 1 (aCall w_greater [] (aCons (aVar 1) (aCons (aVar 2) aNil)))))
    (sRet (aVar 1))))

def w_worths_of : WF := wFn 4 2 (sRet (aLc (aWalk (aVar 1)) (gT 2 (gsCons (gN 2) (gsCons (gN 3) gsNil))) tYesU (aMeth "worth" [] [("Table", w_Table_worth)] (aVar 0) (aCons (aVar 2) (aCons (aVar 3) aNil))) [2, 3]))

def w_reply_by : WF := wFn 10 2 (sSeq (sSet 2 (aOp uIx (aVar 1) (aC (.int 0))))
    (sSeq (sIf (aB (aOp uEq (aVar 2) (aC (.str "cut")))) (sSeq (sAsg (aSl (aVar 1) (oSome (aC (.int 2))) oNone) (gT 4 (gsCons (gN 3) (gsCons (gN 4) (gsCons (gN 5) (gsCons (gN 6) gsNil))))))
    (sRet (aCall w_place_by [] (aCons (aVar 0) (aCons (aVar 3) (aCons (aVar 4) (aCons (aCall w_times [] (aCons (aVar 6) (aCons (aMeth "worth" [] [("Table", w_Table_worth)] (aVar 0) (aCons (aVar 3) (aCons (aVar 5) aNil))) aNil))) aNil))))))) sNext)
    (sSeq (sIf (aB (aOp uEq (aVar 2) (aC (.str "even")))) (sSeq (sAsg (aSl (aVar 1) (oSome (aC (.int 2))) oNone) (gT 3 (gsCons (gN 3) (gsCons (gN 4) (gsCons (gN 7) gsNil)))))
    (sRet (aCall w_place_by [] (aCons (aVar 0) (aCons (aVar 3) (aCons (aVar 4) (aCons (aCall w_greatest_of [] (aCons (aCall w_worths_of [] (aCons (aVar 0) (aCons (aVar 7) aNil))) aNil)) aNil))))))) sNext)
    (sSeq (sSet 8 (aCall w_worths_of [] (aCons (aVar 0) (aCons (aOp uIx (aVar 1) (aC (.int 2))) aNil))))
    (sSeq (sSet 9 (aCall w_greatest_of [] (aCons (aVar 8) aNil)))
    (sSeq (sIf (aAndT (aB (aOp uEq (aVar 2) (aC (.str "trim")))) (aB (aOp uGt (aBm uCount (aVar 8) (aCons (aVar 9) aNil)) (aC (.int 1))))) (sRet (aC (.int 3))) sNext)
    (sRet (aBm uIndex (aVar 8) (aCons (aVar 9) aNil)))))))))

def w_law_best_1f71 : WF := wFn 3 1 (sSeq (sSet 1 (aC (.int 0)))
    (sSeq (sFor (aRng1 (aBlt uLen (aCons (aVar 0) aNil))) (gN 2) (sIf (aB (aCall w_law_less_5e3f [] (aCons (aOp uIx (aVar 0) (aVar 1)) (aCons (aOp uIx (aVar 0) (aVar 2)) aNil)))) (sSet 1 (aVar 2)) sNext))
    (sRet (aVar 1))))

def w_law_reply_e455 : WF := wFn 10 2 (sSeq (sIf (aOrT (aB (aOp uEq (aOp uIx (aVar 1) (aC (.int 0))) (aC (.str "trim")))) (aB (aOp uEq (aOp uIx (aVar 1) (aC (.int 0))) (aC (.str "choose"))))) (sSeq (sSet 4 (aLc (aWalk (aOp uIx (aVar 1) (aC (.int 2)))) (gT 2 (gsCons (gN 2) (gsCons (gN 3) gsNil))) tYesU (aCall w_law_worth_3dd4 [] (aCons (aVar 0) (aCons (aVar 2) (aCons (aVar 3) aNil)))) [2, 3]))
    (sSeq (sSet 5 (aCall w_law_best_1f71 [] (aCons (aVar 4) aNil)))
    (sSeq (sIf (aAndT (aB (aOp uEq (aOp uIx (aVar 1) (aC (.int 0))) (aC (.str "trim")))) (aB (aOp uGt (aBm uCount (aVar 4) (aCons (aOp uIx (aVar 4) (aVar 5)) aNil)) (aC (.int 1))))) (sRet (aC (.int 3))) sNext)
    (sRet (aVar 5))))) sNext)
    (sSeq (sAsg (aSl (aVar 1) (oSome (aC (.int 2))) (oSome (aC (.int 4)))) (gT 2 (gsCons (gN 2) (gsCons (gN 3) gsNil))))
    (sSeq (sIf (aB (aOp uEq (aOp uIx (aVar 1) (aC (.int 0))) (aC (.str "cut")))) (sSeq (sSet 6 (aCall w_law_worth_3dd4 [] (aCons (aVar 0) (aCons (aVar 2) (aCons (aOp uIx (aVar 1) (aC (.int 4))) aNil)))))
    (sSet 6 (aCall w_law_low_35aa [] (aCons (aOp uMul (aOp uIx (aVar 6) (aC (.int 0))) (aOp uIx (aOp uIx (aVar 1) (aC (.int 5))) (aC (.int 0)))) (aCons (aOp uMul (aOp uIx (aVar 6) (aC (.int 1))) (aOp uIx (aOp uIx (aVar 1) (aC (.int 5))) (aC (.int 1)))) aNil))))) (sSeq (sSet 4 (aLc (aWalk (aOp uIx (aVar 1) (aC (.int 4)))) (gT 2 (gsCons (gN 7) (gsCons (gN 8) gsNil))) tYesU (aCall w_law_worth_3dd4 [] (aCons (aVar 0) (aCons (aVar 7) (aCons (aVar 8) aNil)))) [7, 8]))
    (sSet 6 (aOp uIx (aVar 4) (aCall w_law_best_1f71 [] (aCons (aVar 4) aNil))))))
    (sSeq (sSet 9 (aCall w_law_cut_03a2 [] (aCons (aVar 0) (aCons (aVar 2) (aCons (aVar 6) (aCons (aVar 3) aNil))))))
    (sSeq (sIf (aB (aOp uIs (aVar 9) (aC .non))) (sRet (aVar 3)) sNext)
    (sRet (aVar 9)))))))

def w_law_ask_cd95 : WF := wFn 5 1 (sSeq (sSet 1 (aOp uIx (aLst (aCons (aTup (aCons (aC (.int 0)) (aCons (aC (.int 1)) aNil))) (aCons (aTup (aCons (aC (.int 1)) (aCons (aC (.int 1)) aNil))) (aCons (aTup (aCons (aC (.int 1)) (aCons (aC (.int 2)) aNil))) (aCons (aTup (aCons (aC (.int 1)) (aCons (aC (.int 3)) aNil))) (aCons (aTup (aCons (aC (.int 2)) (aCons (aC (.int 3)) aNil))) (aCons (aTup (aCons (aC (.int 1)) (aCons (aC (.int 4)) aNil))) (aCons (aTup (aCons (aC (.int 3)) (aCons (aC (.int 4)) aNil))) (aCons (aTup (aCons (aC (.int 3)) (aCons (aC (.int 2)) aNil))) aNil))))))))) (aCall w_law_take_dbef [] (aCons (aVar 0) (aCons (aC (.int 8)) aNil)))))
    (sSeq (sIf (aB (aOp uEq (aCall w_law_take_dbef [] (aCons (aVar 0) (aCons (aC (.int 3)) aNil))) (aC (.int 0)))) (sSet 1 (aCall w_law_place_31c3 [] (aCons (aVar 0) aNil))) sNext)
    (sSeq (sSet 3 (aLc (aRng1 (aC (.int 3))) (gN 2) tYesU (aCall w_law_place_31c3 [] (aCons (aVar 0) aNil)) [2]))
    (sSeq (sFor (aRng1 (aC (.int 2))) (gN 2) (sFor (aRng1 (aC (.int 2))) (gN 4) (sIf (aB (aCall w_law_less_5e3f [] (aCons (aOp uIx (aVar 3) (aOp uAdd (aVar 4) (aC (.int 1)))) (aCons (aOp uIx (aVar 3) (aVar 4)) aNil)))) (sIx2 (aTup (aCons (aOp uIx (aVar 3) (aOp uAdd (aVar 4) (aC (.int 1)))) (aCons (aOp uIx (aVar 3) (aVar 4)) aNil))) (aVar 3) (aVar 4) (aVar 3) (aOp uAdd (aVar 4) (aC (.int 1)))) sNext)))
    (sRet (aTup (aCons (aC (.str "cut")) (aCons (aCall w_law_take_dbef [] (aCons (aVar 0) (aCons (aC (.int 4)) aNil))) (aCons (aOp uIx (aVar 3) (aC (.int 0))) (aCons (aOp uIx (aVar 3) (aC (.int 1))) (aCons (aOp uIx (aVar 3) (aC (.int 2))) (aCons (aVar 1) aNil))))))))))))

def w_law_2142 : WF := wFn 10 1 (sSeq (sSet 1 (aCall w_law_box_1502 [] (aCons (aVar 0) aNil)))
    (sSeq (sSet 3 (aLc (aRng1 (aC (.int 3))) (gN 2) tYesU (aCall w_law_ask_cd95 [] (aCons (aVar 1) aNil)) [2]))
    (sSeq (sSet 4 (aCall w_law_rows_667c [] (aCons (aVar 1) (aCons (aC (.int 8)) aNil))))
    (sSeq (sSet 5 (aCall w_law_rows_667c [] (aCons (aVar 1) (aCons (aC (.int 8)) aNil))))
    (sSeq (sSet 6 (aMake "Table" w_Table_init (aCons (aVar 4) aNil)))
    (sSeq (sSet 7 (aMake1 "Table" w_Table_init (aCons (aVar 5) aNil)))
    (sSeq (sFor (aWalk (aVar 3)) (gN 8) (sSeq (sSet 9 (aCall w_law_reply_e455 [] (aCons (aVar 4) (aCons (aVar 8) aNil))))
    (sSeq (sIf (aOrT (aB (aOp uNe (aCall w_reply_by [] (aCons (aVar 6) (aCons (aVar 8) aNil))) (aVar 9))) (aB (aOp uNe (aCall w_reply_by [] (aCons (aVar 7) (aCons (aVar 8) aNil))) (aCall w_law_reply_e455 [] (aCons (aVar 5) (aCons (aVar 8) aNil)))))) (sRet (aC (.bl false))) sNext)
    (sIf (aB (aOp uNe (aCall w_reply_by [] (aCons (aVar 6) (aCons (aVar 8) aNil))) (aVar 9))) (sRet (aC (.bl false))) sNext))))
    (sRet (aAnd (aOp uEq (aMeth "stretches" [] [("Table", w_Table_stretches)] (aVar 6) aNil) (aVar 4)) (aOp uEq (aMeth "stretches" [] [("Table", w_Table_stretches)] (aVar 7) aNil) (aVar 5)))))))))))

end K

namespace K
open PySem L2
/-! ### later heaps: all that stood stands, but what S names -/
structure Lat (S : Nat → Prop) (h h' : AH) : Prop where
  len : h.length ≤ h'.length
  old : ∀ n : Nat, n < h.length → ¬ S n → h'[n]? = h[n]?
abbrev Nob : Nat → Prop := fun _ => False
abbrev Pre (h h' : AH) : Prop := Lat Nob h h'
section
variable {S T : Nat → Prop} {h h' h1 h2 : AH} {n m : Nat} {xs : List U} {o : AO} {p : Str × List (Str × U)}
theorem Lat.refl : Lat S h h := ⟨Nat.le_refl _, fun _ _ _ => rfl⟩
theorem Lat.trans (a : Lat S h h1) (b : Lat S h1 h2) : Lat S h h2 := ⟨Nat.le_trans a.len b.len, fun n hn hs => (b.old n (Nat.lt_of_lt_of_le hn a.len) hs).trans (a.old n hn hs)⟩
theorem Lat.weak (a : Lat S h h1) (w : ∀ n, S n → T n) : Lat T h h1 := ⟨a.len, fun n hn hs => a.old n hn fun z => hs (w n z)⟩
theorem Lat.of (a : Pre h h1) : Lat T h h1 := a.weak fun _ z => z.elim
theorem Lat.app {t : AH} : Lat S h (h ++ t) := ⟨by simp, fun n hn _ => List.getElem?_append_left hn⟩
theorem Lat.set (hs : S n) : Lat S h (h.set n o) := ⟨by simp, fun m hm hn => List.getElem?_set_ne (fun (e : n = m) => hn (by rw [← e]; exact hs))⟩
/-- what is new may change -/
theorem Lat.setNew (a : Lat S h h1) (hn : h.length ≤ n) : Lat S h (h1.set n o) := ⟨by simp [a.len], fun m hm hs => by rw [List.getElem?_set_ne (by omega)]; exact a.old m hm hs⟩
theorem at_lt {o : AO} (e : h[n]? = some o) : n < h.length := (List.getElem?_eq_some_iff.mp e).1
theorem lst_lt (e : lstAt h n = some xs) : n < h.length := by rcases lstAt_of e with e | e | e <;> exact at_lt e
theorem own_lt (e : ownLst h n = some xs) : n < h.length := at_lt (ownLst_of e)
theorem ins_lt (e : insAt h n = some p) : n < h.length := at_lt (insAt_of e)
theorem Lat.at (a : Lat S h h') (e : h[n]? = some o) (hs : ¬ S n) : h'[n]? = some o := (a.old n (at_lt e) hs).trans e
theorem Lat.lst (a : Lat S h h') (e : lstAt h n = some xs) (hs : ¬ S n) : lstAt h' n = some xs := by
  unfold lstAt; rw [a.old n (lst_lt e) hs]; exact e
theorem Lat.own (a : Lat S h h') (e : ownLst h n = some xs) (hs : ¬ S n) : ownLst h' n = some xs := by
  unfold ownLst; rw [a.old n (own_lt e) hs]; exact e
theorem Lat.ins (a : Lat S h h') (e : insAt h n = some p) (hs : ¬ S n) : insAt h' n = some p := by
  unfold insAt; rw [a.old n (ins_lt e) hs]; exact e
theorem Pre.lst (a : Pre h h') (e : lstAt h n = some xs) : lstAt h' n = some xs := Lat.lst a e fun z => z
theorem Pre.own (a : Pre h h') (e : ownLst h n = some xs) : ownLst h' n = some xs := Lat.own a e fun z => z
theorem Pre.ins (a : Pre h h') (e : insAt h n = some p) : insAt h' n = some p := Lat.ins a e fun z => z
theorem own_lst (e : ownLst h n = some xs) : lstAt h n = some xs := by
  have := ownLst_of e
  unfold lstAt; rw [this]
theorem new_at : (h ++ [o])[h.length]? = some o := by simp
theorem new_own : ownLst (h ++ [.lst xs]) h.length = some xs := by unfold ownLst; rw [new_at]
theorem new_lst : lstAt (h ++ [.lst xs]) h.length = some xs := own_lst new_own
theorem set_at (hn : n < h.length) : (h.set n o)[n]? = some o := List.getElem?_set_self hn
theorem set_own (hn : n < h.length) : ownLst (h.set n (.lst xs)) n = some xs := by unfold ownLst; rw [set_at hn]
theorem ne_own (hm : m ≠ n) : ownLst (h.set m o) n = ownLst h n := by unfold ownLst; rw [List.getElem?_set_ne hm]
theorem ne_lst (hm : m ≠ n) : lstAt (h.set m o) n = lstAt h n := by unfold lstAt; rw [List.getElem?_set_ne hm]
end
section
variable {h : AH} {n : Nat} {xs : List U}
theorem Opt.walk {k : List U × (AH → Prop) → Prop} (hl : lstAt h n = some xs) (q : k (xs, fun h' => lstAt h' n = some xs)) : Opt (uWalk h (.obj n)) k :=
  .mk (show (lstAt h n).map _ = _ by rw [hl]; rfl) q
theorem Opt.items {k : List U → Prop} (hl : lstAt h n = some xs) (q : k xs) : Opt (itemsOf h (.obj n)) k := .mk (show lstAt h n = _ from hl) q
/-- a comprehension whose step leaves the heap -/
theorem lcP {live : AH → Prop} {g : GU} {Tt : WT} {W : WE} {ρw : SU} {Q : UQ} (f : U → Option U) (hlen : xs.length < sizeLine) (hlive : ∀ h', Pre h h' → live h')
    (hs : ∀ x ∈ xs, ∀ (h' : AH) (Kt : Option U → AH → Prop), Pre h h' → Kt (f x) h' → Opt (g h' x ρw) fun ρ2 => Tt ρ2 h' (fun b h3 => Br b (W ρ2 h3 (fun y h4 => Kt (some y) h4) (X0 ρ2)) (Kt none h3)) (X0 ρ2))
    (q : Q (.obj h.length) (h ++ [.lst (xs.filterMap f)])) :
    LcB xs live g Tt W ρw h Q := by
  refine ⟨fun i acc h' => acc = (xs.take i).filterMap f ∧ h' = h ++ [.lst acc], ⟨rfl, rfl⟩, ?_, ?_⟩
  · rintro i x acc h' hx ⟨rfl, rfl⟩
    have hi : i < xs.length := (List.getElem?_eq_some_iff.mp hx).1
    have hl : ((xs.take i).filterMap f).length < sizeLine := Nat.lt_of_le_of_lt (Nat.le_trans (List.length_filterMap_le _ _) (by rw [List.length_take]; omega)) hlen
    refine ⟨hlive _ .app, new_at, hl, ?_⟩
    refine hs x (List.mem_of_getElem? hx) _ (fun o h4 => match o with
      | some y => h4[h.length]? = some (.lst ((xs.take i).filterMap f)) ∧ (((xs.take i).filterMap f) ++ [y] = (xs.take (i + 1)).filterMap f ∧ h4.set h.length (.lst (((xs.take i).filterMap f) ++ [y])) = h ++ [.lst (((xs.take i).filterMap f) ++ [y])])
      | none => (xs.take i).filterMap f = (xs.take (i + 1)).filterMap f ∧ h4 = h ++ [.lst ((xs.take i).filterMap f)]) .app ?_
    have et : xs.take (i + 1) = xs.take i ++ [x] := by rw [List.take_add_one, hx]; rfl
    cases ef : f x with
    | none => exact ⟨by rw [et, List.filterMap_append]; simp [ef], rfl⟩
    | some y => exact ⟨new_at, by rw [et, List.filterMap_append]; simp [ef], by simp⟩
  · rintro acc h' ⟨rfl, rfl⟩
    rw [List.take_length]
    exact ⟨hlive _ .app, q⟩
theorem forP {live : AH → Prop} {g : GU} {Sb : WS} {nx : SK} {rt : UQ} {E : EX} {ρ : SU} (P : Nat → SU → AH → Prop) (h0 : P 0 ρ h)
    (hs : ∀ i x ρ' h', xs[i]? = some x → P i ρ' h' → live h' ∧ Opt (g h' x ρ') fun ρ2 => Sb (P (i + 1)) rt nx (P (i + 1)) E ρ2 h') (hd : ∀ ρ' h', P xs.length ρ' h' → live h' ∧ nx ρ' h') : ForB xs live g Sb nx rt E ρ h := ⟨P, h0, hs, hd⟩
theorem whP {T : WT} {Sb : WS} {nx : SK} {rt : UQ} {E : EX} {ρ : SU} (P : Nat → SU → AH → Prop) (h0 : ∃ m, P m ρ h)
    (hs : ∀ m ρ' h', P m ρ' h' → T ρ' h' (fun b h1 => Br b (Sb (fun ρ2 h2 => ∃ m', m' < m ∧ P m' ρ2 h2) rt nx (fun ρ2 h2 => ∃ m', m' < m ∧ P m' ρ2 h2) E ρ' h1) (nx ρ' h1)) (E ρ')) : WhB T Sb nx rt E ρ h := ⟨P, h0, hs⟩
end
/-! ### fractions -/
/-- the tuple of a rational number -/
def qU (r : Rat) : U := .tup [.int r.num, .int (r.den : Int)]
end K

namespace K
open PySem L2
section
variable {h : AH} {Q : UQ} {E : XQ}
theorem t_gd {x y : Int} (hx : 0 ≤ x) (hy : 0 ≤ y) (k : Q (.int (Int.gcd x y)) h) : w_greatest_divisor [.int x, .int y] h Q E := by
  refine ⟨rfl, whP (fun m ρ h' => h' = h ∧ ∃ a b : Int, ρ = [some (.int a), some (.int b)] ∧ 0 ≤ a ∧ 0 ≤ b ∧ Int.gcd a b = Int.gcd x y ∧ m = b.toNat) ⟨_, rfl, x, y, rfl, hx, hy, rfl, rfl⟩ ?_⟩
  rintro m ρ h' ⟨rfl, a, b, rfl, ha, hb, hg, rfl⟩
  refine Br.ndec (fun hz => ?_) (fun hz => ?_)
  · subst hz
    rw [← hg, Int.gcd_zero_right, Int.natAbs_of_nonneg ha] at k
    exact k
  · have hp : 0 < b := by omega
    have m0 := Int.emod_nonneg a (show b ≠ 0 by omega)
    have m1 := Int.emod_lt_of_pos a hp
    exact ⟨hp, (a % b).toNat, by omega, rfl, b, a % b, rfl, hb, m0, by rw [gcd_step ha hp, hg], rfl⟩
theorem abs_if (x : Int) : (if x < 0 then -x else x) = (x.natAbs : Int) := by split <;> omega
theorem lo_q {a b : Int} (hb : b ≠ 0) : U.tup [.int (lo1 a b), .int (lo2 a b)] = qU (Rat.divInt a b) := by
  unfold qU; rw [lo_num hb, lo_den hb]
/-- fraction_of, the bottom not nought -/
theorem t_fr {a b : Int} (hb : b ≠ 0) (hl : b.natAbs.log2 < 9000) (k : Q (qU (Rat.divInt a b)) h) : w_fraction_of [.int a, .int b] h Q E := by
  refine ⟨rfl, ?_⟩
  refine Br.neg hb ?_
  refine t_gd (by rw [abs_if]; omega) (by rw [abs_if]; omega) ?_
  have eg : (Int.gcd (if a < 0 then -a else a) (if b < 0 then -b else b) : Int) = (Int.gcd a b : Int) := by rw [abs_if, abs_if]; simp [Int.gcd]
  rw [eg]
  have d0 := dv_ne (a := a) hb
  have ds := dv_small (a := a) hb hl
  rw [← lo_q hb] at k
  refine Br.dec (fun hn => ?_) (fun hn => ?_)
  · have e : -(Int.gcd a b : Int) = dv a b := by unfold dv; rw [if_pos hn]
    show CDivB a (-(Int.gcd a b : Int)) ∧ CDivB b (-(Int.gcd a b : Int)) ∧ _
    rw [e]
    exact ⟨⟨d0, ds⟩, ⟨d0, ds⟩, (by show 2 ≤ sizeLine; decide), k⟩
  · have e : (Int.gcd a b : Int) = dv a b := by unfold dv; rw [if_neg hn]
    show CDivB a (Int.gcd a b : Int) ∧ CDivB b (Int.gcd a b : Int) ∧ _
    rw [e]
    exact ⟨⟨d0, ds⟩, ⟨d0, ds⟩, (by show 2 ≤ sizeLine; decide), k⟩
theorem t_less {r s : Rat} {j k : Nat} (hr : Bt j r) (hs : Bt k s) (hj : j ≤ 9000) (hk : k ≤ 9000) (q : Q (.bl (decide (r < s))) h) : w_is_less [qU r, qU s] h Q E := by
  have e : decide (r < s) = decide (r.num * (s.den : Int) < s.num * (r.den : Int)) := by rw [decide_eq_decide]; exact Rat.lt_iff r s
  rw [e] at q
  exact ⟨rfl, mulOk hr.n (dn hs) hj hk, mulOk hs.n (dn hr) hk hj, q⟩
end
end K

namespace K
open PySem L2
section
variable {h : AH} {Q : UQ} {E : XQ}
theorem rd {b : Nat} {xs : List U} {i : Int} {u : U} {k : UQ} (hb : lstAt h b = some xs) (e : atI xs i = some u) (q : k u h) : uIx (.obj b) (.int i) h k := Opt.mk hb (Opt.mk e q)
theorem wr {b j : Nat} {xs : List U} {i : Int} {v : U} {k : AH → Prop} (hb : ownLst h b = some xs) (e : ixN xs.length i = some j) (q : k (h.set b (.lst (xs.set j v)))) : uSet (.obj b) (.int i) v h k := Opt.mk hb (Opt.mk e q)
theorem ln {b : Nat} {xs : List U} {k : UQ} (hb : lstAt h b = some xs) (q : k (.int xs.length) h) : uLen [.obj b] h k := Opt.mk hb q
theorem atI_of {xs : List U} {i : Int} {u : U} (h0 : 0 ≤ i) (e : xs[i.toNat]? = some u) : atI xs i = some u := by
  have hl := (List.getElem?_eq_some_iff.mp e).1
  unfold atI ixN
  rw [if_pos h0, if_pos (by omega)]
  exact e
/-- the box of draws: at b, the script's numbers at s; at most D draws were taken -/
structure BoxK (h : AH) (b s : Nat) (D : Int) : Prop where
  ex : ∃ (ns : List Int) (i c d : Int), ownLst h b = some [.obj s, .int i, .int c, .int d] ∧ lstAt h s = some (ns.map U.int) ∧ 0 ≤ i ∧ 0 ≤ c ∧ 0 ≤ d ∧ d ≤ D ∧ b ≠ s
theorem BoxK.lat {S : Nat → Prop} {h h' : AH} {b s : Nat} {D : Int} (B : BoxK h b s D) (l : Lat S h h') (hb : ¬ S b) (hs : ¬ S s) : BoxK h' b s D := by
  obtain ⟨ns, i, c, d, h1, h2, r⟩ := B.ex
  exact ⟨ns, i, c, d, l.own h1 hb, l.lst h2 hs, r⟩
theorem BoxK.ne {h : AH} {b s : Nat} {D : Int} (B : BoxK h b s D) : b ≠ s := by obtain ⟨_, _, _, _, _, _, _, _, _, _, n⟩ := B.ex; exact n
theorem BoxK.lt {h : AH} {b s : Nat} {D : Int} (B : BoxK h b s D) : b < h.length ∧ s < h.length := by obtain ⟨_, _, _, _, h1, h2, _⟩ := B.ex; exact ⟨own_lt h1, lst_lt h2⟩
theorem BoxK.mono {h : AH} {b s : Nat} {D D' : Int} (B : BoxK h b s D) (e : D ≤ D') : BoxK h b s D' := by obtain ⟨ns, i, c, d, h1, h2, h3, h4, h5, h6, h7⟩ := B.ex; exact ⟨ns, i, c, d, h1, h2, h3, h4, h5, by omega, h7⟩
end
end K

namespace K
open PySem L2
section
variable {h : AH} {Q : UQ} {E : XQ}
theorem mn {b : Nat} {ns : List Int} {k : UQ} (hb : lstAt h b = some (ns.map U.int)) (hne : 0 < ns.length) (q : ∀ m, m ∈ ns → (∀ y, y ∈ ns → m ≤ y) → k (.int m) h) : uMin [.obj b] h k := Opt.mk hb (Opt.mk (intsOf_map ns) ⟨hne, q⟩)
theorem mx {b : Nat} {ns : List Int} {k : UQ} (hb : lstAt h b = some (ns.map U.int)) (hne : 0 < ns.length) (q : ∀ m, m ∈ ns → (∀ y, y ∈ ns → y ≤ m) → k (.int m) h) : uMax [.obj b] h k := Opt.mk hb (Opt.mk (intsOf_map ns) ⟨hne, q⟩)
theorem sm {b : Nat} {ns : List Int} {k : UQ} (hb : lstAt h b = some (ns.map U.int)) (q : k (.int ns.sum) h) : uSum [.obj b] h k := Opt.mk hb (Opt.mk (intsOf_map ns) q)
/-- stretches -/
abbrev Rows := List (Int × Int)
def rowsU (rs : Rows) : List U := rs.map fun p => .tup [.int p.1, .int p.2]
def wid (rs : Rows) : Int := (rs.map (·.1)).sum
structure Good (rs : Rows) : Prop where
  lo : 1 ≤ rs.length
  hi : rs.length ≤ 8
  w : ∀ p ∈ rs, 1 ≤ p.1 ∧ p.1 ≤ 999
  v : ∀ p ∈ rs, 0 ≤ p.2 ∧ p.2 ≤ 999999999
  some : ∃ p ∈ rs, 0 < p.2
def fst2 : U → Option U
  | .tup [a, _] => some a
  | _ => none
def snd2 : U → Option U
  | .tup [_, b] => some b
  | _ => none
theorem rows_fst (rs : Rows) : (rowsU rs).filterMap fst2 = (rs.map (·.1)).map U.int := by
  unfold rowsU; rw [List.filterMap_map, List.map_map]; exact congrFun List.filterMap_eq_map' rs
theorem rows_snd (rs : Rows) : (rowsU rs).filterMap snd2 = (rs.map (·.2)).map U.int := by
  unfold rowsU; rw [List.filterMap_map, List.map_map]; exact congrFun List.filterMap_eq_map' rs
theorem rows_all (rs : Rows) : (rowsU rs).filterMap some = rowsU rs := List.filterMap_some
theorem rows_mem {rs : Rows} {x : U} (hx : x ∈ rowsU rs) : ∃ a b : Int, x = .tup [.int a, .int b] ∧ (a, b) ∈ rs := by
  obtain ⟨p, hp, rfl⟩ := List.mem_map.1 hx
  exact ⟨p.1, p.2, rfl, hp⟩
theorem rows_len (rs : Rows) : (rowsU rs).length = rs.length := by unfold rowsU; simp
theorem small {n : Nat} (h : n ≤ 1000) : n < sizeLine := Nat.lt_of_le_of_lt h (by decide)
theorem t_istab {n : Nat} {rs : Rows} (hl : lstAt h n = some (rowsU rs)) (G : Good rs) (k : ∀ h', Pre h h' → Q (.bl true) h') : w_is_table [.obj n] h Q E := by
  have hlen := rows_len rs
  have g1 := G.lo
  have g2 := G.hi
  refine ⟨rfl, ln hl (Br.pos (by omega) ?_)⟩
  refine Br.mpos (by omega) ?_
  refine Opt.walk hl (lcP (xs := rowsU rs) fst2 (small (by omega)) (fun h' l => Pre.lst l hl) ?_ ?_)
  · intro x hx h' Kt l q
    obtain ⟨a, b, rfl, _⟩ := rows_mem hx
    exact q
  · rw [rows_fst]
    have l1 : Pre h (h ++ [AO.lst ((rs.map (·.1)).map U.int)]) := .app
    refine Opt.walk (Pre.lst l1 hl) (lcP (xs := rowsU rs) snd2 (small (by omega)) (fun h' l => Pre.lst (l1.trans l) hl) ?_ ?_)
    · intro x hx h' Kt l q
      obtain ⟨a, b, rfl, _⟩ := rows_mem hx
      exact q
    · rw [rows_snd]
      have e1 : lstAt (h ++ [AO.lst ((rs.map (·.1)).map U.int)] ++ [AO.lst ((rs.map (·.2)).map U.int)]) h.length = some ((rs.map (·.1)).map U.int) := Pre.lst .app new_lst
      have e2 : lstAt (h ++ [AO.lst ((rs.map (·.1)).map U.int)] ++ [AO.lst ((rs.map (·.2)).map U.int)]) (h ++ [AO.lst ((rs.map (·.1)).map U.int)]).length = some ((rs.map (·.2)).map U.int) := new_lst
      have l2 : Pre h (h ++ [AO.lst ((rs.map (·.1)).map U.int)] ++ [AO.lst ((rs.map (·.2)).map U.int)]) := l1.trans .app
      have n1 : 0 < (rs.map (·.1)).length := by rw [List.length_map]; omega
      have n2 : 0 < (rs.map (·.2)).length := by rw [List.length_map]; omega
      obtain ⟨p0, hp0, hv0⟩ := G.some
      refine mn e1 n1 fun m hm hle => Br.neg ?_ (mx e1 n1 fun m hm hle => Br.neg ?_ (mn e2 n2 fun m hm hle => ?_))
      · obtain ⟨p, hp, rfl⟩ := List.mem_map.1 hm; have := G.w p hp; omega
      · obtain ⟨p, hp, rfl⟩ := List.mem_map.1 hm; have := G.w p hp; omega
      · refine Br.pos ?_ (mx e2 n2 fun m' hm' hle' => Br.pos ?_ ?_)
        · obtain ⟨p, hp, rfl⟩ := List.mem_map.1 hm; have := G.v p hp; omega
        · have := hle' p0.2 (List.mem_map.mpr ⟨p0, hp0, rfl⟩); omega
        · have : m' ≤ 999999999 := by obtain ⟨p, hp, rfl⟩ := List.mem_map.1 hm'; have := G.v p hp; omega
          have e : U.bl (decide (m' ≤ 999999999)) = .bl true := by rw [decide_eq_true this]
          show Q (.bl (decide (m' ≤ 999999999))) _
          rw [e]
          exact k _ l2
abbrev CF := Str × List (Str × U)
/-- a table stands at t -/
structure IsTab (h : AH) (t : Nat) (rs : Rows) : Prop where
  ex : ∃ r, insAt h t = some (("Table", [("rows", .obj r), ("breadth", .int (wid rs))]) : CF) ∧ lstAt h r = some (rowsU rs)
theorem IsTab.lat {S : Nat → Prop} {h h' : AH} {t : Nat} {rs : Rows} (T : IsTab h t rs) (l : Lat S h h') (hs : ∀ n, n < h.length → ¬ S n) : IsTab h' t rs := by
  obtain ⟨r, h1, h2⟩ := T.ex
  exact ⟨r, l.ins h1 (hs _ (ins_lt h1)), l.lst h2 (hs _ (lst_lt h2))⟩
theorem IsTab.pre {h h' : AH} {t : Nat} {rs : Rows} (T : IsTab h t rs) (l : Pre h h') : IsTab h' t rs := T.lat l fun _ _ z => z
theorem putU_ne {f x : Str} {v u : U} {r : List (Str × U)} (n : x ≠ f) : putU f v ((x, u) :: r) = (x, u) :: putU f v r := by
  show (if x = f then _ else _) = _
  rw [if_neg n]
theorem t_tinit {t n : Nat} {rs : Rows} (ht : insAt h t = some (("Table", []) : CF)) (hl : lstAt h n = some (rowsU rs)) (G : Good rs) (k : ∀ h' r, Lat (· = t) h h' → h.length ≤ r → insAt h' t = some (("Table", [("rows", .obj r), ("breadth", .int (wid rs))]) : CF) → lstAt h' r = some (rowsU rs) → Q .non h') : w_Table_init [.obj t, .obj n] h Q E := by
  have hlen := rows_len rs
  have g2 := G.hi
  refine ⟨rfl, t_istab hl G fun h1 l1 => ?_⟩
  have hl1 := Pre.lst l1 hl
  refine Opt.walk hl1 (lcP (xs := rowsU rs) some (small (by omega)) (fun h' l => Pre.lst l hl1) ?_ ?_)
  · intro x hx h' Kt l q
    obtain ⟨a, b, rfl, _⟩ := rows_mem hx
    exact ⟨by show 2 ≤ sizeLine; decide, q⟩
  · rw [rows_all]
    have ht1 : insAt (h1 ++ [AO.lst (rowsU rs)]) t = some (("Table", []) : CF) := Pre.ins (l1.trans .app) ht
    refine Opt.mk ht1 ⟨List.mem_singleton.mpr rfl, by decide, ?_⟩
    have ep1 : AO.ins "Table" (putU "rows" (.obj h1.length) []) = AO.ins "Table" [("rows", .obj h1.length)] := rfl
    have lt1 := ins_lt ht1
    have nt : t ≠ h1.length := fun e => by have := ins_lt ht; have := l1.len; omega
    have nn : t ≠ n := fun e => by
      have h3 := insAt_of ht
      rcases lstAt_of hl with h4 | h4 | h4
      · rw [← e, h3] at h4; cases h4
      · rw [← e, h3] at h4; cases h4
      · rw [← e, h3] at h4; cases h4
    have hl2 : lstAt ((h1 ++ [AO.lst (rowsU rs)]).set t (AO.ins "Table" [("rows", .obj h1.length)])) n = some (rowsU rs) := by rw [ne_lst nn]; exact Pre.lst .app hl1
    refine Opt.walk hl2 (lcP (xs := rowsU rs) fst2 (small (by omega)) (fun h' l => Pre.lst l hl2) ?_ ?_)
    · intro x hx h' Kt l q
      obtain ⟨a, b, rfl, _⟩ := rows_mem hx
      exact q
    · rw [rows_fst]
      refine sm new_lst ?_
      have ht3 : insAt ((h1 ++ [AO.lst (rowsU rs)]).set t (AO.ins "Table" [("rows", .obj h1.length)]) ++ [AO.lst ((rs.map (·.1)).map U.int)]) t = some (("Table", [("rows", .obj h1.length)]) : CF) := by
        refine Pre.ins .app ?_
        unfold insAt; rw [set_at lt1]
      refine Opt.mk ht3 ⟨List.mem_singleton.mpr rfl, by show 1 < 1000; decide, ?_⟩
      have ep2 : putU "breadth" (.int (rs.map (·.1)).sum) [("rows", .obj h1.length)] = ([("rows", .obj h1.length), ("breadth", .int (wid rs))] : List (Str × U)) := putU_ne (by decide)
      show Q .non (((h1 ++ [AO.lst (rowsU rs)]).set t (AO.ins "Table" [("rows", .obj h1.length)]) ++ [AO.lst ((rs.map (·.1)).map U.int)]).set t (AO.ins "Table" (putU "breadth" (.int (rs.map (·.1)).sum) [("rows", .obj h1.length)])))
      rw [ep2]
      refine k _ h1.length ?_ l1.len ?_ ?_
      · exact (((Lat.of (T := (· = t)) (l1.trans .app)).trans (.set (S := (· = t)) rfl)).trans .app).trans (.set (S := (· = t)) rfl)
      · unfold insAt; rw [set_at (ins_lt ht3)]
      · rw [ne_lst nt]
        refine Pre.lst .app ?_
        rw [ne_lst nt]
        exact new_lst
theorem t_stretches {t : Nat} {rs : Rows} (T : IsTab h t rs) (k : Q (.obj h.length) (h ++ [AO.lst (rowsU rs)])) : w_Table_stretches [.obj t] h Q E := by
  obtain ⟨r, h1, h2⟩ := T.ex
  exact ⟨rfl, Opt.mk h1 ⟨List.mem_singleton.mpr rfl, Opt.mk rfl (Opt.items h2 k)⟩⟩
end
end K

namespace K
open PySem L2
/-! ### spans told: rising, none empty, none touching another -/
abbrev Sps := List (Rat × Rat)
def InS (S : Sps) (x : Rat) : Prop := ∃ p ∈ S, p.1 ≤ x ∧ x ≤ p.2
structure Nf (S : Sps) : Prop where
  ne : ∀ p ∈ S, p.1 < p.2
  ap : S.Pairwise fun p q => p.2 < q.1
theorem Nf.tail {p : Rat × Rat} {S : Sps} (n : Nf (p :: S)) : Nf S := ⟨fun q hq => n.ne q (List.mem_cons_of_mem _ hq), (List.pairwise_cons.mp n.ap).2⟩
theorem Nf.hd {p : Rat × Rat} {S : Sps} (n : Nf (p :: S)) : p.1 < p.2 ∧ ∀ q ∈ S, p.2 < q.1 := ⟨n.ne p (by simp), (List.pairwise_cons.mp n.ap).1⟩
theorem Nf.lo {p : Rat × Rat} {S : Sps} (n : Nf (p :: S)) {x : Rat} (h : InS (p :: S) x) : p.1 ≤ x := by
  obtain ⟨q, hq, h1, h2⟩ := h
  have a := n.hd
  rcases List.mem_cons.1 hq with rfl | hq
  · exact h1
  · have := a.2 q hq; have := a.1; grind
/-- between the first span's end and the next begin nothing is held -/
theorem Nf.gap {p : Rat × Rat} {S : Sps} (n : Nf (p :: S)) {y : Rat} (hy : p.2 < y) : ∃ x, p.2 < x ∧ x < y ∧ ¬ InS (p :: S) x := by
  have a := n.hd
  cases S with
  | nil =>
    refine ⟨(p.2 + y) / 2, by grind, by grind, ?_⟩
    rintro ⟨q, hq, h1, h2⟩
    rw [List.mem_singleton] at hq; subst hq; grind
  | cons q S =>
    have b := a.2 q (by simp)
    have c := n.tail.hd
    obtain ⟨m, hm⟩ : ∃ m, m = if y < q.1 then y else q.1 := ⟨_, rfl⟩
    have m1 : p.2 < m := by rw [hm]; split <;> grind
    have m2 : m ≤ y := by rw [hm]; split <;> grind
    have m3 : m ≤ q.1 := by rw [hm]; split <;> grind
    refine ⟨(p.2 + m) / 2, by grind, by grind, ?_⟩
    rintro ⟨r, hr, h1, h2⟩
    rcases List.mem_cons.1 hr with rfl | hr
    · grind
    · have : q.1 ≤ r.1 := by
        rcases List.mem_cons.1 hr with rfl | hr
        · exact Rat.le_refl
        · have := c.2 r hr; have := c.1; grind
      grind
theorem Nf.uniq : ∀ {S T : Sps}, Nf S → Nf T → (∀ x, InS S x ↔ InS T x) → S = T
  | [], [], _, _, _ => rfl
  | [], q :: T, _, n, h => by
    have := (h q.1).mpr ⟨q, by simp, Rat.le_refl, Rat.le_of_lt n.hd.1⟩
    obtain ⟨r, hr, _⟩ := this; simp at hr
  | p :: S, [], n, _, h => by
    have := (h p.1).mp ⟨p, by simp, Rat.le_refl, Rat.le_of_lt n.hd.1⟩
    obtain ⟨r, hr, _⟩ := this; simp at hr
  | p :: S, q :: T, n, m, h => by
    have a := n.hd
    have b := m.hd
    have e1 : p.1 = q.1 := by
      have c := m.lo ((h p.1).mp ⟨p, by simp, Rat.le_refl, Rat.le_of_lt a.1⟩)
      have d := n.lo ((h q.1).mpr ⟨q, by simp, Rat.le_refl, Rat.le_of_lt b.1⟩)
      grind
    have e2 : p.2 = q.2 := by
      have c1 : ¬ p.2 < q.2 := fun z => by
        obtain ⟨x, x1, x2, x3⟩ := n.gap z
        exact x3 ((h x).mpr ⟨q, by simp, by grind, by grind⟩)
      have c2 : ¬ q.2 < p.2 := fun z => by
        obtain ⟨x, x1, x2, x3⟩ := m.gap z
        exact x3 ((h x).mp ⟨p, by simp, by grind, by grind⟩)
      grind
    have e : p = q := Prod.ext e1 e2
    subst e
    congr 1
    refine Nf.uniq n.tail m.tail fun x => ⟨fun ⟨r, hr, h1, h2⟩ => ?_, fun ⟨r, hr, h1, h2⟩ => ?_⟩
    · obtain ⟨t, ht, h3, h4⟩ := (h x).mp ⟨r, List.mem_cons_of_mem _ hr, h1, h2⟩
      rcases List.mem_cons.1 ht with rfl | ht
      · have := a.2 r hr; grind
      · exact ⟨t, ht, h3, h4⟩
    · obtain ⟨t, ht, h3, h4⟩ := (h x).mpr ⟨r, List.mem_cons_of_mem _ hr, h1, h2⟩
      rcases List.mem_cons.1 ht with rfl | ht
      · have := b.2 r hr; grind
      · exact ⟨t, ht, h3, h4⟩
/-! ### a span joined to told ones -/
end K

namespace K
open PySem L2
theorem Good.l1 {rs : Rows} (g : Good rs) : 1 ≤ rs.length := g.lo
theorem Good.l8 {rs : Rows} (g : Good rs) : rs.length ≤ 8 := g.hi
def clamp (y w : Rat) : Rat := if y ≤ 0 then 0 else if y ≤ w then y else w
def ahQ : List (Int × Int) → Rat → Rat
  | [], _ => 0
  | (w, v) :: ps, y => v * clamp y w / w + ahQ ps (y - w)
theorem clamp_term {b w v reach taken : Int} {y : Rat} (hb : 0 < b) (hw : 0 < w) (hr : (reach : Rat) = b * y) (ht : taken = (if reach ≤ 0 then 0 else if reach ≤ w * b then reach else w * b)) : Rat.divInt (v * taken) (w * b) = v * clamp y w / w := by
  have hb' : (0 : Rat) < b := Rat.intCast_pos.mpr hb
  have hw' : (0 : Rat) < w := Rat.intCast_pos.mpr hw
  have e : (taken : Rat) = b * clamp y w := by
    subst ht
    unfold clamp
    by_cases h1 : reach ≤ 0
    · have : y ≤ 0 := by
        have h2 : (reach : Rat) ≤ 0 := by exact_mod_cast h1
        rw [hr] at h2
        apply Rat.not_lt.mp
        intro h3
        have := Rat.mul_pos hb' h3
        grind
      rw [if_pos h1, if_pos this]; simp
    · have h2 : ¬ y ≤ 0 := by
        intro h3
        have h4 : (0 : Rat) < reach := by exact_mod_cast (by omega : 0 < reach)
        rw [hr] at h4
        have := Rat.mul_le_mul_of_nonneg_left h3 (Rat.le_of_lt hb')
        grind
      rw [if_neg h1, if_neg h2]
      by_cases h3 : reach ≤ w * b
      · have : y ≤ w := by
          have h4 : (reach : Rat) ≤ (w : Rat) * b := by exact_mod_cast h3
          rw [hr] at h4
          apply Rat.not_lt.mp
          intro h5
          have := Rat.mul_lt_mul_of_pos_left h5 hb'
          grind
        rw [if_pos h3, if_pos this]; exact hr
      · have : ¬ y ≤ w := by
          intro h5
          have h4 : (w : Rat) * b < reach := by exact_mod_cast (by omega : w * b < reach)
          rw [hr] at h4
          have := Rat.mul_le_mul_of_nonneg_left h5 (Rat.le_of_lt hb')
          grind
        rw [if_neg h3, if_neg this]
        push_cast
        grind
  rw [Rat.divInt_eq_div]
  push_cast
  rw [e]
  have h1 : (b : Rat) ≠ 0 := by grind
  have h2 : (w : Rat) ≠ 0 := by grind
  grind
/-- one stretch, by its ends -/
def stR (Pp w W s t : Rat) : Rat := 
  let l := if Pp / W < s then s else Pp / W
  let h := if t < (Pp + w) / W then t else (Pp + w) / W
  if l < h then (h - l) * W else 0
theorem st_clamp {Pp w W s t : Rat} (hW : 0 < W) (hw : 0 < w) (hst : s ≤ t) : stR Pp w W s t = clamp (t * W - Pp) w - clamp (s * W - Pp) w := by
  have hW2 : W ≠ 0 := by grind
  have e1 : Pp / W * W = Pp := Rat.div_mul_cancel hW2
  have e2 : (Pp + w) / W * W = Pp + w := Rat.div_mul_cancel hW2
  have m : ∀ x y : Rat, x < y → x * W < y * W := fun x y h => Rat.mul_lt_mul_of_pos_right h hW
  have m' : ∀ x y : Rat, ¬ x < y → y * W ≤ x * W := fun x y h => Rat.mul_le_mul_of_nonneg_right (Rat.not_lt.mp h) (Rat.le_of_lt hW)
  have hst' := Rat.mul_le_mul_of_nonneg_right hst (Rat.le_of_lt hW)
  unfold stR clamp
  by_cases h1 : Pp / W < s <;> by_cases h2 : t < (Pp + w) / W
  · have c1 := m _ _ h1; have c2 := m _ _ h2
    rw [e1] at c1; rw [e2] at c2
    simp only [h1, h2, if_true]
    by_cases h3 : s < t
    · have c3 := m _ _ h3
      simp only [h3, if_true]
      grind
    · have c3 := m' _ _ h3
      simp only [h3, if_false]
      grind
  · have c1 := m _ _ h1; have c2 := m' _ _ h2
    rw [e1] at c1; rw [e2] at c2
    simp only [h1, h2, if_true, if_false]
    by_cases h3 : s < (Pp + w) / W
    · have c3 := m _ _ h3
      rw [e2] at c3
      simp only [h3, if_true]
      grind
    · have c3 := m' _ _ h3
      rw [e2] at c3
      simp only [h3, if_false]
      grind
  · have c1 := m' _ _ h1; have c2 := m _ _ h2
    rw [e1] at c1; rw [e2] at c2
    simp only [h1, h2, if_true, if_false]
    by_cases h3 : Pp / W < t
    · have c3 := m _ _ h3
      rw [e1] at c3
      simp only [h3, if_true]
      grind
    · have c3 := m' _ _ h3
      rw [e1] at c3
      simp only [h3, if_false]
      grind
  · have c1 := m' _ _ h1; have c2 := m' _ _ h2
    rw [e1] at c1; rw [e2] at c2
    simp only [h1, h2, if_false]
    by_cases h3 : Pp / W < (Pp + w) / W
    · have c3 := m _ _ h3
      rw [e1, e2] at c3
      simp only [h3, if_true]
      grind
    · have c3 := m' _ _ h3
      rw [e1, e2] at c3
      grind
theorem mwid_b : ∀ ps : List (Int × Int), ps.length ≤ 8 → (∀ x ∈ ps, 1 ≤ x.1 ∧ x.1 ≤ 999) → 0 ≤ wid ps ∧ wid ps ≤ 999 * ps.length ∧ (ps.length : Int) ≤ wid ps := by
  intro ps
  induction ps with
  | nil => intro _ _; simp [wid]
  | cons a ps ih =>
    intro h8 hw
    have := ih (by simp at h8; omega) (fun y hy => hw y (List.mem_cons_of_mem _ hy))
    have h1 := hw a List.mem_cons_self
    have e : wid (a :: ps) = a.1 + wid ps := by simp [wid]
    rw [e, List.length_cons]
    omega
theorem mwid_pos {ps : List (Int × Int)} (g : Good ps) : 0 < wid ps := by
  have := mwid_b ps g.l8 g.w
  have := g.l1
  omega
/-- widths and worths of a table -/
def OkS (ps : List (Int × Int)) : Prop := ∀ x ∈ ps, (1 ≤ x.1 ∧ x.1 ≤ 999) ∧ 0 ≤ x.2 ∧ x.2 ≤ 999999999
theorem Good.oks {ps : List (Int × Int)} (g : Good ps) : OkS ps := fun x hx => ⟨g.w x hx, g.v x hx⟩
theorem OkS.tail {a : Int × Int} {ps : List (Int × Int)} (h : OkS (a :: ps)) : OkS ps := fun x hx => h x (List.mem_cons_of_mem _ hx)
theorem OkS.take {ps : List (Int × Int)} (h : OkS ps) (n : Nat) : OkS (ps.take n) := fun x hx => h x (List.mem_of_mem_take hx)
theorem OkS.drop {ps : List (Int × Int)} (h : OkS ps) (n : Nat) : OkS (ps.drop n) := fun x hx => h x (List.mem_of_mem_drop hx)
def sumV (ps : List (Int × Int)) : Int := (ps.map (·.2)).sum
theorem sumV_cons (w v : Int) (ps : List (Int × Int)) : sumV ((w, v) :: ps) = v + sumV ps := by simp [sumV]
theorem mwid_cons (w v : Int) (ps : List (Int × Int)) : wid ((w, v) :: ps) = w + wid ps := by simp [wid]
theorem sumV_b : ∀ ps : List (Int × Int), OkS ps → 0 ≤ sumV ps ∧ sumV ps ≤ 999999999 * ps.length := by
  intro ps
  induction ps with
  | nil => intro _; simp [sumV]
  | cons a ps ih =>
    intro h
    have := ih h.tail
    have h1 := (h a List.mem_cons_self).2
    obtain ⟨x, y⟩ := a
    rw [sumV_cons, List.length_cons]
    dsimp only at h1
    omega
/-- a slope -/
theorem sl_nonneg {v w : Int} (hw : 0 < w) (hv : 0 ≤ v) : ∃ q : Rat, 0 ≤ q ∧ (∀ c : Rat, v * c / w = c * q) ∧ q * w = v ∧ (0 < v → 0 < q) := by
  have hw' : (0 : Rat) < w := Rat.intCast_pos.mpr hw
  have hw2 : (w : Rat) ≠ 0 := by grind
  have hi : (0 : Rat) < (w : Rat)⁻¹ := Rat.inv_pos.mpr hw'
  have hv' : (0 : Rat) ≤ v := by exact_mod_cast hv
  refine ⟨v * (w : Rat)⁻¹, Rat.mul_nonneg hv' (Rat.le_of_lt hi), fun c => by rw [Rat.div_def]; grind, by rw [Rat.mul_assoc, Rat.inv_mul_cancel _ hw2]; grind, fun h => Rat.mul_pos (Rat.intCast_pos.mpr h) hi⟩
theorem clamp_b {y w : Rat} (hw : 0 < w) : 0 ≤ clamp y w ∧ clamp y w ≤ w := by
  unfold clamp
  split
  · grind
  · split <;> grind
theorem clamp_mono {y z w : Rat} (hw : 0 < w) (h : y ≤ z) : clamp y w ≤ clamp z w := by
  unfold clamp
  grind
theorem ah_b : ∀ {ps : List (Int × Int)} (y : Rat), OkS ps → 0 ≤ ahQ ps y ∧ ahQ ps y ≤ (sumV ps : Rat)
  | [], y, _ => by simp [ahQ, sumV]
  | (w, v) :: ps, y, h => by
    have h1 := h (w, v) List.mem_cons_self
    dsimp only at h1
    have ih := ah_b (ps := ps) (y - w) h.tail
    obtain ⟨q, q0, qc, qw, _⟩ := sl_nonneg (v := v) (w := w) (by omega) (by omega)
    have hw' : (0 : Rat) < w := Rat.intCast_pos.mpr (by omega)
    have hc := clamp_b (y := y) hw'
    simp only [ahQ]
    rw [qc, sumV_cons]
    push_cast
    have a := Rat.mul_nonneg hc.1 q0
    have b := Rat.mul_le_mul_of_nonneg_right hc.2 q0
    rw [Rat.mul_comm (w : Rat) q, qw] at b
    grind
theorem ah_mono : ∀ {ps : List (Int × Int)} {y z : Rat}, OkS ps → y ≤ z → ahQ ps y ≤ ahQ ps z
  | [], y, z, _, _ => by simp [ahQ]
  | (w, v) :: ps, y, z, h, hyz => by
    have h1 := h (w, v) List.mem_cons_self
    dsimp only at h1
    have ih := ah_mono (ps := ps) (y := y - w) (z := z - w) h.tail (by grind)
    obtain ⟨q, q0, qc, _, _⟩ := sl_nonneg (v := v) (w := w) (by omega) (by omega)
    have hw' : (0 : Rat) < w := Rat.intCast_pos.mpr (by omega)
    have hc := clamp_mono hw' hyz
    simp only [ahQ]
    rw [qc, qc]
    have b := Rat.mul_le_mul_of_nonneg_right hc q0
    grind
theorem ah_nil : ∀ {ps : List (Int × Int)} {y : Rat}, OkS ps → y ≤ 0 → ahQ ps y = 0
  | [], y, _, _ => rfl
  | (w, v) :: ps, y, h, hy => by
    have h1 := h (w, v) List.mem_cons_self
    dsimp only at h1
    have hw' : (0 : Rat) < w := Rat.intCast_pos.mpr (by omega)
    have ih := ah_nil (ps := ps) (y := y - w) h.tail (by grind)
    simp only [ahQ, clamp]
    rw [ih, if_pos hy, Rat.div_def]
    grind
/-- the bottom of a worth ahead -/
theorem ah_den : ∀ {ps : List (Int × Int)} (c b : Int), OkS ps → 0 < b → ∃ N d : Int, 1 ≤ d ∧ d ≤ 999 ∧ ahQ ps ((c : Rat) / b) = (N : Rat) / ((b * d : Int) : Rat)
  | [], c, b, _, _ => ⟨0, 1, by decide, by decide, by simp only [ahQ]; rw [Rat.div_def]; grind⟩
  | (w, v) :: ps, c, b, h, hb => by
    have h1 := h (w, v) List.mem_cons_self
    dsimp only at h1
    have hb' : (0 : Rat) < b := Rat.intCast_pos.mpr hb
    have hb2 : (b : Rat) ≠ 0 := by grind
    have hw' : (0 : Rat) < w := Rat.intCast_pos.mpr (by omega)
    have hw2 : (w : Rat) ≠ 0 := by grind
    by_cases h0 : (c : Rat) / b ≤ 0
    · refine ⟨0, 1, by decide, by decide, ?_⟩
      rw [ah_nil h h0, Rat.div_def]
      grind
    · by_cases h2 : (c : Rat) / b ≤ w
      · refine ⟨v * c, w, by omega, by omega, ?_⟩
        simp only [ahQ]
        rw [ah_nil (ps := ps) h.tail (by grind)]
        unfold clamp
        rw [if_neg h0, if_pos h2]
        push_cast
        grind
      · obtain ⟨N, d, d1, d2, e⟩ := ah_den (ps := ps) (c - b * w) b h.tail hb
        have e2 : (c : Rat) / b - w = ((c - b * w : Int) : Rat) / b := by push_cast; grind
        refine ⟨v * (b * d) + N, d, d1, d2, ?_⟩
        simp only [ahQ]
        rw [e2, e]
        unfold clamp
        rw [if_neg h0, if_neg h2]
        have hd' : (0 : Rat) < d := Rat.intCast_pos.mpr (by omega)
        have hd2 : (d : Rat) ≠ 0 := by grind
        push_cast
        grind
theorem ah_bt {ps : List (Int × Int)} {r : Rat} {k : Nat} (W : Int) (h : OkS ps) (l8 : ps.length ≤ 8) (hk : r.den < 2 ^ k) : Bt (k + 43) (ahQ ps (r * W)) := by
  have hd0 : (0 : Int) < r.den := by have := r.den_nz; omega
  have er : r * W = ((r.num * W : Int) : Rat) / ((r.den : Int) : Rat) := by
    have e := num_den r
    rw [Rat.divInt_eq_div] at e
    have hne : ((r.den : Int) : Rat) ≠ 0 := by exact_mod_cast den_ne r
    push_cast at e ⊢
    conv => lhs; rw [← e]
    grind
  obtain ⟨N, d, d1, d2, e⟩ := ah_den (ps := ps) (r.num * W) r.den h hd0
  have b := ah_b (ps := ps) (r * W) h
  have sv := sumV_b ps h
  have hbd : (0 : Int) < r.den * d := Int.mul_pos hd0 (by omega)
  have hbd' : (0 : Rat) < ((r.den * d : Int) : Rat) := Rat.intCast_pos.mpr hbd
  have hbd2 : ((r.den * d : Int) : Rat) ≠ 0 := by grind
  rw [← er] at e
  have eN : (N : Rat) = ahQ ps (r * W) * ((r.den * d : Int) : Rat) := by rw [e, Rat.div_mul_cancel hbd2]
  have n0 : (0 : Rat) ≤ N := by rw [eN]; exact Rat.mul_nonneg b.1 (Rat.le_of_lt hbd')
  have n1 : (N : Rat) ≤ ((sumV ps * (r.den * d) : Int) : Rat) := by
    rw [eN]; push_cast
    have := Rat.mul_le_mul_of_nonneg_right b.2 (Rat.le_of_lt hbd')
    push_cast at this
    exact this
  have n0' : 0 ≤ N := by exact_mod_cast n0
  have n1' : N ≤ sumV ps * (r.den * d) := by exact_mod_cast n1
  have hdn : ((r.den : Int) * d).natAbs < 2 ^ (k + 10) := by rw [Int.natAbs_mul]; exact mul_lt_pow (by simpa using hk) (by omega)
  have hN : N.natAbs < 2 ^ (33 + (k + 10)) := by
    refine Nat.lt_of_le_of_lt (m := (sumV ps * (r.den * d)).natAbs) (by omega) ?_
    rw [Int.natAbs_mul]
    exact mul_lt_pow (by omega) hdn
  rw [e, ← Rat.divInt_eq_div]
  exact .div (by omega) (by rw [show k + 43 = 33 + (k + 10) by omega]; exact hN) (Nat.lt_of_lt_of_le hdn (Nat.pow_le_pow_right (by decide) (by omega)))
theorem ah_snoc : ∀ {ps : List (Int × Int)} (w v : Int) (y : Rat), ahQ (ps ++ [(w, v)]) y = ahQ ps y + v * clamp (y - wid ps) w / w
  | [], w, v, y => by simp [ahQ, wid]; grind
  | (w', v') :: ps, w, v, y => by
    have ih := ah_snoc (ps := ps) w v (y - w')
    simp only [List.cons_append, ahQ]
    rw [ih, mwid_cons]
    push_cast
    rw [show y - (w' : Rat) - (wid ps : Rat) = y - (w' + (wid ps : Rat)) by grind]
    grind
/-- the least place by a worth -/
def rch : List (Int × Int) → Rat → Rat
  | [], _ => 0
  | (w, v) :: ps, x => if (v : Rat) < x then w + rch ps (x - v) else x * (w / v)
theorem rch_ok : ∀ {ps : List (Int × Int)} {x : Rat}, OkS ps → 0 < x → x ≤ (sumV ps : Rat) → ahQ ps (rch ps x) = x ∧ 0 < rch ps x ∧ ∀ y, y < rch ps x → ahQ ps y < x
  | [], x, _, h0, h1 => by simp [sumV] at h1; grind
  | (w, v) :: ps, x, h, h0, h1 => by
    have hh := h (w, v) List.mem_cons_self
    dsimp only at hh
    have hw' : (0 : Rat) < w := Rat.intCast_pos.mpr (by omega)
    have hw2 : (w : Rat) ≠ 0 := by grind
    have hv' : (0 : Rat) ≤ v := by exact_mod_cast hh.2.1
    rw [sumV_cons] at h1
    push_cast at h1
    obtain ⟨q, q0, qc, qw, qp⟩ := sl_nonneg (v := v) (w := w) (by omega) (by omega)
    by_cases c : (v : Rat) < x
    · obtain ⟨i1, i2, i3⟩ := rch_ok (ps := ps) (x := x - v) h.tail (by grind) (by grind)
      have e : rch ((w, v) :: ps) x = w + rch ps (x - v) := by simp only [rch]; rw [if_pos c]
      rw [e]
      refine ⟨?_, by grind, fun y hy => ?_⟩
      · simp only [ahQ]
        rw [show (w : Rat) + rch ps (x - v) - w = rch ps (x - v) by grind, i1, qc]
        have : clamp ((w : Rat) + rch ps (x - v)) w = w := by unfold clamp; grind
        rw [this, Rat.mul_comm, qw]
        grind
      · have b := i3 (y - w) (by grind)
        simp only [ahQ]
        rw [qc]
        have := Rat.mul_le_mul_of_nonneg_right (clamp_b (y := y) hw').2 q0
        rw [Rat.mul_comm (w : Rat) q, qw] at this
        grind
    · have vp : (0 : Rat) < v := by grind
      have vp' : 0 < v := by exact_mod_cast vp
      have v2 : (v : Rat) ≠ 0 := by grind
      have q1 := qp vp'
      have e : rch ((w, v) :: ps) x = x * (w / v) := by simp only [rch]; rw [if_neg c]
      obtain ⟨u, hu⟩ : ∃ u : Rat, u = x * (w / v) := ⟨_, rfl⟩
      rw [e, ← hu]
      have uq : u * q = x := by
        rw [hu]
        have : q = v / w := by rw [← qw, Rat.mul_div_cancel hw2]
        rw [this]
        grind
      have u0 : 0 < u := by
        refine (Rat.mul_pos_iff_of_pos_right q1).mp ?_
        rw [uq]; exact h0
      have u1 : u ≤ w := by
        refine Rat.le_of_mul_le_mul_right (c := q) ?_ q1
        rw [uq, Rat.mul_comm (w : Rat) q, qw]
        grind
      refine ⟨?_, u0, fun y hy => ?_⟩
      · simp only [ahQ]
        rw [ah_nil (ps := ps) h.tail (by grind), qc]
        have : clamp u w = u := by unfold clamp; grind
        rw [this, uq]
        grind
      · simp only [ahQ]
        rw [ah_nil (ps := ps) h.tail (by grind), qc]
        have cl : clamp y w < u := by unfold clamp; grind
        have := Rat.mul_lt_mul_of_pos_right cl q1
        rw [uq] at this
        grind
theorem ah_full : ∀ {ps : List (Int × Int)}, OkS ps → ahQ ps (wid ps) = (sumV ps : Rat)
  | [], _ => by simp [ahQ, sumV]
  | (w, v) :: ps, h => by
    have hh := h (w, v) List.mem_cons_self
    dsimp only at hh
    have hw' : (0 : Rat) < w := Rat.intCast_pos.mpr (by omega)
    have hw2 : (w : Rat) ≠ 0 := by grind
    have ih := ah_full (ps := ps) h.tail
    have sw : (0 : Rat) ≤ (wid ps : Rat) := by
      have : 0 ≤ wid ps := by
        have h2 := h.tail
        clear ih h hh hw' hw2
        induction ps with
        | nil => simp [wid]
        | cons a ps ih =>
          have := ih h2.tail
          have := (h2 a List.mem_cons_self).1
          obtain ⟨a1, a2⟩ := a
          rw [mwid_cons]
          dsimp only at this
          omega
      exact_mod_cast this
    simp only [ahQ]
    rw [mwid_cons, sumV_cons]
    push_cast
    rw [show (w : Rat) + (wid ps : Rat) - w = (wid ps : Rat) by grind, ih]
    have : clamp ((w : Rat) + (wid ps : Rat)) w = w := by unfold clamp; grind
    rw [this, Rat.mul_div_cancel hw2]
/-- what is left of a goal behind some stretches -/
theorem left_bt {g : Rat} {S : Int} {k : Nat} (h : Bt k g) (h0 : 0 < g - S) (hS : 0 ≤ S) : Bt k (g - (S : Rat)) := by
  have hd0 : (0 : Int) < g.den := by have := g.den_nz; omega
  have e : g - (S : Rat) = Rat.divInt (g.num - g.den * S) g.den := by
    have e := num_den g
    rw [Rat.divInt_eq_div] at e ⊢
    have hne : ((g.den : Int) : Rat) ≠ 0 := by exact_mod_cast den_ne g
    push_cast at e hne ⊢
    conv => lhs; rw [← e]
    grind
  have hS' : (0 : Rat) ≤ S := by exact_mod_cast hS
  have p0 : 0 < g.num - g.den * S := by
    have : (0 : Rat) < Rat.divInt (g.num - g.den * S) g.den := by rw [← e]; exact h0
    rw [Rat.divInt_eq_div] at this
    have hd' : (0 : Rat) < ((g.den : Int) : Rat) := Rat.intCast_pos.mpr hd0
    have := (Rat.lt_div_iff hd').mp this
    have h3 : (0 : Rat) < ((g.num - g.den * S : Int) : Rat) := by grind
    exact_mod_cast h3
  have p1 : 0 ≤ (g.den : Int) * S := Int.mul_nonneg (by omega) hS
  have := h.n
  rw [e]
  exact .div (by omega) (by omega) (by simpa using h.d)
/-- worth ahead of a place -/
def ahF (ps : List (Int × Int)) (r : Rat) : Rat := ahQ ps (r * wid ps)
def cutQ (ps : List (Int × Int)) (r m : Rat) : Rat := if m = 0 then r else rch ps (ahF ps r + m) / wid ps
theorem ahF_mono {ps : List (Int × Int)} {r s : Rat} (g : Good ps) (h : r ≤ s) : ahF ps r ≤ ahF ps s := by
  have hW' : (0 : Rat) < (wid ps : Rat) := Rat.intCast_pos.mpr (mwid_pos g)
  exact ah_mono g.oks (Rat.mul_le_mul_of_nonneg_right h (Rat.le_of_lt hW'))
theorem ahF_b {ps : List (Int × Int)} {r : Rat} (g : Good ps) : 0 ≤ ahF ps r ∧ ahF ps r ≤ (sumV ps : Rat) := ah_b _ g.oks
theorem cutQ_ok {ps : List (Int × Int)} {r s m : Rat} (g : Good ps) (hrs : r ≤ s) (m0 : 0 ≤ m) (m1 : m ≤ ahF ps s - ahF ps r) :
    r ≤ cutQ ps r m ∧ cutQ ps r m ≤ s ∧ ahF ps (cutQ ps r m) = ahF ps r + m ∧ (m = 0 → cutQ ps r m = r) ∧ (0 < m → r < cutQ ps r m ∧ ∀ z, z < cutQ ps r m → ahF ps z < ahF ps (cutQ ps r m)) := by
  have hW' : (0 : Rat) < (wid ps : Rat) := Rat.intCast_pos.mpr (mwid_pos g)
  have hW2 : (wid ps : Rat) ≠ 0 := by grind
  unfold cutQ
  by_cases c : m = 0
  · rw [if_pos c]
    exact ⟨by grind, hrs, by grind, fun _ => rfl, fun z => by grind⟩
  · rw [if_neg c]
    have mp : 0 < m := by grind
    have b1 := ahF_b (r := r) g
    have b2 := ahF_b (r := s) g
    obtain ⟨i1, i2, i3⟩ := rch_ok (ps := ps) (x := ahF ps r + m) g.oks (by grind) (by grind)
    obtain ⟨u, hu⟩ : ∃ u, u = rch ps (ahF ps r + m) / wid ps := ⟨_, rfl⟩
    have eu : u * wid ps = rch ps (ahF ps r + m) := by rw [hu, Rat.div_mul_cancel hW2]
    rw [← hu]
    rw [← eu] at i1 i3
    have lt : ∀ z, z < u → ahF ps z < ahF ps r + m := fun z hz => i3 _ (Rat.mul_lt_mul_of_pos_right hz hW')
    have e1 : ahF ps u = ahF ps r + m := i1
    have ru : r < u := by
      refine Rat.not_le.mp fun z => ?_
      have := ahF_mono g z
      grind
    refine ⟨by grind, ?_, e1, fun z => absurd z c, fun _ => ⟨ru, fun z hz => by rw [e1]; exact lt z hz⟩⟩
    refine Rat.not_lt.mp fun z => ?_
    have := lt s z
    grind
theorem ah_app : ∀ {ps qs : List (Int × Int)} (y : Rat), ahQ (ps ++ qs) y = ahQ ps y + ahQ qs (y - wid ps)
  | [], qs, y => by simp [ahQ, wid]; rw [show y - 0 = y by grind]; grind
  | (w', v') :: ps, qs, y => by
    have ih := ah_app (ps := ps) (qs := qs) (y - w')
    simp only [List.cons_append, ahQ]
    rw [ih, mwid_cons]
    push_cast
    rw [show y - (w' : Rat) - (wid ps : Rat) = y - (w' + (wid ps : Rat)) by grind]
    grind
theorem ah_past {ps : List (Int × Int)} {y : Rat} (h : OkS ps) (hy : (wid ps : Rat) ≤ y) : ahQ ps y = (sumV ps : Rat) := by
  have a := ah_mono h hy
  rw [ah_full h] at a
  have b := (ah_b (ps := ps) y h).2
  grind
/-- within a stretch the worth goes evenly -/
theorem ah_lin {ps : List (Int × Int)} (h : OkS ps) {i : Nat} {w v : Int} (hi : ps[i]? = some (w, v)) : ∃ q : Rat, 0 ≤ q ∧ q * w = v ∧ (0 < v → 0 < q) ∧ ∀ y z : Rat, (wid (ps.take i) : Rat) ≤ y → y ≤ (wid (ps.take i) : Rat) + w → (wid (ps.take i) : Rat) ≤ z → z ≤ (wid (ps.take i) : Rat) + w → ahQ ps z - ahQ ps y = (z - y) * q := by
  have hil : i < ps.length := (List.getElem?_eq_some_iff.mp hi).1
  have hh := h (w, v) (List.mem_of_getElem? hi)
  dsimp only at hh
  have hw' : (0 : Rat) < w := Rat.intCast_pos.mpr (by omega)
  obtain ⟨q, q0, qc, qw, qp⟩ := sl_nonneg (v := v) (w := w) (by omega) (by omega)
  have e : ps = ps.take i ++ ((w, v) :: ps.drop (i + 1)) := by
    have := List.getElem_of_getElem? hi
    obtain ⟨hlt, e2⟩ := this
    rw [← e2, ← List.drop_eq_getElem_cons hlt, List.take_append_drop]
  refine ⟨q, q0, qw, qp, ?_⟩
  have one : ∀ y : Rat, (wid (ps.take i) : Rat) ≤ y → y ≤ (wid (ps.take i) : Rat) + w → ahQ ps y = (sumV (ps.take i) : Rat) + (y - wid (ps.take i)) * q := fun y h1 h2 => by
    have t : ahQ ps y = ahQ (ps.take i ++ ((w, v) :: ps.drop (i + 1))) y := by rw [← e]
    rw [t, ah_app, ah_past (h.take i) h1]
    simp only [ahQ]
    rw [ah_nil (h.drop (i + 1)) (by grind), qc]
    have : clamp (y - (wid (ps.take i) : Rat)) w = y - (wid (ps.take i) : Rat) := by
      unfold clamp
      grind
    rw [this]
    grind
  intro y z y1 y2 z1 z2
  rw [one y y1 y2, one z z1 z2]
  grind
def cl (r s x : Rat) : Rat := if x ≤ r then r else if x ≤ s then x else s
theorem cl_le {r s x : Rat} (h : x ≤ r) : cl r s x = r := if_pos h
theorem cl_mid {r s x : Rat} (h : ¬ x ≤ r) (g : x ≤ s) : cl r s x = x := by unfold cl; rw [if_neg h, if_pos g]
theorem cl_ge {r s x : Rat} (h : ¬ x ≤ r) (g : ¬ x ≤ s) : cl r s x = s := by unfold cl; rw [if_neg h, if_neg g]
theorem cl_none {r s a b : Rat} (hrs : r ≤ s) (hab : a ≤ b) (h : ¬ (if a < r then r else a) < (if s < b then s else b)) : cl r s a = cl r s b := by
  by_cases c1 : a < r
  · rw [if_pos c1] at h
    rw [cl_le (Rat.le_of_lt c1)]
    by_cases c2 : s < b
    · rw [if_pos c2] at h
      have e : r = s := by grind
      rw [cl_ge (by grind) (by grind), e]
    · rw [if_neg c2] at h
      rw [cl_le (by grind)]
  · rw [if_neg c1] at h
    by_cases c2 : s < b
    · rw [if_pos c2] at h
      have e2 : cl r s b = s := cl_ge (by grind) (by grind)
      rw [e2]
      by_cases c3 : a ≤ r
      · rw [cl_le c3]
        grind
      · by_cases c4 : a ≤ s
        · rw [cl_mid c3 c4]
          grind
        · rw [cl_ge c3 c4]
    · rw [if_neg c2] at h
      have : a = b := by grind
      rw [this]
theorem cl_some {r s a b : Rat} (hrs : r ≤ s) (hab : a ≤ b) (h : (if a < r then r else a) < (if s < b then s else b)) : cl r s a = (if a < r then r else a) ∧ cl r s b = (if s < b then s else b) := by
  by_cases c1 : a < r
  · rw [if_pos c1] at h ⊢
    rw [cl_le (Rat.le_of_lt c1)]
    refine ⟨rfl, ?_⟩
    by_cases c2 : s < b
    · rw [if_pos c2] at h ⊢
      exact cl_ge (by grind) (by grind)
    · rw [if_neg c2] at h ⊢
      exact cl_mid (by grind) (by grind)
  · rw [if_neg c1] at h ⊢
    by_cases c2 : s < b
    · rw [if_pos c2] at h ⊢
      refine ⟨?_, cl_ge (by grind) (by grind)⟩
      by_cases c3 : a ≤ r
      · rw [cl_le c3]
        grind
      · exact cl_mid c3 (by grind)
    · rw [if_neg c2] at h ⊢
      refine ⟨?_, cl_mid (by grind) (by grind)⟩
      by_cases c3 : a ≤ r
      · rw [cl_le c3]
        grind
      · exact cl_mid c3 (by grind)
theorem cl_b {r s a : Rat} (hrs : r ≤ s) : r ≤ cl r s a ∧ cl r s a ≤ s := by
  by_cases c1 : a ≤ r
  · rw [cl_le c1]; exact ⟨Rat.le_refl, hrs⟩
  · by_cases c2 : a ≤ s
    · rw [cl_mid c1 c2]; exact ⟨by grind, c2⟩
    · rw [cl_ge c1 c2]; exact ⟨hrs, Rat.le_refl⟩
/-- the place where the law ends is the program's -/
theorem cut_found {ps : List (Int × Int)} (g : Good ps) {i : Nat} {w v : Int} (hi : ps[i]? = some (w, v)) {r s m lo hi' mu : Rat} (hrs : r ≤ s) (m0 : 0 < m)
    (l0 : (wid (ps.take i) : Rat) / wid ps ≤ lo) (lh : lo < hi') (h1 : hi' ≤ ((wid (ps.take i) : Rat) + w) / wid ps) (rl : r ≤ lo) (hs : hi' ≤ s)
    (hm : mu = m - (ahF ps lo - ahF ps r)) (mp : 0 < mu) (mt : mu ≤ ahF ps hi' - ahF ps lo) :
    0 < v ∧ lo + mu * w / (v * wid ps) = cutQ ps r m ∧ m ≤ ahF ps s - ahF ps r := by
  have hW' : (0 : Rat) < (wid ps : Rat) := Rat.intCast_pos.mpr (mwid_pos g)
  have hW2 : (wid ps : Rat) ≠ 0 := by grind
  have hh := g.oks (w, v) (List.mem_of_getElem? hi)
  dsimp only at hh
  have hw' : (0 : Rat) < w := Rat.intCast_pos.mpr (by omega)
  have hw2 : (w : Rat) ≠ 0 := by grind
  obtain ⟨q, q0, qw, qp, lin⟩ := ah_lin g.oks hi
  generalize hD : (wid (ps.take i) : Rat) = D at *
  have l0' : D ≤ lo * wid ps := by
    have := Rat.mul_le_mul_of_nonneg_right l0 (Rat.le_of_lt hW')
    rwa [Rat.div_mul_cancel hW2] at this
  have h1' : hi' * wid ps ≤ D + w := by
    have := Rat.mul_le_mul_of_nonneg_right h1 (Rat.le_of_lt hW')
    rwa [Rat.div_mul_cancel hW2] at this
  have lin2 : ∀ y z : Rat, lo ≤ y → y ≤ hi' → lo ≤ z → z ≤ hi' → ahF ps z - ahF ps y = (z - y) * (wid ps * q) := fun y z y1 y2 z1 z2 => by
    have a1 := Rat.mul_le_mul_of_nonneg_right y1 (Rat.le_of_lt hW')
    have a2 := Rat.mul_le_mul_of_nonneg_right y2 (Rat.le_of_lt hW')
    have a3 := Rat.mul_le_mul_of_nonneg_right z1 (Rat.le_of_lt hW')
    have a4 := Rat.mul_le_mul_of_nonneg_right z2 (Rat.le_of_lt hW')
    have := lin (y * wid ps) (z * wid ps) (by grind) (by grind) (by grind) (by grind)
    unfold ahF
    rw [this]
    grind
  have e1 := lin2 lo hi' (by grind) (by grind) (by grind) (by grind)
  have v0 : 0 < v := by
    refine Int.lt_of_not_ge fun z => ?_
    have v00 : v = 0 := by omega
    rw [v00] at qw
    have : q = 0 := by
      have z : q * w = 0 := by rw [qw]; rfl
      rcases Rat.mul_eq_zero.mp z with z | z
      · exact z
      · exact absurd z hw2
    rw [this] at e1
    grind
  have qpos := qp v0
  have hS : 0 < (wid ps : Rat) * q := Rat.mul_pos hW' qpos
  have hS2 : (wid ps : Rat) * q ≠ 0 := by grind
  have v2 : (v : Rat) ≠ 0 := by
    have : (0 : Rat) < v := Rat.intCast_pos.mpr v0
    grind
  obtain ⟨d, hd⟩ : ∃ d, d = mu / ((wid ps : Rat) * q) := ⟨_, rfl⟩
  have dS : d * ((wid ps : Rat) * q) = mu := by rw [hd, Rat.div_mul_cancel hS2]
  have eres : mu * w / (v * wid ps) = d := by
    have vW : (v : Rat) * wid ps ≠ 0 := fun z => by
      rcases Rat.mul_eq_zero.mp z with z | z
      · exact v2 z
      · exact hW2 z
    have : mu * w = d * (v * wid ps) := by rw [← dS, ← qw]; grind
    rw [this, Rat.mul_div_cancel vW]
  rw [eres]
  have d0 : 0 < d := by
    refine Rat.not_le.mp fun z => ?_
    have := Rat.mul_le_mul_of_nonneg_right z (Rat.le_of_lt hS)
    grind
  have dh : lo + d ≤ hi' := by
    refine Rat.not_lt.mp fun z => ?_
    have := Rat.mul_lt_mul_of_pos_right (show hi' - lo < d by grind) hS
    grind
  have e2 := lin2 lo (lo + d) (by grind) (by grind) (by grind) (by grind)
  have e3 : ahF ps (lo + d) = ahF ps r + m := by
    have : (lo + d - lo) * (wid ps * q) = mu := by rw [← dS]; grind
    grind
  have mle : m ≤ ahF ps s - ahF ps r := by
    have := ahF_mono g (show lo + d ≤ s by grind)
    grind
  refine ⟨v0, ?_, mle⟩
  obtain ⟨_, _, c3, _, c5⟩ := cutQ_ok g hrs (Rat.le_of_lt m0) mle
  obtain ⟨_, c6⟩ := c5 m0
  have below : ∀ z, z < lo + d → ahF ps z < ahF ps r + m := fun z hz => by
    by_cases c : z ≤ lo
    · have := ahF_mono g c
      grind
    · have a := lin2 lo z (by grind) (by grind) (by grind) (by grind)
      have b := Rat.mul_lt_mul_of_pos_right (show z - lo < d by grind) hS
      grind
  have n1 : ¬ lo + d < cutQ ps r m := fun z => by
    have := c6 _ z
    grind
  have n2 : ¬ cutQ ps r m < lo + d := fun z => by
    have := below _ z
    grind
  grind
theorem cut_div {mu : Rat} {w v W : Int} (hv : 0 < v) (hW : 0 < W) : Rat.divInt (mu.num * w) ((mu.den : Int) * v * W) = mu * w / (v * W) := by
  have v0 : (v : Rat) ≠ 0 := by
    have : (0 : Rat) < v := Rat.intCast_pos.mpr hv
    grind
  have W0 : (W : Rat) ≠ 0 := by
    have : (0 : Rat) < W := Rat.intCast_pos.mpr hW
    grind
  rw [Rat.divInt_eq_div]
  push_cast
  have e2 : (mu.num : Rat) = mu * (mu.den : Rat) := by
    have d0 : ((mu.den : Nat) : Rat) ≠ 0 := by exact_mod_cast mu.den_nz
    have e := num_den mu
    rw [Rat.divInt_eq_div] at e
    push_cast at e
    have e3 := Rat.div_mul_cancel (a := (mu.num : Rat)) d0
    rw [e] at e3
    exact e3.symm
  have dn0 : ((mu.den : Nat) : Rat) ≠ 0 := by exact_mod_cast mu.den_nz
  rw [e2]
  have vW : (v : Rat) * W ≠ 0 := fun z => by
    rcases Rat.mul_eq_zero.mp z with z | z
    · exact v0 z
    · exact W0 z
  have t1 : mu * (mu.den : Rat) * w = (mu * w / (v * W)) * ((mu.den : Rat) * v * W) := by
    have : mu * w = (mu * w / (v * W)) * (v * W) := by rw [Rat.div_mul_cancel vW]
    generalize mu * w / (v * W) = q at *
    grind
  have dvW : (mu.den : Rat) * v * W ≠ 0 := fun z => by
    rcases Rat.mul_eq_zero.mp z with z | z
    · rcases Rat.mul_eq_zero.mp z with z | z
      · exact dn0 z
      · exact v0 z
    · exact W0 z
  rw [t1, Rat.mul_div_cancel dvW]
theorem taken_eq {reach len : Int} (h : 0 < len) : (if len < (if 0 > reach then 0 else reach) then len else (if 0 > reach then 0 else reach)) = (if reach ≤ 0 then 0 else if reach ≤ len then reach else len) := by
  split <;> split <;> (try split) <;> (try split) <;> omega
theorem taken_le {reach len : Int} (h : 0 < len) : 0 ≤ (if reach ≤ 0 then 0 else if reach ≤ len then reach else len) ∧ (if reach ≤ 0 then 0 else if reach ≤ len then reach else len) ≤ len := by
  split
  · omega
  · split <;> omega
end K

namespace K
open PySem L2
section
variable {h : AH} {Q : UQ} {E : XQ} {r s : Rat} {j k : Nat}
theorem t_plus (hr : Bt j r) (hs : Bt k s) (e : j + k ≤ 8990) (j0 : 0 < j) (q : Q (qU (r + s)) h) : w_plus [qU r, qU s] h Q E :=
  ⟨rfl, mulOk hr.n (dn hs) (by omega) (by omega), mulOk hs.n (dn hr) (by omega) (by omega), mulOk (dn hr) (dn hs) (by omega) (by omega), t_fr (den_mul_ne r s) (log_pow (hr.mulN hs) (by omega) (by omega)) (by rw [add_div]; exact q)⟩
theorem t_minus (hr : Bt j r) (hs : Bt k s) (e : j + k ≤ 8990) (j0 : 0 < j) (q : Q (qU (r - s)) h) : w_minus [qU r, qU s] h Q E :=
  ⟨rfl, mulOk hr.n (dn hs) (by omega) (by omega), mulOk hs.n (dn hr) (by omega) (by omega), mulOk (dn hr) (dn hs) (by omega) (by omega), t_fr (den_mul_ne r s) (log_pow (hr.mulN hs) (by omega) (by omega)) (by rw [sub_div]; exact q)⟩
theorem t_times (hr : Bt j r) (hs : Bt k s) (e : j + k ≤ 8990) (j0 : 0 < j) (q : Q (qU (r * s)) h) : w_times [qU r, qU s] h Q E :=
  ⟨rfl, mulOk hr.n hs.n (by omega) (by omega), mulOk (dn hr) (dn hs) (by omega) (by omega), t_fr (den_mul_ne r s) (log_pow (hr.mulN hs) (by omega) (by omega)) (by rw [mul_div]; exact q)⟩
theorem over_div (r s : Rat) (h : s ≠ 0) : Rat.divInt (r.num * s.den) (r.den * s.num) = r / s := by
  have hd := den_ne r
  have hs : s.num ≠ 0 := fun z => h (Rat.num_eq_zero.mp z)
  have e1 := num_den r
  have e2 := num_den s
  rw [Rat.divInt_eq_div] at e1 e2 ⊢
  have a1 : ((r.den : Int) : Rat) ≠ 0 := by exact_mod_cast hd
  have a2 : ((s.num : Int) : Rat) ≠ 0 := by exact_mod_cast hs
  have a3 : ((s.den : Int) : Rat) ≠ 0 := by exact_mod_cast den_ne s
  conv => rhs; rw [← e1, ← e2]
  push_cast at *
  grind
theorem t_over (hr : Bt j r) (hs : Bt k s) (e : j + k ≤ 8990) (j0 : 0 < j) (h0 : s ≠ 0) (q : Q (qU (r / s)) h) : w_over [qU r, qU s] h Q E := by
  have ns : s.num ≠ 0 := fun z => h0 (Rat.num_eq_zero.mp z)
  refine ⟨rfl, mulOk hr.n (dn hs) (by omega) (by omega), mulOk (dn hr) hs.n (by omega) (by omega), t_fr (Int.mul_ne_zero (den_ne r) ns) ?_ (by rw [over_div _ _ h0]; exact q)⟩
  refine log_pow (k := j + k) ?_ (by omega) (by omega)
  rw [Int.natAbs_mul]
  exact mul_lt_pow (dn hr) hs.n
theorem bt0 : Bt 1 (0 : Rat) := ⟨by decide, by decide⟩
theorem bt1 : Bt 1 (1 : Rat) := ⟨by decide, by decide⟩
/-- a place -/
structure Pl (k : Nat) (r : Rat) : Prop where
  b : Bt k r
  lo : 0 ≤ r
  hi : r ≤ 1
theorem nB_dec {p : Prop} [Decidable p] : nB (decide p) = decide (¬ p) := by
  by_cases c : p
  · rw [decide_eq_true c, decide_eq_false (fun z => z c)]
  · rw [decide_eq_false c, decide_eq_true c]
/-- does a span lie on the loaf -/
theorem t_isspan (hr : Bt j r) (hs : Bt k s) (hj : j ≤ 8990) (hk : k ≤ 8990) (q : Q (.bl (decide (0 ≤ r ∧ s ≤ 1 ∧ r ≤ s))) h) : w_is_span [qU r, qU s] h Q E := by
  refine ⟨rfl, ?_⟩
  refine t_less hr bt0 (by omega) (by decide) (Br.mdec (fun c => ?_) (fun c => ?_))
  · rw [decide_eq_false (fun z => absurd z.1 (Rat.not_le.mpr c))] at q; exact q
  refine t_less bt1 hs (by decide) (by omega) (Br.mdec (fun c2 => ?_) (fun c2 => ?_))
  · rw [decide_eq_false (fun z => absurd z.2.1 (Rat.not_le.mpr c2))] at q; exact q
  refine t_less hs hr (by omega) (by omega) ?_
  show Q (.bl (nB (decide (s < r)))) h
  rw [nB_dec]
  have e : (¬ s < r) = (0 ≤ r ∧ s ≤ 1 ∧ r ≤ s) := propext ⟨fun z => ⟨Rat.not_lt.mp c, Rat.not_lt.mp c2, Rat.not_lt.mp z⟩, fun z => Rat.not_lt.mpr z.2.2⟩
  have e2 : decide (¬ s < r) = decide (0 ≤ r ∧ s ≤ 1 ∧ r ≤ s) := by rw [decide_eq_decide, e]
  rw [e2]; exact q
theorem t_chk (hr : Pl k r) (hs : Pl k s) (e : k ≤ 8990) (le : r ≤ s) (q : Q .non h) : w_check_span [qU r, qU s] h Q E := by
  refine ⟨rfl, ?_⟩
  refine t_isspan hr.b hs.b e e (Br.mdec (fun _ => q) (fun c => absurd ⟨hr.lo, hs.hi, le⟩ c))
theorem t_greater (hr : Bt j r) (hs : Bt k s) (hj : j ≤ 9000) (hk : k ≤ 9000) (q : Q (qU (if r < s then s else r)) h) : w_greater [qU r, qU s] h Q E := by
  refine ⟨rfl, t_less hr hs hj hk (Br.dec (fun z => ?_) (fun z => ?_))⟩
  · rw [if_pos z] at q; exact q
  · rw [if_neg z] at q; exact q
theorem rows_at {rs : Rows} {i : Nat} (hi : i < rs.length) : (rowsU rs)[i]? = some (.tup [.int rs[i].1, .int rs[i].2]) := by unfold rowsU; rw [List.getElem?_map, List.getElem?_eq_getElem hi]; rfl
theorem wid_n {rs : Rows} (G : Good rs) : (wid rs).natAbs < 2 ^ 13 := by
  have := mwid_b rs G.l8 G.w
  have := G.l8
  omega
theorem t_ahead {t : Nat} {rs : Rows} (T : IsTab h t rs) (G : Good rs) (hr : Bt k r) (e : k ≤ 4000) (k0 : 0 < k) (q : Q (qU (ahF rs r)) h) : w_Table_worth_ahead [.obj t, qU r] h Q E := by
  obtain ⟨l, h1, h2⟩ := T.ex
  have hd0 : (0 : Int) < r.den := by have := r.den_nz; omega
  refine ⟨rfl, Opt.mk rfl ?_⟩
  refine Opt.mk h1 ⟨List.mem_singleton.mpr rfl, Opt.mk rfl ?_⟩
  refine ⟨mulOk hr.n (wid_n G) (by omega) (by decide), ⟨by show 2 ≤ sizeLine; decide, ?_⟩⟩
  refine Opt.mk h1 ⟨List.mem_singleton.mpr rfl, Opt.mk rfl ?_⟩
  refine Opt.walk h2 (forP (fun i ρ h' => h' = h ∧ ∃ (reach : Int) (a b c d : Option U), ρ = [some (.obj t), some (qU r), some (.int r.num), some (.int r.den), some (.int reach), some (qU (ahQ (rs.take i) (r * wid rs))), a, b, c, d] ∧ (reach : Rat) = r.den * (r * wid rs - wid (rs.take i))) ?_ ?_ ?_)
  · refine ⟨rfl, r.num * wid rs, none, none, none, none, rfl, ?_⟩
    have e1 := num_den r
    rw [Rat.divInt_eq_div] at e1
    have a1 : ((r.den : Int) : Rat) ≠ 0 := by exact_mod_cast den_ne r
    have e2 : (r.num : Rat) = r * r.den := by
      have := Rat.div_mul_cancel (a := (r.num : Rat)) a1
      rw [e1] at this
      push_cast at this
      exact this.symm
    push_cast
    rw [e2]
    simp [wid]
    grind
  · rintro i x ρ' h' hx ⟨rfl, reach, a, b, c, d, rfl, hre⟩
    refine ⟨h2, ?_⟩
    have hi : i < rs.length := by have := (List.getElem?_eq_some_iff.mp hx).1; rwa [rows_len] at this
    rw [rows_at hi] at hx
    cases hx
    have hm := List.getElem_mem hi
    obtain ⟨w, v, hwv⟩ : ∃ w v, rs[i] = (w, v) := ⟨_, _, rfl⟩
    rw [hwv] at hm ⊢
    have gw := G.w _ hm
    have gv := G.v _ hm
    dsimp only at gw gv
    have wd : 0 < w * r.den := Int.mul_pos (by omega) hd0
    have bw : (w * (r.den : Int)).natAbs < 2 ^ (10 + k) := by rw [Int.natAbs_mul]; exact mul_lt_pow (by omega) (dn hr)
    have et : rs.take (i + 1) = rs.take i ++ [(w, v)] := by rw [List.take_add_one, List.getElem?_eq_getElem hi, hwv]; rfl
    obtain ⟨tk, htk⟩ : ∃ tk : Int, tk = (if reach ≤ 0 then 0 else if reach ≤ w * r.den then reach else w * r.den) := ⟨_, rfl⟩
    have tkb := taken_le (reach := reach) wd
    rw [← htk] at tkb
    have term := clamp_term (b := r.den) (w := w) (v := v) (reach := reach) (taken := tk) (y := r * wid rs - wid (rs.take i)) hd0 (by omega) hre htk
    have ba := ah_bt (r := r) (k := k) (wid rs) (G.oks.take i) (by rw [List.length_take]; have := G.l8; omega) hr.d
    refine Opt.mk rfl ?_
    refine ⟨mulOk (j := 10) (by omega) (dn hr) (by decide) (by omega), ?_⟩
    have etk : (if w * (r.den : Int) < (if 0 > reach then 0 else reach) then w * (r.den : Int) else (if 0 > reach then 0 else reach)) = tk := (taken_eq wd).trans htk.symm
    show IntMulOk v (if w * (r.den : Int) < (if 0 > reach then 0 else reach) then w * (r.den : Int) else (if 0 > reach then 0 else reach)) ∧ w_fraction_of [.int (v * (if w * (r.den : Int) < (if 0 > reach then 0 else reach) then w * (r.den : Int) else (if 0 > reach then 0 else reach))), .int (w * r.den)] h' _ _
    rw [etk]
    have bt : tk.natAbs < 2 ^ (10 + k) := by omega
    have bv : (v * tk).natAbs < 2 ^ (30 + (10 + k)) := by rw [Int.natAbs_mul]; exact mul_lt_pow (by omega) bt
    have bterm : Bt (30 + (10 + k)) (Rat.divInt (v * tk) (w * r.den)) := .div (by omega) bv (Nat.lt_of_lt_of_le bw (Nat.pow_le_pow_right (by decide) (by omega)))
    refine ⟨mulOk (j := 30) (by omega) bt (by decide) (by omega), t_fr (by omega) (log_pow bw (by omega) (by omega)) ?_⟩
    refine t_plus ba bterm (by omega) (by omega) ?_
    rw [term, et, ah_snoc]
    refine ⟨rfl, reach - w * r.den, _, _, _, _, rfl, ?_⟩
    · have ew : wid (rs.take i ++ [(w, v)]) = wid (rs.take i) + w := by simp [wid]
      rw [ew]
      push_cast
      rw [hre]
      grind
  · rintro ρ' h' ⟨rfl, reach, a, b, c, d, rfl, hre⟩
    refine ⟨h2, ?_⟩
    rw [rows_len, List.take_length] at *
    exact q
theorem brF {b : Bool} {P P' : Prop} (e : b = false) (q : P') : Br b P P' := by subst e; exact q
theorem brT {b : Bool} {P P' : Prop} (e : b = true) (q : P) : Br b P P' := by subst e; exact q
theorem ahF_bt {rs : Rows} (G : Good rs) (hr : Bt k r) : Bt (k + 43) (ahF rs r) := ah_bt (wid rs) G.oks G.l8 hr.d
theorem sumV_split (ps : List (Int × Int)) (i : Nat) : sumV ps = sumV (ps.take i) + sumV (ps.drop i) := by
  unfold sumV
  rw [← List.sum_append, ← List.map_append, List.take_append_drop]
theorem t_reached {t : Nat} {rs : Rows} {g : Rat} (T : IsTab h t rs) (G : Good rs) (hg : Bt k g) (e : k ≤ 4300) (k0 : 0 < k) (g0 : 0 < g) (g1 : g ≤ (sumV rs : Rat)) (q : Q (qU (rch rs g / wid rs)) h) : w_Table_reached [.obj t, qU g] h Q E := by
  obtain ⟨l, h1, h2⟩ := T.ex
  refine ⟨rfl, ?_⟩
  refine whP (fun m ρ h' => h' = h ∧ ∃ i : Nat, i < rs.length ∧ m = rs.length - i ∧ 0 < g - sumV (rs.take i) ∧ rch rs g = wid (rs.take i) + rch (rs.drop i) (g - sumV (rs.take i)) ∧ ρ = [some (.obj t), some (qU g), some (.int i), some (.int (wid (rs.take i))), some (qU (g - sumV (rs.take i))), none, none, none]) ?_ ?_
  · refine ⟨_, rfl, 0, by have := G.lo; omega, rfl, ?_, ?_, ?_⟩
    · simp [sumV]; grind
    · simp [sumV, wid]; grind
    · simp [sumV, wid]; congr 1; grind
  · rintro m ρ h' ⟨rfl, i, hi, rfl, p0, er, rfl⟩
    refine Opt.mk h1 ⟨List.mem_singleton.mpr rfl, Opt.mk rfl ?_⟩
    refine rd h2 (atI_of (by omega) (by rw [show ((i : Int)).toNat = i by omega]; exact rows_at hi)) ?_
    refine ⟨by show 2 ≤ sizeLine; decide, ?_⟩
    have hm := List.getElem_mem hi
    obtain ⟨w, v, hwv⟩ : ∃ w v, rs[i] = (w, v) := ⟨_, _, rfl⟩
    have hrow : (rowsU rs)[i]? = some (.tup [.int w, .int v]) := by rw [rows_at hi, hwv]
    rw [hwv] at hm
    have gw := G.w _ hm
    have gv := G.v _ hm
    dsimp only at gw gv
    have ix : atI (rowsU rs) (i : Int) = some (.tup [.int w, .int v]) := atI_of (by omega) (by rw [show ((i : Int)).toNat = i by omega]; exact hrow)
    have et : rs.take (i + 1) = rs.take i ++ [(w, v)] := by rw [List.take_add_one, List.getElem?_eq_getElem hi, hwv]; rfl
    have eW1 : wid (rs.take (i + 1)) = wid (rs.take i) + w := by rw [et]; simp [wid]
    have eV1 : sumV (rs.take (i + 1)) = sumV (rs.take i) + v := by rw [et]; simp [sumV]
    have hdr : rs.drop i = (w, v) :: rs.drop (i + 1) := by rw [List.drop_eq_getElem_cons hi, hwv]
    have hsv := sumV_split rs (i + 1)
    have bl := left_bt hg p0 (sumV_b (rs.take i) (G.oks.take i)).1
    have bv : Bt 30 (v : Rat) := ⟨by show v.natAbs < _; omega, by show 1 < _; decide⟩
    show w_is_less [.tup [.int rs[i].2, .int 1], qU (g - sumV (rs.take i))] h' _ _
    rw [hwv]
    show w_is_less [qU (v : Rat), qU (g - sumV (rs.take i))] h' _ _
    refine t_less bv bl (by decide) (by omega) (Br.dec (fun c => ?_) (fun c => ?_))
    · refine Opt.mk h1 ⟨List.mem_singleton.mpr rfl, Opt.mk rfl ?_⟩
      refine rd h2 ix ?_
      refine ⟨by show 2 ≤ sizeLine; decide, ?_⟩
      show w_minus [qU (g - sumV (rs.take i)), qU (v : Rat)] h' _ _
      refine t_minus bl bv (by omega) k0 ?_
      refine Opt.mk h1 ⟨List.mem_singleton.mpr rfl, Opt.mk rfl ?_⟩
      refine rd h2 ix ?_
      have e3 : g - (sumV (rs.take i) : Rat) - v = g - (sumV (rs.take (i + 1)) : Rat) := by rw [eV1]; push_cast; grind
      have p1 : 0 < g - (sumV (rs.take (i + 1)) : Rat) := by rw [← e3]; grind
      have hi1 : i + 1 < rs.length := by
        refine Nat.lt_of_not_le fun z => ?_
        rw [List.take_of_length_le z] at p1
        grind
      refine ⟨rs.length - (i + 1), by omega, rfl, i + 1, hi1, rfl, p1, ?_, ?_⟩
      · rw [er, hdr, eW1, ← e3]
        simp only [rch]
        rw [if_pos c]
        push_cast
        grind
      · rw [e3, eW1]
        rfl
    · refine Opt.mk h1 ⟨List.mem_singleton.mpr rfl, Opt.mk rfl ?_⟩
      refine rd h2 ix (Opt.mk rfl ?_)
      have v0 : 0 < v := by
        have : (0 : Rat) < v := by grind
        exact_mod_cast this
      refine t_fr (by omega) (log_pow (k := 30) (by omega) (by decide) (by decide)) ?_
      have bf : Bt 30 (Rat.divInt w v) := .div (by omega) (by omega) (by omega)
      refine t_times bl bf (by omega) k0 ?_
      have ef : Rat.divInt w v = (w : Rat) / v := Rat.divInt_eq_div _ _
      refine ⟨by show 2 ≤ sizeLine; decide, ?_⟩
      have hb := mwid_b (rs.take i) (by rw [List.length_take]; have := G.l8; omega) (fun x hx => G.w x (List.mem_of_mem_take hx))
      have hl : (rs.take i).length ≤ 8 := by rw [List.length_take]; have := G.l8; omega
      have bp : Bt 13 ((wid (rs.take i) : Int) : Rat) := ⟨by show (wid (rs.take i)).natAbs < _; omega, by show 1 < _; decide⟩
      have bm := bl.mul bf
      show w_plus [qU ((wid (rs.take i) : Int) : Rat), qU ((g - sumV (rs.take i)) * Rat.divInt w v)] h' _ _
      refine t_plus bp bm (by omega) (by decide) ?_
      refine Opt.mk h1 ⟨List.mem_singleton.mpr rfl, Opt.mk rfl ?_⟩
      refine ⟨by show 2 ≤ sizeLine; decide, ?_⟩
      have bW : Bt 13 ((wid rs : Int) : Rat) := ⟨wid_n G, by show 1 < _; decide⟩
      show w_over [qU (((wid (rs.take i) : Int) : Rat) + (g - sumV (rs.take i)) * Rat.divInt w v), qU ((wid rs : Int) : Rat)] h' _ _
      refine t_over (bp.add bm) bW (by omega) (by omega) ?_ ?_
      · have := mwid_pos G
        intro z
        have : wid rs = 0 := by exact_mod_cast z
        omega
      · have er2 : rch rs g = ((wid (rs.take i) : Int) : Rat) + (g - sumV (rs.take i)) * Rat.divInt w v := by
          rw [er, hdr]
          simp only [rch]
          rw [if_neg c, ef]
        rw [← er2]
        exact q
end
end K

namespace K
open PySem L2
/-! ### places in their order -/
/-- a place put into a rising list -/
def insQ (ps : List Rat) (p : Rat) : List Rat := ps.filter (fun r => decide (r < p)) ++ p :: ps.filter (fun r => decide (p < r))
theorem mem_insQ {ps : List Rat} {p r : Rat} : r ∈ insQ ps p ↔ r = p ∨ r ∈ ps := by
  unfold insQ
  simp only [List.mem_append, List.mem_cons, List.mem_filter, decide_eq_true_eq]
  constructor
  · rintro (⟨h, _⟩ | h | ⟨h, _⟩)
    · exact .inr h
    · exact .inl h
    · exact .inr h
  · rintro (h | h)
    · exact .inr (.inl h)
    · by_cases h1 : r < p
      · exact .inl ⟨h, h1⟩
      · by_cases h2 : r = p
        · exact .inr (.inl h2)
        · exact .inr (.inr ⟨h, by grind⟩)
/-! ### the ends of stretches -/
def endQ (rs : Rows) (i : Nat) : Rat := Rat.divInt (wid (rs.take i)) (wid rs)
theorem wid_cons (p : Int × Int) (rs : Rows) : wid (p :: rs) = p.1 + wid rs := by unfold wid; simp
theorem wid_bd : ∀ {rs : Rows}, (∀ p ∈ rs, 1 ≤ p.1 ∧ p.1 ≤ 999) → (rs.length : Int) ≤ wid rs ∧ wid rs ≤ 999 * rs.length
  | [], _ => by simp [wid]
  | p :: rs, h => by
    have h1 := h p (by simp)
    have h2 := wid_bd (rs := rs) fun q hq => h q (by simp [hq])
    rw [wid_cons, List.length_cons]; omega
theorem Good.wid {rs : Rows} (G : Good rs) : 1 ≤ wid rs ∧ wid rs ≤ 7992 := by
  have h1 := wid_bd G.w
  have h2 := G.lo
  have h3 := G.hi
  omega
theorem Good.take {rs : Rows} (G : Good rs) (i : Nat) : 0 ≤ K.wid (rs.take i) ∧ K.wid (rs.take i) ≤ 7992 := by
  have h1 := wid_bd (rs := rs.take i) fun p hp => G.w p (List.mem_of_mem_take hp)
  have h3 := G.hi
  have h4 : (rs.take i).length ≤ rs.length := by rw [List.length_take]; omega
  omega
theorem Good.end {rs : Rows} (G : Good rs) (i : Nat) : Bt 13 (endQ rs i) := by
  have h1 := G.wid
  have h2 := G.take i
  exact .div (by omega) (by omega) (by omega)
section
variable {h : AH} {Q : UQ} {E : XQ}
theorem q0 : qU 0 = .tup [.int 0, .int 1] := rfl
def ratOf : U → Rat
  | .tup [.int a, .int b] => Rat.divInt a b
  | _ => 0
def pick (f : Rat → Bool) (u : U) : Option U := if f (ratOf u) then some u else none
/-- bounded places -/
abbrev BtL (k : Nat) (ps : List Rat) : Prop := ∀ r ∈ ps, Bt k r
theorem BtL.ins {j : Nat} {ps : List Rat} {p : Rat} (hb : BtL j ps) (hp : Bt j p) : BtL j (insQ ps p) := fun r hr => by
  rcases mem_insQ.mp hr with rfl | z
  · exact hp
  · exact hb r z
end
end K

namespace K
open PySem L2
section
variable {h : AH} {Q : UQ} {E : XQ}
/-! ### data -/
def dQ (r : Rat) : PyData := .tuple [.int r.num, .int (r.den : Int)]
theorem dat_q (n : Nat) (r : Rat) : dat h (n + 2) (qU r) = some (dQ r) := rfl
theorem eqv_q (r s : Rat) : PyData.eqv (dQ r) (dQ s) = decide (r = s) := by
  unfold dQ
  simp only [PyData.eqv, PyData.eqvAll, Bool.and_true]
  rw [Bool.eq_iff_iff]
  simp only [Bool.and_eq_true, beq_iff_eq, decide_eq_true_eq]
  constructor
  · rintro ⟨a, b⟩; exact Rat.ext a (by omega)
  · rintro rfl; exact ⟨rfl, rfl⟩
theorem shp_q (r : Rat) : SeqAt.shaped (dQ r) = true := rfl
/-! ### a place put in -/
end
end K

namespace K
open PySem L2
section
variable {h : AH} {Q : UQ} {E : XQ}
end
end K

namespace K
open PySem L2
theorem pos_of_sum : ∀ {rs : Rows}, (∀ p ∈ rs, 0 ≤ p.2) → (rs.map (·.2)).sum ≠ 0 → ∃ p ∈ rs, 0 < p.2
  | [], _, h => by simp at h
  | p :: rs, h, hs => by
    by_cases hp : 0 < p.2
    · exact ⟨p, by simp, hp⟩
    · have h0 := h p (by simp)
      rw [List.map_cons, List.sum_cons] at hs
      obtain ⟨q, hq, hq'⟩ := pos_of_sum (rs := rs) (fun q hq => h q (by simp [hq])) (by omega)
      exact ⟨q, by simp [hq], hq'⟩
section
variable {h : AH} {Q : UQ} {E : XQ}
theorem rows_set (rs : Rows) (i : Nat) (p : Int × Int) : (rowsU rs).set i (.tup [.int p.1, .int p.2]) = rowsU (rs.set i p) := by unfold rowsU; rw [List.map_set]
theorem rows_app (rs : Rows) (p : Int × Int) : rowsU rs ++ [.tup [.int p.1, .int p.2]] = rowsU (rs ++ [p]) := by unfold rowsU; simp
theorem rows_ix {rs : Rows} {i : Nat} (hi : i < rs.length) : (rowsU rs)[i]? = some (.tup [.int rs[i].1, .int rs[i].2]) := by unfold rowsU; rw [List.getElem?_map, List.getElem?_eq_getElem hi]; rfl
end
end K

namespace K
open PySem L2
/-! ### rows of rows as data -/
def dR (p : Int × Int) : PyData := .tuple [.int p.1, .int p.2]
def dRs (rs : Rows) : PyData := .list (rs.map dR)
section
variable {h : AH} {Q : UQ} {E : XQ}
theorem datL_rows (n : Nat) (rs : Rows) : datL (dat h (n + 2)) (rowsU rs) = some (rs.map dR) := by
  unfold rowsU
  induction rs with
  | nil => rfl
  | cons p rs ih => rw [List.map_cons, List.map_cons]; unfold datL; rw [ih]; rfl
theorem dat_rows {m n : Nat} {rs : Rows} (e : lstAt h m = some (rowsU rs)) : dat h (n + 3) (.obj m) = some (dRs rs) := by
  show (match lstAt h m with
    | some xs => (datL (dat h (n + 2)) xs).map PyData.list
    | none => none) = _
  rw [e]
  show (datL (dat h (n + 2)) (rowsU rs)).map PyData.list = _
  rw [datL_rows]; rfl
theorem lay_dR : ∀ (rs : Rows), PyData.canLayAll0 (rs.map dR) = true
  | [] => rfl
  | p :: rs => by rw [List.map_cons]; simp only [PyData.canLayAll0, lay_dR rs, Bool.and_true]; rfl
theorem dep_dR : ∀ (rs : Rows), PyData.depthAll (rs.map dR) ≤ 2
  | [] => Nat.zero_le _
  | p :: rs => by
    have := dep_dR rs
    rw [List.map_cons]; simp only [PyData.depthAll, dR, PyData.depth]; omega
end
end K

namespace K
open PySem L2
section
variable {h : AH} {Q : UQ} {E : XQ} {r s : Rat} {j k : Nat}
theorem t_worth2 {nx : SK} {bk ct : SK} {t : Nat} {rs : Rows} (T : IsTab h t rs) (G : Good rs) (hr : Pl k r) (hs : Pl k s) (e : k ≤ 1300) (k0 : 0 < k) (le : r ≤ s) (q : Q (qU (ahF rs s - ahF rs r)) h) :
    (sSeq (sDrop (aCall w_check_span [] (aCons (aVar 3) (aCons (aVar 4) aNil))))
    (sRet (aCall w_minus [] (aCons (aMeth "worth_ahead" [] [("Table", w_Table_worth_ahead)] (aVar 0) (aCons (aVar 4) aNil)) (aCons (aMeth "worth_ahead" [] [("Table", w_Table_worth_ahead)] (aVar 0) (aCons (aVar 3) aNil)) aNil))))) nx Q bk ct (fun _ => E) [some (.obj t), some (qU r), some (qU s), some (qU r), some (qU s)] h := by
  obtain ⟨l, h1, h2⟩ := T.ex
  refine t_chk hr hs (by omega) le ?_
  refine Opt.mk h1 ⟨rfl, Opt.mk rfl (t_ahead T G hs.b (by omega) k0 ?_)⟩
  refine Opt.mk h1 ⟨rfl, Opt.mk rfl (t_ahead T G hr.b (by omega) k0 ?_)⟩
  exact t_minus (ahF_bt G hs.b) (ahF_bt G hr.b) (by omega) (by omega) q
theorem t_worthG {t : Nat} {u v : U} (hu : uNon u = false) (hv : uNon v = false) (q : (sSeq (sDrop (aCall w_check_span [] (aCons (aVar 3) (aCons (aVar 4) aNil))))
    (sRet (aCall w_minus [] (aCons (aMeth "worth_ahead" [] [("Table", w_Table_worth_ahead)] (aVar 0) (aCons (aVar 4) aNil)) (aCons (aMeth "worth_ahead" [] [("Table", w_Table_worth_ahead)] (aVar 0) (aCons (aVar 3) aNil)) aNil))))) (fun _ h' => Q .non h') Q (fun _ _ => False) (fun _ _ => False) (fun _ => E) [some (.obj t), some u, some v, some u, some v] h) : w_Table_worth [.obj t, u, v] h Q E :=
  ⟨rfl, brF hu (brF hv q)⟩
theorem t_worth {t : Nat} {rs : Rows} (T : IsTab h t rs) (G : Good rs) (hr : Pl k r) (hs : Pl k s) (e : k ≤ 1300) (k0 : 0 < k) (le : r ≤ s) (q : Q (qU (ahF rs s - ahF rs r)) h) : w_Table_worth [.obj t, qU r, qU s] h Q E :=
  t_worthG rfl rfl (t_worth2 T G hr hs e k0 le q)
theorem t_cutG {t : Nat} {a m u : U} (hu : uNon u = false) (q : (sSeq (sDrop (aCall w_check_span [] (aCons (aVar 1) (aCons (aVar 4) aNil))))
    (sSeq (sIf (aB (aOp uLt (aOp uIx (aVar 2) (aC (.int 0))) (aC (.int 0)))) (sRaise "NoWorth" (aCons (aC (.str "no worth is below nought")) aNil)) sNext)
    (sSeq (sIf (aB (aCall w_is_less [] (aCons (aMeth "worth" [] [("Table", w_Table_worth)] (aVar 0) (aCons (aVar 1) (aCons (aVar 4) aNil))) (aCons (aVar 2) aNil)))) (sRet (aC .non)) sNext)
    (sSeq (sIf (aB (aOp uEq (aOp uIx (aVar 2) (aC (.int 0))) (aC (.int 0)))) (sRet (aVar 1)) sNext)
    (sRet (aMeth "reached" [] [("Table", w_Table_reached)] (aVar 0) (aCons (aCall w_plus [] (aCons (aMeth "worth_ahead" [] [("Table", w_Table_worth_ahead)] (aVar 0) (aCons (aVar 1) aNil)) (aCons (aVar 2) aNil))) aNil))))))) (fun _ h' => Q .non h') Q (fun _ _ => False) (fun _ _ => False) (fun _ => E) [some (.obj t), some a, some m, some u, some u] h) : w_Table_cut [.obj t, a, m, u] h Q E :=
  ⟨rfl, brF hu q⟩
theorem t_cut {t n : Nat} {rs : Rows} {m : Rat} (T : IsTab h t rs) (G : Good rs) (hr : Pl k r) (hs : Pl k s) (hm : Bt n m) (e : k ≤ 1300) (e2 : n ≤ 2900) (k0 : 0 < k) (n0 : 0 < n) (le : r ≤ s) (m0 : 0 ≤ m) (q1 : ahF rs s - ahF rs r < m → Q .non h) (q2 : m ≤ ahF rs s - ahF rs r → Q (qU (cutQ rs r m)) h) : w_Table_cut [.obj t, qU r, qU m, qU s] h Q E := by
  refine t_cutG rfl ?_
  obtain ⟨l, h1, h2⟩ := T.ex
  have nn : 0 ≤ m.num := Rat.num_nonneg.mpr m0
  refine t_chk hr hs (by omega) le ?_
  refine Br.neg (by omega) ?_
  refine Opt.mk h1 ⟨rfl, Opt.mk rfl (t_worth T G hr hs e k0 le ?_)⟩
  have bw := (ahF_bt (r := s) G hs.b).sub (ahF_bt (r := r) G hr.b)
  refine t_less bw hm (by omega) (by omega) (Br.dec (fun c => q1 c) (fun c => ?_))
  have c' : m ≤ ahF rs s - ahF rs r := Rat.not_lt.mp c
  have q3 := q2 c'
  unfold cutQ at q3
  refine Br.dec (fun z => ?_) (fun z => ?_)
  · have : m = 0 := Rat.num_eq_zero.mp z
    rw [if_pos this] at q3
    exact q3
  · have hne : m ≠ 0 := fun y => z (by rw [y]; rfl)
    rw [if_neg hne] at q3
    refine Opt.mk h1 ⟨rfl, Opt.mk rfl ?_⟩
    refine Opt.mk h1 ⟨rfl, Opt.mk rfl (t_ahead T G hr.b (by omega) k0 ?_)⟩
    have ba := ahF_bt (r := r) G hr.b
    refine t_plus ba hm (by omega) (by omega) ?_
    have b1 := ahF_b (r := r) G
    have b2 := ahF_b (r := s) G
    have mp : 0 < m := by grind
    exact t_reached T G (ba.add hm) (by omega) (by omega) (by grind) (by grind) q3
theorem plTail {nx bk ct : SK} {Ex : EX} {u : U} {a b c d : Option U} (hu : uNon u = false) (q : Q u h) : (sRet (aIfE (aB (aOp uIs (aVar 4) (aC .non))) (aVar 2) (aVar 4))) nx Q bk ct Ex [a, b, c, d, some u] h := brF hu q
/-- the place by a worth, or there -/
def plQ (rs : Rows) (r s m : Rat) : Rat := if ahF rs s - ahF rs r < m then s else cutQ rs r m
theorem t_place {t n : Nat} {rs : Rows} {m : Rat} (T : IsTab h t rs) (G : Good rs) (hr : Pl k r) (hs : Pl k s) (hm : Bt n m) (e : k ≤ 1300) (e2 : n ≤ 2900) (k0 : 0 < k) (n0 : 0 < n) (le : r ≤ s) (m0 : 0 ≤ m) (q : Q (qU (plQ rs r s m)) h) : w_place_by [.obj t, qU r, qU s, qU m] h Q E := by
  obtain ⟨l, h1, h2⟩ := T.ex
  unfold plQ at q
  refine ⟨rfl, Opt.mk h1 ⟨rfl, Opt.mk rfl (t_cut T G hr hs hm e e2 k0 n0 le m0 (fun c => ?_) (fun c => ?_))⟩⟩
  · rw [if_pos c] at q
    exact q
  · rw [if_neg (Rat.not_lt.mpr c)] at q
    exact plTail rfl q
/-- the greatest, from an item on -/
def gmx (a : Rat) : List Rat → Rat
  | [] => a
  | b :: l => gmx (if a < b then b else a) l
/-- the first one of the greatest -/
structure FM (ws : List Rat) (j : Nat) : Prop where
  ex : ∃ x, ws[j]? = some x ∧ (∀ y ∈ ws, y ≤ x) ∧ ∀ (i : Nat) (y : Rat), i < j → ws[i]? = some y → y < x
theorem gmx_fm : ∀ {l : List Rat} {a : Rat}, a ≤ gmx a l ∧ (∀ y ∈ l, y ≤ gmx a l) ∧ (gmx a l = a ∨ gmx a l ∈ l)
  | [], a => ⟨Rat.le_refl, fun y hy => by simp at hy, .inl rfl⟩
  | b :: l, a => by
    obtain ⟨h1, h2, h3⟩ := gmx_fm (l := l) (a := if a < b then b else a)
    show a ≤ gmx _ l ∧ (∀ y ∈ b :: l, y ≤ gmx _ l) ∧ (gmx _ l = a ∨ gmx _ l ∈ b :: l)
    by_cases c : a < b
    · rw [if_pos c] at h1 h2 h3 ⊢
      refine ⟨by grind, fun y hy => ?_, ?_⟩
      · rcases List.mem_cons.1 hy with rfl | hy
        · exact h1
        · exact h2 y hy
      · rcases h3 with h3 | h3
        · right; rw [h3]; simp
        · right; simp [h3]
    · rw [if_neg c] at h1 h2 h3 ⊢
      refine ⟨h1, fun y hy => ?_, ?_⟩
      · rcases List.mem_cons.1 hy with rfl | hy
        · grind
        · exact h2 y hy
      · rcases h3 with h3 | h3
        · left; exact h3
        · right; simp [h3]
theorem FM.max {w0 : Rat} {ws : List Rat} {j : Nat} (f : FM (w0 :: ws) j) : (w0 :: ws)[j]? = some (gmx w0 (w0 :: ws)) := by
  obtain ⟨x, e, h1, _⟩ := f.ex
  obtain ⟨g1, g2, g3⟩ := gmx_fm (l := w0 :: ws) (a := w0)
  have hx : x ∈ w0 :: ws := List.mem_of_getElem? e
  have a := g2 x hx
  have b : gmx w0 (w0 :: ws) ≤ x := by
    rcases g3 with g3 | g3
    · rw [g3]; exact h1 w0 (by simp)
    · exact h1 _ g3
  rw [e]
  congr 1
  grind
theorem FM.uniq {ws : List Rat} {i j : Nat} (a : FM ws i) (b : FM ws j) : i = j := by
  obtain ⟨x, e, h1, h2⟩ := a.ex
  obtain ⟨y, f, g1, g2⟩ := b.ex
  have c1 := h1 y (List.mem_of_getElem? f)
  have c2 := g1 x (List.mem_of_getElem? e)
  rcases Nat.lt_trichotomy i j with c | c | c
  · have := g2 i x c e; grind
  · exact c
  · have := h2 j y c f; grind
/-! ### pieces -/
abbrev Pcs := List (Rat × Rat)
def prU (p : Rat × Rat) : U := .tup [qU p.1, qU p.2]
def pcU (ps : Pcs) : U := .tup (ps.map prU)
def PcK (k : Nat) (ps : Pcs) : Prop := ∀ p ∈ ps, Pl k p.1 ∧ Pl k p.2 ∧ p.1 ≤ p.2
end
end K

namespace K
open PySem L2
section
variable {h : AH} {Q : UQ} {E : XQ} {r s : Rat} {j k : Nat} {u v : U}
end
end K

namespace K
open PySem L2
section
variable {h : AH} {Q : UQ} {E : XQ} {r s : Rat} {j k : Nat}
end
end K

namespace K
open PySem L2
section
variable {h : AH} {Q : UQ} {E : XQ} {r s : Rat} {j k : Nat}
theorem t_mixedB {c k : Int} (h0 : 0 ≤ k) (h1 : k ≤ 10000000) (q : ∀ r : Int, 0 ≤ r → r < 1000000007 → Q (.int r) h) : w_law_mixed_0002 [.int c, .int k] h Q E := by
  have a0 := Int.emod_nonneg c (show (2147483647 : Int) ≠ 0 by decide)
  have a1 := Int.emod_lt_of_pos c (show (0 : Int) < 2147483647 by decide)
  have c0 : 1009 * k * k ≤ 1009 * 10000000 * 10000000 := Int.mul_le_mul (by omega) h1 (by omega) (by omega)
  have c1 : 0 ≤ 1009 * k * k := Int.mul_nonneg (by omega) (by omega)
  refine ⟨rfl, (show (0 : Int) < 2147483647 by decide), IntMulOk.of_left (by decide), mulOk (j := 50) (k := 50) (by omega) (by omega) (by decide) (by decide), IntMulOk.of_left (by decide), ⟨by decide, by decide, by omega⟩, (show (0 : Int) < 2147483647 by decide), ?_⟩
  refine ⟨IntMulOk.of_right (by decide), IntMulOk.of_left (by decide), (show (0 : Int) < 1000000007 by decide), ?_⟩
  exact q _ (Int.emod_nonneg _ (by decide)) (Int.emod_lt_of_pos _ (by decide))
/-- the box of draws: at b, its lists at g and s; at most D draws were taken -/
structure BoxB (h : AH) (b g s : Nat) (D : Int) : Prop where
  ex : ∃ (gs ss : List Int) (x n : Int), ownLst h b = some [.obj g, .int x, .obj s, .int n] ∧ ownLst h g = some (gs.map U.int) ∧ lstAt h s = some (ss.map U.int) ∧ b ≠ g ∧ b ≠ s ∧ g ≠ s ∧ 0 ≤ n ∧ n ≤ D
abbrev BG (b g : Nat) : Nat → Prop := fun n => n = b ∨ n = g
theorem BoxB.lat {S : Nat → Prop} {h h' : AH} {b g s : Nat} {D : Int} (B : BoxB h b g s D) (l : Lat S h h') (hb : ¬ S b) (hg : ¬ S g) (hs : ¬ S s) : BoxB h' b g s D := by
  obtain ⟨gs, ss, x, n, h1, h2, h3, r⟩ := B.ex
  exact ⟨gs, ss, x, n, l.own h1 hb, l.own h2 hg, l.lst h3 hs, r⟩
theorem BoxB.pre {h h' : AH} {b g s : Nat} {D : Int} (B : BoxB h b g s D) (l : Pre h h') : BoxB h' b g s D := B.lat l (fun z => z) (fun z => z) (fun z => z)
theorem BoxB.lt {h : AH} {b g s : Nat} {D : Int} (B : BoxB h b g s D) : b < h.length ∧ g < h.length ∧ s < h.length := by obtain ⟨_, _, _, _, h1, h2, h3, _⟩ := B.ex; exact ⟨own_lt h1, own_lt h2, lst_lt h3⟩
theorem BoxB.mono {h : AH} {b g s : Nat} {D D' : Int} (B : BoxB h b g s D) (e : D ≤ D') : BoxB h b g s D' := by obtain ⟨gs, ss, x, n, h1, h2, h3, h4, h5, h6, h7, h8⟩ := B.ex; exact ⟨gs, ss, x, n, h1, h2, h3, h4, h5, h6, h7, by omega⟩
theorem t_takeB {b g s : Nat} {m D : Int} (B : BoxB h b g s D) (hD : D ≤ 1000000) (hm : 0 < m) (hl : m.natAbs.log2 < 9000) (k : ∀ (r : Int) (h' : AH), 0 ≤ r → r < m → Lat (BG b g) h h' → BoxB h' b g s (D + 1) → Q (.int r) h') : w_law_take_dbef [.obj b, .int m] h Q E := by
  obtain ⟨gs, ss, x, n, h1, h2, h3, bg, bs, gs', n0, nD⟩ := B.ex
  refine ⟨rfl, rd (own_lst h1) rfl (wr h1 rfl ?_)⟩
  have g1 : ownLst (h.set b (.lst [.obj g, .int x, .obj s, .int (n + 1)])) b = some [.obj g, .int x, .obj s, .int (n + 1)] := set_own (own_lt h1)
  have g2 : ownLst (h.set b (.lst [.obj g, .int x, .obj s, .int (n + 1)])) g = some (gs.map U.int) := by rw [ne_own bg]; exact h2
  have g3 : lstAt (h.set b (.lst [.obj g, .int x, .obj s, .int (n + 1)])) s = some (ss.map U.int) := by rw [ne_lst bs]; exact h3
  have l1 : Lat (BG b g) h (h.set b (.lst [.obj g, .int x, .obj s, .int (n + 1)])) := .set (.inl rfl)
  have fin : ∀ {H : AH} (gs2 : List Int) (y r : Int), Lat (BG b g) h H → ownLst H b = some [.obj g, .int y, .obj s, .int (n + 1)] → ownLst H g = some (gs2.map U.int) → lstAt H s = some (ss.map U.int) → 0 ≤ r → r < m → Q (.int r) H := fun gs2 y r l e1 e2 e3 a1 a2 => k _ _ a1 a2 l ⟨gs2, ss, y, n + 1, e1, e2, e3, bg, bs, gs', by omega, by omega⟩
  -- from the loop on
  have tail2 : ∀ (H : AH) (gs2 : List Int) (y c : Int) (z : Option U), Lat (BG b g) h H → ownLst H b = some [.obj g, .int y, .obj s, .int (n + 1)] → ownLst H g = some (gs2.map U.int) → lstAt H s = some (ss.map U.int) →
      (sSeq (sSet 2 (aC (.int 0)))
    (sSeq (sSet 4 (aC (.int 1)))
    (sSeq (sWhile (aB (aOp uLt (aVar 4) (aVar 1))) (sSeq (sSet 2 (aOp uAdd (aOp uMul (aVar 2) (aC (.int 1000000007))) (aCall w_law_mixed_0002 [] (aCons (aVar 3) (aCons (aOp uAdd (aOp uIx (aVar 0) (aC (.int 3))) (aOp uMul (aC (.int 1000)) (aOp uMod (aVar 2) (aC (.int 89))))) aNil)))))
    (sSet 4 (aOp uMul (aVar 4) (aC (.int 1000000007))))))
    (sRet (aOp uMod (aVar 2) (aVar 1)))))) (fun _ h' => Q .non h') Q (fun _ _ => False) (fun _ _ => False) (fun _ => E) [some (.obj b), some (.int m), z, some (.int c), none] H := fun H gs2 y c z l e1 e2 e3 => by
    refine whP (fun mm ρ h' => h' = H ∧ ∃ fo re : Int, ρ = [some (.obj b), some (.int m), some (.int fo), some (.int c), some (.int re)] ∧ 0 ≤ fo ∧ 1 ≤ re ∧ mm = (m - re).toNat) ⟨_, rfl, 0, 1, rfl, by decide, by decide, rfl⟩ ?_
    rintro mm ρ h' ⟨rfl, fo, re, rfl, f0, r1, rfl⟩
    refine Br.dec (fun c1 => ?_) (fun c1 => ?_)
    · refine ⟨IntMulOk.of_right (by decide), rd (own_lst e1) rfl ⟨(show (0 : Int) < 89 by decide), IntMulOk.of_left (by decide), ?_⟩⟩
      have q0 := Int.emod_nonneg fo (show (89 : Int) ≠ 0 by decide)
      have q1 := Int.emod_lt_of_pos fo (show (0 : Int) < 89 by decide)
      refine t_mixedB (by omega) (by omega) fun r r0 r1' => ?_
      exact ⟨IntMulOk.of_right (by decide), (m - re * 1000000007).toNat, by omega, rfl, fo * 1000000007 + r, re * 1000000007, rfl, by omega, by omega, rfl⟩
    · exact ⟨hm, fin gs2 y _ l e1 e2 e3 (Int.emod_nonneg _ (by omega)) (Int.emod_lt_of_pos _ hm)⟩
  -- from the second if on
  have tail1 : ∀ (H : AH) (gs2 : List Int) (y : Int), Lat (BG b g) h H → ownLst H b = some [.obj g, .int y, .obj s, .int (n + 1)] → ownLst H g = some (gs2.map U.int) → lstAt H s = some (ss.map U.int) →
      (sSeq (sIf (aB (aOp uGt (aOp uIx (aVar 0) (aC (.int 1))) (aC (.int 0)))) (sSeq (sSet 2 (aOp uMod (aOp uIx (aVar 0) (aC (.int 1))) (aVar 1)))
    (sSeq (sIx (aOp uDiv (aOp uIx (aVar 0) (aC (.int 1))) (aVar 1)) (aVar 0) (aC (.int 1)))
    (sRet (aVar 2)))) sNext)
    (sSeq (sSet 3 (aOp uMul (aC (.int 7)) (aOp uIx (aVar 0) (aC (.int 3)))))
    (sSeq (sIf (aB (aOp uGt (aBlt uLen (aCons (aOp uIx (aVar 0) (aC (.int 2))) aNil)) (aC (.int 0)))) (sSet 3 (aOp uIx (aOp uIx (aVar 0) (aC (.int 2))) (aOp uMod (aOp uIx (aVar 0) (aC (.int 3))) (aBlt uLen (aCons (aOp uIx (aVar 0) (aC (.int 2))) aNil))))) sNext)
    (sSeq (sSet 2 (aC (.int 0)))
    (sSeq (sSet 4 (aC (.int 1)))
    (sSeq (sWhile (aB (aOp uLt (aVar 4) (aVar 1))) (sSeq (sSet 2 (aOp uAdd (aOp uMul (aVar 2) (aC (.int 1000000007))) (aCall w_law_mixed_0002 [] (aCons (aVar 3) (aCons (aOp uAdd (aOp uIx (aVar 0) (aC (.int 3))) (aOp uMul (aC (.int 1000)) (aOp uMod (aVar 2) (aC (.int 89))))) aNil)))))
    (sSet 4 (aOp uMul (aVar 4) (aC (.int 1000000007))))))
    (sRet (aOp uMod (aVar 2) (aVar 1))))))))) (fun _ h' => Q .non h') Q (fun _ _ => False) (fun _ _ => False) (fun _ => E) [some (.obj b), some (.int m), none, none, none] H := fun H gs2 y l e1 e2 e3 => by
    refine rd (own_lst e1) rfl (Br.dec (fun hp => ?_) (fun hp => ?_))
    · refine rd (own_lst e1) rfl ⟨hm, ?_⟩
      refine rd (own_lst e1) rfl ⟨⟨by omega, hl⟩, ?_⟩
      refine wr e1 rfl ?_
      exact fin gs2 _ _ (l.trans (.set (.inl rfl))) (set_own (own_lt e1)) (by rw [ne_own bg]; exact e2) (by rw [ne_lst bs]; exact e3) (Int.emod_nonneg _ (by omega)) (Int.emod_lt_of_pos _ hm)
    · refine rd (own_lst e1) rfl ⟨IntMulOk.of_left (by decide), ?_⟩
      refine rd (own_lst e1) rfl (ln e3 (Br.dec (fun hq => ?_) (fun hq => ?_)))
      · rw [List.length_map] at hq
        have q0 := Int.emod_nonneg (n + 1) (show ((ss.map U.int).length : Int) ≠ 0 by rw [List.length_map]; omega)
        have q1 := Int.emod_lt_of_pos (n + 1) (show (0 : Int) < ((ss.map U.int).length : Int) by rw [List.length_map]; omega)
        have hi : ((n + 1) % ((ss.map U.int).length : Int)).toNat < ss.length := by rw [List.length_map] at q1 q0 ⊢; omega
        refine rd (own_lst e1) rfl (rd (own_lst e1) rfl (rd (own_lst e1) rfl (ln e3 ⟨by rw [List.length_map]; omega, rd e3 (atI_of (u := .int (ss[((n + 1) % ((ss.map U.int).length : Int)).toNat])) q0 (by rw [List.getElem?_map, List.getElem?_eq_getElem hi]; rfl)) ?_⟩)))
        exact tail2 H gs2 y _ _ l e1 e2 e3
      · exact tail2 H gs2 y _ _ l e1 e2 e3
  refine Opt.mk (own_lst g1) (Opt.mk rfl (Br.dec (fun hc => ?_) (fun hc => tail1 _ gs x l1 g1 g2 g3)))
  refine rd (own_lst g1) rfl (ln (own_lst g2) (Br.dec (fun hi => ?_) (fun hi => tail1 _ gs x l1 g1 g2 g3)))
  rw [List.length_map] at hi
  obtain ⟨c0, gs2, rfl⟩ : ∃ c0 gs2, gs = c0 :: gs2 := by cases gs with
    | nil => simp at hi
    | cons a l => exact ⟨a, l, rfl⟩
  refine rd (own_lst g1) rfl ⟨⟨_, own_lst g2⟩, ?_⟩
  refine Opt.mk g2 ⟨by decide, by decide, Opt.mk (a := 0) (by unfold seqIndex?; simp) (Opt.mk (a := .int c0) rfl ?_)⟩
  have l2 := l1.trans (.set (S := BG b g) (n := g) (o := .lst (((c0 :: gs2).map U.int).eraseIdx 0)) (.inr rfl))
  have k1 : ownLst ((h.set b (.lst [.obj g, .int x, .obj s, .int (n + 1)])).set g (.lst (((c0 :: gs2).map U.int).eraseIdx 0))) b = some [.obj g, .int x, .obj s, .int (n + 1)] := by rw [ne_own (Ne.symm bg)]; exact g1
  have k2 : ownLst ((h.set b (.lst [.obj g, .int x, .obj s, .int (n + 1)])).set g (.lst (((c0 :: gs2).map U.int).eraseIdx 0))) g = some (gs2.map U.int) := set_own (own_lt g2)
  have k3 : lstAt ((h.set b (.lst [.obj g, .int x, .obj s, .int (n + 1)])).set g (.lst (((c0 :: gs2).map U.int).eraseIdx 0))) s = some (ss.map U.int) := by rw [ne_lst gs']; exact g3
  refine wr k1 rfl ?_
  exact tail1 _ gs2 c0 (l2.trans (.set (.inl rfl))) (set_own (own_lt k1)) (by rw [ne_own bg]; exact k2) (by rw [ne_lst bs]; exact k3)
end
end K

namespace K
open PySem L2
section
variable {h : AH} {Q : UQ} {E : XQ} {r s : Rat} {j k : Nat} {u v : U}
theorem t_low {a b : Int} (hb : b ≠ 0) (hl : b.natAbs.log2 < 9000) (k : Q (qU (Rat.divInt a b)) h) : w_law_low_35aa [.int a, .int b] h Q E := by
  refine ⟨rfl, whP (fun m ρ h' => h' = h ∧ ∃ x y : Int, ρ = [some (.int a), some (.int b), some (.int x), some (.int y)] ∧ 0 ≤ x ∧ 0 ≤ y ∧ Int.gcd x y = Int.gcd a b ∧ m = y.toNat) ⟨_, rfl, _, _, rfl, by rw [abs_if]; omega, by rw [abs_if]; omega, by rw [abs_if, abs_if]; simp [Int.gcd], rfl⟩ ?_⟩
  rintro m ρ h' ⟨rfl, x, y, rfl, hx, hy, hg, rfl⟩
  refine Br.dec (fun hp => ?_) (fun hp => ?_)
  · have hp : 0 < y := hp
    have m0 := Int.emod_nonneg x (show y ≠ 0 by omega)
    have m1 := Int.emod_lt_of_pos x hp
    exact ⟨hp, (x % y).toNat, by omega, rfl, y, x % y, rfl, hy, m0, by rw [gcd_step hx hp, hg], rfl⟩
  · have hp : ¬ 0 < y := hp
    have : y = 0 := by omega
    subst this
    rw [Int.gcd_zero_right] at hg
    have ex : x = (Int.gcd a b : Int) := by omega
    subst ex
    have d0 := dv_ne (a := a) hb
    have ds := dv_small (a := a) hb hl
    rw [← lo_q hb] at k
    refine Br.dec (fun hn => ?_) (fun hn => ?_)
    · have e : -(Int.gcd a b : Int) = dv a b := by unfold dv; rw [if_pos hn]
      show CDivB a (-(Int.gcd a b : Int)) ∧ CDivB b (-(Int.gcd a b : Int)) ∧ _
      rw [e]
      exact ⟨⟨d0, ds⟩, ⟨d0, ds⟩, (by show 2 ≤ sizeLine; decide), k⟩
    · have e : (Int.gcd a b : Int) = dv a b := by unfold dv; rw [if_neg hn]
      show CDivB a (Int.gcd a b : Int) ∧ CDivB b (Int.gcd a b : Int) ∧ _
      rw [e]
      exact ⟨⟨d0, ds⟩, ⟨d0, ds⟩, (by show 2 ≤ sizeLine; decide), k⟩
/-- a tuple that stands for a rational number -/
structure Fq (k : Nat) (u : U) (r : Rat) : Prop where
  ex : ∃ a b : Int, u = .tup [.int a, .int b] ∧ 0 < b ∧ r = (a : Rat) / b ∧ a.natAbs < 2 ^ k ∧ b.natAbs < 2 ^ k
theorem Fq.of (b : Bt k r) : Fq k (qU r) r := by
  refine ⟨r.num, r.den, rfl, by have := r.den_nz; omega, ?_, b.n, dn b⟩
  have e := num_den r
  rw [Rat.divInt_eq_div] at e
  exact e.symm
theorem Fq.mono (f : Fq j u r) (e : j ≤ k) : Fq k u r := by
  obtain ⟨a, b, rfl, b0, hr, h1, h2⟩ := f.ex
  exact ⟨a, b, rfl, b0, hr, Nat.lt_of_lt_of_le h1 (Nat.pow_le_pow_right (by decide) e), Nat.lt_of_lt_of_le h2 (Nat.pow_le_pow_right (by decide) e)⟩
theorem Fq.mk' {a b : Int} (b0 : 0 < b) (h1 : a.natAbs < 2 ^ k) (h2 : b.natAbs < 2 ^ k) : Fq k (.tup [.int a, .int b]) ((a : Rat) / b) := ⟨a, b, rfl, b0, rfl, h1, h2⟩
theorem div_lt {a b c d : Int} (hb : 0 < b) (hd : 0 < d) : ((a : Rat) / b < (c : Rat) / d) ↔ a * d < c * b := by
  have hb' : (0 : Rat) < b := Rat.intCast_pos.mpr hb
  have hd' : (0 : Rat) < d := Rat.intCast_pos.mpr hd
  have hb2 : (b : Rat) ≠ 0 := by grind
  have hd2 : (d : Rat) ≠ 0 := by grind
  have e1 : (a : Rat) / b * (b * d) = a * d := by grind
  have e2 : (c : Rat) / d * (b * d) = c * b := by grind
  have bd := Rat.mul_pos hb' hd'
  constructor
  · intro z
    have := Rat.mul_lt_mul_of_pos_right z bd
    rw [e1, e2] at this
    exact_mod_cast this
  · intro z
    refine Rat.not_le.mp fun y => ?_
    have := Rat.mul_le_mul_of_nonneg_right y (Rat.le_of_lt bd)
    rw [e1, e2] at this
    have z' : (a : Rat) * d < c * b := by exact_mod_cast z
    grind
theorem t_lessF (hu : Fq j u r) (hv : Fq k v s) (hj : j ≤ 9000) (hk : k ≤ 9000) (q : Q (.bl (decide (r < s))) h) : w_law_less_5e3f [u, v] h Q E := by
  obtain ⟨a, b, rfl, b0, rfl, h1, h2⟩ := hu.ex
  obtain ⟨c, d, rfl, d0, rfl, h3, h4⟩ := hv.ex
  have e : decide ((a : Rat) / b < (c : Rat) / d) = decide (a * d < c * b) := by rw [decide_eq_decide]; exact div_lt b0 d0
  rw [e] at q
  exact ⟨rfl, mulOk h1 h4 hj hk, mulOk h3 h2 hk hj, q⟩
theorem t_plusF (hu : Fq j u r) (hv : Fq k v s) (e : j + k ≤ 8990) (j0 : 0 < j) (q : Q (qU (r + s)) h) : w_law_plus_7700 [u, v] h Q E := by
  obtain ⟨a, b, rfl, b0, rfl, h1, h2⟩ := hu.ex
  obtain ⟨c, d, rfl, d0, rfl, h3, h4⟩ := hv.ex
  have bd : 0 < b * d := Int.mul_pos b0 d0
  have hb2 : (b : Rat) ≠ 0 := by have : (0 : Rat) < b := Rat.intCast_pos.mpr b0; grind
  have hd2 : (d : Rat) ≠ 0 := by have : (0 : Rat) < d := Rat.intCast_pos.mpr d0; grind
  have ev : Rat.divInt (a * d + c * b) (b * d) = (a : Rat) / b + (c : Rat) / d := by
    rw [Rat.divInt_eq_div]
    push_cast
    grind
  rw [← ev] at q
  refine ⟨rfl, mulOk h1 h4 (by omega) (by omega), mulOk h3 h2 (by omega) (by omega), mulOk h2 h4 (by omega) (by omega), t_low (by omega) (log_pow (k := j + k) ?_ (by omega) (by omega)) q⟩
  rw [Int.natAbs_mul]
  exact mul_lt_pow h2 h4
end
end K

namespace K
open PySem L2
/-- a share stands at t -/
structure IsShr (h : AH) (t : Nat) (S : Sps) : Prop where
  ex : ∃ m, insAt h t = some (("Share", [("held", .obj m)]) : CF) ∧ lstAt h m = some (S.map prU)
theorem IsShr.pre {h h' : AH} {t : Nat} {S : Sps} (T : IsShr h t S) (l : Pre h h') : IsShr h' t S := by
  obtain ⟨m, h1, h2⟩ := T.ex
  exact ⟨m, Pre.ins l h1, Pre.lst l h2⟩
section
variable {h : AH} {Q : UQ} {E : XQ} {r s : Rat} {j k : Nat} {u v : U}
/-! ### the law's own -/
abbrev Prs := List (Int × Int)
def scQ (g : Int) (p : Int × Int) : Rat × Rat := ((p.1 : Rat) / g, (p.2 : Rat) / g)
end
end K

namespace K
open PySem L2
end K

namespace K
open PySem L2
section
variable {h : AH} {Q : UQ} {E : XQ} {r s : Rat} {j k : Nat} {u v : U}
end
end K

namespace K
open PySem L2
section
variable {h : AH} {Q : UQ} {E : XQ} {r s : Rat} {j k : Nat} {u v : U}
theorem Fq.bt (f : Fq k u r) : Bt k r := by
  obtain ⟨a, b, rfl, b0, rfl, h1, h2⟩ := f.ex
  rw [← Rat.divInt_eq_div]
  exact .div (by omega) h1 h2
theorem size_val {a b c d w v W : Int} (hb : 0 < b) (hd : 0 < d) (hw : 0 < w) : Rat.divInt ((c * b - a * d) * v * W) (d * b * w) = v * (((c : Rat) / d - (a : Rat) / b) * W) / w := by
  have hb2 : (b : Rat) ≠ 0 := by have : (0 : Rat) < b := Rat.intCast_pos.mpr hb; grind
  have hd2 : (d : Rat) ≠ 0 := by have : (0 : Rat) < d := Rat.intCast_pos.mpr hd; grind
  have hw2 : (w : Rat) ≠ 0 := by have : (0 : Rat) < w := Rat.intCast_pos.mpr hw; grind
  rw [Rat.divInt_eq_div]
  push_cast
  grind
theorem t_lworth {n : Nat} {rs : Rows} (hl : lstAt h n = some (rowsU rs)) (G : Good rs) (hu : Fq k u r) (hv : Fq k v s) (e : k ≤ 1300) (k13 : 13 ≤ k) (le : r ≤ s) (q : ∀ h', Pre h h' → Q (qU (ahF rs s - ahF rs r)) h') : w_law_worth_3dd4 [.obj n, u, v] h Q E := by
  have hlen := rows_len rs
  have g2 := G.hi
  have hW := wid_n G
  have hWp := mwid_pos G
  refine ⟨rfl, ?_⟩
  refine Opt.walk hl (lcP (xs := rowsU rs) fst2 (small (by omega)) (fun h' l => Pre.lst l hl) ?_ ?_)
  · intro x hx h' Kt l q
    obtain ⟨a, b, rfl, _⟩ := rows_mem hx
    exact q
  rw [rows_fst]
  refine sm new_lst ?_
  refine ⟨by show 2 ≤ sizeLine; decide, ?_⟩
  have l1 : Pre h (h ++ [AO.lst ((rs.map (·.1)).map U.int)]) := .app
  have hl1 := Pre.lst l1 hl
  have q1 := q _ l1
  clear q
  generalize h ++ [AO.lst ((rs.map (·.1)).map U.int)] = H at *
  refine Opt.walk hl1 (forP (fun i ρ h' => h' = H ∧ ∃ (a b c d f : Option U), ρ = [some (.obj n), some u, some v, a, b, some (.int (wid rs)), some (qU (ahQ (rs.take i) (s * wid rs) - ahQ (rs.take i) (r * wid rs))), some (.int (wid (rs.take i))), c, d, f]) ?_ ?_ ?_)
  · refine ⟨rfl, none, none, none, none, none, ?_⟩
    have e0 : ahQ (rs.take 0) (s * wid rs) - ahQ (rs.take 0) (r * wid rs) = 0 := by simp [ahQ]; grind
    rw [e0]
    rfl
  · rintro i x ρ' h' hx ⟨rfl, a, b, c, d, f, rfl⟩
    refine ⟨hl1, ?_⟩
    have hi : i < rs.length := by have := (List.getElem?_eq_some_iff.mp hx).1; rwa [rows_len] at this
    rw [rows_at hi] at hx
    cases hx
    have hm := List.getElem_mem hi
    obtain ⟨w, v', hwv⟩ : ∃ w v, rs[i] = (w, v) := ⟨_, _, rfl⟩
    rw [hwv] at hm ⊢
    have gw := G.w _ hm
    have gv := G.v _ hm
    dsimp only at gw gv
    have et : rs.take (i + 1) = rs.take i ++ [(w, v')] := by rw [List.take_add_one, List.getElem?_eq_getElem hi, hwv]; rfl
    have ew : wid (rs.take (i + 1)) = wid (rs.take i) + w := by rw [et]; simp [wid]
    have hlt7 : (rs.take i).length ≤ 7 := by rw [List.length_take]; omega
    have hlt : (rs.take i).length ≤ 8 := by omega
    have hb0 := mwid_b (rs.take i) hlt (fun x hx => G.w x (List.mem_of_mem_take hx))
    have hb1 := mwid_b rs g2 G.w
    have bs := (ah_bt (r := s) (k := k) (wid rs) (G.oks.take i) hlt hv.bt.d).sub (ah_bt (r := r) (k := k) (wid rs) (G.oks.take i) hlt hu.bt.d)
    refine Opt.mk rfl ?_
    refine ⟨by show 2 ≤ sizeLine; decide, ⟨by show 2 ≤ sizeLine; decide, ?_⟩⟩
    have F1 : Fq k (.tup [.int (wid (rs.take i)), .int (wid rs)]) ((wid (rs.take i) : Rat) / wid rs) := (Fq.mk' (k := 13) hWp (by omega) hW).mono k13
    have F2 : Fq k (.tup [.int (wid (rs.take i) + w), .int (wid rs)]) (((wid (rs.take i) + w : Int) : Rat) / wid rs) := (Fq.mk' (k := 13) hWp (by omega) hW).mono k13
    have F2' : Fq k (.tup [.int (wid (rs.take i) + w), .int (wid rs)]) (((wid (rs.take i) : Rat) + w) / wid rs) := by have := F2; push_cast at this; exact this
    have W' : (0 : Rat) < wid rs := Rat.intCast_pos.mpr hWp
    have w' : (0 : Rat) < w := Rat.intCast_pos.mpr (by omega)
    have w2 : (w : Rat) ≠ 0 := by grind
    have sc := st_clamp (Pp := (wid (rs.take i) : Rat)) (w := (w : Rat)) (W := (wid rs : Rat)) (s := r) (t := s) W' w' le
    have enew : ahQ (rs.take (i + 1)) (s * wid rs) - ahQ (rs.take (i + 1)) (r * wid rs) = ahQ (rs.take i) (s * wid rs) - ahQ (rs.take i) (r * wid rs) + v' * stR (wid (rs.take i)) w (wid rs) r s / w := by
      rw [et, ah_snoc, ah_snoc, sc]
      grind
    have tail : ∀ (lu hu' : U) (lr hr : Rat), Fq k lu lr → Fq k hu' hr → lr = (if (wid (rs.take i) : Rat) / wid rs < r then r else (wid (rs.take i) : Rat) / wid rs) → hr = (if s < ((wid (rs.take i) : Rat) + w) / wid rs then s else ((wid (rs.take i) : Rat) + w) / wid rs) →
      (sIf (aB (aCall w_law_less_5e3f [] (aCons (aVar 8) (aCons (aVar 9) aNil)))) (sSeq (sSet 10 (aOp uSub (aOp uMul (aOp uIx (aVar 9) (aC (.int 0))) (aOp uIx (aVar 8) (aC (.int 1)))) (aOp uMul (aOp uIx (aVar 8) (aC (.int 0))) (aOp uIx (aVar 9) (aC (.int 1))))))
    (sSeq (sSet 10 (aOp uMul (aOp uMul (aVar 10) (aVar 4)) (aVar 5)))
    (sSet 6 (aCall w_law_plus_7700 [] (aCons (aVar 6) (aCons (aCall w_law_low_35aa [] (aCons (aVar 10) (aCons (aOp uMul (aOp uMul (aOp uIx (aVar 9) (aC (.int 1))) (aOp uIx (aVar 8) (aC (.int 1)))) (aVar 3)) aNil))) aNil)))))) sNext)
      (fun ρ h'_1 => h'_1 = h' ∧ ∃ (a b c d f : Option U), ρ = [some (.obj n), some u, some v, a, b, some (.int (wid rs)), some (qU (ahQ (rs.take (i + 1)) (s * wid rs) - ahQ (rs.take (i + 1)) (r * wid rs))), some (.int (wid (rs.take (i + 1)))), c, d, f]) Q (fun _ _ => False) (fun _ _ => False) (fun _ => E)
      [some (.obj n), some u, some v, some (.int w), some (.int v'), some (.int (wid rs)), some (qU (ahQ (rs.take i) (s * wid rs) - ahQ (rs.take i) (r * wid rs))), some (.int (wid (rs.take i) + w)), some lu, some hu', f] h' := fun lu hu' lr hr f1 f2 e1 e2 => by
      have est : stR (wid (rs.take i)) w (wid rs) r s = if lr < hr then (hr - lr) * wid rs else 0 := by rw [e1, e2]; rfl
      rw [enew, est, ew]
      refine t_lessF f1 f2 (by omega) (by omega) (Br.dec (fun c => ?_) (fun c => ?_))
      · rw [if_pos c]
        obtain ⟨a1, b1, rfl, p1, rfl, z1, z2⟩ := f1.ex
        obtain ⟨a2, b2, rfl, p2, rfl, z3, z4⟩ := f2.ex
        have m1 : (a2 * b1).natAbs < 2 ^ (k + k) := by rw [Int.natAbs_mul]; exact mul_lt_pow z3 z2
        have m2 : (a1 * b2).natAbs < 2 ^ (k + k) := by rw [Int.natAbs_mul]; exact mul_lt_pow z1 z4
        have m3 : (a2 * b1 - a1 * b2).natAbs < 2 ^ (k + k + 1) := by rw [Nat.pow_succ]; omega
        have m4 : ((a2 * b1 - a1 * b2) * v').natAbs < 2 ^ (k + k + 1 + 30) := by rw [Int.natAbs_mul]; exact mul_lt_pow m3 (by omega)
        have m5 : ((a2 * b1 - a1 * b2) * v' * wid rs).natAbs < 2 ^ (k + k + 1 + 30 + 13) := by rw [Int.natAbs_mul]; exact mul_lt_pow m4 hW
        have m6 : (b2 * b1).natAbs < 2 ^ (k + k) := by rw [Int.natAbs_mul]; exact mul_lt_pow z4 z2
        have m7 : (b2 * b1 * w).natAbs < 2 ^ (k + k + 10) := by rw [Int.natAbs_mul]; exact mul_lt_pow m6 (by omega)
        have pw : 0 < b2 * b1 * w := Int.mul_pos (Int.mul_pos p2 p1) (by omega)
        have bt : Bt (k + k + 1 + 30 + 13) (Rat.divInt ((a2 * b1 - a1 * b2) * v' * wid rs) (b2 * b1 * w)) := .div (by omega) m5 (Nat.lt_of_lt_of_le m7 (Nat.pow_le_pow_right (by decide) (by omega)))
        refine ⟨mulOk z3 z2 (by omega) (by omega), mulOk z1 z4 (by omega) (by omega), mulOk m3 (k := 30) (by omega) (by omega) (by decide), mulOk m4 hW (by omega) (by decide), ?_⟩
        refine ⟨mulOk z4 z2 (by omega) (by omega), mulOk m6 (k := 10) (by omega) (by omega) (by decide), t_low (by omega) (log_pow m7 (by omega) (by omega)) ?_⟩
        refine t_plusF (Fq.of bs) (Fq.of bt) (by omega) (by omega) ?_
        rw [size_val p1 p2 (by omega)]
        exact ⟨rfl, _, _, _, _, _, rfl⟩
      · rw [if_neg c]
        have e0 : (v' : Rat) * 0 / w = 0 := by grind
        rw [e0, show ∀ x : Rat, x + 0 = x by intro x; grind]
        exact ⟨rfl, _, _, _, _, _, rfl⟩
    refine t_lessF F1 hu (by omega) (by omega) (Br.dec (fun c1 => ?_) (fun c1 => ?_))
    · refine t_lessF hv F2' (by omega) (by omega) (Br.dec (fun c2 => ?_) (fun c2 => ?_))
      · exact tail _ _ _ _ hu hv (by rw [if_pos c1]) (by rw [if_pos c2])
      · exact tail _ _ _ _ hu F2' (by rw [if_pos c1]) (by rw [if_neg c2])
    · refine t_lessF hv F2' (by omega) (by omega) (Br.dec (fun c2 => ?_) (fun c2 => ?_))
      · exact tail _ _ _ _ F1 hv (by rw [if_neg c1]) (by rw [if_pos c2])
      · exact tail _ _ _ _ F1 F2' (by rw [if_neg c1]) (by rw [if_neg c2])
  · rintro ρ' h' ⟨rfl, a, b, c, d, f, rfl⟩
    refine ⟨hl1, ?_⟩
    rw [hlen, List.take_length]
    exact q1
end
end K

namespace K
open PySem L2
section
variable {h : AH} {Q : UQ} {E : XQ} {r s : Rat} {j k : Nat} {u v : U}
theorem Fq.neg {x : Rat} (b : Bt k x) : Fq k (.tup [.int (-x.num), .int (x.den : Int)]) (-x) := by
  have f := Fq.of b.neg
  have e : qU (-x) = .tup [.int (-x.num), .int (x.den : Int)] := by unfold qU; rw [Rat.neg_num, Rat.neg_den]
  rw [← e]; exact f
theorem cl_bt {x : Rat} (hr : Bt k r) (hs : Bt k s) (hx : Bt k x) : Bt k (cl r s x) := by
  unfold cl
  split
  · exact hr
  · split
    · exact hx
    · exact hs
theorem t_lcut {n m' : Nat} {rs : Rows} {m : Rat} (hl : lstAt h n = some (rowsU rs)) (G : Good rs) (hr : Pl k r) (hs : Pl k s) (hm : Bt m' m) (e : k ≤ 1300) (k13 : 13 ≤ k) (e2 : m' ≤ 2900) (n0 : 0 < m') (le : r ≤ s) (m0 : 0 ≤ m)
    (q1 : ahF rs s - ahF rs r < m → ∀ h', Pre h h' → Q .non h') (q2 : m ≤ ahF rs s - ahF rs r → ∀ h', Pre h h' → Q (qU (cutQ rs r m)) h') : w_law_cut_03a2 [.obj n, qU r, qU m, qU s] h Q E := by
  have hlen := rows_len rs
  have g2 := G.hi
  have hW := wid_n G
  have hWp := mwid_pos G
  have W' : (0 : Rat) < wid rs := Rat.intCast_pos.mpr hWp
  have W2 : (wid rs : Rat) ≠ 0 := by grind
  refine ⟨rfl, ?_⟩
  refine Br.dec (fun z => ?_) (fun z => ?_)
  · have : m = 0 := Rat.num_eq_zero.mp z
    have mo := ahF_mono G le
    have q3 := q2 (by grind) h .refl
    unfold cutQ at q3
    rw [if_pos this] at q3
    exact q3
  have hne : m ≠ 0 := fun y => z (by rw [y]; rfl)
  have mp : 0 < m := by grind
  refine Opt.walk hl (lcP (xs := rowsU rs) fst2 (small (by omega)) (fun h' l => Pre.lst l hl) ?_ ?_)
  · intro x hx h' Kt l q
    obtain ⟨a, b, rfl, _⟩ := rows_mem hx
    exact q
  rw [rows_fst]
  refine sm new_lst ?_
  have l1 : Pre h (h ++ [AO.lst ((rs.map (·.1)).map U.int)]) := .app
  have hl1 := Pre.lst l1 hl
  have q1' := fun c h' l => q1 c h' (l1.trans l)
  have q2' := fun c h' l => q2 c h' (l1.trans l)
  clear q1 q2
  generalize h ++ [AO.lst ((rs.map (·.1)).map U.int)] = H at *
  refine Opt.walk hl1 (forP (fun i ρ h' => Pre H h' ∧ ∃ (a b c d f g : Option U) (mu : Rat), ρ = [some (.obj n), some (qU r), some (qU mu), some (qU s), a, b, some (.int (wid rs)), some (.int (wid (rs.take i))), c, d, f, g] ∧ 0 < mu ∧ mu = m - (ahF rs (cl r s ((wid (rs.take i) : Rat) / wid rs)) - ahF rs r) ∧ Bt k (cl r s ((wid (rs.take i) : Rat) / wid rs))) ?_ ?_ ?_)
  · refine ⟨.refl, none, none, none, none, none, none, m, rfl, mp, ?_, ?_⟩
    · have e0 : ((wid (rs.take 0) : Int) : Rat) / wid rs = 0 := by simp [wid]; grind
      rw [e0, cl_le hr.lo]
      grind
    · have e0 : ((wid (rs.take 0) : Int) : Rat) / wid rs = 0 := by simp [wid]; grind
      rw [e0, cl_le hr.lo]; exact hr.b
  · rintro i x ρ' h' hx ⟨lp, a, b, c, d, f, g, mu, rfl, mu0, emu, bcl⟩
    have hl2 := Pre.lst lp hl1
    refine ⟨hl2, ?_⟩
    have hi : i < rs.length := by have := (List.getElem?_eq_some_iff.mp hx).1; rwa [rows_len] at this
    rw [rows_at hi] at hx
    cases hx
    have hm' := List.getElem_mem hi
    obtain ⟨w, v', hwv⟩ : ∃ w v, rs[i] = (w, v) := ⟨_, _, rfl⟩
    rw [hwv] at hm' ⊢
    have gw := G.w _ hm'
    have gv := G.v _ hm'
    dsimp only at gw gv
    have et : rs.take (i + 1) = rs.take i ++ [(w, v')] := by rw [List.take_add_one, List.getElem?_eq_getElem hi, hwv]; rfl
    have ew : wid (rs.take (i + 1)) = wid (rs.take i) + w := by rw [et]; simp [wid]
    have hrow : rs[i]? = some (w, v') := by rw [List.getElem?_eq_getElem hi, hwv]
    have hlt7 : (rs.take i).length ≤ 7 := by rw [List.length_take]; omega
    have hb0 := mwid_b (rs.take i) (by omega) (fun x hx => G.w x (List.mem_of_mem_take hx))
    have bmu : Bt (m' + (k + 43 + (k + 43) + 1) + 1) mu := by rw [emu]; exact hm.sub ((ahF_bt G bcl).sub (ahF_bt G hr.b))
    refine Opt.mk rfl ?_
    refine ⟨by show 2 ≤ sizeLine; decide, ⟨by show 2 ≤ sizeLine; decide, ?_⟩⟩
    have F1 : Fq k (.tup [.int (wid (rs.take i)), .int (wid rs)]) ((wid (rs.take i) : Rat) / wid rs) := (Fq.mk' (k := 13) hWp (by omega) hW).mono k13
    have F2 : Fq k (.tup [.int (wid (rs.take i) + w), .int (wid rs)]) (((wid (rs.take i) + w : Int) : Rat) / wid rs) := (Fq.mk' (k := 13) hWp (by omega) hW).mono k13
    have F2' : Fq k (.tup [.int (wid (rs.take i) + w), .int (wid rs)]) (((wid (rs.take i) : Rat) + w) / wid rs) := by have := F2; push_cast at this; exact this
    have w' : (0 : Rat) < w := Rat.intCast_pos.mpr (by omega)
    have hab : (wid (rs.take i) : Rat) / wid rs ≤ ((wid (rs.take i) : Rat) + w) / wid rs := by
      refine Rat.not_lt.mp fun z => ?_
      have := Rat.mul_lt_mul_of_pos_right z W'
      rw [Rat.div_mul_cancel W2, Rat.div_mul_cancel W2] at this
      grind
    have ew2 : ((wid (rs.take (i + 1)) : Int) : Rat) / wid rs = ((wid (rs.take i) : Rat) + w) / wid rs := by rw [ew]; push_cast; rfl
    have bcl' : Bt k (cl r s (((wid (rs.take i) : Rat) + w) / wid rs)) := cl_bt hr.b hs.b F2'.bt
    have tail : ∀ (lu hu' : U) (lr hr' : Rat), Fq k lu lr → Fq k hu' hr' → lr = (if (wid (rs.take i) : Rat) / wid rs < r then r else (wid (rs.take i) : Rat) / wid rs) → hr' = (if s < ((wid (rs.take i) : Rat) + w) / wid rs then s else ((wid (rs.take i) : Rat) + w) / wid rs) →
      (sIf (aB (aCall w_law_less_5e3f [] (aCons (aVar 8) (aCons (aVar 9) aNil)))) (sSeq (sSet 10 (aCall w_law_worth_3dd4 [] (aCons (aVar 0) (aCons (aVar 8) (aCons (aVar 9) aNil)))))
    (sSeq (sIf (aNotT (aB (aCall w_law_less_5e3f [] (aCons (aVar 10) (aCons (aVar 2) aNil))))) (sSeq (sSet 11 (aOp uMul (aOp uIx (aVar 2) (aC (.int 0))) (aVar 4)))
    (sRet (aCall w_law_plus_7700 [] (aCons (aVar 8) (aCons (aCall w_law_low_35aa [] (aCons (aVar 11) (aCons (aOp uMul (aOp uMul (aOp uIx (aVar 2) (aC (.int 1))) (aVar 5)) (aVar 6)) aNil))) aNil))))) sNext)
    (sSet 2 (aCall w_law_plus_7700 [] (aCons (aVar 2) (aCons (aTup (aCons (aUn uNeg (aOp uIx (aVar 10) (aC (.int 0)))) (aCons (aOp uIx (aVar 10) (aC (.int 1))) aNil))) aNil)))))) sNext)
      (fun ρ h'_1 => Pre H h'_1 ∧ ∃ (a b c d f g : Option U) (mu : Rat), ρ = [some (.obj n), some (qU r), some (qU mu), some (qU s), a, b, some (.int (wid rs)), some (.int (wid (rs.take (i + 1)))), c, d, f, g] ∧ 0 < mu ∧ mu = m - (ahF rs (cl r s ((wid (rs.take (i + 1)) : Rat) / wid rs)) - ahF rs r) ∧ Bt k (cl r s ((wid (rs.take (i + 1)) : Rat) / wid rs))) Q (fun _ _ => False) (fun _ _ => False) (fun _ => E)
      [some (.obj n), some (qU r), some (qU mu), some (qU s), some (.int w), some (.int v'), some (.int (wid rs)), some (.int (wid (rs.take i) + w)), some lu, some hu', f, g] h' := fun lu hu' lr hr' f1 f2 e1 e3 => by
      rw [ew2, ew]
      refine t_lessF f1 f2 (by omega) (by omega) (Br.dec (fun c => ?_) (fun c => ?_))
      · rw [e1, e3] at c
        obtain ⟨c1, c2⟩ := cl_some le hab c
        rw [← e1, ← e3] at c
        rw [← e1] at c1
        rw [← e3] at c2
        rw [c1] at emu
        refine t_lworth hl2 G f1 f2 e k13 (Rat.le_of_lt c) fun h2 l2 => ?_
        have bth := (ahF_bt (rs := rs) G f2.bt).sub (ahF_bt (rs := rs) G f1.bt)
        refine t_lessF (Fq.of bth) (Fq.of bmu) (by omega) (by omega) ?_
        refine Br.ndec (fun c' => ?_) (fun c' => ?_)
        · have c'' := c'
          rw [c2]
          refine ⟨by show 2 ≤ sizeLine; decide, ?_⟩
          refine t_plusF (Fq.of bmu) (Fq.neg bth) (by omega) (by omega) ?_
          have emu2 : mu + -(ahF rs hr' - ahF rs lr) = m - (ahF rs hr' - ahF rs r) := by rw [emu]; grind
          exact ⟨lp.trans l2, _, _, _, _, _, _, _, rfl, by grind, emu2, f2.bt⟩
        · have c'' : mu ≤ ahF rs hr' - ahF rs lr := Rat.not_lt.mp c'
          have cb := cl_b (a := (wid (rs.take i) : Rat) / wid rs) le
          have lo0 : (wid (rs.take i) : Rat) / wid rs ≤ lr := by rw [e1]; split <;> grind
          have hi0 : hr' ≤ ((wid (rs.take i) : Rat) + w) / wid rs := by rw [e3]; split <;> grind
          have rl : r ≤ lr := by rw [e1]; split <;> grind
          have hs0 : hr' ≤ s := by rw [e3]; split <;> grind
          obtain ⟨v0, ecut, mle⟩ := cut_found G hrow le mp lo0 c hi0 rl hs0 emu mu0 c''
          have t1 : (mu.num * w).natAbs < 2 ^ (m' + (k + 43 + (k + 43) + 1) + 1 + 10) := by rw [Int.natAbs_mul]; exact mul_lt_pow bmu.n (by omega)
          have t2 : ((mu.den : Int) * v').natAbs < 2 ^ (m' + (k + 43 + (k + 43) + 1) + 1 + 30) := by rw [Int.natAbs_mul]; exact mul_lt_pow (dn bmu) (by omega)
          have t3 : ((mu.den : Int) * v' * wid rs).natAbs < 2 ^ (m' + (k + 43 + (k + 43) + 1) + 1 + 30 + 13) := by rw [Int.natAbs_mul]; exact mul_lt_pow t2 hW
          have md : (0 : Int) < mu.den := by have := mu.den_nz; omega
          have t4 : 0 < (mu.den : Int) * v' * wid rs := Int.mul_pos (Int.mul_pos md v0) hWp
          have bq : Bt (m' + (k + 43 + (k + 43) + 1) + 1 + 30 + 13) (Rat.divInt (mu.num * w) ((mu.den : Int) * v' * wid rs)) := .div (by omega) (Nat.lt_of_lt_of_le t1 (Nat.pow_le_pow_right (by decide) (by omega))) t3
          refine ⟨mulOk bmu.n (k := 10) (by omega) (by omega) (by decide), ?_⟩
          refine ⟨mulOk (dn bmu) (k := 30) (by omega) (by omega) (by decide), mulOk t2 hW (by omega) (by decide), t_low (by omega) (log_pow t3 (by omega) (by omega)) ?_⟩
          refine t_plusF f1 (Fq.of bq) (by omega) (by omega) ?_
          rw [cut_div v0 hWp, ecut]
          exact q2' mle _ (lp.trans l2)
      · rw [e1, e3] at c
        have c1 := cl_none le hab c
        rw [c1] at emu
        exact ⟨lp, _, _, _, _, _, _, mu, rfl, mu0, emu, bcl'⟩
    refine t_lessF F1 (Fq.of hr.b) (by omega) (by omega) (Br.dec (fun c1 => ?_) (fun c1 => ?_))
    · refine t_lessF (Fq.of hs.b) F2' (by omega) (by omega) (Br.dec (fun c2 => ?_) (fun c2 => ?_))
      · exact tail _ _ _ _ (Fq.of hr.b) (Fq.of hs.b) (by rw [if_pos c1]) (by rw [if_pos c2])
      · exact tail _ _ _ _ (Fq.of hr.b) F2' (by rw [if_pos c1]) (by rw [if_neg c2])
    · refine t_lessF (Fq.of hs.b) F2' (by omega) (by omega) (Br.dec (fun c2 => ?_) (fun c2 => ?_))
      · exact tail _ _ _ _ F1 (Fq.of hs.b) (by rw [if_neg c1]) (by rw [if_pos c2])
      · exact tail _ _ _ _ F1 F2' (by rw [if_neg c1]) (by rw [if_neg c2])
  · rintro ρ' h' ⟨lp, a, b, c, d, f, g, mu, rfl, mu0, emu, bcl⟩
    refine ⟨Pre.lst lp hl1, ?_⟩
    refine q1' ?_ _ lp
    rw [hlen, List.take_length] at emu
    have e1 : (wid rs : Rat) / wid rs = 1 := by grind
    have e3 : cl r s 1 = s := by
      have := hs.hi
      have := hr.lo
      unfold cl
      split <;> grind
    rw [e1, e3] at emu
    grind
end
end K

namespace K
open PySem L2
section
variable {h : AH} {Q : UQ} {E : XQ} {r s : Rat} {j k : Nat} {u v : U}
theorem frac01 {a b : Int} (hb : 0 < b) (h0 : 0 ≤ a) (h1 : a ≤ b) : 0 ≤ Rat.divInt a b ∧ Rat.divInt a b ≤ 1 := by
  rw [Rat.divInt_eq_div]
  have hb' : (0 : Rat) < b := Rat.intCast_pos.mpr hb
  have hb2 : (b : Rat) ≠ 0 := by grind
  have e := Rat.div_mul_cancel (a := (a : Rat)) hb2
  have a0 : (0 : Rat) ≤ a := by exact_mod_cast h0
  have a1 : (a : Rat) ≤ b := by exact_mod_cast h1
  generalize (a : Rat) / b = x at *
  constructor
  · refine Rat.not_lt.mp fun z => ?_
    have := Rat.mul_lt_mul_of_pos_right z hb'
    grind
  · refine Rat.not_lt.mp fun z => ?_
    have := Rat.mul_lt_mul_of_pos_right z hb'
    grind
theorem t_placeB {b g s' : Nat} {D : Int} (B : BoxB h b g s' D) (hD : D ≤ 999000) (q : ∀ (r : Rat) (h' : AH), Pl 41 r → Lat (BG b g) h h' → BoxB h' b g s' (D + 3) → Q (qU r) h') : w_law_place_31c3 [.obj b] h Q E := by
  have p12 : (10 : Int) ^ (Int.toNat 12) = 1000000000000 := by decide
  refine ⟨rfl, ⟨⟨by decide, by decide, by decide⟩, by show 4 ≤ sizeLine; decide, ?_⟩⟩
  have B' := B.pre (.app (t := [AO.lst [.int 4, .int 30, .int 1000, .int (10 ^ (Int.toNat 12))]]))
  refine t_takeB B' (by omega) (by decide) (by decide) fun r1 h1 b0 b1 l1 B1 => ?_
  have hlt := B.lt
  have e1 : lstAt h1 h.length = some [.int 4, .int 30, .int 1000, .int (10 ^ (Int.toNat 12))] := l1.lst new_lst (by omega)
  have hx : ∃ w : Int, atI [U.int 4, .int 30, .int 1000, .int (10 ^ (Int.toNat 12))] r1 = some (.int w) ∧ 1 ≤ w ∧ w ≤ 1000000000000 := by
    obtain rfl | rfl | rfl | rfl : r1 = 0 ∨ r1 = 1 ∨ r1 = 2 ∨ r1 = 3 := by omega
    · exact ⟨4, rfl, by decide, by decide⟩
    · exact ⟨30, rfl, by decide, by decide⟩
    · exact ⟨1000, rfl, by decide, by decide⟩
    · exact ⟨_, rfl, by rw [p12]; decide, by rw [p12]; decide⟩
  obtain ⟨w, ew, w0, w1⟩ := hx
  refine rd e1 ew ?_
  refine t_takeB B1 (by omega) (by omega) (log_pow (k := 41) (by omega) (by decide) (by decide)) fun r2 h2 c0 c1 l2 B2 => ?_
  refine t_takeB B2 (by omega) (by omega) (log_pow (k := 41) (by omega) (by decide) (by decide)) fun r3 h3 d0 d1 l3 B3 => ?_
  refine t_low (by omega) (log_pow (k := 41) (by omega) (by decide) (by decide)) ?_
  have fr := frac01 (a := r3) (b := 1 + r2) (by omega) (by omega) (by omega)
  exact q _ _ ⟨.div (by omega) (by omega) (by omega), fr.1, fr.2⟩ (((Lat.of .app).trans l1).trans (l2.trans l3)) (B3.mono (by omega))
theorem t_rowsBM {b g s' : Nat} {D M : Int} (M0 : 0 < M) (M8 : M ≤ 8) (B : BoxB h b g s' D) (hD : D ≤ 900000) (q : ∀ (h' : AH) (m : Nat) (rs : Rows), Lat (BG b g) h h' → h.length ≤ m → ownLst h' m = some (rowsU rs) → Good rs → (rs.length : Int) ≤ M → BoxB h' b g s' (D + 40) → Q (.obj m) h') : w_law_rows_667c [.obj b, .int M] h Q E := by
  have p9 : (10 : Int) ^ (Int.toNat 9) = 1000000000 := by decide
  refine ⟨rfl, t_takeB B (by omega) (by decide) (by decide) fun so h0 a0 a1 l0 B0 => ?_⟩
  refine t_takeB B0 (by omega) (by decide) (by decide) fun ba h1 b0 b1 l1 B1 => ?_
  refine ⟨by show 0 ≤ sizeLine; decide, ?_⟩
  have B1' := B1.pre (.app (t := [AO.lst []]))
  refine t_takeB B1' (by omega) M0 (log_pow (k := 4) (by omega) (by decide) (by decide)) fun r0 h2 c0 c1 l2 B2 => ?_
  have lt1 := B1.lt
  have lA : Lat (BG b g) h h2 := (l0.trans l1).trans ((Lat.of .app).trans l2)
  have h1l : h1.length < h2.length := by have := l2.len; simp at this; omega
  have ho2 : ownLst h2 h1.length = some [] := l2.own new_own (by omega)
  have hhl : h.length ≤ h1.length := (l0.trans l1).len
  refine ⟨by omega, by omega, ?_⟩
  refine forP (fun i ρ h' => ∃ rs : Rows, rs.length = i ∧ i ≤ (1 + r0).toNat ∧ (∃ x y z t : Option U, ρ = [some (.obj b), some (.int M), some (.int so), some (.int ba), some (.obj h1.length), x, y, z, t]) ∧ Lat (BG b g) h h' ∧ h1.length < h'.length ∧ ownLst h' h1.length = some (rowsU rs) ∧ BoxB h' b g s' (D + 3 + 3 * i) ∧ (∀ p ∈ rs, 1 ≤ p.1 ∧ p.1 ≤ 999) ∧ ∀ p ∈ rs, 0 ≤ p.2 ∧ p.2 ≤ 999999999) ?_ ?_ ?_
  · exact ⟨[], rfl, by omega, ⟨none, none, none, none, rfl⟩, lA, h1l, ho2, B2.mono (by omega), fun p hp => by simp at hp, fun p hp => by simp at hp⟩
  · rintro i x ρ' h' hx ⟨rs, hrl, hi, ⟨x1, y1, z1, t1, rfl⟩, l3, h1l', ho, B3, hw, hv⟩
    have hil : i < (1 + r0).toNat := by have := (List.getElem?_eq_some_iff.mp hx).1; unfold rngU at this; simp at this; omega
    have hi8 : i < 8 := by omega
    refine ⟨trivial, Opt.mk rfl ?_⟩
    refine ⟨by show 4 ≤ sizeLine; decide, ?_⟩
    have hsx : ∃ w v : Int, atI [U.int 1, .int 4, .int 30, .int 999] so = some (.int w) ∧ atI [U.int 4, .int 10, .int 1000, .int (10 ^ (Int.toNat 9))] so = some (.int v) ∧ 1 ≤ w ∧ w ≤ 999 ∧ 1 ≤ v ∧ v ≤ 1000000000 := by
      obtain rfl | rfl | rfl | rfl : so = 0 ∨ so = 1 ∨ so = 2 ∨ so = 3 := by omega
      · exact ⟨1, 4, rfl, rfl, by decide, by decide, by decide, by decide⟩
      · exact ⟨4, 10, rfl, rfl, by decide, by decide, by decide, by decide⟩
      · exact ⟨30, 1000, rfl, rfl, by decide, by decide, by decide, by decide⟩
      · exact ⟨999, _, rfl, rfl, by decide, by decide, by rw [p9]; decide, by rw [p9]; decide⟩
    obtain ⟨w, v, ew, ev, w0, w1, v0, v1⟩ := hsx
    refine rd new_lst ew ?_
    have B3' := B3.pre (.app (t := [AO.lst [.int 1, .int 4, .int 30, .int 999]]))
    refine t_takeB B3' (by omega) (by omega) (log_pow (k := 30) (by omega) (by decide) (by decide)) fun r3 h3 d0 d1 l4 B4 => ?_
    refine ⟨⟨by decide, by decide, by decide⟩, by show 4 ≤ sizeLine; decide, ?_⟩
    refine rd new_lst ev ?_
    have B4' := B4.pre (.app (t := [AO.lst [.int 4, .int 10, .int 1000, .int (10 ^ (Int.toNat 9))]]))
    refine t_takeB B4' (by omega) (by omega) (log_pow (k := 31) (by omega) (by decide) (by decide)) fun r4 h4 f0 f1 l5 B5 => ?_
    have lt3 := B3.lt
    have l34 : Lat (BG b g) h' h4 := ((Lat.of .app).trans l4).trans ((Lat.of .app).trans l5)
    have ho4 : ownLst h4 h1.length = some (rowsU rs) := l34.own ho (by omega)
    have h14 : h1.length < h4.length := own_lt ho4
    have tail : ∀ (u : Int) (h5 : AH), 0 ≤ u → u ≤ 999999999 → Lat (BG b g) h4 h5 → BoxB h5 b g s' (D + 3 + 3 * i + 3) → (sDrop (aBm uAppend (aVar 4) (aCons (aTup (aCons (aVar 6) (aCons (aVar 7) aNil))) aNil))) (fun ρ h' => ∃ rs : Rows, rs.length = i + 1 ∧ i + 1 ≤ (1 + r0).toNat ∧ (∃ x y z t : Option U, ρ = [some (.obj b), some (.int M), some (.int so), some (.int ba), some (.obj h1.length), x, y, z, t]) ∧ Lat (BG b g) h h' ∧ h1.length < h'.length ∧ ownLst h' h1.length = some (rowsU rs) ∧ BoxB h' b g s' (D + 3 + 3 * (i + 1 : Nat)) ∧ (∀ p ∈ rs, 1 ≤ p.1 ∧ p.1 ≤ 999) ∧ ∀ p ∈ rs, 0 ≤ p.2 ∧ p.2 ≤ 999999999) Q (fun _ _ => False) (fun _ _ => False) (fun _ => E) [some (.obj b), some (.int M), some (.int so), some (.int ba), some (.obj h1.length), some x, some (.int (1 + r3)), some (.int u), t1] h5 := fun u h5 u0 u1 l6 B6 => by
      have ho5 := l6.own ho4 (by omega)
      refine ⟨⟨_, own_lst ho5⟩, ⟨by show 2 ≤ sizeLine; decide, ?_⟩⟩
      refine Opt.mk ho5 ⟨small (by rw [rows_len]; omega), rs ++ [(1 + r3, u)], by simp [hrl], by omega, ⟨_, _, _, _, rfl⟩, ?_, ?_, ?_, ?_, ?_, ?_⟩
      · exact Lat.setNew ((l3.trans l34).trans l6) hhl
      · rw [List.length_set]; exact own_lt ho5
      · rw [set_own (own_lt ho5), ← rows_app]
      · exact (B6.lat (S := (· = h1.length)) (.set rfl) (by omega) (by omega) (by omega)).mono (by omega)
      · intro p hp
        rcases List.mem_append.1 hp with z | z
        · exact hw p z
        · rw [List.mem_singleton] at z; subst z; exact ⟨by show 1 ≤ 1 + r3; omega, by show 1 + r3 ≤ 999; omega⟩
      · intro p hp
        rcases List.mem_append.1 hp with z | z
        · exact hv p z
        · rw [List.mem_singleton] at z; subst z; exact ⟨u0, u1⟩
    refine Br.dec (fun hz => ?_) (fun hz => ?_)
    · refine t_takeB B5 (by omega) (by decide) (by decide) fun r5 h5 g0 g1' l6 B6 => ?_
      refine Br.dec (fun hy => ?_) (fun hy => ?_)
      · exact tail 0 h5 (by omega) (by omega) l6 (B6.mono (by omega))
      · exact tail r4 h5 (by omega) (by omega) l6 (B6.mono (by omega))
    · exact tail r4 h4 (by omega) (by omega) .refl (B5.mono (by omega))
  · rintro ρ' h' ⟨rs, hrl, hi, ⟨x1, y1, z1, t1, rfl⟩, l3, h1l', ho, B3, hw, hv⟩
    have er : (rngU 0 (1 + r0)).length = (1 + r0).toNat := by unfold rngU; simp
    rw [er] at hrl
    have r8 : rs.length ≤ 8 := by omega
    refine ⟨trivial, Opt.walk (own_lst ho) (lcP (xs := rowsU rs) snd2 (small (by rw [rows_len]; omega)) (fun h' l => Pre.lst l (own_lst ho)) ?_ ?_)⟩
    · intro x hx h' Kt l q
      obtain ⟨a, b, rfl, _⟩ := rows_mem hx
      exact q
    rw [rows_snd]
    refine sm new_lst ?_
    have l4 : Pre h' (h' ++ [AO.lst ((rs.map (·.2)).map U.int)]) := .app
    have ho4 := Pre.own l4 ho
    have B4 : BoxB (h' ++ [AO.lst ((rs.map (·.2)).map U.int)]) b g s' (D + 27) := (B3.pre l4).mono (by rw [er]; omega)
    have lt3 := B3.lt
    refine Br.dec (fun hz => ?_) (fun hz => ?_)
    · refine ln (own_lst ho4) ?_
      refine t_takeB B4 (by omega) (by rw [rows_len]; omega) (log_pow (k := 4) (by rw [rows_len]; omega) (by decide) (by decide)) fun r5 h5 g0 g1' l5 B5 => ?_
      rw [rows_len] at g1'
      have ho5 := l5.own ho4 (by omega)
      have hr5 : r5.toNat < rs.length := by omega
      refine rd (own_lst ho5) (atI_of g0 (rows_ix hr5)) ?_
      refine t_takeB B5 (by omega) (by decide) (by decide) fun r6 h6 i0 i1 l6 B6 => ?_
      have ho6 := l6.own ho5 (by omega)
      refine ⟨(by show 2 ≤ sizeLine; decide), ?_⟩
      refine wr ho6 (j := r5.toNat) (by unfold ixN; rw [if_pos g0, if_pos (by rw [rows_len]; omega)]) ?_
      have e7 : (rowsU rs).set r5.toNat (.tup [.int rs[r5.toNat].1, .int (1 + r6)]) = rowsU (rs.set r5.toNat (rs[r5.toNat].1, 1 + r6)) := rows_set rs _ (rs[r5.toNat].1, 1 + r6)
      refine q _ h1.length (rs.set r5.toNat (rs[r5.toNat].1, 1 + r6)) ?_ hhl ?_ ⟨by rw [List.length_set]; omega, by rw [List.length_set]; omega, ?_, ?_, (rs[r5.toNat].1, 1 + r6), ?_, by show 0 < 1 + r6; omega⟩ (by rw [List.length_set]; omega) ?_
      · exact Lat.setNew ((l3.trans (Lat.of l4)).trans (l5.trans l6)) hhl
      · rw [set_own (own_lt ho6), e7]
      · intro p hp
        rcases List.mem_or_eq_of_mem_set hp with z | z
        · exact hw p z
        · subst z; have z := hw _ (List.getElem_mem hr5); exact z
      · intro p hp
        rcases List.mem_or_eq_of_mem_set hp with z | z
        · exact hv p z
        · subst z; exact ⟨by show 0 ≤ 1 + r6; omega, by show 1 + r6 ≤ 999999999; omega⟩
      · exact List.mem_set hr5 _
      · exact (B6.lat (S := (· = h1.length)) (.set rfl) (by omega) (by omega) (by omega)).mono (by omega)
    · exact q _ h1.length rs (l3.trans (Lat.of l4)) hhl ho4 ⟨by omega, r8, hw, hv, pos_of_sum (fun p hp => (hv p hp).1) hz⟩ (by omega) (B4.mono (by omega))
theorem t_rowsB {b g s' : Nat} {D : Int} (B : BoxB h b g s' D) (hD : D ≤ 900000) (q : ∀ (h' : AH) (m : Nat) (rs : Rows), Lat (BG b g) h h' → h.length ≤ m → ownLst h' m = some (rowsU rs) → Good rs → BoxB h' b g s' (D + 40) → Q (.obj m) h') : w_law_rows_667c [.obj b, .int 8] h Q E :=
  t_rowsBM (by decide) (by decide) B hD fun h' m rs l hm ho G _ B => q h' m rs l hm ho G B
end
end K

namespace K
open PySem L2
section
variable {h : AH} {Q : UQ} {E : XQ} {r s : Rat} {j k : Nat} {u v : U}
theorem Pl.mono (p : Pl j r) (e : j ≤ k) : Pl k r := ⟨p.b.mono e, p.lo, p.hi⟩
end
end K

namespace K
open PySem L2
section
variable {h : AH} {Q : UQ} {E : XQ} {r s : Rat} {j k : Nat} {u v : U}
def geF : U → Option U
  | .int c => if c ≥ 10 ^ (Int.toNat 18) then some (.int c) else none
  | _ => none
def ltF : U → Option U
  | .int c => if c < 10 ^ (Int.toNat 18) then some (.int c) else none
  | _ => none
theorem geF_all : ∀ ns : List Int, ∃ ms : List Int, (ns.map U.int).filterMap geF = ms.map U.int
  | [] => ⟨[], rfl⟩
  | c :: ns => by
    obtain ⟨ms, e⟩ := geF_all ns
    rw [List.map_cons, List.filterMap_cons, e]
    by_cases z : c ≥ 10 ^ (Int.toNat 18)
    · have : geF (.int c) = some (.int c) := if_pos z
      rw [this]; exact ⟨c :: ms, rfl⟩
    · have : geF (.int c) = none := if_neg z
      rw [this]; exact ⟨ms, rfl⟩
theorem ltF_all : ∀ ns : List Int, ∃ ms : List Int, (ns.map U.int).filterMap ltF = ms.map U.int
  | [] => ⟨[], rfl⟩
  | c :: ns => by
    obtain ⟨ms, e⟩ := ltF_all ns
    rw [List.map_cons, List.filterMap_cons, e]
    by_cases z : c < 10 ^ (Int.toNat 18)
    · have : ltF (.int c) = some (.int c) := if_pos z
      rw [this]; exact ⟨c :: ms, rfl⟩
    · have : ltF (.int c) = none := if_neg z
      rw [this]; exact ⟨ms, rfl⟩
theorem t_boxB {sc : Nat} {ns : List Int} (hsc : lstAt h sc = some (ns.map U.int)) (hn : ns.length ≤ 1000) (q : ∀ (b g s' : Nat) (h' : AH), BoxB h' b g s' 0 → Pre h h' → h.length ≤ b → h.length ≤ g → Q (.obj b) h') : w_law_box_1502 [.obj sc] h Q E := by
  obtain ⟨gs, eg⟩ := geF_all ns
  obtain ⟨ss, es⟩ := ltF_all ns
  refine ⟨rfl, Opt.walk hsc (lcP (xs := ns.map U.int) geF (small (by rw [List.length_map]; omega)) (fun h' l => Pre.lst l hsc) ?_ ?_)⟩
  · intro x hx h' Kt l qk
    obtain ⟨c, _, rfl⟩ := List.mem_map.1 hx
    refine Opt.mk rfl ⟨⟨by decide, by decide, by decide⟩, Br.dec (fun z => ?_) (fun z => ?_)⟩
    · have : geF (.int c) = some (.int c) := if_pos z
      rw [this] at qk; exact qk
    · have : geF (.int c) = none := if_neg z
      rw [this] at qk; exact qk
  rw [eg]
  have l1 : Pre h (h ++ [AO.lst (gs.map U.int)]) := .app
  have hs1 := Pre.lst l1 hsc
  have o1 : ownLst (h ++ [AO.lst (gs.map U.int)]) h.length = some (gs.map U.int) := new_own
  have n1 : (h ++ [AO.lst (gs.map U.int)]).length = h.length + 1 := by simp
  generalize h ++ [AO.lst (gs.map U.int)] = H at *
  refine Opt.walk hs1 (lcP (xs := ns.map U.int) ltF (small (by rw [List.length_map]; omega)) (fun h' l => Pre.lst l hs1) ?_ ?_)
  · intro x hx h' Kt l qk
    obtain ⟨c, _, rfl⟩ := List.mem_map.1 hx
    refine Opt.mk rfl ⟨⟨by decide, by decide, by decide⟩, Br.dec (fun z => ?_) (fun z => ?_)⟩
    · have : ltF (.int c) = some (.int c) := if_pos z
      rw [this] at qk; exact qk
    · have : ltF (.int c) = none := if_neg z
      rw [this] at qk; exact qk
  rw [es]
  refine ⟨by show 4 ≤ sizeLine; decide, ?_⟩
  have l2 : Pre H (H ++ [AO.lst (ss.map U.int)]) := .app
  have o2 := Pre.own l2 o1
  have s2 : lstAt (H ++ [AO.lst (ss.map U.int)]) H.length = some (ss.map U.int) := new_lst
  have n2 : (H ++ [AO.lst (ss.map U.int)]).length = H.length + 1 := by simp
  generalize H ++ [AO.lst (ss.map U.int)] = H2 at *
  refine q H2.length h.length H.length _ ?_ ((l1.trans l2).trans .app) (by omega) (by omega)
  refine ⟨gs, ss, 0, 0, new_own, Pre.own .app o2, Pre.lst .app s2, by omega, by omega, by omega, by decide, by decide⟩
end
end K

namespace K
open PySem L2
section
variable {h : AH} {Q : UQ} {E : XQ} {r s : Rat} {j k : Nat} {u v : U}
end
end K

namespace K
open PySem L2
/-! ### plain data: values whose likeness is that of what they stand for -/
class Pd (α : Type) where
  dec : DecidableEq α
  u : α → U
  d : α → PyData
  dp : Nat
  dat : ∀ (h : AH) (a : α) (n : Nat), dp + 1 ≤ n → L2.dat h n (u a) = some (d a)
  lay : ∀ a, PyData.canLay0 (d a) = true
  dep : ∀ a, PyData.depth (d a) ≤ dp
  eqv : ∀ a b, PyData.eqv (d a) (d b) = decide (a = b)
instance {α : Type} [p : Pd α] : DecidableEq α := p.dec
theorem dec_and {p q : Prop} [Decidable p] [Decidable q] : (decide p && decide q) = decide (p ∧ q) := by
  by_cases a : p <;> by_cases b : q <;> simp [a, b]
instance : Pd Int where
  dec := inferInstance
  u := U.int
  d := PyData.int
  dp := 0
  dat := fun h a n hn => by cases n with
    | zero => omega
    | succ n => rfl
  lay := fun _ => rfl
  dep := fun _ => Nat.le_refl _
  eqv := fun a b => by simp only [PyData.eqv]; rfl
instance : Pd Bool where
  dec := inferInstance
  u := U.bl
  d := PyData.bool
  dp := 0
  dat := fun h a n hn => by cases n with
    | zero => omega
    | succ n => rfl
  lay := fun _ => rfl
  dep := fun _ => Nat.le_refl _
  eqv := fun a b => by cases a <;> cases b <;> rfl
instance : Pd Rat where
  dec := inferInstance
  u := qU
  d := dQ
  dp := 1
  dat := fun h a n hn => by
    obtain ⟨m, rfl⟩ : ∃ m, n = m + 2 := ⟨n - 2, by omega⟩
    exact dat_q m a
  lay := fun _ => rfl
  dep := fun _ => by show PyData.depth (.tuple [.int _, .int _]) ≤ 1; simp [PyData.depth, PyData.depthAll]
  eqv := eqv_q
instance {α β : Type} [p : Pd α] [q : Pd β] : Pd (α × β) where
  dec := inferInstance
  u := fun x => .tup [p.u x.1, q.u x.2]
  d := fun x => .tuple [p.d x.1, q.d x.2]
  dp := max p.dp q.dp + 1
  dat := fun h a n hn => by
    obtain ⟨m, rfl⟩ : ∃ m, n = m + 1 := ⟨n - 1, by omega⟩
    have e1 := p.dat h a.1 m (by omega)
    have e2 := q.dat h a.2 m (by omega)
    show (datL (L2.dat h m) [p.u a.1, q.u a.2]).map PyData.tuple = _
    simp only [datL, e1, e2, Option.map]
  lay := fun a => by simp only [PyData.canLay0, PyData.canLayAll0, p.lay, q.lay]; rfl
  dep := fun a => by
    have := p.dep a.1
    have := q.dep a.2
    simp only [PyData.depth, PyData.depthAll]; omega
  eqv := fun a b => by
    simp only [PyData.eqv, PyData.eqvAll, p.eqv, q.eqv, Bool.and_true]
    rw [dec_and, decide_eq_decide]
    exact ⟨fun z => Prod.ext z.1 z.2, fun z => by rw [z]; exact ⟨rfl, rfl⟩⟩
section
variable {h : AH}
theorem ad {i j g : Int} {k : UQ} (e : g = i + j) (q : k (.int g) h) : uAdd (.int i) (.int j) h k := by subst e; exact q
theorem brT' {b : Bool} {P P' : Prop} (e : b = true) (q : P) : Br b P P' := by subst e; exact q
theorem brF' {b : Bool} {P P' : Prop} (e : b = false) (q : P') : Br b P P' := by subst e; exact q
theorem nxt {nx : SK} {rt : UQ} {bk ct : SK} {E : EX} {ρ : SU} {h : AH} (q : nx ρ h) : sNext nx rt bk ct E ρ h := q
section
variable {Q : UQ} {E : XQ}
theorem mk_tab {n : Nat} {rs : Rows} {E : XQ} {K : AH → Prop} (hl : lstAt h n = some (rowsU rs)) (G : Good rs) (q : ∀ h', Pre h h' → IsTab h' h.length rs → K h') : w_Table_init [.obj h.length, .obj n] (h ++ [.ins "Table" []]) (fun u h2 => asN u (K h2)) E := by
  refine t_tinit (rs := rs) (by unfold insAt; rw [new_at]) (Pre.lst .app hl) G fun h3 r l3 hr c3 d3 => ?_
  refine q h3 ⟨?_, fun n hn _ => ?_⟩ ⟨r, c3, d3⟩
  · have := l3.len; simp at this; omega
  · rw [l3.old n (by simp; omega) (by omega)]
    exact List.getElem?_append_left hn
end
end
section
variable {α : Type} [p : Pd α] {h : AH} {k : UQ} {m n : Nat} {S T : List α}
theorem Pd.datL (S : List α) (hn : p.dp + 1 ≤ n) : L2.datL (L2.dat h n) (S.map p.u) = some (S.map p.d) := by
  induction S with
  | nil => rfl
  | cons a S ih => rw [List.map_cons, List.map_cons]; unfold L2.datL; rw [ih, p.dat h a n hn]
theorem Pd.layL : ∀ (S : List α), PyData.canLayAll0 (S.map p.d) = true
  | [] => rfl
  | a :: S => by rw [List.map_cons]; simp only [PyData.canLayAll0, p.lay, Pd.layL S]; rfl
theorem Pd.depL : ∀ (S : List α), PyData.depthAll (S.map p.d) ≤ p.dp
  | [] => Nat.zero_le _
  | a :: S => by
    have := p.dep a
    have := Pd.depL S
    rw [List.map_cons]; simp only [PyData.depthAll]; omega
theorem Pd.eqvL : ∀ (S T : List α), PyData.eqvAll (S.map p.d) (T.map p.d) = decide (S = T)
  | [], [] => rfl
  | [], _ :: _ => rfl
  | _ :: _, [] => rfl
  | a :: S, b :: T => by
    rw [List.map_cons, List.map_cons]
    simp only [PyData.eqvAll, p.eqv, Pd.eqvL S T]
    rw [dec_and, decide_eq_decide]
    simp
theorem Pd.shpL (S : List α) (h64 : p.dp ≤ 60) : SeqAt.shaped (.list (S.map p.d)) = true := by
  unfold SeqAt.shaped
  rw [Bool.and_eq_true]
  refine ⟨by simp only [PyData.canLay0]; exact Pd.layL S, decide_eq_true ?_⟩
  have := Pd.depL S
  simp only [PyData.depth]; omega
theorem dat_obj {xs : List U} {ds : List PyData} (e : lstAt h m = some xs) (q : L2.datL (L2.dat h n) xs = some ds) : L2.dat h (n + 1) (.obj m) = some (.list ds) := by
  show (match lstAt h m with
    | some xs => (L2.datL (L2.dat h n) xs).map PyData.list
    | none => none) = _
  rw [e]
  show (L2.datL (L2.dat h n) xs).map PyData.list = _
  rw [q]; rfl
theorem eqLt (e1 : lstAt h m = some (S.map p.u)) (e2 : lstAt h n = some (T.map p.u)) (e : S = T) (q : ∀ t, t = true → k (.bl t) h) (h7 : p.dp ≤ 7 := by decide) : uEq (.obj m) (.obj n) h k := by
  show uEqD false (.obj m) (.obj n) h k
  refine Opt.mk (dat_obj (n := 8) e1 (Pd.datL S (by omega))) (Opt.mk (dat_obj (n := 8) e2 (Pd.datL T (by omega))) ⟨Pd.shpL S (by omega), Pd.shpL T (by omega), q _ ?_⟩)
  show PyData.eqv (.list (S.map p.d)) (.list (T.map p.d)) = true
  simp only [PyData.eqv]
  rw [Pd.eqvL, decide_eq_true e]
end
end K

namespace K
open PySem L2
section
variable {h : AH} {Q : UQ} {E : XQ} {r s : Rat} {j k : Nat} {u v : U}
theorem repTail {nx bk ct : SK} {Ex : EX} {a b c d e f g i l : Option U} (hu : uNon u = false) (q : Q u h) : (sSeq (sIf (aB (aOp uIs (aVar 9) (aC .non))) (sRet (aVar 3)) sNext)
    (sRet (aVar 9))) nx Q bk ct Ex [a, b, c, d, e, f, g, i, l, some u] h := brF hu q
theorem repNone {nx bk ct : SK} {Ex : EX} {a b c e f g i l : Option U} {d : U} (hu : uNon u = true) (q : Q d h) : (sSeq (sIf (aB (aOp uIs (aVar 9) (aC .non))) (sRet (aVar 3)) sNext)
    (sRet (aVar 9))) nx Q bk ct Ex [a, b, c, some d, e, f, g, i, l, some u] h := brT hu q
end
end K

namespace K
open PySem L2
section
variable {h : AH} {Q : UQ} {E : XQ} {r s : Rat} {j k : Nat} {u v : U}
theorem dv_le {a x : Rat} {g : Int} (hg : 0 < g) : a / g ≤ x ↔ a ≤ x * g := by
  have g0 : (0 : Rat) < g := by exact_mod_cast hg
  have e : a / g * g = a := Rat.div_mul_cancel (by grind)
  have m1 := fun (p q : Rat) (z : p ≤ q) => Rat.mul_le_mul_of_nonneg_right z (show (0 : Rat) ≤ g by grind)
  constructor
  · intro z; have := m1 _ _ z; rw [e] at this; exact this
  · intro z
    refine Rat.not_lt.mp fun c => ?_
    have := Rat.mul_lt_mul_of_pos_right c g0
    rw [e] at this; grind
theorem le_dv {a x : Rat} {g : Int} (hg : 0 < g) : x ≤ a / g ↔ x * g ≤ a := by
  have g0 : (0 : Rat) < g := by exact_mod_cast hg
  have e : a / g * g = a := Rat.div_mul_cancel (by grind)
  have m1 := fun (p q : Rat) (z : p ≤ q) => Rat.mul_le_mul_of_nonneg_right z (show (0 : Rat) ≤ g by grind)
  constructor
  · intro z; have := m1 _ _ z; rw [e] at this; exact this
  · intro z
    refine Rat.not_lt.mp fun c => ?_
    have := Rat.mul_lt_mul_of_pos_right c g0
    rw [e] at this; grind
theorem sc_bt {g a : Int} (hg : 0 < g) (gb : g.natAbs < 2 ^ k) (a0 : 0 ≤ a) (a1 : a ≤ g) : Pl k ((a : Rat) / g) := by
  refine ⟨?_, ?_, ?_⟩
  · rw [← Rat.divInt_eq_div]; exact .div (by omega) (by omega) gb
  · refine (le_dv hg).mpr ?_
    have : (0 : Rat) ≤ a := by exact_mod_cast a0
    grind
  · refine (dv_le hg).mpr ?_
    have : (a : Rat) ≤ g := by exact_mod_cast a1
    grind
/-- spans drawn on a grid -/
structure Gp (g : Int) (ps : Prs) : Prop where
  v : ∀ p ∈ ps, 0 ≤ p.1 ∧ p.1 ≤ p.2 ∧ p.2 ≤ g
theorem Gp.pl {g : Int} {ps : Prs} (G : Gp g ps) (hg : 0 < g) (gb : g.natAbs < 2 ^ k) : ∀ p ∈ ps.map (scQ g), Pl k p.1 ∧ Pl k p.2 ∧ p.1 ≤ p.2 := by
  intro p hp
  obtain ⟨q, hq, rfl⟩ := List.mem_map.1 hp
  obtain ⟨h1, h2, h3⟩ := G.v q hq
  refine ⟨sc_bt hg gb h1 (by omega), sc_bt hg gb (by omega) h3, (dv_le hg).mpr ?_⟩
  have g0 : (0 : Rat) < g := by exact_mod_cast hg
  have e : (q.2 : Rat) / g * g = q.2 := Rat.div_mul_cancel (by grind)
  show (q.1 : Rat) ≤ (q.2 : Rat) / g * g
  rw [e]; exact_mod_cast h2
end
end K

namespace K
open PySem L2
section
variable {h : AH} {Q : UQ} {E : XQ} {r s : Rat} {j k : Nat} {u v : U}
end
end K

namespace K
open PySem L2
/-! ### what two lists of spans have in common -/
section
variable {h : AH} {Q : UQ} {E : XQ} {r s : Rat} {j k : Nat} {u v : U}
/-! ### sums -/
end
end K

namespace K
open PySem L2
section
variable {h : AH} {Q : UQ} {E : XQ} {r s : Rat} {j k : Nat} {u v : U}
end
end K

namespace K
open PySem L2
section
variable {h : AH} {Q : UQ} {E : XQ} {r s : Rat} {j k : Nat} {u v : U}
end
end K

namespace K
open PySem L2
section
variable {h : AH} {Q : UQ} {E : XQ} {r s : Rat} {j k : Nat} {u v : U}
end
end K

namespace K
open PySem L2
/-! ### tables of one worth: doubled, halved stretches, narrowed, turned about -/
theorem Good.pos {rs : Rows} (G : Good rs) : ∀ p ∈ rs, 0 < p.1 := fun p hp => by have := G.w p hp; omega
/-! turned about -/
end K

namespace K
open PySem L2
section
variable {h : AH} {Q : UQ} {E : XQ} {r s : Rat} {j k : Nat} {u v : U}
/-- made of rows -/
structure MadeR (rs : Rows) : Prop where
  lo : 1 ≤ rs.length
  hi : rs.length ≤ 4
  w : ∀ p ∈ rs, 1 ≤ p.1 ∧ p.1 ≤ 499
  v : ∀ p ∈ rs, 0 ≤ p.2 ∧ p.2 ≤ 499999999
  some : ∃ p ∈ rs, 0 < p.2
theorem MadeR.pos {rs : Rows} (G : MadeR rs) : ∀ p ∈ rs, 0 < p.1 := fun p hp => by have := G.w p hp; omega
end
end K

namespace K
open PySem L2
section
variable {h : AH} {Q : UQ} {E : XQ} {r s : Rat} {j k : Nat} {u v : U}
end
end K

namespace K
open PySem L2
section
variable {h : AH} {Q : UQ} {E : XQ} {r s : Rat} {j k : Nat} {u v : U}
end
end K

namespace K
open PySem L2
section
variable {h : AH} {Q : UQ} {E : XQ} {r s : Rat} {j k : Nat} {u v : U}
end
end K

namespace K
open PySem L2
def okP (p : Rat × Rat) : Prop := 0 ≤ p.1 ∧ p.2 ≤ 1 ∧ p.1 ≤ p.2
section
variable {h : AH} {Q : UQ} {E : XQ} {r s : Rat} {j k : Nat} {u v : U}
theorem okP.pl {p : Rat × Rat} (o : okP p) (b1 : Bt k p.1) (b2 : Bt k p.2) : Pl k p.1 ∧ Pl k p.2 ∧ p.1 ≤ p.2 := ⟨⟨b1, o.1, Rat.le_trans o.2.2 o.2.1⟩, ⟨b2, Rat.le_trans o.1 o.2.2, o.2.1⟩, o.2.2⟩
end
end K

namespace K
open PySem L2
section
variable {h : AH} {Q : UQ} {E : XQ} {r s : Rat} {j k : Nat} {u v : U}
end
end K

namespace K
open PySem L2
inductive AskOk : U → Prop where
  | pick {wd : Str} {who : Int} {p : Rat × Rat} {ps : Pcs} (c : wd = "trim" ∨ wd = "choose") (hp : PcK 1300 (p :: ps)) (l : (p :: ps).length ≤ 3) : AskOk (.tup [.str wd, .int who, pcU (p :: ps)])
  | even {wd : Str} {who : Int} {r s : Rat} {p : Rat × Rat} {ps : Pcs} (c : wd = "even") (hp : PcK 1300 (p :: ps)) (l : (p :: ps).length ≤ 3) (hr : Pl 1300 r) (hs : Pl 1300 s) (le : r ≤ s) : AskOk (.tup [.str wd, .int who, qU r, qU s, pcU (p :: ps)])
section
variable {h : AH} {Q : UQ} {E : XQ} {r s : Rat} {j k : Nat} {u v : U}
end
end K

namespace K
open PySem L2
section
variable {h : AH} {Q : UQ} {E : XQ} {r s : Rat} {j k : Nat} {u v : U}
def inW (wd : Str) : Bool := [PyData.str "choose", PyData.str "trim"].any fun e => PyData.eqv e (PyData.str wd)
theorem in_w {wd : Str} {k : UQ} (hs : SeqAt.shaped (.str wd) = true) (q : k (.bl (inW wd)) h) : uIn false (.str wd) (.tup [.str "choose", .str "trim"]) h k :=
  ⟨by decide +kernel, hs, q⟩
theorem body {n : Nat} {wd : Str} {rest : List U} {nx bk ct : SK} {a b c d : Option U} {tg : TTag} {nb bb ib : Bool} (hs : SeqAt.shaped (.str wd) = true) (ht : ∀ h, tyTag h u = some tg) (hnb : nb = false) (h2 : is_bool tg = some bb) (hbb : bb = false) (h4 : is_int tg = some ib) (h5 : inW wd = true → ib = true)
    (hrep : ∀ (K : UQ), (∀ h', Pre h h' → K u h') → w_law_reply_e455 [.obj n, .tup (.str wd :: rest)] h K E) (hne : ∀ (h : AH) (k : UQ), k (.bl nb) h → uNe u u h k)
    (q : ∀ h', Pre h h' → nx [a, b, some (.obj n), c, d, some (.tup (.str wd :: rest)), some u] h') : (sSeq (sIf (aOrT (aB (aOp uNe (aVar 6) (aCall w_law_reply_e455 [] (aCons (aVar 2) (aCons (aVar 5) aNil))))) (aB (aUn (uIsi is_bool) (aVar 6)))) (sRet (aC (.bl false))) sNext)
    (sIf (aAndT (aB (aOp (uIn false) (aOp uIx (aVar 5) (aC (.int 0))) (aTup (aCons (aC (.str "choose")) (aCons (aC (.str "trim")) aNil))))) (aNotT (aB (aUn (uIsi is_int) (aVar 6))))) (sRet (aC (.bl false))) sNext)) nx Q bk ct (fun _ => E) [a, b, some (.obj n), c, d, some (.tup (.str wd :: rest)), some u] h := by
  refine hrep _ fun h' l => hne _ _ ?_
  refine brF hnb ?_
  refine Opt.mk (ht _) (Opt.mk h2 ?_)
  refine brF hbb ?_
  refine Opt.mk (a := .str wd) (atI_of (by decide) rfl) ?_
  refine ⟨by show 2 ≤ sizeLine; decide, in_w hs ?_⟩
  cases ei : inW wd with
  | false => exact q h' l
  | true =>
    refine Opt.mk (ht _) (Opt.mk h4 ?_)
    have := h5 ei
    subst this
    exact q h' l
theorem shp_rows (rs : Rows) : SeqAt.shaped (dRs rs) = true := by
  unfold SeqAt.shaped
  rw [Bool.and_eq_true]
  refine ⟨by unfold dRs; simp only [PyData.canLay0]; exact lay_dR rs, decide_eq_true ?_⟩
  have := dep_dR rs
  unfold dRs
  simp only [PyData.depth]; omega
theorem eq_rows {m n : Nat} {rs : Rows} {k : UQ} (e1 : lstAt h m = some (rowsU rs)) (e2 : lstAt h n = some (rowsU rs)) (q : k (.bl true) h) : uEq (.obj m) (.obj n) h k := by
  show uEqD false (.obj m) (.obj n) h k
  refine Opt.mk (dat_rows (n := 6) e1) (Opt.mk (dat_rows (n := 6) e2) ⟨shp_rows rs, shp_rows rs, ?_⟩)
  show k (.bl (PyData.eqv (dRs rs) (dRs rs))) h
  rw [SeqAt.eqv_refl _ (SeqAt.canLay_of_shaped (shp_rows rs))]
  exact q
end
end K

namespace K
open PySem L2
section
variable {h : AH} {Q : UQ} {E : XQ}
end
end K

namespace K
open PySem L2
section
variable {h : AH} {Q : UQ} {E : XQ} {r s : Rat} {j k : Nat} {u v : U}
end
end K

namespace K
open PySem L2
/-- a cut between two statements: P holds between them -/
theorem cutP {S1 S2 : WS} {nx : SK} {rt : UQ} {bk ct : SK} {E : EX} {ρ : SU} {h : AH} (P : SK) (h1 : ∀ nx' : SK, (∀ ρ' h', P ρ' h' → nx' ρ' h') → S1 nx' rt bk ct E ρ h) (h2 : ∀ ρ' h', P ρ' h' → S2 nx rt bk ct E ρ' h') : sSeq S1 S2 nx rt bk ct E ρ h := h1 _ h2
theorem Lat.skip {S T : Nat → Prop} {h h1 h2 : AH} (a : Lat S h h1) (b : Lat T h1 h2) (w : ∀ n, T n → h.length ≤ n) : Lat S h h2 := ⟨Nat.le_trans a.len b.len, fun m hm hs => (b.old m (Nat.lt_of_lt_of_le hm a.len) (fun z => by have := w m z; omega)).trans (a.old m hm hs)⟩
theorem rng_at {m : Int} {i : Nat} {x : U} (e : (rngU 0 m)[i]? = some x) : x = .int (i : Nat) ∧ i < m.toNat := by
  have hi := (List.getElem?_eq_some_iff.mp e).1
  unfold rngU at hi e
  simp at hi
  rw [List.getElem?_map, List.getElem?_range (by omega)] at e
  have e : some (U.int (0 + (i : Nat))) = some x := e
  cases e
  exact ⟨by rw [Int.zero_add], by omega⟩
section
variable {h : AH} {Q : UQ} {E : XQ} {r s : Rat} {j k : Nat} {u v : U}
theorem neQ {x y : Rat} {k : UQ} (q : k (.bl (!decide (x = y))) h) : uNe (qU x) (qU y) h k := by
  show uEqD true (qU x) (qU y) h k
  refine Opt.mk (dat_q 7 x) (Opt.mk (dat_q 7 y) ⟨shp_q x, shp_q y, ?_⟩)
  show k (.bl (!PyData.eqv (dQ x) (dQ y))) h
  rw [eqv_q]; exact q
theorem neQF {x : Rat} {k : UQ} (q : ∀ b, b = false → k (.bl b) h) : uNe (qU x) (qU x) h k := neQ (q _ (by simp))
/-! truths told by names -/
theorem dT {b : Bool} {p : Prop} [Decidable p] (e : b = decide p) (hp : p) : b = true := by rw [e]; exact decide_eq_true hp
end
end K

namespace K
open PySem L2
/-- an ask for a cut -/
structure CutA where
  wd : Str
  who : Int
  a : Rat
  b : Rat
  c : Rat
  p : Rat
def cutAU (x : CutA) : U := .tup [.str x.wd, .int x.who, qU x.a, qU x.b, qU x.c, qU x.p]
structure CutOk (x : CutA) : Prop where
  w : x.wd = "cut"
  a : Pl 41 x.a
  b : Pl 41 x.b
  c : Pl 41 x.c
  ab : x.a ≤ x.b
  bc : x.b ≤ x.c
  p : Bt 41 x.p
  p0 : 0 ≤ x.p
/-- what is due -/
def cutM (rs : Rows) (x : CutA) : Rat := x.p * (ahF rs x.c - ahF rs x.a)
def cutV' (rs : Rows) (x : CutA) : Rat := plQ rs x.a x.b (cutM rs x)
section
variable {h : AH} {Q : UQ} {E : XQ} {r s : Rat} {j k : Nat} {u v : U}
theorem cutM_ok {rs : Rows} {x : CutA} (G : Good rs) (O : CutOk x) : Bt 400 (cutM rs x) ∧ 0 ≤ cutM rs x := by
  have bw := (ahF_bt (r := x.c) G O.c.b).sub (ahF_bt (r := x.a) G O.a.b)
  refine ⟨(O.p.mul bw).mono (by decide), ?_⟩
  have := ahF_mono G (Rat.le_trans O.ab O.bc)
  exact Rat.mul_nonneg O.p0 (by grind)
theorem t_reply_cut {t : Nat} {rs : Rows} {x : CutA} (T : IsTab h t rs) (G : Good rs) (O : CutOk x) (q : Q (qU (cutV' rs x)) h) : w_reply_by [.obj t, cutAU x] h Q E := by
  obtain ⟨l, h1, h2⟩ := T.ex
  obtain ⟨mb, m0⟩ := cutM_ok G O
  have ac := Rat.le_trans O.ab O.bc
  refine ⟨rfl, ?_⟩
  refine Br.pos O.w ?_
  refine ⟨fun z => absurd (show (2 : Nat) = 0 from z.1) (by decide), ?_⟩
  refine Opt.mk rfl ?_
  refine Opt.mk h1 ⟨rfl, Opt.mk rfl (t_worth T G O.a O.c (by decide) (by decide) ac ?_)⟩
  have bw := (ahF_bt (r := x.c) G O.c.b).sub (ahF_bt (r := x.a) G O.a.b)
  refine t_times O.p bw (by decide) (by decide) ?_
  exact t_place T G O.a O.b mb (by decide) (by decide) (by decide) (by decide) O.ab m0 q
theorem t_lreply_cut {n : Nat} {rs : Rows} {x : CutA} (hl : lstAt h n = some (rowsU rs)) (G : Good rs) (O : CutOk x) (q : ∀ h', Pre h h' → Q (qU (cutV' rs x)) h') : w_law_reply_e455 [.obj n, cutAU x] h Q E := by
  obtain ⟨mb, m0⟩ := cutM_ok G O
  have ac := Rat.le_trans O.ab O.bc
  have c0 : x.wd ≠ "trim" := by rw [O.w]; decide
  have c1 : x.wd ≠ "choose" := by rw [O.w]; decide
  refine ⟨rfl, ?_⟩
  refine Br.neg c0 ?_
  refine Br.neg c1 ?_
  refine ⟨fun z => absurd (show (2 : Nat) = 0 from z.1) (by decide), Opt.mk rfl ?_⟩
  refine Br.pos O.w ?_
  refine t_lworth hl G (Fq.of O.a.b) (Fq.of O.c.b) (by decide) (by decide) ac fun h1 l1 => ?_
  have bw := (ahF_bt (r := x.c) G O.c.b).sub (ahF_bt (r := x.a) G O.a.b)
  have hl1 := Pre.lst l1 hl
  refine ⟨mulOk bw.n O.p.n (by decide) (by decide), mulOk (dn bw) (dn O.p) (by decide) (by decide), ?_⟩
  refine t_low (Int.mul_ne_zero (den_ne _) (den_ne _)) (log_pow (k := 400) (by have := bw.mulN O.p; exact Nat.lt_of_lt_of_le this (Nat.pow_le_pow_right (by decide) (by decide))) (by decide) (by decide)) ?_
  have em : Rat.divInt ((ahF rs x.c - ahF rs x.a).num * x.p.num) (((ahF rs x.c - ahF rs x.a).den : Int) * x.p.den) = cutM rs x := by
    rw [← Rat.divInt_mul_divInt, Rat.num_divInt_den, Rat.num_divInt_den]; unfold cutM; grind
  rw [em]
  refine t_lcut hl1 G O.a O.b mb (by decide) (by decide) (by decide) (by decide) O.ab m0 (fun c h2 l2 => ?_) (fun c h2 l2 => ?_)
  · have q' := q h2 (l1.trans l2)
    unfold cutV' plQ at q'
    rw [if_pos c] at q'
    exact repNone rfl q'
  · have q' := q h2 (l1.trans l2)
    unfold cutV' plQ at q'
    rw [if_neg (Rat.not_lt.mpr c)] at q'
    exact repTail rfl q'
theorem part_at (i : Int) (h0 : 0 ≤ i) (h1 : i < 8) : ∃ r : Rat, Bt 41 r ∧ 0 ≤ r ∧ atI [U.tup [.int 0, .int 1], .tup [.int 1, .int 1], .tup [.int 1, .int 2], .tup [.int 1, .int 3], .tup [.int 2, .int 3], .tup [.int 1, .int 4], .tup [.int 3, .int 4], .tup [.int 3, .int 2]] i = some (qU r) := by
  obtain rfl | rfl | rfl | rfl | rfl | rfl | rfl | rfl : i = 0 ∨ i = 1 ∨ i = 2 ∨ i = 3 ∨ i = 4 ∨ i = 5 ∨ i = 6 ∨ i = 7 := by omega
  · exact ⟨⟨0, 1, by decide, by decide⟩, ⟨by decide, by decide⟩, by decide, rfl⟩
  · exact ⟨⟨1, 1, by decide, by decide⟩, ⟨by decide, by decide⟩, by decide, rfl⟩
  · exact ⟨⟨1, 2, by decide, by decide⟩, ⟨by decide, by decide⟩, by decide, rfl⟩
  · exact ⟨⟨1, 3, by decide, by decide⟩, ⟨by decide, by decide⟩, by decide, rfl⟩
  · exact ⟨⟨2, 3, by decide, by decide⟩, ⟨by decide, by decide⟩, by decide, rfl⟩
  · exact ⟨⟨1, 4, by decide, by decide⟩, ⟨by decide, by decide⟩, by decide, rfl⟩
  · exact ⟨⟨3, 4, by decide, by decide⟩, ⟨by decide, by decide⟩, by decide, rfl⟩
  · exact ⟨⟨3, 2, by decide, by decide⟩, ⟨by decide, by decide⟩, by decide, rfl⟩
/-- how far three places are sorted, at the turn j of the pass k -/
def Srt (x y z : Rat) (k j : Nat) : Prop := (j = 0 → 1 ≤ k → x ≤ z ∧ y ≤ z) ∧ (j = 1 → x ≤ y ∧ (1 ≤ k → y ≤ z)) ∧ (j = 2 → x ≤ z ∧ y ≤ z ∧ (1 ≤ k → x ≤ y))
theorem t_ask {b g s' : Nat} {D : Int} (B : BoxB h b g s' D) (hD : D ≤ 900000) (q : ∀ (x : CutA) (h' : AH), CutOk x → Lat (BG b g) h h' → BoxB h' b g s' (D + 20) → Q (cutAU x) h') : w_law_ask_cd95 [.obj b] h Q E := by
  refine ⟨rfl, ⟨by show 2 ≤ sizeLine; decide, by show 2 ≤ sizeLine; decide, by show 2 ≤ sizeLine; decide, by show 2 ≤ sizeLine; decide, by show 2 ≤ sizeLine; decide, by show 2 ≤ sizeLine; decide, by show 2 ≤ sizeLine; decide, by show 2 ≤ sizeLine; decide, by show 8 ≤ sizeLine; decide, ?_⟩⟩
  have lt := B.lt
  refine t_takeB (B.pre .app) (by omega) (by decide) (by decide) fun r1 h1 b0 b1 l1 B1 => ?_
  obtain ⟨p, pb, p0, pe⟩ := part_at r1 b0 b1
  have e1 : lstAt h1 h.length = some [U.tup [.int 0, .int 1], .tup [.int 1, .int 1], .tup [.int 1, .int 2], .tup [.int 1, .int 3], .tup [.int 2, .int 3], .tup [.int 1, .int 4], .tup [.int 3, .int 4], .tup [.int 3, .int 2]] := l1.lst new_lst (by omega)
  refine rd e1 pe ?_
  have L1 : Lat (BG b g) h h1 := (Lat.of .app).trans l1
  refine cutP (fun ρ' h' => ∃ p : Rat, Bt 41 p ∧ 0 ≤ p ∧ Lat (BG b g) h h' ∧ BoxB h' b g s' (D + 6) ∧ ρ' = [some (.obj b), some (qU p), none, none, none]) (fun nx' z => ?_) ?_
  · refine t_takeB B1 (by omega) (by decide) (by decide) fun r2 h2 c0 c1 l2 B2 => ?_
    have L2 := L1.trans l2
    refine Br.dec (fun c => ?_) (fun c => nxt (z _ _ ⟨p, pb, p0, L2, B2.mono (by omega), rfl⟩))
    exact t_placeB B2 (by omega) fun r h3 pr l3 B3 => z _ _ ⟨r, pr.b, pr.lo, L2.trans l3, B3.mono (by omega), rfl⟩
  clear pb p0 pe
  rintro ρ' h3 ⟨p, pb, p0, L3, B3, rfl⟩
  have lt3 := B3.lt
  have hh3 := L3.len
  -- the three places
  refine ⟨by omega, by omega, ?_⟩
  refine ⟨fun i acc h' => i ≤ 3 ∧ ∃ ps : List Rat, acc = ps.map qU ∧ ps.length = i ∧ (∀ r ∈ ps, Pl 41 r) ∧ h'[h3.length]? = some (.lst acc) ∧ Lat (BG b g) h3 h' ∧ BoxB h' b g s' (D + 6 + 3 * i), ⟨by omega, [], rfl, rfl, fun r hr => by simp at hr, new_at, .of .app, (B3.pre .app).mono (by omega)⟩, ?_, ?_⟩
  · rintro i x acc h' hx ⟨hi, ps, rfl, hpl, hp, ho, l4, B4⟩
    have hil : i < 3 := by have := (List.getElem?_eq_some_iff.mp hx).1; unfold rngU at this; simp at this; omega
    refine ⟨trivial, ho, small (by rw [List.length_map]; omega), Opt.mk rfl ?_⟩
    refine t_placeB B4 (by omega) fun r h5 pr l5 B5 => ?_
    have ho5 := l5.at ho (by omega)
    refine ⟨ho5, by omega, ps ++ [r], by simp, by simp [hpl], fun w hw => ?_, ?_, Lat.setNew (l4.trans l5) (Nat.le_refl _), ?_⟩
    · rcases List.mem_append.1 hw with z | z
      · exact hp w z
      · rw [List.mem_singleton] at z; subst z; exact pr
    · rw [List.getElem?_set_self (at_lt ho5)]
    · exact (B5.lat (S := (· = h3.length)) (.set rfl) (by omega) (by omega) (by omega)).mono (by omega)
  · rintro acc h4 ⟨hi, ps, rfl, hpl, hp, ho, l4, B4⟩
    refine ⟨trivial, ?_⟩
    have e3 : (rngU 0 3).length = 3 := rfl
    rw [e3] at hpl
    obtain ⟨x, y, z, rfl⟩ : ∃ x y z, ps = [x, y, z] := by
      match ps, hpl with
      | [x, y, z], _ => exact ⟨x, y, z, rfl⟩
    have B4' : BoxB h4 b g s' (D + 15) := B4.mono (by rw [e3]; omega)
    have L4 : Lat (BG b g) h h4 := L3.trans l4
    have hx := hp x (by simp)
    have hy := hp y (by simp)
    have hz := hp z (by simp)
    have own4 : ownLst h4 h3.length = some [qU x, qU y, qU z] := by unfold ownLst; rw [ho]; rfl
    generalize hn : h3.length = n at *
    have ng : ¬ BG b g n := by omega
    have l5 : Lat (BG b g) h h4 := L4
    refine ⟨by omega, by omega, ?_⟩
    refine forP (fun kk ρ h' => kk ≤ 2 ∧ ∃ (x y z : Rat) (o2 o4 : Option U), ρ = [some (.obj b), some (qU p), o2, some (.obj n), o4] ∧ Pl 41 x ∧ Pl 41 y ∧ Pl 41 z ∧ ownLst h' n = some [qU x, qU y, qU z] ∧ Lat (· = n) h4 h' ∧ Srt x y z (kk - 1) (if kk = 0 then 0 else 2)) ?_ ?_ ?_
    · exact ⟨by omega, x, y, z, _, _, rfl, hx, hy, hz, own4, .refl, ⟨fun _ z => by omega, fun z => by simp at z, fun z => by simp at z⟩⟩
    · rintro kk w ρ' h' hw ⟨hk, x, y, z, o2, o4, rfl, hx, hy, hz, ho, lk, S⟩
      obtain ⟨rfl, hk2⟩ := rng_at hw
      refine ⟨trivial, Opt.mk rfl ?_⟩
      refine ⟨by omega, by omega, ?_⟩
      refine forP (fun jj ρ h' => jj ≤ 2 ∧ ∃ (x y z : Rat) (o4 : Option U), ρ = [some (.obj b), some (qU p), some (.int (kk : Nat)), some (.obj n), o4] ∧ Pl 41 x ∧ Pl 41 y ∧ Pl 41 z ∧ ownLst h' n = some [qU x, qU y, qU z] ∧ Lat (· = n) h4 h' ∧ Srt x y z kk jj) ?_ ?_ ?_
      · refine ⟨by omega, x, y, z, _, rfl, hx, hy, hz, ho, lk, ⟨fun _ k1 => ?_, fun z => by simp at z, fun z => by simp at z⟩⟩
        obtain ⟨_, _, S3⟩ := S
        have := S3 (by rw [if_neg (by omega)])
        exact ⟨this.1, this.2.1⟩
      · rintro jj w ρ' h' hw ⟨hj, x, y, z, o4, rfl, hx, hy, hz, ho, lk, S⟩
        obtain ⟨rfl, hj2⟩ := rng_at hw
        refine ⟨trivial, Opt.mk rfl ?_⟩
        obtain ⟨S1, S2, S3⟩ := S
        have hlt := own_lt ho
        match jj, hj2 with
        | 0, _ =>
          refine ad (g := 1) rfl ?_
          refine rd (i := 1) (own_lst ho) (u := qU y) (atI_of (by decide) rfl) ?_
          refine rd (i := ((0 : Nat) : Int)) (own_lst ho) (u := qU x) (atI_of (by decide) rfl) ?_
          refine t_lessF (Fq.of hy.b) (Fq.of hx.b) (by decide) (by decide) (Br.dec (fun c => ?_) (fun c => ?_))
          · refine ad (g := 1) rfl ?_
            refine rd (i := 1) (own_lst ho) (u := qU y) (atI_of (by decide) rfl) ?_
            refine rd (i := ((0 : Nat) : Int)) (own_lst ho) (u := qU x) (atI_of (by decide) rfl) ⟨by show 2 ≤ sizeLine; decide, ?_⟩
            refine wr (j := 0) ho rfl ?_
            refine ad (g := 1) rfl ?_
            refine wr (j := 1) (set_own hlt) rfl ?_
            refine ⟨by omega, y, x, z, _, rfl, hy, hx, hz, ?_, (lk.trans (.set rfl)).trans (.set rfl), ⟨fun z => by simp at z, fun _ => ⟨Rat.le_of_lt c, fun k1 => (S1 rfl k1).1⟩, fun z => by simp at z⟩⟩
            rw [set_own (by rw [List.length_set]; exact hlt)]; rfl
          · exact nxt ⟨by omega, x, y, z, _, rfl, hx, hy, hz, ho, lk, ⟨fun z => by simp at z, fun _ => ⟨Rat.not_lt.mp c, fun k1 => (S1 rfl k1).2⟩, fun z => by simp at z⟩⟩
        | 1, _ =>
          obtain ⟨xy, yz⟩ := S2 rfl
          refine ad (g := 2) rfl ?_
          refine rd (i := 2) (own_lst ho) (u := qU z) (atI_of (by decide) rfl) ?_
          refine rd (i := ((1 : Nat) : Int)) (own_lst ho) (u := qU y) (atI_of (by decide) rfl) ?_
          refine t_lessF (Fq.of hz.b) (Fq.of hy.b) (by decide) (by decide) (Br.dec (fun c => ?_) (fun c => ?_))
          · refine ad (g := 2) rfl ?_
            refine rd (i := 2) (own_lst ho) (u := qU z) (atI_of (by decide) rfl) ?_
            refine rd (i := ((1 : Nat) : Int)) (own_lst ho) (u := qU y) (atI_of (by decide) rfl) ⟨by show 2 ≤ sizeLine; decide, ?_⟩
            refine wr (j := 1) ho rfl ?_
            refine ad (g := 2) rfl ?_
            refine wr (j := 2) (set_own hlt) rfl ?_
            refine ⟨by omega, x, z, y, _, rfl, hx, hz, hy, ?_, (lk.trans (.set rfl)).trans (.set rfl), ⟨fun z => by simp at z, fun z => by simp at z, fun _ => ⟨xy, Rat.le_of_lt c, fun k1 => absurd c (Rat.not_lt.mpr (yz k1))⟩⟩⟩
            rw [set_own (by rw [List.length_set]; exact hlt)]; rfl
          · exact nxt ⟨by omega, x, y, z, _, rfl, hx, hy, hz, ho, lk, ⟨fun z => by simp at z, fun z => by simp at z, fun _ => ⟨Rat.le_trans xy (Rat.not_lt.mp c), Rat.not_lt.mp c, fun _ => xy⟩⟩⟩
        | jj + 2, hj2 => exact absurd hj2 (by show ¬ jj + 2 < 2; omega)
      · rintro ρ' h' ⟨hj, x, y, z, o4, rfl, hx, hy, hz, ho, lk, S⟩
        refine ⟨trivial, ?_⟩
        refine ⟨by have : (2 : Int).toNat = 2 := rfl; omega, x, y, z, _, _, rfl, hx, hy, hz, ho, lk, ?_⟩
        have e2 : (rngU 0 2).length = 2 := rfl
        rw [e2] at S
        rw [if_neg (by omega)]
        exact S
    · rintro ρ' h' ⟨hk, x, y, z, o2, o4, rfl, hx, hy, hz, ho, lk, S⟩
      refine ⟨trivial, ?_⟩
      have S : Srt x y z 1 2 := S
      obtain ⟨_, _, S3⟩ := S
      obtain ⟨xz, yz, xy⟩ := S3 rfl
      have xy := xy (by decide)
      have B5 : BoxB h' b g s' (D + 15) := B4'.lat lk (by omega) (by omega) (by omega)
      refine t_takeB B5 (by omega) (by decide) (by decide) fun who h6 d0 d1 l6 B6 => ?_
      have ho6 := l6.own ho ng
      refine rd (own_lst ho6) (u := qU x) (atI_of (by decide) rfl) (rd (own_lst ho6) (u := qU y) (atI_of (by decide) rfl) (rd (own_lst ho6) (u := qU z) (atI_of (by decide) rfl) ⟨by show 6 ≤ sizeLine; decide, ?_⟩))
      refine q ⟨"cut", who, x, y, z, p⟩ h6 ⟨rfl, hx, hy, hz, xy, yz, pb, p0⟩ ?_ (B6.mono (by omega))
      exact (L4.skip lk fun m e => by subst e; omega).trans l6
end
end K

namespace K
open PySem L2
section
variable {h : AH} {Q : UQ} {E : XQ} {r s : Rat} {j k : Nat} {u v : U}
theorem t_law31 {sc : Nat} {ns : List Int} (hsc : lstAt h sc = some (ns.map U.int)) (hn : ns.length ≤ 1000) (k : ∀ h', Q (.bl true) h') : w_law_2142 [.obj sc] h Q E := by
  refine ⟨rfl, t_boxB hsc hn fun b g s' h1 B1 l1 hb hg => ?_⟩
  have lt1 := B1.lt
  refine ⟨by omega, by omega, ?_⟩
  refine ⟨fun i acc h' => i ≤ 3 ∧ ∃ ps : List CutA, acc = ps.map cutAU ∧ ps.length = i ∧ (∀ r ∈ ps, CutOk r) ∧ h'[h1.length]? = some (.lst acc) ∧ Lat (BG b g) h1 h' ∧ BoxB h' b g s' (0 + 20 * i), ⟨by omega, [], rfl, rfl, fun r hr => by simp at hr, new_at, .of .app, (B1.pre .app).mono (by omega)⟩, ?_, ?_⟩
  · rintro i x acc h' hx ⟨hi, ps, rfl, hpl, hp, ho, l4, B4⟩
    obtain ⟨rfl, hil⟩ := rng_at hx
    have hil : i < 3 := hil
    refine ⟨trivial, ho, small (by rw [List.length_map]; omega), Opt.mk rfl ?_⟩
    refine t_ask B4 (by omega) fun r h5 pr l5 B5 => ?_
    have ho5 := l5.at ho (by omega)
    refine ⟨ho5, by omega, ps ++ [r], by simp, by simp [hpl], fun w hw => ?_, ?_, Lat.setNew (l4.trans l5) (Nat.le_refl _), ?_⟩
    · rcases List.mem_append.1 hw with z | z
      · exact hp w z
      · rw [List.mem_singleton] at z; subst z; exact pr
    · rw [List.getElem?_set_self (at_lt ho5)]
    · exact (B5.lat (S := (· = h1.length)) (.set rfl) (by omega) (by omega) (by omega)).mono (by omega)
  rintro acc h2 ⟨hi, ps, rfl, hpl, hp, ho, l2, B2⟩
  refine ⟨trivial, ?_⟩
  have lt2 := B2.lt
  have e3 : (rngU 0 3).length = 3 := rfl
  rw [e3] at B2
  have own2 : ownLst h2 h1.length = some (ps.map cutAU) := by unfold ownLst; rw [ho]
  have hlen2 := own_lt own2
  generalize hna : h1.length = na at *
  have nga : ¬ BG b g na := by omega
  refine t_rowsB B2 (by omega) fun h3 m rs l3 hm hom G B3 => ?_
  have lt3 := B3.lt
  have mlt := own_lt hom
  refine t_rowsB B3 (by omega) fun h4 m2 rs2 l4 hm2 hom2 G2 B4 => ?_
  have own4 := l4.own (l3.own own2 nga) nga
  have ngm : ¬ BG b g m := by omega
  have hom4 := l4.own hom ngm
  refine mk_tab (own_lst hom4) G fun h5 l5 T5 => ?_
  refine mk_tab (Pre.lst l5 (own_lst hom2)) G2 fun h6 l6 T6 => ?_
  have T5' := T5.pre l6
  have l56 := l5.trans l6
  have hl1 := Pre.lst l56 (own_lst hom4)
  have hl2 := Pre.lst l56 (own_lst hom2)
  have hla := Pre.lst l56 (own_lst own4)
  refine Opt.walk hla (forP (fun i ρ h' => Pre h6 h' ∧ ∃ x y : Option U, ρ = [some (.obj sc), some (.obj b), none, some (.obj na), some (.obj m), some (.obj m2), some (.obj h4.length), some (.obj h5.length), x, y]) ?_ ?_ ?_)
  · exact ⟨.refl, none, none, rfl⟩
  · rintro i x ρ' h' hx ⟨lp, x1, y1, rfl⟩
    rw [List.getElem?_map] at hx
    obtain ⟨x, hpx, rfl⟩ := Option.map_eq_some_iff.mp hx
    have O := hp x (List.mem_of_getElem? hpx)
    refine ⟨Pre.lst lp hla, Opt.mk rfl ?_⟩
    refine t_lreply_cut (Pre.lst lp hl1) G O fun h7 l7 => ?_
    have L7 := lp.trans l7
    refine t_reply_cut (T5'.pre L7) G O (neQF fun b1 e1 => brF' e1 ?_)
    refine t_reply_cut (T6.pre L7) G2 O ?_
    refine t_lreply_cut (Pre.lst L7 hl2) G2 O fun h8 l8 => (neQF fun b2 e2 => brF' e2 (nxt ?_))
    refine t_reply_cut (T5'.pre (L7.trans l8)) G O (neQF fun b3 e3 => brF' e3 (nxt ?_))
    exact ⟨L7.trans l8, _, _, rfl⟩
  · rintro ρ' h' ⟨lp, x1, y1, rfl⟩
    refine ⟨Pre.lst lp hla, ?_⟩
    have T7 := T5'.pre lp
    have T8 := T6.pre lp
    obtain ⟨r7, c7, d7⟩ := T7.ex
    refine Opt.mk c7 ⟨rfl, Opt.mk rfl (t_stretches T7 ?_)⟩
    refine eqLt (α := Int × Int) (S := rs) (T := rs) new_lst (Pre.lst (lp.trans .app) hl1) rfl fun b4 e4 => brT' e4 ?_
    have T9 := T8.pre (.app (t := [AO.lst (rowsU rs)]))
    obtain ⟨r9, c9, d9⟩ := T9.ex
    refine Opt.mk c9 ⟨rfl, Opt.mk rfl (t_stretches T9 ?_)⟩
    exact eq_rows new_lst (Pre.lst ((lp.trans .app).trans .app) hl2) (k _)
end
end K

namespace K
open PySem L2
def top (i : Nat) : Stmt := PySem.Challenge.pw_halfcrumb_k31_replies_to_cuts.main.body.getD i (.Pass ⟨0, 0, 0, 0⟩)
abbrev s_greatest_divisor : Stmt := top 8
abbrev p_greatest_divisor : List Str := ["one", "other"]
abbrev n_greatest_divisor : List Str := ["one", "other"]
theorem sc_greatest_divisor : FnScope n_greatest_divisor p_greatest_divisor (defScope s_greatest_divisor) := ⟨rfl, rfl, rfl, by decide +kernel, rfl, by decide +kernel, by decide +kernel⟩
abbrev s_fraction_of : Stmt := top 9
abbrev p_fraction_of : List Str := ["top", "bottom"]
abbrev n_fraction_of : List Str := ["top", "bottom", "divisor"]
theorem sc_fraction_of : FnScope n_fraction_of p_fraction_of (defScope s_fraction_of) := ⟨rfl, rfl, rfl, by decide +kernel, rfl, by decide +kernel, by decide +kernel⟩
abbrev s_plus : Stmt := top 10
abbrev p_plus : List Str := ["one", "other"]
abbrev n_plus : List Str := ["one", "other"]
theorem sc_plus : FnScope n_plus p_plus (defScope s_plus) := ⟨rfl, rfl, rfl, by decide +kernel, rfl, by decide +kernel, by decide +kernel⟩
abbrev s_minus : Stmt := top 11
abbrev p_minus : List Str := ["one", "other"]
abbrev n_minus : List Str := ["one", "other"]
theorem sc_minus : FnScope n_minus p_minus (defScope s_minus) := ⟨rfl, rfl, rfl, by decide +kernel, rfl, by decide +kernel, by decide +kernel⟩
abbrev s_times : Stmt := top 12
abbrev p_times : List Str := ["one", "other"]
abbrev n_times : List Str := ["one", "other"]
theorem sc_times : FnScope n_times p_times (defScope s_times) := ⟨rfl, rfl, rfl, by decide +kernel, rfl, by decide +kernel, by decide +kernel⟩
abbrev s_over : Stmt := top 13
abbrev p_over : List Str := ["one", "other"]
abbrev n_over : List Str := ["one", "other"]
theorem sc_over : FnScope n_over p_over (defScope s_over) := ⟨rfl, rfl, rfl, by decide +kernel, rfl, by decide +kernel, by decide +kernel⟩
abbrev s_is_less : Stmt := top 14
abbrev p_is_less : List Str := ["one", "other"]
abbrev n_is_less : List Str := ["one", "other"]
theorem sc_is_less : FnScope n_is_less p_is_less (defScope s_is_less) := ⟨rfl, rfl, rfl, by decide +kernel, rfl, by decide +kernel, by decide +kernel⟩
abbrev s_is_span : Stmt := top 19
abbrev p_is_span : List Str := ["here", "there"]
abbrev n_is_span : List Str := ["here", "there"]
theorem sc_is_span : FnScope n_is_span p_is_span (defScope s_is_span) := ⟨rfl, rfl, rfl, by decide +kernel, rfl, by decide +kernel, by decide +kernel⟩
abbrev s_check_span : Stmt := top 20
abbrev p_check_span : List Str := ["here", "there"]
abbrev n_check_span : List Str := ["here", "there"]
theorem sc_check_span : FnScope n_check_span p_check_span (defScope s_check_span) := ⟨rfl, rfl, rfl, by decide +kernel, rfl, by decide +kernel, by decide +kernel⟩
abbrev s_greater : Stmt := top 21
abbrev p_greater : List Str := ["one", "other"]
abbrev n_greater : List Str := ["one", "other"]
theorem sc_greater : FnScope n_greater p_greater (defScope s_greater) := ⟨rfl, rfl, rfl, by decide +kernel, rfl, by decide +kernel, by decide +kernel⟩
abbrev s_place_by : Stmt := top 23
abbrev p_place_by : List Str := ["table", "here", "there", "much"]
abbrev n_place_by : List Str := ["table", "here", "there", "much", "place"]
theorem sc_place_by : FnScope n_place_by p_place_by (defScope s_place_by) := ⟨rfl, rfl, rfl, by decide +kernel, rfl, by decide +kernel, by decide +kernel⟩
abbrev s_worths_of : Stmt := top 24
abbrev p_worths_of : List Str := ["table", "pieces"]
abbrev n_worths_of : List Str := ["table", "pieces", "here", "there"]
theorem sc_worths_of : FnScope n_worths_of p_worths_of (defScope s_worths_of) := ⟨rfl, rfl, rfl, by decide +kernel, rfl, by decide +kernel, by decide +kernel⟩
abbrev s_greatest_of : Stmt := top 25
abbrev p_greatest_of : List Str := ["worths"]
abbrev n_greatest_of : List Str := ["worths", "most", "worth"]
theorem sc_greatest_of : FnScope n_greatest_of p_greatest_of (defScope s_greatest_of) := ⟨rfl, rfl, rfl, by decide +kernel, rfl, by decide +kernel, by decide +kernel⟩
abbrev s_reply_by : Stmt := top 26
abbrev p_reply_by : List Str := ["table", "ask"]
abbrev n_reply_by : List Str := ["table", "ask", "word", "here", "there", "upto", "part", "others", "worths", "most"]
theorem sc_reply_by : FnScope n_reply_by p_reply_by (defScope s_reply_by) := ⟨rfl, rfl, rfl, by decide +kernel, rfl, by decide +kernel, by decide +kernel⟩
abbrev s_is_table : Stmt := top 31
abbrev p_is_table : List Str := ["stretches"]
abbrev n_is_table : List Str := ["stretches", "width", "worth", "widths", "worths"]
theorem sc_is_table : FnScope n_is_table p_is_table (defScope s_is_table) := ⟨rfl, rfl, rfl, by decide +kernel, rfl, by decide +kernel, by decide +kernel⟩
abbrev s_Table_init : Stmt := inClass (top 32) 0
abbrev p_Table_init : List Str := ["self", "stretches"]
abbrev n_Table_init : List Str := ["self", "stretches", "width", "worth"]
theorem sc_Table_init : FnScope n_Table_init p_Table_init (defScope s_Table_init) := ⟨rfl, rfl, rfl, by decide +kernel, rfl, by decide +kernel, by decide +kernel⟩
abbrev s_Table_stretches : Stmt := inClass (top 32) 1
abbrev p_Table_stretches : List Str := ["self"]
abbrev n_Table_stretches : List Str := ["self"]
theorem sc_Table_stretches : FnScope n_Table_stretches p_Table_stretches (defScope s_Table_stretches) := ⟨rfl, rfl, rfl, by decide +kernel, rfl, by decide +kernel, by decide +kernel⟩
abbrev s_Table_worth : Stmt := inClass (top 32) 4
abbrev p_Table_worth : List Str := ["self", "here", "there"]
abbrev n_Table_worth : List Str := ["self", "here", "there", "first", "last"]
theorem sc_Table_worth : FnScope n_Table_worth p_Table_worth (defScope s_Table_worth) := ⟨rfl, rfl, rfl, by decide +kernel, rfl, by decide +kernel, by decide +kernel⟩
abbrev s_Table_cut : Stmt := inClass (top 32) 5
abbrev p_Table_cut : List Str := ["self", "here", "much", "last"]
abbrev n_Table_cut : List Str := ["self", "here", "much", "last", "limit"]
theorem sc_Table_cut : FnScope n_Table_cut p_Table_cut (defScope s_Table_cut) := ⟨rfl, rfl, rfl, by decide +kernel, rfl, by decide +kernel, by decide +kernel⟩
abbrev s_Table_worth_ahead : Stmt := inClass (top 32) 6
abbrev p_Table_worth_ahead : List Str := ["self", "place"]
abbrev n_Table_worth_ahead : List Str := ["self", "place", "top", "bottom", "reach", "ahead", "width", "worth", "length", "taken"]
theorem sc_Table_worth_ahead : FnScope n_Table_worth_ahead p_Table_worth_ahead (defScope s_Table_worth_ahead) := ⟨rfl, rfl, rfl, by decide +kernel, rfl, by decide +kernel, by decide +kernel⟩
abbrev s_Table_reached : Stmt := inClass (top 32) 7
abbrev p_Table_reached : List Str := ["self", "goal"]
abbrev n_Table_reached : List Str := ["self", "goal", "at", "past", "left", "width", "worth", "within"]
theorem sc_Table_reached : FnScope n_Table_reached p_Table_reached (defScope s_Table_reached) := ⟨rfl, rfl, rfl, by decide +kernel, rfl, by decide +kernel, by decide +kernel⟩
abbrev s_law_box : Stmt := top 34
abbrev p_law_box : List Str := ["_law_script"]
abbrev n_law_box : List Str := ["_law_script", "_law_cell", "_law_great"]
theorem sc_law_box : FnScope n_law_box p_law_box (defScope s_law_box) := ⟨rfl, rfl, rfl, by decide +kernel, rfl, by decide +kernel, by decide +kernel⟩
abbrev s_law_mixed : Stmt := top 35
abbrev p_law_mixed : List Str := ["_law_cell", "_law_k"]
abbrev n_law_mixed : List Str := ["_law_cell", "_law_k", "_law_whole"]
theorem sc_law_mixed : FnScope n_law_mixed p_law_mixed (defScope s_law_mixed) := ⟨rfl, rfl, rfl, by decide +kernel, rfl, by decide +kernel, by decide +kernel⟩
abbrev s_law_take : Stmt := top 36
abbrev p_law_take : List Str := ["_law_box_here", "_law_size"]
abbrev n_law_take : List Str := ["_law_box_here", "_law_size", "_law_found", "_law_cell", "_law_reach"]
theorem sc_law_take : FnScope n_law_take p_law_take (defScope s_law_take) := ⟨rfl, rfl, rfl, by decide +kernel, rfl, by decide +kernel, by decide +kernel⟩
abbrev s_law_low : Stmt := top 37
abbrev p_law_low : List Str := ["_law_top", "_law_bottom"]
abbrev n_law_low : List Str := ["_law_top", "_law_bottom", "_law_one", "_law_two"]
theorem sc_law_low : FnScope n_law_low p_law_low (defScope s_law_low) := ⟨rfl, rfl, rfl, by decide +kernel, rfl, by decide +kernel, by decide +kernel⟩
abbrev s_law_place : Stmt := top 38
abbrev p_law_place : List Str := ["_law_box_here"]
abbrev n_law_place : List Str := ["_law_box_here", "_law_bottom"]
theorem sc_law_place : FnScope n_law_place p_law_place (defScope s_law_place) := ⟨rfl, rfl, rfl, by decide +kernel, rfl, by decide +kernel, by decide +kernel⟩
abbrev s_law_less : Stmt := top 39
abbrev p_law_less : List Str := ["_law_one", "_law_two"]
abbrev n_law_less : List Str := ["_law_one", "_law_two"]
theorem sc_law_less : FnScope n_law_less p_law_less (defScope s_law_less) := ⟨rfl, rfl, rfl, by decide +kernel, rfl, by decide +kernel, by decide +kernel⟩
abbrev s_law_rows : Stmt := top 40
abbrev p_law_rows : List Str := ["_law_box_here", "_law_most"]
abbrev n_law_rows : List Str := ["_law_box_here", "_law_most", "_law_sort", "_law_bare", "_law_rows_here", "_law_k", "_law_width", "_law_worth_here", "_law_at"]
theorem sc_law_rows : FnScope n_law_rows p_law_rows (defScope s_law_rows) := ⟨rfl, rfl, rfl, by decide +kernel, rfl, by decide +kernel, by decide +kernel⟩
abbrev s_law_plus : Stmt := top 41
abbrev p_law_plus : List Str := ["_law_one", "_law_two"]
abbrev n_law_plus : List Str := ["_law_one", "_law_two"]
theorem sc_law_plus : FnScope n_law_plus p_law_plus (defScope s_law_plus) := ⟨rfl, rfl, rfl, by decide +kernel, rfl, by decide +kernel, by decide +kernel⟩
abbrev s_law_worth : Stmt := top 42
abbrev p_law_worth : List Str := ["_law_rows_here", "_law_here", "_law_there"]
abbrev n_law_worth : List Str := ["_law_rows_here", "_law_here", "_law_there", "_law_width", "_law_worth_here", "_law_whole", "_law_found", "_law_done", "_law_low_here", "_law_high", "_law_size"]
theorem sc_law_worth : FnScope n_law_worth p_law_worth (defScope s_law_worth) := ⟨rfl, rfl, rfl, by decide +kernel, rfl, by decide +kernel, by decide +kernel⟩
abbrev s_law_best : Stmt := top 43
abbrev p_law_best : List Str := ["_law_worths"]
abbrev n_law_best : List Str := ["_law_worths", "_law_best_here", "_law_k"]
theorem sc_law_best : FnScope n_law_best p_law_best (defScope s_law_best) := ⟨rfl, rfl, rfl, by decide +kernel, rfl, by decide +kernel, by decide +kernel⟩
abbrev s_law_cut : Stmt := top 44
abbrev p_law_cut : List Str := ["_law_rows_here", "_law_here", "_law_much", "_law_last"]
abbrev n_law_cut : List Str := ["_law_rows_here", "_law_here", "_law_much", "_law_last", "_law_width", "_law_worth_here", "_law_whole", "_law_done", "_law_low_here", "_law_high", "_law_there", "_law_top"]
theorem sc_law_cut : FnScope n_law_cut p_law_cut (defScope s_law_cut) := ⟨rfl, rfl, rfl, by decide +kernel, rfl, by decide +kernel, by decide +kernel⟩
abbrev s_law_reply : Stmt := top 45
abbrev p_law_reply : List Str := ["_law_rows_here", "_law_ask_here"]
abbrev n_law_reply : List Str := ["_law_rows_here", "_law_ask_here", "_law_here", "_law_there", "_law_worths", "_law_best_here", "_law_much", "_law_first", "_law_last", "_law_found"]
theorem sc_law_reply : FnScope n_law_reply p_law_reply (defScope s_law_reply) := ⟨rfl, rfl, rfl, by decide +kernel, rfl, by decide +kernel, by decide +kernel⟩
abbrev s_law_ask : Stmt := top 46
abbrev p_law_ask : List Str := ["_law_box_here"]
abbrev n_law_ask : List Str := ["_law_box_here", "_law_part", "_law_k", "_law_places", "_law_j"]
theorem sc_law_ask : FnScope n_law_ask p_law_ask (defScope s_law_ask) := ⟨rfl, rfl, rfl, by decide +kernel, rfl, by decide +kernel, by decide +kernel⟩
abbrev s_law : Stmt := top 47
abbrev p_law : List Str := ["_law_script"]
abbrev n_law : List Str := ["_law_script", "_law_box_here", "_law_k", "_law_asks", "_law_rows_here", "_law_others", "_law_one", "_law_other", "_law_ask_here", "_law_due"]
theorem sc_law : FnScope n_law p_law (defScope s_law) := ⟨rfl, rfl, rfl, by decide +kernel, rfl, by decide +kernel, by decide +kernel⟩
/-- what is known of the text -/
structure Tops (K : PySem.W.Frag) (mg : Str → Option Value) (G : Str → Addr) : Prop where
  b_range : mg "range" = none
  b_len : mg "len" = none
  b_abs : mg "abs" = none
  b_sum : mg "sum" = none
  i_MOST_STRETCHES : ∃ tk, mg "MOST_STRETCHES" = some (.int 8 tk)
  b_min : mg "min" = none
  b_max : mg "max" = none
  i_MOST_WIDTH : ∃ tk, mg "MOST_WIDTH" = some (.int 999 tk)
  i_MOST_WORTH : ∃ tk, mg "MOST_WORTH" = some (.int 999999999 tk)
  x_NoTable : PySem.W.excIn K (G "NoTable") EXCB "ValueError.__new__" = true ∧ PySem.W.nsIn K mainGlobals "NoTable" = some (some (.ref (G "NoTable")))
  f_Table_rows : FldOk K G ["Table"] "rows"
  f_Table_breadth : FldOk K G ["Table"] "breadth"
  t_END : ∃ a, mg "END" = some (.ref a) ∧ ∀ H φ, RU K H φ (.tup [.int 1, .int 1]) (.ref a)
  t_BEGIN : ∃ a, mg "BEGIN" = some (.ref a) ∧ ∀ H φ, RU K H φ (.tup [.int 0, .int 1]) (.ref a)
  x_NoSpan : PySem.W.excIn K (G "NoSpan") EXCB "ValueError.__new__" = true ∧ PySem.W.nsIn K mainGlobals "NoSpan" = some (some (.ref (G "NoSpan")))
  x_NoWorth : PySem.W.excIn K (G "NoWorth") EXCB "ValueError.__new__" = true ∧ PySem.W.nsIn K mainGlobals "NoWorth" = some (some (.ref (G "NoWorth")))
  x_NoFraction : PySem.W.excIn K (G "NoFraction") EXCB "ValueError.__new__" = true ∧ PySem.W.nsIn K mainGlobals "NoFraction" = some (some (.ref (G "NoFraction")))
  i_NO_PIECE : ∃ tk, mg "NO_PIECE" = some (.int 3 tk)
  b_list : mg "list" = none
section
variable {P : Program} {w : World} {K : PySem.W.Frag} {mg : Str → Option Value} {base : Heap} {G : Str → Addr} {f : Addr} {fd : FuncData} (T : Tops K mg G)
include T
theorem ok_law_box  {dV : Value} (F : FunD K "_law_box" "_law_box" s_law_box dV f fd) : FnOk P w K mg base (CXR P w) 1 f fd p_law_box (spA K G w_law_box_1502) := by
  have nd := sc_law_box.nd
  exact F.okA sc_law_box (fun cdv A outer s₀ H₀ E₀ φ E hr hE hp => (ass_cons (as_setLc (i := 2) (own := [("_law_cell", 1)]) (ws := [1]) (g := (gN 1)) (Tt := (aB (aOp uGe (aVar 1) (aOp uPow (aC (.int 10)) (aC (.int 18)))))) (We := (aVar 1)) (by rfl) nd rfl rfl (sw_true rfl rfl rfl (by decide +kernel)) (ai_seq (av 0)) (blkOk_by (own := [("_law_cell", 1)]) (N := n_law_box) (sc := defScope s_law_box) (by decide +kernel)) (by decide) (fun _ _ _ _ _ => (ag_name (i := 1) nd rfl (Or.inl rfl))) (fun _ _ _ _ _ => (ats_one (at_cmp ao_ge (av 1) (ae_op ao_pow ae_int ae_int)))) (fun _ _ _ _ _ => (av 1)))
    (ass_one (as_ret (ae_lst (aa_cons (av 2) (aa_cons ae_int (aa_cons (ae_lc (own := [("_law_cell", 1)]) (ws := [1]) (g := (gN 1)) (Tt := (aB (aOp uLt (aVar 1) (aOp uPow (aC (.int 10)) (aC (.int 18)))))) (We := (aVar 1)) (by rfl) nd (ai_seq (av 0)) (blkOk_by (own := [("_law_cell", 1)]) (N := n_law_box) (sc := defScope s_law_box) (by decide +kernel)) (by decide) (fun _ _ _ _ _ => (ag_name (i := 1) nd rfl (Or.inl rfl))) (fun _ _ _ _ _ => (ats_one (at_cmp ao_lt (av 1) (ae_op ao_pow ae_int ae_int)))) (fun _ _ _ _ _ => (av 1))) (aa_cons ae_int aa_nil)))))))))
theorem ok_law_mixed  {dV : Value} (F : FunD K "_law_mixed" "_law_mixed" s_law_mixed dV f fd) : FnOk P w K mg base (CXR P w) 1 f fd p_law_mixed (spA K G w_law_mixed_0002) := by
  have nd := sc_law_mixed.nd
  exact F.okA sc_law_mixed (fun cdv A outer s₀ H₀ E₀ φ E hr hE hp => (ass_cons (as_set (i := 2) nd rfl (Or.inl rfl) (ae_op ao_mod (ae_op ao_pow (ae_op ao_add (ae_op ao_add (ae_op ao_add (ae_op ao_mod (av 0) ae_int) (ae_op ao_mul (ae_op ao_mul ae_int (av 1)) (av 1))) (ae_op ao_mul ae_int (av 1))) ae_int) ae_int) ae_int))
    (ass_one (as_ret (ae_op ao_mod (ae_op ao_add (ae_op ao_mul (av 2) ae_int) (ae_op ao_mul ae_int (av 1))) ae_int)))))
theorem ok_law_take (c_law_mixed : Cal P w K mg base 1 "_law_mixed" p_law_mixed (spA K G w_law_mixed_0002)) {dV : Value} (F : FunD K "_law_take" "_law_take" s_law_take dV f fd) : FnOk P w K mg base (CXR P w) 2 f fd p_law_take (spA K G w_law_take_dbef) := by
  have nd := sc_law_take.nd
  exact F.okA sc_law_take (fun cdv A outer s₀ H₀ E₀ φ E hr hE hp => (ass_cons (as_ix (ae_op ao_add (ae_ix (av 0) ae_int) ae_int) (av 0) ae_int)
    (ass_cons (as_if (AW.at (aw_and (at_cmp (ao_eq hr.units) (ae_ix (av 0) ae_int) ae_int) (aw_and1 (at_cmp ao_gt (ae_blt ac_len (by rfl) T.b_len (by decide +kernel) (aa_cons (ae_ix (av 0) ae_int) aa_nil)) ae_int)))) (ass_one (as_ix (ae_bm PySem.F.slot_list_pop PySem.F.type_list_pop am_pop (ae_ix (av 0) ae_int) (aa_cons ae_int aa_nil)) (av 0) ae_int)) ass_nil)
    (ass_cons (as_if (at_cmp ao_gt (ae_ix (av 0) ae_int) ae_int) (ass_cons (as_set (i := 2) nd rfl (Or.inl rfl) (ae_op ao_mod (ae_ix (av 0) ae_int) (av 1)))
    (ass_cons (as_ix (ae_op ao_div (ae_ix (av 0) ae_int) (av 1)) (av 0) ae_int)
    (ass_one (as_ret (av 2))))) ass_nil)
    (ass_cons (as_set (i := 3) nd rfl (Or.inl rfl) (ae_op ao_mul ae_int (ae_ix (av 0) ae_int)))
    (ass_cons (as_if (at_cmp ao_gt (ae_blt ac_len (by rfl) T.b_len (by decide +kernel) (aa_cons (ae_ix (av 0) ae_int) aa_nil)) ae_int) (ass_one (as_set (i := 3) nd rfl (Or.inl rfl) (ae_ix (ae_ix (av 0) ae_int) (ae_op ao_mod (ae_ix (av 0) ae_int) (ae_blt ac_len (by rfl) T.b_len (by decide +kernel) (aa_cons (ae_ix (av 0) ae_int) aa_nil)))))) ass_nil)
    (ass_cons (as_set (i := 2) nd rfl (Or.inl rfl) ae_int)
    (ass_cons (as_set (i := 4) nd rfl (Or.inl rfl) ae_int)
    (ass_cons (as_while (by first | exact PassesOwn.leaving | exact PassesOwn.never | exact PassesOwn.looking) (at_cmp ao_lt (av 4) (av 1)) (ass_cons (as_set (i := 2) nd rfl (Or.inl rfl) (ae_op ao_add (ae_op ao_mul (av 2) ae_int) (ae_call c_law_mixed hr hp (aa_cons (av 3) (aa_cons (ae_op ao_add (ae_ix (av 0) ae_int) (ae_op ao_mul ae_int (ae_op ao_mod (av 2) ae_int))) aa_nil)))))
    (ass_one (as_set (i := 4) nd rfl (Or.inl rfl) (ae_op ao_mul (av 4) ae_int)))))
    (ass_one (as_ret (ae_op ao_mod (av 2) (av 1)))))))))))))
theorem ok_law_low  {dV : Value} (F : FunD K "_law_low" "_law_low" s_law_low dV f fd) : FnOk P w K mg base (CXR P w) 1 f fd p_law_low (spA K G w_law_low_35aa) := by
  have nd := sc_law_low.nd
  exact F.okA sc_law_low (fun cdv A outer s₀ H₀ E₀ φ E hr hE hp => (ass_cons (as_set (i := 2) nd rfl (Or.inl rfl) (ae_blt ac_abs (by rfl) T.b_abs (by decide +kernel) (aa_cons (av 0) aa_nil)))
    (ass_cons (as_set (i := 3) nd rfl (Or.inl rfl) (ae_blt ac_abs (by rfl) T.b_abs (by decide +kernel) (aa_cons (av 1) aa_nil)))
    (ass_cons (as_while (by first | exact PassesOwn.leaving | exact PassesOwn.never | exact PassesOwn.looking) (at_cmp ao_gt (av 3) ae_int) (ass_one (as_par (i := 2) (j := 3) (by rfl) nd rfl rfl (by decide) rfl rfl (aa_cons (av 3) (aa_cons (ae_op ao_mod (av 2) (av 3)) aa_nil)) (by rfl))))
    (ass_cons (as_if (at_cmp ao_lt (av 1) ae_int) (ass_one (as_set (i := 2) nd rfl (Or.inl rfl) (ae_un ao_neg (av 2)))) ass_nil)
    (ass_one (as_ret (ae_tup (aa_cons (ae_op ao_div (av 0) (av 2)) (aa_cons (ae_op ao_div (av 1) (av 2)) aa_nil))))))))))
theorem ok_law_place (c_law_take : Cal P w K mg base 2 "_law_take" p_law_take (spA K G w_law_take_dbef)) (c_law_low : Cal P w K mg base 1 "_law_low" p_law_low (spA K G w_law_low_35aa)) {dV : Value} (F : FunD K "_law_place" "_law_place" s_law_place dV f fd) : FnOk P w K mg base (CXR P w) 3 f fd p_law_place (spA K G w_law_place_31c3) := by
  have nd := sc_law_place.nd
  exact F.okA sc_law_place (fun cdv A outer s₀ H₀ E₀ φ E hr hE hp => (ass_cons (as_set (i := 1) nd rfl (Or.inl rfl) (ae_op ao_add ae_int (ae_call c_law_take hr hp (aa_cons (av 0) (aa_cons (ae_ix (ae_lst (aa_cons ae_int (aa_cons ae_int (aa_cons ae_int (aa_cons (ae_op ao_pow ae_int ae_int) aa_nil))))) (ae_call c_law_take hr hp (aa_cons (av 0) (aa_cons ae_int aa_nil)))) aa_nil)))))
    (ass_one (as_ret (ae_call c_law_low hr hp (aa_cons (ae_call c_law_take hr hp (aa_cons (av 0) (aa_cons (ae_op ao_add (av 1) ae_int) aa_nil))) (aa_cons (av 1) aa_nil)))))))
theorem ok_law_less  {dV : Value} (F : FunD K "_law_less" "_law_less" s_law_less dV f fd) : FnOk P w K mg base (CXR P w) 1 f fd p_law_less (spA K G w_law_less_5e3f) := by
  have nd := sc_law_less.nd
  exact F.okA sc_law_less (fun cdv A outer s₀ H₀ E₀ φ E hr hE hp => (ass_one (as_ret (ae_cmp ao_lt (ae_op ao_mul (ae_ix (av 0) ae_int) (ae_ix (av 1) ae_int)) (ae_op ao_mul (ae_ix (av 1) ae_int) (ae_ix (av 0) ae_int))))))
theorem ok_law_ask (c_law_take : Cal P w K mg base 2 "_law_take" p_law_take (spA K G w_law_take_dbef)) (c_law_place : Cal P w K mg base 3 "_law_place" p_law_place (spA K G w_law_place_31c3)) (c_law_less : Cal P w K mg base 1 "_law_less" p_law_less (spA K G w_law_less_5e3f)) {dV : Value} (F : FunD K "_law_ask" "_law_ask" s_law_ask dV f fd) : FnOk P w K mg base (CXR P w) 4 f fd p_law_ask (spA K G w_law_ask_cd95) := by
  have nd := sc_law_ask.nd
  exact F.okA sc_law_ask (fun cdv A outer s₀ H₀ E₀ φ E hr hE hp => (ass_cons (as_set (i := 1) nd rfl (Or.inl rfl) (ae_ix (ae_lst (aa_cons (ae_tup (aa_cons ae_int (aa_cons ae_int aa_nil))) (aa_cons (ae_tup (aa_cons ae_int (aa_cons ae_int aa_nil))) (aa_cons (ae_tup (aa_cons ae_int (aa_cons ae_int aa_nil))) (aa_cons (ae_tup (aa_cons ae_int (aa_cons ae_int aa_nil))) (aa_cons (ae_tup (aa_cons ae_int (aa_cons ae_int aa_nil))) (aa_cons (ae_tup (aa_cons ae_int (aa_cons ae_int aa_nil))) (aa_cons (ae_tup (aa_cons ae_int (aa_cons ae_int aa_nil))) (aa_cons (ae_tup (aa_cons ae_int (aa_cons ae_int aa_nil))) aa_nil))))))))) (ae_call c_law_take hr hp (aa_cons (av 0) (aa_cons ae_int aa_nil)))))
    (ass_cons (as_if (at_cmp (ao_eq hr.units) (ae_call c_law_take hr hp (aa_cons (av 0) (aa_cons ae_int aa_nil))) ae_int) (ass_one (as_set (i := 1) nd rfl (Or.inl rfl) (ae_call c_law_place hr hp (aa_cons (av 0) aa_nil)))) ass_nil)
    (ass_cons (as_setLc (i := 3) (own := [("_law_k", 2)]) (ws := [2]) (g := (gN 2)) (Tt := tYesU) (We := (aCall w_law_place_31c3 [] (aCons (aVar 0) aNil))) (by rfl) nd rfl rfl (sw_true rfl rfl rfl (by decide +kernel)) (ai_rng1 (by rfl) T.b_range ae_int) (blkOk_by (own := [("_law_k", 2)]) (N := n_law_ask) (sc := defScope s_law_ask) (by decide +kernel)) (by decide) (fun _ _ _ _ _ => (ag_name (i := 2) nd rfl (Or.inl rfl))) (fun _ _ _ _ _ => ats_nil) (fun _ _ _ _ _ => (ae_call c_law_place hr passX0 (aa_cons (av 0) aa_nil))))
    (ass_cons (as_for (by first | exact PassesOwn.leaving | exact PassesOwn.never | exact PassesOwn.looking) rfl (ai_rng1 (by rfl) T.b_range ae_int) (ag_name (i := 2) nd rfl (Or.inl rfl)) (ass_one (as_for (by first | exact PassesOwn.leaving | exact PassesOwn.never | exact PassesOwn.looking) rfl (ai_rng1 (by rfl) T.b_range ae_int) (ag_name (i := 4) nd rfl (Or.inl rfl)) (ass_one (as_if (at_val (ae_call c_law_less hr hp (aa_cons (ae_ix (av 3) (ae_op ao_add (av 4) ae_int)) (aa_cons (ae_ix (av 3) (av 4)) aa_nil)))) (ass_one (as_ix2 (by rfl) (ae_tup (aa_cons (ae_ix (av 3) (ae_op ao_add (av 4) ae_int)) (aa_cons (ae_ix (av 3) (av 4)) aa_nil))) (av 3) (av 4) (av 3) (ae_op ao_add (av 4) ae_int))) ass_nil)))))
    (ass_one (as_ret (ae_tup (aa_cons ae_str (aa_cons (ae_call c_law_take hr hp (aa_cons (av 0) (aa_cons ae_int aa_nil))) (aa_cons (ae_ix (av 3) ae_int) (aa_cons (ae_ix (av 3) ae_int) (aa_cons (ae_ix (av 3) ae_int) (aa_cons (av 1) aa_nil))))))))))))))
theorem ok_law_rows (c_law_take : Cal P w K mg base 2 "_law_take" p_law_take (spA K G w_law_take_dbef)) {dV : Value} (F : FunD K "_law_rows" "_law_rows" s_law_rows dV f fd) : FnOk P w K mg base (CXR P w) 3 f fd p_law_rows (spA K G w_law_rows_667c) := by
  have nd := sc_law_rows.nd
  exact F.okA sc_law_rows (fun cdv A outer s₀ H₀ E₀ φ E hr hE hp => (ass_cons (as_set (i := 2) nd rfl (Or.inl rfl) (ae_call c_law_take hr hp (aa_cons (av 0) (aa_cons ae_int aa_nil))))
    (ass_cons (as_set (i := 3) nd rfl (Or.inl rfl) (ae_call c_law_take hr hp (aa_cons (av 0) (aa_cons ae_int aa_nil))))
    (ass_cons (as_set (i := 4) nd rfl (Or.inl rfl) (ae_lst aa_nil))
    (ass_cons (as_for (by first | exact PassesOwn.leaving | exact PassesOwn.never | exact PassesOwn.looking) rfl (ai_rng1 (by rfl) T.b_range (ae_op ao_add ae_int (ae_call c_law_take hr hp (aa_cons (av 0) (aa_cons (av 1) aa_nil))))) (ag_name (i := 5) nd rfl (Or.inl rfl)) (ass_cons (as_set (i := 6) nd rfl (Or.inl rfl) (ae_op ao_add ae_int (ae_call c_law_take hr hp (aa_cons (av 0) (aa_cons (ae_ix (ae_lst (aa_cons ae_int (aa_cons ae_int (aa_cons ae_int (aa_cons ae_int aa_nil))))) (av 2)) aa_nil)))))
    (ass_cons (as_set (i := 7) nd rfl (Or.inl rfl) (ae_call c_law_take hr hp (aa_cons (av 0) (aa_cons (ae_ix (ae_lst (aa_cons ae_int (aa_cons ae_int (aa_cons ae_int (aa_cons (ae_op ao_pow ae_int ae_int) aa_nil))))) (av 2)) aa_nil))))
    (ass_cons (as_if (AW.at (aw_and (at_cmp (ao_eq hr.units) (av 3) ae_int) (aw_and1 (at_cmp (ao_eq hr.units) (ae_call c_law_take hr hp (aa_cons (av 0) (aa_cons ae_int aa_nil))) ae_int)))) (ass_one (as_set (i := 7) nd rfl (Or.inl rfl) ae_int)) ass_nil)
    (ass_one (as_expr (ae_bm PySem.F.slot_list_append PySem.F.type_list_append am_append (av 4) (aa_cons (ae_tup (aa_cons (av 6) (aa_cons (av 7) aa_nil))) aa_nil))))))))
    (ass_cons (as_if (at_cmp (ao_eq hr.units) (ae_blt (ac_sum rfl) (by rfl) T.b_sum (by decide +kernel) (aa_cons (ae_lc (own := [("_law_width", 6), ("_law_worth_here", 7)]) (ws := [6, 7]) (g := (gT 2 (gsCons (gN 6) (gsCons (gN 7) gsNil)))) (Tt := tYesU) (We := (aVar 7)) (by rfl) nd (ai_seq (av 4)) (blkOk_by (own := [("_law_width", 6), ("_law_worth_here", 7)]) (N := n_law_rows) (sc := defScope s_law_rows) (by decide +kernel)) (by decide) (fun _ _ _ _ _ => (ag_tup (by rfl) (ags_cons (ag_name (i := 6) nd rfl (Or.inl rfl)) (ags_cons (ag_name (i := 7) nd rfl (Or.inl rfl)) ags_nil)))) (fun _ _ _ _ _ => ats_nil) (fun _ _ _ _ _ => (av 7))) aa_nil)) ae_int) (ass_cons (as_set (i := 8) nd rfl (Or.inl rfl) (ae_call c_law_take hr hp (aa_cons (av 0) (aa_cons (ae_blt ac_len (by rfl) T.b_len (by decide +kernel) (aa_cons (av 4) aa_nil)) aa_nil))))
    (ass_one (as_ix (ae_tup (aa_cons (ae_ix (ae_ix (av 4) (av 8)) ae_int) (aa_cons (ae_op ao_add ae_int (ae_call c_law_take hr hp (aa_cons (av 0) (aa_cons ae_int aa_nil)))) aa_nil))) (av 4) (av 8)))) ass_nil)
    (ass_one (as_ret (av 4)))))))))
theorem ok_is_table  {dV : Value} (F : FunD K "is_table" "is_table" s_is_table dV f fd) : FnOk P w K mg base (CXR P w) 1 f fd p_is_table (spA K G w_is_table) := by
  have nd := sc_is_table.nd
  exact F.okA sc_is_table (fun cdv A outer s₀ H₀ E₀ φ E hr hE hp => (ass_cons (as_if (at_not (at_chain ao_le ao_le ae_int (ae_blt ac_len (by rfl) T.b_len (by decide +kernel) (aa_cons (av 0) aa_nil)) (ae_glob (v := .int 8) (by rfl) (T.i_MOST_STRETCHES).choose_spec ⟨_, rfl⟩ (fun _ _ => .int)))) (ass_one (as_ret ae_bl)) ass_nil)
    (ass_cons (as_setLc (i := 3) (own := [("width", 1), ("worth", 2)]) (ws := [1, 2]) (g := (gT 2 (gsCons (gN 1) (gsCons (gN 2) gsNil)))) (Tt := tYesU) (We := (aVar 1)) (by rfl) nd rfl rfl (sw_true rfl rfl rfl (by decide +kernel)) (ai_seq (av 0)) (blkOk_by (own := [("width", 1), ("worth", 2)]) (N := n_is_table) (sc := defScope s_is_table) (by decide +kernel)) (by decide) (fun _ _ _ _ _ => (ag_tup (by rfl) (ags_cons (ag_name (i := 1) nd rfl (Or.inl rfl)) (ags_cons (ag_name (i := 2) nd rfl (Or.inl rfl)) ags_nil)))) (fun _ _ _ _ _ => ats_nil) (fun _ _ _ _ _ => (av 1)))
    (ass_cons (as_setLc (i := 4) (own := [("width", 1), ("worth", 2)]) (ws := [1, 2]) (g := (gT 2 (gsCons (gN 1) (gsCons (gN 2) gsNil)))) (Tt := tYesU) (We := (aVar 2)) (by rfl) nd rfl rfl (sw_true rfl rfl rfl (by decide +kernel)) (ai_seq (av 0)) (blkOk_by (own := [("width", 1), ("worth", 2)]) (N := n_is_table) (sc := defScope s_is_table) (by decide +kernel)) (by decide) (fun _ _ _ _ _ => (ag_tup (by rfl) (ags_cons (ag_name (i := 1) nd rfl (Or.inl rfl)) (ags_cons (ag_name (i := 2) nd rfl (Or.inl rfl)) ags_nil)))) (fun _ _ _ _ _ => ats_nil) (fun _ _ _ _ _ => (av 2)))
    (ass_cons (as_if (AW.at (aw_or (at_cmp ao_lt (ae_blt (ac_min rfl) (by rfl) T.b_min (by decide +kernel) (aa_cons (av 3) aa_nil)) ae_int) (aw_or1 (at_cmp ao_gt (ae_blt (ac_max rfl) (by rfl) T.b_max (by decide +kernel) (aa_cons (av 3) aa_nil)) (ae_glob (v := .int 999) (by rfl) (T.i_MOST_WIDTH).choose_spec ⟨_, rfl⟩ (fun _ _ => .int)))))) (ass_one (as_ret ae_bl)) ass_nil)
    (ass_one (as_ret (ae_and (ae_cmp ao_ge (ae_blt (ac_min rfl) (by rfl) T.b_min (by decide +kernel) (aa_cons (av 4) aa_nil)) ae_int) (ae_one (ae_chain ao_lt ao_le ae_int (ae_blt (ac_max rfl) (by rfl) T.b_max (by decide +kernel) (aa_cons (av 4) aa_nil)) (ae_glob (v := .int 999999999) (by rfl) (T.i_MOST_WORTH).choose_spec ⟨_, rfl⟩ (fun _ _ => .int))))))))))))
theorem ok_Table_init (c_is_table : Cal P w K mg base 1 "is_table" p_is_table (spA K G w_is_table)) (O_NoTable : PyProof.Rows.OwnCls "NoTable" (G "NoTable") EXCB "ValueError.__new__" mg base) {dV : Value} (F : FunD K "__init__" "Table.__init__" s_Table_init dV f fd) : FnOk P w K mg base (CXR P w) 2 f fd p_Table_init (spA K G w_Table_init) := by
  have nd := sc_Table_init.nd
  exact F.okA sc_Table_init (fun cdv A outer s₀ H₀ E₀ φ E hr hE hp => (ass_cons (as_if (at_not (at_val (ae_call c_is_table hr hp (aa_cons (av 1) aa_nil)))) (ass_one (as_raise (cn := "NoTable") O_NoTable PySem.F.excBase_ValueError hE (aa_cons ae_str aa_nil))) ass_nil)
    (ass_cons (as_fld T.f_Table_rows (ae_lc (own := [("width", 2), ("worth", 3)]) (ws := [2, 3]) (g := (gT 2 (gsCons (gN 2) (gsCons (gN 3) gsNil)))) (Tt := tYesU) (We := (aTup (aCons (aVar 2) (aCons (aVar 3) aNil)))) (by rfl) nd (ai_seq (av 1)) (blkOk_by (own := [("width", 2), ("worth", 3)]) (N := n_Table_init) (sc := defScope s_Table_init) (by decide +kernel)) (by decide) (fun _ _ _ _ _ => (ag_tup (by rfl) (ags_cons (ag_name (i := 2) nd rfl (Or.inl rfl)) (ags_cons (ag_name (i := 3) nd rfl (Or.inl rfl)) ags_nil)))) (fun _ _ _ _ _ => ats_nil) (fun _ _ _ _ _ => (ae_tup (aa_cons (av 2) (aa_cons (av 3) aa_nil))))) (av 0))
    (ass_one (as_fld T.f_Table_breadth (ae_blt (ac_sum rfl) (by rfl) T.b_sum (by decide +kernel) (aa_cons (ae_lc (own := [("width", 2), ("worth", 3)]) (ws := [2, 3]) (g := (gT 2 (gsCons (gN 2) (gsCons (gN 3) gsNil)))) (Tt := tYesU) (We := (aVar 2)) (by rfl) nd (ai_seq (av 1)) (blkOk_by (own := [("width", 2), ("worth", 3)]) (N := n_Table_init) (sc := defScope s_Table_init) (by decide +kernel)) (by decide) (fun _ _ _ _ _ => (ag_tup (by rfl) (ags_cons (ag_name (i := 2) nd rfl (Or.inl rfl)) (ags_cons (ag_name (i := 3) nd rfl (Or.inl rfl)) ags_nil)))) (fun _ _ _ _ _ => ats_nil) (fun _ _ _ _ _ => (av 2))) aa_nil)) (av 0))))))
theorem ok_law_plus (c_law_low : Cal P w K mg base 1 "_law_low" p_law_low (spA K G w_law_low_35aa)) {dV : Value} (F : FunD K "_law_plus" "_law_plus" s_law_plus dV f fd) : FnOk P w K mg base (CXR P w) 2 f fd p_law_plus (spA K G w_law_plus_7700) := by
  have nd := sc_law_plus.nd
  exact F.okA sc_law_plus (fun cdv A outer s₀ H₀ E₀ φ E hr hE hp => (ass_one (as_ret (ae_call c_law_low hr hp (aa_cons (ae_op ao_add (ae_op ao_mul (ae_ix (av 0) ae_int) (ae_ix (av 1) ae_int)) (ae_op ao_mul (ae_ix (av 1) ae_int) (ae_ix (av 0) ae_int))) (aa_cons (ae_op ao_mul (ae_ix (av 0) ae_int) (ae_ix (av 1) ae_int)) aa_nil))))))
theorem ok_law_worth (c_law_less : Cal P w K mg base 1 "_law_less" p_law_less (spA K G w_law_less_5e3f)) (c_law_plus : Cal P w K mg base 2 "_law_plus" p_law_plus (spA K G w_law_plus_7700)) (c_law_low : Cal P w K mg base 1 "_law_low" p_law_low (spA K G w_law_low_35aa)) {dV : Value} (F : FunD K "_law_worth" "_law_worth" s_law_worth dV f fd) : FnOk P w K mg base (CXR P w) 3 f fd p_law_worth (spA K G w_law_worth_3dd4) := by
  have nd := sc_law_worth.nd
  exact F.okA sc_law_worth (fun cdv A outer s₀ H₀ E₀ φ E hr hE hp => (ass_cons (as_set (i := 5) nd rfl (Or.inl rfl) (ae_blt (ac_sum rfl) (by rfl) T.b_sum (by decide +kernel) (aa_cons (ae_lc (own := [("_law_width", 3), ("_law_worth_here", 4)]) (ws := [3, 4]) (g := (gT 2 (gsCons (gN 3) (gsCons (gN 4) gsNil)))) (Tt := tYesU) (We := (aVar 3)) (by rfl) nd (ai_seq (av 0)) (blkOk_by (own := [("_law_width", 3), ("_law_worth_here", 4)]) (N := n_law_worth) (sc := defScope s_law_worth) (by decide +kernel)) (by decide) (fun _ _ _ _ _ => (ag_tup (by rfl) (ags_cons (ag_name (i := 3) nd rfl (Or.inl rfl)) (ags_cons (ag_name (i := 4) nd rfl (Or.inl rfl)) ags_nil)))) (fun _ _ _ _ _ => ats_nil) (fun _ _ _ _ _ => (av 3))) aa_nil)))
    (ass_cons (as_set (i := 6) nd rfl (Or.inl rfl) (ae_tup (aa_cons ae_int (aa_cons ae_int aa_nil))))
    (ass_cons (as_set (i := 7) nd rfl (Or.inl rfl) ae_int)
    (ass_cons (as_for (by first | exact PassesOwn.leaving | exact PassesOwn.never | exact PassesOwn.looking) rfl (ai_seq (av 0)) (ag_tup (by rfl) (ags_cons (ag_name (i := 3) nd rfl (Or.inl rfl)) (ags_cons (ag_name (i := 4) nd rfl (Or.inl rfl)) ags_nil))) (ass_cons (as_set (i := 8) nd rfl (Or.inl rfl) (ae_tup (aa_cons (av 7) (aa_cons (av 5) aa_nil))))
    (ass_cons (as_set (i := 9) nd rfl (Or.inl rfl) (ae_tup (aa_cons (ae_op ao_add (av 7) (av 3)) (aa_cons (av 5) aa_nil))))
    (ass_cons (as_set (i := 7) nd rfl (Or.inl rfl) (ae_op ao_add (av 7) (av 3)))
    (ass_cons (as_if (at_val (ae_call c_law_less hr hp (aa_cons (av 8) (aa_cons (av 1) aa_nil)))) (ass_one (as_set (i := 8) nd rfl (Or.inl rfl) (av 1))) ass_nil)
    (ass_cons (as_if (at_val (ae_call c_law_less hr hp (aa_cons (av 2) (aa_cons (av 9) aa_nil)))) (ass_one (as_set (i := 9) nd rfl (Or.inl rfl) (av 2))) ass_nil)
    (ass_one (as_if (at_val (ae_call c_law_less hr hp (aa_cons (av 8) (aa_cons (av 9) aa_nil)))) (ass_cons (as_set (i := 10) nd rfl (Or.inl rfl) (ae_op ao_sub (ae_op ao_mul (ae_ix (av 9) ae_int) (ae_ix (av 8) ae_int)) (ae_op ao_mul (ae_ix (av 8) ae_int) (ae_ix (av 9) ae_int))))
    (ass_cons (as_set (i := 10) nd rfl (Or.inl rfl) (ae_op ao_mul (ae_op ao_mul (av 10) (av 4)) (av 5)))
    (ass_one (as_set (i := 6) nd rfl (Or.inl rfl) (ae_call c_law_plus hr hp (aa_cons (av 6) (aa_cons (ae_call c_law_low hr hp (aa_cons (av 10) (aa_cons (ae_op ao_mul (ae_op ao_mul (ae_ix (av 9) ae_int) (ae_ix (av 8) ae_int)) (av 3)) aa_nil))) aa_nil))))))) ass_nil))))))))
    (ass_one (as_ret (av 6))))))))
theorem ok_law_best (c_law_less : Cal P w K mg base 1 "_law_less" p_law_less (spA K G w_law_less_5e3f)) {dV : Value} (F : FunD K "_law_best" "_law_best" s_law_best dV f fd) : FnOk P w K mg base (CXR P w) 2 f fd p_law_best (spA K G w_law_best_1f71) := by
  have nd := sc_law_best.nd
  exact F.okA sc_law_best (fun cdv A outer s₀ H₀ E₀ φ E hr hE hp => (ass_cons (as_set (i := 1) nd rfl (Or.inl rfl) ae_int)
    (ass_cons (as_for (by first | exact PassesOwn.leaving | exact PassesOwn.never | exact PassesOwn.looking) rfl (ai_rng1 (by rfl) T.b_range (ae_blt ac_len (by rfl) T.b_len (by decide +kernel) (aa_cons (av 0) aa_nil))) (ag_name (i := 2) nd rfl (Or.inl rfl)) (ass_one (as_if (at_val (ae_call c_law_less hr hp (aa_cons (ae_ix (av 0) (av 1)) (aa_cons (ae_ix (av 0) (av 2)) aa_nil)))) (ass_one (as_set (i := 1) nd rfl (Or.inl rfl) (av 2))) ass_nil)))
    (ass_one (as_ret (av 1))))))
theorem ok_law_cut (c_law_less : Cal P w K mg base 1 "_law_less" p_law_less (spA K G w_law_less_5e3f)) (c_law_worth : Cal P w K mg base 3 "_law_worth" p_law_worth (spA K G w_law_worth_3dd4)) (c_law_plus : Cal P w K mg base 2 "_law_plus" p_law_plus (spA K G w_law_plus_7700)) (c_law_low : Cal P w K mg base 1 "_law_low" p_law_low (spA K G w_law_low_35aa)) {dV : Value} (F : FunD K "_law_cut" "_law_cut" s_law_cut dV f fd) : FnOk P w K mg base (CXR P w) 4 f fd p_law_cut (spA K G w_law_cut_03a2) := by
  have nd := sc_law_cut.nd
  exact F.okA sc_law_cut (fun cdv A outer s₀ H₀ E₀ φ E hr hE hp => (ass_cons (as_if (at_cmp (ao_eq hr.units) (ae_ix (av 2) ae_int) ae_int) (ass_one (as_ret (av 1))) ass_nil)
    (ass_cons (as_set (i := 6) nd rfl (Or.inl rfl) (ae_blt (ac_sum rfl) (by rfl) T.b_sum (by decide +kernel) (aa_cons (ae_lc (own := [("_law_width", 4), ("_law_worth_here", 5)]) (ws := [4, 5]) (g := (gT 2 (gsCons (gN 4) (gsCons (gN 5) gsNil)))) (Tt := tYesU) (We := (aVar 4)) (by rfl) nd (ai_seq (av 0)) (blkOk_by (own := [("_law_width", 4), ("_law_worth_here", 5)]) (N := n_law_cut) (sc := defScope s_law_cut) (by decide +kernel)) (by decide) (fun _ _ _ _ _ => (ag_tup (by rfl) (ags_cons (ag_name (i := 4) nd rfl (Or.inl rfl)) (ags_cons (ag_name (i := 5) nd rfl (Or.inl rfl)) ags_nil)))) (fun _ _ _ _ _ => ats_nil) (fun _ _ _ _ _ => (av 4))) aa_nil)))
    (ass_cons (as_set (i := 7) nd rfl (Or.inl rfl) ae_int)
    (ass_cons (as_for (by first | exact PassesOwn.leaving | exact PassesOwn.never | exact PassesOwn.looking) rfl (ai_seq (av 0)) (ag_tup (by rfl) (ags_cons (ag_name (i := 4) nd rfl (Or.inl rfl)) (ags_cons (ag_name (i := 5) nd rfl (Or.inl rfl)) ags_nil))) (ass_cons (as_set (i := 8) nd rfl (Or.inl rfl) (ae_tup (aa_cons (av 7) (aa_cons (av 6) aa_nil))))
    (ass_cons (as_set (i := 9) nd rfl (Or.inl rfl) (ae_tup (aa_cons (ae_op ao_add (av 7) (av 4)) (aa_cons (av 6) aa_nil))))
    (ass_cons (as_set (i := 7) nd rfl (Or.inl rfl) (ae_op ao_add (av 7) (av 4)))
    (ass_cons (as_if (at_val (ae_call c_law_less hr hp (aa_cons (av 8) (aa_cons (av 1) aa_nil)))) (ass_one (as_set (i := 8) nd rfl (Or.inl rfl) (av 1))) ass_nil)
    (ass_cons (as_if (at_val (ae_call c_law_less hr hp (aa_cons (av 3) (aa_cons (av 9) aa_nil)))) (ass_one (as_set (i := 9) nd rfl (Or.inl rfl) (av 3))) ass_nil)
    (ass_one (as_if (at_val (ae_call c_law_less hr hp (aa_cons (av 8) (aa_cons (av 9) aa_nil)))) (ass_cons (as_set (i := 10) nd rfl (Or.inl rfl) (ae_call c_law_worth hr hp (aa_cons (av 0) (aa_cons (av 8) (aa_cons (av 9) aa_nil)))))
    (ass_cons (as_if (at_not (at_val (ae_call c_law_less hr hp (aa_cons (av 10) (aa_cons (av 2) aa_nil))))) (ass_cons (as_set (i := 11) nd rfl (Or.inl rfl) (ae_op ao_mul (ae_ix (av 2) ae_int) (av 4)))
    (ass_one (as_ret (ae_call c_law_plus hr hp (aa_cons (av 8) (aa_cons (ae_call c_law_low hr hp (aa_cons (av 11) (aa_cons (ae_op ao_mul (ae_op ao_mul (ae_ix (av 2) ae_int) (av 5)) (av 6)) aa_nil))) aa_nil)))))) ass_nil)
    (ass_one (as_set (i := 2) nd rfl (Or.inl rfl) (ae_call c_law_plus hr hp (aa_cons (av 2) (aa_cons (ae_tup (aa_cons (ae_un ao_neg (ae_ix (av 10) ae_int)) (aa_cons (ae_ix (av 10) ae_int) aa_nil))) aa_nil))))))) ass_nil))))))))
    (ass_one (as_ret ae_non)))))))
theorem ok_law_reply (c_law_worth : Cal P w K mg base 3 "_law_worth" p_law_worth (spA K G w_law_worth_3dd4)) (c_law_best : Cal P w K mg base 2 "_law_best" p_law_best (spA K G w_law_best_1f71)) (c_law_low : Cal P w K mg base 1 "_law_low" p_law_low (spA K G w_law_low_35aa)) (c_law_cut : Cal P w K mg base 4 "_law_cut" p_law_cut (spA K G w_law_cut_03a2)) {dV : Value} (F : FunD K "_law_reply" "_law_reply" s_law_reply dV f fd) : FnOk P w K mg base (CXR P w) 5 f fd p_law_reply (spA K G w_law_reply_e455) := by
  have nd := sc_law_reply.nd
  exact F.okA sc_law_reply (fun cdv A outer s₀ H₀ E₀ φ E hr hE hp => (ass_cons (as_if (AW.at (aw_or (at_cmp (ao_eq hr.units) (ae_ix (av 1) ae_int) ae_str) (aw_or1 (at_cmp (ao_eq hr.units) (ae_ix (av 1) ae_int) ae_str)))) (ass_cons (as_setLc (i := 4) (own := [("_law_here", 2), ("_law_there", 3)]) (ws := [2, 3]) (g := (gT 2 (gsCons (gN 2) (gsCons (gN 3) gsNil)))) (Tt := tYesU) (We := (aCall w_law_worth_3dd4 [] (aCons (aVar 0) (aCons (aVar 2) (aCons (aVar 3) aNil))))) (by rfl) nd rfl rfl (sw_true rfl rfl rfl (by decide +kernel)) (ai_seq (ae_ix (av 1) ae_int)) (blkOk_by (own := [("_law_here", 2), ("_law_there", 3)]) (N := n_law_reply) (sc := defScope s_law_reply) (by decide +kernel)) (by decide) (fun _ _ _ _ _ => (ag_tup (by rfl) (ags_cons (ag_name (i := 2) nd rfl (Or.inl rfl)) (ags_cons (ag_name (i := 3) nd rfl (Or.inl rfl)) ags_nil)))) (fun _ _ _ _ _ => ats_nil) (fun _ _ _ _ _ => (ae_call c_law_worth hr passX0 (aa_cons (av 0) (aa_cons (av 2) (aa_cons (av 3) aa_nil))))))
    (ass_cons (as_set (i := 5) nd rfl (Or.inl rfl) (ae_call c_law_best hr hp (aa_cons (av 4) aa_nil)))
    (ass_cons (as_if (AW.at (aw_and (at_cmp (ao_eq hr.units) (ae_ix (av 1) ae_int) ae_str) (aw_and1 (at_cmp ao_gt (ae_bm PySem.F.slot_list_count PySem.F.type_list_count (am_count hr.units65) (av 4) (aa_cons (ae_ix (av 4) (av 5)) aa_nil)) ae_int)))) (ass_one (as_ret ae_int)) ass_nil)
    (ass_one (as_ret (av 5)))))) ass_nil)
    (ass_cons (as_asg (ae_slice (av 1) (ao_some ae_int) (ao_some ae_int)) (ag_tup (by rfl) (ags_cons (ag_name (i := 2) nd rfl (Or.inl rfl)) (ags_cons (ag_name (i := 3) nd rfl (Or.inl rfl)) ags_nil))))
    (ass_cons (as_if (at_cmp (ao_eq hr.units) (ae_ix (av 1) ae_int) ae_str) (ass_cons (as_set (i := 6) nd rfl (Or.inl rfl) (ae_call c_law_worth hr hp (aa_cons (av 0) (aa_cons (av 2) (aa_cons (ae_ix (av 1) ae_int) aa_nil)))))
    (ass_one (as_set (i := 6) nd rfl (Or.inl rfl) (ae_call c_law_low hr hp (aa_cons (ae_op ao_mul (ae_ix (av 6) ae_int) (ae_ix (ae_ix (av 1) ae_int) ae_int)) (aa_cons (ae_op ao_mul (ae_ix (av 6) ae_int) (ae_ix (ae_ix (av 1) ae_int) ae_int)) aa_nil)))))) (ass_cons (as_setLc (i := 4) (own := [("_law_first", 7), ("_law_last", 8)]) (ws := [7, 8]) (g := (gT 2 (gsCons (gN 7) (gsCons (gN 8) gsNil)))) (Tt := tYesU) (We := (aCall w_law_worth_3dd4 [] (aCons (aVar 0) (aCons (aVar 7) (aCons (aVar 8) aNil))))) (by rfl) nd rfl rfl (sw_true rfl rfl rfl (by decide +kernel)) (ai_seq (ae_ix (av 1) ae_int)) (blkOk_by (own := [("_law_first", 7), ("_law_last", 8)]) (N := n_law_reply) (sc := defScope s_law_reply) (by decide +kernel)) (by decide) (fun _ _ _ _ _ => (ag_tup (by rfl) (ags_cons (ag_name (i := 7) nd rfl (Or.inl rfl)) (ags_cons (ag_name (i := 8) nd rfl (Or.inl rfl)) ags_nil)))) (fun _ _ _ _ _ => ats_nil) (fun _ _ _ _ _ => (ae_call c_law_worth hr passX0 (aa_cons (av 0) (aa_cons (av 7) (aa_cons (av 8) aa_nil))))))
    (ass_one (as_set (i := 6) nd rfl (Or.inl rfl) (ae_ix (av 4) (ae_call c_law_best hr hp (aa_cons (av 4) aa_nil)))))))
    (ass_cons (as_set (i := 9) nd rfl (Or.inl rfl) (ae_call c_law_cut hr hp (aa_cons (av 0) (aa_cons (av 2) (aa_cons (av 6) (aa_cons (av 3) aa_nil))))))
    (ass_cons (as_if (at_cmp ao_is (av 9) ae_non) (ass_one (as_ret (av 3))) ass_nil)
    (ass_one (as_ret (av 9)))))))))
theorem ok_is_less  {dV : Value} (F : FunD K "is_less" "is_less" s_is_less dV f fd) : FnOk P w K mg base (CXR P w) 1 f fd p_is_less (spA K G w_is_less) := by
  have nd := sc_is_less.nd
  exact F.okA sc_is_less (fun cdv A outer s₀ H₀ E₀ φ E hr hE hp => (ass_one (as_ret (ae_cmp ao_lt (ae_op ao_mul (ae_ix (av 0) ae_int) (ae_ix (av 1) ae_int)) (ae_op ao_mul (ae_ix (av 1) ae_int) (ae_ix (av 0) ae_int))))))
theorem ok_is_span (c_is_less : Cal P w K mg base 1 "is_less" p_is_less (spA K G w_is_less)) {dV : Value} (F : FunD K "is_span" "is_span" s_is_span dV f fd) : FnOk P w K mg base (CXR P w) 2 f fd p_is_span (spA K G w_is_span) := by
  have nd := sc_is_span.nd
  exact F.okA sc_is_span (fun cdv A outer s₀ H₀ E₀ φ E hr hE hp => (ass_one (as_ret (ae_and (ae_not (ae_call c_is_less hr hp (aa_cons (av 0) (aa_cons (ae_glob (v := .ref (T.t_BEGIN).choose) (by rfl) (T.t_BEGIN).choose_spec.1 rfl (T.t_BEGIN).choose_spec.2) aa_nil)))) (ae_and (ae_not (ae_call c_is_less hr hp (aa_cons (ae_glob (v := .ref (T.t_END).choose) (by rfl) (T.t_END).choose_spec.1 rfl (T.t_END).choose_spec.2) (aa_cons (av 1) aa_nil)))) (ae_one (ae_not (ae_call c_is_less hr hp (aa_cons (av 1) (aa_cons (av 0) aa_nil))))))))))
theorem ok_check_span (c_is_span : Cal P w K mg base 2 "is_span" p_is_span (spA K G w_is_span)) (O_NoSpan : PyProof.Rows.OwnCls "NoSpan" (G "NoSpan") EXCB "ValueError.__new__" mg base) {dV : Value} (F : FunD K "check_span" "check_span" s_check_span dV f fd) : FnOk P w K mg base (CXR P w) 3 f fd p_check_span (spA K G w_check_span) := by
  have nd := sc_check_span.nd
  exact F.okA sc_check_span (fun cdv A outer s₀ H₀ E₀ φ E hr hE hp => (ass_one (as_if (at_not (at_val (ae_call c_is_span hr hp (aa_cons (av 0) (aa_cons (av 1) aa_nil))))) (ass_one (as_raise (cn := "NoSpan") O_NoSpan PySem.F.excBase_ValueError hE (aa_cons ae_str aa_nil))) ass_nil)))
theorem ok_greatest_divisor  {dV : Value} (F : FunD K "greatest_divisor" "greatest_divisor" s_greatest_divisor dV f fd) : FnOk P w K mg base (CXR P w) 1 f fd p_greatest_divisor (spA K G w_greatest_divisor) := by
  have nd := sc_greatest_divisor.nd
  exact F.okA sc_greatest_divisor (fun cdv A outer s₀ H₀ E₀ φ E hr hE hp => (ass_cons (as_while (by first | exact PassesOwn.leaving | exact PassesOwn.never | exact PassesOwn.looking) (at_cmp (ao_ne hr.units) (av 1) ae_int) (ass_one (as_par (i := 0) (j := 1) (by rfl) nd rfl rfl (by decide) rfl rfl (aa_cons (av 1) (aa_cons (ae_op ao_mod (av 0) (av 1)) aa_nil)) (by rfl))))
    (ass_one (as_ret (av 0)))))
theorem ok_fraction_of (c_greatest_divisor : Cal P w K mg base 1 "greatest_divisor" p_greatest_divisor (spA K G w_greatest_divisor)) (O_NoFraction : PyProof.Rows.OwnCls "NoFraction" (G "NoFraction") EXCB "ValueError.__new__" mg base) {dV : Value} (F : FunD K "fraction_of" "fraction_of" s_fraction_of dV f fd) : FnOk P w K mg base (CXR P w) 2 f fd p_fraction_of (spA K G w_fraction_of) := by
  have nd := sc_fraction_of.nd
  exact F.okA sc_fraction_of (fun cdv A outer s₀ H₀ E₀ φ E hr hE hp => (ass_cons (as_if (at_cmp (ao_eq hr.units) (av 1) ae_int) (ass_one (as_raise (cn := "NoFraction") O_NoFraction PySem.F.excBase_ValueError hE (aa_cons ae_str aa_nil))) ass_nil)
    (ass_cons (as_set (i := 2) nd rfl (Or.inl rfl) (ae_call c_greatest_divisor hr hp (aa_cons (ae_blt ac_abs (by rfl) T.b_abs (by decide +kernel) (aa_cons (av 0) aa_nil)) (aa_cons (ae_blt ac_abs (by rfl) T.b_abs (by decide +kernel) (aa_cons (av 1) aa_nil)) aa_nil))))
    (ass_cons (as_if (at_cmp ao_lt (av 1) ae_int) (ass_one (as_set (i := 2) nd rfl (Or.inl rfl) (ae_un ao_neg (av 2)))) ass_nil)
    (ass_one (as_ret (ae_tup (aa_cons (ae_op ao_div (av 0) (av 2)) (aa_cons (ae_op ao_div (av 1) (av 2)) aa_nil)))))))))
theorem ok_minus (c_fraction_of : Cal P w K mg base 2 "fraction_of" p_fraction_of (spA K G w_fraction_of)) {dV : Value} (F : FunD K "minus" "minus" s_minus dV f fd) : FnOk P w K mg base (CXR P w) 3 f fd p_minus (spA K G w_minus) := by
  have nd := sc_minus.nd
  exact F.okA sc_minus (fun cdv A outer s₀ H₀ E₀ φ E hr hE hp => (ass_one (as_ret (ae_call c_fraction_of hr hp (aa_cons (ae_op ao_sub (ae_op ao_mul (ae_ix (av 0) ae_int) (ae_ix (av 1) ae_int)) (ae_op ao_mul (ae_ix (av 1) ae_int) (ae_ix (av 0) ae_int))) (aa_cons (ae_op ao_mul (ae_ix (av 0) ae_int) (ae_ix (av 1) ae_int)) aa_nil))))))
theorem ok_plus (c_fraction_of : Cal P w K mg base 2 "fraction_of" p_fraction_of (spA K G w_fraction_of)) {dV : Value} (F : FunD K "plus" "plus" s_plus dV f fd) : FnOk P w K mg base (CXR P w) 3 f fd p_plus (spA K G w_plus) := by
  have nd := sc_plus.nd
  exact F.okA sc_plus (fun cdv A outer s₀ H₀ E₀ φ E hr hE hp => (ass_one (as_ret (ae_call c_fraction_of hr hp (aa_cons (ae_op ao_add (ae_op ao_mul (ae_ix (av 0) ae_int) (ae_ix (av 1) ae_int)) (ae_op ao_mul (ae_ix (av 1) ae_int) (ae_ix (av 0) ae_int))) (aa_cons (ae_op ao_mul (ae_ix (av 0) ae_int) (ae_ix (av 1) ae_int)) aa_nil))))))
theorem ok_Table_worth_ahead (c_plus : Cal P w K mg base 3 "plus" p_plus (spA K G w_plus)) (c_fraction_of : Cal P w K mg base 2 "fraction_of" p_fraction_of (spA K G w_fraction_of)) {dV : Value} (F : FunD K "worth_ahead" "Table.worth_ahead" s_Table_worth_ahead dV f fd) : FnOk P w K mg base (CXR P w) 4 f fd p_Table_worth_ahead (spA K G w_Table_worth_ahead) := by
  have nd := sc_Table_worth_ahead.nd
  exact F.okA sc_Table_worth_ahead (fun cdv A outer s₀ H₀ E₀ φ E hr hE hp => (ass_cons (as_asg (av 1) (ag_tup (by rfl) (ags_cons (ag_name (i := 2) nd rfl (Or.inl rfl)) (ags_cons (ag_name (i := 3) nd rfl (Or.inl rfl)) ags_nil))))
    (ass_cons (as_set (i := 4) nd rfl (Or.inl rfl) (ae_op ao_mul (av 2) (ae_fld T.f_Table_breadth (av 0))))
    (ass_cons (as_set (i := 5) nd rfl (Or.inl rfl) (ae_tup (aa_cons ae_int (aa_cons ae_int aa_nil))))
    (ass_cons (as_for (by first | exact PassesOwn.leaving | exact PassesOwn.never | exact PassesOwn.looking) rfl (ai_seq (ae_fld T.f_Table_rows (av 0))) (ag_tup (by rfl) (ags_cons (ag_name (i := 6) nd rfl (Or.inl rfl)) (ags_cons (ag_name (i := 7) nd rfl (Or.inl rfl)) ags_nil))) (ass_cons (as_set (i := 8) nd rfl (Or.inl rfl) (ae_op ao_mul (av 6) (av 3)))
    (ass_cons (as_set (i := 9) nd rfl (Or.inl rfl) (ae_blt (ac_min rfl) (by rfl) T.b_min (by decide +kernel) (aa_cons (ae_blt (ac_max rfl) (by rfl) T.b_max (by decide +kernel) (aa_cons (av 4) (aa_cons ae_int aa_nil))) (aa_cons (av 8) aa_nil))))
    (ass_cons (as_set (i := 5) nd rfl (Or.inl rfl) (ae_call c_plus hr hp (aa_cons (av 5) (aa_cons (ae_call c_fraction_of hr hp (aa_cons (ae_op ao_mul (av 7) (av 9)) (aa_cons (av 8) aa_nil))) aa_nil))))
    (ass_one (as_aug (i := 4) nd rfl (Or.inl rfl) (av 8) aip_sub))))))
    (ass_one (as_ret (av 5))))))))
theorem ok_Table_worth (c_check_span : Cal P w K mg base 3 "check_span" p_check_span (spA K G w_check_span)) (c_minus : Cal P w K mg base 3 "minus" p_minus (spA K G w_minus)) (mf_worth_ahead : ∀ X : Cx, X.prog = P → X.w = w → X.K = K → X.mg = mg → X.base = base → MFam X G 4 "worth_ahead" [] [("Table", w_Table_worth_ahead)]) {dV : Value} (F : FunD K "worth" "Table.worth" s_Table_worth dV f fd) : FnOk P w K mg base (CXR P w) 5 f fd p_Table_worth (spA K G w_Table_worth) := by
  have nd := sc_Table_worth.nd
  exact F.okA sc_Table_worth (fun cdv A outer s₀ H₀ E₀ φ E hr hE hp => (ass_cons (as_set (i := 3) nd rfl (Or.inl rfl) (ae_if (at_cmp ao_is (av 1) ae_non) (ae_glob (v := .ref (T.t_BEGIN).choose) (by rfl) (T.t_BEGIN).choose_spec.1 rfl (T.t_BEGIN).choose_spec.2) (av 1)))
    (ass_cons (as_set (i := 4) nd rfl (Or.inl rfl) (ae_if (at_cmp ao_is (av 2) ae_non) (ae_glob (v := .ref (T.t_END).choose) (by rfl) (T.t_END).choose_spec.1 rfl (T.t_END).choose_spec.2) (av 2)))
    (ass_cons (as_expr (ae_call c_check_span hr hp (aa_cons (av 3) (aa_cons (av 4) aa_nil))))
    (ass_one (as_ret (ae_call c_minus hr hp (aa_cons (ae_meth (mf_worth_ahead _ rfl rfl rfl rfl rfl) hr hp (av 0) (aa_cons (av 4) aa_nil)) (aa_cons (ae_meth (mf_worth_ahead _ rfl rfl rfl rfl rfl) hr hp (av 0) (aa_cons (av 3) aa_nil)) aa_nil)))))))))
theorem ok_times (c_fraction_of : Cal P w K mg base 2 "fraction_of" p_fraction_of (spA K G w_fraction_of)) {dV : Value} (F : FunD K "times" "times" s_times dV f fd) : FnOk P w K mg base (CXR P w) 3 f fd p_times (spA K G w_times) := by
  have nd := sc_times.nd
  exact F.okA sc_times (fun cdv A outer s₀ H₀ E₀ φ E hr hE hp => (ass_one (as_ret (ae_call c_fraction_of hr hp (aa_cons (ae_op ao_mul (ae_ix (av 0) ae_int) (ae_ix (av 1) ae_int)) (aa_cons (ae_op ao_mul (ae_ix (av 0) ae_int) (ae_ix (av 1) ae_int)) aa_nil))))))
theorem ok_over (c_fraction_of : Cal P w K mg base 2 "fraction_of" p_fraction_of (spA K G w_fraction_of)) {dV : Value} (F : FunD K "over" "over" s_over dV f fd) : FnOk P w K mg base (CXR P w) 3 f fd p_over (spA K G w_over) := by
  have nd := sc_over.nd
  exact F.okA sc_over (fun cdv A outer s₀ H₀ E₀ φ E hr hE hp => (ass_one (as_ret (ae_call c_fraction_of hr hp (aa_cons (ae_op ao_mul (ae_ix (av 0) ae_int) (ae_ix (av 1) ae_int)) (aa_cons (ae_op ao_mul (ae_ix (av 0) ae_int) (ae_ix (av 1) ae_int)) aa_nil))))))
theorem ok_Table_reached (c_is_less : Cal P w K mg base 1 "is_less" p_is_less (spA K G w_is_less)) (c_minus : Cal P w K mg base 3 "minus" p_minus (spA K G w_minus)) (c_times : Cal P w K mg base 3 "times" p_times (spA K G w_times)) (c_fraction_of : Cal P w K mg base 2 "fraction_of" p_fraction_of (spA K G w_fraction_of)) (c_over : Cal P w K mg base 3 "over" p_over (spA K G w_over)) (c_plus : Cal P w K mg base 3 "plus" p_plus (spA K G w_plus)) {dV : Value} (F : FunD K "reached" "Table.reached" s_Table_reached dV f fd) : FnOk P w K mg base (CXR P w) 4 f fd p_Table_reached (spA K G w_Table_reached) := by
  have nd := sc_Table_reached.nd
  exact F.okA sc_Table_reached (fun cdv A outer s₀ H₀ E₀ φ E hr hE hp => (ass_cons (as_set (i := 2) nd rfl (Or.inl rfl) ae_int)
    (ass_cons (as_set (i := 3) nd rfl (Or.inl rfl) ae_int)
    (ass_cons (as_set (i := 4) nd rfl (Or.inl rfl) (av 1))
    (ass_cons (as_while (by first | exact PassesOwn.leaving | exact PassesOwn.never | exact PassesOwn.looking) (at_val (ae_call c_is_less hr hp (aa_cons (ae_tup (aa_cons (ae_ix (ae_ix (ae_fld T.f_Table_rows (av 0)) (av 2)) ae_int) (aa_cons ae_int aa_nil))) (aa_cons (av 4) aa_nil)))) (ass_cons (as_set (i := 4) nd rfl (Or.inl rfl) (ae_call c_minus hr hp (aa_cons (av 4) (aa_cons (ae_tup (aa_cons (ae_ix (ae_ix (ae_fld T.f_Table_rows (av 0)) (av 2)) ae_int) (aa_cons ae_int aa_nil))) aa_nil))))
    (ass_cons (as_aug (i := 3) nd rfl (Or.inl rfl) (ae_ix (ae_ix (ae_fld T.f_Table_rows (av 0)) (av 2)) ae_int) aip_add)
    (ass_one (as_aug (i := 2) nd rfl (Or.inl rfl) ae_int aip_add)))))
    (ass_cons (as_asg (ae_ix (ae_fld T.f_Table_rows (av 0)) (av 2)) (ag_tup (by rfl) (ags_cons (ag_name (i := 5) nd rfl (Or.inl rfl)) (ags_cons (ag_name (i := 6) nd rfl (Or.inl rfl)) ags_nil))))
    (ass_cons (as_set (i := 7) nd rfl (Or.inl rfl) (ae_call c_times hr hp (aa_cons (av 4) (aa_cons (ae_call c_fraction_of hr hp (aa_cons (av 5) (aa_cons (av 6) aa_nil))) aa_nil))))
    (ass_one (as_ret (ae_call c_over hr hp (aa_cons (ae_call c_plus hr hp (aa_cons (ae_tup (aa_cons (av 3) (aa_cons ae_int aa_nil))) (aa_cons (av 7) aa_nil))) (aa_cons (ae_tup (aa_cons (ae_fld T.f_Table_breadth (av 0)) (aa_cons ae_int aa_nil))) aa_nil))))))))))))
theorem ok_Table_cut (c_check_span : Cal P w K mg base 3 "check_span" p_check_span (spA K G w_check_span)) (c_is_less : Cal P w K mg base 1 "is_less" p_is_less (spA K G w_is_less)) (c_plus : Cal P w K mg base 3 "plus" p_plus (spA K G w_plus)) (O_NoWorth : PyProof.Rows.OwnCls "NoWorth" (G "NoWorth") EXCB "ValueError.__new__" mg base) (mf_worth : ∀ X : Cx, X.prog = P → X.w = w → X.K = K → X.mg = mg → X.base = base → MFam X G 5 "worth" [] [("Table", w_Table_worth)]) (mf_reached : ∀ X : Cx, X.prog = P → X.w = w → X.K = K → X.mg = mg → X.base = base → MFam X G 4 "reached" [] [("Table", w_Table_reached)]) (mf_worth_ahead : ∀ X : Cx, X.prog = P → X.w = w → X.K = K → X.mg = mg → X.base = base → MFam X G 4 "worth_ahead" [] [("Table", w_Table_worth_ahead)]) {dV : Value} (F : FunD K "cut" "Table.cut" s_Table_cut dV f fd) : FnOk P w K mg base (CXR P w) 6 f fd p_Table_cut (spA K G w_Table_cut) := by
  have nd := sc_Table_cut.nd
  exact F.okA sc_Table_cut (fun cdv A outer s₀ H₀ E₀ φ E hr hE hp => (ass_cons (as_set (i := 4) nd rfl (Or.inl rfl) (ae_if (at_cmp ao_is (av 3) ae_non) (ae_glob (v := .ref (T.t_END).choose) (by rfl) (T.t_END).choose_spec.1 rfl (T.t_END).choose_spec.2) (av 3)))
    (ass_cons (as_expr (ae_call c_check_span hr hp (aa_cons (av 1) (aa_cons (av 4) aa_nil))))
    (ass_cons (as_if (at_cmp ao_lt (ae_ix (av 2) ae_int) ae_int) (ass_one (as_raise (cn := "NoWorth") O_NoWorth PySem.F.excBase_ValueError hE (aa_cons ae_str aa_nil))) ass_nil)
    (ass_cons (as_if (at_val (ae_call c_is_less hr hp (aa_cons (ae_meth (mf_worth _ rfl rfl rfl rfl rfl) hr hp (av 0) (aa_cons (av 1) (aa_cons (av 4) aa_nil))) (aa_cons (av 2) aa_nil)))) (ass_one (as_ret ae_non)) ass_nil)
    (ass_cons (as_if (at_cmp (ao_eq hr.units) (ae_ix (av 2) ae_int) ae_int) (ass_one (as_ret (av 1))) ass_nil)
    (ass_one (as_ret (ae_meth (mf_reached _ rfl rfl rfl rfl rfl) hr hp (av 0) (aa_cons (ae_call c_plus hr hp (aa_cons (ae_meth (mf_worth_ahead _ rfl rfl rfl rfl rfl) hr hp (av 0) (aa_cons (av 1) aa_nil)) (aa_cons (av 2) aa_nil))) aa_nil))))))))))
theorem ok_place_by (mf_cut : ∀ X : Cx, X.prog = P → X.w = w → X.K = K → X.mg = mg → X.base = base → MFam X G 6 "cut" [] [("Table", w_Table_cut)]) {dV : Value} (F : FunD K "place_by" "place_by" s_place_by dV f fd) : FnOk P w K mg base (CXR P w) 7 f fd p_place_by (spA K G w_place_by) := by
  have nd := sc_place_by.nd
  exact F.okA sc_place_by (fun cdv A outer s₀ H₀ E₀ φ E hr hE hp => (ass_cons (as_set (i := 4) nd rfl (Or.inl rfl) (ae_meth (mf_cut _ rfl rfl rfl rfl rfl) hr hp (av 0) (aa_cons (av 1) (aa_cons (av 3) (aa_cons (av 2) aa_nil)))))
    (ass_one (as_ret (ae_if (at_cmp ao_is (av 4) ae_non) (av 2) (av 4))))))
theorem ok_greater (c_is_less : Cal P w K mg base 1 "is_less" p_is_less (spA K G w_is_less)) {dV : Value} (F : FunD K "greater" "greater" s_greater dV f fd) : FnOk P w K mg base (CXR P w) 2 f fd p_greater (spA K G w_greater) := by
  have nd := sc_greater.nd
  exact F.okA sc_greater (fun cdv A outer s₀ H₀ E₀ φ E hr hE hp => (ass_one (as_ret (ae_if (at_val (ae_call c_is_less hr hp (aa_cons (av 0) (aa_cons (av 1) aa_nil)))) (av 1) (av 0)))))
theorem ok_greatest_of (c_greater : Cal P w K mg base 2 "greater" p_greater (spA K G w_greater)) {dV : Value} (F : FunD K "greatest_of" "greatest_of" s_greatest_of dV f fd) : FnOk P w K mg base (CXR P w) 3 f fd p_greatest_of (spA K G w_greatest_of) := by
  have nd := sc_greatest_of.nd
  exact F.okA sc_greatest_of (fun cdv A outer s₀ H₀ E₀ φ E hr hE hp => (ass_cons (as_set (i := 1) nd rfl (Or.inl rfl) (ae_ix (av 0) ae_int))
    (ass_cons (as_for (by first | exact PassesOwn.leaving | exact PassesOwn.never | exact PassesOwn.looking) rfl (ai_seq (av 0)) (ag_name (i := 2) nd rfl (Or.inl rfl)) (ass_one (as_set (i := 1) nd rfl (Or.inl rfl) (ae_call c_greater hr hp (aa_cons (av 1) (aa_cons (av 2) aa_nil))))))
    (ass_one (as_ret (av 1))))))
theorem ok_worths_of (mf_worth : ∀ X : Cx, X.prog = P → X.w = w → X.K = K → X.mg = mg → X.base = base → MFam X G 5 "worth" [] [("Table", w_Table_worth)]) {dV : Value} (F : FunD K "worths_of" "worths_of" s_worths_of dV f fd) : FnOk P w K mg base (CXR P w) 6 f fd p_worths_of (spA K G w_worths_of) := by
  have nd := sc_worths_of.nd
  exact F.okA sc_worths_of (fun cdv A outer s₀ H₀ E₀ φ E hr hE hp => (ass_one (as_ret (ae_lc (own := [("here", 2), ("there", 3)]) (ws := [2, 3]) (g := (gT 2 (gsCons (gN 2) (gsCons (gN 3) gsNil)))) (Tt := tYesU) (We := (aMeth "worth" [] [("Table", w_Table_worth)] (aVar 0) (aCons (aVar 2) (aCons (aVar 3) aNil)))) (by rfl) nd (ai_seq (av 1)) (blkOk_by (own := [("here", 2), ("there", 3)]) (N := n_worths_of) (sc := defScope s_worths_of) (by decide +kernel)) (by decide) (fun _ _ _ _ _ => (ag_tup (by rfl) (ags_cons (ag_name (i := 2) nd rfl (Or.inl rfl)) (ags_cons (ag_name (i := 3) nd rfl (Or.inl rfl)) ags_nil)))) (fun _ _ _ _ _ => ats_nil) (fun _ _ _ _ _ => (ae_meth (mf_worth _ rfl rfl rfl rfl rfl) hr passX0 (av 0) (aa_cons (av 2) (aa_cons (av 3) aa_nil))))))))
theorem ok_reply_by (c_place_by : Cal P w K mg base 7 "place_by" p_place_by (spA K G w_place_by)) (c_times : Cal P w K mg base 3 "times" p_times (spA K G w_times)) (c_greatest_of : Cal P w K mg base 3 "greatest_of" p_greatest_of (spA K G w_greatest_of)) (c_worths_of : Cal P w K mg base 6 "worths_of" p_worths_of (spA K G w_worths_of)) (mf_worth : ∀ X : Cx, X.prog = P → X.w = w → X.K = K → X.mg = mg → X.base = base → MFam X G 5 "worth" [] [("Table", w_Table_worth)]) {dV : Value} (F : FunD K "reply_by" "reply_by" s_reply_by dV f fd) : FnOk P w K mg base (CXR P w) 8 f fd p_reply_by (spA K G w_reply_by) := by
  have nd := sc_reply_by.nd
  exact F.okA sc_reply_by (fun cdv A outer s₀ H₀ E₀ φ E hr hE hp => (ass_cons (as_set (i := 2) nd rfl (Or.inl rfl) (ae_ix (av 1) ae_int))
    (ass_cons (as_if (at_cmp (ao_eq hr.units) (av 2) ae_str) (ass_cons (as_asg (ae_slice (av 1) (ao_some ae_int) ao_none) (ag_tup (by rfl) (ags_cons (ag_name (i := 3) nd rfl (Or.inl rfl)) (ags_cons (ag_name (i := 4) nd rfl (Or.inl rfl)) (ags_cons (ag_name (i := 5) nd rfl (Or.inl rfl)) (ags_cons (ag_name (i := 6) nd rfl (Or.inl rfl)) ags_nil))))))
    (ass_one (as_ret (ae_call c_place_by hr hp (aa_cons (av 0) (aa_cons (av 3) (aa_cons (av 4) (aa_cons (ae_call c_times hr hp (aa_cons (av 6) (aa_cons (ae_meth (mf_worth _ rfl rfl rfl rfl rfl) hr hp (av 0) (aa_cons (av 3) (aa_cons (av 5) aa_nil))) aa_nil))) aa_nil)))))))) ass_nil)
    (ass_cons (as_if (at_cmp (ao_eq hr.units) (av 2) ae_str) (ass_cons (as_asg (ae_slice (av 1) (ao_some ae_int) ao_none) (ag_tup (by rfl) (ags_cons (ag_name (i := 3) nd rfl (Or.inl rfl)) (ags_cons (ag_name (i := 4) nd rfl (Or.inl rfl)) (ags_cons (ag_name (i := 7) nd rfl (Or.inl rfl)) ags_nil)))))
    (ass_one (as_ret (ae_call c_place_by hr hp (aa_cons (av 0) (aa_cons (av 3) (aa_cons (av 4) (aa_cons (ae_call c_greatest_of hr hp (aa_cons (ae_call c_worths_of hr hp (aa_cons (av 0) (aa_cons (av 7) aa_nil))) aa_nil)) aa_nil)))))))) ass_nil)
    (ass_cons (as_set (i := 8) nd rfl (Or.inl rfl) (ae_call c_worths_of hr hp (aa_cons (av 0) (aa_cons (ae_ix (av 1) ae_int) aa_nil))))
    (ass_cons (as_set (i := 9) nd rfl (Or.inl rfl) (ae_call c_greatest_of hr hp (aa_cons (av 8) aa_nil)))
    (ass_cons (as_if (AW.at (aw_and (at_cmp (ao_eq hr.units) (av 2) ae_str) (aw_and1 (at_cmp ao_gt (ae_bm PySem.F.slot_list_count PySem.F.type_list_count (am_count hr.units65) (av 8) (aa_cons (av 9) aa_nil)) ae_int)))) (ass_one (as_ret (ae_glob (v := .int 3) (by rfl) (T.i_NO_PIECE).choose_spec ⟨_, rfl⟩ (fun _ _ => .int)))) ass_nil)
    (ass_one (as_ret (ae_bm PySem.F.slot_list_index PySem.F.type_list_index (am_index hr.units65) (av 8) (aa_cons (av 9) aa_nil)))))))))))
theorem ok_Table_stretches  {dV : Value} (F : FunD K "stretches" "Table.stretches" s_Table_stretches dV f fd) : FnOk P w K mg base (CXR P w) 1 f fd p_Table_stretches (spA K G w_Table_stretches) := by
  have nd := sc_Table_stretches.nd
  exact F.okA sc_Table_stretches (fun cdv A outer s₀ H₀ E₀ φ E hr hE hp => (ass_one (as_ret (ae_bty ac_list (by rfl) T.b_list (by decide +kernel) (aa_cons (ae_fld T.f_Table_rows (av 0)) aa_nil)))))
theorem ok_law (c_law_box : Cal P w K mg base 1 "_law_box" p_law_box (spA K G w_law_box_1502)) (c_law_ask : Cal P w K mg base 4 "_law_ask" p_law_ask (spA K G w_law_ask_cd95)) (c_law_rows : Cal P w K mg base 3 "_law_rows" p_law_rows (spA K G w_law_rows_667c)) (c_law_reply : Cal P w K mg base 5 "_law_reply" p_law_reply (spA K G w_law_reply_e455)) (c_reply_by : Cal P w K mg base 8 "reply_by" p_reply_by (spA K G w_reply_by)) (mk_Table : Mak P w K mg base 2 "Table" (G "Table") p_Table_init (spA K G w_Table_init)) (mk1_Table : MakKw P w K mg base 2 "Table" (G "Table") p_Table_init ["stretches"] g1V (spA K G w_Table_init)) (mf_stretches : ∀ X : Cx, X.prog = P → X.w = w → X.K = K → X.mg = mg → X.base = base → MFam X G 1 "stretches" [] [("Table", w_Table_stretches)]) {dV : Value} (F : FunD K "law" "law" s_law dV f fd) : FnOk P w K mg base (CXR P w) 9 f fd p_law (spA K G w_law_2142) := by
  have nd := sc_law.nd
  exact F.okA sc_law (fun cdv A outer s₀ H₀ E₀ φ E hr hE hp => (ass_cons (as_set (i := 1) nd rfl (Or.inr rfl) (ae_call c_law_box hr hp (aa_cons (av 0) aa_nil)))
    (ass_cons (as_setLc (i := 3) (own := [("_law_k", 2)]) (ws := [2]) (g := (gN 2)) (Tt := tYesU) (We := (aCall w_law_ask_cd95 [] (aCons (aVar 1) aNil))) (by rfl) nd rfl rfl (sw_true rfl rfl rfl (by decide +kernel)) (ai_rng1 (by rfl) T.b_range ae_int) (blkOk_by (own := [("_law_k", 2)]) (N := n_law) (sc := defScope s_law) (by decide +kernel)) (by decide) (fun _ _ _ _ _ => (ag_name (i := 2) nd rfl (Or.inl rfl))) (fun _ _ _ _ _ => ats_nil) (fun _ _ _ _ _ => (ae_call c_law_ask hr passX0 (aa_cons (av 1) aa_nil))))
    (ass_cons (as_set (i := 4) nd rfl (Or.inl rfl) (ae_call c_law_rows hr hp (aa_cons (av 1) (aa_cons ae_int aa_nil))))
    (ass_cons (as_set (i := 5) nd rfl (Or.inl rfl) (ae_call c_law_rows hr hp (aa_cons (av 1) (aa_cons ae_int aa_nil))))
    (ass_cons (as_set (i := 6) nd rfl (Or.inl rfl) (ae_make (cn := "Table") mk_Table hr hp (aa_cons (av 4) aa_nil)))
    (ass_cons (as_set (i := 7) nd rfl (Or.inl rfl) (ae_make1 (cn := "Table") mk1_Table hr hp (ak_cons (av 5) ak_nil)))
    (ass_cons (as_for (by first | exact PassesOwn.leaving | exact PassesOwn.never | exact PassesOwn.looking) rfl (ai_seq (av 3)) (ag_name (i := 8) nd rfl (Or.inl rfl)) (ass_cons (as_set (i := 9) nd rfl (Or.inl rfl) (ae_call c_law_reply hr hp (aa_cons (av 4) (aa_cons (av 8) aa_nil))))
    (ass_cons (as_if (AW.at (aw_or (at_cmp (ao_ne hr.units) (ae_call c_reply_by hr hp (aa_cons (av 6) (aa_cons (av 8) aa_nil))) (av 9)) (aw_or1 (at_cmp (ao_ne hr.units) (ae_call c_reply_by hr hp (aa_cons (av 7) (aa_cons (av 8) aa_nil))) (ae_call c_law_reply hr hp (aa_cons (av 5) (aa_cons (av 8) aa_nil))))))) (ass_one (as_ret ae_bl)) ass_nil)
    (ass_one (as_if (at_cmp (ao_ne hr.units) (ae_call c_reply_by hr hp (aa_cons (av 6) (aa_cons (av 8) aa_nil))) (av 9)) (ass_one (as_ret ae_bl)) ass_nil)))))
    (ass_one (as_ret (ae_and (ae_cmp (ao_eq hr.units) (ae_meth0 (mf_stretches _ rfl rfl rfl rfl rfl) hr hp (av 6)) (av 4)) (ae_one (ae_cmp (ao_eq hr.units) (ae_meth0 (mf_stretches _ rfl rfl rfl rfl rfl) hr hp (av 7)) (av 5))))))))))))))
end
end K

namespace K
open PySem L2
structure TopF_fraction_of (K : PySem.W.Frag) (mg : Str → Option Value) : Prop where
  ex : ∃ (f : Addr) (fd : FuncData) (T : Addr) (o : Obj) (tk0 : Tok) (n : Nat), FunD K "fraction_of" "fraction_of" s_fraction_of (.ref T) f fd ∧ mg "fraction_of" = some (.ref f) ∧ K.lookup T = some o ∧ o.data = .seq #[.int 1 tk0] n
theorem topF_fraction_of {K : PySem.W.Frag} {mg : Str → Option Value} {h : Heap} {f T : Addr} {oc : Value} {od an : Option Addr} {osl : Array (Option Value)} {kV doc pm cdv ct : Value} {oT : Obj} {tk0 : Tok} {n : Nat} (X : K.In h) (N : h.Ns mainGlobals mg) (a : PySem.W.nsIn K mainGlobals "fraction_of" = some (some (.ref f)))
    (l : K.lookup f = some ⟨oc, od, .func (PySem.W.fnOf "fraction_of" "fraction_of" (defArgs s_fraction_of) (defBody s_fraction_of) (defScope s_fraction_of) (.ref T) kV doc pm an cdv ct), osl⟩) (c : PySem.W.codeIn K cdv "fraction_of" = true) (k : PySem.W.keepIn K (.ref f) = true)
    (t : K.lookup T = some oT) (d : oT.data = .seq #[.int 1 tk0] n) : TopF_fraction_of K mg := ⟨f, _, T, oT, tk0, n, funD_mk l c k, PySem.W.mg_of X N a, t, d⟩
theorem TopF_fraction_of.cal {P : Program} {w : World} {K : PySem.W.Frag} {mg : Str → Option Value} {base : Heap} {sp : Sp} {n : Nat} (T : TopF_fraction_of K mg) (ok : ∀ dV f fd, FunD K "fraction_of" "fraction_of" s_fraction_of dV f fd → FnOk P w K mg base (CXR P w) n f fd p_fraction_of sp) : Cal P w K mg base n "fraction_of" p_fraction_of sp := by
  obtain ⟨f, fd, T, o, tk0, m, F, hm, ho, hd⟩ := T.ex
  have G := ok _ f fd F
  have kp := F.kp
  obtain ⟨oc, od, kV, doc, pm, an, cdv, ct, osl, rfl, lk, hcd⟩ := F.ex
  refine ⟨f, _, G, hm, kp, fun s us X hl => ?_⟩
  match us, hl with
  | [u0, u1], _ => exact PySem.W.binds_K X rfl ho hd rfl rfl
structure TopMD_Table_worth (K : PySem.W.Frag) (C : Addr) : Prop where
  ex : ∃ (f : Addr) (fd : FuncData) (T : Addr) (o : Obj) (n : Nat), FunD K "worth" "Table.worth" s_Table_worth (.ref T) f fd ∧ Meth K C "worth" f ∧ K.lookup T = some o ∧ o.data = .seq #[.none, .none] n
theorem topMD_Table_worth {K : PySem.W.Frag} {C f T : Addr} {oc : Value} {od an : Option Addr} {osl : Array (Option Value)} {kV doc pm cdv ct : Value} {oT : Obj} {n : Nat} (a : PySem.W.findIn K (.ref C) "worth" = some (some (.ref f))) (i : PySem.W.isFn K (.ref f) = true)
    (l : K.lookup f = some ⟨oc, od, .func (PySem.W.fnOf "worth" "Table.worth" (defArgs s_Table_worth) (defBody s_Table_worth) (defScope s_Table_worth) (.ref T) kV doc pm an cdv ct), osl⟩) (c : PySem.W.codeIn K cdv "Table.worth" = true) (k : PySem.W.keepIn K (.ref f) = true)
    (t : K.lookup T = some oT) (d : oT.data = .seq #[.none, .none] n) : TopMD_Table_worth K C := ⟨f, _, T, oT, n, funD_mk l c k, ⟨a, i, k⟩, t, d⟩
theorem TopMD_Table_worth.met {P : Program} {w : World} {K : PySem.W.Frag} {mg : Str → Option Value} {base : Heap} {sp : Sp} {C : Addr} {n : Nat} (T : TopMD_Table_worth K C) (cl : Cls K C) (ok : ∀ dV f fd, FunD K "worth" "Table.worth" s_Table_worth dV f fd → FnOk P w K mg base (CXR P w) n f fd p_Table_worth sp) : Met P w K mg base n C "worth" p_Table_worth sp := by
  obtain ⟨f, fd, T, o, m, F, hm, ho, hd⟩ := T.ex
  have G := ok _ f fd F
  obtain ⟨oc, od, kV, doc, pm, an, cdv, ct, osl, rfl, lk, hcd⟩ := F.ex
  refine ⟨cl, f, _, hm, G, fun s us X hl => ?_⟩
  match us, hl with
  | [u0, u1, u2], _ => exact PySem.W.binds_K X rfl ho hd rfl rfl
structure TopMD_Table_cut (K : PySem.W.Frag) (C : Addr) : Prop where
  ex : ∃ (f : Addr) (fd : FuncData) (T : Addr) (o : Obj) (n : Nat), FunD K "cut" "Table.cut" s_Table_cut (.ref T) f fd ∧ Meth K C "cut" f ∧ K.lookup T = some o ∧ o.data = .seq #[.none] n
theorem topMD_Table_cut {K : PySem.W.Frag} {C f T : Addr} {oc : Value} {od an : Option Addr} {osl : Array (Option Value)} {kV doc pm cdv ct : Value} {oT : Obj} {n : Nat} (a : PySem.W.findIn K (.ref C) "cut" = some (some (.ref f))) (i : PySem.W.isFn K (.ref f) = true)
    (l : K.lookup f = some ⟨oc, od, .func (PySem.W.fnOf "cut" "Table.cut" (defArgs s_Table_cut) (defBody s_Table_cut) (defScope s_Table_cut) (.ref T) kV doc pm an cdv ct), osl⟩) (c : PySem.W.codeIn K cdv "Table.cut" = true) (k : PySem.W.keepIn K (.ref f) = true)
    (t : K.lookup T = some oT) (d : oT.data = .seq #[.none] n) : TopMD_Table_cut K C := ⟨f, _, T, oT, n, funD_mk l c k, ⟨a, i, k⟩, t, d⟩
theorem TopMD_Table_cut.met {P : Program} {w : World} {K : PySem.W.Frag} {mg : Str → Option Value} {base : Heap} {sp : Sp} {C : Addr} {n : Nat} (T : TopMD_Table_cut K C) (cl : Cls K C) (ok : ∀ dV f fd, FunD K "cut" "Table.cut" s_Table_cut dV f fd → FnOk P w K mg base (CXR P w) n f fd p_Table_cut sp) : Met P w K mg base n C "cut" p_Table_cut sp := by
  obtain ⟨f, fd, T, o, m, F, hm, ho, hd⟩ := T.ex
  have G := ok _ f fd F
  obtain ⟨oc, od, kV, doc, pm, an, cdv, ct, osl, rfl, lk, hcd⟩ := F.ex
  refine ⟨cl, f, _, hm, G, fun s us X hl => ?_⟩
  match us, hl with
  | [u0, u1, u2, u3], _ => exact PySem.W.binds_K X rfl ho hd rfl rfl
structure All (K : PySem.W.Frag) (mg : Str → Option Value) (G : Str → Addr) : Prop where
  T : Tops K mg G
  t_law_box : Top1 K mg "_law_box" s_law_box .none
  t_law_mixed : Top1 K mg "_law_mixed" s_law_mixed .none
  t_law_take : Top1 K mg "_law_take" s_law_take .none
  t_law_low : Top1 K mg "_law_low" s_law_low .none
  t_law_place : Top1 K mg "_law_place" s_law_place .none
  t_law_less : Top1 K mg "_law_less" s_law_less .none
  t_law_ask : Top1 K mg "_law_ask" s_law_ask .none
  t_law_rows : Top1 K mg "_law_rows" s_law_rows .none
  t_is_table : Top1 K mg "is_table" s_is_table .none
  t_law_plus : Top1 K mg "_law_plus" s_law_plus .none
  t_law_worth : Top1 K mg "_law_worth" s_law_worth .none
  t_law_best : Top1 K mg "_law_best" s_law_best .none
  t_law_cut : Top1 K mg "_law_cut" s_law_cut .none
  t_law_reply : Top1 K mg "_law_reply" s_law_reply .none
  t_is_less : Top1 K mg "is_less" s_is_less .none
  t_is_span : Top1 K mg "is_span" s_is_span .none
  t_check_span : Top1 K mg "check_span" s_check_span .none
  t_greatest_divisor : Top1 K mg "greatest_divisor" s_greatest_divisor .none
  t_fraction_of : TopF_fraction_of K mg
  t_minus : Top1 K mg "minus" s_minus .none
  t_plus : Top1 K mg "plus" s_plus .none
  t_times : Top1 K mg "times" s_times .none
  t_over : Top1 K mg "over" s_over .none
  t_place_by : Top1 K mg "place_by" s_place_by .none
  t_greater : Top1 K mg "greater" s_greater .none
  t_greatest_of : Top1 K mg "greatest_of" s_greatest_of .none
  t_worths_of : Top1 K mg "worths_of" s_worths_of .none
  t_reply_by : Top1 K mg "reply_by" s_reply_by .none
  x_Table : ClsX K mg "Table" (G "Table")
  m_Table_init : TopM K (G "Table") "__init__" "Table.__init__" s_Table_init
  m_Table_worth_ahead : TopM K (G "Table") "worth_ahead" "Table.worth_ahead" s_Table_worth_ahead
  m_Table_worth : TopMD_Table_worth K (G "Table")
  m_Table_reached : TopM K (G "Table") "reached" "Table.reached" s_Table_reached
  m_Table_cut : TopMD_Table_cut K (G "Table")
  m_Table_stretches : TopM K (G "Table") "stretches" "Table.stretches" s_Table_stretches
theorem law_ok {P : Program} {w : World} {K : PySem.W.Frag} {mg : Str → Option Value} {base : Heap} {G : Str → Addr} {f : Addr} {fd : FuncData} (S : All K mg G) (X : K.In base) (N : base.Ns mainGlobals mg) (F : FunD K "law" "law" s_law .none f fd) : FnOk P w K mg base (CXR P w) 9 f fd p_law (spL K) := by
  have T := S.T
  have O_NoTable := own_mk X N T.x_NoTable.2 T.x_NoTable.1
  have O_NoSpan := own_mk X N T.x_NoSpan.2 T.x_NoSpan.1
  have O_NoWorth := own_mk X N T.x_NoWorth.2 T.x_NoWorth.1
  have O_NoFraction := own_mk X N T.x_NoFraction.2 T.x_NoFraction.1
  have c_law_box : Cal P w K mg base 1 "_law_box" p_law_box (spA K G w_law_box_1502) := S.t_law_box.cal (fun _ _ _ _ _ _ us hl => match us, hl with | [_], _ => rfl) fun f fd F => ok_law_box T F
  have c_law_mixed : Cal P w K mg base 1 "_law_mixed" p_law_mixed (spA K G w_law_mixed_0002) := S.t_law_mixed.cal (fun _ _ _ _ _ _ us hl => match us, hl with | [_, _], _ => rfl) fun f fd F => ok_law_mixed T F
  have c_law_take : Cal P w K mg base 2 "_law_take" p_law_take (spA K G w_law_take_dbef) := S.t_law_take.cal (fun _ _ _ _ _ _ us hl => match us, hl with | [_, _], _ => rfl) fun f fd F => ok_law_take T c_law_mixed F
  have c_law_low : Cal P w K mg base 1 "_law_low" p_law_low (spA K G w_law_low_35aa) := S.t_law_low.cal (fun _ _ _ _ _ _ us hl => match us, hl with | [_, _], _ => rfl) fun f fd F => ok_law_low T F
  have c_law_place : Cal P w K mg base 3 "_law_place" p_law_place (spA K G w_law_place_31c3) := S.t_law_place.cal (fun _ _ _ _ _ _ us hl => match us, hl with | [_], _ => rfl) fun f fd F => ok_law_place T c_law_take c_law_low F
  have c_law_less : Cal P w K mg base 1 "_law_less" p_law_less (spA K G w_law_less_5e3f) := S.t_law_less.cal (fun _ _ _ _ _ _ us hl => match us, hl with | [_, _], _ => rfl) fun f fd F => ok_law_less T F
  have c_law_ask : Cal P w K mg base 4 "_law_ask" p_law_ask (spA K G w_law_ask_cd95) := S.t_law_ask.cal (fun _ _ _ _ _ _ us hl => match us, hl with | [_], _ => rfl) fun f fd F => ok_law_ask T c_law_take c_law_place c_law_less F
  have c_law_rows : Cal P w K mg base 3 "_law_rows" p_law_rows (spA K G w_law_rows_667c) := S.t_law_rows.cal (fun _ _ _ _ _ _ us hl => match us, hl with | [_, _], _ => rfl) fun f fd F => ok_law_rows T c_law_take F
  have c_is_table : Cal P w K mg base 1 "is_table" p_is_table (spA K G w_is_table) := S.t_is_table.cal (fun _ _ _ _ _ _ us hl => match us, hl with | [_], _ => rfl) fun f fd F => ok_is_table T F
  have mk1_Table : MakKw P w K mg base 2 "Table" (G "Table") p_Table_init ["stretches"] g1V (spA K G w_Table_init) := S.m_Table_init.mak1 S.x_Table.mks S.x_Table.kc S.x_Table.nm (fun _ _ _ _ _ _ _ _ => rfl) (by decide) fun f fd F => ok_Table_init T c_is_table O_NoTable F
  have mk_Table : Mak P w K mg base 2 "Table" (G "Table") p_Table_init (spA K G w_Table_init) := S.m_Table_init.mak S.x_Table.mks S.x_Table.kc S.x_Table.nm (fun _ _ _ _ _ _ us hl => match us, hl with | [_, _], _ => rfl) fun f fd F => ok_Table_init T c_is_table O_NoTable F
  have c_law_plus : Cal P w K mg base 2 "_law_plus" p_law_plus (spA K G w_law_plus_7700) := S.t_law_plus.cal (fun _ _ _ _ _ _ us hl => match us, hl with | [_, _], _ => rfl) fun f fd F => ok_law_plus T c_law_low F
  have c_law_worth : Cal P w K mg base 3 "_law_worth" p_law_worth (spA K G w_law_worth_3dd4) := S.t_law_worth.cal (fun _ _ _ _ _ _ us hl => match us, hl with | [_, _, _], _ => rfl) fun f fd F => ok_law_worth T c_law_less c_law_plus c_law_low F
  have c_law_best : Cal P w K mg base 2 "_law_best" p_law_best (spA K G w_law_best_1f71) := S.t_law_best.cal (fun _ _ _ _ _ _ us hl => match us, hl with | [_], _ => rfl) fun f fd F => ok_law_best T c_law_less F
  have c_law_cut : Cal P w K mg base 4 "_law_cut" p_law_cut (spA K G w_law_cut_03a2) := S.t_law_cut.cal (fun _ _ _ _ _ _ us hl => match us, hl with | [_, _, _, _], _ => rfl) fun f fd F => ok_law_cut T c_law_less c_law_worth c_law_plus c_law_low F
  have c_law_reply : Cal P w K mg base 5 "_law_reply" p_law_reply (spA K G w_law_reply_e455) := S.t_law_reply.cal (fun _ _ _ _ _ _ us hl => match us, hl with | [_, _], _ => rfl) fun f fd F => ok_law_reply T c_law_worth c_law_best c_law_low c_law_cut F
  have c_is_less : Cal P w K mg base 1 "is_less" p_is_less (spA K G w_is_less) := S.t_is_less.cal (fun _ _ _ _ _ _ us hl => match us, hl with | [_, _], _ => rfl) fun f fd F => ok_is_less T F
  have c_is_span : Cal P w K mg base 2 "is_span" p_is_span (spA K G w_is_span) := S.t_is_span.cal (fun _ _ _ _ _ _ us hl => match us, hl with | [_, _], _ => rfl) fun f fd F => ok_is_span T c_is_less F
  have c_check_span : Cal P w K mg base 3 "check_span" p_check_span (spA K G w_check_span) := S.t_check_span.cal (fun _ _ _ _ _ _ us hl => match us, hl with | [_, _], _ => rfl) fun f fd F => ok_check_span T c_is_span O_NoSpan F
  have c_greatest_divisor : Cal P w K mg base 1 "greatest_divisor" p_greatest_divisor (spA K G w_greatest_divisor) := S.t_greatest_divisor.cal (fun _ _ _ _ _ _ us hl => match us, hl with | [_, _], _ => rfl) fun f fd F => ok_greatest_divisor T F
  have c_fraction_of : Cal P w K mg base 2 "fraction_of" p_fraction_of (spA K G w_fraction_of) := S.t_fraction_of.cal fun dV f fd F => ok_fraction_of T c_greatest_divisor O_NoFraction F
  have c_minus : Cal P w K mg base 3 "minus" p_minus (spA K G w_minus) := S.t_minus.cal (fun _ _ _ _ _ _ us hl => match us, hl with | [_, _], _ => rfl) fun f fd F => ok_minus T c_fraction_of F
  have c_plus : Cal P w K mg base 3 "plus" p_plus (spA K G w_plus) := S.t_plus.cal (fun _ _ _ _ _ _ us hl => match us, hl with | [_, _], _ => rfl) fun f fd F => ok_plus T c_fraction_of F
  have e_Table_worth_ahead : Met P w K mg base 4 (G "Table") "worth_ahead" p_Table_worth_ahead (spA K G w_Table_worth_ahead) := S.m_Table_worth_ahead.met S.x_Table.cl (fun _ _ _ _ _ _ us hl => match us, hl with | [_, _], _ => rfl) fun f fd F => ok_Table_worth_ahead T c_plus c_fraction_of F
  have e_Table_worth : Met P w K mg base 5 (G "Table") "worth" p_Table_worth (spA K G w_Table_worth) := S.m_Table_worth.met S.x_Table.cl fun dV f fd F => ok_Table_worth T c_check_span c_minus (fun X h1 h2 h3 h4 h5 => by obtain rfl := h1; obtain rfl := h2; obtain rfl := h3; obtain rfl := h4; obtain rfl := h5; exact mfam1 e_Table_worth_ahead) F
  have c_times : Cal P w K mg base 3 "times" p_times (spA K G w_times) := S.t_times.cal (fun _ _ _ _ _ _ us hl => match us, hl with | [_, _], _ => rfl) fun f fd F => ok_times T c_fraction_of F
  have c_over : Cal P w K mg base 3 "over" p_over (spA K G w_over) := S.t_over.cal (fun _ _ _ _ _ _ us hl => match us, hl with | [_, _], _ => rfl) fun f fd F => ok_over T c_fraction_of F
  have e_Table_reached : Met P w K mg base 4 (G "Table") "reached" p_Table_reached (spA K G w_Table_reached) := S.m_Table_reached.met S.x_Table.cl (fun _ _ _ _ _ _ us hl => match us, hl with | [_, _], _ => rfl) fun f fd F => ok_Table_reached T c_is_less c_minus c_times c_fraction_of c_over c_plus F
  have e_Table_cut : Met P w K mg base 6 (G "Table") "cut" p_Table_cut (spA K G w_Table_cut) := S.m_Table_cut.met S.x_Table.cl fun dV f fd F => ok_Table_cut T c_check_span c_is_less c_plus O_NoWorth (fun X h1 h2 h3 h4 h5 => by obtain rfl := h1; obtain rfl := h2; obtain rfl := h3; obtain rfl := h4; obtain rfl := h5; exact mfam1 e_Table_worth) (fun X h1 h2 h3 h4 h5 => by obtain rfl := h1; obtain rfl := h2; obtain rfl := h3; obtain rfl := h4; obtain rfl := h5; exact mfam1 e_Table_reached) (fun X h1 h2 h3 h4 h5 => by obtain rfl := h1; obtain rfl := h2; obtain rfl := h3; obtain rfl := h4; obtain rfl := h5; exact mfam1 e_Table_worth_ahead) F
  have c_place_by : Cal P w K mg base 7 "place_by" p_place_by (spA K G w_place_by) := S.t_place_by.cal (fun _ _ _ _ _ _ us hl => match us, hl with | [_, _, _, _], _ => rfl) fun f fd F => ok_place_by T (fun X h1 h2 h3 h4 h5 => by obtain rfl := h1; obtain rfl := h2; obtain rfl := h3; obtain rfl := h4; obtain rfl := h5; exact mfam1 e_Table_cut) F
  have c_greater : Cal P w K mg base 2 "greater" p_greater (spA K G w_greater) := S.t_greater.cal (fun _ _ _ _ _ _ us hl => match us, hl with | [_, _], _ => rfl) fun f fd F => ok_greater T c_is_less F
  have c_greatest_of : Cal P w K mg base 3 "greatest_of" p_greatest_of (spA K G w_greatest_of) := S.t_greatest_of.cal (fun _ _ _ _ _ _ us hl => match us, hl with | [_], _ => rfl) fun f fd F => ok_greatest_of T c_greater F
  have c_worths_of : Cal P w K mg base 6 "worths_of" p_worths_of (spA K G w_worths_of) := S.t_worths_of.cal (fun _ _ _ _ _ _ us hl => match us, hl with | [_, _], _ => rfl) fun f fd F => ok_worths_of T (fun X h1 h2 h3 h4 h5 => by obtain rfl := h1; obtain rfl := h2; obtain rfl := h3; obtain rfl := h4; obtain rfl := h5; exact mfam1 e_Table_worth) F
  have c_reply_by : Cal P w K mg base 8 "reply_by" p_reply_by (spA K G w_reply_by) := S.t_reply_by.cal (fun _ _ _ _ _ _ us hl => match us, hl with | [_, _], _ => rfl) fun f fd F => ok_reply_by T c_place_by c_times c_greatest_of c_worths_of (fun X h1 h2 h3 h4 h5 => by obtain rfl := h1; obtain rfl := h2; obtain rfl := h3; obtain rfl := h4; obtain rfl := h5; exact mfam1 e_Table_worth) F
  have e_Table_stretches : Met P w K mg base 1 (G "Table") "stretches" p_Table_stretches (spA K G w_Table_stretches) := S.m_Table_stretches.met S.x_Table.cl (fun _ _ _ _ _ _ us hl => match us, hl with | [_], _ => rfl) fun f fd F => ok_Table_stretches T F
  exact (ok_law T c_law_box c_law_ask c_law_rows c_law_reply c_reply_by mk_Table mk1_Table (fun X h1 h2 h3 h4 h5 => by obtain rfl := h1; obtain rfl := h2; obtain rfl := h3; obtain rfl := h4; obtain rfl := h5; exact mfam1 e_Table_stretches) F).law rfl fun h sc ns hs hl => t_law31 hs (by omega) fun h => rfl
theorem law_mk {l : PySem.W.OpenLaw} {w : World} {K : PySem.W.Frag} {h : Heap} {mg : Str → Option Value} {G : Str → Addr} {fa f4 : Addr} (X : K.In h) (N : h.Ns mainGlobals mg) (hfa : mg "law" = some (.ref fa)) {od4 an4 : Option Addr} {sl4 : Array (Option Value)} {oc4 kV4 dc4 pm4 cd4 ct4 : Value}
    (a4 : PySem.W.nsIn K mainGlobals "law" = some (some (.ref f4))) (l4 : K.lookup f4 = some ⟨oc4, od4, .func (PySem.W.fnOf "law" "law" (defArgs s_law) (defBody s_law) (defScope s_law) .none kV4 dc4 pm4 an4 cd4 ct4), sl4⟩) (c4 : PySem.W.codeIn K cd4 "law" = true) (k4 : PySem.W.keepIn K (.ref f4) = true) (S : All K mg G) :
    ∃ fd : FuncData, (∀ (s : Shared) (v : Value), BindsTo s fd ⟨[v], []⟩ [("_law_script", v)]) ∧ ∀ base : Heap, K.In base → base.Ns mainGlobals mg → FnOk l.prog w K mg base (CXR l.prog w) 9 fa fd ["_law_script"] (spL K) := by
  have e := hfa.symm.trans (PySem.W.mg_of X N a4)
  cases e
  exact ⟨PySem.W.fnOf "law" "law" (defArgs s_law) (defBody s_law) (defScope s_law) .none kV4 dc4 pm4 an4 cd4 ct4, fun s v => .of_eq rfl, fun base kb nb => law_ok S kb nb (funD_mk l4 c4 k4)⟩
theorem exG (c0 c1 c2 c3 c4 : Addr) : ∃ G : Str → Addr, G "Table" = c0 ∧ G "NoTable" = c1 ∧ G "NoSpan" = c2 ∧ G "NoWorth" = c3 ∧ G "NoFraction" = c4 := ⟨fun x => if x = "Table" then c0 else if x = "NoTable" then c1 else if x = "NoSpan" then c2 else if x = "NoWorth" then c3 else if x = "NoFraction" then c4 else 0, if_pos rfl, (if_neg (by decide)).trans (if_pos rfl), (if_neg (by decide)).trans ((if_neg (by decide)).trans (if_pos rfl)), (if_neg (by decide)).trans ((if_neg (by decide)).trans ((if_neg (by decide)).trans (if_pos rfl))), (if_neg (by decide)).trans ((if_neg (by decide)).trans ((if_neg (by decide)).trans ((if_neg (by decide)).trans (if_pos rfl))))⟩
theorem cls_Table {K : PySem.W.Frag} {mg : Str → Option Value} {C : Addr} (z0 : ClsX K mg "Table" C) (z1 : PySem.W.findIn K (.ref C) "rows" = some none) (z2 : PySem.W.findIn K (.ref C) "breadth" = some none) (z3 : TopM K C "__init__" "Table.__init__" s_Table_init) (z4 : TopM K C "worth_ahead" "Table.worth_ahead" s_Table_worth_ahead) (z5 : TopMD_Table_worth K C) (z6 : TopM K C "reached" "Table.reached" s_Table_reached) (z7 : TopMD_Table_cut K C) (z8 : TopM K C "stretches" "Table.stretches" s_Table_stretches) : ∃ C, ClsX K mg "Table" C ∧ PySem.W.findIn K (.ref C) "rows" = some none ∧ PySem.W.findIn K (.ref C) "breadth" = some none ∧ TopM K C "__init__" "Table.__init__" s_Table_init ∧ TopM K C "worth_ahead" "Table.worth_ahead" s_Table_worth_ahead ∧ TopMD_Table_worth K C ∧ TopM K C "reached" "Table.reached" s_Table_reached ∧ TopMD_Table_cut K C ∧ TopM K C "stretches" "Table.stretches" s_Table_stretches := ⟨C, z0, z1, z2, z3, z4, z5, z6, z7, z8⟩
theorem excs_all {K : PySem.W.Frag} {mg : Str → Option Value} {h : Heap} {C_NoTable C_NoSpan C_NoWorth C_NoFraction : Addr} (X : K.In h) (N : h.Ns mainGlobals mg) (e_NoTable : PySem.W.nsIn K mainGlobals "NoTable" = some (some (.ref C_NoTable))) (e_NoSpan : PySem.W.nsIn K mainGlobals "NoSpan" = some (some (.ref C_NoSpan))) (e_NoWorth : PySem.W.nsIn K mainGlobals "NoWorth" = some (some (.ref C_NoWorth))) (e_NoFraction : PySem.W.nsIn K mainGlobals "NoFraction" = some (some (.ref C_NoFraction))) (i_x_NoTable : PySem.W.excIn K C_NoTable EXCB "ValueError.__new__" = true) (i_x_NoSpan : PySem.W.excIn K C_NoSpan EXCB "ValueError.__new__" = true) (i_x_NoWorth : PySem.W.excIn K C_NoWorth EXCB "ValueError.__new__" = true) (i_x_NoFraction : PySem.W.excIn K C_NoFraction EXCB "ValueError.__new__" = true) : ∃ C_NoTable C_NoSpan C_NoWorth C_NoFraction, (PySem.W.excIn K C_NoTable EXCB "ValueError.__new__" = true ∧ PySem.W.nsIn K mainGlobals "NoTable" = some (some (.ref C_NoTable))) ∧ (PySem.W.excIn K C_NoSpan EXCB "ValueError.__new__" = true ∧ PySem.W.nsIn K mainGlobals "NoSpan" = some (some (.ref C_NoSpan))) ∧ (PySem.W.excIn K C_NoWorth EXCB "ValueError.__new__" = true ∧ PySem.W.nsIn K mainGlobals "NoWorth" = some (some (.ref C_NoWorth))) ∧ (PySem.W.excIn K C_NoFraction EXCB "ValueError.__new__" = true ∧ PySem.W.nsIn K mainGlobals "NoFraction" = some (some (.ref C_NoFraction))) := ⟨C_NoTable, C_NoSpan, C_NoWorth, C_NoFraction, ⟨i_x_NoTable, e_NoTable⟩, ⟨i_x_NoSpan, e_NoSpan⟩, ⟨i_x_NoWorth, e_NoWorth⟩, ⟨i_x_NoFraction, e_NoFraction⟩⟩

end K
open PySem PySem.W PyProof.Rows
set_option maxRecDepth 100000 in
set_option maxHeartbeats 0 in
theorem PySem.Challenge.cw_halfcrumb_k31_replies_to_cuts_holds : PySem.Challenge.rw_halfcrumb_k31_replies_to_cuts.Holds := by
  w_on; o_law; k_head; (case hw => w_witness2)
  k_fill
  refine L2.walkL (l := PySem.Challenge.rw_halfcrumb_k31_replies_to_cuts) (k := 9) rfl rfl ⟨rfl, by decide, by decide⟩ (fun w h Y => PySem.W.kIn_of Y) ?F
  case F =>
    intro w mg fa h KX N hmg
    have h_Table : ∃ C, L2.ClsX (L2.KOf KX) mg "Table" C ∧ PySem.W.findIn (L2.KOf KX) (.ref C) "rows" = some none ∧ PySem.W.findIn (L2.KOf KX) (.ref C) "breadth" = some none ∧ L2.TopM (L2.KOf KX) C "__init__" "Table.__init__" K.s_Table_init ∧ L2.TopM (L2.KOf KX) C "worth_ahead" "Table.worth_ahead" K.s_Table_worth_ahead ∧ K.TopMD_Table_worth (L2.KOf KX) C ∧ L2.TopM (L2.KOf KX) C "reached" "Table.reached" K.s_Table_reached ∧ K.TopMD_Table_cut (L2.KOf KX) C ∧ L2.TopM (L2.KOf KX) C "stretches" "Table.stretches" K.s_Table_stretches := by
      dsimp only [L2.KOf]
      refine' K.cls_Table (L2.clsX_mk KX N ?aC ?pg ?hd ?po ?sa ?mk ?kc) ?n0 ?n1 (L2.topM ?a0 ?i0 ?l0 ?c0 ?k0) (L2.topM ?a1 ?i1 ?l1 ?c1 ?k1) (K.topMD_Table_worth ?a2 ?i2 ?l2 ?c2 ?k2 ?t2 ?d2) (L2.topM ?a3 ?i3 ?l3 ?c3 ?k3) (K.topMD_Table_cut ?a4 ?i4 ?l4 ?c4 ?k4 ?t4 ?d4) (L2.topM ?a5 ?i5 ?l5 ?c5 ?k5)
      (case aC => k_is); (case pg => k_is); (case hd => k_is); (case po => k_is); (case sa => k_is); (case mk => k_is); (case kc => k_is); (case n0 => k_is); (case n1 => k_is); (case a0 => k_is); (case i0 => k_is); (case l0 => k_is); (case c0 => k_is); (case k0 => k_is); (case a1 => k_is); (case i1 => k_is); (case l1 => k_is); (case c1 => k_is); (case k1 => k_is); (case a2 => k_is); (case i2 => k_is); (case l2 => k_is); (case c2 => k_is); (case k2 => k_is); (case t2 => k_is); (case d2 => rfl); (case a3 => k_is); (case i3 => k_is); (case l3 => k_is); (case c3 => k_is); (case k3 => k_is); (case a4 => k_is); (case i4 => k_is); (case l4 => k_is); (case c4 => k_is); (case k4 => k_is); (case t4 => k_is); (case d4 => rfl); (case a5 => k_is); (case i5 => k_is); (case l5 => k_is); (case c5 => k_is); (case k5 => k_is)
    have h_excs : ∃ C_NoTable C_NoSpan C_NoWorth C_NoFraction, (PySem.W.excIn (L2.KOf KX) C_NoTable L2.EXCB "ValueError.__new__" = true ∧ PySem.W.nsIn (L2.KOf KX) mainGlobals "NoTable" = some (some (.ref C_NoTable))) ∧ (PySem.W.excIn (L2.KOf KX) C_NoSpan L2.EXCB "ValueError.__new__" = true ∧ PySem.W.nsIn (L2.KOf KX) mainGlobals "NoSpan" = some (some (.ref C_NoSpan))) ∧ (PySem.W.excIn (L2.KOf KX) C_NoWorth L2.EXCB "ValueError.__new__" = true ∧ PySem.W.nsIn (L2.KOf KX) mainGlobals "NoWorth" = some (some (.ref C_NoWorth))) ∧ (PySem.W.excIn (L2.KOf KX) C_NoFraction L2.EXCB "ValueError.__new__" = true ∧ PySem.W.nsIn (L2.KOf KX) mainGlobals "NoFraction" = some (some (.ref C_NoFraction))) := by
      dsimp only [L2.KOf]
      refine' K.excs_all KX N ?e_NoTable ?e_NoSpan ?e_NoWorth ?e_NoFraction ?i_x_NoTable ?i_x_NoSpan ?i_x_NoWorth ?i_x_NoFraction
      (case e_NoTable => k_is); (case e_NoSpan => k_is); (case e_NoWorth => k_is); (case e_NoFraction => k_is); (case i_x_NoTable => k_exc); (case i_x_NoSpan => k_exc); (case i_x_NoWorth => k_exc); (case i_x_NoFraction => k_exc)
    have b_range : mg "range" = none := by
      refine' PySem.W.mg_none_of KX N ?z
      (case z => k_is)
    have b_len : mg "len" = none := by
      refine' PySem.W.mg_none_of KX N ?z
      (case z => k_is)
    have b_abs : mg "abs" = none := by
      refine' PySem.W.mg_none_of KX N ?z
      (case z => k_is)
    have b_sum : mg "sum" = none := by
      refine' PySem.W.mg_none_of KX N ?z
      (case z => k_is)
    have i_MOST_STRETCHES : ∃ tk, mg "MOST_STRETCHES" = some (.int 8 tk) := by
      refine' L2.int_mk KX N ?z
      (case z => k_is)
    have b_min : mg "min" = none := by
      refine' PySem.W.mg_none_of KX N ?z
      (case z => k_is)
    have b_max : mg "max" = none := by
      refine' PySem.W.mg_none_of KX N ?z
      (case z => k_is)
    have i_MOST_WIDTH : ∃ tk, mg "MOST_WIDTH" = some (.int 999 tk) := by
      refine' L2.int_mk KX N ?z
      (case z => k_is)
    have i_MOST_WORTH : ∃ tk, mg "MOST_WORTH" = some (.int 999999999 tk) := by
      refine' L2.int_mk KX N ?z
      (case z => k_is)
    have t_END : ∃ a, mg "END" = some (.ref a) ∧ ∀ H φ, L2.RU (L2.KOf KX) H φ (.tup [.int 1, .int 1]) (.ref a) := by
      dsimp only [L2.KOf]
      refine' L2.tup2_mk KX N ?z ?t ?c ?d
      (case z => k_is); (case t => k_is); (case c => rfl); (case d => rfl)
    have t_BEGIN : ∃ a, mg "BEGIN" = some (.ref a) ∧ ∀ H φ, L2.RU (L2.KOf KX) H φ (.tup [.int 0, .int 1]) (.ref a) := by
      dsimp only [L2.KOf]
      refine' L2.tup2_mk KX N ?z ?t ?c ?d
      (case z => k_is); (case t => k_is); (case c => rfl); (case d => rfl)
    have i_NO_PIECE : ∃ tk, mg "NO_PIECE" = some (.int 3 tk) := by
      refine' L2.int_mk KX N ?z
      (case z => k_is)
    have b_list : mg "list" = none := by
      refine' PySem.W.mg_none_of KX N ?z
      (case z => k_is)
    have t_law_box : L2.Top1 (L2.KOf KX) mg "_law_box" K.s_law_box .none := by
      dsimp only [L2.KOf]
      refine' L2.top1 KX N ?a ?l ?c ?k
      (case a => k_is); (case l => k_is); (case c => k_is); (case k => k_is)
    have t_law_mixed : L2.Top1 (L2.KOf KX) mg "_law_mixed" K.s_law_mixed .none := by
      dsimp only [L2.KOf]
      refine' L2.top1 KX N ?a ?l ?c ?k
      (case a => k_is); (case l => k_is); (case c => k_is); (case k => k_is)
    have t_law_take : L2.Top1 (L2.KOf KX) mg "_law_take" K.s_law_take .none := by
      dsimp only [L2.KOf]
      refine' L2.top1 KX N ?a ?l ?c ?k
      (case a => k_is); (case l => k_is); (case c => k_is); (case k => k_is)
    have t_law_low : L2.Top1 (L2.KOf KX) mg "_law_low" K.s_law_low .none := by
      dsimp only [L2.KOf]
      refine' L2.top1 KX N ?a ?l ?c ?k
      (case a => k_is); (case l => k_is); (case c => k_is); (case k => k_is)
    have t_law_place : L2.Top1 (L2.KOf KX) mg "_law_place" K.s_law_place .none := by
      dsimp only [L2.KOf]
      refine' L2.top1 KX N ?a ?l ?c ?k
      (case a => k_is); (case l => k_is); (case c => k_is); (case k => k_is)
    have t_law_less : L2.Top1 (L2.KOf KX) mg "_law_less" K.s_law_less .none := by
      dsimp only [L2.KOf]
      refine' L2.top1 KX N ?a ?l ?c ?k
      (case a => k_is); (case l => k_is); (case c => k_is); (case k => k_is)
    have t_law_ask : L2.Top1 (L2.KOf KX) mg "_law_ask" K.s_law_ask .none := by
      dsimp only [L2.KOf]
      refine' L2.top1 KX N ?a ?l ?c ?k
      (case a => k_is); (case l => k_is); (case c => k_is); (case k => k_is)
    have t_law_rows : L2.Top1 (L2.KOf KX) mg "_law_rows" K.s_law_rows .none := by
      dsimp only [L2.KOf]
      refine' L2.top1 KX N ?a ?l ?c ?k
      (case a => k_is); (case l => k_is); (case c => k_is); (case k => k_is)
    have t_is_table : L2.Top1 (L2.KOf KX) mg "is_table" K.s_is_table .none := by
      dsimp only [L2.KOf]
      refine' L2.top1 KX N ?a ?l ?c ?k
      (case a => k_is); (case l => k_is); (case c => k_is); (case k => k_is)
    have t_law_plus : L2.Top1 (L2.KOf KX) mg "_law_plus" K.s_law_plus .none := by
      dsimp only [L2.KOf]
      refine' L2.top1 KX N ?a ?l ?c ?k
      (case a => k_is); (case l => k_is); (case c => k_is); (case k => k_is)
    have t_law_worth : L2.Top1 (L2.KOf KX) mg "_law_worth" K.s_law_worth .none := by
      dsimp only [L2.KOf]
      refine' L2.top1 KX N ?a ?l ?c ?k
      (case a => k_is); (case l => k_is); (case c => k_is); (case k => k_is)
    have t_law_best : L2.Top1 (L2.KOf KX) mg "_law_best" K.s_law_best .none := by
      dsimp only [L2.KOf]
      refine' L2.top1 KX N ?a ?l ?c ?k
      (case a => k_is); (case l => k_is); (case c => k_is); (case k => k_is)
    have t_law_cut : L2.Top1 (L2.KOf KX) mg "_law_cut" K.s_law_cut .none := by
      dsimp only [L2.KOf]
      refine' L2.top1 KX N ?a ?l ?c ?k
      (case a => k_is); (case l => k_is); (case c => k_is); (case k => k_is)
    have t_law_reply : L2.Top1 (L2.KOf KX) mg "_law_reply" K.s_law_reply .none := by
      dsimp only [L2.KOf]
      refine' L2.top1 KX N ?a ?l ?c ?k
      (case a => k_is); (case l => k_is); (case c => k_is); (case k => k_is)
    have t_is_less : L2.Top1 (L2.KOf KX) mg "is_less" K.s_is_less .none := by
      dsimp only [L2.KOf]
      refine' L2.top1 KX N ?a ?l ?c ?k
      (case a => k_is); (case l => k_is); (case c => k_is); (case k => k_is)
    have t_is_span : L2.Top1 (L2.KOf KX) mg "is_span" K.s_is_span .none := by
      dsimp only [L2.KOf]
      refine' L2.top1 KX N ?a ?l ?c ?k
      (case a => k_is); (case l => k_is); (case c => k_is); (case k => k_is)
    have t_check_span : L2.Top1 (L2.KOf KX) mg "check_span" K.s_check_span .none := by
      dsimp only [L2.KOf]
      refine' L2.top1 KX N ?a ?l ?c ?k
      (case a => k_is); (case l => k_is); (case c => k_is); (case k => k_is)
    have t_greatest_divisor : L2.Top1 (L2.KOf KX) mg "greatest_divisor" K.s_greatest_divisor .none := by
      dsimp only [L2.KOf]
      refine' L2.top1 KX N ?a ?l ?c ?k
      (case a => k_is); (case l => k_is); (case c => k_is); (case k => k_is)
    have t_fraction_of : K.TopF_fraction_of (L2.KOf KX) mg := by
      dsimp only [L2.KOf]
      refine' K.topF_fraction_of KX N ?a ?l ?c ?k ?t ?d
      (case a => k_is); (case l => k_is); (case c => k_is); (case k => k_is); (case t => k_is); (case d => rfl)
    have t_minus : L2.Top1 (L2.KOf KX) mg "minus" K.s_minus .none := by
      dsimp only [L2.KOf]
      refine' L2.top1 KX N ?a ?l ?c ?k
      (case a => k_is); (case l => k_is); (case c => k_is); (case k => k_is)
    have t_plus : L2.Top1 (L2.KOf KX) mg "plus" K.s_plus .none := by
      dsimp only [L2.KOf]
      refine' L2.top1 KX N ?a ?l ?c ?k
      (case a => k_is); (case l => k_is); (case c => k_is); (case k => k_is)
    have t_times : L2.Top1 (L2.KOf KX) mg "times" K.s_times .none := by
      dsimp only [L2.KOf]
      refine' L2.top1 KX N ?a ?l ?c ?k
      (case a => k_is); (case l => k_is); (case c => k_is); (case k => k_is)
    have t_over : L2.Top1 (L2.KOf KX) mg "over" K.s_over .none := by
      dsimp only [L2.KOf]
      refine' L2.top1 KX N ?a ?l ?c ?k
      (case a => k_is); (case l => k_is); (case c => k_is); (case k => k_is)
    have t_place_by : L2.Top1 (L2.KOf KX) mg "place_by" K.s_place_by .none := by
      dsimp only [L2.KOf]
      refine' L2.top1 KX N ?a ?l ?c ?k
      (case a => k_is); (case l => k_is); (case c => k_is); (case k => k_is)
    have t_greater : L2.Top1 (L2.KOf KX) mg "greater" K.s_greater .none := by
      dsimp only [L2.KOf]
      refine' L2.top1 KX N ?a ?l ?c ?k
      (case a => k_is); (case l => k_is); (case c => k_is); (case k => k_is)
    have t_greatest_of : L2.Top1 (L2.KOf KX) mg "greatest_of" K.s_greatest_of .none := by
      dsimp only [L2.KOf]
      refine' L2.top1 KX N ?a ?l ?c ?k
      (case a => k_is); (case l => k_is); (case c => k_is); (case k => k_is)
    have t_worths_of : L2.Top1 (L2.KOf KX) mg "worths_of" K.s_worths_of .none := by
      dsimp only [L2.KOf]
      refine' L2.top1 KX N ?a ?l ?c ?k
      (case a => k_is); (case l => k_is); (case c => k_is); (case k => k_is)
    have t_reply_by : L2.Top1 (L2.KOf KX) mg "reply_by" K.s_reply_by .none := by
      dsimp only [L2.KOf]
      refine' L2.top1 KX N ?a ?l ?c ?k
      (case a => k_is); (case l => k_is); (case c => k_is); (case k => k_is)
    obtain ⟨C_Table, x_Table, n_Table_rows, n_Table_breadth, m_Table_init, m_Table_worth_ahead, m_Table_worth, m_Table_reached, m_Table_cut, m_Table_stretches⟩ := h_Table
    obtain ⟨C_NoTable, C_NoSpan, C_NoWorth, C_NoFraction, x_NoTable, x_NoSpan, x_NoWorth, x_NoFraction⟩ := h_excs
    obtain ⟨G, g0, g1, g2, g3, g4⟩ := K.exG C_Table C_NoTable C_NoSpan C_NoWorth C_NoFraction
    subst g0 g1 g2 g3 g4
    have T : K.Tops (L2.KOf KX) mg G := ⟨b_range, b_len, b_abs, b_sum, i_MOST_STRETCHES, b_min, b_max, i_MOST_WIDTH, i_MOST_WORTH, x_NoTable, (L2.fld1 x_Table.cl n_Table_rows), (L2.fld1 x_Table.cl n_Table_breadth), t_END, t_BEGIN, x_NoSpan, x_NoWorth, x_NoFraction, i_NO_PIECE, b_list⟩
    have S : K.All (L2.KOf KX) mg G := ⟨T, t_law_box, t_law_mixed, t_law_take, t_law_low, t_law_place, t_law_less, t_law_ask, t_law_rows, t_is_table, t_law_plus, t_law_worth, t_law_best, t_law_cut, t_law_reply, t_is_less, t_is_span, t_check_span, t_greatest_divisor, t_fraction_of, t_minus, t_plus, t_times, t_over, t_place_by, t_greater, t_greatest_of, t_worths_of, t_reply_by, x_Table, m_Table_init, m_Table_worth_ahead, m_Table_worth, m_Table_reached, m_Table_cut, m_Table_stretches⟩
    dsimp only [L2.KOf] at S
    refine' K.law_mk KX N hmg ?a4 ?l4 ?c4 ?k4 S
    (case a4 => k_is); (case l4 => k_is); (case c4 => k_is); (case k4 => k_is)
#print axioms PySem.Challenge.cw_halfcrumb_k31_replies_to_cuts_holds


