import PyProof.Rows.All
import Wide.All
import OpenK.AllK
import Wide.FinOn
import PyProof.EqAt
import PyProof.EqKinds
import PyProof.TupleCall
import KE.BitLaws
import KE.KUnpack
import PyProof.TupleOfSeq
import KE.KRevSl
import KE.KListMore
import PyProof.P3Eq
import KE.IntTextLaws
import KE.KIntText
import KE.KItemsList
import KE.KSortTup
import KE.KSuper
import KE.KSuperObj
import OpenK.KCls
import PyProof.CallStr
import PyProof.Draws
import PyProof.ExcBaseAll.Exception
import PyProof.ExcBaseAll.ValueError
import PyProof.InstStoreFacts
import PyProof.ListRange
import PyProof.ListStr
import PyProof.Rows.FStr
import PyProof.Rows.RegStrCode
import PyProof.Rows.ReprOcc
import PyProof.StrBlock2
import PyProof.StrLawsAffix
import PyProof.StrLawsIn
import PySem.Challenge.RW_halfcrumb_k13_share_texts
set_option Elab.async false
set_option linter.all false
set_option maxRecDepth 100000
set_option maxHeartbeats 4100000
/-! THE HAND LAYER, for ints, bools, texts, own classes, lists, tuples, dicts, comprehensions, walks over dicts, enumerate, zip, reversed, texts, calls, loops. Paste it whole ahead of your own text; what your proof does not reach may be deleted. -/
namespace L2
open PySem PySem.Spec PyProof.Rows

/-- a key: an int or a str -/
abbrev Key := Sum Int Str
def keyIs : Key → Value → Bool
  | .inl k, v => Value.isInt k v
  | .inr x, v => Value.isStrOf x v
def keyH (w : World) : Key → Int
  | .inl k => hashInt k
  | .inr x => hashStr w x
theorem keyIs_shape : ∀ {k : Key} {v : Value}, keyIs k v = true → (∃ i t, k = Sum.inl i ∧ v = Value.int i t) ∨ (∃ x t, k = Sum.inr x ∧ v = Value.str x t)
  | .inl i, v, h => by
    obtain ⟨t, e⟩ := Value.isInt_shape (k := i) (v := v) h
    exact .inl ⟨i, t, rfl, e⟩
  | .inr x, v, h => by
    obtain ⟨t, e⟩ := Value.isStrOf_shape (x := x) (v := v) h
    exact .inr ⟨x, t, rfl, e⟩
theorem key_ll (a b : Int) : decide ((Sum.inl a : Key) = Sum.inl b) = (a == b) := by
  by_cases e : a = b
  · subst e; simp
  · have h : ¬ (Sum.inl a : Key) = Sum.inl b := fun q => e (Sum.inl.inj q)
    rw [decide_eq_false h]
    exact (beq_eq_false_iff_ne.mpr e).symm
theorem key_rr (a b : Str) : decide ((Sum.inr a : Key) = Sum.inr b) = decide (a = b) := by
  by_cases e : a = b
  · subst e; simp
  · have h : ¬ (Sum.inr a : Key) = Sum.inr b := fun q => e (Sum.inr.inj q)
    rw [decide_eq_false h, decide_eq_false e]
theorem key_lr (a : Int) (b : Str) : decide ((Sum.inl a : Key) = Sum.inr b) = false := decide_eq_false (fun q => nomatch q)
theorem key_rl (a : Str) (b : Int) : decide ((Sum.inr a : Key) = Sum.inl b) = false := decide_eq_false (fun q => nomatch q)

def mixKind (prog : Program) (w : World) : PySem.KeyKind prog w Key where
  is := keyIs
  hash := keyH w
  inj := fun v a b ha hb => by
    rcases keyIs_shape ha with ⟨i, t, rfl, rfl⟩ | ⟨x, t, rfl, rfl⟩
    · rcases keyIs_shape hb with ⟨j, u, rfl, e⟩ | ⟨y, u, rfl, e⟩
      · injection e with e1 _; rw [e1]
      · exact nomatch e
    · rcases keyIs_shape hb with ⟨j, u, rfl, e⟩ | ⟨y, u, rfl, e⟩
      · exact nomatch e
      · injection e with e1 _; rw [e1]
  byValue := fun k v h => by
    rcases keyIs_shape h with ⟨i, t, rfl, rfl⟩ | ⟨x, t, rfl, rfl⟩ <;> rfl
  pyHash := fun hv h => by
    rcases keyIs_shape hv with ⟨i, t, rfl, rfl⟩ | ⟨x, t, rfl, rfl⟩
    · exact wpAny_pyHash_int h
    · exact wpAny_pyHash_str h
  eqBool := fun hu hv h => by
    rcases keyIs_shape hu with ⟨i, t, rfl, rfl⟩ | ⟨x, t, rfl, rfl⟩
    · rcases keyIs_shape hv with ⟨j, u, rfl, rfl⟩ | ⟨y, u, rfl, rfl⟩
      · rw [key_ll] at h; exact wpAny_eqBool_int h
      · rw [key_lr] at h; exact SeqAt.EqAt.int_str i t y u _ _ _ _ h
    · rcases keyIs_shape hv with ⟨j, u, rfl, rfl⟩ | ⟨y, u, rfl, rfl⟩
      · rw [key_rl] at h; exact SeqAt.EqAt.str_int x t j u _ _ _ _ h
      · rw [key_rr] at h; exact wpAny_eqBool_str h
  «strs» := fun k x t v h => by
    rcases keyIs_shape h with ⟨i, u, rfl, e⟩ | ⟨y, u, rfl, e⟩
    · exact nomatch e
    · injection e with e1 _
      subst e1
      cases v <;> rfl

end L2

namespace L2
open PySem PySem.Spec PyProof.Rows

/-- a value, without the heap -/
inductive V where
  | non | bl (b : Bool) | int (i : Int) | str (x : Str) | byt (b : Array UInt8) | flt (b : UInt64) | ref (a : Addr) | ty (n : String)
  deriving DecidableEq

def RelV : V → Value → Prop
  | .non, u => u = Value.none
  | .bl b, u => u = Value.bool b
  | .int i, u => ∃ t, u = Value.int i t
  | .str x, u => ∃ t, u = Value.str x t
  | .byt b, u => ∃ t, u = Value.bytes b t
  | .flt b, u => ∃ t, u = Value.float b t
  | .ref a, u => u = Value.ref a
  | .ty n, u => u = Value.type n

abbrev Vals : List V → List Value → Prop := Paired RelV
theorem Vals.length {xs : List V} {us : List Value} (r : Vals xs us) : xs.length = us.length := Paired.length r
theorem Vals.get : ∀ {xs : List V} {us : List Value} {i : Nat} {x : V}, Vals xs us → xs[i]? = some x → ∃ u, us[i]? = some u ∧ RelV x u
  | _, _, _, _, .nil, e => by simp at e
  | _, _, 0, _, .cons r _, e => by simp at e; subst e; exact ⟨_, rfl, r⟩
  | _, _, i + 1, x, .cons _ t, e => by
    obtain ⟨u, h1, h2⟩ := Vals.get (i := i) (x := x) t (by simpa using e)
    exact ⟨u, by simpa using h1, h2⟩
theorem Vals.set {x : V} {u : Value} (r : RelV x u) : ∀ {xs : List V} {us : List Value} (i : Nat), Vals xs us → Vals (xs.set i x) (us.set i u)
  | _, _, _, .nil => .nil
  | _, _, 0, .cons _ t => .cons r t
  | _, _, i + 1, .cons q t => .cons q (Vals.set r i t)
theorem Vals.append : ∀ {xs ys : List V} {us ws : List Value}, Vals xs us → Vals ys ws → Vals (xs ++ ys) (us ++ ws)
  | _, _, _, _, .nil, s => s
  | _, _, _, _, .cons r t, s => .cons r (Vals.append t s)
theorem Vals.take : ∀ {xs : List V} {us : List Value} (n : Nat), Vals xs us → Vals (xs.take n) (us.take n)
  | _, _, 0, _ => .nil
  | _, _, _ + 1, .nil => .nil
  | _, _, n + 1, .cons r t => .cons r (Vals.take n t)
theorem Vals.drop : ∀ {xs : List V} {us : List Value} (n : Nat), Vals xs us → Vals (xs.drop n) (us.drop n)
  | _, _, 0, r => r
  | _, _, _ + 1, .nil => .nil
  | _, _, n + 1, .cons _ t => Vals.drop n t
theorem Vals.none_of : ∀ {xs : List V} {us : List Value} {i : Nat}, Vals xs us → xs[i]? = none → us[i]? = none := fun {xs us i} r e => by
  have h1 := r.length
  have h2 : xs.length ≤ i := List.getElem?_eq_none_iff.mp e
  exact List.getElem?_eq_none_iff.mpr (by omega)

def RelO : Option V → Option Value → Prop
  | some v, some u => RelV v u
  | none, none => True
  | _, _ => False
def KV {κ : Type} : List (κ × V) → List (κ × Value) → Prop := Paired fun (p : κ × V) (q : κ × Value) => p.1 = q.1 ∧ RelV p.2 q.2

/-- a key of a dict (00_mix): an int or a text -/
def kV : Key → V
  | .inl i => .int i
  | .inr x => .str x

/-- what stands at a tracked address -/
inductive HO where
  /-- a list -/
  | lst (xs : List V)
  /-- a tuple (never changes) -/
  | tup (xs : List V)
  /-- a dict whose keys are ints and texts; one whose keys are tuples of ints and texts (the empty one is both) -/
  | dK (kvs : List (Key × V)) | dT (kvs : List (List Key × V))
  /-- a set of ints: its members, its size -/
  | set (S : Int → Bool) (n : Nat)
  /-- an instance of the class at C, its dict at dx, its attributes -/
  | ins (C dx : Addr) (fs : List (Str × V))
  /-- the dict of the instance at x -/
  | own (x : Addr)
  /-- the dict of an exception -/
  | xd (fs : List (Str × V))
  /-- a bound method, f of x -/
  | met (f x : Addr)
  /-- a range object lo, lo + 1, .. below hi -/
  | rng (lo hi : Int)
  /-- a thing that is known to the object (the script; a dict while a loop walks it): read, never written while it is so -/
  | frz (o : Obj) (u : HO)
  /-- a code object's table -/
  | tbl (ps : Array Value)
  /-- any other thing, by what is true of its one object (a def of one's own: SetO a S n := HO.ext fun h => ..) -/
  | ext (φ : Heap → Prop)

abbrev Hp := Addr → Option HO
def upd (H : Hp) (a : Addr) (o : HO) : Hp := fun b => if b = a then some o else H b
theorem upd_same {H : Hp} {a : Addr} {o : HO} : upd H a o a = some o := by unfold upd; rw [if_pos rfl]
theorem upd_ne {H : Hp} {a b : Addr} {o : HO} (h : b ≠ a) : upd H a o b = H b := by unfold upd; rw [if_neg h]
theorem ne_of_none {H : Hp} {a b : Addr} {o : HO} (h : H a = some o) (h' : H b = none) : a ≠ b := by
  intro e; subst e; rw [h] at h'; cases h'

section
variable (P : Program) (w : World)
def ObjOk (H : Hp) (h : Heap) (a : Addr) : HO → Prop
  | .lst xs => xs.length ≤ sizeLine ∧ ∃ (its : List Value) (n : Nat), Vals xs its ∧ h.get? a = some { cls := .type "list", data := .seq its.toArray n }
  | .tup xs => xs.length ≤ sizeLine ∧ ∃ its : List Value, Vals xs its ∧ IsTup h a its.toArray
  | .dK kvs => kvs.length ≤ sizeLine ∧ (a == sysModules) = false ∧ ∃ vs, KV kvs vs ∧ h.DictOf (mixKind P w) a vs
  | .dT kvs => kvs.length ≤ sizeLine ∧ (a == sysModules) = false ∧ ∃ xs : List (List Key × Addr × Value),
      Paired (fun (p : List Key × V) (q : List Key × Addr × Value) => p.1 = q.1 ∧ H q.2.1 = some (.tup (p.1.map kV)) ∧ RelV p.2 q.2.2) kvs xs ∧
      ∃ o es ep, h.get? a = some o ∧ o.ExactDict ∧ o.data = .dict es ep ∧ es.toList = xs.map (entryOfKey (tupleKind (mixKind P w))) ∧ (xs.map (·.1)).Nodup
  | .set S n => h.SetOf (intKind P w) a S n
  | .ins C dx fs => H dx = some (.own a) ∧ fs.length ≤ 1000 ∧ dx ≠ a ∧ h.get? a = some (PySem.W.instObj C dx) ∧
      ∃ mA, h.Ns1 dx mA ∧ (∀ f, RelO (fs.lookup f) (mA f)) ∧ PySem.Within mA (fs.map (·.1))
  | .own _ => ∃ o, h.get? a = some o
  | .xd fs => ∃ mA, h.Ns1 a mA ∧ ∀ f, RelO (fs.lookup f) (mA f)
  | .rng lo hi => ∃ t u v, h.get? a = some { cls := .type "range", data := .fields #[.int lo t, .int hi u, .int 1 v] }
  | .frz o u => h.get? a = some o ∧ ObjOk H h a u
  | .tbl ps => h.get? a = some { cls := .none, data := .fields ps }
  | .met f x => h.get? a = some (PySem.W.methodObj (.ref f) (.ref x))
  | .ext φ => φ h ∧ (∃ o, h.get? a = some o) ∧ ∀ h1 h2 : Heap, φ h1 → (∀ o, h1.get? a = some o → h2.get? a = some o) → φ h2
/-- the abstract heap is held -/
def HOk (H : Hp) (h : Heap) : Prop := ∀ a o, H a = some o → ObjOk P w H h a o
end

section
variable {P : Program} {w : World} {H H' : Hp} {h h' : Heap} {a : Addr} {o : HO}
theorem ObjOk.lt (x : ObjOk P w H h a o) : a < h.objs.size := by
  cases o with
  | lst xs => obtain ⟨_, _, _, _, e⟩ := x; exact Heap.lt_size e
  | tup xs => obtain ⟨_, _, _, p⟩ := x; exact p.lt
  | dK kvs => obtain ⟨_, _, _, _, o, _, _, e, _⟩ := x; exact Heap.lt_size e
  | dT kvs => obtain ⟨_, _, _, _, o, _, _, e, _⟩ := x; exact Heap.lt_size e
  | set S n => obtain ⟨o, _, _, _, e, _⟩ := x; exact Heap.lt_size e
  | ins C dx fs => obtain ⟨_, _, _, e, _⟩ := x; exact Heap.lt_size e
  | own y => obtain ⟨_, e⟩ := x; exact Heap.lt_size e
  | xd fs => obtain ⟨_, ⟨_, _, _, e, _⟩, _⟩ := x; exact Heap.lt_size e
  | rng lo hi => obtain ⟨_, _, _, e⟩ := x; exact Heap.lt_size e
  | frz ob u => obtain ⟨e, _⟩ := x; exact Heap.lt_size e
  | tbl ps => exact Heap.lt_size (show h.get? a = some _ from x)
  | met f y => exact Heap.lt_size (show h.get? a = some _ from x)
  | ext φ => obtain ⟨_, ⟨_, e⟩, _⟩ := x; exact Heap.lt_size e
theorem Paired.mapP {α β : Type} {F G : α → β → Prop} : ∀ {l₁ : List α} {l₂ : List β}, Paired F l₁ l₂ → (∀ a b, F a b → G a b) → Paired G l₁ l₂
  | _, _, .nil, _ => .nil
  | _, _, .cons r t, f => .cons (f _ _ r) (Paired.mapP t f)
/-- what an object's description leans on: its own object, its own dict, the tuples -/
theorem ObjOk.stay (x : ObjOk P w H h a o) (k : ∀ b u, (b = a ∨ H b = some (.own a)) → h.get? b = some u → h'.get? b = some u)
    (ho : ∀ b, H b = some (.own a) → H' b = some (.own a)) (ht : ∀ b xs, H b = some (.tup xs) → H' b = some (.tup xs)) : ObjOk P w H' h' a o := by
  induction o with
  | lst xs => obtain ⟨z, its, n, r, e⟩ := x; exact ⟨z, its, n, r, k _ _ (.inl rfl) e⟩
  | tup xs => obtain ⟨z, its, r, ob, e, c⟩ := x; exact ⟨z, its, r, ob, k _ _ (.inl rfl) e, c⟩
  | dK kvs => obtain ⟨z, y, vs, r, ob, es, ep, e, c⟩ := x; exact ⟨z, y, vs, r, ob, es, ep, k _ _ (.inl rfl) e, c⟩
  | dT kvs =>
    obtain ⟨z, y, xs, r, ob, es, ep, e, c⟩ := x
    exact ⟨z, y, xs, Paired.mapP r fun p q z => ⟨z.1, ht _ _ z.2.1, z.2.2⟩, ob, es, ep, k _ _ (.inl rfl) e, c⟩
  | set S n => obtain ⟨ob, es, ep, t, e, c⟩ := x; exact ⟨ob, es, ep, t, k _ _ (.inl rfl) e, c⟩
  | ins C dx fs =>
    obtain ⟨d, z, ne, e, mA, ⟨od, es, ep, e2, c⟩, r⟩ := x
    exact ⟨ho _ d, z, ne, k _ _ (.inl rfl) e, mA, ⟨od, es, ep, k _ _ (.inr d) e2, c⟩, r⟩
  | own y => obtain ⟨ob, e⟩ := x; exact ⟨ob, k _ _ (.inl rfl) e⟩
  | xd fs => obtain ⟨mA, ⟨od, es, ep, e, c⟩, r⟩ := x; exact ⟨mA, ⟨od, es, ep, k _ _ (.inl rfl) e, c⟩, r⟩
  | rng lo hi => obtain ⟨t, u, v, e⟩ := x; exact ⟨t, u, v, k _ _ (.inl rfl) e⟩
  | frz ob u ih => obtain ⟨e, q⟩ := x; exact ⟨k _ _ (.inl rfl) e, ih q⟩
  | tbl ps =>
    have e : h.get? a = some { cls := .none, data := .fields ps } := x
    show h'.get? a = some { cls := .none, data := .fields ps }
    exact k a _ (.inl rfl) e
  | met f y =>
    have e : h.get? a = some (PySem.W.methodObj (.ref f) (.ref y)) := x
    show h'.get? a = some (PySem.W.methodObj (.ref f) (.ref y))
    exact k a _ (.inl rfl) e
  | ext φ => obtain ⟨p, ⟨o, e⟩, st⟩ := x; exact ⟨st _ _ p fun o q => k _ _ (.inl rfl) q, ⟨o, k _ _ (.inl rfl) e⟩, st⟩
theorem HOk.lt (x : HOk P w H h) (e : H a = some o) : a < h.objs.size := (x a o e).lt
theorem HOk.fresh (x : HOk P w H h) (e : h.objs.size ≤ a) : H a = none := by
  cases q : H a with
  | none => rfl
  | some u => exact absurd (Nat.lt_of_lt_of_le (x.lt q) e) (Nat.lt_irrefl _)
/-- every object of the heap is kept -/
theorem HOk.kept (x : HOk P w H h) (k : ∀ b u, h.get? b = some u → h'.get? b = some u) : HOk P w H h' := fun a o e =>
  (x a o e).stay (fun b u _ q => k b u q) (fun _ q => q) fun _ _ q => q
/-- a new object is laid and tracked -/
theorem HOk.laid (x : HOk P w H h) (k : ∀ b u, h.get? b = some u → h'.get? b = some u) (hp : h.objs.size ≤ a) (new : ObjOk P w (upd H a o) h' a o) : HOk P w (upd H a o) h' := fun b u e => by
  have hn := x.fresh hp
  by_cases hb : b = a
  · subst hb; rw [upd_same] at e; cases e; exact new
  · rw [upd_ne hb] at e
    exact (x b u e).stay (fun c v _ q => k c v q) (fun c q => by rw [upd_ne (ne_of_none q hn)]; exact q) fun c xs q => by rw [upd_ne (ne_of_none q hn)]; exact q
end

/-- what may be read as u: it is u, or a known u -/
def Rd (H : Hp) (a : Addr) (u : HO) : Prop := H a = some u ∨ ∃ o, H a = some (.frz o u)
theorem Rd.of {H : Hp} {a : Addr} {u : HO} (h : H a = some u) : Rd H a u := .inl h
theorem Rd.ok {P : Program} {w : World} {H : Hp} {h : Heap} {a : Addr} {u : HO} (r : Rd H a u) (x : HOk P w H h) : ObjOk P w H h a u := by
  rcases r with r | ⟨o, r⟩
  · exact x a u r
  · obtain ⟨_, q⟩ := x a _ r
    exact q
/-- what may be written -/
def Mut : Option HO → Prop
  | some (.lst _) => True
  | some (.dK _) => True
  | some (.dT _) => True
  | some (.set _ _) => True
  | some (.ins _ _ _) => True
  | some (.ext _) => True
  | _ => False
section
variable {P : Program} {w : World} {H : Hp} {h h' : Heap} {x e : Addr} {o' : HO}
/-- the object at e is changed: x itself, or the dict of the instance x -/
theorem HOk.write (ok : HOk P w H h) (mu : Mut (H x)) (he : e = x ∨ H e = some (.own x)) (k : ∀ b u, b ≠ e → h.get? b = some u → h'.get? b = some u) (heo : ∃ u, h'.get? e = some u)
    (new : ObjOk P w (upd H x o') h' x o') : HOk P w (upd H x o') h' := fun b u q => by
  have nown : ∀ c y, H c = some (.own y) → c ≠ x := fun c y r z => by subst z; rw [r] at mu; exact mu
  have ntup : ∀ c xs, H c = some (.tup xs) → c ≠ x := fun c xs r z => by subst z; rw [r] at mu; exact mu
  by_cases hb : b = x
  · subst hb; rw [upd_same] at q; cases q; exact new
  · rw [upd_ne hb] at q
    by_cases hbe : b = e
    · have q' : H b = some (.own x) := by
        rcases he with z | z
        · exact absurd (hbe.trans z) hb
        · rw [hbe]; exact z
      rw [q] at q'; cases q'
      obtain ⟨v, hv⟩ := heo
      exact ⟨v, by rw [hbe]; exact hv⟩
    · refine (ok b u q).stay (fun c v hc r => k c v ?_ r) (fun c r => by rw [upd_ne (nown c b r)]; exact r) fun c xs r => by rw [upd_ne (ntup c xs r)]; exact r
      rcases hc with rfl | hc
      · exact hbe
      · rintro rfl
        rcases he with z | z
        · exact nown c b hc z
        · rw [hc] at z; cases z; exact hb rfl
end

/-! ### kept unless tracked; of the frames at fs (the callers') the slots may change (an exception that passes writes there); of the records at ex (iterators) nothing is said -/
structure Un (fs ex : List Addr) (H H' : Hp) (h h' : Heap) : Prop where
  keep : ∀ b o, h.get? b = some o → H b = none → b ∉ fs → b ∉ ex → h'.get? b = some o
  slot : ∀ b o, h.get? b = some o → H b = none → b ∈ fs → b ∉ ex → ∃ sl, h'.get? b = some { o with slots := sl }
  free : ∀ b o, h.get? b = some o → H b = none → b ∉ ex → H' b = none
  there : ∀ b o, h.get? b = some o → b ∉ ex → ∃ o', h'.get? b = some o'
  tups : ∀ b xs, H b = some (.tup xs) → H' b = some (.tup xs)
  frzs : ∀ b o u, H b = some (.frz o u) → H' b = some (.frz o u)
  tbls : ∀ b ps, H b = some (.tbl ps) → ∃ more, H' b = some (.tbl (ps ++ more))
section
variable {fs fs' ex ex' : List Addr} {H H1 H2 : Hp} {h h1 h2 h' : Heap} {a x e : Addr} {o : HO}
theorem Un.any (u : Un fs ex H H1 h h1) {b : Addr} {ob : Obj} (q : h.get? b = some ob) (n : H b = none) (hx : b ∉ ex) : ∃ sl, h1.get? b = some { ob with slots := sl } := by
  by_cases hb : b ∈ fs
  · exact u.slot b ob q n hb hx
  · exact ⟨ob.slots, u.keep b ob q n hb hx⟩
theorem Un.trans (a : Un fs ex H H1 h h1) (b : Un fs ex H1 H2 h1 h2) : Un fs ex H H2 h h2 where
  keep := fun c ob q n hc hx => b.keep c ob (a.keep c ob q n hc hx) (a.free c ob q n hx) hc hx
  slot := fun c ob q n hc hx => by
    obtain ⟨sl, e1⟩ := a.slot c ob q n hc hx
    obtain ⟨sl', e2⟩ := b.slot c _ e1 (a.free c ob q n hx) hc hx
    exact ⟨sl', e2⟩
  free := fun c ob q n hx => by
    obtain ⟨o', e1⟩ := a.there c ob q hx
    exact b.free c o' e1 (a.free c ob q n hx) hx
  there := fun c ob q hx => by
    obtain ⟨o', e1⟩ := a.there c ob q hx
    exact b.there c o' e1 hx
  tups := fun c xs q => b.tups c xs (a.tups c xs q)
  frzs := fun c ob xs q => b.frzs c ob xs (a.frzs c ob xs q)
  tbls := fun c ps q => by
    obtain ⟨m1, e1⟩ := a.tbls c ps q
    obtain ⟨m2, e2⟩ := b.tbls c _ e1
    exact ⟨m1 ++ m2, by rw [e2, Array.append_assoc]⟩
theorem Un.kept (k : ∀ b u, h.get? b = some u → h'.get? b = some u) : Un fs ex H H h h' :=
  ⟨fun b ob q _ _ _ => k b ob q, fun b ob q _ _ _ => ⟨ob.slots, k b ob q⟩, fun _ _ _ n _ => n, fun b ob q _ => ⟨ob, k b ob q⟩, fun _ _ q => q, fun _ _ _ q => q, fun _ ps q => ⟨#[], by rw [q]; simp⟩⟩
theorem Un.refl : Un fs ex H H h h := Un.kept fun _ _ q => q
theorem Un.laid (k : ∀ b u, h.get? b = some u → h'.get? b = some u) (hp : h.objs.size ≤ a) (hn : H a = none) : Un fs ex H (upd H a o) h h' where
  keep := fun b u q _ _ _ => k b u q
  slot := fun b u q _ _ _ => ⟨u.slots, k b u q⟩
  free := fun b u q n _ => by rw [upd_ne (Nat.ne_of_lt (Nat.lt_of_lt_of_le (Heap.lt_size q) hp))]; exact n
  there := fun b u q _ => ⟨u, k b u q⟩
  tups := fun b xs q => by rw [upd_ne (ne_of_none q hn)]; exact q
  frzs := fun b u xs q => by rw [upd_ne (ne_of_none q hn)]; exact q
  tbls := fun b ps q => ⟨#[], by rw [upd_ne (ne_of_none q hn), q]; simp⟩
theorem Un.write (mu : Mut (H x)) (he : e = x ∨ H e = some (.own x)) (k : ∀ b u, b ≠ e → h.get? b = some u → h'.get? b = some u) (heo : ∃ u, h'.get? e = some u) : Un fs ex H (upd H x o) h h' := by
  have hx : ∀ b, H b = none → b ≠ x := fun b n z => by subst z; rw [n] at mu; exact mu
  have hb : ∀ b, H b = none → b ≠ e := fun b n z => by
    subst z
    rcases he with r | r
    · exact hx b n r
    · rw [n] at r; cases r
  have hm : ∀ b u, H b = some u → ¬ Mut (some u) → b ≠ x := fun b u q nm z => by subst z; rw [q] at mu; exact nm mu
  refine ⟨fun b u q n _ _ => k b u (hb b n) q, fun b u q n _ _ => ⟨u.slots, k b u (hb b n) q⟩, fun b u q n _ => by rw [upd_ne (hx b n)]; exact n, fun b u q _ => ?_,
    fun b xs q => by rw [upd_ne (hm b _ q fun z => z)]; exact q, fun b u xs q => by rw [upd_ne (hm b _ q fun z => z)]; exact q, fun b ps q => ⟨#[], by rw [upd_ne (hm b _ q fun z => z), q]; simp⟩⟩
  by_cases hbe : b = e
  · subst hbe; exact heo
  · exact ⟨u, k b u hbe q⟩
theorem Un.mono (u : Un fs ex H H1 h h1) (hs : ∀ b ∈ fs, b ∈ fs') (hx : ∀ b ∈ ex, b ∈ ex') : Un fs' ex' H H1 h h1 :=
  ⟨fun b ob q n hb he => u.keep b ob q n (fun z => hb (hs b z)) fun z => he (hx b z), fun _ _ q n _ he => u.any q n fun z => he (hx _ z), fun b ob q n he => u.free b ob q n fun z => he (hx b z), fun b ob q he => u.there b ob q fun z => he (hx b z), u.tups, u.frzs, u.tbls⟩
end

/-! ### the heap without what is tracked -/
def trk (h : Heap) (H : Hp) : List Addr := (List.range h.objs.size).filter fun a => (H a).isSome
def hidT (h : Heap) (H : Hp) : Heap := PySem.W.hideAll h (trk h H)
theorem hidT_size (h : Heap) (H : Hp) : (hidT h H).objs.size = h.objs.size := PySem.W.hideAll_size _ _
theorem hidT_get {h : Heap} {H : Hp} {b : Addr} {o : Obj} (e : h.get? b = some o) (n : H b = none) : (hidT h H).get? b = some o :=
  PySem.W.hideAll_get _ e fun hm => by
    have q : (H b).isSome = true := (List.mem_filter.mp hm).2
    rw [n] at q; simp at q
theorem of_hidT {h : Heap} {H : Hp} {b : Addr} {o : Obj} (e : (hidT h H).get? b = some o) : h.get? b = some o ∧ H b = none := by
  have e' : h.get? b = some o := PySem.W.of_hideAll (trk h H) e
  refine ⟨e', ?_⟩
  cases q : H b with
  | none => rfl
  | some x =>
    have hm : b ∈ trk h H := List.mem_filter.mpr ⟨List.mem_range.mpr (Heap.lt_size e'), by simp [q]⟩
    have z : (hidT h H).get? b = none := PySem.W.hideAll_none (trk h H) hm
    rw [z] at e; cases e

/-! ### OpenK's ledger, filled with every new object but one -/
def allNews (g h : Heap) (L : Addr) : List (Addr × Obj) := (List.range h.objs.size).filterMap fun a => if a = L ∨ (g.get? a).isSome = true then none else (h.get? a).map fun o => (a, o)
def rest (g h : Heap) (L d : Addr) : List (Addr × Obj) := (allNews g h L).filter fun p => decide (p.1 ≠ d)
end L2

namespace L2
open PySem PySem.Spec PyProof.Rows

/-- the module's facts, over the base: the heap at the law's entry without what is tracked there -/
structure Mod (K : PySem.W.Frag) (mg : Str → Option Value) (base : Heap) : Prop where
  kin : K.In base
  glob : base.Ns mainGlobals mg
  blt : ∃ mb, base.Ns builtinsNs mb ∧ ∀ x : Str, x ≠ "__name__" → mb x = bootBuiltins x
  nolimit : base.NoLimit

/-- the context: a def's body (or a comprehension's block) running. base: fixed through the whole law; s₀, H₀: the entry; outer: the frames whose slots others may change (a def's callers); stack: all frames that run;
   ex: iterators that were made ahead of the entry and are walked here (a comprehension's); fn: the names whose cells were made at the entry (a def: all; a comprehension's block: its own); calm: not within an except suite; pn: pins that every state bears; xe: what is wanted of an exception that leaves the code -/
structure Cx where
  prog : Program
  w : World
  K : PySem.W.Frag
  mg : Str → Option Value
  base : Heap
  A : Around
  N : List Str
  s_0 : Shared
  H_0 : Hp
  env : Env
  outer : List Env
  stack : List Env
  ex : List Addr
  fn : Str → Bool
  calm : Bool
  pn : List (Addr × Obj)
  xe : Value → Shared → Prop
/-- the callers' frames -/
def frs (l : List Env) : List Addr := l.filterMap (·.frame)
abbrev Cx.fs (X : Cx) : List Addr := frs X.outer

def Vis (sc : Scope) (x : Str) : Prop := sc.names.lookup x = some .local ∨ sc.names.lookup x = some .cell ∨ sc.names.lookup x = some .free
def Loc (sc : Scope) (x : Str) : Prop := sc.names.lookup x = some .local ∨ sc.names.lookup x = some .cell
def Look (env : Env) (h : Heap) (m : Str → Option Value) (x : Str) (u : Value) : Prop :=
  (env.kindOf x = some .local ∧ m x = some u) ∨ ((env.kindOf x = some .cell ∨ env.kindOf x = some .free) ∧ ∃ c, env.cells.lookup x = some c ∧ h.IsCell c (some u))

structure Cx.Ok (X : Cx) : Prop where
  mod : Mod X.K X.mg X.base
  kind : X.env.scope.kind = .function
  glob : X.env.globals = mainGlobals
  blt : X.env.builtins = builtinsNs
  above : X.s_0.heap.objs.size ≤ X.env.locals
  inj : ∀ x y c, X.env.cells.lookup x = some c → X.env.cells.lookup y = some c → x = y
  has : ∀ x, (X.env.kindOf x = some .cell ∨ X.env.kindOf x = some .free) → ∃ c, X.env.cells.lookup x = some c
  cab : ∀ x c, X.fn x = true → X.env.cells.lookup x = some c → X.s_0.heap.objs.size ≤ c
  hd : X.calm = true → X.A.handled = none
  frames : X.A.frames = some X.stack
  stk : X.stack = X.outer ∨ (X.stack = X.env :: X.outer ∧ X.env.frame = some X.env.locals)
  exf : ∀ b ∈ X.ex, b ≠ X.env.locals ∧ ∀ x c, X.env.cells.lookup x = some c → c ≠ b
  bs : ∀ b o, X.base.get? b = some o → X.s_0.heap.get? b = some o ∧ X.H_0 b = none
  bsz : X.base.objs.size ≤ X.s_0.heap.objs.size
  noex : ∀ b o, X.base.get? b = some o → b ∉ X.ex
  exfs : ∀ b ∈ X.ex, b ∉ X.fs
  funs : X.s_0.heap.FunFrames X.base X.outer
  frf : ∀ b ∈ X.fs, X.H_0 b = none

structure Inv (X : Cx) (pins : List (Addr × Obj)) (σ : List (Option V)) (H : Hp) (s : Shared) : Prop where
  ok : X.Ok
  os : s.os = X.s_0.os
  bare : AllBare s.gens
  base : Un X.fs X.ex X.H_0 H X.s_0.heap s.heap
  loc : ∃ m, s.heap.Ns X.env.locals m ∧ ∀ (i : Nat) (x : Str) (v : V), X.N[i]? = some x → σ[i]? = some (some v) → Vis X.env.scope x → ∃ u, RelV v u ∧ Look X.env s.heap m x u
  cell : ∀ x c, X.env.cells.lookup x = some c → ∃ v, s.heap.IsCell c v
  free : H X.env.locals = none
  freeC : ∀ x c, X.env.cells.lookup x = some c → H c = none
  pin : ∀ p ∈ X.pn ++ pins, s.heap.get? p.1 = some p.2 ∧ H p.1 = none ∧ p.1 ≠ X.env.locals ∧ p.1 ∉ X.fs ∧ ∀ v, p.2.data ≠ .cell v
  hok : HOk X.prog X.w H s.heap
  len : σ.length = X.N.length

section
variable {X : Cx} {pins : List (Addr × Obj)} {σ : List (Option V)} {H H' : Hp} {s : Shared} {h' : Heap}

theorem Cx.Ok.nofr (ok : X.Ok) {b : Addr} {o : Obj} (e : X.base.get? b = some o) : b ∉ X.fs := fun hb => by
  have := (ok.funs.mem hb).1
  rw [e] at this; cases this
theorem Inv.bs (I : Inv X pins σ H s) : ∀ b o, X.base.get? b = some o → s.heap.get? b = some o ∧ H b = none := fun b o e =>
  ⟨I.base.keep b o (I.ok.bs b o e).1 (I.ok.bs b o e).2 (I.ok.nofr e) (I.ok.noex b o e), I.base.free b o (I.ok.bs b o e).1 (I.ok.bs b o e).2 (I.ok.noex b o e)⟩
theorem Inv.bk (I : Inv X pins σ H s) : ∀ b o, X.base.get? b = some o → s.heap.get? b = some o := fun b o e => (I.bs b o e).1
theorem Inv.mod (I : Inv X pins σ H s) : Mod X.K X.mg X.base := I.ok.mod
theorem Inv.kIn (I : Inv X pins σ H s) : X.K.In s.heap := I.ok.mod.kin.keeps I.bk
theorem Inv.nolimit (I : Inv X pins σ H s) : s.heap.NoLimit := I.ok.mod.nolimit.keeps I.bk
/-- the frame over the base: for OpenK's rules (K.In X.base is I.mod.kin) -/
theorem Inv.fr (I : Inv X pins σ H s) : ∃ m, Fr X.base X.env.locals s.heap m :=
  let ⟨m, hn, _⟩ := I.loc
  ⟨m, hn, I.bk, Nat.le_trans I.ok.bsz I.ok.above⟩
theorem Inv.lt (I : Inv X pins σ H s) : X.env.locals < s.heap.objs.size := let ⟨_, hn, _⟩ := I.loc; hn.lt
theorem Inv.sz (I : Inv X pins σ H s) : X.s_0.heap.objs.size ≤ s.heap.objs.size := Nat.le_trans I.ok.above (Nat.le_of_lt I.lt)
theorem Inv.nofs (I : Inv X pins σ H s) {a : Addr} (h : s.heap.objs.size ≤ a) : a ∉ X.fs := fun hb => by
  obtain ⟨_, o, ho, _⟩ := I.ok.funs.mem hb
  exact absurd (Nat.lt_of_lt_of_le (Heap.lt_size ho) (Nat.le_trans I.sz h)) (Nat.lt_irrefl _)
theorem Inv.cne (I : Inv X pins σ H s) : ∀ x c, X.env.cells.lookup x = some c → c ≠ X.env.locals := fun x c e z => by
  obtain ⟨v, o, ho, hd⟩ := I.cell x c e
  obtain ⟨m, ⟨o', es, ep, ho', hd', _⟩, _⟩ := I.loc
  rw [z, ho'] at ho; cases ho; rw [hd'] at hd; cases hd
theorem Inv.funs (I : Inv X pins σ H s) : s.heap.FunFrames X.base X.outer := by
  have all : ∀ (l : List Env), (∀ b ∈ frs l, b ∈ X.fs) → X.s_0.heap.FunFrames X.base l → s.heap.FunFrames X.base l := by
    intro l
    induction l with
    | nil => intro _ _; trivial
    | cons env r ih =>
      intro hs hl
      obtain ⟨hk, ⟨L, o, hf, hn, ho, hd⟩, hr⟩ := hl
      have hL : L ∈ X.fs := hs L (by unfold frs; rw [List.filterMap_cons, hf]; exact List.mem_cons_self)
      obtain ⟨sl, e⟩ := I.base.slot L o ho (I.ok.frf L hL) hL fun z => I.ok.exfs L z hL
      exact ⟨hk, ⟨L, _, hf, hn, e, hd⟩, ih (fun b hb => hs b (by unfold frs; rw [List.filterMap_cons, hf]; exact List.mem_cons_of_mem _ hb)) hr⟩
  exact all X.outer (fun _ hb => hb) I.ok.funs

/-- the frames that run, for a call -/
theorem Inv.stack (I : Inv X pins σ H s) : s.heap.FunFrames X.base X.stack := by
  rcases I.ok.stk with e | ⟨e, hf⟩
  · rw [e]; exact I.funs
  · rw [e]
    obtain ⟨m, hn, _⟩ := I.loc
    refine .cons (by rw [I.ok.kind]; decide) hf hn ?_ I.funs
    exact Heap.get?_none_of_le (Nat.le_trans I.ok.bsz I.ok.above)
theorem Inv.stkSub (I : Inv X pins σ H s) : ∀ b ∈ frs X.stack, b ∈ X.env.locals :: X.fs := fun b hb => by
  rcases I.ok.stk with e | ⟨e, hf⟩
  · rw [e] at hb; exact List.mem_cons_of_mem _ hb
  · rw [e] at hb
    unfold frs at hb
    rw [List.filterMap_cons, hf] at hb
    exact hb
theorem Inv.stkFree (I : Inv X pins σ H s) : ∀ b ∈ frs X.stack, H b = none := fun b hb => by
  rcases List.mem_cons.mp (I.stkSub b hb) with e | hb
  · rw [e]; exact I.free
  · obtain ⟨_, o, ho, _⟩ := I.ok.funs.mem hb
    exact I.base.free b o ho (I.ok.frf b hb) fun z => I.ok.exfs b z hb

/-- THE STEP: the untracked objects but the frame and the records at ch are kept (the callers' frames up to slots), the frame's map is kept, the new abstract heap is held -/
theorem Inv.step {g' : Array GenState} {t' : Nat} {d' : Drawn} {ch : List Addr} (I : Inv X pins σ H s)
    (hch : ∀ b ∈ ch, (b ∈ X.ex ∨ X.s_0.heap.objs.size ≤ b) ∧ b ≠ X.env.locals ∧ (∀ x c, X.env.cells.lookup x = some c → c ≠ b) ∧ ∀ p ∈ X.pn ++ pins, p.1 ≠ b)
    (keep : ∀ b o, b ≠ X.env.locals → b ∉ X.fs → b ∉ ch → s.heap.get? b = some o → H b = none → h'.get? b = some o)
    (slot : ∀ b o, b ≠ X.env.locals → b ∈ X.fs → b ∉ ch → s.heap.get? b = some o → H b = none → ∃ sl, h'.get? b = some { o with slots := sl }) (free : ∀ b o, b ∉ ch → s.heap.get? b = some o → H b = none → H' b = none)
    (there : ∀ b o, b ∉ ch → s.heap.get? b = some o → ∃ o', h'.get? b = some o')
    (tups : ∀ b xs, H b = some (.tup xs) → H' b = some (.tup xs)) (frzs : ∀ b o u, H b = some (.frz o u) → H' b = some (.frz o u)) (tbls : ∀ b ps, H b = some (.tbl ps) → ∃ more, H' b = some (.tbl (ps ++ more)))
    (ns : ∀ m, s.heap.Ns X.env.locals m → h'.Ns X.env.locals m) (hok : HOk X.prog X.w H' h') (hg : AllBare g') :
    Inv X pins σ H' { s with heap := h', gens := g', drawn := d', toks := t' } := by
  have neL : ∀ b o, X.s_0.heap.get? b = some o → b ≠ X.env.locals := fun b o e => Nat.ne_of_lt (Nat.lt_of_lt_of_le (Heap.lt_size e) I.ok.above)
  have neC : ∀ b o, X.s_0.heap.get? b = some o → b ∉ X.ex → b ∉ ch := fun b o e hx hb => by
    rcases (hch b hb).1 with z | z
    · exact hx z
    · exact absurd (Nat.lt_of_lt_of_le (Heap.lt_size e) z) (Nat.lt_irrefl _)
  have cellK : ∀ x c, X.env.cells.lookup x = some c → ∀ v, s.heap.IsCell c v → h'.IsCell c v := fun x c e v ⟨o, ho, hd⟩ => by
    have nch : c ∉ ch := fun z => (hch c z).2.2.1 x c e rfl
    by_cases hc : c ∈ X.fs
    · obtain ⟨sl, q⟩ := slot c o (I.cne x c e) hc nch ho (I.freeC x c e)
      exact ⟨_, q, hd⟩
    · exact ⟨o, keep c o (I.cne x c e) hc nch ho (I.freeC x c e), hd⟩
  refine ⟨I.ok, I.os, hg, ⟨fun b o e n hb hx => ?_, fun b o e n hb hx => ?_, fun b o e n hx => ?_, fun b o e hx => ?_, fun b xs e => tups b xs (I.base.tups b xs e), fun b o xs e => frzs b o xs (I.base.frzs b o xs e), fun b ps e => ?_⟩, ?_, fun x c e => ?_, ?_, fun x c e => ?_, fun p hp => ?_, hok, I.len⟩
  · exact keep b o (neL b o e) hb (neC b o e hx) (I.base.keep b o e n hb hx) (I.base.free b o e n hx)
  · obtain ⟨sl, e1⟩ := I.base.slot b o e n hb hx
    obtain ⟨sl', e2⟩ := slot b _ (neL b o e) hb (neC b o e hx) e1 (I.base.free b o e n hx)
    exact ⟨sl', e2⟩
  · obtain ⟨o', e1⟩ := I.base.there b o e hx
    exact free b o' (neC b o e hx) e1 (I.base.free b o e n hx)
  · obtain ⟨o', e1⟩ := I.base.there b o e hx
    exact there b o' (neC b o e hx) e1
  · obtain ⟨m1, e1⟩ := I.base.tbls b ps e
    obtain ⟨m2, e2⟩ := tbls b _ e1
    exact ⟨m1 ++ m2, by rw [e2, Array.append_assoc]⟩
  · obtain ⟨m, hn, hl⟩ := I.loc
    refine ⟨m, ns m hn, fun i x v e1 e2 e3 => ?_⟩
    obtain ⟨u, r, l⟩ := hl i x v e1 e2 e3
    refine ⟨u, r, ?_⟩
    rcases l with l | ⟨k, c, e, z⟩
    · exact .inl l
    · exact .inr ⟨k, c, e, cellK x c e _ z⟩
  · obtain ⟨v, z⟩ := I.cell x c e
    exact ⟨v, cellK x c e v z⟩
  · obtain ⟨m, ⟨o, _, _, ho, _⟩, _⟩ := I.loc
    exact free _ o (fun z => (hch _ z).2.1 rfl) ho I.free
  · obtain ⟨v, o, ho, hd⟩ := I.cell x c e
    exact free c o (fun z => (hch c z).2.2.1 x c e rfl) ho (I.freeC x c e)
  · obtain ⟨e, n, ne, nf, d⟩ := I.pin p hp
    have nch : p.1 ∉ ch := fun z => (hch p.1 z).2.2.2 p hp rfl
    exact ⟨keep p.1 p.2 ne nf nch e n, free p.1 p.2 nch e n, ne, nf, d⟩
/-- .. where the frame's own object is kept too -/
theorem Inv.un {t' : Nat} (I : Inv X pins σ H s) (u : Un X.fs [] H H' s.heap h') (hok : HOk X.prog X.w H' h') : Inv X pins σ H' { s with heap := h', toks := t' } := by
  obtain ⟨m, ⟨o, es, ep, ho, r⟩, _⟩ := id I.loc
  obtain ⟨sl, hL⟩ := u.any ho I.free (by simp)
  exact I.step (g' := s.gens) (d' := s.drawn) (ch := []) (fun _ z => nomatch z) (fun b o _ hb _ e n => u.keep b o e n hb (by simp)) (fun b o _ hb _ e n => u.slot b o e n hb (by simp)) (fun b o _ e n => u.free b o e n (by simp)) (fun b o _ e => u.there b o e (by simp)) u.tups u.frzs u.tbls (fun m' hm => by
    obtain ⟨o', es', ep', ho', r'⟩ := hm
    rw [ho] at ho'; cases ho'
    exact ⟨_, es', ep', hL, r'⟩) hok I.bare
/-- behind a call (or a comprehension's block): the slots of this frame may have changed too, the records at ch may have turned -/
theorem Inv.call {g' : Array GenState} {t' : Nat} {d' : Drawn} {ch : List Addr} (I : Inv X pins σ H s) (u : Un (frs X.stack) ch H H' s.heap h') (hok : HOk X.prog X.w H' h') (hg : AllBare g')
    (hch : ∀ b ∈ ch, (b ∈ X.ex ∨ X.s_0.heap.objs.size ≤ b) ∧ b ≠ X.env.locals ∧ (∀ x c, X.env.cells.lookup x = some c → c ≠ b) ∧ ∀ p ∈ X.pn ++ pins, p.1 ≠ b) :
    Inv X pins σ H' { s with heap := h', gens := g', drawn := d', toks := t' } := by
  obtain ⟨m, ⟨o, es, ep, ho, r⟩, _⟩ := id I.loc
  obtain ⟨sl, hL⟩ := u.any ho I.free fun z => (hch _ z).2.1 rfl
  exact I.step (ch := ch) hch (fun b o hL hb hc e n => u.keep b o e n (fun z => (List.mem_cons.mp (I.stkSub b z)).elim hL hb) hc) (fun b o _ _ hc e n => u.any e n hc) (fun b o hc e n => u.free b o e n hc) (fun b o hc e => u.there b o e hc) u.tups u.frzs u.tbls (fun m' hm => by
    obtain ⟨o', es', ep', ho', r'⟩ := hm
    rw [ho] at ho'; cases ho'
    exact ⟨_, es', ep', hL, r'⟩) hok hg
/-- an untracked record of ours (an iterator) has turned -/
theorem Inv.turned {t' : Nat} {it : Addr} (I : Inv X pins σ H s) (k : ∀ b o, b ≠ it → s.heap.get? b = some o → h'.get? b = some o) (hn : H it = none) (hL : it ≠ X.env.locals)
    (h1 : it ∈ X.ex ∨ X.s_0.heap.objs.size ≤ it) (h2 : ∀ x c, X.env.cells.lookup x = some c → c ≠ it) (h3 : ∀ p ∈ X.pn ++ pins, p.1 ≠ it) : Inv X pins σ H { s with heap := h', toks := t' } := by
  have nit : ∀ b u, H b = some u → b ≠ it := fun b u e z => by rw [z, hn] at e; cases e
  refine I.step (g' := s.gens) (d' := s.drawn) (ch := [it]) (fun b hb => ?_) (fun b o _ _ hc e _ => k b o (fun z => hc (by simp [z])) e) (fun b o _ _ hc e _ => ⟨o.slots, k b o (fun z => hc (by simp [z])) e⟩) (fun _ _ _ _ n => n)
    (fun b o hc e => ⟨o, k b o (fun z => hc (by simp [z])) e⟩) (fun _ _ e => e) (fun _ _ _ e => e) (fun b ps e => ⟨#[], by rw [e]; simp⟩) (fun m hm => ?_) (fun b u e => ?_) I.bare
  · have e : b = it := by simpa using hb
    subst e
    exact ⟨h1, hL, h2, h3⟩
  · obtain ⟨o, es, ep, ho, r⟩ := hm
    exact ⟨o, es, ep, k _ o (Ne.symm hL) ho, r⟩
  · refine (I.hok b u e).stay (fun c v hc q => k c v ?_ q) (fun _ q => q) fun _ _ q => q
    rcases hc with z | z
    · rw [z]; exact nit b u e
    · exact nit c _ z
theorem Inv.tok (I : Inv X pins σ H s) (t : Nat) : Inv X pins σ H { s with toks := t } := I.un (h' := s.heap) (t' := t) Un.refl I.hok
/-- all objects kept -/
theorem Inv.kept {t' : Nat} (I : Inv X pins σ H s) (k : ∀ b u, s.heap.get? b = some u → h'.get? b = some u) : Inv X pins σ H { s with heap := h', toks := t' } := I.un (Un.kept k) (I.hok.kept k)
/-- a new object laid and tracked -/
theorem Inv.laid {a : Addr} {o : HO} {t' : Nat} (I : Inv X pins σ H s) (k : ∀ b u, s.heap.get? b = some u → h'.get? b = some u) (hp : s.heap.objs.size ≤ a) (new : ObjOk X.prog X.w (upd H a o) h' a o) :
    Inv X pins σ (upd H a o) { s with heap := h', toks := t' } := I.un (Un.laid k hp (I.hok.fresh hp)) (I.hok.laid k hp new)
/-- an object written -/
theorem Inv.write {x e : Addr} {o : HO} {t' : Nat} (I : Inv X pins σ H s) (mu : Mut (H x)) (he : e = x ∨ H e = some (.own x)) (k : ∀ b u, b ≠ e → s.heap.get? b = some u → h'.get? b = some u) (heo : ∃ u, h'.get? e = some u)
    (new : ObjOk X.prog X.w (upd H x o) h' x o) : Inv X pins σ (upd H x o) { s with heap := h', toks := t' } := I.un (Un.write mu he k heo) (I.hok.write mu he k heo new)
/-- forgetting slots, pins -/
theorem Inv.weak {σ' : List (Option V)} (I : Inv X pins σ H s) (hl : σ'.length = σ.length) (w : ∀ (i : Nat) v, σ'[i]? = some (some v) → σ[i]? = some (some v)) : Inv X pins σ' H s :=
  ⟨I.ok, I.os, I.bare, I.base, let ⟨m, hn, hl'⟩ := I.loc; ⟨m, hn, fun i x v e1 e2 e3 => hl' i x v e1 (w i v e2) e3⟩, I.cell, I.free, I.freeC, I.pin, I.hok, hl.trans I.len⟩
theorem Inv.pins_of {pins' : List (Addr × Obj)} (I : Inv X pins σ H s) (h : ∀ p ∈ pins', s.heap.get? p.1 = some p.2 ∧ H p.1 = none ∧ p.1 ≠ X.env.locals ∧ p.1 ∉ X.fs ∧ ∀ v, p.2.data ≠ .cell v) : Inv X pins' σ H s :=
  ⟨I.ok, I.os, I.bare, I.base, I.loc, I.cell, I.free, I.freeC, fun p hp => (List.mem_append.mp hp).elim (fun z => I.pin p (List.mem_append_left _ z)) (h p), I.hok, I.len⟩

theorem nodup_ix {N : List Str} (hN : N.Nodup) {i j : Nat} {x : Str} (a : N[i]? = some x) (b : N[j]? = some x) : i = j := by
  obtain ⟨h1, e1⟩ := List.getElem?_eq_some_iff.mp a
  obtain ⟨h2, e2⟩ := List.getElem?_eq_some_iff.mp b
  exact (List.getElem_inj hN).mp (e1.trans e2.symm)

/-- a name is stored; what changed -/
theorem store_ok2 {M : Model} {A : Around} {E : Value → Shared → Prop} {i : Nat} {x : Str} {v : V} {u : Value} {Q : Unit → Shared → Prop} (I : Inv X pins σ H s) (hN : X.N.Nodup) (hi : X.N[i]? = some x) (hx : Loc X.env.scope x) (r : RelV v u)
    (h : ∀ s', Inv X pins (σ.set i (some v)) H s' → (∃ a, Heap.SameBut a s.heap s'.heap ∧ (a = X.env.locals ∨ X.env.cells.lookup x = some a)) → Q () s') (hf : X.fn x = true ∨ X.env.scope.names.lookup x = some .local := by first | exact .inl rfl | exact .inr rfl | assumption) : wpAny M A (storeName X.env x u) Q E s := by
  obtain ⟨m, hn, hl⟩ := id I.loc
  have hcls : (X.env.scope.kind == .class || (X.env.scope.kind == .module && X.env.locals != X.env.globals)) = false := by rw [I.ok.kind]; rfl
  have hiσ : i < σ.length := by rw [I.len]; exact (List.getElem?_eq_some_iff.mp hi).1
  have cne := I.cne
  have tracked : ∀ {a : Addr} {h' : Heap}, (∃ o, s.heap.get? a = some o ∧ H a = none) → Heap.SameBut a s.heap h' → HOk X.prog X.w H h' := fun {a h'} ha hs b ob e => by
    obtain ⟨_, _, hfree⟩ := ha
    refine (I.hok b ob e).stay (fun c w' hc q => (hs.2 c ?_).trans q) (fun _ q => q) fun _ _ q => q
    rintro rfl
    rcases hc with rfl | hc
    · rw [hfree] at e; cases e
    · rw [hfree] at hc; cases hc
  rcases hx with hk | hk
  · refine wpAny_storeName_local hk hn (fun h' hn' hs => ?_) hcls
    obtain ⟨oL, _, _, hoL, _⟩ := id hn
    refine h _ ⟨I.ok, I.os, I.bare, ⟨fun b o e n hb hx => ?_, fun b o e n hb hx => ?_, I.base.free, fun b o e hx => ?_, I.base.tups, I.base.frzs, I.base.tbls⟩, ⟨_, hn', fun j y v' e1 e2 e3 => ?_⟩, fun y c e => ?_, I.free, I.freeC, fun p hp => ?_, tracked ⟨oL, hoL, I.free⟩ hs, by simpa using I.len⟩ ⟨_, hs, .inl rfl⟩
    · exact (hs.2 b (Nat.ne_of_lt (Nat.lt_of_lt_of_le (Heap.lt_size e) I.ok.above))).trans (I.base.keep b o e n hb hx)
    · obtain ⟨sl, e1⟩ := I.base.slot b o e n hb hx
      exact ⟨sl, (hs.2 b (Nat.ne_of_lt (Nat.lt_of_lt_of_le (Heap.lt_size e) I.ok.above))).trans e1⟩
    · obtain ⟨o', e1⟩ := I.base.there b o e hx
      exact ⟨o', (hs.2 b (Nat.ne_of_lt (Nat.lt_of_lt_of_le (Heap.lt_size e) I.ok.above))).trans e1⟩
    · by_cases hj : j = i
      · subst hj
        rw [hi] at e1; cases e1
        rw [List.getElem?_set_self hiσ] at e2
        cases e2
        exact ⟨u, r, .inl ⟨hk, by simp⟩⟩
      · rw [List.getElem?_set_ne (Ne.symm hj)] at e2
        obtain ⟨u', r', q⟩ := hl j y v' e1 e2 e3
        refine ⟨u', r', ?_⟩
        rcases q with ⟨k, e⟩ | ⟨k, c, e, z⟩
        · refine .inl ⟨k, ?_⟩
          have : y ≠ x := fun e => hj (nodup_ix hN e1 (e ▸ hi))
          simp [this, e]
        · exact .inr ⟨k, c, e, z.sameBut hs (cne y c e)⟩
    · obtain ⟨w', z⟩ := I.cell y c e
      exact ⟨w', z.sameBut hs (cne y c e)⟩
    · obtain ⟨e, n, ne, nf, d⟩ := I.pin p hp
      exact ⟨(hs.2 p.1 ne).trans e, n, ne, nf, d⟩
  · have hfn : X.fn x = true := by
      rcases hf with z | z
      · exact z
      · rw [z] at hk; cases hk
    obtain ⟨c, hc⟩ := I.ok.has x (.inl hk)
    obtain ⟨w', z⟩ := I.cell x c hc
    refine wpAny_storeName_cell I.ok.kind hk hc z (fun h' hc' hs => ?_)
    obtain ⟨oc, hoc, hocd⟩ := id z
    refine h { s with heap := h' } ⟨I.ok, I.os, I.bare, ⟨fun b o e n hb hx => ?_, fun b o e n hb hx => ?_, I.base.free, fun b o e hx => ?_, I.base.tups, I.base.frzs, I.base.tbls⟩, ⟨m, hn.sameBut hs (Ne.symm (cne x c hc)), fun j y v' e1 e2 e3 => ?_⟩, fun y c' e => ?_, I.free, I.freeC, fun p hp => ?_, tracked ⟨oc, hoc, I.freeC x c hc⟩ hs, by simpa using I.len⟩ ⟨c, hs, .inr hc⟩
    · exact (hs.2 b (Nat.ne_of_lt (Nat.lt_of_lt_of_le (Heap.lt_size e) (I.ok.cab x c hfn hc)))).trans (I.base.keep b o e n hb hx)
    · obtain ⟨sl, e1⟩ := I.base.slot b o e n hb hx
      exact ⟨sl, (hs.2 b (Nat.ne_of_lt (Nat.lt_of_lt_of_le (Heap.lt_size e) (I.ok.cab x c hfn hc)))).trans e1⟩
    · obtain ⟨o', e1⟩ := I.base.there b o e hx
      exact ⟨o', (hs.2 b (Nat.ne_of_lt (Nat.lt_of_lt_of_le (Heap.lt_size e) (I.ok.cab x c hfn hc)))).trans e1⟩
    · by_cases hj : j = i
      · subst hj
        rw [hi] at e1; cases e1
        rw [List.getElem?_set_self hiσ] at e2
        cases e2
        exact ⟨u, r, .inr ⟨.inl hk, c, hc, hc'⟩⟩
      · rw [List.getElem?_set_ne (Ne.symm hj)] at e2
        obtain ⟨u', r', q⟩ := hl j y v' e1 e2 e3
        refine ⟨u', r', ?_⟩
        rcases q with q | ⟨k, c', e, z'⟩
        · exact .inl q
        · refine .inr ⟨k, c', e, z'.sameBut hs ?_⟩
          rintro rfl
          exact hj (nodup_ix hN e1 (I.ok.inj _ _ _ e hc ▸ hi))
    · by_cases hcc : c' = c
      · subst hcc; exact ⟨_, hc'⟩
      · obtain ⟨w2, z2⟩ := I.cell y c' e
        exact ⟨w2, z2.sameBut hs hcc⟩
    · obtain ⟨e, n, ne, nf, d⟩ := I.pin p hp
      refine ⟨(hs.2 p.1 ?_).trans e, n, ne, nf, d⟩
      intro q
      rw [q, hoc] at e
      have q' : oc = p.2 := Option.some.inj e
      exact d w' (by rw [← q']; exact hocd)
theorem store_ok {M : Model} {A : Around} {E : Value → Shared → Prop} {i : Nat} {x : Str} {v : V} {u : Value} {Q : Unit → Shared → Prop} (I : Inv X pins σ H s) (hN : X.N.Nodup) (hi : X.N[i]? = some x) (hx : Loc X.env.scope x) (r : RelV v u)
    (h : ∀ s', Inv X pins (σ.set i (some v)) H s' → Q () s') (hf : X.fn x = true ∨ X.env.scope.names.lookup x = some .local := by first | exact .inl rfl | exact .inr rfl | assumption) : wpAny M A (storeName X.env x u) Q E s :=
  store_ok2 I hN hi hx r (fun s' I' _ => h s' I') hf
/-- behind a call or a block, the state as it is -/
theorem Inv.call' {s' : Shared} {ch : List Addr} (I : Inv X pins σ H s) (ho : s'.os = s.os) (u : Un (frs X.stack) ch H H' s.heap s'.heap) (hok : HOk X.prog X.w H' s'.heap) (hg : AllBare s'.gens)
    (hch : ∀ b ∈ ch, (b ∈ X.ex ∨ X.s_0.heap.objs.size ≤ b) ∧ b ≠ X.env.locals ∧ (∀ x c, X.env.cells.lookup x = some c → c ≠ b) ∧ ∀ p ∈ X.pn ++ pins, p.1 ≠ b) : Inv X pins σ H' s' := by
  obtain ⟨h', g', d', t', o'⟩ := s'
  have e : o' = s.os := ho
  subst e
  exact I.call (g' := g') (t' := t') (d' := d') u hok hg hch
end

/-! ### the judgements -/
/-- an exception: its class, its own dict's address (where it has one), the abstract heap behind it -/
abbrev XK := Value → Option Addr → Hp → Prop
abbrev St := List (Option V)
abbrev VK := V → Hp → Prop
/-- an expression's reading; a test's; an argument list's -/
abbrev TE := St → Hp → VK → Prop
abbrev TT := St → Hp → (Bool → Hp → Prop) → Prop
abbrev TA := St → Hp → (List V → Hp → Prop) → Prop
/-- what is wanted behind a statement -/
structure Ends where
  nx : St → Hp → Prop
  rt : VK
  bk : St → Hp → Prop := fun _ _ => False
  ct : St → Hp → Prop := fun _ _ => False
abbrev TS := Ends → St → Hp → Prop

def EP (X : Cx) (pins : List (Addr × Obj)) (σ : St) (Q : VK) (u : Value) (s' : Shared) : Prop := ∃ v H', Inv X pins σ H' s' ∧ RelV v u ∧ Q v H'
def TP (X : Cx) (pins : List (Addr × Obj)) (σ : St) (Q : Bool → Hp → Prop) (b : Bool) (s' : Shared) : Prop := ∃ H', Inv X pins σ H' s' ∧ Q b H'
def AP (X : Cx) (pins : List (Addr × Obj)) (σ : St) (Q : List V → Hp → Prop) (us : List Value) (s' : Shared) : Prop := ∃ vs H', Inv X pins σ H' s' ∧ Vals vs us ∧ Q vs H'
def SP (X : Cx) (pins : List (Addr × Obj)) (D : Ends) (f : Flow) (s' : Shared) : Prop :=
  match f with
  | .next => ∃ σ' H', Inv X pins σ' H' s' ∧ D.nx σ' H'
  | .brk => ∃ σ' H', Inv X pins σ' H' s' ∧ D.bk σ' H'
  | .cont => ∃ σ' H', Inv X pins σ' H' s' ∧ D.ct σ' H'
  | .ret u => ∃ v σ' H', Inv X pins σ' H' s' ∧ RelV v u ∧ D.rt v H'

def PE (X : Cx) (e : Expr) (t : TE) : Prop :=
  ∀ (pins : List (Addr × Obj)) (s : Shared) (σ : St) (H : Hp) (Q : VK), Inv X pins σ H s → t σ H Q → wpAny (model X.prog X.w) X.A (eval e X.env) (EP X pins σ Q) X.xe s
def PT (X : Cx) (e : Expr) (t : TT) : Prop :=
  ∀ (pins : List (Addr × Obj)) (s : Shared) (σ : St) (H : Hp) (Q : Bool → Hp → Prop), Inv X pins σ H s → t σ H Q → wpAny (model X.prog X.w) X.A (isTrue e X.env (eval e X.env)) (TP X pins σ Q) X.xe s
/-- a test whatever its 'whole' is (and, or) -/
def PW (X : Cx) (e : Expr) (t : TT) : Prop :=
  ∀ (whole : Sem Value) (pins : List (Addr × Obj)) (s : Shared) (σ : St) (H : Hp) (Q : Bool → Hp → Prop), Inv X pins σ H s → t σ H Q → wpAny (model X.prog X.w) X.A (isTrue e X.env whole) (TP X pins σ Q) X.xe s
theorem PW.pt {X : Cx} {e : Expr} {t : TT} (h : PW X e t) : PT X e t := h _
/-- an argument list (no star), from the left -/
def PA (X : Cx) (es : List Expr) (t : TA) : Prop :=
  ∀ (pos : Pos) (pins : List (Addr × Obj)) (s : Shared) (σ : St) (H : Hp) (Q : List V → Hp → Prop), Inv X pins σ H s → t σ H Q → wpAny (model X.prog X.w) X.A (spliced (backTo pos (starEach es X.env))) (AP X pins σ Q) X.xe s
def PS (X : Cx) (st : Stmt) (t : TS) : Prop :=
  ∀ (pins : List (Addr × Obj)) (s : Shared) (σ : St) (H : Hp) (D : Ends), Inv X pins σ H s → t D σ H → wpAny (model X.prog X.w) X.A (exec st X.env) (SP X pins D) X.xe s
def PSs (X : Cx) (st : List Stmt) (t : TS) : Prop :=
  ∀ (pins : List (Addr × Obj)) (s : Shared) (σ : St) (H : Hp) (D : Ends), Inv X pins σ H s → t D σ H → wpAny (model X.prog X.w) X.A (execs st X.env) (SP X pins D) X.xe s
/-- weaken the end -/
theorem thn {α : Type} {t : Sem α} {Q Q' : α → Shared → Prop} {M : Model} {A : Around} {E : Value → Shared → Prop} {s : Shared} (h : wpAny M A t Q E s) (hQ : ∀ a s, Q a s → Q' a s) : wpAny M A t Q' E s := wpAny_mono h hQ fun _ _ x => x
end L2

namespace L2
open PySem PySem.Spec PyProof.Rows
section
variable {X : Cx}

/-! ### names and constants -/
def tVar (i : Nat) : TE := fun σ H Q => ∃ v, σ[i]? = some (some v) ∧ Q v H
def tC (v : V) : TE := fun _ H Q => Q v H
theorem pe_var {i : Nat} {x : Str} {pos : Pos} (hN : X.N[i]? = some x) (hv : Vis X.env.scope x) (hd : (x == ("__debug__" : Str)) = false := by decide) (hcd : (x == ("__classdict__" : Str)) = false := by decide) : PE X (.Name x pos) (tVar i) := by
  intro pins s σ H Q I h
  obtain ⟨v, e, h⟩ := h
  obtain ⟨m, hn, hl⟩ := I.loc
  obtain ⟨u, r, l⟩ := hl i x v hN e hv
  have fin : EP X pins σ Q u s := ⟨v, H, I, r, h⟩
  rcases l with ⟨hk, hm⟩ | ⟨hk, c, hc, hcell⟩
  · exact wpAny_Name (wpAny_loadName_local I.ok.kind hk hn hm fin) hd
  · rcases hk with hk | hk
    · exact wpAny_Name (wpAny_loadName_cell I.ok.kind hk hc hcell fin) hd
    · exact wpAny_Name (wpAny_loadName_free I.ok.kind hk hc hcell fin hcd) hd
theorem pe_int {i j pos} : PE X (.Constant (.int i) j pos) (tC (.int i)) := fun _ _ _ H _ I h => wpAny_Constant_int ⟨.int i, H, I.tok _, ⟨_, rfl⟩, h⟩
theorem pe_bl {b j pos} : PE X (.Constant (.bool b) j pos) (tC (.bl b)) := fun _ _ _ H _ I h => Constant_bool ⟨.bl b, H, I, rfl, h⟩
theorem pe_str {x j pos} : PE X (.Constant (.str x) j pos) (tC (.str x)) := fun _ _ _ H _ I h => Calls.Constant_str ⟨.str x, H, I.tok _, ⟨_, rfl⟩, h⟩

/-- a global name of the def -/
def Gl (X : Cx) (x : Str) : Prop := X.env.kindOf x = some .globalImplicit
theorem ld_glob {E : Value → Shared → Prop} {pins : List (Addr × Obj)} {s : Shared} {σ : St} {H : Hp} {x : Str} {u : Value} {pos : Pos} {Q : Value → Shared → Prop} (I : Inv X pins σ H s) (hg : Gl X x) (hm : X.mg x = some u) (h : Q u s)
    (hd : (x == ("__debug__" : Str)) = false := by decide) : wpAny (model X.prog X.w) X.A (eval (.Name x pos) X.env) Q E s :=
  Calls.Name_function_global I.ok.kind hg (Calls.loadGlobal_global (by rw [I.ok.glob]; exact I.mod.glob.keeps I.bk) hm h) hd
theorem ld_blt {E : Value → Shared → Prop} {pins : List (Addr × Obj)} {s : Shared} {σ : St} {H : Hp} {x : Str} {u : Value} {pos : Pos} {Q : Value → Shared → Prop} (I : Inv X pins σ H s) (hg : Gl X x) (hm : X.mg x = none) (hv : bootBuiltins x = some u) (h : Q u s)
    (hn : x ≠ "__name__" := by decide) (hd : (x == ("__debug__" : Str)) = false := by decide) : wpAny (model X.prog X.w) X.A (eval (.Name x pos) X.env) Q E s := by
  obtain ⟨mb, h1, h2⟩ := I.mod.blt
  exact Calls.Name_function_global I.ok.kind hg (Calls.loadGlobal_builtin (by rw [I.ok.glob]; exact I.mod.glob.keeps I.bk) hm (by rw [I.ok.blt]; exact h1.keeps I.bk) ((h2 x hn).trans hv) h) hd
/-- a module's constant, a class, a function, as a value -/
theorem pe_glob {x : Str} {v : V} {u : Value} {pos : Pos} (hg : Gl X x) (hm : X.mg x = some u) (r : RelV v u) (hd : (x == ("__debug__" : Str)) = false := by decide) : PE X (.Name x pos) (tC v) :=
  fun _ _ _ H _ I h => ld_glob I hg hm ⟨v, H, I, r, h⟩ hd
theorem pe_bltn {x : Str} {v : V} {u : Value} {pos : Pos} (hg : Gl X x) (hm : X.mg x = none) (hv : bootBuiltins x = some u) (r : RelV v u) (hn : x ≠ "__name__" := by decide) (hd : (x == ("__debug__" : Str)) = false := by decide) : PE X (.Name x pos) (tC v) :=
  fun _ _ _ H _ I h => ld_blt I hg hm hv ⟨v, H, I, r, h⟩ hn hd

/-! ### arithmetic -/
variable {a b : Expr} {ta tb : TE} {pos : Pos}
/-! ### comparisons -/
/-- a comparison as a value, as a test -/
def tB (t : TE) : TT := fun σ H Q => t σ H fun x H1 => ∃ c, x = .bl c ∧ Q c H1
/-- an expression whose value is a bool, as a test -/
theorem pt_val {e : Expr} {t : TE} (h : PE X e t) (he : ∀ whole, isTrue e X.env whole = (do let v ← whole; standAt e.pos; holding [v] (truthy v)) := by intro _; rfl) : PT X e (tB t) := by
  intro pins s σ H Q I hw
  refine isTrue_plain (thn (h pins s σ H _ I hw) fun v s1 ⟨x, H1, I1, r1, q1⟩ => ?_) (he _)
  obtain ⟨d, rfl, q⟩ := q1
  cases r1
  exact wpAny_truthy_bool ⟨H1, I1, q⟩

/-! ### and, or, not -/
variable {tA tB' : TT} {rest : List Expr}
def tAnd (t u : TT) : TT := fun σ H Q => t σ H fun c H1 => if c = true then u σ H1 Q else Q false H1
def tOr (t u : TT) : TT := fun σ H Q => t σ H fun c H1 => if c = true then Q true H1 else u σ H1 Q
def tNot (t : TT) : TT := fun σ H Q => t σ H fun c H1 => Q (!c) H1
theorem pw_and1 (ha : PT X a tA) : PW X (.BoolOp .And [a] pos) tA := by
  intro wh pins s σ H Q I h
  refine isTrue_and (thn (ha pins s σ H Q I h) fun c s1 e => ?_)
  cases c with
  | true => exact isTrue_and_nil e
  | false => exact e
theorem pw_or1 (ha : PT X a tA) : PW X (.BoolOp .Or [a] pos) tA := by
  intro wh pins s σ H Q I h
  refine isTrue_or (thn (ha pins s σ H Q I h) fun c s1 e => ?_)
  cases c with
  | false => exact isTrue_or_nil e
  | true => exact e
theorem pw_and (ha : PT X a tA) (hb : PW X (.BoolOp .And (b :: rest) pos) tB') : PW X (.BoolOp .And (a :: b :: rest) pos) (tAnd tA tB') := by
  intro wh pins s σ H Q I h
  refine isTrue_and (thn (ha pins s σ H _ I h) fun c s1 ⟨H1, I1, q1⟩ => ?_)
  cases c with
  | true => exact hb wh pins s1 σ H1 Q I1 q1
  | false => exact ⟨H1, I1, q1⟩
theorem pw_or (ha : PT X a tA) (hb : PW X (.BoolOp .Or (b :: rest) pos) tB') : PW X (.BoolOp .Or (a :: b :: rest) pos) (tOr tA tB') := by
  intro wh pins s σ H Q I h
  refine isTrue_or (thn (ha pins s σ H _ I h) fun c s1 ⟨H1, I1, q1⟩ => ?_)
  cases c with
  | true => exact ⟨H1, I1, q1⟩
  | false => exact hb wh pins s1 σ H1 Q I1 q1
theorem pt_not (ha : PT X a tA) : PT X (.UnaryOp .Not a pos) (tNot tA) := by
  intro pins s σ H Q I h
  exact isTrue_not (ha pins s σ H (fun c H1 => Q (!c) H1) I h)
/-- .. as values (bools) -/
def tAndV (ta tb : TE) : TE := fun σ H Q => ta σ H fun x H1 => ∃ c, x = .bl c ∧ if c = true then tb σ H1 Q else Q (.bl false) H1
def tNotV (ta : TE) : TE := fun σ H Q => ta σ H fun x H1 => ∃ c, x = .bl c ∧ Q (.bl (!c)) H1
theorem pe_one {op} {t : TE} (h : PE X a t) : PE X (.BoolOp op [a] pos) t := fun pins s σ H Q I hw => BoolOp_one (h pins s σ H Q I hw)
theorem pe_and (ha : PE X a ta) (hb : PE X (.BoolOp .And (b :: rest) pos) tb) : PE X (.BoolOp .And (a :: b :: rest) pos) (tAndV ta tb) := by
  intro pins s σ H Q I h
  refine BoolOp_and (thn (ha pins s σ H _ I h) fun v s1 ⟨x, H1, I1, r1, q1⟩ => ?_)
  obtain ⟨c, rfl, q1⟩ := q1
  cases r1
  refine wpAny_truthy_bool ?_
  cases c with
  | true => exact hb pins s1 σ H1 Q I1 q1
  | false => exact ⟨.bl false, H1, I1, rfl, q1⟩
theorem pe_not (ha : PE X a ta) : PE X (.UnaryOp .Not a pos) (tNotV ta) := by
  intro pins s σ H Q I h
  refine UnaryOp_ (thn (ha pins s σ H _ I h) fun v s1 ⟨x, H1, I1, r1, q1⟩ => ?_)
  obtain ⟨c, rfl, q1⟩ := q1
  cases r1
  exact not_of (wpAny_truthy_bool ⟨.bl (!c), H1, I1, rfl, q1⟩)
/-- a if t else b -/
def tIf (t : TT) (ta tb : TE) : TE := fun σ H Q => t σ H fun c H1 => if c = true then ta σ H1 Q else tb σ H1 Q
theorem pe_ifExp {c : Expr} (hc : PT X c tA) (ha : PE X a ta) (hb : PE X b tb) : PE X (.IfExp c a b pos) (tIf tA ta tb) := by
  intro pins s σ H Q I h
  refine wpAny_IfExp (thn (hc pins s σ H _ I h) fun d s1 ⟨H1, I1, q1⟩ => ?_)
  cases d with
  | true => exact ha pins s1 σ H1 Q I1 q1
  | false => exact hb pins s1 σ H1 Q I1 q1
end
end L2

namespace L2
open PySem PySem.Spec PyProof.Rows

/-! ### a list, a tuple that is read: tracked, frozen, or an object of the module -/
def SqL (K : PySem.W.Frag) (H : Hp) (a : Addr) (xs : List V) : Prop :=
  Rd H a (.lst xs) ∨
    ∃ (o : Obj) (its : Array Value) (n : Nat), K.lookup a = some o ∧ o.cls = .type "list" ∧ o.dict = none ∧ o.data = .seq its n ∧ its.size ≤ sizeLine ∧ Vals xs its.toList
def SqT (K : PySem.W.Frag) (H : Hp) (a : Addr) (xs : List V) : Prop :=
  Rd H a (.tup xs) ∨
    ∃ (o : Obj) (its : Array Value) (n : Nat), K.lookup a = some o ∧ o.cls = .type "tuple" ∧ o.data = .seq its n ∧ its.size ≤ sizeLine ∧ Vals xs its.toList
def absV : Value → Option V
  | .none => some .non
  | .bool b => some (.bl b)
  | .int i _ => some (.int i)
  | .str x _ => some (.str x)
  | .bytes b _ => some (.byt b)
  | .float b _ => some (.flt b)
  | .ref a => some (.ref a)
  | .type n => some (.ty n)
  | _ => none
theorem RelV.abs {x : V} {u : Value} (r : RelV x u) : absV u = some x := by
  cases x with
  | non => cases r; rfl
  | bl _ => cases r; rfl
  | int _ => obtain ⟨t, rfl⟩ := r; rfl
  | str _ => obtain ⟨t, rfl⟩ := r; rfl
  | byt _ => obtain ⟨t, rfl⟩ := r; rfl
  | flt _ => obtain ⟨t, rfl⟩ := r; rfl
  | ref _ => cases r; rfl
  | ty _ => cases r; rfl
theorem RelV.inj {x y : V} {u : Value} (r : RelV x u) (q : RelV y u) : x = y := Option.some.inj (r.abs.symm.trans q.abs)
theorem Vals.inj : ∀ {xs ys : List V} {us : List Value}, Vals xs us → Vals ys us → xs = ys
  | _, _, _, .nil, .nil => rfl
  | _, _, _, .cons r t, .cons r' t' => by rw [r.inj r', Vals.inj t t']
section
variable {X : Cx} {pins : List (Addr × Obj)} {σ : St} {H : Hp} {s : Shared} {a : Addr} {xs ys : List V}
theorem SqL.of {K : PySem.W.Frag} (h : H a = some (.lst xs)) : SqL K H a xs := .inl (.inl h)
theorem SqT.of {K : PySem.W.Frag} (h : H a = some (.tup xs)) : SqT K H a xs := .inl (.inl h)
theorem Inv.list (I : Inv X pins σ H s) (h : SqL X.K H a xs) : ∃ its : List Value, Vals xs its ∧ PlainL s.heap a its.toArray ∧ xs.length ≤ sizeLine := by
  rcases h with h | ⟨o, its, n, hk, hc, hd, hs, hz, r⟩
  · obtain ⟨z, its, n, r, e⟩ := h.ok I.hok
    exact ⟨its, r, ⟨_, n, e, rfl, rfl, rfl⟩, z⟩
  · refine ⟨its.toList, r, ⟨o, n, I.kIn a o hk, hc, hd, by simpa using hs⟩, ?_⟩
    have e := r.length
    simp only [Array.length_toList] at e
    omega
theorem Inv.tuple (I : Inv X pins σ H s) (h : SqT X.K H a xs) : ∃ its : List Value, Vals xs its ∧ IsTup s.heap a its.toArray ∧ xs.length ≤ sizeLine := by
  rcases h with h | ⟨o, its, n, hk, hc, hs, hz, r⟩
  · obtain ⟨z, its, r, p⟩ := h.ok I.hok
    exact ⟨its, r, p, z⟩
  · refine ⟨its.toList, r, ⟨o, I.kIn a o hk, hc, n, by simpa using hs⟩, ?_⟩
    have e := r.length
    simp only [Array.length_toList] at e
    omega
theorem Inv.list_inj (I : Inv X pins σ H s) (h : SqL X.K H a xs) (h' : SqL X.K H a ys) : xs = ys := by
  obtain ⟨its, r, ⟨o, n, e, _, _, d⟩, _⟩ := I.list h
  obtain ⟨its', r', ⟨o', n', e', _, _, d'⟩, _⟩ := I.list h'
  rw [e] at e'; cases e'
  rw [d] at d'
  injection d' with d1 _
  have : its = its' := by simpa using congrArg Array.toList d1
  subst this
  exact r.inj r'
theorem Inv.tuple_inj (I : Inv X pins σ H s) (h : SqT X.K H a xs) (h' : SqT X.K H a ys) : xs = ys := by
  obtain ⟨its, r, ⟨o, e, _, n, d⟩, _⟩ := I.tuple h
  obtain ⟨its', r', ⟨o', e', _, n', d'⟩, _⟩ := I.tuple h'
  rw [e] at e'; cases e'
  rw [d] at d'
  injection d' with d1 _
  have : its = its' := by simpa using congrArg Array.toList d1
  subst this
  exact r.inj r'
end

/-! ### another wish about exceptions -/
abbrev Cx.wish (X : Cx) (E : Value → Shared → Prop) : Cx := { X with xe := E }
/-- no exception leaves -/
abbrev Cx.nox (X : Cx) : Cx := X.wish fun _ _ => False
theorem Cx.Ok.wish {X : Cx} (ok : X.Ok) (E : Value → Shared → Prop) : (X.wish E).Ok :=
  ⟨ok.mod, ok.kind, ok.glob, ok.blt, ok.above, ok.inj, ok.has, ok.cab, ok.hd, ok.frames, ok.stk, ok.exf, ok.bs, ok.bsz, ok.noex, ok.exfs, ok.funs, ok.frf⟩
theorem Cx.Ok.unwish {X : Cx} {E : Value → Shared → Prop} (ok : (X.wish E).Ok) : X.Ok :=
  ⟨ok.mod, ok.kind, ok.glob, ok.blt, ok.above, ok.inj, ok.has, ok.cab, ok.hd, ok.frames, ok.stk, ok.exf, ok.bs, ok.bsz, ok.noex, ok.exfs, ok.funs, ok.frf⟩
section
variable {X : Cx} {pins : List (Addr × Obj)} {σ : St} {H : Hp} {s : Shared} {E : Value → Shared → Prop}
theorem Inv.wish (I : Inv X pins σ H s) (E : Value → Shared → Prop) : Inv (X.wish E) pins σ H s := ⟨I.ok.wish E, I.os, I.bare, I.base, I.loc, I.cell, I.free, I.freeC, I.pin, I.hok, I.len⟩
theorem Inv.unwish (I : Inv (X.wish E) pins σ H s) : Inv X pins σ H s := ⟨I.ok.unwish, I.os, I.bare, I.base, I.loc, I.cell, I.free, I.freeC, I.pin, I.hok, I.len⟩
theorem SP.unwish {D : Ends} {f : Flow} {s' : Shared} (h : SP (X.wish E) pins D f s') : SP X pins D f s' := by
  cases f with
  | next => obtain ⟨σ', H', I, q⟩ := h; exact ⟨σ', H', I.unwish, q⟩
  | brk => obtain ⟨σ', H', I, q⟩ := h; exact ⟨σ', H', I.unwish, q⟩
  | cont => obtain ⟨σ', H', I, q⟩ := h; exact ⟨σ', H', I.unwish, q⟩
  | ret u => obtain ⟨v, σ', H', I, r, q⟩ := h; exact ⟨v, σ', H', I.unwish, r, q⟩
theorem PE.nox {e : Expr} {t : TE} (h : PE X.nox e t) : PE X e t := fun pins s σ H Q I hw =>
  wpAny_mono (h pins s σ H Q (I.wish _) hw) (fun _ _ ⟨v, H', I', r, q⟩ => ⟨v, H', I'.unwish, r, q⟩) fun _ _ z => False.elim z
theorem PT.nox {e : Expr} {t : TT} (h : PT X.nox e t) : PT X e t := fun pins s σ H Q I hw =>
  wpAny_mono (h pins s σ H Q (I.wish _) hw) (fun _ _ ⟨H', I', q⟩ => ⟨H', I'.unwish, q⟩) fun _ _ z => False.elim z
theorem PSs.nox {st : List Stmt} {t : TS} (h : PSs X.nox st t) : PSs X st t := fun pins s σ H D I hw =>
  wpAny_mono (h pins s σ H D (I.wish _) hw) (fun _ _ q => q.unwish) fun _ _ z => False.elim z
end

/-! ### blocks and small statements -/
section
variable {X : Cx} {st : Stmt} {rest : List Stmt} {t u : TS} {e : Expr} {te : TE} {pos : Pos}
def tNext : TS := fun D σ H => D.nx σ H
def tSeq (t u : TS) : TS := fun D σ H => t { D with nx := u D } σ H
theorem pss_nil : PSs X [] tNext := fun _ _ σ H _ I h => wpAny_execs_nil ⟨σ, H, I, h⟩
theorem pss_cons (h1 : PS X st t) (h2 : PSs X rest u) : PSs X (st :: rest) (tSeq t u) := by
  intro pins s σ H D I h
  refine wpAny_execs_cons (thn (h1 pins s σ H { D with nx := u D } I h) fun f s1 q => ?_)
  cases f with
  | next =>
    obtain ⟨σ', H', I', q⟩ := q
    exact h2 pins s1 σ' H' D I' q
  | ret v => exact q
  | brk => exact q
  | cont => exact q
theorem pss_one (h1 : PS X st t) : PSs X [st] t := by
  intro pins s σ H D I h
  refine wpAny_execs_cons (thn (h1 pins s σ H D I h) fun f s1 q => ?_)
  cases f with
  | next => exact wpAny_execs_nil q
  | ret v => exact q
  | brk => exact q
  | cont => exact q
/-- in a def's body nothing is shown -/
theorem Inv.quiet {pins : List (Addr × Obj)} {σ : St} {H : Hp} {s : Shared} (I : Inv X pins σ H s) : interactive X.env = false := by simp [interactive, I.ok.kind]
/-- an expression whose value is dropped -/
def tDrop (te : TE) : TS := fun D σ H => te σ H fun _ H1 => D.nx σ H1
theorem ps_expr (he : PE X e te) (hs : swapsWith e none pos.line X.env = pure false := by rfl) : PS X (.Expr e pos) (tDrop te) := by
  intro pins s σ H D I h
  exact wpAny_Expr_any (thn (he pins s σ H _ I h) fun v s1 ⟨x, H1, I1, r1, q1⟩ => ⟨σ, H1, I1, q1⟩) I.quiet hs
def tRet (te : TE) : TS := fun D σ H => te σ H D.rt
theorem ps_ret (he : PE X e te) : PS X (.Return (some e) pos) (tRet te) := by
  intro pins s σ H D I h
  exact wpAny_Return_some (thn (he pins s σ H _ I h) fun v s1 ⟨x, H1, I1, r1, q1⟩ => ⟨x, σ, H1, I1, r1, q1⟩)
def tIfS (c : TT) (t u : TS) : TS := fun D σ H => c σ H fun b H1 => if b = true then t D σ H1 else u D σ H1
theorem ps_if {c : Expr} {a b : List Stmt} {tc : TT} (hc : PT X c tc) (ha : PSs X a t) (hb : PSs X b u) : PS X (.If c a b pos) (tIfS tc t u) := by
  intro pins s σ H D I h
  refine wpAny_If (thn (hc pins s σ H _ I h) fun d s1 ⟨H1, I1, q1⟩ => ?_)
  cases d with
  | true => exact ha pins s1 σ H1 D I1 q1
  | false => exact hb pins s1 σ H1 D I1 q1
end

/-! ### targets -/
abbrev TG := V → St → Hp → (St → Hp → Prop) → Prop
abbrev TGs := List V → St → Hp → (St → Hp → Prop) → Prop
def PG (X : Cx) (target : Expr) (t : TG) : Prop :=
  ∀ (pins : List (Addr × Obj)) (s : Shared) (σ : St) (H : Hp) (v : V) (u : Value) (Q : St → Hp → Prop), Inv X pins σ H s → RelV v u → t v σ H Q →
    wpAny (model X.prog X.w) X.A (assign target X.env u) (fun _ s' => ∃ σ' H', Inv X pins σ' H' s' ∧ Q σ' H') X.xe s
/-- several targets, one after another -/
def PGs (X : Cx) (ts : List Expr) (t : TGs) : Prop :=
  ∀ (pins : List (Addr × Obj)) (s : Shared) (σ : St) (H : Hp) (vs : List V) (us : List Value) (Q : St → Hp → Prop), Inv X pins σ H s → Vals vs us → t vs σ H Q →
    wpAny (model X.prog X.w) X.A (assignInOrder ((assignEach ts X.env).map (·.2)) us) (fun _ s' => ∃ σ' H', Inv X pins σ' H' s' ∧ Q σ' H') X.xe s
/-- o[i] = v, by values -/
abbrev TSet := V → V → V → Hp → (Hp → Prop) → Prop
def PSet (X : Cx) (t : TSet) : Prop :=
  ∀ (pins : List (Addr × Obj)) (s : Shared) (σ : St) (H : Hp) (o i v : V) (ov iv u : Value) (Q : Hp → Prop), Inv X pins σ H s → RelV o ov → RelV i iv → RelV v u → t o i v H Q →
    wpAny (model X.prog X.w) X.A (setItem ov iv u) (fun _ s' => ∃ H', Inv X pins σ H' s' ∧ Q H') X.xe s
/-- a op= b, by values -/
abbrev TIp := V → V → Hp → VK → Prop
def PIp (X : Cx) (op : Operator) (t : TIp) : Prop :=
  ∀ (pins : List (Addr × Obj)) (s : Shared) (σ : St) (H : Hp) (x y : V) (v u : Value) (Q : VK), Inv X pins σ H s → RelV x v → RelV y u → t x y H Q →
    wpAny (model X.prog X.w) X.A (inplaceOp op v u) (EP X pins σ Q) X.xe s
section
variable {X : Cx} {pos : Pos}
def gName (i : Nat) : TG := fun v σ H Q => Q (σ.set i (some v)) H
theorem pg_name {i : Nat} {x : Str} (hN : X.N.Nodup) (hi : X.N[i]? = some x) (hx : Loc X.env.scope x) (hf : X.fn x = true ∨ X.env.scope.names.lookup x = some .local := by first | exact .inl rfl | exact .inr rfl | assumption) : PG X (.Name x pos) (gName i) := by
  intro pins s σ H v u Q I r h
  exact wpAny_assign_Name (store_ok I hN hi hx r (fun s' I' => ⟨_, H, I', h⟩) hf)
def gNil : TGs := fun vs σ H Q => vs = [] ∧ Q σ H
def gCons (t : TG) (u : TGs) : TGs := fun vs σ H Q => ∃ v r, vs = v :: r ∧ t v σ H fun σ' H' => u r σ' H' Q
theorem pgs_nil : PGs X [] gNil := by
  intro pins s σ H vs us Q I r h
  obtain ⟨e, h⟩ := h
  subst e
  cases r
  exact assignInOrder_nil ⟨σ, H, I, h⟩
theorem pgs_cons {e : Expr} {es : List Expr} {t : TG} {u : TGs} (h1 : PG X e t) (h2 : PGs X es u)
    (hs : (assignEach (e :: es) X.env).map (·.2) = assign e X.env :: (assignEach es X.env).map (·.2) := by rfl) : PGs X (e :: es) (gCons t u) := by
  intro pins s σ H vs us Q I r h
  obtain ⟨v, vr, e1, h⟩ := h
  subst e1
  cases r with
  | cons r rr =>
    rw [hs]
    refine assignInOrder_cons (thn (h1 pins s σ H _ _ _ I r h) fun _ s1 ⟨σ1, H1, I1, q1⟩ => ?_)
    exact h2 pins s1 σ1 H1 _ _ Q I1 rr q1
/-- (a, b, ..) = a tuple of that length -/
def gTup (K : PySem.W.Frag) (n : Nat) (t : TGs) : TG := fun v σ H Q => ∃ a xs, v = .ref a ∧ SqT K H a xs ∧ xs.length = n ∧ t xs σ H Q
theorem pg_tup {es : List Expr} {k : Nat} {t : TGs} {n : Nat} (hc : X.calm = true) (h : PGs X es t)
    (hn : (assignEach es X.env).length = n := by rfl) (hst : (assignEach es X.env).findIdx? (·.1) = none := by rfl) : PG X (.Tuple es k pos) (gTup X.K n t) := by
  intro pins s σ H v u Q I r hw
  obtain ⟨a, xs, e1, hq, hl, hw⟩ := hw
  subst e1
  cases r
  obtain ⟨its, rv, ht, hz⟩ := I.tuple hq
  refine assign_Tuple_tuple (I.ok.hd hc) ht (by simp [hn, ← hl, rv.length]) hst fun h' hx => ?_
  have I1 : Inv X pins σ H { s with heap := h' } := I.kept (t' := s.toks) fun b o e => hx b o (Nat.ne_of_lt (Heap.lt_size e)) e
  exact h pins _ σ H xs _ Q I1 (by simpa using rv) hw
/-- o[i] = .. -/
def gSub (to ti : TE) (t : TSet) : TG := fun v σ H Q => to σ H fun o H1 => ti σ H1 fun i H2 => t o i v H2 fun H3 => Q σ H3
theorem pg_sub {o i : Expr} {to ti : TE} {t : TSet} (ho : PE X o to) (hi : PE X i ti) (hs : PSet X t)
    (ha : ∀ v, assign (.Subscript o i pos) X.env v = (do
      let ov ← holding [v] (eval o X.env)
      let iv ← holding [v, ov] (eval i X.env)
      standAt pos
      holding [v, ov, iv] (setItem ov iv v)
      release [v, ov, iv] []) := by intro _; rfl) : PG X (.Subscript o i pos) (gSub to ti t) := by
  intro pins s σ H v u Q I r h
  rw [ha]
  refine wpAny_bind (wpAny_holding (thn (ho pins s σ H _ I h) fun ov s1 ⟨x, H1, I1, r1, q1⟩ => ?_))
  refine wpAny_bind (wpAny_holding (thn (hi pins s1 σ H1 _ I1 q1) fun iv s2 ⟨y, H2, I2, r2, q2⟩ => ?_))
  refine wpAny_bind (wpAny_standAt (wpAny_bind (wpAny_holding (thn (hs pins s2 σ H2 x y v ov iv u _ I2 r1 r2 r q2) fun _ s3 ⟨H3, I3, q3⟩ => ?_))))
  exact wpAny_release ⟨σ, H3, I3, q3⟩
/-- target = value -/
def tAsg (te : TE) (g : TG) : TS := fun D σ H => te σ H fun x H1 => g x σ H1 D.nx
theorem ps_asg {tg e : Expr} {te : TE} {g : TG} (he : PE X e te) (hg : PG X tg g) (hs : swapsWithSole [tg] e pos.line X.env = pure false := by rfl) (hw : swappedStores [tg] e X.env = pure none := by rfl)
    (h1 : (assignEach [tg] X.env).map (·.2) = [assign tg X.env] := by rfl) : PS X (.Assign [tg] e pos) (tAsg te g) := by
  intro pins s σ H D I h
  refine wpAny_Assign_stores (thn (he pins s σ H _ I h) fun v s1 ⟨x, H1, I1, r1, q1⟩ => ?_) hs hw
  rw [h1]
  exact thn (hg pins s1 σ H1 x v _ I1 r1 q1) fun _ s2 q => q
/-- name = value -/
theorem ps_set {i : Nat} {x : Str} {e : Expr} {te : TE} {pos' : Pos} (hN : X.N.Nodup) (hi : X.N[i]? = some x) (hx : Loc X.env.scope x) (he : PE X e te) (hs : swapsWith e (some (.Name x pos')) pos.line X.env = pure false := by rfl) (hf : X.fn x = true ∨ X.env.scope.names.lookup x = some .local := by first | exact .inl rfl | exact .inr rfl | assumption) :
    PS X (.Assign [.Name x pos'] e pos) (tAsg te (gName i)) := by
  intro pins s σ H D I h
  refine wpAny_Assign_Name (thn (he pins s σ H _ I h) fun v s1 ⟨y, H1, I1, r1, q1⟩ => ?_) hs
  exact store_ok I1 hN hi hx r1 (fun s2 I2 => ⟨_, H1, I2, q1⟩) hf
/-- a, b = x, y with plain local names: stored from the right; the pair itself is not tracked (the opening rows as in PyProof/Rows/TupAssign.lean:23) -/
def tPar (i j : Nat) (ta : TA) : TS := fun D σ H => ta σ H fun vs H1 => ∃ v w, vs = [v, w] ∧ D.nx ((σ.set i (some v)).set j (some w)) H1
theorem ps_par {i j : Nat} {x y : Str} {a b : Expr} {ta : TA} {px py pt : Pos} {kt k2 pt2} (hc : X.calm = true) (hN : X.N.Nodup) (hi : X.N[i]? = some x) (hj : X.N[j]? = some y) (hij : i ≠ j)
    (hx : X.env.scope.names.lookup x = some .local) (hy : X.env.scope.names.lookup y = some .local) (ha : PA X [a, b] ta)
    (hw : swappedStores [.Tuple [.Name x px, .Name y py] kt pt] (.Tuple [a, b] k2 pt2) X.env = pure (some [x, y]))
    (hs : swapsWithSole [.Tuple [.Name x px, .Name y py] kt pt] (.Tuple [a, b] k2 pt2) pos.line X.env = pure false := by rfl) :
    PS X (.Assign [.Tuple [.Name x px, .Name y py] kt pt] (.Tuple [a, b] k2 pt2) pos) (tPar i j ta) := by
  intro pins s σ H D I h
  rw [exec_Assign_arm]
  refine wpAny_bind (wpAny_standAt ?_)
  rw [hs]
  refine wpAny_bind (wpAny_pure ?_)
  rw [if_neg (by decide)]
  refine wpAny_bind (Tuple_ (thn (ha _ pins s σ H _ I h) fun us s1 ⟨vs, H1, I1, r1, q1⟩ => ?_))
  obtain ⟨v, w, e1, q1⟩ := q1
  subst e1
  obtain ⟨u1, u2, rfl, rv, rw'⟩ : ∃ u1 u2, us = [u1, u2] ∧ RelV v u1 ∧ RelV w u2 := by
    cases r1 with
    | cons p q =>
      cases q with
      | cons p' q' =>
        cases q'
        exact ⟨_, _, rfl, p, p'⟩
  refine wpAny_newObj_type ?_ (by show 2 ≤ sizeLine; decide)
  have I2 : Inv X pins σ H1 { s1 with heap := s1.heap.push { cls := .type "tuple", data := .seq [u1, u2].toArray } } := I1.kept (t' := s1.toks) fun b o e => Heap.get?_push_of_some _ e
  rw [hw]
  refine wpAny_bind (wpAny_pure ?_)
  show wpAny (model X.prog X.w) X.A (do rule "assign.swapped-stores"; let items ← unpackItems (.ref s1.heap.objs.size) 2 none; assignInOrder [fun v => bindName X.env y v, fun v => bindName X.env x v] items.reverse; pure Flow.next) _ _ _
  refine wpAny_bind (wpAny_rule (wpAny_bind (unpackItems_tuple (items := #[u1, u2]) (I.ok.hd hc) (IsTup.new s1.heap _) fun h' hx' => ?_)))
  have I3 := I2.kept (h' := h') (t' := s1.toks) fun b o e => hx' b o (Nat.ne_of_lt (Heap.lt_size e)) e
  show wpAny _ _ (assignInOrder [fun v => bindName X.env y v, fun v => bindName X.env x v] [u2, u1] >>= fun _ => pure Flow.next) _ _ _
  refine wpAny_bind (assignInOrder_cons (wpAny_bindName (store_ok I3 hN hj (.inl hy) rw' (fun s2 I4 => ?_) (.inr hy))))
  refine assignInOrder_cons (wpAny_bindName (store_ok I4 hN hi (.inl hx) rv (fun s3 I5 => assignInOrder_nil (wpAny_pure ?_)) (.inr hx)))
  rw [List.set_comm _ _ (Ne.symm hij)] at I5
  exact ⟨_, H1, I5, q1⟩
end

/-! ### while -/
section
variable {X : Cx} {pos : Pos}
/-- the invariant W with its measure -/
def tWhile (c : TT) (tb : TS) : TS := fun D σ H => ∃ W : Nat → St → Hp → Prop, (∃ m, W m σ H) ∧ ∀ m σ H, W m σ H →
  c σ H fun b H1 => if b = true then ∃ N : St → Hp → Prop, (∀ σ' H', N σ' H' → ∃ m', m' < m ∧ W m' σ' H') ∧ tb { D with nx := N, ct := N, bk := D.nx } σ H1 else D.nx σ H1
theorem ps_while {c : Expr} {body : List Stmt} {tc : TT} {tb : TS} (hp : PassesOwn (model X.prog X.w) X.A X.env X.xe) (hc : PT X c tc) (hb : PSs X body tb) : PS X (.While c body [] pos) (tWhile tc tb) := by
  intro pins s σ H D I h
  obtain ⟨W, ⟨m0, w0⟩, turn⟩ := h
  refine wpAny_While (codeAny_whileLoop (fun n s' => ∃ σ' H', Inv X pins σ' H' s' ∧ W n σ' H') ?_ m0 ⟨σ, H, I, w0⟩)
  rintro n s1 ⟨σ1, H1, I1, w1⟩
  refine wpAny_passesOwn hp (thn (hc pins s1 σ1 H1 _ I1 (turn n σ1 H1 w1)) fun b s2 ⟨H2, I2, q2⟩ => ?_)
  cases b with
  | true =>
    obtain ⟨N, hN, q2⟩ := q2
    rw [if_pos rfl]
    refine wpAny_passesOwn hp (thn (hb pins s2 σ1 H2 _ I2 q2) fun f s3 q3 => ?_)
    cases f with
    | next =>
      obtain ⟨σ3, H3, I3, n3⟩ := q3
      obtain ⟨m', hm, w3⟩ := hN σ3 H3 n3
      exact ⟨m', hm, σ3, H3, I3, w3⟩
    | cont =>
      obtain ⟨σ3, H3, I3, n3⟩ := q3
      obtain ⟨m', hm, w3⟩ := hN σ3 H3 n3
      exact ⟨m', hm, σ3, H3, I3, w3⟩
    | brk => exact q3
    | ret v => exact q3
  | false =>
    rw [if_neg Bool.false_ne_true]
    exact wpAny_execs_nil ⟨σ1, H2, I2, q2⟩
end

/-! ### what a loop or a comprehension walks -/
/-- at turn i: it yields x (the heap may grow), or it stops -/
structure It where
  go : Nat → Hp → Prop
  yld : Nat → Hp → V → Hp → Prop
  stop : Nat → Hp → Prop
/-- the iterator's own objects may turn: they are not the frame's, not pinned, younger than the entry (or a comprehension's own) -/
def FpOk (X : Cx) (pins : List (Addr × Obj)) (H : Hp) (b : Addr) : Prop :=
  H b = none ∧ b ≠ X.env.locals ∧ b ∉ X.fs ∧ (b ∈ X.ex ∨ X.s_0.heap.objs.size ≤ b) ∧ (∀ x c, X.env.cells.lookup x = some c → c ≠ b) ∧ ∀ p ∈ X.pn ++ pins, p.1 ≠ b
theorem Inv.fpOk {X : Cx} {pins : List (Addr × Obj)} {σ : St} {H H' : Hp} {s : Shared} {b : Addr} (I : Inv X pins σ H s) (hb : s.heap.objs.size ≤ b) (hn : H' b = none) : FpOk X pins H' b := by
  refine ⟨hn, Nat.ne_of_gt (Nat.lt_of_lt_of_le I.lt hb), I.nofs hb, .inr (Nat.le_trans I.sz hb), fun x c e z => ?_, fun p hp z => ?_⟩
  · obtain ⟨v, q⟩ := I.cell x c e
    exact absurd (Nat.lt_of_lt_of_le q.lt (by rw [z]; exact hb)) (Nat.lt_irrefl _)
  · exact absurd (Nat.lt_of_lt_of_le (Heap.lt_size (I.pin p hp).1) (by rw [z]; exact hb)) (Nat.lt_irrefl _)
structure Turn (P : Program) (w : World) (K : PySem.W.Frag) (tg : Expr) (J : It) (fp : List Addr) (it : Addr) (tn : Nat → Heap → Prop) : Prop where
  mem : it ∈ fp
  obj : ∀ i h, tn i h → ∀ b ∈ fp, ∃ o, h.get? b = some o ∧ ∀ v, o.data ≠ .cell v
  keep : ∀ i h h', tn i h → (∀ b ∈ fp, ∀ o, h.get? b = some o → h'.get? b = some o) → tn i h'
  item : ∀ (X : Cx), X.prog = P → X.w = w → X.K = K → X.calm = true → ∀ (i : Nat) (pins : List (Addr × Obj)) (s : Shared) (σ : St) (H : Hp) (E : Value → Shared → Prop), Inv X pins σ H s → (∀ b ∈ fp, FpOk X pins H b) → tn i s.heap → J.go i H →
    wpAny (model P w) X.A (pyNext (.ref it)) (fun r s1 => ∃ u, r = some u ∧
      wpAny (model P w) X.A (letOwnedTupleGo tg (.ref it) u) (fun _ s2 => ∃ x H', Inv X pins σ H' s2 ∧ RelV x u ∧ J.yld i H x H' ∧ tn (i + 1) s2.heap ∧ ∀ b ∈ fp, H' b = none) E s1) E s
  done : ∀ (X : Cx), X.prog = P → X.w = w → X.K = K → X.calm = true → ∀ (i : Nat) (pins : List (Addr × Obj)) (s : Shared) (σ : St) (H : Hp) (E : Value → Shared → Prop), Inv X pins σ H s → (∀ b ∈ fp, FpOk X pins H b) → tn i s.heap → J.stop i H →
    wpAny (model P w) X.A (pyNext (.ref it)) (fun r s1 => r = none ∧ Inv X pins σ H s1) E s
  self : ∀ (A : Around) (i : Nat) (s : Shared) (Q : Value → Shared → Prop) (E : Value → Shared → Prop), tn i s.heap → Q (.ref it) s → wpAny (model P w) A (pyIter (.ref it)) Q E s
abbrev TI := St → Hp → (It → Hp → Prop) → Prop
/-- an iterator has come -/
def PIE (X : Cx) (pins : List (Addr × Obj)) (σ : St) (tg : Expr) (R : It → Hp → Prop) (itv : Value) (s2 : Shared) : Prop :=
  ∃ (it : Addr) (fp : List Addr) (tn : Nat → Heap → Prop) (J : It) (H' : Hp), itv = .ref it ∧ Inv X pins σ H' s2 ∧ Turn X.prog X.w X.K tg J fp it tn ∧ tn 0 s2.heap ∧ (∀ b ∈ fp, FpOk X pins H' b) ∧ R J H'
def PI (X : Cx) (tg iter : Expr) (wi : TI) : Prop :=
  ∀ (pins : List (Addr × Obj)) (s : Shared) (σ : St) (H : Hp) (R : It → Hp → Prop), Inv X pins σ H s → wi σ H R →
    wpAny (model X.prog X.w) X.A (eval iter X.env) (fun v s1 => wpAny (model X.prog X.w) X.A (pyIter v) (PIE X pins σ tg R) X.xe s1) X.xe s

/-- the step ahead of the store is nothing for an iterator that keeps no tuple -/
theorem go_of {M : Model} {A : Around} {E : Value → Shared → Prop} {s : Shared} {tg : Expr} {it : Addr} {u : Value} {o : Obj} {n : String} {vs : Array Value} {Q : Unit → Shared → Prop} (ho : s.heap.get? it = some o) (hc : o.cls = .type n) (hd : o.data = .fields vs)
    (hn : ["enumerate", "zip", "dict_itemiterator", "dict_reverseitemiterator", "odict_iterator", "itertools.zip_longest", "itertools.pairwise"].contains n = false) (hQ : Q () s) : wpAny M A (letOwnedTupleGo tg (.ref it) u) Q E s := by
  unfold letOwnedTupleGo
  cases tg <;> first
    | exact wpAny_pure hQ
    | (cases u <;> first
        | exact wpAny_pure hQ
        | (refine wpAny_bind (wpAny_load ho ?_)
           rw [hc, hd]
           show wpAny M A (if (["enumerate", "zip", "dict_itemiterator", "dict_reverseitemiterator", "odict_iterator", "itertools.zip_longest", "itertools.pairwise"].contains n && vs[0]? == some (rawInt _)) = true then _ else _) Q E s
           rw [if_neg (by intro h; rw [hn, Bool.false_and] at h; cases h)]
           exact wpAny_pure hQ))

/-- the list at a, as it stands at each turn (a loop may append to it) -/
def Itl (K : PySem.W.Frag) (a : Addr) : It :=
  ⟨fun i H => ∃ xs x, SqL K H a xs ∧ xs[i]? = some x, fun i H x H' => H' = H ∧ ∀ xs, SqL K H a xs → xs[i]? = some x, fun i H => ∃ xs, SqL K H a xs ∧ xs.length ≤ i⟩
def Itt (K : PySem.W.Frag) (a : Addr) : It :=
  ⟨fun i H => ∃ xs x, SqT K H a xs ∧ xs[i]? = some x, fun i H x H' => H' = H ∧ ∀ xs, SqT K H a xs → xs[i]? = some x, fun i H => ∃ xs, SqT K H a xs ∧ xs.length ≤ i⟩
/-- lo, lo + 1, .. (n of them) -/
def Itr (lo : Int) (n : Nat) : It := ⟨fun i _ => i < n, fun i H x H' => H' = H ∧ x = .int (lo + i), fun i _ => n ≤ i⟩
theorem turn_list {P : Program} {w : World} {K : PySem.W.Frag} {tg : Expr} (a it : Addr) : Turn P w K tg (Itl K a) [it] it (fun i h => h.IsListIter it a i) where
  mem := by simp
  obj := fun i h st b hb => by
    have e : b = it := by simpa using hb
    subst e
    obtain ⟨o, e, c, d⟩ := st
    exact ⟨o, e, fun v z => by rw [d] at z; cases z⟩
  keep := fun i h h' st k => st.at fun o e => k it (by simp) o e
  item := by
    intro X hP hw hK hc i pins s σ H E I hf st hg
    subst hP hw hK
    obtain ⟨xs, x, hq, hx⟩ := hg
    obtain ⟨its, rv, p, hz⟩ := I.list hq
    obtain ⟨u, hu, ru⟩ := rv.get hx
    obtain ⟨f0, f1, f2, f3, f4, f5⟩ := hf it (by simp)
    refine wpAny_pyNext_list_item st p.isList (x := u) (by simpa using hu) fun h' st' sb => ?_
    have I1 : Inv X pins σ H { s with heap := h' } := I.turned (t' := s.toks) (fun b o hb e => (sb.2 b hb).trans e) f0 f1 f3 f4 f5
    obtain ⟨o, e, c, d⟩ := id st'
    exact ⟨u, rfl, go_of (s := { s with heap := h' }) e c d (by decide) ⟨x, H, I1, ru, ⟨rfl, fun ys hy => by rw [I.list_inj hy hq]; exact hx⟩, st', fun b hb => (hf b hb).1⟩⟩
  done := by
    intro X hP hw hK hc i pins s σ H E I hf st hg
    subst hP hw hK
    obtain ⟨xs, hq, hx⟩ := hg
    obtain ⟨its, rv, p, hz⟩ := I.list hq
    obtain ⟨f0, f1, f2, f3, f4, f5⟩ := hf it (by simp)
    have hl := rv.length
    exact wpAny_pyNext_list_end (I.ok.hd hc) st p.isList (by simp; omega) fun h' eb => ⟨rfl, I.turned (t' := s.toks) (fun b o hb e => eb b o hb e) f0 f1 f3 f4 f5⟩
  self := fun _ _ _ _ _ st h => wpAny_pyIter_listiter st h
theorem turn_tuple {P : Program} {w : World} {K : PySem.W.Frag} {tg : Expr} (a it : Addr) : Turn P w K tg (Itt K a) [it] it (fun i h => h.IsTupleIter it a i) where
  mem := by simp
  obj := fun i h st b hb => by
    have e : b = it := by simpa using hb
    subst e
    obtain ⟨o, e, c, d⟩ := st
    exact ⟨o, e, fun v z => by rw [d] at z; cases z⟩
  keep := fun i h h' st k => st.at fun o e => k it (by simp) o e
  item := by
    intro X hP hw hK hc i pins s σ H E I hf st hg
    subst hP hw hK
    obtain ⟨xs, x, hq, hx⟩ := hg
    obtain ⟨its, rv, p, hz⟩ := I.tuple hq
    obtain ⟨u, hu, ru⟩ := rv.get hx
    obtain ⟨f0, f1, f2, f3, f4, f5⟩ := hf it (by simp)
    refine wpAny_pyNext_tuple_item st (show s.heap.IsTuple a its.toArray from p) (x := u) (by simpa using hu) fun h' st' sb => ?_
    have I1 : Inv X pins σ H { s with heap := h' } := I.turned (t' := s.toks) (fun b o hb e => (sb.2 b hb).trans e) f0 f1 f3 f4 f5
    obtain ⟨o, e, c, d⟩ := id st'
    exact ⟨u, rfl, go_of (s := { s with heap := h' }) e c d (by decide) ⟨x, H, I1, ru, ⟨rfl, fun ys hy => by rw [I.tuple_inj hy hq]; exact hx⟩, st', fun b hb => (hf b hb).1⟩⟩
  done := by
    intro X hP hw hK hc i pins s σ H E I hf st hg
    subst hP hw hK
    obtain ⟨xs, hq, hx⟩ := hg
    obtain ⟨its, rv, p, hz⟩ := I.tuple hq
    obtain ⟨f0, f1, f2, f3, f4, f5⟩ := hf it (by simp)
    have hl := rv.length
    exact wpAny_pyNext_tuple_end (I.ok.hd hc) st (show s.heap.IsTuple a its.toArray from p) (by simp; omega) fun h' eb => ⟨rfl, I.turned (t' := s.toks) (fun b o hb e => eb b o hb e) f0 f1 f3 f4 f5⟩
  self := fun _ _ _ _ _ st h => wpAny_pyIter_tupleiter st h
theorem turn_range {P : Program} {w : World} {K : PySem.W.Frag} {tg : Expr} (it : Addr) (lo : Int) (n : Nat) : Turn P w K tg (Itr lo n) [it] it (fun i h => IsRangeIter h it (lo + (i : Nat) * 1) ((n : Int) - (i : Nat)) 1) where
  mem := by simp
  obj := fun i h st b hb => by
    have e : b = it := by simpa using hb
    subst e
    exact ⟨_, st, fun v z => by
      have z' : Data.fields _ = Data.cell v := z
      cases z'⟩
  keep := fun i h h' st k => k it (by simp) _ st
  item := by
    intro X hP hw hK hc i pins s σ H E I hf st hg
    subst hP hw hK
    obtain ⟨f0, f1, f2, f3, f4, f5⟩ := hf it (by simp)
    have W := Walks.range (prog := X.prog) (w := X.w) (I.ok.hd hc) it lo 1 n
    refine W.item i s _ _ hg st fun v h' tk hv st' kk => ?_
    obtain ⟨t, rfl⟩ := hv
    have I1 : Inv X pins σ H { s with heap := h', toks := tk } := I.turned (fun b o hb e => kk b o (by simpa using hb) e) f0 f1 f3 f4 f5
    refine ⟨_, rfl, go_of (s := { s with heap := h', toks := tk }) (n := "range_iterator") st' rfl rfl (by decide) ⟨.int (lo + i), H, I1, ⟨t, ?_⟩, ⟨rfl, rfl⟩, st', fun b hb => (hf b hb).1⟩⟩
    rw [Int.mul_one]
  done := by
    intro X hP hw hK hc i pins s σ H E I hf st hg
    subst hP hw hK
    obtain ⟨f0, f1, f2, f3, f4, f5⟩ := hf it (by simp)
    exact wpAny_pyNext_range_end (I.ok.hd hc) st (by have : n ≤ i := hg; omega) fun h' eb => ⟨rfl, I.turned (t' := s.toks) (fun b o hb e => eb b o hb e) f0 f1 f3 f4 f5⟩
  self := fun _ _ _ _ _ st h => wpAny_pyIter_rangeiter st h
end L2

namespace L2
open PySem PySem.Spec PyProof.Rows
section
variable {X : Cx} {tg : Expr}
/-- a range object just made, walked -/
theorem range_it {pins : List (Addr × Obj)} {σ : St} {H : Hp} {s : Shared} {R : It → Hp → Prop} {E : Value → Shared → Prop} {lo hi : Int} {t u v : Tok} {tk : Nat} (I : Inv X pins σ H s) (h1 : -(2 ^ 62) ≤ lo) (h2 : lo < 2 ^ 62) (h3 : -(2 ^ 62) ≤ hi) (h4 : hi < 2 ^ 62)
    (q : R (Itr lo (hi - lo).toNat) H) : wpAny (model X.prog X.w) X.A (pyIter (.ref s.heap.objs.size)) (PIE X pins σ tg R) E { s with heap := s.heap.push { cls := .type "range", data := .fields #[.int lo t, .int hi u, .int 1 v] }, toks := tk } := by
  refine wpAny_pyIter_range (IsRange.new ..) (small_one h1 h2 h3 h4) ?_
  have I1 : Inv X pins σ H { s with heap := s.heap.push { cls := .type "range", data := .fields #[.int lo t, .int hi u, .int 1 v] }, toks := tk } := I.kept fun b o e => Heap.get?_push_of_some _ e
  refine ⟨(s.heap.push { cls := .type "range", data := .fields #[.int lo t, .int hi u, .int 1 v] }).objs.size, [(s.heap.push { cls := .type "range", data := .fields #[.int lo t, .int hi u, .int 1 v] }).objs.size], _, _, H, rfl,
    I1.kept (t' := tk) fun b o e => Heap.get?_push_of_some _ e, turn_range _ lo (hi - lo).toNat, ?_, fun b hb => ?_, q⟩
  · have e1 : lo + ((0 : Nat) : Int) * 1 = lo := by simp
    have e2 : (((hi - lo).toNat : Nat) : Int) - ((0 : Nat) : Int) = Builtin.Range.rangeSize lo hi 1 := by rw [rangeSize_one]; split <;> omega
    show IsRangeIter _ _ (lo + ((0 : Nat) : Int) * 1) ((((hi - lo).toNat : Nat) : Int) - ((0 : Nat) : Int)) 1
    rw [e1, e2]
    exact Heap.get?_push_size _ rfl
  · have e : b = (s.heap.push { cls := .type "range", data := .fields #[.int lo t, .int hi u, .int 1 v] }).objs.size := by simpa using hb
    subst e
    exact I1.fpOk (Nat.le_refl _) (I1.hok.fresh (Nat.le_refl _))
def iRng1 (ta : TA) : TI := fun σ H R => ta σ H fun vs H1 => ∃ j : Int, vs = [.int j] ∧ -(2 ^ 62) ≤ j ∧ j < 2 ^ 62 ∧ R (Itr 0 j.toNat) H1
theorem pi_range1 {a : Expr} {ta : TA} {p pos : Pos} (hg : Gl X "range") (hm : X.mg "range" = none) (ha : PA X [a] ta) (hs : starEach [a] X.env = [(false, eval a X.env)] := by rfl) : PI X tg (.Call (.Name "range" p) [a] [] pos) (iRng1 ta) := by
  intro pins s σ H R I h
  refine Call_ (ld_blt I hg hm boot_range (PyProof.Rows.callWith_type1 (thn (ha pos pins s σ H _ I h) fun us s1 ⟨vs, H1, I1, r1, q1⟩ => ?_) hs rfl))
  obtain ⟨j, e, q1, q2, q⟩ := q1
  subst e
  cases r1 with
  | cons r rr =>
    cases rr
    obtain ⟨t, rfl⟩ := r
    exact call_range_1 (range_it I1 (by omega) (by omega) q1 q2 (by simpa using q))
/-! ### for -/
/-- W: the invariant by the turn and a measure; N: what the body is to reach -/
def tFor (wi : TI) (g : TG) (tb : TS) : TS := fun D σ H => wi σ H fun J H1 => ∃ W : Nat → Nat → St → Hp → Prop, (∃ m, W 0 m σ H1) ∧ ∀ i m σ H, W i m σ H →
  (J.stop i H ∧ D.nx σ H) ∨ (J.go i H ∧ ∃ N : St → Hp → Prop, (∀ σ' H', N σ' H' → ∃ m', m' < m ∧ W (i + 1) m' σ' H') ∧ ∀ x H', J.yld i H x H' → g x σ H' fun σ2 H2 => tb { D with nx := N, ct := N, bk := D.nx } σ2 H2)
/-- the records at fp as they stand -/
def pinsAt (fp : List Addr) (h : Heap) : List (Addr × Obj) := fp.filterMap fun b => (h.get? b).map fun o => (b, o)
theorem mem_pinsAt {fp : List Addr} {h : Heap} {b : Addr} {o : Obj} (hb : b ∈ fp) (e : h.get? b = some o) : (b, o) ∈ pinsAt fp h := List.mem_filterMap.mpr ⟨b, hb, by rw [e]; rfl⟩
theorem of_pinsAt {fp : List Addr} {h : Heap} {p : Addr × Obj} (hp : p ∈ pinsAt fp h) : p.1 ∈ fp ∧ h.get? p.1 = some p.2 := by
  obtain ⟨b, hb, e⟩ := List.mem_filterMap.mp hp
  cases q : h.get? b with
  | none => rw [q] at e; cases e
  | some o =>
    rw [q] at e
    have e' : (b, o) = p := Option.some.inj e
    subst e'
    exact ⟨hb, q⟩
theorem Inv.pinned {pins : List (Addr × Obj)} {σ : St} {H : Hp} {s : Shared} {fp : List Addr} (I : Inv X pins σ H s) (hf : ∀ b ∈ fp, FpOk X pins H b) (ho : ∀ b ∈ fp, ∃ o, s.heap.get? b = some o ∧ ∀ v, o.data ≠ .cell v) : Inv X (pins ++ pinsAt fp s.heap) σ H s :=
  I.pins_of fun p hp => (List.mem_append.mp hp).elim (fun z => I.pin p (List.mem_append_right _ z)) fun z => by
    obtain ⟨hb, e⟩ := of_pinsAt z
    obtain ⟨f0, f1, f2, _⟩ := hf p.1 hb
    obtain ⟨o, e', d⟩ := ho p.1 hb
    rw [e] at e'; cases e'
    exact ⟨e, f0, f1, f2, d⟩
theorem Inv.unpinned {pins pl : List (Addr × Obj)} {σ : St} {H : Hp} {s : Shared} (I : Inv X (pins ++ pl) σ H s) : Inv X pins σ H s := I.pins_of fun p hp => I.pin p (List.mem_append_right _ (List.mem_append_left _ hp))
theorem ps_for {iter : Expr} {body : List Stmt} {wi : TI} {g : TG} {tb : TS} {pos : Pos} (hp : PassesOwn (model X.prog X.w) X.A X.env X.xe) (hc : X.calm = true) (hi : PI X tg iter wi) (hg : PG X tg g) (hb : PSs X body tb)
    (hs : ∀ x, foldedSetIterable iter X.env x = pure x := by intro _; rfl) : PS X (.For tg iter body [] pos) (tFor wi g tb) := by
  intro pins s σ H D I h
  refine wpAny_For (thn (hi pins s σ H _ I h) fun v s1 h1 => thn h1 fun itv s2 h2 => ?_) hs
  obtain ⟨it, fp, tn, J, H2, e, I2, T, st2, f2, W, ⟨m0, w0⟩, turn⟩ := h2
  subst e
  -- what stays true of the iterator's objects through the loop
  have stat : ∀ {H' : Hp}, (∀ b ∈ fp, H' b = none) → ∀ b ∈ fp, FpOk X pins H' b := fun hn b hb => ⟨hn b hb, (f2 b hb).2⟩
  refine codeAny_forLoop_any (fun n s' => ∃ i σ' H', Inv X pins σ' H' s' ∧ tn i s'.heap ∧ (∀ b ∈ fp, H' b = none) ∧ W i n σ' H') ?_ m0 ⟨0, σ, H2, I2, st2, fun b hb => (f2 b hb).1, w0⟩
  rintro n s3 ⟨i, σ3, H3, I3, st3, fr3, w3⟩
  rcases turn i n σ3 H3 w3 with ⟨stop, qn⟩ | ⟨go, N, hN, step⟩
  · refine wpAny_passesOwn hp (thn (T.done X rfl rfl rfl hc i pins s3 σ3 H3 X.xe I3 (stat fr3) st3 stop) fun r s4 ⟨hr, I4⟩ => ?_)
    subst hr
    exact wpAny_execs_nil ⟨σ3, H3, I4, qn⟩
  · refine wpAny_passesOwn hp (thn (T.item X rfl rfl rfl hc i pins s3 σ3 H3 X.xe I3 (stat fr3) st3 go) fun r s4 ⟨u, hr, h4⟩ => ?_)
    subst hr
    refine wpAny_passesOwn hp (thn h4 fun _ s5 ⟨x, H5, I5, r5, y5, st5, fr5⟩ => ?_)
    have I5' := I5.pinned (stat fr5) (T.obj _ _ st5)
    refine wpAny_passesOwn hp (thn (hg _ s5 σ3 H5 x u _ I5' r5 (step x H5 y5)) fun _ s6 ⟨σ6, H6, I6, q6⟩ => ?_)
    refine wpAny_passesOwn hp (thn (hb _ s6 σ6 H6 _ I6 q6) fun f s7 q7 => ?_)
    have again : ∀ {σ7 : St} {H7 : Hp}, Inv X (pins ++ pinsAt fp s5.heap) σ7 H7 s7 → N σ7 H7 → ∃ m, m < n ∧ ∃ i σ' H', Inv X pins σ' H' s7 ∧ tn i s7.heap ∧ (∀ b ∈ fp, H' b = none) ∧ W i m σ' H' := fun {σ7 H7} I7 n7 => by
      obtain ⟨m', hm, w7⟩ := hN σ7 H7 n7
      refine ⟨m', hm, i + 1, σ7, H7, I7.unpinned, T.keep _ _ _ st5 fun b hb o e => (I7.pin (b, o) (List.mem_append_right _ (List.mem_append_right _ (mem_pinsAt hb e)))).1, fun b hb => ?_, w7⟩
      obtain ⟨o, e, d⟩ := T.obj _ _ st5 b hb
      exact (I7.pin (b, o) (List.mem_append_right _ (List.mem_append_right _ (mem_pinsAt hb e)))).2.1
    cases f with
    | next => obtain ⟨σ7, H7, I7, n7⟩ := q7; exact again I7 n7
    | cont => obtain ⟨σ7, H7, I7, n7⟩ := q7; exact again I7 n7
    | brk => obtain ⟨σ7, H7, I7, q7⟩ := q7; exact ⟨σ7, H7, I7.unpinned, q7⟩
    | ret v => obtain ⟨x7, σ7, H7, I7, r7, q7⟩ := q7; exact ⟨x7, σ7, H7, I7.unpinned, r7, q7⟩
end

/-! ### the forms one uses -/
end L2

namespace L2
open PySem PySem.Spec PyProof.Rows

abbrev R2 := V → V → Hp → VK → Prop
/-- a two-place operation on values: f is binaryOp op, inplaceOp op or compareOp op -/
def OpR (X : Cx) (f : Value → Value → Sem Value) (r : R2) : Prop :=
  ∀ (pins : List (Addr × Obj)) (s : Shared) (σ : St) (H : Hp) (x y : V) (v u : Value) (Q : VK), Inv X pins σ H s → RelV x v → RelV y u → r x y H Q →
    wpAny (model X.prog X.w) X.A (f v u) (EP X pins σ Q) X.xe s
/-- a one-place operation -/
def UnR (X : Cx) (f : Value → Sem Value) (r : V → Hp → VK → Prop) : Prop :=
  ∀ (pins : List (Addr × Obj)) (s : Shared) (σ : St) (H : Hp) (x : V) (v : Value) (Q : VK), Inv X pins σ H s → RelV x v → r x H Q →
    wpAny (model X.prog X.w) X.A (f v) (EP X pins σ Q) X.xe s
/-- a call of a value that is known (a builtin, a type) with values -/
def CallR (X : Cx) (f : Value) (r : List V → Hp → VK → Prop) : Prop :=
  ∀ (pins : List (Addr × Obj)) (s : Shared) (σ : St) (H : Hp) (xs : List V) (us : List Value) (Q : VK), Inv X pins σ H s → Vals xs us → r xs H Q →
    wpAny (model X.prog X.w) X.A (call f us) (EP X pins σ Q) X.xe s
def tOp (r : R2) (ta tb : TE) : TE := fun σ H Q => ta σ H fun x H1 => tb σ H1 fun y H2 => r x y H2 Q
def tUn (r : V → Hp → VK → Prop) (ta : TE) : TE := fun σ H Q => ta σ H fun x H1 => r x H1 Q
/-- ints in, under C, and a value out -/
def rI (C : Int → Int → Prop) (g : Int → Int → V) : R2 := fun x y H Q => ∃ i j, x = .int i ∧ y = .int j ∧ C i j ∧ Q (g i j) H
def rI0 (g : Int → Int → V) : R2 := fun x y H Q => ∃ i j, x = .int i ∧ y = .int j ∧ Q (g i j) H
def rU (g : Int → V) : V → Hp → VK → Prop := fun x H Q => ∃ i, x = .int i ∧ Q (g i) H

section
variable {X : Cx} {a b c : Expr} {ta tb tc : TE} {pos : Pos}

theorem binT (ha : PE X a ta) (hb : PE X b tb) {pins : List (Addr × Obj)} {s : Shared} {σ : St} {H : Hp} {R : V → V → Hp → Prop} (I : Inv X pins σ H s)
    (h : ta σ H fun x H1 => tb σ H1 fun y H2 => R x y H2) {Q : Value → Shared → Prop} {f : Value → Value → Sem Value}
    (hf : ∀ v u s2 x y H2, Inv X pins σ H2 s2 → RelV x v → RelV y u → R x y H2 → wpAny (model X.prog X.w) X.A (f v u) Q X.xe s2) :
    wpAny (model X.prog X.w) X.A (eval a X.env) (fun v s₁ => wpAny (model X.prog X.w) X.A (eval b X.env) (fun u s₂ => wpAny (model X.prog X.w) X.A (f v u) Q X.xe s₂) X.xe s₁) X.xe s := by
  refine thn (ha pins s σ H _ I h) fun v s1 ⟨x, H1, I1, r1, q1⟩ => ?_
  refine thn (hb pins s1 σ H1 _ I1 q1) fun u s2 ⟨y, H2, I2, r2, q2⟩ => ?_
  exact hf v u s2 x y H2 I2 r1 r2 q2

theorem pe_op {op : Operator} {r : R2} (ho : OpR X (binaryOp op) r) (ha : PE X a ta) (hb : PE X b tb) : PE X (.BinOp a op b pos) (tOp r ta tb) := by
  intro pins s σ H Q I h
  exact wpAny_BinOp (binT ha hb I h fun v u s2 x y H2 I2 rx ry q => ho pins s2 σ H2 x y v u Q I2 rx ry q)
theorem pe_un {op : UnaryOp} {r : V → Hp → VK → Prop} (ho : UnR X (unaryOp op) r) (ha : PE X a ta) : PE X (.UnaryOp op a pos) (tUn r ta) := by
  intro pins s σ H Q I h
  exact UnaryOp_ (thn (ha pins s σ H _ I h) fun v s1 ⟨x, H1, I1, r1, q1⟩ => ho pins s1 σ H1 x v Q I1 r1 q1)
/-! ### ints -/
theorem opI {f : Value → Value → Sem Value} {C : Int → Int → Prop} {g : Int → Int → Int}
    (rule : ∀ (i j : Int) (t u : Tok) (s : Shared) (Q : Value → Shared → Prop) (E : Value → Shared → Prop), C i j → Q (.int (g i j) s.toks) { s with toks := s.toks + 1 } → wpAny (model X.prog X.w) X.A (f (.int i t) (.int j u)) Q E s) :
    OpR X f (rI C fun i j => .int (g i j)) := by
  intro pins s σ H x y v u Q I rx ry h
  obtain ⟨i, j, rfl, rfl, hc, q⟩ := h
  obtain ⟨t, rfl⟩ := rx
  obtain ⟨t', rfl⟩ := ry
  exact rule i j t t' s _ _ hc ⟨.int (g i j), H, I.tok _, ⟨_, rfl⟩, q⟩
theorem opI0 {f : Value → Value → Sem Value} {g : Int → Int → Int}
    (rule : ∀ (i j : Int) (t u : Tok) (s : Shared) (Q : Value → Shared → Prop) (E : Value → Shared → Prop), Q (.int (g i j) s.toks) { s with toks := s.toks + 1 } → wpAny (model X.prog X.w) X.A (f (.int i t) (.int j u)) Q E s) :
    OpR X f (rI0 fun i j => .int (g i j)) := by
  intro pins s σ H x y v u Q I rx ry h
  obtain ⟨i, j, rfl, rfl, q⟩ := h
  obtain ⟨t, rfl⟩ := rx
  obtain ⟨t', rfl⟩ := ry
  exact rule i j t t' s _ _ ⟨.int (g i j), H, I.tok _, ⟨_, rfl⟩, q⟩
theorem opB0 {f : Value → Value → Sem Value} {g : Int → Int → Bool}
    (rule : ∀ (i j : Int) (t u : Tok) (s : Shared) (Q : Value → Shared → Prop) (E : Value → Shared → Prop), Q (.bool (g i j)) s → wpAny (model X.prog X.w) X.A (f (.int i t) (.int j u)) Q E s) :
    OpR X f (rI0 fun i j => .bl (g i j)) := by
  intro pins s σ H x y v u Q I rx ry h
  obtain ⟨i, j, rfl, rfl, q⟩ := h
  obtain ⟨t, rfl⟩ := rx
  obtain ⟨t', rfl⟩ := ry
  exact rule i j t t' s _ _ ⟨.bl (g i j), H, I, rfl, q⟩

def CPow (i j : Int) : Prop := 0 ≤ j ∧ j ≤ 1000000 ∧ i.natAbs < 2 ^ 64
def CMul (i j : Int) : Prop := (-(2 ^ 64) < i ∧ i < 2 ^ 64) ∨ (-(2 ^ 64) < j ∧ j < 2 ^ 64)
theorem CMul.ok {i j : Int} (h : CMul i j) : IntMulOk i j := by
  rcases h with ⟨h1, h2⟩ | ⟨h1, h2⟩
  · exact .of_left (intBits_le_64 h1 h2)
  · exact .of_right (intBits_le_64 h1 h2)
theorem op_add : OpR X (binaryOp .Add) (rI0 fun i j => .int (i + j)) := opI0 fun _ _ _ _ _ _ _ q => add_int q
theorem op_sub : OpR X (binaryOp .Sub) (rI0 fun i j => .int (i - j)) := opI0 fun _ _ _ _ _ _ _ q => sub_int q
/-- % by a positive divisor of any size -/
theorem op_mod : OpR X (binaryOp .Mod) (rI (fun _ j => 0 < j) fun i j => .int (i % j)) := opI fun i j _ _ _ _ _ hc q => by
  have h1 : (0 : Int) < j := hc
  exact mod_int' (by omega) (by rw [Int.fmod_eq_emod_of_nonneg i (by omega)]; exact q)
theorem op_pow : OpR X (binaryOp .Pow) (rI CPow fun i j => .int (i ^ j.toNat)) := opI fun _ _ _ _ _ _ _ hc q => pow_int_small hc.1 hc.2.1 hc.2.2 q
theorem unI {f : Value → Sem Value} {g : Int → Int}
    (rule : ∀ (i : Int) (t : Tok) (s : Shared) (Q : Value → Shared → Prop) (E : Value → Shared → Prop), Q (.int (g i) s.toks) { s with toks := s.toks + 1 } → wpAny (model X.prog X.w) X.A (f (.int i t)) Q E s) :
    UnR X f (rU fun i => .int (g i)) := by
  intro pins s σ H x v Q I rx h
  obtain ⟨i, rfl, q⟩ := h
  obtain ⟨t, rfl⟩ := rx
  exact rule i t s _ _ ⟨.int (g i), H, I.tok _, ⟨_, rfl⟩, q⟩
theorem un_neg : UnR X (unaryOp .USub) (rU fun i => .int (-i)) := unI fun _ _ _ _ _ q => neg_int q
/-! ### bools among ints: n += (a < b) -/
end

/-! ### comparisons -/
/-- the scalars that == tells apart as data does -/
def scal : V → V → Bool
  | .non, .non => true | .non, .int _ => true | .int _, .non => true | .non, .bl _ => true | .bl _, .non => true | .non, .str _ => true | .str _, .non => true
  | .int _, .int _ => true | .bl _, .bl _ => true | .str _, .str _ => true | .byt _, .byt _ => true
  | .int _, .str _ => true | .str _, .int _ => true | .bl _, .str _ => true | .str _, .bl _ => true
  | _, _ => false
def rEq : R2 := fun x y H Q => scal x y = true ∧ Q (.bl (decide (x = y))) H
def rNe : R2 := fun x y H Q => scal x y = true ∧ Q (.bl (!decide (x = y))) H

theorem dec_int {i j : Int} : decide (V.int i = V.int j) = (i == j) := by
  rw [Bool.eq_iff_iff]
  simp
theorem dec_bl {i j : Bool} : decide (V.bl i = V.bl j) = (i == j) := by
  rw [Bool.eq_iff_iff]
  simp
theorem dec_str {i j : Str} : decide (V.str i = V.str j) = (i == j) := by
  rw [Bool.eq_iff_iff]
  simp
theorem dec_byt {i j : Array UInt8} : decide (V.byt i = V.byt j) = (i.toList == j.toList) := by
  rw [Bool.eq_iff_iff]
  cases i
  cases j
  simp

section
variable {X : Cx} {a b c : Expr} {ta tb tc : TE} {pos : Pos}
theorem fin_bl {pins : List (Addr × Obj)} {σ : St} {H : Hp} {s : Shared} {Q : VK} {k k' : Bool} (I : Inv X pins σ H s) (q : Q (.bl k) H) (e : k = k') : EP X pins σ Q (.bool k') s := by
  subst e
  exact ⟨.bl k, H, I, rfl, q⟩
theorem op_eq : OpR X (compareOp .Eq) rEq := by
  intro pins s σ H x y v u Q I rx ry h
  obtain ⟨hs, q⟩ := h
  cases x with
  | non =>
    cases rx
    cases y with
    | non => cases ry; exact PySem.EqNone.eq_none_none (fin_bl I q (by simp))
    | bl j => cases ry; exact PySem.EqNone.eq_none_bool (fin_bl I q (by simp))
    | int j => obtain ⟨t', rfl⟩ := ry; exact PySem.EqNone.eq_none_int (fin_bl I q (by simp))
    | str j => obtain ⟨t', rfl⟩ := ry; exact PySem.EqNone.eq_none_str (fin_bl I q (by simp))
    | _ => exact absurd (show false = true from hs) Bool.false_ne_true
  | bl i =>
    cases rx
    cases y with
    | non => cases ry; exact PySem.EqNone.eq_bool_none (fin_bl I q (by simp))
    | bl j => cases ry; exact eq_bool (fin_bl I q dec_bl)
    | str j => obtain ⟨t', rfl⟩ := ry; exact PySem.EqMixed.eq_bool_str (fin_bl I q (by simp))
    | _ => exact absurd (show false = true from hs) Bool.false_ne_true
  | int i =>
    obtain ⟨t, rfl⟩ := rx
    cases y with
    | non => cases ry; exact PySem.EqNone.eq_int_none (fin_bl I q (by simp))
    | int j => obtain ⟨t', rfl⟩ := ry; exact eq_int (fin_bl I q dec_int)
    | str j => obtain ⟨t', rfl⟩ := ry; exact PySem.EqMixed.eq_int_str (fin_bl I q (by simp))
    | _ => exact absurd (show false = true from hs) Bool.false_ne_true
  | str i =>
    obtain ⟨t, rfl⟩ := rx
    cases y with
    | non => cases ry; exact PySem.EqNone.eq_str_none (fin_bl I q (by simp))
    | bl j => cases ry; exact PySem.EqMixed.eq_str_bool (fin_bl I q (by simp))
    | int j => obtain ⟨t', rfl⟩ := ry; exact PySem.EqMixed.eq_str_int (fin_bl I q (by simp))
    | str j => obtain ⟨t', rfl⟩ := ry; exact eq_str (fin_bl I q dec_str)
    | _ => exact absurd (show false = true from hs) Bool.false_ne_true
  | byt i =>
    obtain ⟨t, rfl⟩ := rx
    cases y with
    | byt j => obtain ⟨t', rfl⟩ := ry; exact PySem.W.eq_bytes (fin_bl I q dec_byt)
    | _ => exact absurd (show false = true from hs) Bool.false_ne_true
  | _ => cases y <;> exact absurd (show false = true from hs) Bool.false_ne_true
theorem op_ne : OpR X (compareOp .NotEq) rNe := by
  intro pins s σ H x y v u Q I rx ry h
  obtain ⟨hs, q⟩ := h
  cases x with
  | non =>
    cases rx
    cases y with
    | non => cases ry; exact PySem.EqNone.ne_none_none (fin_bl I q (by simp))
    | bl j => cases ry; exact PySem.EqNone.ne_none_bool (fin_bl I q (by simp))
    | int j => obtain ⟨t', rfl⟩ := ry; exact PySem.EqNone.ne_none_int (fin_bl I q (by simp))
    | str j => obtain ⟨t', rfl⟩ := ry; exact PySem.EqNone.ne_none_str (fin_bl I q (by simp))
    | _ => exact absurd (show false = true from hs) Bool.false_ne_true
  | bl i =>
    cases rx
    cases y with
    | non => cases ry; exact PySem.EqNone.ne_bool_none (fin_bl I q (by simp))
    | bl j => cases ry; exact ne_bool (fin_bl I q (congrArg not dec_bl))
    | str j => obtain ⟨t', rfl⟩ := ry; exact PySem.EqMixed.ne_bool_str (fin_bl I q (by simp))
    | _ => exact absurd (show false = true from hs) Bool.false_ne_true
  | int i =>
    obtain ⟨t, rfl⟩ := rx
    cases y with
    | non => cases ry; exact PySem.EqNone.ne_int_none (fin_bl I q (by simp))
    | int j => obtain ⟨t', rfl⟩ := ry; exact ne_int (fin_bl I q (congrArg not dec_int))
    | str j => obtain ⟨t', rfl⟩ := ry; exact PySem.EqMixed.ne_int_str (fin_bl I q (by simp))
    | _ => exact absurd (show false = true from hs) Bool.false_ne_true
  | str i =>
    obtain ⟨t, rfl⟩ := rx
    cases y with
    | non => cases ry; exact PySem.EqNone.ne_str_none (fin_bl I q (by simp))
    | bl j => cases ry; exact PySem.EqMixed.ne_str_bool (fin_bl I q (by simp))
    | int j => obtain ⟨t', rfl⟩ := ry; exact PySem.EqMixed.ne_str_int (fin_bl I q (by simp))
    | str j => obtain ⟨t', rfl⟩ := ry; exact ne_str (fin_bl I q (congrArg not dec_str))
    | _ => exact absurd (show false = true from hs) Bool.false_ne_true
  | byt i =>
    obtain ⟨t, rfl⟩ := rx
    cases y with
    | byt j => obtain ⟨t', rfl⟩ := ry; exact PySem.W.ne_bytes (fin_bl I q (congrArg not dec_byt))
    | _ => exact absurd (show false = true from hs) Bool.false_ne_true
  | _ => cases y <;> exact absurd (show false = true from hs) Bool.false_ne_true

theorem op_lt : OpR X (compareOp .Lt) (rI0 fun i j => .bl (decide (i < j))) := opB0 fun _ _ _ _ _ _ _ q => lt_int q
theorem op_le : OpR X (compareOp .LtE) (rI0 fun i j => .bl (decide (i ≤ j))) := opB0 fun _ _ _ _ _ _ _ q => le_int q
theorem op_gt : OpR X (compareOp .Gt) (rI0 fun i j => .bl (decide (j < i))) := opB0 fun _ _ _ _ _ _ _ q => gt_int q
theorem op_ge : OpR X (compareOp .GtE) (rI0 fun i j => .bl (decide (j ≤ i))) := opB0 fun _ _ _ _ _ _ _ q => ge_int q
/-- the one string within the other -/
theorem op_in_str : OpR X (compareOp .In) (fun x y H Q => ∃ i j, x = .str i ∧ y = .str j ∧ Q (.bl (!(Builtin.Str.occurrences j i 0 j.length 1).isEmpty)) H) := by
  intro pins s σ H x y v u Q I rx ry h
  obtain ⟨i, j, rfl, rfl, q⟩ := h
  obtain ⟨t, rfl⟩ := rx
  obtain ⟨t', rfl⟩ := ry
  exact in_str (fin_bl I q rfl)

/-- two rules for one operation: by cases -/
theorem OpR.or {f : Value → Value → Sem Value} {r r' : R2} (h : OpR X f r) (h' : OpR X f r') : OpR X f (fun x y H Q => r x y H Q ∨ r' x y H Q) := by
  intro pins s σ H x y v u Q I rx ry q
  rcases q with q | q
  · exact h pins s σ H x y v u Q I rx ry q
  · exact h' pins s σ H x y v u Q I rx ry q

theorem nomark (b : Expr) {op : CmpOp} (h : op ≠ .In := by decide) (h2 : op ≠ .NotIn := by decide) : behindInMarks op b = false := by
  have e1 : (op == CmpOp.In) = false := by cases op <;> first | rfl | exact absurd rfl h
  have e2 : (op == CmpOp.NotIn) = false := by cases op <;> first | rfl | exact absurd rfl h2
  cases b <;> simp [behindInMarks, e1, e2]
/-- a comparison as a value; hm: nomark b, or (for in, not in) by with_unfolding_all rfl -/
theorem pe_cmpR {op : CmpOp} {r : R2} (ho : OpR X (compareOp op) r) (ha : PE X a ta) (hb : PE X b tb) (hm : behindInMarks op b = false) : PE X (.Compare a [op] [b] pos) (tOp r ta tb) := by
  intro pins s σ H Q I h
  exact wpAny_Compare1 (binT ha hb I h fun v u s2 x y H2 I2 rx ry q => ho pins s2 σ H2 x y v u Q I2 rx ry q) hm
/-- a reading of a value as a test -/
def tTest (t : TE) : TT := fun σ H Q => t σ H fun x H' => ∃ k, x = .bl k ∧ Q k H'
theorem pt_cmpR {op : CmpOp} {r : R2} (ho : OpR X (compareOp op) r) (ha : PE X a ta) (hb : PE X b tb) (hm : behindInMarks op b = false) : PT X (.Compare a [op] [b] pos) (tTest (tOp r ta tb)) := by
  intro pins s σ H Q I h
  refine wpAny_isTrue_Compare1 (thn (ha pins s σ H _ I h) fun v s1 ⟨x, H1, I1, r1, q1⟩ => thn (hb pins s1 σ H1 _ I1 q1) fun u s2 ⟨y, H2, I2, r2, q2⟩ =>
    thn (ho pins s2 σ H2 x y v u _ I2 r1 r2 q2) fun c s3 ⟨z, H3, I3, r3, k, e, q3⟩ => ?_) hm
  subst e
  cases r3
  exact wpAny_truthy_bool ⟨H3, I3, q3⟩
/-- a op1 b op2 c -/
def tChain (r r' : R2) (ta tb tc : TE) : TE := fun σ H Q => ta σ H fun x H1 => tb σ H1 fun y H2 => r x y H2 fun z H3 => ∃ k, z = .bl k ∧
  (if k = true then tc σ H3 fun w' H4 => r' y w' H4 Q else Q (.bl false) H3)
theorem pt_chain {op op' : CmpOp} {r r' : R2} (ho : OpR X (compareOp op) r) (ho' : OpR X (compareOp op') r') (ha : PE X a ta) (hb : PE X b tb) (hc : PE X c tc)
    (hm : lastMarks [op, op'] [b, c] = false := by with_unfolding_all rfl) : PT X (.Compare a [op, op'] [b, c] pos) (tTest (tChain r r' ta tb tc)) := by
  intro pins s σ H Q I h
  refine isTrue_chain (thn (ha pins s σ H _ I h) fun v s1 ⟨x, H1, I1, r1, q1⟩ => test_link (thn (hb pins s1 σ H1 _ I1 q1) fun u s2 ⟨y, H2, I2, r2, q2⟩ =>
    thn (ho pins s2 σ H2 x y v u _ I2 r1 r2 q2) fun d s3 ⟨z, H3, I3, r3, k, e, q3⟩ => ?_)) hm
  subst e
  cases r3
  refine wpAny_truthy_bool ?_
  cases k with
  | false =>
    obtain ⟨k', e', q'⟩ := q3
    cases e'
    exact ite_ff ⟨H3, I3, q'⟩
  | true =>
    refine ite_tt (test_last (thn (hc pins s3 σ H3 _ I3 q3) fun w' s4 ⟨z', H4, I4, r4, q4⟩ => thn (ho' pins s4 σ H4 y z' u w' _ I4 r2 r4 q4) fun d' s5 ⟨z2, H5, I5, r5, k2, e2, q5⟩ => ?_))
    subst e2
    cases r5
    exact wpAny_truthy_bool ⟨H5, I5, q5⟩

/-! ### truth -/
theorem line63 : (sizeLine : Nat) < 2 ^ 63 := by rw [sizeLine_eq]; decide
/-! ### strs and bytes -/
theorem op_add_str : OpR X (binaryOp .Add) (fun x y H Q => ∃ i j, x = .str i ∧ y = .str j ∧ i.length + j.length ≤ sizeLine ∧ Q (.str (i ++ j)) H) := by
  intro pins s σ H x y v u Q I rx ry h
  obtain ⟨i, j, rfl, rfl, hz, q⟩ := h
  obtain ⟨t, rfl⟩ := rx
  obtain ⟨t', rfl⟩ := ry
  exact add_str (fun t' tk => ⟨.str (i ++ j), H, I.tok _, ⟨_, rfl⟩, q⟩) hz
/-! ### scalar builtins, by CallR -/
theorem vals1 {x : V} {us : List Value} (r : Vals [x] us) : ∃ u, us = [u] ∧ RelV x u := by
  cases r with
  | cons r1 r2 => cases r2; exact ⟨_, rfl, r1⟩
theorem vals2 {x y : V} {us : List Value} (r : Vals [x, y] us) : ∃ u w', us = [u, w'] ∧ RelV x u ∧ RelV y w' := by
  cases r with
  | cons r1 r2 =>
    cases r2 with
    | cons r3 r4 => cases r4; exact ⟨_, _, rfl, r1, r3⟩
theorem call_abs : CallR X (.builtin "abs") (fun xs H Q => ∃ i, xs = [.int i] ∧ Q (.int (if i < 0 then -i else i)) H) := by
  intro pins s σ H xs us Q I r h
  obtain ⟨i, rfl, q⟩ := h
  obtain ⟨u, rfl, t, rfl⟩ := vals1 r
  exact call_abs_int fun u tk => ⟨.int (if i < 0 then -i else i), H, I.tok _, ⟨_, rfl⟩, q⟩
theorem call_max2 (hc : X.calm = true) : CallR X (.builtin "max") (fun xs H Q => ∃ i j, xs = [.int i, .int j] ∧ Q (.int (if j > i then j else i)) H) := by
  intro pins s σ H xs us Q I r h
  obtain ⟨i, j, rfl, q⟩ := h
  obtain ⟨u, w', rfl, ⟨t, rfl⟩, ⟨t', rfl⟩⟩ := vals2 r
  refine max_two_ints (I.ok.hd hc) fun h' tk k => ⟨_, H, I.kept k, ?_, q⟩
  by_cases hj : j > i
  · rw [if_pos hj, if_pos hj]; exact ⟨_, rfl⟩
  · rw [if_neg hj, if_neg hj]; exact ⟨_, rfl⟩
theorem call_min2 (hc : X.calm = true) : CallR X (.builtin "min") (fun xs H Q => ∃ i j, xs = [.int i, .int j] ∧ Q (.int (if j < i then j else i)) H) := by
  intro pins s σ H xs us Q I r h
  obtain ⟨i, j, rfl, q⟩ := h
  obtain ⟨u, w', rfl, ⟨t, rfl⟩, ⟨t', rfl⟩⟩ := vals2 r
  refine min_two_ints (I.ok.hd hc) fun h' tk k => ⟨_, H, I.kept k, ?_, q⟩
  by_cases hj : j < i
  · rw [if_pos hj, if_pos hj]; exact ⟨_, rfl⟩
  · rw [if_neg hj, if_neg hj]; exact ⟨_, rfl⟩
theorem call_int1 : CallR X (.type "int") (fun xs H Q => (∃ i, xs = [.int i] ∧ Q (.int i) H) ∨ ∃ k, xs = [.bl k] ∧ Q (.int (if k then 1 else 0)) H) := by
  intro pins s σ H xs us Q I r h
  rcases h with ⟨i, rfl, q⟩ | ⟨k, rfl, q⟩
  · obtain ⟨u, rfl, t, rfl⟩ := vals1 r
    exact call_int_int ⟨.int i, H, I, ⟨_, rfl⟩, q⟩
  · obtain ⟨u, rfl, r1⟩ := vals1 r
    cases r1
    exact call_int_bool ⟨.int (if k then 1 else 0), H, I.tok _, ⟨_, rfl⟩, q⟩
theorem call_str_int : CallR X (.type "str") (fun xs H Q => ∃ i, xs = [.int i] ∧ i.natAbs.log2 < 1920 ∧ Q (.str (toString i)) H) := by
  intro pins s σ H xs us Q I r h
  obtain ⟨i, rfl, hz, q⟩ := h
  obtain ⟨u, rfl, t, rfl⟩ := vals1 r
  exact PySem.P.str_of_int hz ⟨.str _, H, I.tok _, ⟨_, rfl⟩, q⟩
/-- len of a str, a bytes, a list, a tuple -/
def LenV (K : PySem.W.Frag) (x : V) (H : Hp) (n : Nat) : Prop :=
  match x with
  | .str y => y.length ≤ sizeLine ∧ n = y.length
  | .byt y => y.size ≤ sizeLine ∧ n = y.size
  | .ref p => (∃ xs, SqL K H p xs ∧ n = xs.length) ∨ ∃ xs, SqT K H p xs ∧ n = xs.length
  | _ => False
theorem call_len : CallR X (.builtin "len") (fun xs H Q => ∃ x n, xs = [x] ∧ LenV X.K x H n ∧ Q (.int n) H) := by
  intro pins s σ H xs us Q I r h
  obtain ⟨x, n, rfl, e, q⟩ := h
  obtain ⟨u, rfl, rx⟩ := vals1 r
  have hl := line63
  have hs : sizeLine = 16777216 := sizeLine_eq
  cases x with
  | str y =>
    obtain ⟨t, rfl⟩ := rx
    obtain ⟨hy, e'⟩ : y.length ≤ sizeLine ∧ n = y.length := e
    subst e'
    exact len_str (by omega) ⟨.int _, H, I.tok _, ⟨_, rfl⟩, q⟩
  | byt y =>
    obtain ⟨t, rfl⟩ := rx
    obtain ⟨hy, e'⟩ : y.size ≤ sizeLine ∧ n = y.size := e
    subst e'
    exact PySem.W.len_bytes (by omega) ⟨.int _, H, I.tok _, ⟨_, rfl⟩, q⟩
  | ref p =>
    cases rx
    have e' : (∃ xs, SqL X.K H p xs ∧ n = xs.length) ∨ ∃ xs, SqT X.K H p xs ∧ n = xs.length := e
    rcases e' with ⟨xs, hx, e'⟩ | ⟨xs, hx, e'⟩
    · subst e'
      obtain ⟨its, r', pl, hz⟩ := I.list hx
      have hlen := r'.length
      exact Calls.call_len_list pl.isList (by simp only [List.size_toArray]; omega) ⟨.int xs.length, H, I.tok _, ⟨_, by simp only [List.size_toArray]; rw [hlen]⟩, q⟩
    · subst e'
      obtain ⟨its, r', pl, hz⟩ := I.tuple hx
      have hlen := r'.length
      exact len_tuple pl (by simp only [List.size_toArray]; omega) ⟨.int xs.length, H, I.tok _, ⟨_, by simp only [List.size_toArray]; rw [hlen]⟩, q⟩
  | _ => exact (show False from e).elim
end
end L2

namespace L2
open PySem PySem.Spec PyProof.Rows

/-! ### an instance, its attributes a map -/
structure ObjM (h : Heap) (x dx C : Addr) (mA : Str → Option Value) : Prop where
  obj : h.get? x = some (PySem.W.instObj C dx)
  ns : h.Ns1 dx mA
  ne : dx ≠ x

theorem lookIn_ns {h : Heap} {dx : Addr} {mA : Str → Option Value} (n : h.Ns1 dx mA) : ∃ od, h.get? dx = some od ∧ ∀ name, PySem.W.lookIn name od = some (mA name) := by
  obtain ⟨o, es, ep, ho, hd, hk, _, hm⟩ := n
  refine ⟨o, ho, fun name => ?_⟩
  have e := hm name
  unfold nsFind findBy at e
  rw [← Array.find?_toList] at e
  unfold PySem.W.lookIn
  rw [hd]
  dsimp only
  split
  · rename_i y q
    rw [q] at e
    exact congrArg some e
  · rename_i q
    rw [q] at e
    have a : es.toList.any (·.refKey) = false := by
      rw [List.any_eq_false]
      intro y hy
      obtain ⟨z, t, hkey⟩ := hk y (Array.mem_toList_iff.mp hy)
      simp [DictEntry.refKey, hkey]
    have a' : ¬ es.toList.any (·.refKey) = true := by rw [a]; exact Bool.false_ne_true
    rw [if_neg a']
    exact congrArg some e

theorem ObjM.look {h : Heap} {x dx C : Addr} {mA : Str → Option Value} (I : ObjM h x dx C mA) : ∃ od, PySem.W.InstAt h x (PySem.W.instObj C dx) C (some od) ∧ ∀ name, PySem.W.lookIn name od = some (mA name) :=
  let ⟨od, ho, hl⟩ := lookIn_ns I.ns
  ⟨od, ⟨I.obj, rfl, rfl, ho⟩, hl⟩

section
variable {prog : Program} {w : World} {A : Around} {E : Value → Shared → Prop} {s : Shared} {K : PySem.W.Frag} {x dx C f : Addr} {mA : Str → Option Value} {name : Str} {v : Value}

theorem get_map {expr : Bool} {Q : Value → Shared → Prop} (X : K.In s.heap) (I : ObjM s.heap x dx C mA) (hg : PySem.W.plainGet K C name = true) (hh : PySem.W.hasDictIn K C = true)
    (ha : PySem.W.findIn K (.ref C) name = some none) (hv : mA name = some v) (hv' : PySem.W.handedIn v = true) (h : Q v { s with toks := s.toks + 1 }) :
    wpAny (model prog w) A (getAttr (.ref x) name expr) Q E s := by
  obtain ⟨od, J, hl⟩ := I.look
  exact PySem.W.get_value X J (PySem.W.plainGet_of hg).1 (PySem.W.findObj_own hh ha rfl (by rw [hl, hv])) hv' h

theorem get_meth {pl : Sem Bool} {Q : Value × List Value → Shared → Prop} (X : K.In s.heap) (I : ObjM s.heap x dx C mA) (hg : PySem.W.plainGet K C name = true)
    (hf : PySem.W.findIn K (.ref C) name = some (some (.ref f))) (ht : PySem.W.isFn K (.ref f) = true) (hv : mA name = none) (h : Q (.ref f, [.ref x]) s) :
    wpAny (model prog w) A (getMethod (.ref x) name pl) Q E s := by
  obtain ⟨od, J, hl⟩ := I.look
  exact PySem.W.method_fn X J (PySem.W.plainGet_of hg).1 (PySem.W.plainGet_of hg).2 hf (beq_iff_eq.mp ht) (by show (PySem.W.lookIn name od).map (·.isSome) = some false; rw [hl, hv]; rfl) h

theorem set_map {ns : List Str} {Q : Unit → Shared → Prop} (X : K.In s.heap) (I : ObjM s.heap x dx C mA)
    (hs : PySem.W.findIn K (.ref C) "__setattr__" = some (some (.builtin "object.__setattr__"))) (hp : PySem.W.plainOver K C = true) (ht : PySem.W.takerIn K C name = some none) (hh : PySem.W.hasDictIn K C = true)
    (hw : PySem.Within mA ns) (hsz : ns.length ≤ sizeLine)
    (h : ∀ h', ObjM h' x dx C (fun y => if y = name then some v else mA y) → Heap.SameBut dx s.heap h' → Q () { s with heap := h', toks := s.toks + 2 }) :
    wpAny (model prog w) A (setAttr (.ref x) name v) Q E s := by
  obtain ⟨od, J, hl⟩ := I.look
  refine PySem.W.set_plain X J hs (PySem.W.osa_open (s := { s with toks := s.toks + 1 }) (r := none) X J hp ht fun b => ?_)
  obtain ⟨cd, hc, hd'⟩ := PySem.W.any_some hh
  have hx : s.heap.get? x = some ⟨.ref C, some dx, .plain, #[]⟩ := I.obj
  refine wpAny_bind (wpAny_pure (wpAny_bind (wpAny_bind (wpAny_loadPart hx (wpAny_bind (PySem.W.Looks.here (s := { s with toks := s.toks + 1 }) (PySem.W.looks_clsIn X hc) ?_))))))
  rw [hd']
  refine wpAny_pure (a := some dx) (wpAny_bind (wpAny_pure (wpAny_bind ?_)))
  refine wpAny_nsSet1 (s := { s with toks := s.toks + 1 }) I.ns fun h' hn2 hs2 => ?_
  obtain ⟨oD, esD, epD, hoD, hdD, hcD⟩ := hn2.count (PySem.Within.cons name v hw)
  refine wpAny_bind (wpAny_lookBehind hoD (by rw [hdD]; exact pastItsLine_dict (Nat.le_trans hcD (by rw [List.length_cons]; omega))) ?_)
  exact wpAny_pure (h _ ⟨(hs2.2 _ (Ne.symm I.ne)).trans I.obj, hn2, I.ne⟩ hs2)

/-- C(..): the dict at the heap's end, the instance behind it; then its __init__ -/
theorem make_map {R : Result → Shared → Prop} {vs : List Value} {kw : List (Str × Value)} (X : K.In s.heap) (hm : PySem.W.makesIn K C = true)
    (hi : PySem.W.findIn K (.ref C) "__init__" = some (some (.ref f))) (hf : PySem.W.typeIn K (.ref f) = some (.type "function"))
    (h : codeAny (model prog w) (A.under (.builtin "type.__call__" ⟨.ref C :: vs, kw⟩)) (.call (.ref f) ⟨.ref (s.heap.objs.size + 1) :: vs, kw⟩) (PySem.W.InitBack (s.heap.objs.size + 1) R)
      { s with heap := (s.heap.push PySem.W.emptyDict).push (PySem.W.instObj C s.heap.objs.size) }) :
    codeAny (model prog w) A (.call (.ref C) ⟨vs, kw⟩) R s := by
  obtain ⟨hh, g, d, t, os⟩ := s
  exact PySem.W.make_core (PySem.W.makes_of X hm) (PySem.W.looks_findIn X hi) (fun self => PySem.W.bind_fn X self hf) (.inl rfl) h
end

/-! ### the attributes as a list of pairs -/
def putF (f : Str) (v : V) : List (Str × V) → List (Str × V)
  | [] => [(f, v)]
  | (g, x) :: r => if g = f then (g, v) :: r else (g, x) :: putF f v r
theorem lookup_putF (f g : Str) (v : V) : ∀ fs : List (Str × V), (putF f v fs).lookup g = if g = f then some v else fs.lookup g
  | [] => by
    show List.lookup g [(f, v)] = _
    by_cases h : g = f
    · have hb : (g == f) = true := beq_iff_eq.mpr h
      simp only [List.lookup, hb, if_pos h]
    · have hb : (g == f) = false := beq_eq_false_iff_ne.mpr h
      simp only [List.lookup, hb, if_neg h]
  | (k, x) :: r => by
    have ih := lookup_putF f g v r
    rw [show putF f v ((k, x) :: r) = (if k = f then (k, v) :: r else (k, x) :: putF f v r) from rfl]
    by_cases hk : k = f
    · rw [if_pos hk]
      by_cases h : g = k
      · have hb : (g == k) = true := beq_iff_eq.mpr h
        simp only [List.lookup, hb, if_pos (h.trans hk)]
      · have hb : (g == k) = false := beq_eq_false_iff_ne.mpr h
        simp only [List.lookup, hb, if_neg (fun e : g = f => h (e.trans hk.symm))]
    · rw [if_neg hk]
      by_cases h : g = k
      · have hb : (g == k) = true := beq_iff_eq.mpr h
        simp only [List.lookup, hb, if_neg (fun e : g = f => hk (h.symm.trans e))]
      · have hb : (g == k) = false := beq_eq_false_iff_ne.mpr h
        simp only [List.lookup, hb]
        exact ih
theorem keys_putF (f : Str) (v : V) : ∀ fs : List (Str × V), f ∈ (putF f v fs).map (·.1) ∧ ∀ g, g ∈ fs.map (·.1) → g ∈ (putF f v fs).map (·.1)
  | [] => ⟨by simp [putF], fun g h => by simp at h⟩
  | (k, x) :: r => by
    obtain ⟨i1, i2⟩ := keys_putF f v r
    rw [show putF f v ((k, x) :: r) = (if k = f then (k, v) :: r else (k, x) :: putF f v r) from rfl]
    by_cases hk : k = f
    · rw [if_pos hk]
      subst hk
      exact ⟨by simp, fun g h => by simpa using h⟩
    · rw [if_neg hk]
      refine ⟨?_, fun g h => ?_⟩
      · rw [List.map_cons]
        exact List.mem_cons_of_mem _ i1
      · rw [List.map_cons] at h ⊢
        rcases List.mem_cons.mp h with e | e
        · exact List.mem_cons.mpr (.inl e)
        · exact List.mem_cons_of_mem _ (i2 g e)
theorem length_putF (f : Str) (v : V) : ∀ fs : List (Str × V), (putF f v fs).length ≤ fs.length + 1
  | [] => by simp [putF]
  | (k, x) :: r => by
    have ih := length_putF f v r
    rw [show putF f v ((k, x) :: r) = (if k = f then (k, v) :: r else (k, x) :: putF f v r) from rfl]
    by_cases hk : k = f
    · rw [if_pos hk, List.length_cons, List.length_cons]; omega
    · rw [if_neg hk, List.length_cons, List.length_cons]; omega

theorem RelO.some_of {v : V} {o : Option Value} (r : RelO (some v) o) : ∃ u, o = some u ∧ RelV v u := by
  cases o with
  | none => exact (show False from r).elim
  | some u => exact ⟨u, rfl, r⟩
theorem RelO.none_of {o : Option Value} (r : RelO none o) : o = none := by
  cases o with
  | none => rfl
  | some u => exact (show False from r).elim
theorem handed_of {v : V} {u : Value} (r : RelV v u) : PySem.W.handedIn u = true := by
  cases v with
  | non => cases (show u = Value.none from r); rfl
  | bl b => cases (show u = Value.bool b from r); rfl
  | int i => obtain ⟨t, e⟩ := (show ∃ t, u = Value.int i t from r); cases e; rfl
  | str x => obtain ⟨t, e⟩ := (show ∃ t, u = Value.str x t from r); cases e; rfl
  | byt b => obtain ⟨t, e⟩ := (show ∃ t, u = Value.bytes b t from r); cases e; rfl
  | flt b => obtain ⟨t, e⟩ := (show ∃ t, u = Value.float b t from r); cases e; rfl
  | ref a => cases (show u = Value.ref a from r); rfl
  | ty n => cases (show u = Value.type n from r); rfl

section
variable {P : Program} {w : World} {H H' : Hp} {h h' : Heap} {a C dx : Addr} {fs fs' : List (Str × V)}
theorem ins_get (hok : HOk P w H h) (e : H a = some (.ins C dx fs)) : ∃ mA, ObjM h a dx C mA ∧ (∀ f, RelO (fs.lookup f) (mA f)) ∧ PySem.Within mA (fs.map (·.1)) ∧ fs.length ≤ 1000 ∧ H dx = some (.own a) := by
  obtain ⟨d, z, ne, ob, mA, n, r, q⟩ := (show ObjOk P w H h a (.ins C dx fs) from hok a _ e)
  exact ⟨mA, ⟨ob, n, ne⟩, r, q, z, d⟩
end

/-! ### what of the text a class must have -/
structure Cls (K : PySem.W.Frag) (C : Addr) : Prop where
  pg : PySem.W.plainGet K C Str.empty = true
  hd : PySem.W.hasDictIn K C = true
  po : PySem.W.plainOver K C = true
  sa : PySem.W.findIn K (.ref C) "__setattr__" = some (some (.builtin "object.__setattr__"))
theorem Cls.get {K : PySem.W.Frag} {C : Addr} (c : Cls K C) (f : Str) : PySem.W.plainGet K C f = true := c.pg
/-- no class of it has the name -/
def NoAttr (K : PySem.W.Frag) (C : Addr) (f : Str) : Prop := PySem.W.findIn K (.ref C) f = some none
theorem NoAttr.taker {K : PySem.W.Frag} {C : Addr} {f : Str} (n : NoAttr K C f) : PySem.W.takerIn K C f = some none := by
  unfold PySem.W.takerIn
  rw [show PySem.W.findIn K (.ref C) f = some none from n]
  rfl
/-- a constant of the class -/
structure Con (K : PySem.W.Frag) (C : Addr) (f : Str) (v : V) (u : Value) : Prop where
  at_ : PySem.W.findIn K (.ref C) f = some (some u)
  rel : RelV v u
  get : PySem.W.specialIn K u "__get__" = some none
  cp : PySem.W.copiedNames.contains f = false
/-- a method: a plain def of the class or of one above it -/
structure Meth (K : PySem.W.Frag) (C : Addr) (m : Str) (f : Addr) : Prop where
  at_ : PySem.W.findIn K (.ref C) m = some (some (.ref f))
  fn : PySem.W.isFn K (.ref f) = true
  kp : PySem.W.keepIn K (.ref f) = true

section
variable {X : Cx} {pins : List (Addr × Obj)} {σ : St} {H : Hp} {s : Shared} {a C dx : Addr} {fs : List (Str × V)} {f : Str} {v : V} {A : Around} {E : Value → Shared → Prop}

theorem getattr_ok {b : Bool} {Q : Value → Shared → Prop} (I : Inv X pins σ H s) (e : H a = some (.ins C dx fs)) (c : Cls X.K C) (n : NoAttr X.K C f) (l : fs.lookup f = some v)
    (h : ∀ u s', Inv X pins σ H s' → RelV v u → Q u s') : wpAny (model X.prog X.w) A (getAttr (.ref a) f b) Q E s := by
  obtain ⟨mA, O, r, _, _, _⟩ := ins_get I.hok e
  obtain ⟨u, hu, ru⟩ := RelO.some_of (v := v) (o := mA f) (by rw [← l]; exact r f)
  exact get_map I.kIn O (c.get f) c.hd n hu (handed_of ru) (h u _ (I.tok _) ru)

theorem getmeth_ok {m : Str} {g : Addr} {pl : Sem Bool} {Q : Value × List Value → Shared → Prop} (I : Inv X pins σ H s) (e : H a = some (.ins C dx fs)) (c : Cls X.K C) (k : Meth X.K C m g) (l : fs.lookup m = none)
    (h : Q (.ref g, [.ref a]) s) : wpAny (model X.prog X.w) A (getMethod (.ref a) m pl) Q E s := by
  obtain ⟨mA, O, r, _, _, _⟩ := ins_get I.hok e
  have hn : mA m = none := RelO.none_of (by rw [← l]; exact r m)
  exact get_meth I.kIn O (c.get m) k.at_ k.fn hn h

theorem setattr_ok {y : V} {u : Value} {Q : Unit → Shared → Prop} (I : Inv X pins σ H s) (e : H a = some (.ins C dx fs)) (c : Cls X.K C) (n : NoAttr X.K C f) (hl : fs.length < 1000) (ry : RelV y u)
    (h : ∀ s', Inv X pins σ (upd H a (.ins C dx (putF f y fs))) s' → Q () s') : wpAny (model X.prog X.w) A (setAttr (.ref a) f u) Q E s := by
  obtain ⟨mA, O, r, wi, _, ho⟩ := ins_get I.hok e
  have hz : (fs.map (·.1)).length ≤ sizeLine := by rw [List.length_map, sizeLine_eq]; omega
  refine set_map I.kIn O c.sa c.po n.taker c.hd wi hz fun h' O' sb => h _ ?_
  have hd : ∃ o, h'.get? dx = some o := let ⟨o, _, _, e', _⟩ := O'.ns; ⟨o, e'⟩
  refine I.write (x := a) (e := dx) (by rw [e]; exact True.intro) (.inr ho) (fun b q hb z => (sb.2 b hb).trans z) hd ?_
  refine ⟨by rw [upd_ne O.ne]; exact ho, ?_, O.ne, O'.obj, _, O'.ns, fun g => ?_, fun g hg => ?_⟩
  · have := length_putF f y fs; omega
  · show RelO ((putF f y fs).lookup g) (if g = f then some u else mA g)
    rw [lookup_putF]
    by_cases q : g = f
    · rw [if_pos q, if_pos q]; exact ry
    · rw [if_neg q, if_neg q]; exact r g
  · by_cases q : g = f
    · rw [q]; exact (keys_putF f y fs).1
    · refine (keys_putF f y fs).2 g (wi g fun z => hg ?_)
      show (if g = f then some u else mA g) = none
      rw [if_neg q]; exact z

/-- a new instance, tracked, without attributes -/
theorem Inv.made (I : Inv X pins σ H s) : Inv X pins σ (upd (upd H s.heap.objs.size (.own (s.heap.objs.size + 1))) (s.heap.objs.size + 1) (.ins C s.heap.objs.size []))
    { s with heap := (s.heap.push PySem.W.emptyDict).push (PySem.W.instObj C s.heap.objs.size) } := by
  have e1 : (s.heap.push PySem.W.emptyDict).get? s.heap.objs.size = some PySem.W.emptyDict := Heap.get?_push_size s.heap rfl
  have e2 : ((s.heap.push PySem.W.emptyDict).push (PySem.W.instObj C s.heap.objs.size)).get? (s.heap.objs.size + 1) = some (PySem.W.instObj C s.heap.objs.size) := by
    have := Heap.get?_push_size (s.heap.push PySem.W.emptyDict) (o := PySem.W.instObj C s.heap.objs.size) rfl
    rwa [Heap.size_push] at this
  have e3 : (s.heap.push PySem.W.emptyDict).Ns s.heap.objs.size (fun _ => none) := ⟨PySem.W.emptyDict, #[], _, e1, rfl, (fun e he => absurd he (by simp)), fun _ => rfl⟩
  have I1 := I.laid (a := s.heap.objs.size) (o := .own (s.heap.objs.size + 1)) (h' := s.heap.push PySem.W.emptyDict) (t' := s.toks) (fun b u q => Heap.get?_push_of_some _ q) (Nat.le_refl _) ⟨_, e1⟩
  refine I1.laid (a := s.heap.objs.size + 1) (o := .ins C s.heap.objs.size []) (t' := s.toks) (fun b u q => Heap.get?_push_of_some _ q) (Nat.le_of_eq (Heap.size_push _ _)) ?_
  have ne : s.heap.objs.size ≠ s.heap.objs.size + 1 := Nat.ne_of_lt (Nat.lt_succ_self _)
  refine ⟨by rw [upd_ne ne, upd_same], Nat.zero_le _, ne, e2, fun _ => none, (Heap.Ns1.of_empty e3).at fun o q => Heap.get?_push_of_some _ q, fun _ => True.intro, fun y hy => absurd rfl hy⟩

/-- e.f where nothing but the object is asked: through attributeBase (super) and the last hold -/
theorem attr_of {prog : Program} {w : World} {env : Env} {e : Expr} {f : Str} {pos : Pos} {s : Shared} {Q : Value → Shared → Prop} (hb : attributeBase e f env (eval e env) = eval e env)
    (h : wpAny (model prog w) A (eval e env) (fun o s₁ => wpAny (model prog w) A (getAttr o f true) Q E s₁) E s) : wpAny (model prog w) A (eval (.Attribute e f pos) env) Q E s :=
  Attribute_any_ h (by rw [arm_eval_Attribute, hb])
end

/-! ### readings and rules -/
/-- e.f, an attribute of the instance -/
def tFld (K : PySem.W.Frag) (ta : TE) (f : Str) : TE := fun σ H Q => ta σ H fun x H1 => ∃ a C dx fs v, x = .ref a ∧ H1 a = some (.ins C dx fs) ∧ Cls K C ∧ NoAttr K C f ∧ fs.lookup f = some v ∧ Q v H1
/-- e.f = value -/
def sFld (K : PySem.W.Frag) (ta tv : TE) (f : Str) : TS := fun D σ H => tv σ H fun y H1 => ta σ H1 fun x H2 => ∃ a C dx fs, x = .ref a ∧ H2 a = some (.ins C dx fs) ∧ Cls K C ∧ NoAttr K C f ∧ fs.length < 1000 ∧
  D.nx σ (upd H2 a (.ins C dx (putF f y fs)))
section
variable {X : Cx} {o e value : Expr} {f : Str} {pos pos' tpos : Pos} {ta tv : TE}
theorem pe_fld (he : PE X e ta) (hb : attributeBase e f X.env (eval e X.env) = eval e X.env) : PE X (.Attribute e f pos) (tFld X.K ta f) := by
  intro pins s σ H Q I h
  refine attr_of hb (thn (he pins s σ H _ I h) fun u s1 ⟨x, H1, I1, rx, a, C, dx, fs, v, ex, ea, c, n, l, q⟩ => ?_)
  subst ex
  obtain rfl : u = Value.ref a := rx
  exact getattr_ok I1 ea c n l fun u' s2 I2 ru => ⟨v, H1, I2, ru, q⟩
theorem ps_fld (ha : PE X o ta) (hv : PE X value tv) (hs : swapsWith value (some (.Attribute o f pos')) pos.line X.env = pure false) : PS X (.Assign [.Attribute o f pos'] value pos) (sFld X.K ta tv f) := by
  intro pins s σ H D I h
  refine plainObj_wpAny_Assign_Attribute (thn (hv pins s σ H _ I h) fun u s1 ⟨y, H1, I1, ry, q⟩ => thn (ha pins s1 σ H1 _ I1 q) fun ov s2 ⟨x, H2, I2, rx, a, C, dx, fs, ex, ea, c, n, l, q2⟩ => ?_) hs
  subst ex
  obtain rfl : ov = Value.ref a := rx
  exact setattr_ok I2 ea c n l ry fun s3 I3 => ⟨σ, _, I3, q2⟩
end

/-! ### isinstance -/
section
variable {X : Cx} {pins : List (Addr × Obj)} {σ : St} {H : Hp} {s : Shared} {A : Around} {E : Value → Shared → Prop} {Q : Value → Shared → Prop} {c : Value} {b : Bool}
/-- the type of a value, as the fragment's deciders take it; for an instance its class -/
inductive TyOf (K : PySem.W.Frag) (H : Hp) : V → Value → Prop where
  | non : TyOf K H .non (.type "NoneType")
  | bl (x : Bool) : TyOf K H (.bl x) (.type "bool")
  | int (i : Int) : TyOf K H (.int i) (.type "int")
  | str (x : Str) : TyOf K H (.str x) (.type "str")
  | flt (x : UInt64) : TyOf K H (.flt x) (.type "float")
  | lst {a : Addr} {xs : List V} (e : H a = some (.lst xs)) : TyOf K H (.ref a) (.type "list")
  | frz {a : Addr} {o : Obj} {xs : List V} (e : H a = some (.frz o (.lst xs))) : TyOf K H (.ref a) (.type "list")
  | tup {a : Addr} {xs : List V} (e : H a = some (.tup xs)) : TyOf K H (.ref a) (.type "tuple")
  | dK {a : Addr} {kvs : List (Key × V)} (e : H a = some (.dK kvs)) : TyOf K H (.ref a) (.type "dict")
  | dT {a : Addr} {kvs : List (List Key × V)} (e : H a = some (.dT kvs)) : TyOf K H (.ref a) (.type "dict")
  | ins {a C dx : Addr} {fs : List (Str × V)} (e : H a = some (.ins C dx fs)) (cl : Cls K C) (ha : PySem.W.findIn K (.ref C) "__class__" = some (some (.builtin "object.__class__")))
      (hn : PySem.W.specialIn K (.builtin "object.__class__") "__get__" = some (some (.builtin "getset_descriptor.__get__"))) (htk : PySem.W.takesIn K (.builtin "object.__class__") = some true)
      (hm : PySem.W.mroIn K C (.type "object") = some true) : TyOf K H (.ref a) (.ref C)
/-- isinstance(x, c) for one class c, a built-in or an own one: kitOne's answer -/
theorem isinst_ok {x : V} {u t : Value} (I : Inv X pins σ H s) (rx : RelV x u) (ty : TyOf X.K H x t) (e : PySem.W.kitOne X.K t c = some b) (h : ∀ tk, Q (.bool b) { s with toks := tk }) :
    wpAny (model X.prog X.w) A (call (.builtin "isinstance") [u, c]) Q E s := by
  cases ty with
  | non => cases (show u = Value.none from rx); exact PySem.W.kia_one PySem.W.kitx_none I.kIn True.intro e (fun z => nomatch z) h
  | bl y => cases (show u = Value.bool y from rx); exact PySem.W.kia_one PySem.W.kitx_bool I.kIn True.intro e (fun z => nomatch z) h
  | int i => obtain ⟨t, q⟩ := (show ∃ t, u = Value.int i t from rx); cases q; exact PySem.W.kia_one PySem.W.kitx_int I.kIn True.intro e (fun z => nomatch z) h
  | str y => obtain ⟨t, q⟩ := (show ∃ t, u = Value.str y t from rx); cases q; exact PySem.W.kia_one PySem.W.kitx_str I.kIn True.intro e (fun z => nomatch z) h
  | flt y => obtain ⟨t, q⟩ := (show ∃ t, u = Value.float y t from rx); cases q; exact PySem.W.kia_one PySem.W.kitx_float I.kIn True.intro e (fun z => nomatch z) h
  | @lst a xs ea =>
    cases (show u = Value.ref a from rx)
    obtain ⟨_, _, n, _, h1⟩ := (show ObjOk X.prog X.w H s.heap a (.lst xs) from I.hok a _ ea)
    exact PySem.W.kia_one PySem.W.kitx_list I.kIn ⟨_, h1, rfl⟩ e (fun z => nomatch z) h
  | @frz a ob xs ea =>
    cases (show u = Value.ref a from rx)
    obtain ⟨_, _, _, n, _, h1⟩ := (show ObjOk X.prog X.w H s.heap a (.frz ob (.lst xs)) from I.hok a _ ea)
    exact PySem.W.kia_one PySem.W.kitx_list I.kIn ⟨_, h1, rfl⟩ e (fun z => nomatch z) h
  | @tup a xs ea =>
    cases (show u = Value.ref a from rx)
    obtain ⟨_, _, _, p⟩ := (show ObjOk X.prog X.w H s.heap a (.tup xs) from I.hok a _ ea)
    obtain ⟨o, h1, h2, _⟩ := p
    exact PySem.W.kia_one PySem.W.kitx_tuple I.kIn ⟨o, h1, h2⟩ e (fun z => nomatch z) h
  | @dK a kvs ea =>
    cases (show u = Value.ref a from rx)
    obtain ⟨_, _, vs, _, p⟩ := (show ObjOk X.prog X.w H s.heap a (.dK kvs) from I.hok a _ ea)
    obtain ⟨o, es, ep, h1, h2, _⟩ := p
    exact PySem.W.kia_one PySem.W.kitx_dict I.kIn ⟨o, h1, h2.1⟩ e (fun z => nomatch z) h
  | @dT a kvs ea =>
    cases (show u = Value.ref a from rx)
    obtain ⟨_, _, xs, _, o, es, ep, h1, h2, _⟩ := (show ObjOk X.prog X.w H s.heap a (.dT kvs) from I.hok a _ ea)
    exact PySem.W.kia_one PySem.W.kitx_dict I.kIn ⟨o, h1, h2.1⟩ e (fun z => nomatch z) h
  | @ins a C dx fs ea cl ha hn htk hm =>
    cases (show u = Value.ref a from rx)
    obtain ⟨mA, O, _⟩ := ins_get I.hok ea
    obtain ⟨od, J, _⟩ := O.look
    exact PySem.W.kia_one (PySem.W.kitx_own (cl.get _) cl.hd ha hn htk hm) I.kIn J e (fun z => nomatch z) h
end
end L2

namespace L2
open PySem PySem.Spec PyProof.Rows

/-! ### room -/
structure Room (k : Nat) (A : Around) : Prop where
  hd : A.handled = none
  dp : A.depth + 3 * k + 5 < recursionLimit
  un : A.units + 16 * k + 200 < cLine
theorem Room.mono {j k : Nat} {A : Around} (r : Room k A) (h : j ≤ k) : Room j A := ⟨r.hd, by have := r.dp; omega, by have := r.un; omega⟩
theorem Room.deeper {k : Nat} {A : Around} (r : Room (k + 1) A) (env : Env) : Room k (A.deeper env) :=
  ⟨r.hd, by have := r.dp; show A.depth + 1 + 3 * k + 5 < _; omega, by have := r.un; show A.units + 3 + 16 * k + 200 < _; omega⟩
theorem Room.in1 {k : Nat} {A : Around} (r : Room (k + 1) A) : Room k A.in1 :=
  ⟨r.hd, by have := r.dp; show A.depth + 3 * k + 5 < _; omega, by have := r.un; show A.units + 1 + 16 * k + 200 < _; omega⟩
theorem make_depth {A : Around} {C : Addr} {us : List Value} {kw : List (Str × Value)} : (A.under (.builtin "type.__call__" ⟨.ref C :: us, kw⟩)).depth = A.depth + 1 := by
  first | rfl | simp [Around.under, Code.weight, Code.isCreation, Code.isGuard, Code.isCaller, Code.frames, Code.isFrame, guardIds]
theorem make_units {A : Around} {C : Addr} {us : List Value} {kw : List (Str × Value)} : (A.under (.builtin "type.__call__" ⟨.ref C :: us, kw⟩)).units = A.units + 1 := by
  first | rfl | simp [Around.under, Code.cUnits, Code.frames, Code.isFrame]
theorem Room.make {k : Nat} {A : Around} (r : Room (k + 1) A) (C : Addr) (us : List Value) (kw : List (Str × Value)) : Room k (A.under (.builtin "type.__call__" ⟨.ref C :: us, kw⟩)) :=
  ⟨r.hd, by have := r.dp; rw [make_depth]; omega, by have := r.un; rw [make_units]; omega⟩
theorem Room.depth {k : Nat} {A : Around} (r : Room k A) : A.depth < recursionLimit := by have := r.dp; omega
theorem Room.units {k : Nat} {A : Around} (r : Room k A) : A.units + 64 < cLine := by have := r.un; omega
/-! ### argument lists and displays -/
def tNil : TA := fun _ H Q => Q [] H
def tCons (ta : TE) (tr : TA) : TA := fun σ H Q => ta σ H fun x H1 => tr σ H1 fun xs H2 => Q (x :: xs) H2
section
variable {X : Cx} {e : Expr} {es : List Expr} {te : TE} {t : TA} {pos : Pos}
theorem pa_nil : PA X [] tNil := fun _ _ _ _ H Q I h => Calls.spliced_nil ⟨[], H, I, .nil, h⟩
theorem pa_cons (ha : PE X e te) (hr : PA X es t) (hs : starEach (e :: es) X.env = (false, eval e X.env) :: starEach es X.env := by rfl) : PA X (e :: es) (tCons te t) := by
  intro pos pins s σ H Q I h
  rw [hs]
  show wpAny _ _ (spliced ((false, eval e X.env) :: backTo pos (starEach es X.env))) _ _ s
  refine Calls.spliced_cons (thn (ha pins s σ H _ I h) fun u s1 ⟨x, H1, I1, r1, q1⟩ => ?_)
  exact thn (hr pos pins s1 σ H1 _ I1 q1) fun us s2 ⟨xs, H2, I2, r2, q2⟩ => ⟨x :: xs, H2, I2, .cons r1 r2, q2⟩

/-- a tuple, a list of written items -/
def tTup (t : TA) : TE := fun σ H Q => t σ H fun xs H1 => xs.length ≤ sizeLine ∧ ∀ p, H1 p = none → Q (.ref p) (upd H1 p (.tup xs))
def tLst (t : TA) : TE := fun σ H Q => t σ H fun xs H1 => xs.length ≤ sizeLine ∧ ∀ p, H1 p = none → Q (.ref p) (upd H1 p (.lst xs))
theorem pe_tup {x1} (h : PA X es t) : PE X (.Tuple es x1 pos) (tTup t) := by
  intro pins s σ H Q I hq
  refine wpAny_Tuple_spliced (thn (h pos pins s σ H _ I hq) fun us s1 ⟨xs, H1, I1, r, z, q⟩ => ⟨by rw [← r.length]; exact z, ?_⟩)
  have hf : H1 s1.heap.objs.size = none := I1.hok.fresh (Nat.le_refl _)
  refine ⟨.ref s1.heap.objs.size, upd H1 s1.heap.objs.size (.tup xs), I1.laid (t' := s1.toks) (fun b u e => Heap.get?_push_of_some _ e) (Nat.le_refl _) ?_, rfl, q _ hf⟩
  exact ⟨z, us, r, ⟨_, Heap.get?_push_size _ rfl, rfl, _, rfl⟩⟩
theorem pe_lst (h : PA X es t) : PE X (.List es pos) (tLst t) := by
  intro pins s σ H Q I hq
  refine wpAny_List_spliced (thn (h pos pins s σ H _ I hq) fun us s1 ⟨xs, H1, I1, r, z, q⟩ => ⟨by rw [← r.length]; exact z, ?_⟩)
  have hf : H1 s1.heap.objs.size = none := I1.hok.fresh (Nat.le_refl _)
  refine ⟨.ref s1.heap.objs.size, upd H1 s1.heap.objs.size (.lst xs), I1.laid (t' := s1.toks) (fun b u e => Heap.get?_push_of_some _ e) (Nat.le_refl _) ?_, rfl, q _ hf⟩
  exact ⟨z, us, 0, r, Heap.get?_push_size _ rfl⟩
end

/-! ### what a def promises -/
/-- a def's promise: the bound arguments in the parameters' order, the heap, the wanted end, the wanted exception -/
abbrev Sp := List V → Hp → VK → XK → Prop
/-- how an exception lies behind a call (file 08 gives it): the callers' frames, abstract heap and state ahead of the call, the wish, the exception, the state -/
abbrev CXT := List Env → Hp → Shared → XK → Value → Shared → Prop

/-- the state at a call -/
structure Env0 (P : Program) (w : World) (K : PySem.W.Frag) (mg : Str → Option Value) (base : Heap) (A : Around) (outer : List Env) (s : Shared) (H : Hp) : Prop where
  frames : A.frames = some outer
  mod : Mod K mg base
  bs : ∀ b o, base.get? b = some o → s.heap.get? b = some o ∧ H b = none
  bsz : base.objs.size ≤ s.heap.objs.size
  funs : s.heap.FunFrames base outer
  frf : ∀ b ∈ frs outer, H b = none
  hok : HOk P w H s.heap
  bare : AllBare s.gens
/-- a call's end -/
def CE (outer : List Env) (P : Program) (w : World) (H : Hp) (s : Shared) (Q : VK) (u : Value) (s' : Shared) : Prop :=
  ∃ v H', s'.os = s.os ∧ AllBare s'.gens ∧ Un (frs outer) [] H H' s.heap s'.heap ∧ HOk P w H' s'.heap ∧ RelV v u ∧ Q v H'
def CR (CX : CXT) (outer : List Env) (P : Program) (w : World) (H : Hp) (s : Shared) (Q : VK) (E : XK) (r : Result) (s' : Shared) : Prop :=
  match r with
  | .ok (.ret u) => CE outer P w H s Q u s'
  | .ok _ => False
  | .error e => CX outer H s E e s'
structure FnOk (P : Program) (w : World) (K : PySem.W.Frag) (mg : Str → Option Value) (base : Heap) (CX : CXT) (k : Nat) (f : Addr) (fd : FuncData) (ps : List Str) (sp : Sp) : Prop where
  len : ∀ vs H Q E, sp vs H Q E → vs.length = ps.length
  run : ∀ (A : Around) (outer : List Env) (s : Shared) (H : Hp) (args : Args) (us : List Value) (vs : List V) (Q : VK) (E : XK), Room k A → Env0 P w K mg base A outer s H → BindsTo s fd args (ps.zip us) → Vals vs us → sp vs H Q E →
    codeAny (model P w) A (.call (.ref f) args) (CR CX outer P w H s Q E) s
theorem FnOk.mono {P : Program} {w : World} {K : PySem.W.Frag} {mg : Str → Option Value} {base : Heap} {CX : CXT} {j k : Nat} {f : Addr} {fd : FuncData} {ps : List Str} {sp : Sp} (F : FnOk P w K mg base CX j f fd ps sp) (h : j ≤ k) :
    FnOk P w K mg base CX k f fd ps sp := ⟨F.len, fun A outer s H args us vs Q E hr => F.run A outer s H args us vs Q E (hr.mono h)⟩
/-- a weaker promise -/
theorem FnOk.imp {P : Program} {w : World} {K : PySem.W.Frag} {mg : Str → Option Value} {base : Heap} {CX : CXT} {k : Nat} {f : Addr} {fd : FuncData} {ps : List Str} {sp sp' : Sp} (F : FnOk P w K mg base CX k f fd ps sp)
    (h : ∀ vs H Q E, sp' vs H Q E → sp vs H Q E) : FnOk P w K mg base CX k f fd ps sp' :=
  ⟨fun vs H Q E q => F.len vs H Q E (h _ _ _ _ q), fun A outer s H args us vs Q E hr he hb hv hs => F.run A outer s H args us vs Q E hr he hb hv (h _ _ _ _ hs)⟩

theorem Env0.make {P : Program} {w : World} {K : PySem.W.Frag} {mg : Str → Option Value} {base : Heap} {A : Around} {outer : List Env} {s : Shared} {H : Hp} (e : Env0 P w K mg base A outer s H) (C : Addr) (us : List Value) (kw : List (Str × Value)) :
    Env0 P w K mg base (A.under (.builtin "type.__call__" ⟨.ref C :: us, kw⟩)) outer s H := ⟨by first | exact e.frames | (simpa [Around.under, Code.envs, Code.isFrame, pushEnvs] using e.frames), e.mod, e.bs, e.bsz, e.funs, e.frf, e.hok, e.bare⟩
theorem Env0.in1 {P : Program} {w : World} {K : PySem.W.Frag} {mg : Str → Option Value} {base : Heap} {A : Around} {outer : List Env} {s : Shared} {H : Hp} (e : Env0 P w K mg base A outer s H) :
    Env0 P w K mg base A.in1 outer s H := ⟨e.frames, e.mod, e.bs, e.bsz, e.funs, e.frf, e.hok, e.bare⟩

section
variable {X : Cx} {pins : List (Addr × Obj)} {σ : St} {H : Hp} {s s' : Shared}
/-- from a body: what a callee wants -/
theorem Inv.env0 (I : Inv X pins σ H s) : Env0 X.prog X.w X.K X.mg X.base X.A X.stack s H :=
  ⟨I.ok.frames, I.ok.mod, I.bs, Nat.le_trans I.ok.bsz I.sz, I.stack, I.stkFree, I.hok, I.bare⟩
/-- behind a call -/
theorem Inv.after {Q : VK} {u : Value} (I : Inv X pins σ H s) (h : CE X.stack X.prog X.w H s Q u s') : EP X pins σ Q u s' := by
  obtain ⟨v, H', os, bare, un, hok, r, q⟩ := h
  obtain ⟨hh, g, d, t, os'⟩ := s'
  obtain rfl : os' = s.os := os
  exact ⟨v, H', I.call (h' := hh) (g' := g) (d' := d) (t' := t) (ch := []) un hok bare (fun b z => absurd z (by simp)), r, q⟩
end

/-! ### calls -/
/-- f(..): the written arguments, then the defaults dvs; E: what is wanted of an exception -/
def tCall (sp : Sp) (dvs : List V) (E : St → XK) (t : TA) : TE := fun σ H Q => t σ H fun vs H1 => sp (vs ++ dvs) H1 Q (E σ)
/-- C(..): a new instance and its dict, then __init__ -/
def tMake (C : Addr) (sp : Sp) (dvs : List V) (E : St → XK) (t : TA) : TE := fun σ H Q => t σ H fun vs H1 => ∀ x dx, H1 x = none → H1 dx = none → dx ≠ x →
  sp (.ref x :: (vs ++ dvs)) (upd (upd H1 dx (.own x)) x (.ins C dx [])) (fun v H2 => v = .non ∧ Q (.ref x) H2) (E σ)

/-- how the parameters are bound: us the positional arguments, kw the keywords' values by name, ds the defaults that fill up -/
def Binds (K : PySem.W.Frag) (fd : FuncData) (ps : List Str) (ds : List Value) : Prop :=
  ∀ (s : Shared) (us : List Value), K.In s.heap → (us ++ ds).length = ps.length → BindsTo s fd ⟨us, []⟩ (ps.zip (us ++ ds))
/-- every parameter is given -/
theorem Binds.all {K : PySem.W.Frag} {fd : FuncData} {ps : List Str} (h : ∀ us : List Value, us.length = ps.length → bindArgs fd ⟨us, []⟩ = pure (ps.zip us)) : Binds K fd ps [] := fun s us _ hl => by
  rw [List.append_nil] at hl ⊢
  exact .of_eq (h us hl)

/-- an exception of a callee reaches what this body wants of exceptions -/
def Passes (CX : CXT) (X : Cx) (E : St → XK) : Prop := ∀ (pins : List (Addr × Obj)) (σ : St) (H : Hp) (s : Shared) (e : Value) (s' : Shared), Inv X pins σ H s → CX X.stack H s (E σ) e s' → X.xe e s'

section
variable {X : Cx} {CX : CXT} {k : Nat} {f C : Addr} {fd : FuncData} {ps : List Str} {sp : Sp} {dvs : List V} {ds : List Value} {E : St → XK} {x m : Str} {p pos apos : Pos} {e o : Expr} {es : List Expr} {ta : TE} {t : TA}

/-- the callee runs -/
theorem run_fn {pins : List (Addr × Obj)} {σ : St} {H : Hp} {s : Shared} {Q : VK} {us : List Value} {vs : List V} (F : FnOk X.prog X.w X.K X.mg X.base CX k f fd ps sp) (hr : Room k X.A) (hb : Binds X.K fd ps ds) (hd : Vals dvs ds) (hx : Passes CX X E)
    (I : Inv X pins σ H s) (r : Vals vs us) (h : sp (vs ++ dvs) H Q (E σ)) : wpAny (model X.prog X.w) X.A (call (.ref f) us) (EP X pins σ Q) X.xe s := by
  have r2 : Vals (vs ++ dvs) (us ++ ds) := r.append hd
  have hl : (us ++ ds).length = ps.length := by rw [← r2.length]; exact F.len _ _ _ _ h
  refine wpAny_call (codeAny_mono (F.run X.A X.stack s H ⟨us, []⟩ (us ++ ds) (vs ++ dvs) Q (E σ) hr I.env0 (hb s us I.kIn hl) r2 h) fun r s' hq => ?_)
  cases r with
  | error e => exact hx pins σ H s e s' I hq
  | ok fl =>
    cases fl with
    | ret u => exact I.after hq
    | next => exact False.elim hq
    | brk => exact False.elim hq
    | cont => exact False.elim hq

theorem pe_call (F : FnOk X.prog X.w X.K X.mg X.base CX k f fd ps sp) (hr : Room k X.A) (hg : Gl X x) (hm : X.mg x = some (.ref f)) (hk : PySem.W.keepIn X.K (.ref f) = true) (hb : Binds X.K fd ps ds) (hd : Vals dvs ds) (hx : Passes CX X E)
    (ha : PA X (e :: es) t) (hdb : (x == ("__debug__" : Str)) = false := by decide) (he : starEach (e :: es) X.env = (false, eval e X.env) :: starEach es X.env := by rfl) (hpl : (backTo pos (starEach es X.env)).any (·.1) = false := by rfl) :
    PE X (.Call (.Name x p) (e :: es) [] pos) (tCall sp dvs E t) := by
  intro pins s σ H Q I h
  refine wpAny_Call_Name_kw (ld_glob I hg hm ?_ hdb)
  refine PySem.W.callWith_K (h₀ := X.base) I.ok.mod.kin hk (thn (ha pos pins s σ H _ I h) fun us s1 ⟨vs, H1, I1, r, q⟩ => ⟨I1.kIn, ?_⟩) he hpl
  exact run_fn F hr hb hd hx I1 r q
/-- what a class must have to be made -/
structure Mk (K : PySem.W.Frag) (C f : Addr) : Prop where
  makes : PySem.W.makesIn K C = true
  init : PySem.W.findIn K (.ref C) "__init__" = some (some (.ref f))
  fn : PySem.W.isFn K (.ref f) = true
  kp : PySem.W.keepIn K (.ref C) = true

theorem run_make {pins : List (Addr × Obj)} {σ : St} {H : Hp} {s : Shared} {Q : VK} {us : List Value} {vs : List V} (M : Mk X.K C f) (F : FnOk X.prog X.w X.K X.mg X.base CX k f fd ps sp) (hr : Room (k + 1) X.A) (hb : Binds X.K fd ps ds) (hd : Vals dvs ds)
    (hx : Passes CX X E) (I : Inv X pins σ H s) (r : Vals vs us)
    (h : ∀ x dx, H x = none → H dx = none → dx ≠ x → sp (.ref x :: (vs ++ dvs)) (upd (upd H dx (.own x)) x (.ins C dx [])) (fun v H2 => v = .non ∧ Q (.ref x) H2) (E σ)) :
    wpAny (model X.prog X.w) X.A (call (.ref C) us) (EP X pins σ Q) X.xe s := by
  have hq := h (s.heap.objs.size + 1) s.heap.objs.size (I.hok.fresh (Nat.le_succ _)) (I.hok.fresh (Nat.le_refl _)) (Nat.ne_of_lt (Nat.lt_succ_self _))
  have I2 := Inv.made (C := C) I
  have r2 : Vals (V.ref (s.heap.objs.size + 1) :: (vs ++ dvs)) (Value.ref (s.heap.objs.size + 1) :: (us ++ ds)) := .cons rfl (r.append hd)
  have hl : (Value.ref (s.heap.objs.size + 1) :: us ++ ds).length = ps.length := by
    have e := r2.length
    rw [F.len _ _ _ _ hq] at e
    exact e.symm
  refine wpAny_call (make_map (f := f) I.kIn M.makes M.init (beq_iff_eq.mp M.fn) (codeAny_mono (F.run _ X.stack _ _ ⟨Value.ref (s.heap.objs.size + 1) :: us, []⟩ (Value.ref (s.heap.objs.size + 1) :: (us ++ ds)) _ _ (E σ) (hr.make C us [])
    (I2.env0.make C us []) (hb _ (Value.ref (s.heap.objs.size + 1) :: us) I2.kIn hl) r2 hq) fun r s' hq' => ?_))
  cases r with
  | error e => exact hx pins σ _ _ e s' I2 hq'
  | ok fl =>
    cases fl with
    | ret u =>
      obtain ⟨v, H', I3, rv, ev, q3⟩ := I2.after hq'
      subst ev
      exact ⟨rv, ⟨V.ref (s.heap.objs.size + 1), H', I3, rfl, q3⟩⟩
    | next => exact False.elim hq'
    | brk => exact False.elim hq'
    | cont => exact False.elim hq'
theorem pe_make (M : Mk X.K C f) (F : FnOk X.prog X.w X.K X.mg X.base CX k f fd ps sp) (hr : Room (k + 1) X.A) (hg : Gl X x) (hm : X.mg x = some (.ref C)) (hb : Binds X.K fd ps ds) (hd : Vals dvs ds) (hx : Passes CX X E)
    (ha : PA X (e :: es) t) (hdb : (x == ("__debug__" : Str)) = false := by decide) (he : starEach (e :: es) X.env = (false, eval e X.env) :: starEach es X.env := by rfl) (hpl : (backTo pos (starEach es X.env)).any (·.1) = false := by rfl) :
    PE X (.Call (.Name x p) (e :: es) [] pos) (tMake C sp dvs E t) := by
  intro pins s σ H Q I h
  refine wpAny_Call_Name_kw (ld_glob I hg hm ?_ hdb)
  refine PySem.W.callWith_K (h₀ := X.base) I.ok.mod.kin M.kp (thn (ha pos pins s σ H _ I h) fun us s1 ⟨vs, H1, I1, r, q⟩ => ⟨I1.kIn, ?_⟩) he hpl
  exact run_make M F hr hb hd hx I1 r q
end

/-! ### keywords -/
/-- the values of the keywords, from the left -/
def PK (X : Cx) (kws : List Keyword) (t : TA) : Prop :=
  ∀ (pos : Pos) (pins : List (Addr × Obj)) (s : Shared) (σ : St) (H : Hp) (Q : List V → Hp → Prop), Inv X pins σ H s → t σ H Q → wpAny (model X.prog X.w) X.A (evalAll ((backToKw pos (keywordEach kws X.env)).map (·.2))) (AP X pins σ Q) X.xe s
section
variable {X : Cx} {CX : CXT} {k : Nat} {f C : Addr} {fd : FuncData} {ps ks : List Str} {sp : Sp} {E : St → XK} {x m : Str} {p pos apos kpos : Pos} {e o : Expr} {es : List Expr} {kws : List Keyword} {te ta : TE} {t tk : TA} {nm : Option Str}
theorem pk_nil : PK X [] tNil := fun _ _ _ _ H Q I h => wpAny_evalAll_nil ⟨[], H, I, .nil, h⟩
theorem pk_cons (ha : PE X e te) (hr : PK X kws t) : PK X (⟨nm, e, kpos⟩ :: kws) (tCons te t) := by
  intro pos pins s σ H Q I h
  show wpAny _ _ (evalAll ((do let v ← eval e X.env; standAt pos; pure v) :: (backToKw pos (keywordEach kws X.env)).map (·.2))) _ _ s
  refine wpAny_evalAll_cons (wpAny_bind (thn (ha pins s σ H _ I h) fun u s1 ⟨x, H1, I1, r1, q1⟩ => wpAny_bind (wpAny_standAt (wpAny_pure ?_))))
  exact thn (hr pos pins s1 σ H1 _ I1 q1) fun us s2 ⟨xs, H2, I2, r2, q2⟩ => ⟨x :: xs, H2, I2, .cons r1 r2, q2⟩

/-- how a call with keywords binds: g puts the positional values us and the keywords' values ws (names ks) in the parameters' order, defaults among them -/
structure KBinds (K : PySem.W.Frag) (fd : FuncData) (ps ks : List Str) (g : List Value → List Value → List Value) (gV : List V → List V → List V) : Prop where
  to : ∀ (s : Shared) (us ws : List Value), K.In s.heap → (g us ws).length = ps.length → BindsTo s fd ⟨us, ks.zip ws⟩ (ps.zip (g us ws))
  rel : ∀ {vs : List V} {us : List Value} {zs : List V} {ws : List Value}, Vals vs us → Vals zs ws → Vals (gV vs zs) (g us ws)
def tCallK (sp : Sp) (gV : List V → List V → List V) (E : St → XK) (t tk : TA) : TE := fun σ H Q => t σ H fun vs H1 => tk σ H1 fun zs H2 => sp (gV vs zs) H2 Q (E σ)
variable {g : List Value → List Value → List Value} {gV : List V → List V → List V}
theorem run_fnk {pins : List (Addr × Obj)} {σ : St} {H : Hp} {s : Shared} {Q : VK} {us ws : List Value} {vs zs : List V} (F : FnOk X.prog X.w X.K X.mg X.base CX k f fd ps sp) (hr : Room k X.A) (hb : KBinds X.K fd ps ks g gV) (hx : Passes CX X E)
    (I : Inv X pins σ H s) (r : Vals vs us) (rz : Vals zs ws) (h : sp (gV vs zs) H Q (E σ)) : wpAny (model X.prog X.w) X.A (call (.ref f) us (ks.zip ws)) (EP X pins σ Q) X.xe s := by
  have r2 := hb.rel r rz
  have hl : (g us ws).length = ps.length := by rw [← r2.length]; exact F.len _ _ _ _ h
  refine wpAny_call (codeAny_mono (F.run X.A X.stack s H ⟨us, ks.zip ws⟩ (g us ws) (gV vs zs) Q (E σ) hr I.env0 (hb.to s us ws I.kIn hl) r2 h) fun r s' hq => ?_)
  cases r with
  | error e => exact hx pins σ H s e s' I hq
  | ok fl =>
    cases fl with
    | ret u => exact I.after hq
    | next => exact False.elim hq
    | brk => exact False.elim hq
    | cont => exact False.elim hq
end

/-! ### a def's body keeps its promise -/
/-- names: the parameters first -/
structure FnScope (N P : List Str) (sc : Scope) : Prop where
  kind : sc.kind = .function
  co : sc.isCoroutine = false
  gen : sc.isGenerator = false
  nd : N.Nodup
  pre : N.take P.length = P
  par : ∀ x ∈ P, sc.names.lookup x = some .local ∨ sc.names.lookup x = some .cell
  nofree : ∀ y ∈ sc.names, y.2 ≠ .free

theorem bindL_out {kindOf : Str → Option NameKind} {x : Str} : ∀ {binds : List (Str × Value)} {m : Str → Option Value}, (∀ v, (x, v) ∉ binds) → bindL kindOf binds m x = m x
  | [], _, _ => rfl
  | (n, v) :: r, m, h => by
    unfold bindL
    rw [bindL_out fun w hw => h w (List.mem_cons_of_mem _ hw)]
    split
    · have : x ≠ n := by rintro rfl; exact h v List.mem_cons_self
      simp [this]
    · rfl
theorem bindC_out {kindOf : Str → Option NameKind} {x : Str} : ∀ {binds : List (Str × Value)} {m : Str → Option Value}, (∀ v, (x, v) ∉ binds) → bindC kindOf binds m x = m x
  | [], _, _ => rfl
  | (n, v) :: r, m, h => by
    unfold bindC
    rw [bindC_out fun w hw => h w (List.mem_cons_of_mem _ hw)]
    split
    · rfl
    · have : x ≠ n := by rintro rfl; exact h v List.mem_cons_self
      simp [this]
theorem bindL_get {kindOf : Str → Option NameKind} {x : Str} {v : Value} : ∀ {P : List Str} {vs : List Value} {i : Nat} {m : Str → Option Value}, P.Nodup → P[i]? = some x → vs[i]? = some v → kindOf x = some .local →
    bindL kindOf (P.zip vs) m x = some v
  | [], _, _, _, _, h, _, _ => by simp at h
  | _ :: _, [], _, _, _, _, h, _ => by simp at h
  | p :: P, w :: vs, 0, m, nd, h1, h2, hk => by
    simp at h1 h2; subst h1; subst h2
    show bindL kindOf ((p, w) :: P.zip vs) m p = _
    unfold bindL
    rw [bindL_out fun v hv => (List.nodup_cons.mp nd).1 (List.of_mem_zip hv).1, if_pos hk]
    simp
  | p :: P, w :: vs, i + 1, m, nd, h1, h2, hk => by
    show bindL kindOf ((p, w) :: P.zip vs) m x = _
    unfold bindL
    exact bindL_get (i := i) (List.nodup_cons.mp nd).2 (by simpa using h1) (by simpa using h2) hk
theorem bindC_get {kindOf : Str → Option NameKind} {x : Str} {v : Value} : ∀ {P : List Str} {vs : List Value} {i : Nat} {m : Str → Option Value}, P.Nodup → P[i]? = some x → vs[i]? = some v → kindOf x ≠ some .local →
    bindC kindOf (P.zip vs) m x = some v
  | [], _, _, _, _, h, _, _ => by simp at h
  | _ :: _, [], _, _, _, _, h, _ => by simp at h
  | p :: P, w :: vs, 0, m, nd, h1, h2, hk => by
    simp at h1 h2; subst h1; subst h2
    show bindC kindOf ((p, w) :: P.zip vs) m p = _
    unfold bindC
    rw [bindC_out fun v hv => (List.nodup_cons.mp nd).1 (List.of_mem_zip hv).1, if_neg hk]
    simp
  | p :: P, w :: vs, i + 1, m, nd, h1, h2, hk => by
    show bindC kindOf ((p, w) :: P.zip vs) m x = _
    unfold bindC
    exact bindC_get (i := i) (List.nodup_cons.mp nd).2 (by simpa using h1) (by simpa using h2) hk

/-- the names' values at the entry -/
def start (N : List Str) (vs : List V) : St := vs.map some ++ List.replicate (N.length - vs.length) none

/-- the context of a def's body, at its entry; an exception leaves the frame, then lies as CX says -/
def cxOf (CX : CXT) (P : Program) (w : World) (K : PySem.W.Frag) (mg : Str → Option Value) (base : Heap) (N : List Str) (qual : Str) (scope : Scope) (f : Addr) (cd : Value) (A : Around) (outer : List Env) (s : Shared) (H : Hp) (E : XK) : Cx where
  prog := P
  w := w
  K := K
  mg := mg
  base := base
  A := A.deeper (envOfC qual scope s.heap.objs.size f cd)
  N := N
  s_0 := s
  H_0 := H
  env := envOfC qual scope s.heap.objs.size f cd
  outer := outer
  stack := envOfC qual scope s.heap.objs.size f cd :: outer
  ex := []
  calm := true
  fn := fun _ => true
  pn := []
  xe := fun e s' => wpAny (model P w) (A.deeper (envOfC qual scope s.heap.objs.size f cd)) (leaving (envOfC qual scope s.heap.objs.size f cd) e) (fun _ s'' => CX outer H s E e s'') (fun e' s'' => CX outer H s E e' s'') s'

theorem cell_has {sc : Scope} {n : Nat} {x : Str} (h : sc.names.lookup x = some .cell) : ∃ c, (cellsFrom n sc.names []).lookup x = some c := by
  have q := PySem.W.cellsFrom_some sc.names n [] (.inl h)
  exact Option.isSome_iff_exists.mp q

theorem inv_start {CX : CXT} {P : Program} {w : World} {K : PySem.W.Frag} {mg : Str → Option Value} {base : Heap} {N ps : List Str} {qual : Str} {scope : Scope} {f : Addr} {cd : Value} {A : Around} {outer : List Env} {s s1 : Shared} {H : Hp} {E : XK} {us : List Value} {vs : List V}
    (S : FnScope N ps scope) (hd : A.handled = none) (e0 : Env0 P w K mg base A outer s H) (hl : vs.length = ps.length) (r : Vals vs us)
    (x : InCallC s s.heap.objs.size (bindL (envOfC qual scope s.heap.objs.size f cd).kindOf (ps.zip us) fun _ => none) (cellsFrom (s.heap.objs.size + 1) scope.names []) (bindC (envOfC qual scope s.heap.objs.size f cd).kindOf (ps.zip us) fun _ => none) s1) :
    Inv (cxOf CX P w K mg base N qual scope f cd A outer s H E) [] (start N vs) H s1 := by
  have hpl : ps.length ≤ N.length := by have := congrArg List.length S.pre; rw [List.length_take] at this; omega
  obtain ⟨h1, tk, rfl, hk⟩ := x.done
  have noA : ∀ b : Addr, b ∉ (cxOf CX P w K mg base N qual scope f cd A outer s H E).ex := fun b z => absurd (show b ∈ ([] : List Addr) from z) (by simp)
  refine ⟨⟨e0.mod, S.kind, rfl, rfl, Nat.le_refl _, fun y z c h1 h2 => ?_, fun y hy => ?_, fun y c _ h => ?_, fun _ => hd, Around.frames_deeper e0.frames, .inr ⟨rfl, rfl⟩, fun b z => absurd z (noA b), e0.bs, e0.bsz, fun b _ _ => noA b, fun b z => absurd z (noA b), e0.funs, e0.frf⟩,
    rfl, e0.bare, Un.kept hk, ⟨_, x.toInCall.ns, fun i y v h1 h2 h3 => ?_⟩, fun y c h => ⟨_, x.cell y c h⟩, e0.hok.fresh (Nat.le_refl _), fun y c h => ?_, fun p hp => absurd (show p ∈ ([] : List (Addr × Obj)) from hp) (by simp), e0.hok.kept hk, ?_⟩
  · exact name_of_addr x.apart (PySem.mem_of_lookup h1) (PySem.mem_of_lookup h2)
  · have hy : scope.names.lookup y = some .cell ∨ scope.names.lookup y = some .free := hy
    rcases hy with hy | hy
    · exact cell_has hy
    · exact absurd rfl (S.nofree _ (PySem.mem_of_lookup hy))
  · exact Nat.le_of_lt (x.above y c (PySem.mem_of_lookup h))
  · have hi : i < vs.length := by
      unfold start at h2
      by_cases hi : i < vs.length
      · exact hi
      · rw [List.getElem?_append_right (by simpa using hi)] at h2
        rw [List.getElem?_replicate] at h2
        split at h2 <;> cases h2
    have ha : vs[i]? = some v := by
      unfold start at h2
      rw [List.getElem?_append_left (by simpa using hi), List.getElem?_map] at h2
      cases e : vs[i]? with
      | none => rw [e] at h2; cases h2
      | some a => rw [e] at h2; cases h2; rfl
    obtain ⟨u, hu, rv⟩ := r.get ha
    have hp : ps[i]? = some y := by
      rw [← S.pre, List.getElem?_take_of_lt (by omega)]; exact h1
    have ndP : ps.Nodup := by rw [← S.pre]; exact S.nd.sublist (List.take_sublist _ _)
    refine ⟨u, rv, ?_⟩
    rcases S.par y (List.mem_of_getElem? hp) with k | k
    · exact .inl ⟨k, bindL_get ndP hp hu k⟩
    · obtain ⟨c, e⟩ := cell_has (n := s.heap.objs.size + 1) k
      refine .inr ⟨.inl k, c, e, ?_⟩
      have q := x.cell y c e
      rw [bindC_get ndP hp hu (by show scope.names.lookup y ≠ _; rw [k]; decide)] at q
      exact q
  · exact e0.hok.fresh (Nat.le_of_lt (x.above y c (PySem.mem_of_lookup h)))
  · unfold start
    show _ = N.length
    rw [List.length_append, List.length_map, List.length_replicate]
    omega

/-- THE RULE: a def (or a method) of the text, by its body. The body's reading t is chosen for each entry; it is run at the parameters' values -/
theorem fn_of {CX : CXT} {P : Program} {w : World} {K : PySem.W.Frag} {mg : Str → Option Value} {base : Heap} {k : Nat} {f : Addr} {name qual : Str} {params : Arguments} {body : List Stmt} {scope : Scope} {dV kV doc pm cdv ct oc : Value} {an od : Option Addr}
    {osl : Array (Option Value)} {N ps : List Str} {sp : Sp} (lk : K.lookup f = some ⟨oc, od, .func (PySem.W.fnOf name qual params body scope dV kV doc pm an cdv ct), osl⟩) (hcd : PySem.W.codeIn K cdv qual = true) (S : FnScope N ps scope)
    (len : ∀ vs H Q E, sp vs H Q E → vs.length = ps.length)
    (hbody : ∀ (A : Around) (outer : List Env) (s : Shared) (H : Hp) (vs : List V) (Q : VK) (E : XK), Room k (A.deeper (envOfC qual scope s.heap.objs.size f cdv)) → sp vs H Q E →
      ∃ t, PSs (cxOf CX P w K mg base N qual scope f cdv A outer s H E) body t ∧ t { nx := fun _ H' => Q .non H', rt := Q } (start N vs) H) :
    FnOk P w K mg base CX (k + 1) f (PySem.W.fnOf name qual params body scope dV kV doc pm an cdv ct) ps sp := by
  refine ⟨len, fun A outer s H args us vs Q E hr e0 hb r hsp => ?_⟩
  have hl := len _ _ _ _ hsp
  have KX : K.In s.heap := e0.mod.kin.keeps fun b o e => (e0.bs b o e).1
  have lim : s.heap.NoLimit := e0.mod.nolimit.keeps fun b o e => (e0.bs b o e).1
  have hkind : ∀ y ∈ ps.zip us, scope.names.lookup y.1 = some .local ∨ (scope.names.lookup y.1 = some .cell ∧ ((cellsFrom (s.heap.objs.size + 1) scope.names []).lookup y.1).isSome = true) := fun ⟨n, v⟩ hy => by
    rcases S.par n (List.of_mem_zip hy).1 with q | q
    · exact .inl q
    · exact .inr ⟨q, PySem.W.cellsFrom_some _ _ _ (.inl q)⟩
  refine codeAny_call_function hr.depth (KX _ _ lk) rfl S.co S.gen rfl (PySem.W.codeRec_of KX hcd) (hb _ _ _ _ ?_)
  refine wpAny_newFunctionEnv_cells S.kind hkind fun env he s1 x => ?_
  subst he
  refine ⟨lim.keeps x.toInCall.keep, codeAny_func ?_⟩
  obtain ⟨t, ht, hq⟩ := hbody A outer s H vs Q E (hr.deeper _) hsp
  have I : Inv (cxOf CX P w K mg base N qual scope f cdv A outer s H E) [] (start N vs) H s1 := inv_start S hr.hd e0 hl r x
  refine wpAny_mono (ht [] s1 (start N vs) H _ I hq) (fun fl s' hs => ?_) fun e s' hs => hs
  have fin : ∀ {σ' : St} {H' : Hp} {v : V} {u : Value}, Inv (cxOf CX P w K mg base N qual scope f cdv A outer s H E) [] σ' H' s' → RelV v u → Q v H' → CE outer P w H s Q u s' :=
    fun {σ' H' v u} J rv q => ⟨v, H', J.os, J.bare, J.base, J.hok, rv, q⟩
  cases fl with
  | ret u =>
    obtain ⟨v, σ', H', J, rv, q⟩ := hs
    exact fin J rv q
  | next =>
    obtain ⟨σ', H', J, q⟩ := hs
    exact fin (v := V.non) (u := Value.none) J rfl q
  | brk =>
    obtain ⟨_, _, _, q⟩ := hs
    exact False.elim q
  | cont =>
    obtain ⟨_, _, _, q⟩ := hs
    exact False.elim q
end L2

namespace L2
open PySem PySem.Spec PyProof.Rows
section
variable {X : Cx} {x : Str} {p pos : Pos} {e : Expr} {es : List Expr} {t : TA} {id T : String} {r : List V → Hp → VK → Prop}

def tCB (r : List V → Hp → VK → Prop) (t : TA) : TE := fun σ H Q => t σ H fun vs H1 => r vs H1 Q
/-- f(e, ..), f a built-in function -/
theorem pe_callB (hc : CallR X (.builtin id) r) (hg : Gl X x) (hm : X.mg x = none) (hv : bootBuiltins x = some (.builtin id)) (ha : PA X (e :: es) t) (hn : x ≠ "__name__" := by decide) (hdb : (x == ("__debug__" : Str)) = false := by decide)
    (he : starEach (e :: es) X.env = (false, eval e X.env) :: starEach es X.env := by rfl) (hpl : (backTo pos (starEach es X.env)).any (·.1) = false := by rfl) : PE X (.Call (.Name x p) (e :: es) [] pos) (tCB r t) := by
  intro pins s σ H Q I h
  refine wpAny_Call_Name_kw (ld_blt I hg hm hv ?_ hn hdb)
  exact PyProof.Rows.callWith_builtin1 (thn (ha pos pins s σ H _ I h) fun us s1 ⟨vs, H1, I1, r1, q1⟩ => hc pins s1 σ H1 vs us Q I1 r1 q1) he hpl
/-- T(e, ..), T a built-in type -/
theorem pe_callTy (hc : CallR X (.type T) r) (hg : Gl X x) (hm : X.mg x = none) (hv : bootBuiltins x = some (.type T)) (ha : PA X (e :: es) t) (hn : x ≠ "__name__" := by decide) (hdb : (x == ("__debug__" : Str)) = false := by decide)
    (he : starEach (e :: es) X.env = (false, eval e X.env) :: starEach es X.env := by rfl) (hpl : (backTo pos (starEach es X.env)).any (·.1) = false := by rfl) : PE X (.Call (.Name x p) (e :: es) [] pos) (tCB r t) := by
  intro pins s σ H Q I h
  refine wpAny_Call_Name_kw (ld_blt I hg hm hv ?_ hn hdb)
  exact PyProof.Rows.callWith_type1 (thn (ha pos pins s σ H _ I h) fun us s1 ⟨vs, H1, I1, r1, q1⟩ => hc pins s1 σ H1 vs us Q I1 r1 q1) he hpl
end
end L2

namespace HT
open PySem PyProof.Rows

section
open PySem.SeqAt
open PySem.AutoSeq1 (wpAny_loadPart')
open PySem.MeetsSeq PySem.MeetsSeq2 PySem.MeetsSeq3

end

section
variable {prog : Program} {w : World} {A : Around} {E : Value → Shared → Prop} {s : Shared}

/-- t + u, t not empty -/
theorem cat_tup {t b : Addr} {vs ws : List Value} {Q : Value → Shared → Prop} (ht : IsTup s.heap t vs.toArray) (hb : IsTup s.heap b ws.toArray) (hv : vs ≠ [])
    (h1 : ws = [] → Q (.ref t) s) (h2 : ws ≠ [] → Q (.ref s.heap.objs.size) { s with heap := s.heap.push { cls := .type "tuple", data := .seq (vs ++ ws).toArray } })
    (hsz : vs.length + ws.length ≤ sizeLine) : wpAny (model prog w) A (binaryOp .Add (.ref t) (.ref b)) Q E s := by
  obtain ⟨⟨cls, dd, data, sl⟩, ho, hc, n, hd⟩ := id ht
  obtain ⟨⟨cls2, dd2, data2, sl2⟩, ho2, hc2, n2, hd2⟩ := id hb
  simp only at hc hd hc2 hd2
  subst hc hd hc2 hd2
  have e : vs.toArray ++ ws.toArray = (vs ++ ws).toArray := by simp
  by_cases hw : ws = []
  · exact concat_meets ⟨_, ho, rfl⟩ ⟨_, ho2, rfl⟩ noFill_tuple_add seq_tuple_add PySem.F.slot_tuple_add PySem.F.entry_tuple_add (PySem.F.args_tuple_add_2 _ _)
      (tuple_addW1 t b vs.toArray ws.toArray n n2 dd dd2 sl sl2 (by simpa using hv) (by simp [hw])) ⟨ho, ho2, h1 hw⟩
  · refine concat_meets ⟨_, ho, rfl⟩ ⟨_, ho2, rfl⟩ noFill_tuple_add seq_tuple_add PySem.F.slot_tuple_add PySem.F.entry_tuple_add (PySem.F.args_tuple_add_2 _ _)
      (tuple_addW2 t b vs.toArray ws.toArray n n2 dd dd2 sl sl2 (by simpa using hv) (by simpa using hw) (by rw [List.size_toArray, List.size_toArray]; exact hsz)) ⟨ho, ho2, ?_⟩
    rw [e]
    exact h2 hw

/-! ### t[a:b], not the whole -/
/-- a slice's bound as a place among n (d where it is left out) -/
def sIx (n d : Nat) : Option Int → Nat
  | none => d
  | some v => if v < 0 then (v + (n : Int)).toNat else min v.toNat n
end
end HT

namespace L2
open PySem PySem.Spec PyProof.Rows

/-! ### the parts of a slice -/
abbrev TO := St → Hp → (Option Int → Hp → Prop) → Prop
/-- a slice's part (left out, or an int) -/
def PO (X : Cx) (e : Option Expr) (t : TO) : Prop :=
  ∀ (pins : List (Addr × Obj)) (s : Shared) (σ : St) (H : Hp) (Q : Option Int → Hp → Prop), Inv X pins σ H s → t σ H Q →
    wpAny (model X.prog X.w) X.A (evalPart e X.env) (fun u s' => ∃ o H', Inv X pins σ H' s' ∧ IsPart u o ∧ Q o H') X.xe s
section
variable {X : Cx} {e : Expr} {te : TE} {lo hi : Option Expr} {tl th : TO} {pos p2 : Pos}

/-- what a slice of a value is, by values: the slice object stands at sl -/
def SlR (X : Cx) (r : V → Option Int → Option Int → Hp → VK → Prop) : Prop :=
  ∀ (pins : List (Addr × Obj)) (s : Shared) (σ : St) (H : Hp) (x : V) (v vl vu : Value) (lo hi : Option Int) (sl : Addr) (Q : VK), Inv X pins σ H s → RelV x v → s.heap.IsSliceOf sl vl vu .none → IsPart vl lo → IsPart vu hi → r x lo hi H Q →
    ∃ T id, typeLookup (.type T) "__getitem__" = pure (some (.builtin id)) ∧ s.TypeIs v T ∧ wpAny (model X.prog X.w) X.A (getItem v (.ref sl)) (EP X pins σ Q) X.xe s
theorem SlR.or {r r' : V → Option Int → Option Int → Hp → VK → Prop} (h : SlR X r) (h' : SlR X r') : SlR X (fun x lo hi H Q => r x lo hi H Q ∨ r' x lo hi H Q) := by
  intro pins s σ H x v vl vu lo hi sl Q I rx hs pl pu q
  rcases q with q | q
  · exact h pins s σ H x v vl vu lo hi sl Q I rx hs pl pu q
  · exact h' pins s σ H x v vl vu lo hi sl Q I rx hs pl pu q
/-! ### t < u, t + u -/
/-- t + u, t not empty: u empty gives t itself -/
def rCatT (K : PySem.W.Frag) : R2 := fun x y H Q => ∃ a b xs ys, x = .ref a ∧ y = .ref b ∧ SqT K H a xs ∧ SqT K H b ys ∧ xs ≠ [] ∧ xs.length + ys.length ≤ sizeLine ∧
  (ys = [] → Q (.ref a) H) ∧ (ys ≠ [] → ∀ p, H p = none → Q (.ref p) (upd H p (.tup (xs ++ ys))))
theorem Vals.nil_iff {xs : List V} {us : List Value} (r : Vals xs us) : us = [] ↔ xs = [] := by
  cases r with
  | nil => simp
  | cons _ _ => simp
theorem op_catT : OpR X (binaryOp .Add) (rCatT X.K) := by
  intro pins s σ H x y v u Q I rx ry h
  obtain ⟨a, b, xs, ys, rfl, rfl, ha, hb, hx, hz, q1, q2⟩ := h
  cases rx
  cases ry
  obtain ⟨its, r1, p1, _⟩ := I.tuple ha
  obtain ⟨its2, r2, p2, _⟩ := I.tuple hb
  refine HT.cat_tup p1 p2 (fun z => hx (r1.nil_iff.mp z)) (fun z => ⟨.ref a, H, I, rfl, q1 (r2.nil_iff.mp z)⟩) (fun z => ?_) (by rw [← r1.length, ← r2.length]; exact hz)
  refine ⟨.ref s.heap.objs.size, _, I.laid (t' := s.toks) (o := .tup (xs ++ ys)) (fun b ob q => Heap.get?_push_of_some _ q) (Nat.le_refl _) ?_, rfl, q2 (fun w => z (r2.nil_iff.mpr w)) _ (I.hok.fresh (Nat.le_refl _))⟩
  exact ⟨by rw [List.length_append]; exact hz, _, r1.append r2, IsTup.new _ _⟩
end
end L2

namespace L2
open PySem PySem.Spec PyProof.Rows

/-! ### places -/
/-- the place that an index of any sign means -/
def ixN (n : Nat) (i : Int) : Option Nat := if 0 ≤ i then (if i < n then some i.toNat else none) else if -(n : Int) ≤ i then some (i + n).toNat else none
def atI {α : Type} (xs : List α) (i : Int) : Option α := (ixN xs.length i).bind fun j => xs[j]?
theorem ixN_seq {n : Nat} {i : Int} {j : Nat} (h : ixN n i = some j) : seqIndex? i n = some j ∧ j < n ∧ -(n : Int) ≤ i ∧ i < n := by
  unfold ixN at h
  by_cases h0 : 0 ≤ i
  · rw [if_pos h0] at h
    by_cases h1 : i < n
    · rw [if_pos h1] at h
      have e : i.toNat = j := Option.some.inj h
      exact ⟨by rw [seqIndex_of h0 h1, e], by omega, by omega, h1⟩
    · rw [if_neg h1] at h; cases h
  · rw [if_neg h0] at h
    by_cases h1 : -(n : Int) ≤ i
    · rw [if_pos h1] at h
      have e : (i + n).toNat = j := Option.some.inj h
      exact ⟨by rw [seqIndex_neg (by omega) h1, e], by omega, h1, by omega⟩
    · rw [if_neg h1] at h; cases h
theorem atI_get {α : Type} {xs : List α} {i : Int} {v : α} (h : atI xs i = some v) : ∃ j, seqIndex? i xs.length = some j ∧ xs[j]? = some v ∧ j < xs.length ∧ -(xs.length : Int) ≤ i ∧ i < xs.length := by
  unfold atI at h
  cases e : ixN xs.length i with
  | none => rw [e] at h; cases h
  | some j =>
    rw [e] at h
    obtain ⟨h1, h2, h3, h4⟩ := ixN_seq e
    exact ⟨j, h1, h, h2, h3, h4⟩
/-! ### what may be subscripted -/
/-- what stands as an index of a plain subscript -/
def PlainIx (b : Expr) : Prop := ∀ o i, subscripted b false o i = operate [o, i] (getItem o i)
/-- a subscript by values -/
def IxR (X : Cx) (r : R2) : Prop :=
  ∀ (value slice : Expr) (pins : List (Addr × Obj)) (s : Shared) (σ : St) (H : Hp) (x y : V) (v u : Value) (Q : VK), Inv X pins σ H s → RelV x v → RelV y u → r x y H Q →
    subscripted slice false v u = operate [v, u] (getItem v u) → wpAny (model X.prog X.w) X.A (subscriptTail value slice v u) (EP X pins σ Q) X.xe s
/-- a call of a builtin's method by values: the receiver, the arguments -/
def MtR (X : Cx) (id : String) (r : V → List V → Hp → VK → Prop) : Prop :=
  ∀ (pins : List (Addr × Obj)) (s : Shared) (σ : St) (H : Hp) (x : V) (xs : List V) (v : Value) (us : List Value) (Q : VK), Inv X pins σ H s → RelV x v → Vals xs us → r x xs H Q →
    wpAny (model X.prog X.w) X.A (call (.builtin id) (v :: us)) (EP X pins σ Q) X.xe s
section
variable {X : Cx} {a b : Expr} {ta tb : TE} {pos : Pos}
theorem IxR.or {r r' : R2} (h : IxR X r) (h' : IxR X r') : IxR X (fun x y H Q => r x y H Q ∨ r' x y H Q) := by
  intro value slice pins s σ H x y v u Q I rx ry q hs
  rcases q with q | q
  · exact h value slice pins s σ H x y v u Q I rx ry q hs
  · exact h' value slice pins s σ H x y v u Q I rx ry q hs
theorem MtR.or {id : String} {r r' : V → List V → Hp → VK → Prop} (h : MtR X id r) (h' : MtR X id r') : MtR X id (fun x xs H Q => r x xs H Q ∨ r' x xs H Q) := by
  intro pins s σ H x xs v us Q I rx rs q
  rcases q with q | q
  · exact h pins s σ H x xs v us Q I rx rs q
  · exact h' pins s σ H x xs v us Q I rx rs q
/-- a[b] -/
theorem pe_ix {r : R2} (hr : IxR X r) (ha : PE X a ta) (hb : PE X b tb) (hs : PlainIx b) : PE X (.Subscript a b pos) (tOp r ta tb) := by
  intro pins s σ H Q I h
  exact Subscript_ (binT ha hb I h fun v u s2 x y H2 I2 rx ry q => hr a b pins s2 σ H2 x y v u Q I2 rx ry q (hs _ _))

def rIxL (K : PySem.W.Frag) : R2 := fun x y H Q => ∃ p xs i v, x = .ref p ∧ y = .int i ∧ SqL K H p xs ∧ atI xs i = some v ∧ Q v H
def rIxT (K : PySem.W.Frag) : R2 := fun x y H Q => ∃ p xs i v, x = .ref p ∧ y = .int i ∧ SqT K H p xs ∧ atI xs i = some v ∧ Q v H
def rIxS : R2 := fun x y H Q => ∃ z i c, x = .str z ∧ y = .int i ∧ z.length ≤ sizeLine ∧ atI z.cps.toList i = some c ∧ Q (.str ⟨#[c]⟩) H
theorem ix_list : IxR X (rIxL X.K) := by
  intro value slice pins s σ H x y v u Q I rx ry h hs
  obtain ⟨p, xs, i, z, rfl, rfl, hq, he, q⟩ := h
  cases rx
  obtain ⟨t, rfl⟩ := ry
  obtain ⟨its, r, pl, hz⟩ := I.list hq
  obtain ⟨j, h1, h2, h3, h4, h5⟩ := atI_get he
  obtain ⟨w, ew, rw'⟩ := r.get h2
  have hl := r.length
  have hn := line63
  have fin : EP X pins σ Q w s := ⟨z, H, I, rw', q⟩
  by_cases h0 : 0 ≤ i
  · have hj : i.toNat = j := by
      rw [seqIndex_of h0 h5] at h1
      exact Option.some.inj h1
    exact item_listR pl.isList h0 (by omega) (by rw [hj]; simpa using ew) fin hs
  · have hj : (i + (its.toArray.size : Int)).toNat = j := by
      rw [seqIndex_neg (by omega) h4] at h1
      rw [List.size_toArray, ← hl]
      exact Option.some.inj h1
    exact subscriptTail_builtinR (x := w) pl.isList.typeIs slot_list_getitem.lookup
      (wpAny_getItem_list_neg (Q := fun r s' => r = w ∧ EP X pins σ Q r s') pl.isList (by omega) (by rw [List.size_toArray] <;> omega) (by omega) (by rw [hj]; simpa using ew) ⟨rfl, fin⟩) hs
theorem ix_tup : IxR X (rIxT X.K) := by
  intro value slice pins s σ H x y v u Q I rx ry h hs
  obtain ⟨p, xs, i, z, rfl, rfl, hq, he, q⟩ := h
  cases rx
  obtain ⟨t, rfl⟩ := ry
  obtain ⟨its, r, pl, hz⟩ := I.tuple hq
  obtain ⟨j, h1, h2, h3, h4, h5⟩ := atI_get he
  obtain ⟨w, ew, rw'⟩ := r.get h2
  have hl := r.length
  have hn := line63
  have fin : EP X pins σ Q w s := ⟨z, H, I, rw', q⟩
  exact subscriptTail_builtinR (x := w) pl.typeIs slot_tuple_getitem.lookup
    (getItem_tuple (j := j) (Q := fun r s' => r = w ∧ EP X pins σ Q r s') pl (by omega) (by omega) (by rw [List.size_toArray, ← hl]; exact h1) (by simpa using ew) ⟨rfl, fin⟩) hs
theorem ix_str : IxR X rIxS := by
  intro value slice pins s σ H x y v u Q I rx ry h hs
  obtain ⟨z, i, c, rfl, rfl, hz, he, q⟩ := h
  obtain ⟨t, rfl⟩ := rx
  obtain ⟨t', rfl⟩ := ry
  obtain ⟨j, h1, h2, h3, h4, h5⟩ := atI_get he
  have hl : z.cps.toList.length = z.length := by simp [Str.length]
  rw [hl] at h1 h4 h5
  have hn := line63
  exact tail_any (typeIs_str s z t) slot_str_getitem.lookup (getItem_str (c := c) (by
    have e1 : decide (i < -(2 ^ 63 : Int)) = false := decide_eq_false (by omega)
    have e2 : decide (i ≥ 2 ^ 63) = false := decide_eq_false (by omega)
    rw [e1, e2, Bool.or_false]) (by rw [h1]; simpa using h2) ⟨.str ⟨#[c]⟩, H, I.tok _, ⟨_, rfl⟩, q⟩) hs
/-- list, tuple or str -/
def rIx (K : PySem.W.Frag) : R2 := fun x y H Q => rIxL K x y H Q ∨ rIxT K x y H Q ∨ rIxS x y H Q
theorem ix_seq : IxR X (rIx X.K) := ix_list.or (ix_tup.or ix_str)

/-! ### xs[i] = v, any sign -/
/-- the list's object behind a store -/
theorem mapSeq_set (its : List Value) (n j : Nat) (u : Value) : Obj.mapSeq (·.setIfInBounds j u) { cls := .type "list", data := .seq its.toArray n } = { cls := .type "list", data := .seq (its.set j u).toArray n } := by
  simp [Obj.mapSeq]
theorem Inv.lst {pins : List (Addr × Obj)} {σ : St} {H : Hp} {s : Shared} {p : Addr} {xs : List V} (I : Inv X pins σ H s) (h : H p = some (.lst xs)) :
    ∃ (its : List Value) (n : Nat), Vals xs its ∧ s.heap.get? p = some { cls := .type "list", data := .seq its.toArray n } ∧ xs.length ≤ sizeLine := by
  obtain ⟨z, its, n, r, e⟩ := I.hok p _ h
  exact ⟨its, n, r, e, z⟩
/-- the list at p is written by an update of its object -/
theorem Inv.lstUpd {pins : List (Addr × Obj)} {σ : St} {H : Hp} {s : Shared} {p : Addr} {xs ys : List V} {its its' : List Value} {n n' : Nat} {f : Obj → Obj} (I : Inv X pins σ H s) (h : H p = some (.lst xs))
    (ho : s.heap.get? p = some { cls := .type "list", data := .seq its.toArray n }) (hf : f { cls := .type "list", data := .seq its.toArray n } = { cls := .type "list", data := .seq its'.toArray n' }) (r : Vals ys its') (hz : ys.length ≤ sizeLine) (t : Nat) :
    Inv X pins σ (upd H p (.lst ys)) { s with heap := s.heap.update p f, toks := t } := by
  have e : (s.heap.update p f).get? p = some { cls := .type "list", data := .seq its'.toArray n' } := by
    rw [Heap.get?_update_self f ho (by rw [hf] <;> rfl), hf]
  refine I.write (x := p) (e := p) (by rw [h]; trivial) (.inl rfl) (fun b u hb q => (Heap.get?_update_other _ _ (Ne.symm hb)).trans q) ⟨_, e⟩ ?_
  exact ⟨hz, its', n', r, e⟩
def rSetL : V → V → V → Hp → (Hp → Prop) → Prop := fun o i v H Q => ∃ p xs k j, o = .ref p ∧ i = .int k ∧ H p = some (.lst xs) ∧ ixN xs.length k = some j ∧ Q (upd H p (.lst (xs.set j v)))
theorem set_list : PSet X rSetL := by
  intro pins s σ H o i v ov iv u Q I ro ri rv h
  obtain ⟨p, xs, k, j, rfl, rfl, hp, hj, q⟩ := h
  cases ro
  obtain ⟨t, rfl⟩ := ri
  obtain ⟨its, n, r, ho, hz⟩ := I.lst hp
  obtain ⟨h1, h2, h3, h4⟩ := ixN_seq hj
  have hl := r.length
  have hn := line63
  have I' : Inv X pins σ (upd H p (.lst (xs.set j v))) { s with heap := s.heap.update p (Obj.mapSeq (·.setIfInBounds j u)) } :=
    I.lstUpd hp ho (mapSeq_set its n j u) (r.set rv j) (by rw [List.length_set]; exact hz) s.toks
  by_cases h0 : 0 ≤ k
  · have hk : k.toNat = j := by
      rw [seqIndex_of h0 h4] at h1
      exact Option.some.inj h1
    exact PySem.W.ki_setAt ho h0 (by omega) (by rw [List.size_toArray, ← hl]; exact h4) (by rw [hk]; exact ⟨_, I', q⟩)
  · have hk : (k + (its.toArray.size : Int)).toNat = j := by
      rw [seqIndex_neg (by omega) h3] at h1
      rw [List.size_toArray, ← hl]
      exact Option.some.inj h1
    exact PySem.W.ki_setBack ho (by omega) (by rw [List.size_toArray, ← hl]; exact h3) (by omega) (by rw [hk]; exact ⟨_, I', q⟩)

/-! ### slices -/
/-! ### in, not in: flat items -/
/-! ### len, list(x), tuple(x) of any list or tuple that is read -/
theorem call_len_seq : CallR X (.builtin "len") (fun xs H Q => ∃ p ys, xs = [.ref p] ∧ (SqL X.K H p ys ∨ SqT X.K H p ys) ∧ Q (.int ys.length) H) := by
  intro pins s σ H xs us Q I r h
  obtain ⟨p, ys, rfl, hq, q⟩ := h
  obtain ⟨u, rfl, rx⟩ := vals1 r
  cases rx
  have hn := line63
  rcases hq with hq | hq
  · obtain ⟨its, r', pl, hz⟩ := I.list hq
    have hlen := r'.length
    exact Calls.call_len_list pl.isList (by simp only [List.size_toArray] <;> omega) ⟨.int ys.length, H, I.tok _, ⟨s.toks + 1, by rw [List.size_toArray, hlen]⟩, q⟩
  · obtain ⟨its, r', pl, hz⟩ := I.tuple hq
    have hlen := r'.length
    exact len_tuple pl (by simp only [List.size_toArray] <;> omega) ⟨.int ys.length, H, I.tok _, ⟨s.toks + 1, by rw [List.size_toArray, hlen]⟩, q⟩
theorem CallR.or {f : Value} {r r' : List V → Hp → VK → Prop} (h : CallR X f r) (h' : CallR X f r') : CallR X f (fun xs H Q => r xs H Q ∨ r' xs H Q) := by
  intro pins s σ H xs us Q I rs q
  rcases q with q | q
  · exact h pins s σ H xs us Q I rs q
  · exact h' pins s σ H xs us Q I rs q
theorem call_list_of : CallR X (.type "list") (fun xs H Q => ∃ p ys, xs = [.ref p] ∧ (SqL X.K H p ys ∨ SqT X.K H p ys) ∧ ∀ l, H l = none → Q (.ref l) (upd H l (.lst ys))) := by
  intro pins s σ H xs us Q I r h
  obtain ⟨p, ys, rfl, hq, q⟩ := h
  obtain ⟨u, rfl, rx⟩ := vals1 r
  cases rx
  have fin : ∀ (its : List Value), Vals ys its → ys.length ≤ sizeLine → ∀ (h' : Heap) (c' : Nat), (∀ b o', s.heap.get? b = some o' → h'.get? b = some o') →
      h'.get? s.heap.objs.size = some { cls := .type "list", dict := none, data := .seq its.toArray c', slots := #[] } → EP X pins σ Q (.ref s.heap.objs.size) { s with heap := h' } := fun its r' hz h' c' kp e =>
    ⟨.ref s.heap.objs.size, _, I.laid (t' := s.toks) kp (Nat.le_refl _) (show ObjOk X.prog X.w _ h' _ (.lst ys) from ⟨hz, its, c', r', e⟩), rfl, q _ (I.hok.fresh (Nat.le_refl _))⟩
  rcases hq with hq | hq
  · obtain ⟨its, r', pl, hz⟩ := I.list hq
    have hlen := r'.length
    obtain ⟨o, ho, hc, n, hd⟩ := pl.isList
    exact call_list_seq p (.inl rfl) ho hc hd (fun h' c' kp e => fin its r' hz h' c' kp e) (by simp only [List.size_toArray] <;> omega)
  · obtain ⟨its, r', pl, hz⟩ := I.tuple hq
    have hlen := r'.length
    obtain ⟨o, ho, hc, n, hd⟩ := pl
    exact call_list_seq p (.inr rfl) ho hc hd (fun h' c' kp e => fin its r' hz h' c' kp e) (by simp only [List.size_toArray] <;> omega)
/-! ### the call of a builtin's method: o.m(..) -/
/-- the value is of that builtin type -/
def tyV (K : PySem.W.Frag) (T : String) (x : V) (H : Hp) : Prop := match x with
  | .str _ => T = "str"
  | .int _ => T = "int"
  | .ref p => (T = "list" ∧ ∃ xs, SqL K H p xs) ∨ (T = "tuple" ∧ ∃ o, K.lookup p = some o ∧ o.cls = .type "tuple" ∧ o.dict = none) ∨
      (T = "dict" ∧ ((∃ kvs, H p = some (.dK kvs)) ∨ ∃ kvs, H p = some (.dT kvs))) ∨ (T = "set" ∧ ∃ S n, H p = some (.set S n))
  | _ => False
theorem tyV_is {pins : List (Addr × Obj)} {σ : St} {H : Hp} {s : Shared} {T : String} {x : V} {v : Value} (I : Inv X pins σ H s) (r : RelV x v) (ty : tyV X.K T x H) :
    s.TypeIs v T ∧ ∀ a, v = .ref a → ∃ ob, s.heap.get? a = some ob ∧ ob.dict = none := by
  cases x with
  | str z =>
    obtain ⟨t, rfl⟩ := r
    cases (show T = "str" from ty)
    exact ⟨typeIs_str s z t, fun _ e => nomatch e⟩
  | int i =>
    obtain ⟨t, rfl⟩ := r
    cases (show T = "int" from ty)
    exact ⟨typeIs_int s i t, fun _ e => nomatch e⟩
  | ref p =>
    cases r
    rcases ty with ⟨rfl, xs, hq⟩ | ⟨rfl, o, hk, hc, hd⟩ | ⟨rfl, hk⟩ | ⟨rfl, S, n, hk⟩
    · obtain ⟨its, _, pl, _⟩ := I.list hq
      refine ⟨pl.isList.typeIs, fun a e => ?_⟩
      cases e
      obtain ⟨o, n, e, c, hd, _⟩ := pl
      exact ⟨o, e, hd⟩
    · refine ⟨⟨o, I.kIn p o hk, hc⟩, fun a e => ?_⟩
      cases e
      exact ⟨o, I.kIn _ o hk, hd⟩
    · have z : ∃ o, s.heap.get? p = some o ∧ o.ExactDict := by
        rcases hk with ⟨kvs, hk⟩ | ⟨kvs, hk⟩
        · obtain ⟨_, _, _, _, o, _, _, e, ex, _⟩ := I.hok p _ hk
          exact ⟨o, e, ex⟩
        · obtain ⟨_, _, _, _, o, _, _, e, ex, _⟩ := I.hok p _ hk
          exact ⟨o, e, ex⟩
      obtain ⟨o, e, ex⟩ := z
      refine ⟨⟨o, e, ex.1⟩, fun a e2 => ?_⟩
      cases e2
      exact ⟨o, e, ex.2.1⟩
    · obtain ⟨o, _, _, _, e, ex, _⟩ := I.hok p _ hk
      refine ⟨⟨o, e, ex.1⟩, fun a e2 => ?_⟩
      cases e2
      exact ⟨o, e, ex.2.1⟩
  | _ => exact False.elim ty
def tBM (K : PySem.W.Frag) (T : String) (r : V → List V → Hp → VK → Prop) (to : TE) (t : TA) : TE := fun σ H Q => to σ H fun x H1 => tyV K T x H1 ∧ t σ H1 fun xs H2 => r x xs H2 Q
variable {o e : Expr} {es : List Expr} {to : TE} {t : TA} {name : Str} {apos cpos : Pos} {T id : String} {r : V → List V → Hp → VK → Prop}
theorem pe_bm (pa : PlainAttrs T) (slot : Slot T name id) (hty : typeOf (.builtin id) = pure (.type "method_descriptor")) (hm : MtR X id r) (ho : PE X o to) (ha : PA X (e :: es) t)
    (hbase : attributeBase o name X.env (eval o X.env) = eval o X.env := by rfl)
    (hfew : ((backTo cpos (starEach (e :: es) X.env)).all (fun x => !x.1) && (backToKw cpos (keywordEach [] X.env)).all (fun x => x.1.isSome)
      && decide ((e :: es).length + ([] : List Keyword).length + (if ([] : List Keyword).isEmpty then 0 else 1) < 30)) = true := by rfl)
    (hline : (apos.endLine == cpos.line) = true := by rfl) (hs : starEach (e :: es) X.env = (false, eval e X.env) :: starEach es X.env := by rfl) (hplain : (backTo cpos (starEach es X.env)).any (·.1) = false := by rfl) :
    PE X (.Call (.Attribute o name apos) (e :: es) [] cpos) (tBM X.K T r to t) := by
  intro pins s σ H Q I h
  refine wpAny_Call_method_late hbase hfew hline rfl (thn (ho pins s σ H _ I h) fun v s1 ⟨x, H1, I1, r1, ty, q1⟩ => ?_)
  obtain ⟨h1, h2⟩ := tyV_is I1 r1 ty
  refine ⟨T, id, pa, slot, hty, h1, h2, ?_⟩
  have hA := ha cpos pins s1 σ H1 _ I1 q1
  rw [hs] at hA ⊢
  refine Calls.callWith_builtin (by show (false || (backTo cpos (starEach es X.env)).any (·.1)) = false; rw [hplain] <;> rfl) (Calls.evalArgs_plain ?_)
  exact thn hA fun us s2 ⟨vs, H2, I2, r2, q2⟩ => hm pins s2 σ H2 x vs v us Q I2 r1 r2 q2
/- xs.append(e), list.index on a module's tuple .. are MtR facts of 06m -/
end
end L2

namespace L2
open PySem PySem.Spec PyProof.Rows

def MtM (X : Cx) (id : String) (r : V → List V → Hp → VK → Prop) : Prop :=
  ∀ (pins : List (Addr × Obj)) (s : Shared) (σ : St) (H : Hp) (x : V) (xs : List V) (v : Value) (us : List Value) (Q : VK), Inv X pins σ H s → RelV x v → Vals xs us → r x xs H Q →
    wpAny (model X.prog X.w) X.A (call (.builtin id) (v :: us)) (EP X pins σ Q) X.xe s

/-! ### lists of values -/
theorem Vals.one : ∀ {x : V} {us : List Value}, Vals [x] us → ∃ u, us = [u] ∧ RelV x u
  | _, _, .cons r .nil => ⟨_, rfl, r⟩
theorem Vals.two : ∀ {x y : V} {us : List Value}, Vals [x, y] us → ∃ u v, us = [u, v] ∧ RelV x u ∧ RelV y v
  | _, _, _, .cons r (.cons q .nil) => ⟨_, _, rfl, r, q⟩
theorem Vals.zero : ∀ {us : List Value}, Vals [] us → us = []
  | _, .nil => rfl
theorem Vals.dropLast {xs : List V} {us : List Value} (h : Vals xs us) : Vals xs.dropLast us.dropLast := by
  induction h with
  | nil => exact .nil
  | cons r t ih =>
    cases t with
    | nil => exact .nil
    | cons q t' => exact .cons r ih
theorem Vals.eraseIdx : ∀ {xs : List V} {us : List Value} (i : Nat), Vals xs us → Vals (xs.eraseIdx i) (us.eraseIdx i)
  | _, _, _, .nil => .nil
  | _, _, 0, .cons _ t => t
  | _, _, i + 1, .cons r t => .cons r (Vals.eraseIdx i t)
theorem Vals.rep {xs : List V} {us : List Value} (h : Vals xs us) : ∀ k : Nat, Vals (List.replicate k xs).flatten (List.replicate k us).flatten
  | 0 => .nil
  | k + 1 => by
    rw [List.replicate_succ, List.replicate_succ, List.flatten_cons, List.flatten_cons]
    exact Vals.append h (Vals.rep h k)
theorem erase_last {α : Type} (l : List α) : l.eraseIdx (l.length - 1) = l.dropLast := by
  induction l with
  | nil => rfl
  | cons a r ih =>
    cases r with
    | nil => rfl
    | cons b r =>
      have e : (a :: b :: r).length - 1 = ((b :: r).length - 1) + 1 := by
        have h1 : (a :: b :: r).length = r.length + 2 := rfl
        have h2 : (b :: r).length = r.length + 1 := rfl
        omega
      rw [e, List.eraseIdx_cons_succ, ih]
      all_goals rfl
theorem len_erase {α : Type} : ∀ (l : List α) (i : Nat), (l.eraseIdx i).length ≤ l.length
  | [], _ => Nat.le_refl _
  | _ :: _, 0 => Nat.le_succ _
  | _ :: r, i + 1 => Nat.succ_le_succ (len_erase r i)
theorem foldl_rep (its : List Value) : ∀ (k : Nat) (acc : List Value),
    List.foldl (fun x1 x2 => x1 ++ x2) acc.toArray (List.replicate k its.toArray) = (acc ++ (List.replicate k its).flatten).toArray
  | 0, acc => by simp
  | k + 1, acc => by
    have e : acc.toArray ++ its.toArray = (acc ++ its).toArray := by simp
    have e2 : (acc ++ its) ++ (List.replicate k its).flatten = acc ++ (List.replicate (k + 1) its).flatten := by
      rw [List.replicate_succ, List.flatten_cons, List.append_assoc]
    rw [← e2, ← foldl_rep its k (acc ++ its), ← e, List.replicate_succ, List.foldl_cons]

section
variable {X : Cx} {pins : List (Addr × Obj)} {σ : St} {H : Hp} {s : Shared} {l b : Addr} {xs ys zs : List V}

/-! ### the two steps: a tracked list is rewritten, a new list is laid -/
theorem Inv.lset {its its' : List Value} {n : Nat} {f : Array Value → Array Value} {t' : Nat} (I : Inv X pins σ H s) (hH : H l = some (.lst xs))
    (e : s.heap.get? l = some { cls := .type "list", data := .seq its.toArray n }) (hf : f its.toArray = its'.toArray) (hv : Vals ys its') (hz : ys.length ≤ sizeLine) :
    Inv X pins σ (upd H l (.lst ys)) { s with heap := s.heap.update l (Obj.mapSeq f), toks := t' } := by
  have q := PySem.IsL.update e f
  rw [hf] at q
  refine I.write (x := l) (e := l) (by rw [hH]; exact trivial) (.inl rfl) (fun b' u hb hu => (Heap.get?_update_other s.heap (Obj.mapSeq f) (Ne.symm hb)).trans hu) ⟨_, q⟩ ?_
  exact ⟨hz, its', _, hv, q⟩
theorem Inv.lnew {its : List Value} {t' : Nat} (I : Inv X pins σ H s) (hv : Vals ys its) (hz : ys.length ≤ sizeLine) :
    Inv X pins σ (upd H s.heap.objs.size (.lst ys)) { s with heap := s.heap.push { cls := .type "list", data := .seq its.toArray }, toks := t' } :=
  I.laid (fun _ _ q => Heap.get?_push_of_some _ q) (Nat.le_refl _) ⟨hz, its, 0, hv, Heap.get?_push_size _ rfl⟩
theorem Inv.fresh (I : Inv X pins σ H s) : H s.heap.objs.size = none := I.hok.fresh (Nat.le_refl _)
theorem Inv.lstM (I : Inv X pins σ H s) (hH : H l = some (.lst xs)) : xs.length ≤ sizeLine ∧ ∃ (its : List Value) (n : Nat), Vals xs its ∧ xs.length = its.length ∧ s.heap.get? l = some { cls := .type "list", data := .seq its.toArray n } := by
  obtain ⟨z, its, n, r, e⟩ := I.hok l _ hH
  exact ⟨z, its, n, r, r.length, e⟩

theorem notLongL {n : Nat} (h : n ≤ sizeLine) : Builtin.List.listTooLong n = false := by
  unfold Builtin.List.listTooLong
  exact decide_eq_false (by omega)
end

section
variable {X : Cx}

/-! ### methods -/
def rAppend : V → List V → Hp → VK → Prop := fun x vs H Q => ∃ l xs y, x = .ref l ∧ vs = [y] ∧ H l = some (.lst xs) ∧ xs.length < sizeLine ∧ Q .non (upd H l (.lst (xs ++ [y])))
theorem mt_append : MtM X "list.append" rAppend := by
  intro pins s σ H x vs v us Q I rx rv h
  obtain ⟨l, xs, y, rfl, rfl, hH, hz, q⟩ := h
  cases rx
  obtain ⟨u, rfl, ru⟩ := rv.one
  obtain ⟨z, its, n, r, hl, e⟩ := I.lstM hH
  refine call_meets F.slot_list_append ⟨_, e, rfl⟩ F.entry_list_append (F.args_list_append_2 _ _) (PySem.list_append l its.toArray n u (by rw [List.size_toArray]; omega)) ⟨e, ?_⟩
  refine ⟨.non, _, I.lset (its' := its ++ [u]) hH e (by simp) (r.append (.cons ru .nil)) ?_, rfl, q⟩
  rw [List.length_append, List.length_singleton]
  omega

def rPop : V → List V → Hp → VK → Prop := fun x vs H Q => ∃ l xs y, x = .ref l ∧ vs = [] ∧ H l = some (.lst xs) ∧ xs[xs.length - 1]? = some y ∧ Q y (upd H l (.lst xs.dropLast))
theorem mt_pop : MtM X "list.pop" rPop := by
  intro pins s σ H x vs v us Q I rx rv h
  obtain ⟨l, xs, y, rfl, rfl, hH, hy, q⟩ := h
  cases rx
  have hus := rv.zero
  subst hus
  obtain ⟨z, its, n, r, hl, e⟩ := I.lstM hH
  obtain ⟨u, hu, ru⟩ := r.get hy
  have hy' : its.toArray[its.toArray.size - 1]? = some u := by
    show its.toArray[its.length - 1]? = some u
    rw [← Array.getElem?_toList, ← hl]
    exact hu
  refine call_meets F.slot_list_pop ⟨_, e, rfl⟩ F.entry_list_pop (F.args_list_pop_1 _) (MeetsSeq.list_pop_last l its.toArray n u hy' (by rw [List.size_toArray]; omega)) ⟨e, ?_⟩
  refine ⟨y, _, I.lset (its' := its.dropLast) hH e ?_ r.dropLast ?_, ru, q⟩
  · show its.toArray.eraseIdxIfInBounds (its.toArray.size - 1) = its.dropLast.toArray
    rw [List.size_toArray, List.eraseIdxIfInBounds_toArray, erase_last]
  · rw [List.length_dropLast]
    omega

def rPopAt : V → List V → Hp → VK → Prop := fun x vs H Q => ∃ l xs i k y, x = .ref l ∧ vs = [.int i] ∧ H l = some (.lst xs) ∧ -(2 ^ 63) ≤ i ∧ i < 2 ^ 63 ∧ seqIndex? i xs.length = some k ∧ xs[k]? = some y ∧ Q y (upd H l (.lst (xs.eraseIdx k)))
theorem mt_popAt : MtM X "list.pop" rPopAt := by
  intro pins s σ H x vs v us Q I rx rv h
  obtain ⟨l, xs, i, k, y, rfl, rfl, hH, h1, h2, hk, hy, q⟩ := h
  cases rx
  obtain ⟨u, rfl, ru⟩ := rv.one
  obtain ⟨t, rfl⟩ := ru
  obtain ⟨z, its, n, r, hl, e⟩ := I.lstM hH
  obtain ⟨w, hw, rw'⟩ := r.get hy
  refine call_meets F.slot_list_pop ⟨_, e, rfl⟩ F.entry_list_pop (F.args_list_pop_2 _ _)
    (MeetsSeq.list_pop_at l its.toArray n i t k w (fitsIndex_both h1 h2) (by rw [List.size_toArray, ← hl]; exact hk) (by rw [← Array.getElem?_toList]; exact hw) (by rw [List.size_toArray]; omega)) ⟨e, ?_⟩
  refine ⟨y, _, I.lset (its' := its.eraseIdx k) hH e ?_ (r.eraseIdx k) ?_, rw', q⟩
  · show its.toArray.eraseIdxIfInBounds k = (its.eraseIdx k).toArray
    rw [List.eraseIdxIfInBounds_toArray]
  · have := len_erase xs k
    omega

/-! ### list + list, list += list, list * int -/
def rCat : R2 := fun x y H Q => ∃ l b xs zs, x = .ref l ∧ y = .ref b ∧ H l = some (.lst xs) ∧ H b = some (.lst zs) ∧ xs.length + zs.length ≤ sizeLine ∧ ∀ p, H p = none → Q (.ref p) (upd H p (.lst (xs ++ zs)))
theorem op_cat : OpR X (binaryOp .Add) rCat := by
  intro pins s σ H x y v u Q I rx ry h
  obtain ⟨l, b, xs, zs, rfl, rfl, hH, hB, hz, q⟩ := h
  cases rx
  cases ry
  obtain ⟨z, its, n, r, hl, e⟩ := I.lstM hH
  obtain ⟨z2, its2, n2, r2, hl2, e2⟩ := I.lstM hB
  refine PySem.P.add_list e e2 ?_ (by rw [List.size_toArray, List.size_toArray]; omega)
  have ea : its.toArray ++ its2.toArray = (its ++ its2).toArray := by simp
  rw [ea]
  exact ⟨.ref _, _, I.lnew (t' := s.toks) (r.append r2) (by rw [List.length_append]; omega), rfl, q _ I.fresh⟩
/-- a list times an int (a negative one is nothing) -/
def rRep : R2 := fun x y H Q => ∃ l k xs, x = .ref l ∧ y = .int k ∧ H l = some (.lst xs) ∧ -(2 ^ 63) ≤ k ∧ k < 2 ^ 63 ∧ xs.length * k.toNat ≤ sizeLine ∧
  ∀ p, H p = none → Q (.ref p) (upd H p (.lst (List.replicate k.toNat xs).flatten))
theorem len_rep {α : Type} (xs : List α) (k : Nat) : (List.replicate k xs).flatten.length = k * xs.length := by
  induction k with
  | zero => simp
  | succ k ih => rw [List.replicate_succ, List.flatten_cons, List.length_append, ih, Nat.succ_mul, Nat.add_comm]
theorem op_rep : OpR X (binaryOp .Mult) rRep := by
  intro pins s σ H x y v u Q I rx ry h
  obtain ⟨l, k, xs, rfl, rfl, hH, h1, h2, hz, q⟩ := h
  cases rx
  obtain ⟨t, rfl⟩ := ry
  obtain ⟨z, its, n, r, hl, e⟩ := I.lstM hH
  have hlen : its.toArray.size * k.toNat ≤ sizeLine := by rw [List.size_toArray, ← hl]; exact hz
  have hcap : ¬ its.toArray.size * k.toNat > (2 ^ 63 - 1) / 8 := by
    have : (sizeLine : Nat) ≤ (2 ^ 63 - 1) / 8 := by decide
    omega
  have hfit : ¬ (!Builtin.List.listFitsIndex k) = true := by
    rw [fitsIndex_both h1 h2]
    exact Bool.false_ne_true
  have hlong : ¬ Builtin.List.listTooLong (its.toArray.size * k.toNat) = true := by
    rw [notLongL hlen]
    exact Bool.false_ne_true
  have hnew : List.foldl (fun x1 x2 => x1 ++ x2) #[] (List.replicate (if its.toArray.isEmpty = true then 0 else k.toNat) its.toArray) = (List.replicate k.toNat its).flatten.toArray := by
    have f0 : ∀ m : Nat, List.foldl (fun x1 x2 => x1 ++ x2) #[] (List.replicate m its.toArray) = (List.replicate m its).flatten.toArray := fun m => by
      have := foldl_rep its m []
      rw [List.nil_append] at this
      exact this
    rw [f0]
    cases its with
    | nil => simp
    | cons a r' => rw [if_neg (by simp)]
  refine wpAny_binaryOp_repeat_ref (T := "list") (U := "int") (by decide) ⟨_, e, rfl⟩ (fun s' => typeIs_int s' k t) noFill_list_mul F.fills_int_mul F.slot_int_rmul repeat_list F.slot_int_index.lookup
    (call_meets F.slot_int_rmul (typeIs_int s k t) F.entry_int_rmul (F.args_int_rmul_2 _ _) (int___rmul___int_list k t l its.toArray n)
      ⟨e, rfl, ⟨_, e, rfl⟩, call_meets F.slot_list_mul ⟨_, e, rfl⟩ F.entry_list_mul (F.args_list_mul_2 _ _) (AutoListH.list___mul___list_int_3 l its.toArray n k t hfit hcap hlong) ⟨e, ?_⟩⟩)
  rw [hnew]
  exact ⟨.ref _, _, I.lnew (t' := s.toks) (r.rep k.toNat) (by rw [len_rep, Nat.mul_comm]; exact hz), rfl, q _ I.fresh⟩

/-! ### del xs[i] -/
end

/-! ### xs[a:b] = ys -/
section
variable {prog : Program} {w : World} {A : Around} {E : Value → Shared → Prop} {s : Shared}
end

section
variable {X : Cx}
end
end L2

namespace L2
open PySem PySem.Spec PyProof.Rows

theorem Vals.ints : ∀ {ns : List Int} {us : List Value}, Vals (ns.map V.int) us → IntsAre us ns
  | [], us, h => by
    rw [List.map_nil] at h
    cases h
    exact IntsAre.nil
  | n :: ns, us, h => by
    rw [List.map_cons] at h
    cases h with
    | cons r t =>
      obtain ⟨k, rfl⟩ := r
      exact IntsAre.cons n k (Vals.ints t)
theorem Vals.strs : ∀ {xs : List Str} {us : List Value}, Vals (xs.map V.str) us → StrsAre us xs
  | [], us, h => by
    rw [List.map_nil] at h
    cases h
    exact StrsAre.nil
  | x :: xs, us, h => by
    rw [List.map_cons] at h
    cases h with
    | cons r t =>
      obtain ⟨k, rfl⟩ := r
      exact StrsAre.cons x k (Vals.strs t)
theorem Vals.bls : ∀ {bs : List Bool} {us : List Value}, Vals (bs.map V.bl) us → us = bs.map Value.bool
  | [], us, h => by
    rw [List.map_nil] at h
    cases h
    rfl
  | b :: bs, us, h => by
    rw [List.map_cons] at h
    cases h with
    | cons r t =>
      cases r
      rw [Vals.bls t, List.map_cons]
theorem Vals.ref1 {a : Addr} {us : List Value} (r : Vals [V.ref a] us) : us = [Value.ref a] := by
  cases r with
  | cons r t =>
    cases t
    cases r
    rfl
theorem Vals.int2 {i j : Int} {us : List Value} (r : Vals [V.int i, V.int j] us) : ∃ t u, us = [Value.int i t, Value.int j u] := by
  cases r with
  | cons r t =>
    cases t with
    | cons r2 t2 =>
      cases t2
      obtain ⟨t, rfl⟩ := r
      obtain ⟨u, rfl⟩ := r2
      exact ⟨t, u, rfl⟩

/-! ### the library's walks over a list of ints, kept objects alone -/
section
variable {prog : Program} {w : World} {A : Around} {E : Value → Shared → Prop} {s : Shared} {l : Addr} {its : List Value} {ns : List Int} {Q : Value → Shared → Prop}
theorem max_raw (hh : A.handled = none) (hl : s.heap.IsList l its.toArray) (hi : IntsAre its ns) (hne : 0 < ns.length)
    (h : ∀ h' tk M t', (∀ b o, s.heap.get? b = some o → h'.get? b = some o) → M ∈ ns → (∀ a, a ∈ ns → a ≤ M) → Q (.int M t') { s with heap := h', toks := tk }) : wpAny (model prog w) A (call (.builtin "max") [.ref l]) Q E s := by
  obtain ⟨xs, e⟩ := hi.allInts.items
  have hn : numsOf (intItems xs).toList = ns := by rw [← e]; exact hi.numsOf
  rw [nums_intItems] at hn
  subst hn
  rw [e] at hl
  have hsz : 0 < xs.size := by simpa using hne
  refine PySem.max_intList hh hl hsz fun v h' tk hv hk => ?_
  obtain ⟨t, rfl⟩ := intItems_at hv
  obtain ⟨h1, h2⟩ := argBest_gt (numAt xs) (xs.size - 1)
  refine h h' tk _ t hk ?_ fun a ha => ?_
  · rw [numAt_eq]; exact PySem.getD_mem (by rw [List.length_map, Array.length_toList]; omega)
  · obtain ⟨j, hj, rfl⟩ := mem_getD ha
    rw [List.length_map, Array.length_toList] at hj
    rw [← numAt_eq]; exact h2 j (by omega)
theorem min_raw (hh : A.handled = none) (hl : s.heap.IsList l its.toArray) (hi : IntsAre its ns) (hne : 0 < ns.length)
    (h : ∀ h' tk M t', (∀ b o, s.heap.get? b = some o → h'.get? b = some o) → M ∈ ns → (∀ a, a ∈ ns → M ≤ a) → Q (.int M t') { s with heap := h', toks := tk }) : wpAny (model prog w) A (call (.builtin "min") [.ref l]) Q E s := by
  obtain ⟨xs, e⟩ := hi.allInts.items
  have hn : numsOf (intItems xs).toList = ns := by rw [← e]; exact hi.numsOf
  rw [nums_intItems] at hn
  subst hn
  rw [e] at hl
  have hsz : 0 < xs.size := by simpa using hne
  refine PySem.min_intList hh hl hsz fun v h' tk hv hk => ?_
  obtain ⟨t, rfl⟩ := intItems_at hv
  obtain ⟨h1, h2⟩ := argBest_lt (numAt xs) (xs.size - 1)
  refine h h' tk _ t hk ?_ fun a ha => ?_
  · rw [numAt_eq]; exact PySem.getD_mem (by rw [List.length_map, Array.length_toList]; omega)
  · obtain ⟨j, hj, rfl⟩ := mem_getD ha
    rw [List.length_map, Array.length_toList] at hj
    rw [← numAt_eq]; exact h2 j (by omega)
end

/-! ### the calls, by values (CallR of 03t; MtR of 06l) -/
section
variable {X : Cx}
/-- max(xs), min(xs) of a list of ints -/
def rMax (K : PySem.W.Frag) : List V → Hp → VK → Prop := fun vs H Q => ∃ (a : Addr) (ns : List Int), vs = [V.ref a] ∧ SqL K H a (ns.map V.int) ∧ 0 < ns.length ∧ ∀ m, m ∈ ns → (∀ y, y ∈ ns → y ≤ m) → Q (.int m) H
def rMin (K : PySem.W.Frag) : List V → Hp → VK → Prop := fun vs H Q => ∃ (a : Addr) (ns : List Int), vs = [V.ref a] ∧ SqL K H a (ns.map V.int) ∧ 0 < ns.length ∧ ∀ m, m ∈ ns → (∀ y, y ∈ ns → m ≤ y) → Q (.int m) H
theorem cr_max (hc : X.calm = true) : CallR X (.builtin "max") (rMax X.K) := by
  intro pins s σ H vs us Q I r h
  obtain ⟨a, ns, rfl, hs, hne, q⟩ := h
  obtain ⟨its, rv, hl, _⟩ := I.list hs
  rw [Vals.ref1 r]
  exact max_raw (I.ok.hd hc) hl.isList rv.ints hne fun h' tk m t' hk h1 h2 => ⟨.int _, H, I.kept hk, ⟨_, rfl⟩, q m h1 h2⟩
theorem cr_min (hc : X.calm = true) : CallR X (.builtin "min") (rMin X.K) := by
  intro pins s σ H vs us Q I r h
  obtain ⟨a, ns, rfl, hs, hne, q⟩ := h
  obtain ⟨its, rv, hl, _⟩ := I.list hs
  rw [Vals.ref1 r]
  exact min_raw (I.ok.hd hc) hl.isList rv.ints hne fun h' tk m t' hk h1 h2 => ⟨.int _, H, I.kept hk, ⟨_, rfl⟩, q m h1 h2⟩

/-! sorted, sort (fewer than 64 items: the library's own bound) -/
theorem small64 {n : Nat} (h : n < 64) : n ≤ sizeLine := by rw [sizeLine_eq]; omega
end

/-! ### list.index, flat items -/
section
variable {X : Cx}
end

/-! ### type(x) of an own instance; is, is not of a module's class -/
section
variable {X : Cx}
end

/-! ### any(xs), all(xs) of a list of bools -/
theorem iter_any {prog : Program} {w : World} {A : Around} {E : Value → Shared → Prop} {s : Shared} {l : Addr} {items : Array Value} {Q : Value → Shared → Prop} (hl : s.heap.IsList l items)
    (h : ∀ s₂ : Shared, s₂ = { s with heap := s.heap.push { cls := .type "list_iterator", data := .fields #[.ref l, .int 0 0] } } →
      (s₂.heap.IsListIter s.heap.objs.size l 0 ∧ s₂.heap.IsList l items) → l ≠ s.heap.objs.size → Q (.ref s.heap.objs.size) s₂) : wpAny (model prog w) A (pyIter (.ref l)) Q E s := by
  have hlt : l < s.heap.objs.size := by obtain ⟨_, e, _⟩ := hl; exact Heap.lt_size e
  exact wpAny_pyIter_list hl (h _ rfl ⟨⟨_, Heap.get?_push_size _ rfl, rfl, rfl⟩, hl.push _⟩ (Nat.ne_of_lt hlt))
theorem truth_bools {prog : Program} {w : World} {A : Around} {bs : List Bool} {its : List Value} (e : its = bs.map Value.bool) :
    TruthOf prog w A (fun i v => its.toArray[i]? = some v) (fun i => bs.getD i false) := fun i v s Q E hv hq => by
  have hv' : its[i]? = some v := by simpa using hv
  rw [e, List.getElem?_map] at hv'
  obtain ⟨b, hb, rfl⟩ := Option.map_eq_some_iff.mp hv'
  have hg : bs.getD i false = b := by rw [List.getD_eq_getElem?_getD, hb] <;> rfl
  have hq' : Q (bs.getD i false) s := hq
  rw [hg] at hq'
  exact wpAny_truthy_bool hq'
theorem all_range : ∀ bs : List Bool, (List.range bs.length).all (fun i => bs.getD i false) = bs.all id
  | [] => rfl
  | b :: bs => by
    rw [List.length_cons, List.range_succ_eq_map, List.all_cons, List.all_map, List.all_cons, ← all_range bs]
    all_goals rfl
section
variable {X : Cx}
def rAll (K : PySem.W.Frag) : List V → Hp → VK → Prop := fun vs H Q => ∃ (a : Addr) (bs : List Bool), vs = [V.ref a] ∧ SqL K H a (bs.map V.bl) ∧ Q (.bl (bs.all id)) H
theorem cr_all (hc : X.calm = true) : CallR X (.builtin "all") (rAll X.K) := by
  intro pins s σ H vs us Q I r h
  obtain ⟨a, bs, rfl, hs, q⟩ := h
  obtain ⟨its, rv, hl, _⟩ := I.list hs
  rw [Vals.ref1 r]
  have hb := rv.bls
  refine call_all_walk (iter_any hl.isList fun s₂ e2 st hne => ?_)
  subst e2
  refine ⟨_, _, _, _, _, _, _, rfl, Walks.list (A := X.A.in1) (I.ok.hd hc) _ a hne its.toArray, st, truth_bools hb, fun h' tk hk => ?_⟩
  refine ⟨.bl _, H, I.kept fun b o eo => hk b o (fun hmem => ?_) (Heap.get?_push_of_some _ eo), ?_, q⟩
  · rcases List.mem_cons.mp hmem with e1 | hmem
    · exact absurd (e1 ▸ Heap.lt_size eo) (Nat.lt_irrefl _)
    · cases hmem
  · show Value.bool _ = Value.bool _
    rw [← all_range, hb, List.size_toArray, List.length_map]
end

/-! ### == and != of data at any depth: none, bools, ints, texts, lists, tuples -/
mutual
inductive Dp (K : PySem.W.Frag) (H : Hp) : V → PyData → Prop
  | non : Dp K H .non .none
  | bl (b : Bool) : Dp K H (.bl b) (.bool b)
  | int (i : Int) : Dp K H (.int i) (.int i)
  | str (x : Str) : Dp K H (.str x) (.str x)
  | lst {a : Addr} {xs : List V} {ds : List PyData} : SqL K H a xs → DpAll K H xs ds → Dp K H (.ref a) (.list ds)
  | tup {a : Addr} {xs : List V} {ds : List PyData} : SqT K H a xs → DpAll K H xs ds → Dp K H (.ref a) (.tuple ds)
inductive DpAll (K : PySem.W.Frag) (H : Hp) : List V → List PyData → Prop
  | nil : DpAll K H [] []
  | cons {v : V} {vs : List V} {d : PyData} {ds : List PyData} : Dp K H v d → DpAll K H vs ds → DpAll K H (v :: vs) (d :: ds)
end
section
variable {X : Cx} {pins : List (Addr × Obj)} {σ : St} {H : Hp} {s : Shared}
mutual
theorem Dp.reads (I : Inv X pins σ H s) : ∀ (d : PyData) (v : V) (u : Value), Dp X.K H v d → RelV v u → ∃ as, Reads s.heap u d as
  | .none, _, _, h, r => by
    cases h
    cases r
    exact ⟨_, Reads.none⟩
  | .bool b, _, _, h, r => by
    cases h
    cases r
    exact ⟨_, Reads.bool b⟩
  | .int i, _, _, h, r => by
    cases h
    obtain ⟨t, rfl⟩ := r
    exact ⟨_, Reads.int i t⟩
  | .str x, _, _, h, r => by
    cases h
    obtain ⟨t, rfl⟩ := r
    exact ⟨_, Reads.str x t⟩
  | .list ds, _, _, h, r => by
    cases h with
    | lst hs ha =>
      cases r
      obtain ⟨its, rv, ⟨o, n, ho, hc, _, hd⟩, _⟩ := I.list hs
      obtain ⟨as, hr⟩ := Dp.readsAll I ds _ its ha rv
      exact ⟨_, Reads.list ho hc hd hr⟩
  | .tuple ds, _, _, h, r => by
    cases h with
    | tup hs ha =>
      cases r
      obtain ⟨its, rv, ⟨o, ho, hc, n, hd⟩, _⟩ := I.tuple hs
      obtain ⟨as, hr⟩ := Dp.readsAll I ds _ its ha rv
      exact ⟨_, Reads.tuple ho hc hd hr⟩
  | .dict _, _, _, h, _ => by cases h
theorem Dp.readsAll (I : Inv X pins σ H s) : ∀ (ds : List PyData) (vs : List V) (us : List Value), DpAll X.K H vs ds → Vals vs us → ∃ as, ReadsAll s.heap us ds as
  | [], _, _, h, r => by
    cases h
    cases r
    exact ⟨_, ReadsAll.nil⟩
  | d :: ds, _, _, h, r => by
    cases h with
    | cons h1 h2 =>
      cases r with
      | cons r1 r2 =>
        obtain ⟨as, q1⟩ := Dp.reads I d _ _ h1 r1
        obtain ⟨bs, q2⟩ := Dp.readsAll I ds _ _ h2 r2
        exact ⟨_, ReadsAll.cons q1 q2⟩
end
end
section
variable {X : Cx}
def rEqD (K : PySem.W.Frag) : R2 := fun x y H Q => ∃ d e, Dp K H x d ∧ Dp K H y e ∧ SeqAt.shaped d = true ∧ SeqAt.shaped e = true ∧ Q (.bl (PyData.eqv d e)) H
def rNeD (K : PySem.W.Frag) : R2 := fun x y H Q => ∃ d e, Dp K H x d ∧ Dp K H y e ∧ SeqAt.shaped d = true ∧ SeqAt.shaped e = true ∧ Q (.bl (!PyData.eqv d e)) H
theorem op_eqD (hu : X.A.units + 64 < cLine) : OpR X (compareOp .Eq) (rEqD X.K) := by
  intro pins s σ H x y v u Q I rx ry h
  obtain ⟨d, e, hd, he, sd, se, q⟩ := h
  obtain ⟨as, r1⟩ := Dp.reads I d x v hd rx
  obtain ⟨bs, r2⟩ := Dp.reads I e y u he ry
  exact SeqAt.compareEq_shaped r1 r2 sd se hu ⟨.bl _, H, I, rfl, q⟩
theorem op_neD (hu : X.A.units + 64 < cLine) : OpR X (compareOp .NotEq) (rNeD X.K) := by
  intro pins s σ H x y v u Q I rx ry h
  obtain ⟨d, e, hd, he, sd, se, q⟩ := h
  obtain ⟨as, r1⟩ := Dp.reads I d x v hd rx
  obtain ⟨bs, r2⟩ := Dp.reads I e y u he ry
  exact SeqAt.compareNe_shaped r1 r2 sd se hu ⟨.bl _, H, I, rfl, q⟩
end
end L2

namespace L2
open PySem PySem.Spec PyProof.Rows
abbrev CellAt (h : Heap) (c : Addr) (v : Option Value) : Prop := h.IsCell c v
def relS (scope sc : Scope) : Scope :=
  { scope with names := scope.names.map fun (n, k) => if (k == .free && sc.kind == .function && sc.names.lookup n == some .cell) then (n, .cell) else (n, k) }

def cloFrom (cells : List (Str × Addr)) : List (Str × NameKind) → List (Str × Addr) → List (Str × Addr)
  | [], acc => acc
  | (n, k) :: r, acc => if k == .free then cloFrom cells r ((n, (cells.lookup n).getD 0) :: acc) else cloFrom cells r acc

theorem closure_loop (env : Env) (f : Str × NameKind → List (Str × Addr) → Sem (ForInStep (List (Str × Addr))))
    (hf : ∀ n k c, f (n, k) c = if k == .free then (do let a ← cellOf env n; pure (.yield ((n, a) :: c))) else pure (.yield c)) :
    ∀ (names : List (Str × NameKind)) (acc : List (Str × Addr)), (∀ y ∈ names, y.2 = .free → ∃ c, env.cells.lookup y.1 = some c) → forIn names acc f = pure (cloFrom env.cells names acc)
  | [], acc, _ => by rw [List.forIn_nil]; rfl
  | (n, k) :: r, acc, h => by
    rw [List.forIn_cons, hf]
    have ih := fun acc => closure_loop env f hf r acc fun y hy => h y (List.mem_cons_of_mem _ hy)
    unfold cloFrom
    by_cases hk : (k == NameKind.free) = true
    · rw [if_pos hk, if_pos hk]
      obtain ⟨c, hc⟩ := h (n, k) List.mem_cons_self (by simpa using hk)
      have e : cellOf env n = pure c := by unfold cellOf; rw [hc]
      rw [e]
      have e2 : (env.cells.lookup n).getD 0 = c := by rw [hc]; rfl
      rw [e2]
      exact ih _
    · rw [if_neg hk, if_neg hk]
      exact ih _
theorem closure_ok {scope : Scope} {env : Env} (h : ∀ y ∈ scope.names, y.2 = .free → ∃ c, env.cells.lookup y.1 = some c) : closureFor scope env = pure (cloFrom env.cells scope.names []) := by
  simp only [closureFor]
  rw [closure_loop env _ (fun n k c => rfl) scope.names [] h]
  rfl

theorem mem_lookup {α : Type} : ∀ {l : List (Str × α)} {n : Str} {c : α}, (n, c) ∈ l → ∃ c', l.lookup n = some c'
  | (k, v) :: r, n, c, h => by
    rw [List.lookup_cons]
    cases hb : n == k with
    | true => exact ⟨_, rfl⟩
    | false =>
      rcases List.mem_cons.mp h with e | h
      · cases e; simp at hb
      · exact mem_lookup h

theorem cloFrom_mem {cells : List (Str × Addr)} : ∀ {names : List (Str × NameKind)} {acc : List (Str × Addr)} {n : Str} {c : Addr}, (n, c) ∈ cloFrom cells names acc → (n, c) ∈ acc ∨ ((n, .free) ∈ names ∧ c = (cells.lookup n).getD 0)
  | [], _, _, _, h => .inl h
  | (m, k) :: r, acc, n, c, h => by
    unfold cloFrom at h
    split at h
    · rename_i hk
      have hk : k = .free := by simpa using hk
      rcases cloFrom_mem h with h | ⟨h1, h2⟩
      · rcases List.mem_cons.mp h with e | h
        · cases e; exact .inr ⟨hk ▸ List.mem_cons_self, rfl⟩
        · exact .inl h
      · exact .inr ⟨List.mem_cons_of_mem _ h1, h2⟩
    · rcases cloFrom_mem h with h | ⟨h1, h2⟩
      · exact .inl h
      · exact .inr ⟨List.mem_cons_of_mem _ h1, h2⟩
theorem cloFrom_acc {cells : List (Str × Addr)} : ∀ {names : List (Str × NameKind)} {acc : List (Str × Addr)} {p : Str × Addr}, p ∈ acc → p ∈ cloFrom cells names acc
  | [], _, _, h => h
  | (m, k) :: r, acc, p, h => by
    unfold cloFrom
    split
    · exact cloFrom_acc (List.mem_cons_of_mem _ h)
    · exact cloFrom_acc h
theorem cloFrom_has {cells : List (Str × Addr)} : ∀ {names : List (Str × NameKind)} {acc : List (Str × Addr)} {n : Str}, (n, .free) ∈ names → (n, (cells.lookup n).getD 0) ∈ cloFrom cells names acc
  | (m, k) :: r, acc, n, h => by
    unfold cloFrom
    rcases List.mem_cons.mp h with e | h
    · cases e
      exact cloFrom_acc List.mem_cons_self
    · split
      · exact cloFrom_has h
      · exact cloFrom_has h

theorem cells_mem : ∀ {names : List (Str × NameKind)} {h : Heap} {acc : List (Str × Addr)} {x : Str} {c : Addr}, (x, c) ∈ cellsFrom h.objs.size names acc →
    (x, c) ∈ acc ∨ ((x, .cell) ∈ names ∧ h.objs.size ≤ c ∧ CellAt (pushCells h names) c none)
  | [], _, _, _, _, h => .inl h
  | (n, k) :: r, h, acc, x, c, hm => by
    unfold cellsFrom at hm
    unfold pushCells
    split at hm
    · rename_i hk
      rw [if_pos hk]
      have hk : k = .cell := by simpa using hk
      rw [← Heap.size_push h { cls := .type "cell", data := .cell none }] at hm
      rcases cells_mem hm with hm | ⟨h1, h2, h3⟩
      · rcases List.mem_cons.mp hm with e | hm
        · cases e
          exact .inr ⟨hk ▸ List.mem_cons_self, Nat.le_refl _, _, pushCells_keeps r _ _ _ (Heap.get?_push_size _ rfl), rfl⟩
        · exact .inl hm
      · rw [Heap.size_push] at h2
        exact .inr ⟨List.mem_cons_of_mem _ h1, Nat.le_of_succ_le h2, h3⟩
    · rename_i hk
      rw [if_neg hk]
      rcases cells_mem hm with hm | ⟨h1, h2, h3⟩
      · exact .inl hm
      · exact .inr ⟨List.mem_cons_of_mem _ h1, h2, h3⟩
theorem cells_acc : ∀ {names : List (Str × NameKind)} {n : Nat} {acc : List (Str × Addr)} {p : Str × Addr}, p ∈ acc → p ∈ cellsFrom n names acc
  | [], _, _, _, h => h
  | (m, k) :: r, n, acc, p, h => by
    unfold cellsFrom
    split
    · exact cells_acc (List.mem_cons_of_mem _ h)
    · exact cells_acc h
theorem cells_has : ∀ {names : List (Str × NameKind)} {n : Nat} {acc : List (Str × Addr)} {x : Str}, (x, .cell) ∈ names → ∃ c, (x, c) ∈ cellsFrom n names acc
  | (m, k) :: r, n, acc, x, h => by
    unfold cellsFrom
    rcases List.mem_cons.mp h with e | h
    · cases e
      exact ⟨n, cells_acc List.mem_cons_self⟩
    · split
      · exact cells_has h
      · exact cells_has h
theorem cells_inj : ∀ {names : List (Str × NameKind)} {h : Heap} {acc : List (Str × Addr)} {x y : Str} {c : Addr}, (∀ p ∈ acc, p.2 < h.objs.size) → (∀ x y c, (x, c) ∈ acc → (y, c) ∈ acc → x = y) →
    (x, c) ∈ cellsFrom h.objs.size names acc → (y, c) ∈ cellsFrom h.objs.size names acc → x = y
  | [], _, _, _, _, _, _, hi, h1, h2 => hi _ _ _ h1 h2
  | (n, k) :: r, h, acc, x, y, c, hl, hi, h1, h2 => by
    unfold cellsFrom at h1 h2
    split at h1
    · rename_i hk
      rw [if_pos hk] at h2
      rw [← Heap.size_push h { cls := .type "cell", data := .cell none }] at h1 h2
      refine cells_inj (h := h.push _) (fun p hp => ?_) (fun x y c a b => ?_) h1 h2
      · rw [Heap.size_push]
        rcases List.mem_cons.mp hp with rfl | hp
        · exact Nat.lt_succ_self _
        · exact Nat.lt_succ_of_lt (hl p hp)
      · rcases List.mem_cons.mp a with e | a <;> rcases List.mem_cons.mp b with e' | b
        · cases e; cases e'; rfl
        · cases e; exact absurd (hl _ b) (Nat.lt_irrefl _)
        · cases e'; exact absurd (hl _ a) (Nat.lt_irrefl _)
        · exact hi _ _ _ a b
    · rename_i hk
      rw [if_neg hk] at h2
      exact cells_inj hl hi h1 h2

theorem newEnv_comp {M : Model} {A : Around} {E : Value → Shared → Prop} {s : Shared} {scope : Scope} {globals : Addr} {closure : List (Str × Addr)} {qual : Str} {func : Option Addr} {code : Value} {around : Env} {builtins : Addr} {Q : Env → Shared → Prop}
    (h : Q (newEnv scope s.heap.objs.size globals (cellsFrom (s.heap.objs.size + 1) scope.names closure) qual func code (some around) builtins)
      { s with heap := pushCells (s.heap.push { cls := .type "dict", data := .dict #[] }) scope.names }) :
    wpAny M A (newFunctionEnv scope globals closure [] qual func code (some around) builtins) Q E s := by
  simp only [newFunctionEnv, Option.isSome_some, if_true]
  refine wpAny_bind (wpAny_alloc ?_)
  refine wpAny_bind (wpAny_layCells _ (fun n k c => rfl) scope.names closure _ _ ?_)
  rw [show ({ s with heap := s.heap.push { cls := .type "dict", data := .dict #[] } } : Shared).heap.objs.size = s.heap.objs.size + 1 from Heap.size_push ..]
  rw [List.forIn_nil]
  exact wpAny_bind (wpAny_pure (wpAny_pure h))

/-- every name of the written scope, in the scope that runs -/
theorem lookup_relS {sc : Scope} : ∀ {names : List (Str × NameKind)} {x : Str} {k : NameKind},
    (names.map fun (n, k) => if (k == NameKind.free && sc.kind == .function && sc.names.lookup n == some .cell) then (n, NameKind.cell) else (n, k)).lookup x = some k →
    ∃ k', names.lookup x = some k' ∧ (k = k' ∨ (k' = .free ∧ k = .cell))
  | [], _, _, h => by simp at h
  | (n, k₀) :: r, x, k, h => by
    have ih := @lookup_relS sc r x k
    have h' : List.lookup x ((if (k₀ == NameKind.free && sc.kind == .function && sc.names.lookup n == some .cell) = true then (n, NameKind.cell) else (n, k₀)) :: (r.map _)) = some k := h
    cases hx : x == n with
    | true =>
      simp only [List.lookup_cons, hx]
      by_cases hc : (k₀ == NameKind.free && sc.kind == .function && sc.names.lookup n == some .cell) = true
      · rw [if_pos hc] at h'
        simp only [List.lookup_cons, hx] at h'
        cases h'
        simp only [Bool.and_eq_true, beq_iff_eq] at hc
        exact ⟨k₀, rfl, .inr ⟨hc.1.1, rfl⟩⟩
      · rw [if_neg hc] at h'
        simp only [List.lookup_cons, hx] at h'
        cases h'
        exact ⟨_, rfl, .inl rfl⟩
    | false =>
      simp only [List.lookup_cons, hx]
      by_cases hc : (k₀ == NameKind.free && sc.kind == .function && sc.names.lookup n == some .cell) = true
      · rw [if_pos hc] at h'
        simp only [List.lookup_cons, hx] at h'
        exact ih h'
      · rw [if_neg hc] at h'
        simp only [List.lookup_cons, hx] at h'
        exact ih h'
/-- the names of a comprehension's block: its own (with their places in N), or captured -/
structure BlkOk (N : List Str) (sc scope : Scope) (own : List (Str × Nat)) : Prop where
  kind : scope.kind = .function
  uniq : ∀ y ∈ scope.names, scope.names.lookup y.1 = some y.2
  ix : ∀ p ∈ own, N[p.2]? = some p.1
  free : ∀ y ∈ scope.names, y.2 = .free → sc.names.lookup y.1 = some .cell ∨ sc.names.lookup y.1 = some .free
  own : ∀ y ∈ scope.names, y.2 = .local ∨ y.2 = .cell → y.1 ∈ own.map (·.1) ∨ y.1 ∉ N
/-- the slots of the block's own names forgotten -/
def wipe (σ : St) : List Nat → St
  | [] => σ
  | v :: vs => (wipe σ vs).set v none
theorem wipe_length (σ : St) : ∀ vs : List Nat, (wipe σ vs).length = σ.length
  | [] => rfl
  | v :: vs => by unfold wipe; rw [List.length_set, wipe_length σ vs]
theorem wipe_some {σ : St} {i : Nat} {x : V} : ∀ {vs : List Nat}, (wipe σ vs)[i]? = some (some x) → σ[i]? = some (some x) ∧ i ∉ vs
  | [], h => ⟨h, by simp⟩
  | v :: vs, h => by
    unfold wipe at h
    by_cases hi : v = i
    · subst hi
      by_cases hv : v < (wipe σ vs).length
      · rw [List.getElem?_set_self hv] at h; cases h
      · rw [List.getElem?_eq_none (by simpa using hv)] at h; cases h
    · rw [List.getElem?_set_ne hi] at h
      obtain ⟨h1, h2⟩ := wipe_some h
      exact ⟨h1, by simp only [List.mem_cons, not_or]; exact ⟨fun e => hi e.symm, h2⟩⟩

/-- the context of a block that starts at s, its iterator's objects at fp -/
abbrev Cx.blk (X : Cx) (s : Shared) (H : Hp) (scope : Scope) (cenv : Env) (fp : List Addr) : Cx := { X with s_0 := s, H_0 := H, env := cenv, outer := X.stack, ex := fp, fn := fun x => scope.names.lookup x == some .cell, pn := [], xe := fun _ _ => False }
section
variable {X : Cx} {pins : List (Addr × Obj)} {σ : St} {H : Hp} {s : Shared}
theorem block_start {scope : Scope} {own : List (Str × Nat)} {fp : List Addr} (I : Inv X pins σ H s) (ok : BlkOk X.N X.env.scope scope own) (hN : X.N.Nodup) (hfp : ∀ b ∈ fp, FpOk X pins H b ∧ b < s.heap.objs.size) :
    Inv (X.blk s H scope (compEnvC scope (cellsFrom (s.heap.objs.size + 1) scope.names (cloFrom X.env.cells scope.names [])) s.heap.objs.size X.env) fp) [] (wipe σ (own.map (·.2))) H { s with heap := pushCells (s.heap.push { cls := .type "dict", data := .dict #[] }) scope.names } := by
  have hfree : ∀ y ∈ scope.names, y.2 = .free → ∃ c, X.env.cells.lookup y.1 = some c := fun y hy e => by
    rcases ok.free y hy e with k | k
    · exact I.ok.has _ (.inl k)
    · exact I.ok.has _ (.inr k)
  generalize hcenv : compEnvC scope (cellsFrom (s.heap.objs.size + 1) scope.names (cloFrom X.env.cells scope.names [])) s.heap.objs.size X.env = cenv
  have kp : ∀ b o, s.heap.get? b = some o → (pushCells (s.heap.push { cls := .type "dict", data := .dict #[] }) scope.names).get? b = some o := fun b o e => pushCells_keeps _ _ _ _ (Heap.get?_push_of_some _ e)
  have hL : cenv.locals = s.heap.objs.size := by rw [← hcenv]; rfl
  have hcl : cenv.cells = cellsFrom (s.heap.objs.size + 1) scope.names (cloFrom X.env.cells scope.names []) := by rw [← hcenv]; rfl
  have hsc : cenv.scope = relS scope X.env.scope := by rw [← hcenv]; rfl
  rw [← Heap.size_push s.heap { cls := .type "dict", data := .dict #[] }] at hcl
  have cm : ∀ {y c}, (y, c) ∈ cloFrom X.env.cells scope.names [] → X.env.cells.lookup y = some c ∧ c < s.heap.objs.size := fun {y c} hm => by
    rcases cloFrom_mem hm with hm | ⟨h1, rfl⟩
    · cases hm
    · obtain ⟨c, hc⟩ := hfree _ h1 rfl
      rw [hc]
      obtain ⟨w, z⟩ := I.cell _ _ hc
      exact ⟨rfl, z.lt⟩
  have mem : ∀ {y c}, cenv.cells.lookup y = some c → (X.env.cells.lookup y = some c ∧ c < s.heap.objs.size) ∨ (s.heap.objs.size + 1 ≤ c ∧ CellAt (pushCells (s.heap.push { cls := .type "dict", data := .dict #[] }) scope.names) c none) := fun {y c} e => by
    rw [hcl] at e
    rcases cells_mem (PySem.mem_of_lookup e) with hm | ⟨_, h2, h3⟩
    · exact .inl (cm hm)
    · rw [Heap.size_push] at h2; exact .inr ⟨h2, h3⟩
  have look : ∀ {y}, scope.names.lookup y = some .free → ∃ c, cenv.cells.lookup y = some c ∧ X.env.cells.lookup y = some c := fun {y} hl => by
    have hy : (y, NameKind.free) ∈ scope.names := PySem.mem_of_lookup hl
    obtain ⟨c', e'⟩ := mem_lookup (cells_acc (names := scope.names) (n := (s.heap.push { cls := .type "dict", data := .dict #[] }).objs.size) (cloFrom_has (cells := X.env.cells) (acc := []) hy))
    rw [← hcl] at e'
    refine ⟨c', e', ?_⟩
    rw [hcl] at e'
    rcases cells_mem (PySem.mem_of_lookup e') with hm | ⟨h1, _, _⟩
    · exact (cm hm).1
    · have := ok.uniq _ h1
      rw [hl] at this; cases this
  have okB : (X.blk s H scope cenv fp).Ok := by
    refine ⟨I.ok.mod, by show cenv.scope.kind = _; rw [hsc]; exact ok.kind, by show cenv.globals = _; rw [← hcenv]; exact I.ok.glob, by show cenv.builtins = _; rw [← hcenv]; exact I.ok.blt, by show s.heap.objs.size ≤ cenv.locals; rw [hL]; exact Nat.le_refl _,
      fun y z c e1 e2 => ?_, fun y hy => ?_, fun y c z e => ?_, I.ok.hd, I.ok.frames, .inl rfl, fun b hb => ⟨?_, fun y c e z => ?_⟩, I.bs, Nat.le_trans I.ok.bsz I.sz, fun b o e hb => ?_, fun b hb z => ?_, I.stack, I.stkFree⟩
    · have e1 : cenv.cells.lookup y = some c := e1
      have e2 : cenv.cells.lookup z = some c := e2
      rw [hcl] at e1 e2
      refine cells_inj (fun p hp => ?_) (fun y z c a b => I.ok.inj y z c (cm a).1 (cm b).1) (PySem.mem_of_lookup e1) (PySem.mem_of_lookup e2)
      rw [Heap.size_push]
      exact Nat.lt_succ_of_lt (cm (y := p.1) (c := p.2) hp).2
    · show ∃ c, cenv.cells.lookup y = some c
      have key : ∀ k, cenv.kindOf y = some k → (k = .cell ∨ k = .free) → ∃ c, cenv.cells.lookup y = some c := fun k hk hk' => by
        unfold Env.kindOf at hk
        rw [hsc] at hk
        obtain ⟨k', e, r⟩ := lookup_relS hk
        have : k' = .cell ∨ k' = .free := by
          rcases r with rfl | ⟨rfl, _⟩
          · exact hk'
          · exact .inr rfl
        rcases this with rfl | rfl
        · obtain ⟨c, hm⟩ := cells_has (n := (s.heap.push { cls := .type "dict", data := .dict #[] }).objs.size) (acc := cloFrom X.env.cells scope.names []) (PySem.mem_of_lookup e)
          obtain ⟨c', e'⟩ := mem_lookup hm
          exact ⟨c', by rw [hcl]; exact e'⟩
        · obtain ⟨c, h1, _⟩ := look e
          exact ⟨c, h1⟩
      rcases hy with hy | hy
      · exact key _ hy (.inl rfl)
      · exact key _ hy (.inr rfl)
    · have z : (scope.names.lookup y == some NameKind.cell) = true := z
      have z : scope.names.lookup y = some .cell := by simpa using z
      have e : cenv.cells.lookup y = some c := e
      rw [hcl] at e
      rcases cells_mem (PySem.mem_of_lookup e) with hm | ⟨_, h2, _⟩
      · rcases cloFrom_mem hm with hm | ⟨h1, _⟩
        · cases hm
        · have q := ok.uniq _ h1
          rw [z] at q; cases q
      · rw [Heap.size_push] at h2
        exact Nat.le_of_succ_le h2
    · show b ≠ cenv.locals
      rw [hL]; exact Nat.ne_of_lt (hfp b hb).2
    · have e : cenv.cells.lookup y = some c := e
      rcases mem e with ⟨h1, _⟩ | ⟨h1, _⟩
      · exact (hfp b hb).1.2.2.2.2.1 y c h1 z
      · have h2 : s.heap.objs.size + 1 ≤ b := by rw [← z]; exact h1
        exact absurd (Nat.lt_of_lt_of_le (hfp b hb).2 (Nat.le_of_succ_le h2)) (Nat.lt_irrefl _)
    · rcases (hfp b hb).1.2.2.2.1 with z | z
      · exact I.ok.noex b o e z
      · exact absurd (Nat.lt_of_lt_of_le (Heap.lt_size e) (Nat.le_trans I.ok.bsz z)) (Nat.lt_irrefl _)
    · rcases List.mem_cons.mp (I.stkSub b z) with z | z
      · exact (hfp b hb).1.2.1 z
      · exact (hfp b hb).1.2.2.1 z
  refine ⟨okB, rfl, I.bare, Un.kept kp, ⟨fun _ => none, ?_, fun i y av e1 e2 e3 => ?_⟩, fun y c e => ?_, ?_, fun y c e => ?_, fun p hp => ?_, I.hok.kept kp, by rw [wipe_length]; exact I.len⟩
  · show Heap.Ns _ cenv.locals _
    rw [hL]
    exact Heap.Ns.keeps (Heap.Ns.new ..) fun b o e => pushCells_keeps _ _ _ _ e
  · obtain ⟨e2, hne⟩ := wipe_some e2
    have hfr : scope.names.lookup y = some .free ∧ (cenv.kindOf y = some .cell ∨ cenv.kindOf y = some .free) := by
      have key : ∀ k, cenv.scope.names.lookup y = some k → k = .local ∨ k = .cell ∨ k = .free → scope.names.lookup y = some .free ∧ (cenv.kindOf y = some .cell ∨ cenv.kindOf y = some .free) := fun k hk hk' => by
        have hk0 := hk
        rw [hsc] at hk
        obtain ⟨k', e, r⟩ := lookup_relS hk
        have no : ¬ (k' = .local ∨ k' = .cell) := fun hh => by
          rcases ok.own _ (PySem.mem_of_lookup e) hh with e' | e'
          · obtain ⟨p, hp, hpy⟩ := List.mem_map.mp e'
            have e3 := ok.ix p hp
            have : p.1 = y := hpy
            rw [this] at e3
            exact hne (List.mem_map.mpr ⟨p, hp, nodup_ix hN e3 e1⟩)
          · exact e' (List.mem_of_getElem? e1)
        rcases r with rfl | ⟨rfl, rfl⟩
        · rcases hk' with rfl | rfl | rfl
          · exact absurd (.inl rfl) no
          · exact absurd (.inr rfl) no
          · exact ⟨e, .inr hk0⟩
        · exact ⟨e, .inl hk0⟩
      have e3 : Vis cenv.scope y := e3
      rcases e3 with e3 | e3 | e3
      · exact key _ e3 (.inl rfl)
      · exact key _ e3 (.inr (.inl rfl))
      · exact key _ e3 (.inr (.inr rfl))
    obtain ⟨m, hn, hl⟩ := I.loc
    have hvis : Vis X.env.scope y := (ok.free _ (PySem.mem_of_lookup hfr.1) rfl).elim (fun k => .inr (.inl k)) (fun k => .inr (.inr k))
    obtain ⟨w, r, q⟩ := hl i y av e1 e2 hvis
    refine ⟨w, r, .inr ⟨hfr.2, ?_⟩⟩
    obtain ⟨c, h1, h2⟩ := look hfr.1
    rcases q with ⟨k, _⟩ | ⟨_, c', e', z⟩
    · have k : X.env.scope.names.lookup y = some .local := k
      rcases ok.free _ (PySem.mem_of_lookup hfr.1) rfl with k' | k' <;> rw [show X.env.scope.names.lookup y = _ from k'] at k <;> cases k
    · rw [h2] at e'; cases e'
      exact ⟨c, h1, z.keeps kp⟩
  · have e : cenv.cells.lookup y = some c := e
    rcases mem e with ⟨h1, _⟩ | ⟨_, z⟩
    · obtain ⟨w, z⟩ := I.cell y c h1
      exact ⟨w, z.keeps kp⟩
    · exact ⟨_, z⟩
  · show H cenv.locals = none
    rw [hL]; exact I.hok.fresh (Nat.le_refl _)
  · have e : cenv.cells.lookup y = some c := e
    rcases mem e with ⟨h1, _⟩ | ⟨h1, _⟩
    · exact I.freeC y c h1
    · exact I.hok.fresh (Nat.le_of_succ_le h1)
  · exact absurd (show p ∈ ([] : List (Addr × Obj)) ++ [] from hp) (by simp)

/-- an item appended to a tracked list -/
theorem app_ok {E : Value → Shared → Prop} {D : Addr} {xs : List V} {y : V} {v : Value} {Q : Value → Shared → Prop} (I : Inv X pins σ H s) (hD : H D = some (.lst xs)) (hz : xs.length < sizeLine) (r : RelV y v)
    (h : ∀ s', Inv X pins σ (upd H D (.lst (xs ++ [y]))) s' → Q .none s') : wpAny (model X.prog X.w) X.A (call (.builtin "list.append") [.ref D, v]) Q E s := by
  obtain ⟨hz', its, n, ri, e⟩ := I.hok D _ hD
  have hl := ri.length
  refine append_at (hsz := by rw [List.size_toArray]; omega) e fun h' sb ho' => ?_
  refine h { s with heap := h' } (I.write (t' := s.toks) (by rw [hD]; trivial) (.inl rfl) (fun b u hb q => (sb.2 b hb).trans q) ⟨_, ho'⟩ ⟨by rw [List.length_append]; exact hz, its ++ [v], n + 1, ri.append (.cons r .nil), ?_⟩)
  rw [ho']
  simp

/-- a clause's tests -/
def PTs (X : Cx) (ifs : List Expr) (t : TT) : Prop :=
  ∀ (pins : List (Addr × Obj)) (s : Shared) (σ : St) (H : Hp) (Q : Bool → Hp → Prop), Inv X pins σ H s → t σ H Q →
    wpAny (model X.prog X.w) X.A (forIn ifs true fun c r => if r = true then do let ok ← isTrue c X.env (eval c X.env); pure (ForInStep.yield ok) else pure (ForInStep.yield r)) (TP X pins σ Q) X.xe s
def tYes : TT := fun _ H Q => Q true H
theorem pts_nil : PTs X [] tYes := fun _ _ _ H _ I h => wpAny_tests_nil ⟨H, I, h⟩
theorem pts_one {c : Expr} {t : TT} (h : PT X c t) : PTs X [c] t := fun pins s σ H Q I hw => wpAny_tests_one (h pins s σ H Q I hw)
end

theorem thnF {α : Type} {t : Sem α} {Q Q' : α → Shared → Prop} {M : Model} {A : Around} {E : Value → Shared → Prop} {s : Shared} (h : wpAny M A t Q (fun _ _ => False) s) (hQ : ∀ a s, Q a s → Q' a s) : wpAny M A t Q' E s := wpAny_mono h hQ fun _ _ z => False.elim z

/-- the loop of a list comprehension's block, the target of any form (codeAny_compLoop_tests asks a target that no tuple goes to; statement and proof follow it, PyProof/CompMap.lean:41-61, with the step letOwnedTupleGo kept) -/
theorem compLoop_any {prog : Program} {w : World} {A : Around} {R : Result → Shared → Prop} {s : Shared} {elt target iter : Expr} {ifs : List Expr} {scope : Scope} {pos : Pos} {it acc : Value} {env : Env} (I : Nat → Shared → Prop)
    (turn : ∀ n s, I n s → wpAny (model prog w) A (pyNext it) (fun r s₁ => match r with
      | none => R (.ok .next) s₁
      | some v => wpAny (model prog w) A (letOwnedTupleGo target it v) (fun _ s₁' => wpAny (model prog w) A (assign target env v) (fun _ s₂ =>
          wpAny (model prog w) A (forIn ifs true fun c r => if r = true then do let ok ← isTrue c env (eval c env); pure (ForInStep.yield ok) else pure (ForInStep.yield r)) (fun ok s₃ =>
            if ok = true then wpAny (model prog w) A (eval elt env) (fun x s₄ =>
              wpAny (model prog w) A (call (.builtin "list.append") [acc, x]) (fun _ s₅ => ∃ m, m < n ∧ I m s₅) (notedBy (model prog w) A env fun e s' => R (.error e) s') s₄) (notedBy (model prog w) A env fun e s' => R (.error e) s') s₃
            else ∃ m, m < n ∧ I m s₃) (notedBy (model prog w) A env fun e s' => R (.error e) s') s₂) (notedBy (model prog w) A env fun e s' => R (.error e) s') s₁') (notedBy (model prog w) A env fun e s' => R (.error e) s') s₁) (notedBy (model prog w) A env fun e s' => R (.error e) s') s)
    (n : Nat) (h : I n s) :
    codeAny (model prog w) A (.compLoop (.ListComp elt [⟨target, iter, ifs, 0⟩] scope pos) 0 it acc env) R s := by
  refine codeAny_loop rfl I (fun n s hI => ?_) n h
  show wpAny _ A ((compTurn (.ListComp elt [⟨target, iter, ifs, 0⟩] scope pos) 0 it acc env).onRaise (fun x => do noteFrame x env; theTreesLotGoes x)) _ _ s
  refine wpAny_noted ?_
  rw [compTurn_list]
  refine wpAny_bind (wpAny_standAt (wpAny_bind (wpAny_mono (turn n s hI) (fun r s₁ h₁ => ?_) fun _ _ h' => h')))
  cases r with
  | none => exact wpAny_pure h₁
  | some v =>
    refine wpAny_bind (wpAny_mono h₁ (fun _ s₁' h₁' => ?_) fun _ _ h' => h')
    refine wpAny_bind (wpAny_mono h₁' (fun _ s₂ h₂ => wpAny_bind (wpAny_mono h₂ (fun ok s₃ h₃ => ?_) fun _ _ h' => h')) fun _ _ h' => h')
    cases ok with
    | false => exact wpAny_pure ⟨rfl, h₃⟩
    | true =>
      exact wpAny_bind (wpAny_bind (wpAny_mono h₃ (fun x s₄ h₄ => wpAny_bind (wpAny_mono h₄ (fun _ s₅ h₅ => wpAny_pure (wpAny_pure ⟨rfl, h₅⟩)) fun _ _ h' => h')) fun _ _ h' => h'))

section
variable {X : Cx}
/-- [elt for target in iter if ..]: D the new list; W by the turn and a measure, Nx what a turn is to reach -/
def tLc (wi : TI) (g : TG) (tt : TT) (te : TE) (vs : List Nat) : TE := fun σ H Q => wi σ H fun J H1 => ∀ D, H1 D = none → ∃ W : Nat → Nat → Hp → Prop, (∃ m, W 0 m (upd H1 D (.lst []))) ∧ ∀ i m H, W i m H →
  (J.stop i H ∧ Q (.ref D) H) ∨ (J.go i H ∧ ∃ Nx : Hp → Prop, (∀ H', Nx H' → ∃ m', m' < m ∧ W (i + 1) m' H') ∧ ∀ x H', J.yld i H x H' → g x (wipe σ vs) H' fun σ2 H2 => wipe σ2 vs = wipe σ vs ∧ tt σ2 H2 fun b H3 =>
    if b = true then te σ2 H3 fun y H4 => ∃ acc, H4 D = some (.lst acc) ∧ acc.length < sizeLine ∧ Nx (upd H4 D (.lst (acc ++ [y]))) else Nx H3)
theorem lc_core {pins : List (Addr × Obj)} {s : Shared} {σ : St} {H : Hp} {Q : VK} {elt tg iter : Expr} {ifs : List Expr} {scope : Scope} {own : List (Str × Nat)} {pos pos' : Pos} {wi : TI} {g : TG} {tt : TT} {te : TE} {use : Option (Value → Sem Unit)} {Qf : Value → Shared → Prop}
    (hc : X.calm = true) (hN : X.N.Nodup) (I : Inv X pins σ H s) (hi : PI X tg iter wi) (ok : BlkOk X.N X.env.scope scope own)
    (hg : ∀ (s : Shared) (H : Hp) (C : Addr) (cl : List (Str × Addr)) (fp : List Addr), PG (X.blk s H scope (compEnvC scope cl C X.env) fp) tg g) (ht : ∀ (s : Shared) (H : Hp) (C : Addr) (cl : List (Str × Addr)) (fp : List Addr), PTs (X.blk s H scope (compEnvC scope cl C X.env) fp) ifs tt)
    (he : ∀ (s : Shared) (H : Hp) (C : Addr) (cl : List (Str × Addr)) (fp : List Addr), PE (X.blk s H scope (compEnvC scope cl C X.env) fp) elt te) (hs : ∀ x, foldedSetIterable iter X.env x = pure x)
    (h : tLc wi g tt te (own.map (·.2)) σ H Q)
    (hRR : ∀ D C s' m H', Inv X pins σ H' s' → Q (.ref D) H' → s'.heap.Ns C m → FpOk X pins H' C → compPost (model X.prog X.w) X.A X.xe use Qf (.ref D) C (.ok .next) s') :
    wpAny (model X.prog X.w) X.A (comprehension (.ListComp elt [⟨tg, iter, ifs, 0⟩] scope pos) scope X.env pos' (newList []) false (eval iter X.env) use) Qf X.xe s := by
  have hfree : ∀ y ∈ scope.names, y.2 = .free → ∃ c, X.env.cells.lookup y.1 = some c := fun y hy e => by
    rcases ok.free y hy e with k | k
    · exact I.ok.has _ (.inl k)
    · exact I.ok.has _ (.inr k)
  refine wpAny_comprehension_free (use := use) rfl hs (closure_ok hfree) ok.kind (fun y hy e => by rw [ok.uniq y hy, e])
    (thn (hi pins s σ H _ I h) fun xv s1 hx => thn hx fun itv s2 h2 => ?_)
  obtain ⟨it, fp, tn, J, H2, e, I2, T, st2, f2, q⟩ := h2
  subst e
  refine wpAny_newObj_type (newEnv_comp ?_) (by show 0 ≤ sizeLine; decide)
  generalize hD : s2.heap.objs.size = D
  have hDn : H2 D = none := I2.hok.fresh (Nat.le_of_eq hD)
  obtain ⟨W, ⟨m0, w0⟩, turn⟩ := q D hDn
  -- the new list
  generalize hs3 : ({ s2 with heap := s2.heap.push { cls := .type "list", data := .seq ([] : List Value).toArray } } : Shared) = s3
  have I3 : Inv X pins σ (upd H2 D (.lst [])) s3 := by
    rw [← hs3]
    refine I2.laid (t' := s2.toks) (fun b o e => Heap.get?_push_of_some _ e) (Nat.le_of_eq hD) ⟨Nat.zero_le _, [], 0, .nil, ?_⟩
    rw [← hD]
    exact Heap.get?_push_size _ rfl
  have h3 : s3.heap = s2.heap.push { cls := .type "list", data := .seq ([] : List Value).toArray } := by rw [← hs3]
  have sz : ∀ b ∈ fp, b < s2.heap.objs.size := fun b hb => by
    obtain ⟨o, e, _⟩ := T.obj _ _ st2 b hb
    exact Heap.lt_size e
  have f3 : ∀ b ∈ fp, FpOk X pins (upd H2 D (.lst [])) b ∧ b < s3.heap.objs.size := fun b hb => by
    have hlt := sz b hb
    refine ⟨⟨?_, (f2 b hb).2⟩, by rw [h3, Heap.size_push]; exact Nat.lt_succ_of_lt hlt⟩
    rw [upd_ne (by rw [← hD]; exact Nat.ne_of_lt hlt)]
    exact (f2 b hb).1
  have st3 : tn 0 s3.heap := T.keep _ _ _ st2 fun b _ o e => by rw [h3]; exact Heap.get?_push_of_some _ e
  have I4 := block_start I3 ok hN f3
  have pg := hg s3 (upd H2 D (.lst [])) s3.heap.objs.size (cellsFrom (s3.heap.objs.size + 1) scope.names (cloFrom X.env.cells scope.names [])) fp
  have pt := ht s3 (upd H2 D (.lst [])) s3.heap.objs.size (cellsFrom (s3.heap.objs.size + 1) scope.names (cloFrom X.env.cells scope.names [])) fp
  have pe := he s3 (upd H2 D (.lst [])) s3.heap.objs.size (cellsFrom (s3.heap.objs.size + 1) scope.names (cloFrom X.env.cells scope.names [])) fp
  show codeAny _ _ (.compStart (.ListComp elt [⟨tg, iter, ifs, 0⟩] scope pos) 0 (.ref it) (.ref D) (compEnvC scope (cellsFrom (s3.heap.objs.size + 1) scope.names (cloFrom X.env.cells scope.names [])) s3.heap.objs.size X.env)) (compPost (model X.prog X.w) X.A X.xe use Qf (.ref D) s3.heap.objs.size) { s3 with heap := pushCells (s3.heap.push { cls := .type "dict", data := .dict #[] }) scope.names }
  have nfp : ∀ b ∈ fp, (upd H2 D (.lst [])) b = none := fun b hb => (f3 b hb).1.1
  generalize hce : compEnvC scope (cellsFrom (s3.heap.objs.size + 1) scope.names (cloFrom X.env.cells scope.names [])) s3.heap.objs.size X.env = ce at I4 pg pt pe ⊢
  have cL : ce.locals = s3.heap.objs.size := by subst hce; rfl
  generalize hH3 : upd H2 D (.lst []) = H3 at I3 I4 pg pt pe w0 nfp f3
  generalize hs4 : ({ s3 with heap := pushCells (s3.heap.push { cls := .type "dict", data := .dict #[] }) scope.names } : Shared) = s4 at I4 ⊢
  have st4 : tn 0 s4.heap := T.keep _ _ _ st3 fun b _ o e => by rw [← hs4]; exact pushCells_keeps _ _ _ _ (Heap.get?_push_of_some _ e)
  have stat : ∀ {σ' : St} {H' : Hp} {s' : Shared}, Inv (X.blk s3 H3 scope ce fp) [] σ' H' s' → (∀ b ∈ fp, H' b = none) → ∀ b ∈ fp, FpOk (X.blk s3 H3 scope ce fp) [] H' b := fun {σ' H' s'} I' hn b hb =>
    ⟨hn b hb, (I'.ok.exf b hb).1, I'.ok.exfs b hb, .inl hb, fun x c e => (I'.ok.exf b hb).2 x c e, fun p hp => absurd (show p ∈ ([] : List (Addr × Obj)) ++ [] from hp) (by simp)⟩
  have loop : codeAny (model X.prog X.w) X.A (.compLoop (.ListComp elt [⟨tg, iter, ifs, 0⟩] scope pos) 0 (.ref it) (.ref D) ce) (compPost (model X.prog X.w) X.A X.xe use Qf (.ref D) s3.heap.objs.size) s4 := by
    refine compLoop_any (fun n s' => ∃ i H', Inv (X.blk s3 H3 scope ce fp) [] (wipe σ (own.map (·.2))) H' s' ∧ tn i s'.heap ∧ (∀ b ∈ fp, H' b = none) ∧ W i n H') ?_ m0 ⟨0, H3, I4, st4, nfp, w0⟩
    rintro n s5 ⟨i, H5, I5, st5, n5, w5⟩
    rcases turn i n H5 w5 with ⟨stop, qq⟩ | ⟨go, Nx, hNx, step⟩
    · have td := T.done (X.blk s3 H3 scope ce fp) rfl rfl rfl hc i [] s5 _ H5 (fun _ _ => False) I5 (stat I5 n5) st5 stop
      refine thnF td fun r s6 ⟨hr, I6⟩ => ?_
      subst hr
      -- back in the def's context
      have I7 : Inv X pins σ H5 s6 := I3.call' (ch := fp) I6.os I6.base I6.hok I6.bare fun b hb => ⟨(f3 b hb).1.2.2.2.1, (f3 b hb).1.2.1, (f3 b hb).1.2.2.2.2.1, (f3 b hb).1.2.2.2.2.2⟩
      have nC : H5 s3.heap.objs.size = none := by
        have z : H5 ce.locals = none := I6.free
        rw [cL] at z
        exact z
      obtain ⟨m, hn, _⟩ := I6.loc
      have hn : s6.heap.Ns ce.locals m := hn
      rw [cL] at hn
      exact hRR D s3.heap.objs.size s6 m H5 I7 qq hn (I3.fpOk (Nat.le_refl _) nC)
    · have ti := T.item (X.blk s3 H3 scope ce fp) rfl rfl rfl hc i [] s5 _ H5 (fun _ _ => False) I5 (stat I5 n5) st5 go
      refine thnF ti fun r s6 ⟨u, hr, h6⟩ => ?_
      subst hr
      refine thnF h6 fun _ s7 ⟨x, H7, I7, r7, y7, st7, n7⟩ => ?_
      have I7' := I7.pinned (stat I7 n7) (T.obj _ _ st7)
      refine thnF (pg _ s7 _ H7 x u _ I7' r7 (step x H7 y7)) fun _ s8 ⟨σ8, H8, I8, hw8, q8⟩ => ?_
      refine thnF (pt _ s8 σ8 H8 _ I8 q8) fun b s9 ⟨H9, I9, q9⟩ => ?_
      -- the turn's end
      have fin : ∀ {s' : Shared} {H' : Hp}, Inv (X.blk s3 H3 scope ce fp) ([] ++ pinsAt fp s7.heap) σ8 H' s' → Nx H' → ∃ m, m < n ∧ ∃ i H', Inv (X.blk s3 H3 scope ce fp) [] (wipe σ (own.map (·.2))) H' s' ∧ tn i s'.heap ∧ (∀ b ∈ fp, H' b = none) ∧ W i m H' := fun {s' H'} I' nx => by
        obtain ⟨m', hm, w'⟩ := hNx H' nx
        have pin' : ∀ b ∈ fp, ∀ o, s7.heap.get? b = some o → s'.heap.get? b = some o ∧ H' b = none := fun b hb o e =>
          let z := I'.pin (b, o) (List.mem_append_right _ (List.mem_append_right _ (mem_pinsAt hb e)))
          ⟨z.1, z.2.1⟩
        have hl : (wipe σ (own.map (·.2))).length = σ8.length := by rw [← hw8, wipe_length]
        refine ⟨m', hm, i + 1, H', (I'.unpinned (pins := [])).weak hl (fun j v e => ?_), T.keep _ _ _ st7 fun b hb o e => (pin' b hb o e).1, fun b hb => ?_, w'⟩
        · rw [← hw8] at e
          exact (wipe_some e).1
        · obtain ⟨o, e, _⟩ := T.obj _ _ st7 b hb
          exact (pin' b hb o e).2
      cases b with
      | false =>
        simp only [Bool.false_eq_true, if_false] at q9 ⊢
        exact fin I9 q9
      | true =>
        simp only [if_true] at q9 ⊢
        refine thnF (pe _ s9 σ8 H9 _ I9 q9) fun z s10 ⟨yv, H10, I10, r10, acc, hD10, hz10, nx⟩ => ?_
        exact app_ok (X := X.blk s3 H3 scope ce fp) I10 hD10 hz10 r10 fun s11 I11 => fin I11 nx
  exact codeAny_compStart_list loop (T.self X.A 0 _ _ _ st4 loop)
/-- as a value -/
theorem pe_lc {elt tg iter : Expr} {ifs : List Expr} {scope : Scope} {own : List (Str × Nat)} {pos : Pos} {wi : TI} {g : TG} {tt : TT} {te : TE} (hc : X.calm = true) (hN : X.N.Nodup) (hi : PI X tg iter wi) (ok : BlkOk X.N X.env.scope scope own)
    (hg : ∀ (s : Shared) (H : Hp) (C : Addr) (cl : List (Str × Addr)) (fp : List Addr), PG (X.blk s H scope (compEnvC scope cl C X.env) fp) tg g) (ht : ∀ (s : Shared) (H : Hp) (C : Addr) (cl : List (Str × Addr)) (fp : List Addr), PTs (X.blk s H scope (compEnvC scope cl C X.env) fp) ifs tt)
    (he : ∀ (s : Shared) (H : Hp) (C : Addr) (cl : List (Str × Addr)) (fp : List Addr), PE (X.blk s H scope (compEnvC scope cl C X.env) fp) elt te) (hs : ∀ x, foldedSetIterable iter X.env x = pure x := by intro _; rfl) :
    PE X (.ListComp elt [⟨tg, iter, ifs, 0⟩] scope pos) (tLc wi g tt te (own.map (·.2))) := by
  intro pins s σ H Q I h
  rw [eval_ListComp]
  refine lc_core hc hN I hi ok hg ht he hs h fun D C s' m H' I' q hn f => ⟨m, hn, fun h'' sb => ?_⟩
  obtain ⟨f0, f1, f2, f3, f4, f5⟩ := f
  exact ⟨.ref D, H', I'.turned (t' := s'.toks) (fun b o hb e => (sb.2 b hb).trans e) f0 f1 f3 f4 f5, rfl, q⟩
/-- name = [..] on one line, the name a local -/
theorem ps_setLc {i : Nat} {y : Str} {py : Pos} {elt tg iter : Expr} {ifs : List Expr} {scope : Scope} {own : List (Str × Nat)} {pos spos : Pos} {wi : TI} {g : TG} {tt : TT} {te : TE} (hc : X.calm = true) (hN : X.N.Nodup) (hy : X.N[i]? = some y) (hyl : X.env.scope.names.lookup y = some .local)
    (hsw : swapsWith (.ListComp elt [⟨tg, iter, ifs, 0⟩] scope pos) (some (.Name y py)) spos.line X.env = pure true) (hi : PI X tg iter wi) (ok : BlkOk X.N X.env.scope scope own)
    (hg : ∀ (s : Shared) (H : Hp) (C : Addr) (cl : List (Str × Addr)) (fp : List Addr), PG (X.blk s H scope (compEnvC scope cl C X.env) fp) tg g) (ht : ∀ (s : Shared) (H : Hp) (C : Addr) (cl : List (Str × Addr)) (fp : List Addr), PTs (X.blk s H scope (compEnvC scope cl C X.env) fp) ifs tt)
    (he : ∀ (s : Shared) (H : Hp) (C : Addr) (cl : List (Str × Addr)) (fp : List Addr), PE (X.blk s H scope (compEnvC scope cl C X.env) fp) elt te) (hs : ∀ x, foldedSetIterable iter X.env x = pure x := by intro _; rfl) :
    PS X (.Assign [.Name y py] (.ListComp elt [⟨tg, iter, ifs, 0⟩] scope pos) spos) (tAsg (tLc wi g tt te (own.map (·.2))) (gName i)) := by
  intro pins s σ H D I h
  rw [exec_Assign_Name_used _ _ _ _ hsw]
  refine wpAny_bind (wpAny_standAt (wpAny_bind ?_))
  show wpAny _ X.A (do let _ ← comprehension (.ListComp elt [⟨tg, iter, ifs, 0⟩] scope pos) scope X.env (firstIterPos [⟨tg, iter, ifs, 0⟩] pos) (newList []) false (eval iter X.env) (some (assign (.Name y py) X.env))) _ _ s
  have h : tLc wi g tt te (own.map (·.2)) σ H (fun x H1 => gName i x σ H1 D.nx) := h
  refine wpAny_bind (thn (lc_core (Qf := fun _ s' => SP X pins D .next s') hc hN I hi ok hg ht he hs h fun L C s' m H' I' q hn f => ?_) fun _ s' hq => wpAny_pure (wpAny_pure hq))
  show wpAny _ _ (assign (.Name y py) X.env (.ref L)) _ _ _
  refine wpAny_assign_Name (store_ok2 (v := V.ref L) I' hN hy (.inl hyl) rfl (fun s2 I2 ⟨a, sb, ha⟩ => ?_) (.inr hyl))
  obtain ⟨f0, f1, f2, f3, f4, f5⟩ := f
  have haC : C ≠ a := by
    rcases ha with z | z
    · rw [z]; exact f1
    · exact fun e => f4 y a z e.symm
  refine ⟨m, hn.sameBut sb haC, fun h3 sb3 => ?_⟩
  exact ⟨_, H', I2.turned (t' := s2.toks) (fun b o hb e => (sb3.2 b hb).trans e) f0 f1 f3 f4 f5, q⟩
theorem sw_true {elt : Expr} {gs : List Comprehension} {scope : Scope} {pos py : Pos} {y : Str} {l : Nat} {env : Env} (hk : env.scope.kind = .function) (hy : env.scope.names.lookup y = some .local) (hl : (py.line == pos.line) = true)
    (ha : (scope.names.any fun (n, k) => n == y && (k == .local || k == .cell)) = false) : swapsWith (.ListComp elt gs scope pos) (some (.Name y py)) l env = pure true := by
  have ky : env.kindOf y = some .local := hy
  have hb : env.blockKind = .function := by unfold Env.blockKind; rw [hk]; rfl
  unfold swapsWith
  simp only [hb, ky, ha, Expr.pos, hl]
  rfl
end

/-! ### the forms one uses -/
def blkC (N : List Str) (sc scope : Scope) (own : List (Str × Nat)) : Bool :=
  (match scope.kind with | .function => true | _ => false) && (scope.names.all fun y => decide (scope.names.lookup y.1 = some y.2)) && (own.all fun p => decide (N[p.2]? = some p.1)) &&
    (scope.names.all fun y => match y.2 with
      | .free => (match sc.names.lookup y.1 with | some .cell => true | some .free => true | _ => false)
      | .local => decide (y.1 ∈ own.map (·.1)) || decide (y.1 ∉ N)
      | .cell => decide (y.1 ∈ own.map (·.1)) || decide (y.1 ∉ N)
      | _ => true)
theorem blkOk_by {N : List Str} {sc scope : Scope} {own : List (Str × Nat)} (h : blkC N sc scope own = true) : BlkOk N sc scope own := by
  unfold blkC at h
  simp only [Bool.and_eq_true, List.all_eq_true, decide_eq_true_eq] at h
  obtain ⟨⟨⟨h1, h2⟩, h3⟩, h4⟩ := h
  refine ⟨?_, h2, h3, fun y hy e => ?_, fun y hy e => ?_⟩
  · split at h1
    · assumption
    · cases h1
  · have q := h4 y hy
    simp only [e] at q
    split at q <;> first | exact .inl (by assumption) | exact .inr (by assumption) | cases q
  · have q := h4 y hy
    rcases e with e | e <;> (simp only [e, Bool.or_eq_true, decide_eq_true_eq] at q; exact q)
end L2

namespace L2
open PySem PySem.Spec PyProof.Rows

section
variable {prog : Program} {w : World} {A : Around} {R : Result → Shared → Prop} {s : Shared} {elt t0 i0 t1 i1 : Expr} {ifs0 ifs1 : List Expr} {scope : Scope} {pos : Pos} {it acc : Value} {env : Env}
end

section
variable {X : Cx}
end
end L2

namespace L2
open PySem PySem.Spec PyProof.Rows

/-! ### lists of pairs as tables -/
section
variable {κ : Type} [DecidableEq κ]
def valV (kvs : List (κ × V)) (k : κ) : Option V := (kvs.find? fun kv => decide (kv.1 = k)).map (·.2)
/-- in its place, or at the end -/
def putK (kvs : List (κ × V)) (k : κ) (v : V) : List (κ × V) :=
  if (kvs.any fun kv => decide (kv.1 = k)) = true then kvs.map (fun kv => if kv.1 = k then (kv.1, v) else kv) else kvs ++ [(k, v)]
def dropK (kvs : List (κ × V)) (k : κ) : List (κ × V) := kvs.filter fun kv => decide (kv.1 ≠ k)

theorem valV_pos {p : κ × V} {r : List (κ × V)} {k : κ} (e : p.1 = k) : valV (p :: r) k = some p.2 := by simp [valV, List.find?_cons, e]
theorem valV_neg {p : κ × V} {r : List (κ × V)} {k : κ} (e : ¬ p.1 = k) : valV (p :: r) k = valV r k := by simp [valV, List.find?_cons, e]
theorem valV_any (k : κ) : ∀ kvs : List (κ × V), (kvs.any fun kv => decide (kv.1 = k)) = (valV kvs k).isSome
  | [] => rfl
  | p :: r => by
    rw [List.any_cons]
    by_cases e : p.1 = k
    · simp only [valV_pos e, decide_eq_true e, Bool.true_or, Option.isSome_some]
    · rw [valV_neg e, decide_eq_false e, Bool.false_or]; exact valV_any k r
theorem RelO.isSome_eq {o : Option V} {u : Option Value} (r : RelO o u) : o.isSome = u.isSome := by
  cases o with
  | none => cases u with
    | none => rfl
    | some _ => exact (show False from r).elim
  | some _ => cases u with
    | none => exact (show False from r).elim
    | some _ => rfl
theorem RelO.getD {o : Option V} {u : Option Value} {d : V} {d' : Value} (r : RelO o u) (rd : RelV d d') : RelV (o.getD d) (u.getD d') := by
  cases o with
  | none => cases u with
    | none => exact rd
    | some _ => exact (show False from r).elim
  | some _ => cases u with
    | none => exact (show False from r).elim
    | some _ => exact r

/-- raw tables of the same keys -/
theorem KV.val {kvs : List (κ × V)} {vs : List (κ × Value)} (r : KV kvs vs) (k : κ) : RelO (valV kvs k) (valueAt vs k) := by
  unfold KV at r
  induction r with
  | nil => exact True.intro
  | @cons p q ps qs h t ih =>
    obtain ⟨h1, h2⟩ := h
    by_cases e : p.1 = k
    · have e' : q.1 = k := h1.symm.trans e
      have b : valueAt (q :: qs) k = some q.2 := by simp [valueAt, List.find?_cons, e']
      rw [valV_pos e, b]; exact h2
    · have e' : ¬ q.1 = k := fun z => e (h1.trans z)
      have b : valueAt (q :: qs) k = valueAt qs k := by simp [valueAt, List.find?_cons, e']
      rw [valV_neg e, b]; exact ih
theorem KV.any {kvs : List (κ × V)} {vs : List (κ × Value)} (r : KV kvs vs) (k : κ) : (kvs.any fun kv => decide (kv.1 = k)) = vs.any fun kv => decide (kv.1 = k) := by
  unfold KV at r
  induction r with
  | nil => rfl
  | cons h t ih => rw [List.any_cons, List.any_cons, ih, h.1]
theorem KV.repl {kvs : List (κ × V)} {vs : List (κ × Value)} (r : KV kvs vs) (k : κ) {y : V} {u : Value} (ry : RelV y u) :
    KV (kvs.map fun kv => if kv.1 = k then (kv.1, y) else kv) (vs.map fun kv => if kv.1 = k then (kv.1, u) else kv) := by
  unfold KV at r ⊢
  induction r with
  | nil => exact .nil
  | @cons p q ps qs h t ih =>
    rw [List.map_cons, List.map_cons]
    refine .cons ?_ ih
    obtain ⟨h1, h2⟩ := h
    by_cases e : p.1 = k
    · rw [if_pos e, if_pos (h1.symm.trans e)]; exact ⟨h1, ry⟩
    · rw [if_neg e, if_neg (fun z => e (h1.trans z))]; exact ⟨h1, h2⟩
theorem KV.put {kvs : List (κ × V)} {vs : List (κ × Value)} (r : KV kvs vs) (k : κ) {y : V} {u : Value} (ry : RelV y u) : KV (putK kvs k y) (stored vs k u) := by
  unfold putK stored
  rw [r.any k]
  by_cases e : (vs.any fun kv => decide (kv.1 = k)) = true
  · rw [if_pos e, if_pos e]; exact r.repl k ry
  · rw [if_neg e, if_neg e]; exact Paired.snoc r ⟨rfl, ry⟩
theorem KV.drop {kvs : List (κ × V)} {vs : List (κ × Value)} (r : KV kvs vs) (k : κ) : KV (dropK kvs k) (without vs k) := by
  unfold KV at r ⊢
  unfold dropK without
  induction r with
  | nil => exact .nil
  | @cons p q ps qs h t ih =>
    obtain ⟨h1, h2⟩ := h
    rw [List.filter_cons, List.filter_cons]
    by_cases e : p.1 = k
    · have a : ¬ decide (p.1 ≠ k) = true := by simp [e]
      have b : ¬ decide (q.1 ≠ k) = true := by simp [h1.symm.trans e]
      rw [if_neg a, if_neg b]; exact ih
    · have e' : ¬ q.1 = k := fun z => e (h1.trans z)
      have a : decide (p.1 ≠ k) = true := by simp [e]
      have b : decide (q.1 ≠ k) = true := by simp [e']
      rw [if_pos a, if_pos b]; exact .cons ⟨h1, h2⟩ ih
theorem KV.length {kvs : List (κ × V)} {vs : List (κ × Value)} (r : KV kvs vs) : kvs.length = vs.length := Paired.length r
end


/-! ### a tracked dict, its keys ints and texts or tuples of these -/
/-- raw entries of a dict with tuple keys -/
abbrev KT (H : Hp) : List (List Key × V) → List (List Key × Addr × Value) → Prop := Paired fun p q => p.1 = q.1 ∧ H q.2.1 = some (.tup (p.1.map kV)) ∧ RelV p.2 q.2.2
theorem KT.val {H : Hp} {kvs : List (List Key × V)} {xs : List (List Key × Addr × Value)} (r : KT H kvs xs) (k : List Key) : RelO (valV kvs k) ((atKey xs k).map (·.2)) := by
  induction r with
  | nil => exact True.intro
  | @cons p q ps qs h t ih =>
    obtain ⟨h1, _, h2⟩ := h
    by_cases e : p.1 = k
    · have e' : q.1 = k := h1.symm.trans e
      have b : atKey (q :: qs) k = some q.2 := by simp [atKey, List.find?_cons, e']
      rw [valV_pos e, b]; exact h2
    · have e' : ¬ q.1 = k := fun z => e (h1.trans z)
      have b : atKey (q :: qs) k = atKey qs k := by simp [atKey, List.find?_cons, e']
      rw [valV_neg e, b]; exact ih
theorem KT.repl {H : Hp} {kvs : List (List Key × V)} {xs : List (List Key × Addr × Value)} (r : KT H kvs xs) (k : List Key) {y : V} {u : Value} (ry : RelV y u) :
    KT H (kvs.map fun kv => if kv.1 = k then (kv.1, y) else kv) (xs.map (putAt k u)) := by
  induction r with
  | nil => exact .nil
  | @cons p q ps qs h t ih =>
    rw [List.map_cons, List.map_cons]
    refine .cons ?_ ih
    obtain ⟨h1, h2, h3⟩ := h
    unfold putAt
    by_cases e : p.1 = k
    · rw [if_pos e, if_pos (h1.symm.trans e)]; exact ⟨h1, h2, ry⟩
    · rw [if_neg e, if_neg (fun z => e (h1.trans z))]; exact ⟨h1, h2, h3⟩
theorem KT.put {H : Hp} {kvs : List (List Key × V)} {xs : List (List Key × Addr × Value)} (r : KT H kvs xs) (k : List Key) {b : Addr} {y : V} {u : Value} (hb : H b = some (.tup (k.map kV))) (ry : RelV y u) :
    KT H (putK kvs k y) (storedH xs k b u) := by
  have e : (kvs.any fun kv => decide (kv.1 = k)) = (atKey xs k).isSome := by
    rw [valV_any, (r.val k).isSome_eq, Option.isSome_map]
  unfold putK storedH
  rw [e]
  by_cases q : (atKey xs k).isSome = true
  · rw [if_pos q, if_pos q]; exact r.repl k ry
  · rw [if_neg q, if_neg q]; exact Paired.snoc r ⟨rfl, hb, ry⟩
theorem KT.keeps {H H' : Hp} {kvs : List (List Key × V)} {xs : List (List Key × Addr × Value)} (r : KT H kvs xs) (ht : ∀ b ys, H b = some (.tup ys) → H' b = some (.tup ys)) : KT H' kvs xs :=
  Paired.mapP r fun _ _ z => ⟨z.1, ht _ _ z.2.1, z.2.2⟩

section
variable {P : Program} {w : World} {H : Hp} {h : Heap} {a : Addr}
end

/-- what the dict at a holds at the key y -/
def DGet (H : Hp) (a : Addr) (y : V) (r : Option V) : Prop :=
  (∃ kvs k, Rd H a (.dK kvs) ∧ y = kV k ∧ r = valV kvs k) ∨ ∃ kvs k b, Rd H a (.dT kvs) ∧ y = .ref b ∧ H b = some (.tup (k.map kV)) ∧ r = valV kvs k
/-- the heap behind a[y] = v -/
def DPut (H : Hp) (a : Addr) (y v : V) (H' : Hp) : Prop :=
  (∃ kvs k, H a = some (.dK kvs) ∧ y = kV k ∧ kvs.length < sizeLine ∧ H' = upd H a (.dK (putK kvs k v))) ∨
  ∃ kvs k b, H a = some (.dT kvs) ∧ y = .ref b ∧ H b = some (.tup (k.map kV)) ∧ kvs.length < sizeLine ∧ H' = upd H a (.dT (putK kvs k v))
theorem DGet.k {H : Hp} {a : Addr} {kvs : List (Key × V)} {k : Key} (e : H a = some (.dK kvs)) : DGet H a (kV k) (valV kvs k) := .inl ⟨kvs, k, .inl e, rfl, rfl⟩
theorem DGet.t {H : Hp} {a b : Addr} {kvs : List (List Key × V)} {k : List Key} (e : H a = some (.dT kvs)) (eb : H b = some (.tup (k.map kV))) : DGet H a (.ref b) (valV kvs k) := .inr ⟨kvs, k, b, .inl e, rfl, eb, rfl⟩
theorem DPut.k {H : Hp} {a : Addr} {kvs : List (Key × V)} {k : Key} {v : V} (e : H a = some (.dK kvs)) (hl : kvs.length < sizeLine) : DPut H a (kV k) v (upd H a (.dK (putK kvs k v))) := .inl ⟨kvs, k, e, rfl, hl, rfl⟩
theorem DPut.t {H : Hp} {a b : Addr} {kvs : List (List Key × V)} {k : List Key} {v : V} (e : H a = some (.dT kvs)) (eb : H b = some (.tup (k.map kV))) (hl : kvs.length < sizeLine) :
    DPut H a (.ref b) v (upd H a (.dT (putK kvs k v))) := .inr ⟨kvs, k, b, e, rfl, eb, hl, rfl⟩


section
variable {X : Cx} {pins : List (Addr × Obj)} {σ : St} {H : Hp} {s : Shared} {a : Addr} {y v : V} {u r : Value} {o : Option V} {A : Around} {E : Value → Shared → Prop}

theorem Inv.big (I : Inv X pins σ H s) : sysModules < s.heap.objs.size := by
  have h : mainGlobals < s.heap.objs.size := (I.mod.glob.keeps I.bk).lt
  exact Nat.lt_trans (by decide) h

end

section
variable {X : Cx} {pins : List (Addr × Obj)} {σ : St} {H : Hp} {s : Shared} {a : Addr} {kvs : List (Key × V)} {k : Key} {u : Value} {A : Around} {E : Value → Shared → Prop}
end


/-! ### readings and rules -/
section
variable {X : Cx} {o i e value : Expr} {pos pos' tpos : Pos} {td ty tv : TE}
end


/-! ### displays -/
section
variable {X : Cx} {pos : Pos}
end

/-! ### methods -/
/-- a method call o.m(e) of a built-in, with one argument: what must be seen of the text -/
structure M1 (X : Cx) (o : Expr) (m : Str) (apos : Pos) (e : Expr) (cpos : Pos) : Prop where
  base : attributeBase o m X.env (eval o X.env) = eval o X.env
  few : ((backTo cpos (starEach [e] X.env)).all (fun x => !x.1) && (backToKw cpos (keywordEach [] X.env)).all (fun x => x.1.isSome)
    && decide (([e] : List Expr).length + ([] : List Keyword).length + (if ([] : List Keyword).isEmpty then 0 else 1) < 30)) = true
  line : (apos.endLine == cpos.line) = true
  trees : backTo cpos (starEach [e] X.env) = [(false, eval e X.env)]
structure M2 (X : Cx) (o : Expr) (m : Str) (apos : Pos) (e f : Expr) (cpos : Pos) : Prop where
  base : attributeBase o m X.env (eval o X.env) = eval o X.env
  few : ((backTo cpos (starEach [e, f] X.env)).all (fun x => !x.1) && (backToKw cpos (keywordEach [] X.env)).all (fun x => x.1.isSome)
    && decide (([e, f] : List Expr).length + ([] : List Keyword).length + (if ([] : List Keyword).isEmpty then 0 else 1) < 30)) = true
  line : (apos.endLine == cpos.line) = true
  trees : backTo cpos (starEach [e, f] X.env) = [(false, eval e X.env), (false, eval f X.env)]

section
variable {X : Cx} {pins : List (Addr × Obj)} {σ : St} {H : Hp} {s : Shared} {a : Addr} {y d : V} {u r : Value} {o : Option V} {A : Around} {E : Value → Shared → Prop}
end

section
variable {X : Cx} {o e f : Expr} {apos cpos : Pos} {td ty tx : TE}
end

/-! ### dict(d): a copy -/
section
variable {X : Cx} {pins : List (Addr × Obj)} {σ : St} {H : Hp} {s : Shared} {a : Addr} {kvs : List (Key × V)} {A : Around} {E : Value → Shared → Prop}
end


section
variable {X : Cx} {pins : List (Addr × Obj)} {σ : St} {H : Hp} {s : Shared} {a : Addr} {y : V} {u : Value} {A : Around} {E : Value → Shared → Prop}
end
end L2

namespace L2
open PySem PySem.Spec PyProof.Rows

section
variable {prog : Program} {w : World} {A : Around} {E : Value → Shared → Prop}
end

section
variable {X : Cx}
end
end L2

namespace L2
open PySem PySem.Spec PyProof.Rows

section
variable {X : Cx} {pins : List (Addr × Obj)} {σ : St} {H : Hp} {s : Shared} {h' : Heap}
/-! ### locking a thing while a statement runs -/
end
section
variable {X : Cx}
/-! ### one iterator just laid -/
theorem pi_one {tg : Expr} {pins : List (Addr × Obj)} {σ : St} {H : Hp} {s : Shared} {R : It → Hp → Prop} {J : It} {tn : Nat → Heap → Prop} {tk : Nat} (I : Inv X pins σ H s) (o : Obj)
    (T : Turn X.prog X.w X.K tg J [s.heap.objs.size] s.heap.objs.size tn) (st : tn 0 (s.heap.push o)) (q : R J H) : PIE X pins σ tg R (.ref s.heap.objs.size) { s with heap := s.heap.push o, toks := tk } := by
  refine ⟨s.heap.objs.size, [s.heap.objs.size], tn, J, H, rfl, I.kept fun b ob e => Heap.get?_push_of_some _ e, T, st, fun b hb => ?_, q⟩
  have e : b = s.heap.objs.size := by simpa using hb
  subst e
  exact I.fpOk (Nat.le_refl _) (I.hok.fresh (Nat.le_refl _))
end

/-! ### range with a step -/
/-- range(i, j, c): small bounds, n items -/
def RgC (i j c : Int) (n : Nat) : Prop := c ≠ 0 ∧ c.natAbs < 1073741824 ∧ Builtin.Range.small i j c = true ∧ Builtin.Range.rangeSize i j c = n
theorem RgC.neg {i j : Int} (ha : -(2 ^ 62) ≤ i) (ha' : i < 2 ^ 62) (hb : -(2 ^ 62) ≤ j) (hb' : j < 2 ^ 62) : RgC i j (-1) (i - j).toNat :=
  ⟨by decide, by decide, PySem.W.small_down ha ha' hb hb', PySem.W.rangeSize_downNat i j⟩
section
variable {X : Cx} {tg : Expr}
end
/-! ### reversed(list) -/
section
variable {X : Cx} {tg : Expr}
end

/-! ### a str -/
def Its (x : Str) : It := ⟨fun i _ => i < x.cps.size, fun i H v H' => H' = H ∧ ∃ c, x.cps[i]? = some c ∧ v = .str ⟨#[c]⟩, fun i _ => x.cps.size ≤ i⟩
theorem turn_str {P : Program} {w : World} {K : PySem.W.Frag} {tg : Expr} (it : Addr) (x : Str) (t : Tok) (ty : String) (hty : ty = "str_ascii_iterator" ∨ ty = "str_iterator") :
    Turn P w K tg (Its x) [it] it (fun i h => h.IsStrIter it ty x t i) where
  mem := by simp
  obj := fun i h st b hb => by
    have e : b = it := by simpa using hb
    subst e
    obtain ⟨o, e, c, d⟩ := st
    exact ⟨o, e, fun v z => by rw [d] at z; cases z⟩
  keep := fun i h h' st k => let ⟨o, ho, r⟩ := st; ⟨o, k it (by simp) o ho, r⟩
  item := by
    intro X hP hw hK hc i pins s σ H E I hf st hg
    subst hP hw hK
    obtain ⟨f0, f1, f2, f3, f4, f5⟩ := hf it (by simp)
    have W : Walks X.prog X.w X.A it [it] [it] x.cps.size (SignAt x) (fun i h => h.IsStrIter it ty x t i) := by
      rcases hty with e | e
      · rw [e]; exact Walks.strAscii (I.ok.hd hc) it x t
      · rw [e]; exact Walks.strWide (I.ok.hd hc) it x t
    have hno : ["enumerate", "zip", "dict_itemiterator", "dict_reverseitemiterator", "odict_iterator", "itertools.zip_longest", "itertools.pairwise"].contains ty = false := by
      rcases hty with e | e
      · rw [e]; decide
      · rw [e]; decide
    refine W.item i s _ _ hg st fun v h' tk hv st' kk => ?_
    obtain ⟨c, u, hcx, rfl⟩ := hv
    have I1 : Inv X pins σ H { s with heap := h', toks := tk } := I.turned (fun b o hb e => kk b o (by simpa using hb) e) f0 f1 f3 f4 f5
    obtain ⟨oi, e, cc, dd⟩ := id st'
    exact ⟨_, rfl, go_of (s := { s with heap := h', toks := tk }) e cc dd hno ⟨.str ⟨#[c]⟩, H, I1, ⟨u, rfl⟩, ⟨rfl, c, hcx, rfl⟩, st', fun b hb => (hf b hb).1⟩⟩
  done := by
    intro X hP hw hK hc i pins s σ H E I hf st hg
    subst hP hw hK
    obtain ⟨f0, f1, f2, f3, f4, f5⟩ := hf it (by simp)
    have hx : x.cps[i]? = none := Array.getElem?_eq_none hg
    rcases hty with e | e
    · rw [e] at st
      exact wpAny_pyNext_ascii_end (I.ok.hd hc) st hx fun h' eb => ⟨rfl, I.turned (t' := s.toks) (fun b o hb e => eb b o hb e) f0 f1 f3 f4 f5⟩
    · rw [e] at st
      exact wpAny_pyNext_wide_end (I.ok.hd hc) st hx fun h' eb => ⟨rfl, I.turned (t' := s.toks) (fun b o hb e => eb b o hb e) f0 f1 f3 f4 f5⟩
  self := fun A i s Q E st h => by
    rcases hty with e | e
    · rw [e] at st; exact wpAny_pyIter_striter_ascii st h
    · rw [e] at st; exact wpAny_pyIter_striter_wide st h
/-! ### a dict's keys: any dict's entries -/
section
variable {prog : Program} {w : World} {A : Around} {E : Value → Shared → Prop} {s : Shared}
end

/-! ### a locked dict -/
section
variable {X : Cx} {pins : List (Addr × Obj)} {σ : St} {H : Hp} {s : Shared} {d : Addr} {o : Obj}
end

section
variable {P : Program} {w : World} {K : PySem.W.Frag} {tg : Expr} {d : Addr} {o : Obj} {es : Array DictEntry} {ep : Nat}
end

/-! ### for k in d, d.keys(), d.values(), d.items() -/
section
variable {X : Cx} {tg e : Expr} {td : TE} {apos cpos : Pos}
end

/-! ### enumerate(list) -/
/-! ### zip(list, list) -/
end L2

section 
namespace Bits
open PySem PyProof.Rows

end Bits
end 

section 
namespace TL
open PySem PySem.Builtin PySem.Builtin.Str PySem.StrLaws

abbrev tl (x : Str) : List Nat := x.cps.toList
theorem len_tl (x : Str) : x.length = (tl x).length := by simp [tl, Str.length]
theorem ext_tl {x y : Str} (h : tl x = tl y) : x = y := Str.ext' (Array.toList_inj.mp h)
theorem tl_append (x y : Str) : tl (x ++ y) = tl x ++ tl y := by
  show (x ++ y).cps.toList = _
  rw [Str.cps_append, Array.toList_append]
theorem mk_tl (x : Str) : (⟨(tl x).toArray⟩ : Str) = x := ext_tl rfl
theorem map_tl_inj : ∀ {l m : List Str}, l.map tl = m.map tl → l = m
  | [], [], _ => rfl
  | [], _ :: _, h => by simp at h
  | _ :: _, [], h => by simp at h
  | x :: l, y :: m, h => by
    rw [List.map_cons, List.map_cons] at h
    injection h with h1 h2
    rw [ext_tl h1, map_tl_inj h2]
/-! ### the list functions -/
/-- S stands at the head of l -/
def pre (S l : List Nat) : Bool := l.take S.length == S
/-- l cut at each S from the left; k signs are still to be passed over -/
def spl (S : List Nat) : Nat → List Nat → List Nat → List (List Nat)
  | _, acc, [] => [acc]
  | 0, acc, c :: r => if pre S (c :: r) = true then acc :: spl S (S.length - 1) [] r else spl S 0 (acc ++ [c]) r
  | k + 1, acc, _ :: r => spl S k acc r
/-- what stands before the first S, and behind it -/
def par (S : List Nat) : List Nat → List Nat → Option (List Nat × List Nat)
  | _, [] => none
  | acc, c :: r => if pre S (c :: r) = true then some (acc, (c :: r).drop S.length) else par S (acc ++ [c]) r

theorem spl_nil (S : List Nat) (k : Nat) (acc : List Nat) : spl S k acc [] = [acc] := by cases k <;> rfl
theorem spl_hit {S acc r : List Nat} {c : Nat} (h : pre S (c :: r) = true) : spl S 0 acc (c :: r) = acc :: spl S (S.length - 1) [] r := by
  show (if pre S (c :: r) = true then acc :: spl S (S.length - 1) [] r else spl S 0 (acc ++ [c]) r) = _
  rw [if_pos h]
theorem spl_miss {S acc r : List Nat} {c : Nat} (h : pre S (c :: r) = false) : spl S 0 acc (c :: r) = spl S 0 (acc ++ [c]) r := by
  show (if pre S (c :: r) = true then acc :: spl S (S.length - 1) [] r else spl S 0 (acc ++ [c]) r) = _
  rw [if_neg (by rw [h]; exact Bool.false_ne_true)]
theorem spl_pass (S : List Nat) : ∀ (k : Nat) (acc l : List Nat), spl S k acc l = spl S 0 acc (l.drop k)
  | 0, _, _ => by rw [List.drop_zero]
  | k + 1, acc, [] => by rw [List.drop_nil, spl_nil, spl_nil]
  | k + 1, acc, c :: r => by
    show spl S k acc r = spl S 0 acc (r.drop k)
    exact spl_pass S k acc r
theorem par_hit {S acc r : List Nat} {c : Nat} (h : pre S (c :: r) = true) : par S acc (c :: r) = some (acc, (c :: r).drop S.length) := by
  show (if pre S (c :: r) = true then some (acc, (c :: r).drop S.length) else par S (acc ++ [c]) r) = _
  rw [if_pos h]
theorem par_miss {S acc r : List Nat} {c : Nat} (h : pre S (c :: r) = false) : par S acc (c :: r) = par S (acc ++ [c]) r := by
  show (if pre S (c :: r) = true then some (acc, (c :: r).drop S.length) else par S (acc ++ [c]) r) = _
  rw [if_neg (by rw [h]; exact Bool.false_ne_true)]

theorem pre_nil {S : List Nat} (hS : S ≠ []) : pre S [] = false := by
  cases S with
  | nil => exact absurd rfl hS
  | cons s S => rfl
theorem pre_of_head {s c : Nat} (S r : List Nat) (h : c ≠ s) : pre (s :: S) (c :: r) = false := by
  cases hp : pre (s :: S) (c :: r) with
  | false => rfl
  | true =>
    have e : (c :: r).take (s :: S).length = s :: S := eq_of_beq hp
    rw [List.length_cons, List.take_succ_cons] at e
    injection e with e1 e2
    exact absurd e1 h
theorem pre_self (S r : List Nat) : pre S (S ++ r) = true := by
  show ((S ++ r).take S.length == S) = true
  have e : (S ++ r).take S.length = S := List.take_left
  rw [e] <;> exact beq_self_eq_true S

theorem getElem_drop_cons {L : List Nat} {a : Nat} (h : a < L.length) : ∃ c, L.drop a = c :: L.drop (a + 1) := ⟨L[a], List.drop_eq_getElem_cons h⟩
theorem spl_run (S L : List Nat) : ∀ (m a : Nat) (acc : List Nat), a + m ≤ L.length → (∀ k, a ≤ k → k < a + m → pre S (L.drop k) = false) →
    spl S 0 acc (L.drop a) = spl S 0 (acc ++ (L.drop a).take m) (L.drop (a + m))
  | 0, a, acc, _, _ => by rw [List.take_zero, List.append_nil, Nat.add_zero]
  | m + 1, a, acc, h, hn => by
    have hlt : a < L.length := by omega
    obtain ⟨c, e⟩ := getElem_drop_cons hlt
    have h0 := hn a (Nat.le_refl _) (by omega)
    have ih := spl_run S L m (a + 1) (acc ++ [c]) (by omega) (fun k h1 h2 => hn k (by omega) (by omega))
    have e2 : a + 1 + m = a + (m + 1) := by omega
    rw [e2] at ih
    rw [e] at h0
    rw [e, spl_miss h0, ih, List.take_succ_cons, List.append_assoc] <;> rfl
theorem par_run (S L : List Nat) : ∀ (m a : Nat) (acc : List Nat), a + m ≤ L.length → (∀ k, a ≤ k → k < a + m → pre S (L.drop k) = false) →
    par S acc (L.drop a) = par S (acc ++ (L.drop a).take m) (L.drop (a + m))
  | 0, a, acc, _, _ => by rw [List.take_zero, List.append_nil, Nat.add_zero]
  | m + 1, a, acc, h, hn => by
    have hlt : a < L.length := by omega
    obtain ⟨c, e⟩ := getElem_drop_cons hlt
    have h0 := hn a (Nat.le_refl _) (by omega)
    have ih := par_run S L m (a + 1) (acc ++ [c]) (by omega) (fun k h1 h2 => hn k (by omega) (by omega))
    have e2 : a + 1 + m = a + (m + 1) := by omega
    rw [e2] at ih
    rw [e] at h0
    rw [e, par_miss h0, ih, List.take_succ_cons, List.append_assoc] <;> rfl
theorem drop_two (L : List Nat) (a b : Nat) : (L.drop a).drop b = L.drop (a + b) := by
  first
    | rw [List.drop_drop]
    | rw [List.drop_drop, Nat.add_comm]
theorem spl_at {S L : List Nat} (hS : S ≠ []) {c : Nat} {acc : List Nat} (h : pre S (L.drop c) = true) : spl S 0 acc (L.drop c) = acc :: spl S 0 [] (L.drop (c + S.length)) := by
  rw [← drop_two]
  cases e : L.drop c with
  | nil => rw [e, pre_nil hS] at h; cases h
  | cons d r =>
    rw [e] at h
    rw [spl_hit h, spl_pass]
    cases S with
    | nil => exact absurd rfl hS
    | cons s S => rfl
theorem par_at {S L : List Nat} (hS : S ≠ []) {c : Nat} {acc : List Nat} (h : pre S (L.drop c) = true) : par S acc (L.drop c) = some (acc, L.drop (c + S.length)) := by
  rw [← drop_two]
  cases e : L.drop c with
  | nil => rw [e, pre_nil hS] at h; cases h
  | cons d r =>
    rw [e] at h
    rw [par_hit h]

/-! ### the model's split and partition are these -/
theorem at_iff {x y : Str} (hy : tl y ≠ []) (i : Nat) : At x y x.length i ↔ pre (tl y) ((tl x).drop i) = true := by
  have hx := len_tl x
  have hl := len_tl y
  constructor
  · intro h
    have h2 := h.2
    rw [subAt_eq, hl] at h2
    exact h2
  · intro h
    have e : ((tl x).drop i).take (tl y).length = tl y := eq_of_beq h
    have e1 := congrArg List.length e
    rw [List.length_take, List.length_drop] at e1
    have e2 : 0 < (tl y).length := List.length_pos_iff.mpr hy
    refine ⟨by omega, ?_⟩
    rw [subAt_eq, hl]
    exact h
theorem no_at {x y : Str} (hy : tl y ≠ []) {i : Nat} (h : ¬ At x y x.length i) : pre (tl y) ((tl x).drop i) = false := by
  cases hp : pre (tl y) ((tl x).drop i) with
  | false => rfl
  | true => exact absurd ((at_iff hy i).mpr hp) h
theorem len1 {y : Str} (hy : tl y ≠ []) : 1 ≤ y.length := by
  have e2 : 0 < (tl y).length := List.length_pos_iff.mpr hy
  rw [len_tl y]
  exact e2
theorem tl_strSub (x : Str) (i j : Nat) : tl (strSub x i j) = ((tl x).drop i).take (j - i) := strSub_toList x i j
theorem tl_strSub_end (x : Str) (i : Nat) : tl (strSub x i x.length) = (tl x).drop i := by
  rw [tl_strSub, len_tl x]
  exact List.take_of_length_le (by rw [List.length_drop] <;> omega)

theorem parts_spl {x y : Str} (hy : tl y ≠ []) : ∀ (cuts : List Nat) (a f : Nat), a ≤ (tl x).length → ChainG x y x.length a cuts f → (∀ k, f ≤ k → ¬ At x y x.length k) →
    (partsFrom x y.length a cuts).map tl = spl (tl y) 0 [] ((tl x).drop a)
  | [], a, f, ha, h, hn => by
    have e : f = a := h
    subst e
    show [tl (strSub x f x.length)] = _
    have run := spl_run (tl y) (tl x) ((tl x).length - f) f [] (by omega) (fun k h1 _ => no_at hy (hn k h1))
    have e2 : f + ((tl x).length - f) = (tl x).length := by omega
    rw [e2, List.drop_length, spl_nil, List.nil_append, List.take_of_length_le (by rw [List.length_drop] <;> omega)] at run
    rw [run, tl_strSub_end]
  | c :: r, a, f, ha, h, hn => by
    obtain ⟨h1, h2, h3, h4⟩ := h
    have hc : c + y.length ≤ x.length := h2.1
    have hx := len_tl x
    have hl := len_tl y
    have ih := parts_spl hy r (c + y.length) f (by omega) h4 hn
    show tl (strSub x a c) :: (partsFrom x y.length (c + y.length) r).map tl = _
    have run := spl_run (tl y) (tl x) (c - a) a [] (by omega) (fun k k1 k2 => no_at hy (h3 k k1 (by omega)))
    have e2 : a + (c - a) = c := by omega
    rw [e2, List.nil_append, spl_at hy ((at_iff hy c).mp h2)] at run
    rw [run, ih, tl_strSub, hl]

/-- hk: by kind_ok where the separator is plain -/
theorem split_spl (x y : Str) (hy : tl y ≠ []) (hk : ¬ Builtin.Str.strKind x < Builtin.Str.strKind y) : (Txt.split x y).map tl = spl (tl y) 0 [] (tl x) := by
  obtain ⟨f, g, hn⟩ := occ_tight x y (len1 hy)
  have key := parts_spl hy _ 0 f (Nat.zero_le _) g hn
  rw [List.drop_zero] at key
  have none_case : occurrences x y 0 x.length (x.length + 1) = [] → [x].map tl = spl (tl y) 0 [] (tl x) := fun ho => by
    rw [ho] at key
    rw [← key]
    show [tl x] = [tl (strSub x 0 x.length)]
    rw [sub_whole]
  unfold Txt.split
  by_cases h1 : (decide (x.length < y.length) || decide (Builtin.Str.strKind x < Builtin.Str.strKind y)) = true
  · rw [if_pos h1]
    have hlt : x.length < y.length := by
      simp only [Bool.or_eq_true, decide_eq_true_eq] at h1
      rcases h1 with h | h
      · exact h
      · exact absurd h hk
    refine none_case ?_
    cases ho : occurrences x y 0 x.length (x.length + 1) with
    | nil => rfl
    | cons c r =>
      rw [ho] at g
      have hc : c + y.length ≤ x.length := g.2.1.1
      omega
  · rw [if_neg h1]
    by_cases h2 : (occurrences x y 0 x.length (x.length + 1)).isEmpty = true
    · rw [if_pos h2]
      exact none_case (List.isEmpty_iff.mp h2)
    · rw [if_neg h2, partsBetween_eq]
      exact key
theorem kind_ok {x y : Str} (h : y.cps.all (· < 256) = true) : ¬ Builtin.Str.strKind x < Builtin.Str.strKind y := by
  have e : Builtin.Str.strKind y = 1 := by unfold PySem.Builtin.Str.strKind; rw [if_pos h]
  rw [e]
  unfold PySem.Builtin.Str.strKind
  split
  · omega
  · split <;> omega

theorem partition_par (x y : Str) (hy : tl y ≠ []) :
    Txt.partition x y = (match par (tl y) [] (tl x) with | some (a, b) => (⟨a.toArray⟩, y, ⟨b.toArray⟩) | none => (x, Str.empty, Str.empty)) := by
  have hx := len_tl x
  have hl := len_tl y
  rcases PyProof.Rows.partition_whole x y with ⟨e, hn⟩ | ⟨i, e, hi, hn⟩
  · have run := par_run (tl y) (tl x) (tl x).length 0 [] (by omega) (fun k _ _ => no_at hy (hn k))
    rw [List.drop_zero, Nat.zero_add, List.drop_length] at run
    rw [e, run] <;> rfl
  · have hb : i + y.length ≤ x.length := hi.1
    have run := par_run (tl y) (tl x) i 0 [] (by omega) (fun k _ k2 => no_at hy (hn k (by omega)))
    rw [List.drop_zero, Nat.zero_add, List.nil_append, par_at hy ((at_iff hy i).mp hi)] at run
    rw [e, run]
    have e1 : strSub x 0 i = ⟨((tl x).take i).toArray⟩ := ext_tl (by rw [tl_strSub, List.drop_zero, Nat.sub_zero])
    have e2 : strSub x (i + y.length) x.length = ⟨((tl x).drop (i + (tl y).length)).toArray⟩ := ext_tl (by rw [tl_strSub_end, hl])
    rw [e1, e2] <;> rfl

/-! ### computing spl and par -/
/-- a part that the separator does not begin in, then the separator -/
theorem spl_part {S p rest acc : List Nat} (hS : S ≠ []) (h : ∀ i, i < p.length → pre S ((p ++ (S ++ rest)).drop i) = false) :
    spl S 0 acc (p ++ (S ++ rest)) = (acc ++ p) :: spl S 0 [] rest := by
  have run := spl_run S (p ++ (S ++ rest)) p.length 0 acc (by rw [List.length_append]; omega) (fun k _ k2 => h k (by omega))
  have ed : (p ++ (S ++ rest)).drop p.length = S ++ rest := List.drop_left
  rw [List.drop_zero, Nat.zero_add, List.take_left] at run
  rw [run, spl_at hS (by rw [ed]; exact pre_self S rest), ← drop_two, ed, List.drop_left]
theorem spl_last {S p acc : List Nat} (h : ∀ i, i < p.length → pre S (p.drop i) = false) : spl S 0 acc p = [acc ++ p] := by
  have run := spl_run S p p.length 0 acc (by omega) (fun k _ k2 => h k (by omega))
  rw [List.drop_zero, Nat.zero_add, List.drop_length, spl_nil, List.take_length] at run
  exact run
theorem par_part {S p rest acc : List Nat} (hS : S ≠ []) (h : ∀ i, i < p.length → pre S ((p ++ (S ++ rest)).drop i) = false) :
    par S acc (p ++ (S ++ rest)) = some (acc ++ p, rest) := by
  have run := par_run S (p ++ (S ++ rest)) p.length 0 acc (by rw [List.length_append]; omega) (fun k _ k2 => h k (by omega))
  have ed : (p ++ (S ++ rest)).drop p.length = S ++ rest := List.drop_left
  rw [List.drop_zero, Nat.zero_add, List.take_left] at run
  rw [run, par_at hS (by rw [ed]; exact pre_self S rest), ← drop_two, ed, List.drop_left]
theorem par_none {S p acc : List Nat} (h : ∀ i, i < p.length → pre S (p.drop i) = false) : par S acc p = none := by
  have run := par_run S p p.length 0 acc (by omega) (fun k _ k2 => h k (by omega))
  rw [List.drop_zero, Nat.zero_add, List.drop_length] at run
  exact run
/-- the separator's first sign is not in the part -/
theorem free_of {s : Nat} {S p q : List Nat} (h : s ∉ p) : ∀ i, i < p.length → pre (s :: S) ((p ++ q).drop i) = false := fun i hi => by
  have hlt : i < (p ++ q).length := by rw [List.length_append]; omega
  have e : (p ++ q).drop i = (p ++ q)[i] :: (p ++ q).drop (i + 1) := List.drop_eq_getElem_cons hlt
  rw [e]
  refine pre_of_head _ _ fun z => h ?_
  have e1 : (p ++ q)[i] = p[i] := List.getElem_append_left hi
  rw [← z, e1]
  exact List.getElem_mem hi
theorem spl_part1 {s : Nat} {S p rest acc : List Nat} (h : s ∉ p) : spl (s :: S) 0 acc (p ++ (s :: S ++ rest)) = (acc ++ p) :: spl (s :: S) 0 [] rest :=
  spl_part (by simp) (free_of h)
theorem spl_last1 {s : Nat} {S p acc : List Nat} (h : s ∉ p) : spl (s :: S) 0 acc p = [acc ++ p] := spl_last fun i hi => by
  have z := free_of (S := S) (q := []) h i hi
  rw [List.append_nil] at z
  exact z
theorem par_part1 {s : Nat} {S p rest acc : List Nat} (h : s ∉ p) : par (s :: S) acc (p ++ (s :: S ++ rest)) = some (acc ++ p, rest) := par_part (by simp) (free_of h)
theorem par_none1 {s : Nat} {S p acc : List Nat} (h : s ∉ p) : par (s :: S) acc p = none := par_none fun i hi => by
  have z := free_of (S := S) (q := []) h i hi
  rw [List.append_nil] at z
  exact z

/-- joined lists -/
def joinL (S : List Nat) : List (List Nat) → List Nat
  | [] => []
  | [p] => p
  | p :: q :: r => p ++ (S ++ joinL S (q :: r))
theorem tl_join (y : Str) : ∀ parts : List Str, tl (Str.join y parts) = joinL (tl y) (parts.map tl)
  | [] => rfl
  | [_] => rfl
  | x :: z :: r => by
    show tl (x ++ y ++ Str.join y (z :: r)) = tl x ++ (tl y ++ joinL (tl y) ((z :: r).map tl))
    rw [tl_append, tl_append, tl_join y (z :: r), List.append_assoc]
theorem spl_join {s : Nat} {S : List Nat} : ∀ {parts : List (List Nat)}, parts ≠ [] → (∀ p ∈ parts, s ∉ p) → spl (s :: S) 0 [] (joinL (s :: S) parts) = parts
  | [], h, _ => absurd rfl h
  | [p], _, hp => by
    show spl (s :: S) 0 [] p = [p]
    rw [spl_last1 (hp p (List.mem_singleton.mpr rfl)), List.nil_append]
  | p :: q :: r, _, hp => by
    show spl (s :: S) 0 [] (p ++ (s :: S ++ joinL (s :: S) (q :: r))) = p :: q :: r
    rw [spl_part1 (hp p (List.mem_cons_self ..)), List.nil_append, spl_join (by simp) fun z hz => hp z (List.mem_cons_of_mem _ hz)]
theorem join_eq (y : Str) (parts : List Str) : Txt.join y parts = Str.join y parts := glued_eq_join y parts
/-- THE READ-BACK: a joined text, split -/
theorem split_join {y : Str} {s : Nat} {S : List Nat} (ey : tl y = s :: S) (hk : y.cps.all (· < 256) = true) {parts : List Str} (hne : parts ≠ []) (hp : ∀ p ∈ parts, s ∉ tl p) :
    Txt.split (Txt.join y parts) y = parts := by
  refine map_tl_inj ?_
  rw [split_spl _ y (by rw [ey]; simp) (kind_ok hk), join_eq, tl_join, ey]
  refine spl_join (fun e => hne (List.map_eq_nil_iff.mp e)) fun p h => ?_
  obtain ⟨z, hz, rfl⟩ := List.mem_map.mp h
  exact hp z hz
/-- a text cut at its first separator -/
theorem partition_app {y : Str} {s : Nat} {S : List Nat} (ey : tl y = s :: S) {a b : Str} (h : s ∉ tl a) : Txt.partition (a ++ y ++ b) y = (a, y, b) := by
  rw [partition_par _ y (by rw [ey]; simp), tl_append, tl_append, List.append_assoc, ey, par_part1 h]
  show ((⟨([] ++ tl a).toArray⟩ : Str), y, (⟨(tl b).toArray⟩ : Str)) = _
  rw [List.nil_append, mk_tl, mk_tl]
theorem partition_none {y : Str} {s : Nat} {S : List Nat} (ey : tl y = s :: S) {a : Str} (h : s ∉ tl a) : Txt.partition a y = (a, Str.empty, Str.empty) := by
  rw [partition_par _ y (by rw [ey]; simp), ey, par_none1 h]

/-! ### digits -/
/-! ### words: x.split() -/
end TL
end 

namespace L2
open PySem PySem.Spec PyProof.Rows

/-- a list of texts, of numbered texts -/
theorem vals_strs : ∀ l : List (Str × Tok), Vals ((l.map (·.1)).map V.str) (strValues l)
  | [] => .nil
  | p :: r => .cons ⟨p.2, rfl⟩ (vals_strs r)
theorem strs_of_vals : ∀ {ys : List Str} {us : List Value}, Vals (ys.map V.str) us → StrsAre us ys
  | [], _, .nil => .nil
  | y :: ys, _, .cons r t => by
    obtain ⟨k, rfl⟩ := r
    exact .cons y k (strs_of_vals t)

/-- a new list of texts, tracked -/
def rNewStrs (ys : List Str) : Hp → VK → Prop := fun H Q => ∀ p, H p = none → Q (.ref p) (upd H p (.lst (ys.map V.str)))

section
variable {X : Cx} {pins : List (Addr × Obj)} {σ : St} {H : Hp} {s : Shared} {Q : VK}
theorem laid_strs {l : List (Str × Tok)} {ys : List Str} {k : Nat} (I : Inv X pins σ H s) (e : l.map (·.1) = ys) (hz : ys.length ≤ sizeLine) (h : rNewStrs ys H Q) :
    EP X pins σ Q (.ref s.heap.objs.size) { s with toks := k, heap := s.heap.push { cls := .type "list", data := .seq (strValues l).toArray } } := by
  have hp := I.hok.fresh (Nat.le_refl _)
  refine ⟨.ref s.heap.objs.size, upd H s.heap.objs.size (.lst (ys.map V.str)), I.laid (fun b u q => Heap.get?_push_of_some _ q) (Nat.le_refl _) ⟨by rw [List.length_map]; exact hz, strValues l, _, ?_, Heap.get?_push_size _ rfl⟩, rfl, h _ hp⟩
  rw [← e]
  exact vals_strs l
theorem laid_parts {x y z : Str} {t u v : Tok} {k : Nat} (I : Inv X pins σ H s) (h : ∀ p, H p = none → Q (.ref p) (upd H p (.tup [.str x, .str y, .str z]))) :
    EP X pins σ Q (.ref s.heap.objs.size) { s with toks := k, heap := s.heap.push { cls := .type "tuple", data := .seq [Value.str x t, .str y u, .str z v].toArray } } := by
  have hp := I.hok.fresh (Nat.le_refl _)
  exact ⟨.ref s.heap.objs.size, upd H s.heap.objs.size (.tup [.str x, .str y, .str z]), I.laid (fun b u q => Heap.get?_push_of_some _ q) (Nat.le_refl _)
    ⟨by show 3 ≤ sizeLine; decide, [Value.str x t, .str y u, .str z v], .cons ⟨t, rfl⟩ (.cons ⟨u, rfl⟩ (.cons ⟨v, rfl⟩ .nil)), _, Heap.get?_push_size _ rfl, rfl, _, rfl⟩, rfl, h _ hp⟩
end

section
variable {X : Cx}

/-- x.split(sep) -/
theorem mt_split : MtR X "str.split" (fun x xs H Q => ∃ a b, x = .str a ∧ xs = [.str b] ∧ (b.length == 0) = false ∧ a.length + 2 ≤ sizeLine ∧ rNewStrs (Txt.split a b) H Q) := by
  intro pins s σ H x xs v us Q I rx rs h
  obtain ⟨a, b, rfl, rfl, hb, hz, h⟩ := h
  obtain ⟨t, rfl⟩ := rx
  cases rs with
  | cons r1 rs =>
    cases rs
    obtain ⟨u, rfl⟩ := r1
    have hl : (Txt.split a b).length ≤ sizeLine := Nat.le_trans (PyProof.Rows.split_le a b) hz
    have hn : (Builtin.Str.partsBetween a (Builtin.Str.occurrences a b 0 a.length (a.length + 1)) b.length).length ≤ sizeLine := by
      have e1 := StrLaws.occ_length_le a b 0 a.length (a.length + 1)
      rw [length_partsBetween]; omega
    cases h1 : (decide (a.length < b.length) || decide (Builtin.Str.strKind a < Builtin.Str.strKind b))
    · cases hf : (Builtin.Str.occurrences a b 0 a.length (a.length + 1)).isEmpty
      · refine call_meets F.slot_str_split (typeIs_str _ _ _) F.entry_str_split (F.args_str_split_2 _ _) (meets_str_split_sep a b t u h1 hb hf (by omega) hn) ?_
        show EP X pins σ Q (.ref s.heap.objs.size) { s with toks := _, heap := s.heap.push { cls := .type "list", data := .seq (strsFrom s.toks (Builtin.Str.partsBetween a (Builtin.Str.occurrences a b 0 a.length (a.length + 1)) b.length)).toArray } }
        rw [strsFrom_eq]
        exact laid_strs (ys := Txt.split a b) I ((numbered_texts _ _).trans ((if_neg (ne_true_of_eq_false h1)).trans (if_neg (ne_true_of_eq_false hf))).symm) hl h
      · refine call_meets F.slot_str_split (typeIs_str _ _ _) F.entry_str_split (F.args_str_split_2 _ _) (meets_str_split_not_found a b t u h1 hb hf) ?_
        exact laid_strs (l := [(a, t)]) (ys := Txt.split a b) (k := s.toks) I ((if_neg (ne_true_of_eq_false h1)).trans (if_pos hf)).symm hl h
    · refine call_meets F.slot_str_split (typeIs_str _ _ _) F.entry_str_split (F.args_str_split_2 _ _) (meets_str_split_cannot_occur a b t u h1) ?_
      exact laid_strs (l := [(a, t)]) (ys := Txt.split a b) (k := s.toks) I (if_pos h1).symm hl h

/-- x.partition(sep) -/
theorem mt_partition : MtR X "str.partition" (fun x xs H Q => ∃ a b, x = .str a ∧ xs = [.str b] ∧ (b.length == 0) = false ∧ a.length ≤ sizeLine ∧
    ∀ p, H p = none → Q (.ref p) (upd H p (.tup [.str (Txt.partition a b).1, .str (Txt.partition a b).2.1, .str (Txt.partition a b).2.2]))) := by
  intro pins s σ H x xs v us Q I rx rs h
  obtain ⟨a, b, rfl, rfl, hb, hz, h⟩ := h
  obtain ⟨t, rfl⟩ := rx
  cases rs with
  | cons r1 rs =>
    cases rs
    obtain ⟨u, rfl⟩ := r1
    refine call_meets F.slot_str_partition (typeIs_str _ _ _) F.entry_str_partition (F.args_str_partition_2 _ _) (meets_str_partition a b t u hb hz) ?_
    unfold Txt.partition at h
    revert h
    cases Builtin.Str.occurrences a b 0 a.length 1 with
    | nil => intro h; exact laid_parts I h
    | cons i r => intro h; exact laid_parts I h

/-- sep.join(a list | a tuple of texts) -/
theorem mt_join : MtR X "str.join" (fun x xs H Q => ∃ a p, ∃ ys : List Str, x = .str a ∧ xs = [.ref p] ∧ (SqL X.K H p (ys.map V.str) ∨ SqT X.K H p (ys.map V.str)) ∧
    (ys.map (·.length)).sum + ys.length * a.length ≤ 16777216 ∧ Q (.str (Txt.join a ys)) H) := by
  intro pins s σ H x xs v us Q I rx rs h
  obtain ⟨a, p, ys, rfl, rfl, hp, hz, h⟩ := h
  obtain ⟨t, rfl⟩ := rx
  cases rs with
  | cons r1 rs =>
    cases rs
    cases r1
    rcases hp with hp | hp
    · obtain ⟨its, r, ⟨o, n, ho, hc, _, hd⟩, _⟩ := I.list hp
      exact PyProof.Rows.join_list (items := its.toArray) ⟨o, ho, hc, n, hd⟩ (by rw [List.toList_toArray]; exact strs_of_vals r) hz fun t' k => ⟨.str _, H, I.tok k, ⟨t', rfl⟩, h⟩
    · obtain ⟨its, r, ht, _⟩ := I.tuple hp
      exact PyProof.Rows.join_tuple (items := its.toArray) ht (by rw [List.toList_toArray]; exact strs_of_vals r) hz fun t' k => ⟨.str _, H, I.tok k, ⟨t', rfl⟩, h⟩

/-! ### of a text alone -/
/-! ### of a text and a text -/
/-- int(text) -/
theorem call_int_str : CallR X (.type "int") (fun xs H Q => ∃ a n, xs = [.str a] ∧ PySem.intText? a = some n ∧ a.length ≤ 640 ∧ Q (.int n) H) := by
  intro pins s σ H xs us Q I rs h
  obtain ⟨a, n, rfl, hn, hl, h⟩ := h
  cases rs with
  | cons r1 rs =>
    cases rs
    obtain ⟨t, rfl⟩ := r1
    exact PySem.W.KIN.call_text hn hl ⟨.int n, H, I.tok _, ⟨_, rfl⟩, h⟩
end

section
variable {X : Cx} {o e : Expr} {to te : TE}
end
end L2

namespace L2
open PySem PySem.Spec PyProof.Rows

section
variable {X : Cx}
end

/-! ### slices of a text -/
/-- z[lo:hi] -/
def cutS (z : Str) (lo hi : Option Int) : Str :=
  ⟨((z.cps.toList.drop (HT.sIx z.length 0 lo)).take (HT.sIx z.length z.length hi - HT.sIx z.length 0 lo)).toArray⟩
end L2

namespace Att
open PySem PySem.W PySem.Calls PyProof.Rows

/-! ### the script -/
theorem ints_of_wellAll {P : Params} {h : Heap} : ∀ (ns : List Int) (vs : List Value), WellAll P h vs (ns.map WData.int) → IntsAre vs ns := by
  intro ns
  induction ns with
  | nil =>
    intro vs w
    rw [List.map_nil] at w
    cases w
    exact .nil
  | cons n ns ih =>
    intro vs w
    rw [List.map_cons] at w
    cases w with
    | cons a b =>
      cases a
      exact .cons _ _ (ih _ b)

theorem script_of {l : OpenLaw} {n : Nat} (hn : l.most = some n) {P : Params} {h : Heap} {args : List WData} {vals : List Value}
    (hpre : l.row.toRowW.claim.pre args = true) (hwl : WellAll P h vals args) :
    ∃ a vs ns, vals = [Value.ref a] ∧ args = [WData.list (ns.map WData.int)] ∧ h.get? a = some { cls := .type "list", data := .seq vs.toArray } ∧ IntsAre vs ns ∧ ns.length ≤ n := by
  have hsh : WShape.hasAll [] args [.list .int] = true := (pre_splitW hpre).1
  have hc : l.pre.holds [] { args := args } = true := (pre_splitW hpre).2
  obtain ⟨d, r, rfl, h1, h2⟩ := hasAllW_cons hsh
  obtain rfl := hasAllW_nil h2
  obtain ⟨xs, rfl, h3⟩ := hasW_list h1
  obtain ⟨ns, rfl⟩ := items_int h3
  have hlen : ns.length ≤ n := by
    unfold OpenLaw.pre at hc
    have h4 : (WTm.not (.lt (.lit (.int (n : Int))) (.len (.arg 0)))).holds [] { args := [.list (ns.map .int)] } = true := by
      have h4 := (holds_andW hc).1
      rw [hn] at h4
      exact h4
    have h5 := condW_of h4 (w_not (w_lt w_lit (w_len_list (w_arg rfl))))
    rw [List.length_map] at h5
    refine Nat.le_of_not_lt fun q => ?_
    have q' : (n : Int) < ((ns.length : Nat) : Int) := by omega
    first
      | (rw [decide_eq_true q'] at h5; exact absurd h5 (by decide))
      | (simp at h5; omega)
  cases hwl with
  | cons w1 w2 =>
    cases w2
    cases w1 with
    | list ho hall => exact ⟨_, _, ns, rfl, rfl, ho, ints_of_wellAll ns _ hall, hlen⟩

theorem post_true (l : OpenLaw) (args : List WData) : l.row.toRowW.claim.post args (.bool true) args = true :=
  postW_of (r := l.row.toRowW) (X := (true == true))
    (show WShape.has [] (.bool true) .bool = true by first | rfl | decide | simp [WShape.has, WShape.arms, WShape.armsAll])
    (show (WTm.eq .res (.lit (.bool true))).value [] { args := args, res := some (.bool true), after := args } = some (.bool (true == true)) from w_eq_bool (w_res rfl) w_lit) rfl

/-! ### the attachment: holds_open's last premise (the goal 'hc' behind k_head) from a wpAny of the law's body -/
/-- the same from a codeAny of the CALL (for a layer whose function contracts speak of calls) -/
theorem attach_call {l : OpenLaw} {n : Nat} {q : Program} {loose : List Str} {XP : (Str → Option Value) → Heap → Prop} {YP : World → Heap → Prop} {d : DefRec}
    (hn : l.most = some n) (hdf : d.params.defaults = [])
    (call : ∀ (w : World) (s₀ s₁ : Shared) (mg mb : Str → Option Value) (fa : Addr) (o : Obj) (pm cd doc : Value) (a : Addr) (vs : List Value) (ns : List Int),
      Ground q loose [] XP w s₀ mg mb s₁.heap → YP w s₁.heap →
      s₁.heap.get? fa = some o → o.data = .func (docDef d.name d.params d.body d.scope pm cd doc) → s₁.heap.CodeRec cd d.name → mg d.name = some (.ref fa) →
      s₁.heap.get? a = some { cls := .type "list", data := .seq vs.toArray } → IntsAre vs ns → ns.length ≤ n → s₁.gens = #[] →
      codeAny (model l.prog w) callerA (.call (.ref fa) ⟨[.ref a], []⟩) (fun r s' => r = .ok (.ret (.bool true)) ∧ OldK s₁.heap s'.heap ∧ s'.os = s₁.os ∧ AllBare s'.gens) s₁) :
    WalkO q loose XP YP l.row.toRowW d [] (fun f vs => PySem.call f vs) := by
  intro w s₀ s₁ mg mb G Y fa o pm cd doc dV kV ho hd hcd hD hmg hg args vals as hpre hlay hrd hwl hlo
  obtain rfl : dV = .none := Dflts.none hD hdf
  obtain rfl : kV = .none := Dflts.noKw hD
  obtain ⟨a, vs, ns, rfl, rfl, hobj, hints, hlen⟩ := script_of hn hpre hwl
  refine enter_call (codeAny_mono (call w s₀ s₁ mg mb fa o pm cd doc a vs ns G Y ho (fd_plain hd) hcd hmg hobj hints hlen hg) fun r s' hq => ?_)
  obtain ⟨rfl, h2, h3, h4⟩ := hq
  exact ⟨.inl ⟨.bool true, .bool true, [], rfl, fun _ => rfl, .bool true, post_true l _, fun _ => ⟨List.Pairwise.nil, fun _ hm => (nomatch hm)⟩⟩, h2, h3, h4⟩

/-! ### rules over ANY heap (no ledger) from facts about the written part K: the library's own take a ledger (News) for what they write -/
section
variable {prog : Program} {w : World} {A : Around} {E : Value → Shared → Prop} {s : Shared} {K : Frag}

/-! the whole heap as the ledger: makes every rule that writes through a ledger a rule over any heap -/
end
end Att

namespace L2
open PySem PySem.Spec PyProof.Rows

theorem vals_ints : ∀ {vs : List Value} {ns : List Int}, IntsAre vs ns → Vals (ns.map V.int) vs
  | _, _, .nil => .nil
  | _, _, .cons n t h => .cons ⟨t, rfl⟩ (vals_ints h)

/-- nothing is tracked but the script, known to the object (or it is an object of the module) -/
def Only (H : Hp) : Prop := ∀ b, H b = none ∨ ∃ o xs, H b = some (.frz o (.lst xs))

/-- THE HEAD: the law's promise, at the heap behind the top. F, the promise of the law's def, may use that base is part of the heap (so K.In base, base.Ns mainGlobals mg stand in Mod) -/
theorem law_call {P : Program} {w : World} {K : PySem.W.Frag} {mg mb : Str → Option Value} {CX : CXT} {k : Nat} {fa a : Addr} {fd : FuncData} {x : Str} {sp : Sp} {s₁ : Shared} {vs : List Value} {ns : List Int}
    (KX : K.In s₁.heap) (hns : s₁.heap.Ns mainGlobals mg) (hb : s₁.heap.Ns builtinsNs mb) (hbb : ∀ x : Str, x ≠ "__name__" → mb x = bootBuiltins x) (hlim : s₁.heap.NoLimit) (hg : s₁.gens = #[])
    (ha : s₁.heap.get? a = some { cls := .type "list", data := .seq vs.toArray }) (hi : IntsAre vs ns) (hl : ns.length ≤ sizeLine) (hr : Room k callerA)
    (F : ∀ base : Heap, K.In base → base.Ns mainGlobals mg → FnOk P w K mg base CX k fa fd [x] sp) (hbind : ∀ (s : Shared) (u : Value), BindsTo s fd ⟨[u], []⟩ [(x, u)])
    (hsp : ∀ H : Hp, Only H → SqL K H a (ns.map V.int) → sp [.ref a] H (fun v _ => v = .bl true) fun _ _ _ => False)
    (hCX : ∀ H e s', CX [] H s₁ (fun _ _ _ => False) e s' → False) :
    codeAny (model P w) callerA (.call (.ref fa) ⟨[.ref a], []⟩) (fun r s' => r = .ok (.ret (.bool true)) ∧ OldK s₁.heap s'.heap ∧ s'.os = s₁.os ∧ AllBare s'.gens) s₁ := by
  have rv := vals_ints hi
  have lenV := hi.length
  -- from an abstract heap in which nothing but the script may be tracked
  have core : ∀ H : Hp, Only H → SqL K H a (ns.map V.int) → HOk P w H s₁.heap → (∀ b, H b ≠ none → b = a) → (H a ≠ none → K.lookup a = none) →
      codeAny (model P w) callerA (.call (.ref fa) ⟨[.ref a], []⟩) (fun r s' => r = .ok (.ret (.bool true)) ∧ OldK s₁.heap s'.heap ∧ s'.os = s₁.os ∧ AllBare s'.gens) s₁ := by
    intro H hO hS hok hA hK
    have base_of : ∀ {b : Addr} {o : Obj}, s₁.heap.get? b = some o → H b = none → (hidT s₁.heap H).get? b = some o := fun e n => hidT_get e n
    have noA : ∀ {b : Addr} {o : Obj} {es : Array DictEntry} {ep : Nat}, s₁.heap.get? b = some o → o.data = .dict es ep → H b = none := fun {b o es ep} e d => by
      cases q : H b with
      | none => rfl
      | some u =>
        have e' : b = a := hA b (by rw [q]; simp)
        subst e'
        rw [ha] at e; cases e
        have d' : Data.seq vs.toArray _ = Data.dict es ep := d
        cases d'
    have nsK : ∀ {b : Addr} {m : Str → Option Value}, s₁.heap.Ns b m → (hidT s₁.heap H).Ns b m := fun {b m} ⟨o, es, ep, e, d, r⟩ => ⟨o, es, ep, base_of e (noA e d), d, r⟩
    have hKb : K.In (hidT s₁.heap H) := fun b o e => base_of (KX b o e) (by
      cases q : H b with
      | none => rfl
      | some u =>
        have e' : b = a := hA b (by rw [q]; simp)
        subst e'
        rw [hK (by rw [q]; simp)] at e; cases e)
    have hM : Mod K mg (hidT s₁.heap H) := ⟨hKb, nsK hns, ⟨mb, nsK hb, hbb⟩, let ⟨mc, h1, h2⟩ := hlim; ⟨mc, nsK h1, h2⟩⟩
    have e0 : Env0 P w K mg (hidT s₁.heap H) callerA [] s₁ H := ⟨rfl, hM, fun b o e => of_hidT e, Nat.le_of_eq (hidT_size _ _), trivial, fun b hb => absurd (show b ∈ ([] : List Addr) from hb) (by simp), hok, .of_eq hg⟩
    refine codeAny_mono ((F _ hKb (nsK hns)).run callerA [] s₁ H ⟨[.ref a], []⟩ [.ref a] [.ref a] _ _ hr e0 (hbind s₁ (.ref a)) (.cons rfl .nil) (hsp H hO hS)) fun r s' h => ?_
    cases r with
    | error e => exact (hCX H e s' h).elim
    | ok fl =>
      cases fl with
      | next => exact False.elim h
      | brk => exact False.elim h
      | cont => exact False.elim h
      | ret u =>
        obtain ⟨v, H', os, bare, un, hok', r', q⟩ := h
        have q' : v = .bl true := q
        subst q'
        obtain rfl : u = Value.bool true := r'
        refine ⟨rfl, OldK.of_keep fun b o e => ?_, os, bare⟩
        cases q : H b with
        | none => exact un.keep b o e q (by intro z; exact absurd (show b ∈ ([] : List Addr) from z) (by simp)) (by simp)
        | some u =>
          rcases hO b with z | ⟨ob, xs, z⟩
          · rw [q] at z; cases z
          · have z2 := un.frzs b ob _ z
            obtain ⟨e1, _⟩ := hok b _ z
            obtain ⟨e2, _⟩ := hok' b _ z2
            rw [e] at e1; cases e1
            exact e2
  cases hk : K.lookup a with
  | some o =>
    -- the script is one of the module's own objects
    have e := KX a o hk
    rw [ha] at e
    cases e
    refine core (fun _ => none) (fun _ => .inl rfl) (.inr ⟨_, vs.toArray, _, hk, rfl, rfl, rfl, by rw [List.size_toArray, lenV]; exact hl, by simpa using rv⟩) (fun b u z => by have z' : (none : Option HO) = some u := z; cases z') (fun b z => absurd rfl z) fun z => absurd rfl z
  | none =>
    refine core (fun b => if b = a then some (.frz { cls := .type "list", data := .seq vs.toArray } (.lst (ns.map V.int))) else none) (fun b => ?_) (.inl (.inr ⟨{ cls := .type "list", data := .seq vs.toArray }, if_pos rfl⟩)) (fun b u z => ?_) (fun b z => ?_) fun _ => hk
    · by_cases hb : b = a
      · exact .inr ⟨_, _, if_pos hb⟩
      · exact .inl (if_neg hb)
    · by_cases hb : b = a
      · have z' := (if_pos hb).symm.trans z
        cases z'
        subst hb
        exact ⟨ha, by rw [List.length_map]; exact hl, vs, _, rv, ha⟩
      · have z' := (if_neg hb).symm.trans z
        cases z'
    · by_cases hb : b = a
      · exact hb
      · exact absurd (if_neg hb) z
end L2

namespace L2
open PySem PySem.Spec PyProof.Rows

abbrev KOf {K : PySem.W.Frag} {h : Heap} (_ : K.In h) : PySem.W.Frag := K

/-- the goal that k_head leaves (case hc), from the law's promise. F gives the function object fd (K's own) once, then the promise over every base -/
theorem walk_of {l : PySem.W.OpenLaw} {n k : Nat} {q : Program} {loose : List Str} {XP : (Str → Option Value) → Heap → Prop} {YP : World → Heap → Prop} {d : DefRec} {K : Params → PySem.W.Frag} {CX : World → CXT} {sp : World → Sp} {x : Str}
    (hn : l.most = some n) (hn2 : n ≤ sizeLine) (hdf : d.params.defaults = []) (hr : Room k callerA)
    (hY : ∀ (w : World) (h : Heap), YP w h → (K w.params).In h)
    (F : ∀ (w : World) (mg : Str → Option Value) (fa : Addr) (h : Heap), (K w.params).In h → h.Ns mainGlobals mg → mg d.name = some (.ref fa) →
      ∃ fd : FuncData, (∀ (s : Shared) (u : Value), BindsTo s fd ⟨[u], []⟩ [(x, u)]) ∧
        ∀ base : Heap, (K w.params).In base → base.Ns mainGlobals mg → FnOk l.prog w (K w.params) mg base (CX w) k fa fd [x] (sp w))
    (hsp : ∀ (w : World) (H : Hp) (a : Addr) (ns : List Int), ns.length ≤ n → Only H → SqL (K w.params) H a (ns.map V.int) → sp w [.ref a] H (fun v _ => v = .bl true) fun _ _ _ => False)
    (hCX : ∀ (w : World) (H : Hp) (s : Shared) (e : Value) (s' : Shared), CX w [] H s (fun _ _ _ => False) e s' → False) :
    PySem.W.WalkO q loose XP YP l.row.toRowW d [] (fun f vs => PySem.call f vs) := by
  refine Att.attach_call hn hdf fun w s₀ s₁ mg mb fa o pm cd doc a vs ns G Y ho hd hcd hmg hobj hints hlen hg => ?_
  have KX := hY w _ Y
  obtain ⟨fd, hb, hF⟩ := F w mg fa _ KX G.T.g hmg
  exact law_call KX G.T.g G.T.b G.T.builtins G.T.nolimit hg hobj hints (Nat.le_trans hlen hn2) hr hF hb (fun H hO hS => hsp w H a ns hlen hO hS) fun H e s' => hCX w H s₁ e s'
end L2

/- THE LAST THEOREM (shape; LID, My.* are yours):
   My.Adr: a structure of the addresses that your layer names (classes, functions); My.Txt K t: a structure (Prop) of the equations over K;
   My.txt_mk : {K} {implicit addresses ..} (e1 : nsIn K mainGlobals "law" = some (some (.ref f))) (e2 : K.lookup f = some ⟨oc, od, .func (fnOf "law" "law" params body scope dV kV doc pm an cdv ct), sl⟩) (e3 : codeIn K cdv "law" = true) .. : ∃ t, My.Txt K t

theorem PySem.Challenge.cw_LID_holds : PySem.Challenge.rw_LID.Holds := by
  w_on; o_law; k_head; (case hw => w_witness2)
  k_fill
  refine L2.walk_of (l := PySem.Challenge.rw_LID) (n := 63) (k := 40) (x := "script") (CX := fun w => ..) (sp := fun _ => My.sp_law) rfl (by decide) rfl ⟨rfl, by decide, by decide⟩ (fun w h Y => PySem.W.kIn_of Y) ?F ?S ?C
  case F =>
    intro w mg fa h KX G hmg
    have T : ∃ t, My.Txt (L2.KOf KX) t := by
      dsimp only [L2.KOf]                          -- K must stand as «<heap const> w.params» for k_is
      refine' My.txt_mk ?e1 ?e2 ?e3 ..
      (case e1 => PySem.W.k_is)                    -- in the order: a name -> its address -> its object -> its parts
      (case e2 => PySem.W.k_is)
      ..
    obtain ⟨t, T⟩ := T
    have e0 := hmg.symm.trans (PySem.W.mg_of KX G T.law)
    cases e0                                       -- fa is the law's own address
    exact ⟨_, fun s u => .of_eq rfl, fun base kb nb => My.law_fn T kb nb⟩     -- if «.of_eq rfl» comes too early: refine' ⟨_, ?b, fun base kb nb => My.law_fn T kb nb⟩; exact fun s u => .of_eq rfl
  case S => exact fun w H a ns hl hO hS => ..
  case C => exact ..
(the tactic k_is has no namespace: write k_is) -/

/-! SHORT WORDS over the layer: a def of the text, its body, what a loop and a test want. -/
namespace L2
open PySem PySem.Spec PyProof.Rows

/-! ### the text by places -/
/-- the j-th statement of a class's body -/
def inClass (s : Stmt) (j : Nat) : Stmt := match s with
  | .ClassDef _ _ _ body _ _ _ _ _ _ _ => body.getD j (.Pass ⟨0, 0, 0, 0⟩)
  | _ => .Pass ⟨0, 0, 0, 0⟩
def defArgs (s : Stmt) : Arguments := match s with
  | .FunctionDef _ a _ _ _ _ _ _ _ _ => a
  | _ => { posonlyargs := [], args := [], vararg := none, kwonlyargs := [], kw_defaults := [], kwarg := none, defaults := [] }
def defBody (s : Stmt) : List Stmt := match s with
  | .FunctionDef _ _ b _ _ _ _ _ _ _ => b
  | _ => []
def defScope (s : Stmt) : Scope := match s with
  | .FunctionDef _ _ _ _ _ _ sc _ _ _ => sc
  | _ => { kind := .function, names := [], isGenerator := false, isCoroutine := false }

/-! ### no exception leaves a def -/
abbrev CX0 : CXT := fun _ _ _ _ _ _ => False
abbrev E0 : St → XK := fun _ _ _ _ => False
/-! ### a def (or method) of the text as it stands behind the top -/
structure Fun (K : PySem.W.Frag) (x qual : Str) (st : Stmt) (f : Addr) (fd : FuncData) : Prop where
  ex : ∃ (oc : Value) (od : Option Addr) (kV doc pm : Value) (an : Option Addr) (cdv ct : Value) (osl : Array (Option Value)),
    fd = PySem.W.fnOf x qual (defArgs st) (defBody st) (defScope st) .none kV doc pm an cdv ct ∧ K.lookup f = some ⟨oc, od, .func fd, osl⟩ ∧ PySem.W.codeIn K cdv qual = true
  kp : PySem.W.keepIn K (.ref f) = true
section
variable {P : Program} {w : World} {K : PySem.W.Frag} {mg : Str → Option Value} {base : Heap}
/-- THE RULE for a def: its body as a term of rules, and the reading of that term -/
theorem Fun.ok {x qual : Str} {st : Stmt} {f : Addr} {fd : FuncData} {N ps : List Str} {k : Nat} {sp : Sp} (F : Fun K x qual st f fd) (S : FnScope N ps (defScope st)) (len : ∀ vs H Q E, sp vs H Q E → vs.length = ps.length)
    (hbody : ∀ (cdv : Value) (A : Around) (outer : List Env) (s : Shared) (H : Hp) (vs : List V) (Q : VK) (E : XK), Room k (A.deeper (envOfC qual (defScope st) s.heap.objs.size f cdv)) → sp vs H Q E →
      ∃ t, PSs (cxOf CX0 P w K mg base N qual (defScope st) f cdv A outer s H E).nox (defBody st) t ∧ t { nx := fun _ H' => Q .non H', rt := Q } (start N vs) H) : FnOk P w K mg base CX0 (k + 1) f fd ps sp := by
  obtain ⟨oc, od, kV, doc, pm, an, cdv, ct, osl, rfl, lk, hcd⟩ := F.ex
  refine fn_of lk hcd S len fun A outer s H vs Q E hr hsp => ?_
  obtain ⟨t, h, q⟩ := hbody cdv A outer s H vs Q E hr hsp
  exact ⟨t, h.nox, q⟩
end
/-! ### expressions in short: the name that stands in the i-th slot -/
section
variable {X : Cx}
theorem pv (i : Nat) {x : Str} {pos : Pos} (hN : X.N[i]? = some x := by rfl) (hv : Vis X.env.scope x := by first | exact Or.inl rfl | exact Or.inr (Or.inl rfl) | exact Or.inr (Or.inr rfl)) (hd : (x == ("__debug__" : Str)) = false := by decide)
    (hcd : (x == ("__classdict__" : Str)) = false := by decide) : PE X (.Name x pos) (tVar i) := pe_var hN hv hd hcd
end

/-! ### tests -/
/-! ### heaps -/
/-- all that was tracked is as it was -/
def Same (H H' : Hp) : Prop := ∀ b o, H b = some o → H' b = some o
theorem Same.refl (H : Hp) : Same H H := fun _ _ h => h
theorem Same.trans {H H1 H2 : Hp} (a : Same H H1) (b : Same H1 H2) : Same H H2 := fun c o h => b c o (a c o h)
theorem Same.free {H H' : Hp} (e : Same H H') {l : Addr} (h : H' l = Option.none) : H l = Option.none := by
  cases q : H l with
  | none => rfl
  | some o =>
    rw [e l o q] at h
    cases h
theorem Same.seq {K : PySem.W.Frag} {H H' : Hp} {a : Addr} {xs : List V} (e : Same H H') (h : SqL K H a xs) : SqL K H' a xs := by
  rcases h with (h | ⟨o, h⟩) | h
  · exact .inl (.inl (e _ _ h))
  · exact .inl (.inr ⟨o, e _ _ h⟩)
  · exact .inr h

/-! ### a dict's pairs: keys that differ -/
section
variable {κ : Type} [DecidableEq κ]
end
/-! ### lists -/
/-- a new instance and its __init__ leave all that was tracked as it was -/
theorem Same.made {H H1 : Hp} {x dx C : Addr} (nx : H x = Option.none) (nd : H dx = Option.none) (k : ∀ b o, (upd (upd H dx (.own x)) x (.ins C dx [])) b = some o → b ≠ x → H1 b = some o) : Same H H1 := fun b o e =>
  k b o (by rw [upd_ne (ne_of_none e nx), upd_ne (ne_of_none e nd)]; exact e) (ne_of_none e nx)
end L2

namespace L2
open PySem PySem.Spec PyProof.Rows
/-! ### what keeps each object's dict where it is -/
def DK (h h' : Heap) : Prop := ∀ b o, h.get? b = some o → ∃ o', h'.get? b = some o' ∧ o'.dict = o.dict
theorem DK.rf (h : Heap) : DK h h := fun _ o e => ⟨o, e, rfl⟩
theorem DK.tr {h1 h2 h3 : Heap} (x : DK h1 h2) (y : DK h2 h3) : DK h1 h3 := fun b o e =>
  let ⟨_, e1, d1⟩ := x b o e; let ⟨o2, e2, d2⟩ := y b _ e1; ⟨o2, e2, d2.trans d1⟩
def KD {α : Type} (t : Sem α) : Prop := ∀ (M : Model) (Γ : PySem.Ctx) (Q : α → Pos → Shared → Prop) (E : Value → Pos → Shared → Prop) (p : Pos) (s : Shared),
  Sem.wp M Γ t Q E p s → Sem.wp M Γ t (fun a p' s' => Q a p' s' ∧ DK s.heap s'.heap) (fun e p' s' => E e p' s' ∧ DK s.heap s'.heap) p s
theorem KD.bd {α β : Type} {m : Sem α} {f : α → Sem β} (a : KD m) (b : ∀ x, KD (f x)) : KD (m >>= f) := by
  intro M Γ Q E p s h
  rw [Sem.wp_bind'] at h ⊢
  refine Sem.wp_mono _ _ _ (fun x p1 s1 z => ?_) (fun _ _ _ z => z) _ _ (a M Γ _ _ p s h)
  refine Sem.wp_mono _ _ _ (fun y p2 s2 w => ⟨w.1, z.2.tr w.2⟩) (fun _ _ _ w => ⟨w.1, z.2.tr w.2⟩) _ _ (b x M Γ _ _ p1 s1 z.1)
theorem KD.pr {α : Type} (a : α) : KD (pure a : Sem α) := fun M Γ Q E p s h => by
  rw [Sem.wp_pure'] at h ⊢; exact ⟨h, DK.rf _⟩
theorem KD.no {α : Type} (w : String) : KD (unsupported w : Sem α) := fun M Γ Q E p s h => by
  have h : Sem.wp M Γ (.unsupported w : Sem α) Q E p s := h
  rw [Sem.wp_unsupported] at h; exact h.elim
theorem KD.ld (a : Addr) (pt : Option Value) : KD (Sem.load a pt .pure) := fun M Γ Q E p s h => by
  rw [Sem.wp_load] at h ⊢
  obtain ⟨o, e, h⟩ := h
  rw [Sem.wp_pure] at h
  exact ⟨o, e, by rw [Sem.wp_pure]; exact ⟨h, DK.rf _⟩⟩
theorem KD.al (o : Obj) : KD (alloc o) := fun M Γ Q E p s h => by
  unfold alloc at h ⊢
  rw [Sem.wp] at h ⊢
  rw [Sem.wp_pure] at h ⊢
  exact ⟨h, fun b ob e => ⟨ob, Heap.get?_push_of_some _ e, rfl⟩⟩
theorem KD.st : KD stack := fun M Γ Q E p s h => by
  unfold stack at h ⊢
  rw [Sem.wp] at h ⊢
  rw [Sem.wp_pure] at h ⊢
  exact ⟨h, DK.rf _⟩
/-- writing that keeps the dict -/
theorem KD.up {a : Addr} {pt : Option Value} {f : Obj → Obj} (hd : ∀ o, (f o).dict = o.dict) (hf : ∀ o, o.isFreed = false → (f o).isFreed = false) : KD (Sem.update a pt f .pure) := fun M Γ Q E p s h => by
  rw [Sem.wp] at h ⊢
  rw [Sem.wp_pure] at h ⊢
  refine ⟨h.1, h.2, fun b o e => ?_⟩
  by_cases c : b = a
  · subst c
    exact ⟨f o, Heap.get?_update_self f e (hf o (Heap.get?_some_iff.mp e).2), hd o⟩
  · exact ⟨o, (Heap.get?_update_other _ _ (Ne.symm c)).trans e, rfl⟩
theorem KD.load (a : Addr) : KD (load a) := KD.ld a none
theorem KD.iteM {α : Type} {c : Prop} [Decidable c] {x y : Sem α} (a : KD x) (b : KD y) : KD (if c then x else y) := by split <;> assumption
theorem mf_dict (f : Array Value → Array Value) (o : Obj) : (Obj.mapFields f o).dict = o.dict := by
  obtain ⟨c, d, dt, sl⟩ := o
  cases dt <;> rfl
theorem mf_freed (f : Array Value → Array Value) (o : Obj) (h : o.isFreed = false) : (Obj.mapFields f o).isFreed = false := by
  obtain ⟨c, d, dt, sl⟩ := o
  cases dt <;> first | rfl | exact h
theorem kd_fieldsOf (v : Value) : KD (fieldsOf v) := by
  unfold fieldsOf
  split
  · refine KD.bd (KD.load _) fun o => ?_
    split
    · exact KD.pr _
    · exact KD.no _
  · exact KD.no _
theorem kd_field (v : Value) (i : Nat) : KD (field v i) := by
  unfold field
  refine KD.bd (kd_fieldsOf v) fun vs => ?_
  split
  · exact KD.pr _
  · exact KD.no _
theorem kd_setField (v : Value) (i : Nat) (x : Value) : KD (setField v i x) := by
  unfold setField
  split
  · unfold updateField
    refine KD.bd (KD.load _) fun o => ?_
    split
    · exact KD.iteM (KD.up (mf_dict _) (mf_freed _)) (KD.no _)
    · exact KD.no _
  · exact KD.no _
theorem kd_setFlight (e : Value) (fr : Option Addr) : KD (setFlight e fr) := by
  unfold setFlight
  refine KD.bd (kd_field _ _) fun tb => ?_
  exact KD.iteM (kd_setField _ _ _) (KD.pr _)
theorem kd_ready : ∀ l : List Env, KD (readyFrames l)
  | [] => KD.pr _
  | env :: outer => by
    unfold readyFrames
    split
    · rename_i f _
      refine KD.bd (KD.load f) fun o => ?_
      refine KD.iteM (KD.pr _) ?_
      refine KD.bd ?_ fun im => ?_
      · unfold behindIsImport
        refine KD.iteM (KD.pr _) ?_
        refine KD.iteM (KD.pr _) ?_
        exact KD.bd (kd_field _ _) fun v => KD.pr _
      refine KD.bd ?_ fun bk => ?_
      · unfold keptBack
        split
        · refine KD.iteM (KD.pr _) ?_
          refine KD.bd ?_ fun b => KD.pr _
          unfold underTheClaimsCaller
          exact KD.bd KD.st fun _ => KD.pr _
        · exact KD.pr _
      exact KD.bd (KD.up (fun _ => rfl) (fun o h => by
        obtain ⟨c, d, dt, sl⟩ := o
        cases dt <;> first | rfl | exact h)) fun _ => kd_ready outer
    · exact KD.no _
theorem kd_frameOf (env : Env) : KD (PySem.frameOf env) := by
  unfold PySem.frameOf
  refine KD.bd ?_ fun l => ?_
  · unfold frameEnvs
    exact KD.bd KD.st fun _ => KD.pr _
  refine KD.bd ?_ fun o => ?_
  · unfold frameObject
    split
    · exact KD.pr _
    · exact KD.bd (kd_ready _) fun _ => KD.pr _
  · split
    · exact KD.pr _
    · exact KD.no _
theorem kd_place (f : Addr) (b : Bool) : KD (entryPlaceOf f b) := by
  unfold entryPlaceOf
  refine KD.bd KD.st fun acts => ?_
  split <;> exact KD.pr _
theorem kd_newFields (ty : String) (vs : List Value) : KD (newFields ty vs) := by
  unfold newFields newObj newObjAsIs
  dsimp only
  exact KD.iteM (KD.bd (KD.no _) fun _ => KD.bd (KD.al _) fun _ => KD.pr _) (KD.bd (KD.al _) fun _ => KD.pr _)
theorem kd_entry (a b c d e : Value) (l : List Value) : KD (EntryCells.newEntry a b c d e l) := kd_newFields _ _
theorem kd_note (e : Value) (env : Env) : KD (noteFrame e env) := by
  unfold noteFrame
  split
  · rename_i f _
    refine KD.bd (kd_field _ _) fun hd => ?_
    have rest : KD (do setField e 1 (← EntryCells.newEntry hd (← PySem.frameOf env) .none (rawInt f) .none (← entryPlaceOf f (hd != .none))) : Sem Unit) :=
      KD.bd (kd_frameOf _) fun _ => KD.bd (kd_place _ _) fun _ => KD.bd (kd_entry _ _ _ _ _ _) fun _ => kd_setField _ _ _
    refine KD.iteM ?_ ?_
    · refine KD.bd (kd_field _ _) fun z => ?_
      refine KD.iteM (KD.pr _) ?_
      exact KD.bd (kd_setField _ _ _) fun _ => rest
    · exact rest
  · exact KD.no _
theorem kd_leaving (env : Env) (e : Value) : KD (leaving env e) := KD.bd (kd_note e env) fun _ => kd_setFlight e none
/-- the same, at any place -/
theorem KD.any {α : Type} {t : Sem α} (k : KD t) {M : Model} {A : Around} {Q : α → Shared → Prop} {E : Value → Shared → Prop} {s : Shared} (h : wpAny M A t Q E s) : wpAny M A t (fun a s' => Q a s' ∧ DK s.heap s'.heap) (fun e s' => E e s' ∧ DK s.heap s'.heap) s :=
  fun Γ p g => k M Γ _ _ p s (h Γ p g)
end L2

namespace L2
open PySem PySem.Spec PyProof.Rows

section
variable {P : Program} {w : World} {H : Hp} {h : Heap} {a : Addr} {o : HO}
theorem ObjOk.obj (x : ObjOk P w H h a o) : ∃ ob, h.get? a = some ob := by
  cases o with
  | lst xs => obtain ⟨_, _, _, _, e⟩ := x; exact ⟨_, e⟩
  | tup xs => obtain ⟨_, _, _, ob, e, _⟩ := x; exact ⟨_, e⟩
  | dK kvs => obtain ⟨_, _, _, _, o, _, _, e, _⟩ := x; exact ⟨_, e⟩
  | dT kvs => obtain ⟨_, _, _, _, o, _, _, e, _⟩ := x; exact ⟨_, e⟩
  | set S n => obtain ⟨o, _, _, _, e, _⟩ := x; exact ⟨_, e⟩
  | ins C dx fs => obtain ⟨_, _, _, e, _⟩ := x; exact ⟨_, e⟩
  | own y => exact x
  | xd fs => obtain ⟨_, ⟨_, _, _, e, _⟩, _⟩ := x; exact ⟨_, e⟩
  | rng lo hi => obtain ⟨_, _, _, e⟩ := x; exact ⟨_, e⟩
  | frz ob u => obtain ⟨e, _⟩ := x; exact ⟨_, e⟩
  | tbl ps => exact ⟨_, show h.get? a = some _ from x⟩
  | met f y => exact ⟨_, show h.get? a = some _ from x⟩
  | ext φ => obtain ⟨_, e, _⟩ := x; exact e
end

/-- an exception of the class cls flies over the frames l; its records are untracked and none of them is bad -/
def Fly (bad : Addr → Prop) (H : Hp) (l : List Env) (e : Addr) (cls : Value) (dx : Option Addr) (h : Heap) : Prop :=
  ∃ (a0 : Value) (ex : List Addr), Heap.FlyingW (PySem.W.hideAll h (frs l ++ ex)) l e cls a0 h ∧ (∀ b ∈ ex, H b = none ∧ ¬ bad b) ∧ e ∈ ex ∧ ∃ oe, h.get? e = some oe ∧ oe.dict = dx
theorem Fly.mono {bad bad' : Addr → Prop} {H : Hp} {l : List Env} {e : Addr} {cls : Value} {dx : Option Addr} {h : Heap} (F : Fly bad H l e cls dx h) (m : ∀ b, bad' b → bad b) : Fly bad' H l e cls dx h := by
  obtain ⟨a0, ex, f, p, q⟩ := F
  exact ⟨a0, ex, f, fun b hb => ⟨(p b hb).1, fun z => (p b hb).2 (m b z)⟩, q⟩
theorem Fly.obj {bad : Addr → Prop} {H : Hp} {l : List Env} {e : Addr} {cls : Value} {dx : Option Addr} {h : Heap} (F : Fly bad H l e cls dx h) : ∃ oe vs, h.get? e = some oe ∧ oe.cls = cls ∧ oe.data = .fields vs ∧ oe.dict = dx := by
  obtain ⟨a0, ex, f, p, q, od, e1, e2⟩ := F
  obtain ⟨oe, vs, h1, h2, h3, _⟩ := f.first
  rw [e1] at h1; cases h1
  exact ⟨od, vs, e1, h2, h3, e2⟩
theorem Fly.free {bad : Addr → Prop} {H : Hp} {l : List Env} {e : Addr} {cls : Value} {dx : Option Addr} {h : Heap} (F : Fly bad H l e cls dx h) : H e = none ∧ ¬ bad e := by
  obtain ⟨a0, ex, f, p, q⟩ := F
  exact p e q.1
theorem DK.dict {h h' : Heap} {e : Addr} {dx : Option Addr} (k : DK h h') (d : ∃ oe, h.get? e = some oe ∧ oe.dict = dx) : ∃ oe, h'.get? e = some oe ∧ oe.dict = dx := by
  obtain ⟨o, e1, e2⟩ := d
  obtain ⟨o', e3, e4⟩ := k e o e1
  exact ⟨o', e3, e4.trans e2⟩

section
variable {P : Program} {w : World} {H H0 : Hp} {h h' g : Heap} {l l' : List Env} {ex fs : List Addr} {bad : Addr → Prop} {e : Addr} {cls a0 : Value}
/-- one step of an exception in flight: what stays -/
structure Flown (H : Hp) (l : List Env) (ex : List Addr) (h h' : Heap) : Prop where
  keep : ∀ b o, h.get? b = some o → b ∉ frs l → b ∉ ex → h'.get? b = some o
  slot : ∀ b o, h.get? b = some o → b ∈ frs l → ∃ sl, h'.get? b = some { o with slots := sl }
  exf : ∀ b ∈ ex, H b = none
  frF : ∀ b ∈ frs l, H b = none
theorem flown_of (st : (PySem.W.hideAll h (frs l ++ ex)).StaysIn h') (up : h.UpToSlots h') (FF : ∀ b ∈ frs l, ∃ o, h.get? b = some o ∧ ∀ vs, o.data ≠ .fields vs) (hx : ∀ b ∈ ex, H b = none) (frF : ∀ b ∈ frs l, H b = none) : Flown H l ex h h' where
  keep := fun b o q n1 n2 => st b o (PySem.W.hideAll_get _ q (by rw [List.mem_append]; rintro (z | z); exact n1 z; exact n2 z))
  slot := fun b o q hb => by
    obtain ⟨o', e', d⟩ := FF b hb
    rw [q] at e'; cases e'
    exact up b o q d
  exf := hx
  frF := frF
theorem Flown.hok (W : Flown H l ex h h') (S : HOk P w H h) : HOk P w H h' := fun a o ea =>
  (S a o ea).stay (fun b u hb q => by
    have hn : H b ≠ none := by
      rcases hb with rfl | hb
      · rw [ea]; exact fun z => by cases z
      · rw [hb]; exact fun z => by cases z
    exact W.keep b u q (fun z => hn (W.frF b z)) (fun z => hn (W.exf b z))) (fun _ q => q) fun _ _ q => q
theorem Flown.un (W : Flown H l ex h h') (U : Un fs [] H0 H g h) (gx : ∀ b ∈ ex, g.get? b = none) (gf : ∀ b ∈ frs l, b ∈ fs ∨ g.get? b = none) : Un fs [] H0 H g h' where
  keep := fun b o q n hb hx => by
    have := U.keep b o q n hb hx
    refine W.keep b o this (fun z => ?_) (fun z => by rw [gx b z] at q; cases q)
    rcases gf b z with y | y
    · exact hb y
    · rw [y] at q; cases q
  slot := fun b o q n hb hx => by
    obtain ⟨sl, q1⟩ := U.slot b o q n hb hx
    by_cases z : b ∈ frs l
    · obtain ⟨sl', q2⟩ := W.slot b _ q1 z
      exact ⟨sl', q2⟩
    · exact ⟨sl, W.keep b _ q1 z (fun z => by rw [gx b z] at q; cases q)⟩
  free := U.free
  there := fun b o q hx => by
    obtain ⟨o', q1⟩ := U.there b o q hx
    by_cases z : b ∈ frs l
    · obtain ⟨sl', q2⟩ := W.slot b _ q1 z
      exact ⟨_, q2⟩
    · exact ⟨o', W.keep b _ q1 z (fun z => by rw [gx b z] at q; cases q)⟩
  tups := U.tups
  frzs := U.frzs
  tbls := U.tbls
theorem Flown.fly (W : Flown H l ex h h') (S : HOk P w H h) (FF : ∀ b ∈ frs l, ∃ o, h.get? b = some o ∧ ∀ vs, o.data ≠ .fields vs) (bx : ∀ b ∈ ex, ¬ bad b) (hbad : ∀ b, bad b → ∃ o, h.get? b = some o)
    (fl : Heap.FlyingW (PySem.W.hideAll h (frs l ++ ex)) l' e cls a0 h') (he : H e = none ∧ ¬ bad e) {dx : Option Addr} (hdx : ∃ oe, h'.get? e = some oe ∧ oe.dict = dx) : Fly bad H l' e cls dx h' := by
  obtain ⟨f1, f2, f3, oe, vs, T, oT, ts, a1, a2, a3, a4, a5, a6, a7, a8, a9⟩ := fl
  have inx : ∀ o, h.get? T = some o → T ∈ ex := fun o q => by
    by_cases z : T ∈ frs l ++ ex
    · rcases List.mem_append.1 z with z | z
      · obtain ⟨o', e', d⟩ := FF T z
        rw [q] at e'; cases e'
        obtain ⟨sl, q2⟩ := W.slot T o q z
        rw [a7] at q2; cases q2
        exact absurd a8 (d ts)
      · exact z
    · rw [PySem.W.hideAll_get _ q z] at a5; cases a5
  have hT : H T = none := by
    cases q : H T with
    | none => rfl
    | some u =>
      obtain ⟨o, qo⟩ := (S T u q).obj
      rw [W.exf T (inx o qo)] at q; cases q
  have bT : ¬ bad T := fun z => by
    obtain ⟨o, q⟩ := hbad T z
    exact bx T (inx o q) z
  refine ⟨a0, [e, T], ⟨fun b o q => PySem.W.of_hideAll _ q, PySem.W.hideAll_none _ (by simp), PySem.W.funFrames_hide f3 (fun env he b hb => List.mem_append_left _ (List.mem_filterMap.mpr ⟨env, he, hb⟩)), oe, vs, T, oT, ts, a1, a2, a3, a4, PySem.W.hideAll_none _ (by simp), a6, a7, a8, a9⟩, ?_, by simp, hdx⟩
  intro b hb
  simp only [List.mem_cons, or_false, List.not_mem_nil] at hb
  rcases hb with rfl | rfl
  · exact he
  · exact ⟨hT, bT⟩
theorem Fly.ff {bad : Addr → Prop} {dx : Option Addr} (F : Fly bad H l e cls dx h) : ∀ b ∈ frs l, ∃ o, h.get? b = some o ∧ ∀ vs, o.data ≠ .fields vs := by
  obtain ⟨a0, ex, f, p, q⟩ := F
  intro b hb
  exact (f.2.2.1.mem hb).2
end

/-- how an exception lies behind a call -/
def CXR (P : Program) (w : World) : CXT := fun outer H s E e s' => ∃ (a : Addr) (cls : Value) (dx : Option Addr) (H' : Hp), e = .ref a ∧ s'.os = s.os ∧ AllBare s'.gens ∧ Un (frs outer) [] H H' s.heap s'.heap ∧ HOk P w H' s'.heap ∧
  Fly (fun b => (s.heap.get? b).isSome = true) H' outer a cls dx s'.heap ∧ E cls dx H'
theorem CXR.no {P : Program} {w : World} {outer : List Env} {H : Hp} {s : Shared} {e : Value} {s' : Shared} (h : CXR P w outer H s (fun _ _ _ => False) e s') : False := by
  obtain ⟨_, _, _, _, _, _, _, _, _, _, z⟩ := h
  exact z

section
variable {P : Program} {w : World} {K : PySem.W.Frag} {mg : Str → Option Value} {base : Heap} {N : List Str} {qual : Str} {scope : Scope} {f : Addr} {cd : Value} {A : Around} {outer : List Env} {s₀ : Shared} {H₀ : Hp} {E₀ : XK}
/-- the exceptions of a callee leave the def -/
theorem passR {E : St → XK} (hE : ∀ σ cls dx H, E σ cls dx H → E₀ cls dx H) : Passes (CXR P w) (cxOf (CXR P w) P w K mg base N qual scope f cd A outer s₀ H₀ E₀) E := by
  intro pins σ H s x s' I hx
  obtain ⟨a, cls, dx, H', rfl, os, bare, un, hok, fly, ex⟩ := hx
  have I' := I.call' os un hok bare (fun b z => absurd z (by simp))
  have fly0 : Fly (fun b => (s₀.heap.get? b).isSome = true) H' (envOfC qual scope s₀.heap.objs.size f cd :: outer) a cls dx s'.heap := fly.mono fun b z => by
    obtain ⟨o, q⟩ := Option.isSome_iff_exists.mp z
    obtain ⟨o', q'⟩ := I.base.there b o q (by intro z; exact absurd (show b ∈ ([] : List Addr) from z) (by simp))
    rw [q']; rfl
  obtain ⟨a0, xs, fl, p, q, dd⟩ := id fly0
  refine wpAny_mono ((kd_leaving _ _).any (wpAny_leaves_onW (Q := fun _ sx => ∃ h', sx = { s' with heap := h' } ∧ Heap.FlyingW _ outer a cls a0 h' ∧ s'.heap.UpToSlots h') I.ok.frames rfl fl fun h' f1 up => ⟨h', rfl, f1, up⟩)) ?_ fun _ _ z => z.1
  rintro _ _ ⟨⟨h', rfl, f1, up⟩, dk⟩
  have W : Flown H' (envOfC qual scope s₀.heap.objs.size f cd :: outer) xs s'.heap h' := flown_of f1.1 up fly0.ff (fun b hb => (p b hb).1) I'.stkFree
  refine ⟨a, cls, dx, H', rfl, I'.os, I'.bare, W.un I'.base (fun b hb => ?_) (fun b hb => ?_), W.hok hok, ?_, hE _ _ _ _ ex⟩
  · cases q : s₀.heap.get? b with
    | none => rfl
    | some o => exact absurd (show (s₀.heap.get? b).isSome = true by rw [q]; rfl) (p b hb).2
  · rcases List.mem_cons.mp (show b ∈ s₀.heap.objs.size :: frs outer from hb) with z | z
    · exact .inr (by rw [z]; exact Heap.get?_none_of_le (Nat.le_refl _))
    · exact .inl z
  · refine W.fly (bad := fun b => (s₀.heap.get? b).isSome = true) hok fly0.ff (fun b hb => (p b hb).2) (fun b z => ?_) f1 (p a q) (dk.dict dd)
    obtain ⟨o, q⟩ := Option.isSome_iff_exists.mp z
    exact I'.base.there b o q (by intro z; exact absurd (show b ∈ ([] : List Addr) from z) (by simp))

theorem cut_none {h : Heap} {b : Addr} (n : ¬ (h.get? b).isSome = true) : h.get? b = none := by
  cases q : h.get? b with
  | none => rfl
  | some o => exact absurd (by rw [q]; rfl) n
/-- raise C(e, ..) of an own class without __init__ -/
def tRaise (E : XK) (C : Addr) (t : TA) : TS := fun _ σ H => t σ H fun vs H1 => vs.length ≤ sizeLine ∧ E (.ref C) none H1
theorem ps_raise {x : Str} {C : Addr} {bm : List Value} {B newId initId : String} {e : Expr} {es : List Expr} {t : TA} {np cpos pos : Pos} (O : OwnCls x C bm newId mg base) (FB : ExcBaseFacts B newId initId bm)
    (hg : Gl (cxOf (CXR P w) P w K mg base N qual scope f cd A outer s₀ H₀ E₀) x) (ha : PA (cxOf (CXR P w) P w K mg base N qual scope f cd A outer s₀ H₀ E₀) (e :: es) t)
    (he : starEach (e :: es) (envOfC qual scope s₀.heap.objs.size f cd) = (false, eval e (envOfC qual scope s₀.heap.objs.size f cd)) :: starEach es (envOfC qual scope s₀.heap.objs.size f cd) := by rfl)
    (hpl : (backTo cpos (starEach es (envOfC qual scope s₀.heap.objs.size f cd))).any (·.1) = false := by rfl) (hdb : (x == ("__debug__" : Str)) = false := by decide) :
    PS (cxOf (CXR P w) P w K mg base N qual scope f cd A outer s₀ H₀ E₀) (.Raise (some (.Call (.Name x np) (e :: es) [] cpos)) none pos) (tRaise E₀ C t) := by
  intro pins s σ H D I h
  have O' := O.keeps I.bk
  obtain ⟨tl, NN, nm, q, bs, hdct, sn, sub, ab, col, dd, k0, k1, k2, k3, k5, mN, hC, hN, hni, T⟩ := O.obj
  have hh : A.handled = none := I.ok.hd rfl
  refine wpAny_Raise_call_subT (C := C) (nm := nm) (q := q) (N := NN) (bs := bs) (bm := tl) (hdct := hdct) (sn := sn) (sub := sub) (ab := ab) (col := col) (dd := dd) (k0 := k0) (k1 := k1) (k2 := k2) (k3 := k3) (k5 := k5)
    FB (mN := mN) (T.hasType FB.hasBase) hh (by show (backTo cpos (starEach (e :: es) (envOfC qual scope s₀.heap.objs.size f cd))).any (·.1) = false; rw [he]; show (false || (backTo cpos (starEach es (envOfC qual scope s₀.heap.objs.size f cd))).any (·.1)) = false; rw [hpl]; rfl) hni (ld_glob I hg O.bound ⟨rfl, ?_⟩ hdb)
  have pl : wpAny (model P w) (A.deeper (envOfC qual scope s₀.heap.objs.size f cd)) (spliced (backTo cpos (starEach (e :: es) (envOfC qual scope s₀.heap.objs.size f cd)))) (fun vs s₂ => vs.length ≤ sizeLine ∧ (∀ b o, base.get? b = some o → s₂.heap.get? b = some o) ∧
      ∀ h' e, Heap.MadeExcOf s₂.heap h' e (.ref C) vs → (cxOf (CXR P w) P w K mg base N qual scope f cd A outer s₀ H₀ E₀).xe (.ref e) { s₂ with heap := h' }) (cxOf (CXR P w) P w K mg base N qual scope f cd A outer s₀ H₀ E₀).xe s := by
    refine thn (ha cpos pins s σ H _ I h) fun us s2 ⟨vs, H2, I2, r, hl, q2⟩ => ⟨by rw [← r.length]; exact hl, I2.bk, fun h' ea hx => ?_⟩
    have FF : ∀ b ∈ frs (envOfC qual scope s₀.heap.objs.size f cd :: outer), ∃ o, s2.heap.get? b = some o ∧ ∀ vs, o.data ≠ .fields vs := fun b hb => (I2.stack.mem hb).2
    have hin : ∀ env ∈ (envOfC qual scope s₀.heap.objs.size f cd :: outer), ∀ b, env.frame = some b → b ∈ frs (envOfC qual scope s₀.heap.objs.size f cd :: outer) ++ [] := fun env he b hb => List.mem_append_left _ (List.mem_filterMap.mpr ⟨env, he, hb⟩)
    refine wpAny_mono ((kd_leaving _ _).any (s := { s2 with heap := h' }) (wpAny_leaves_madeW (Q := fun _ sx => ∃ h'' t', sx = { s2 with heap := h'' } ∧ Heap.FlyingW _ outer ea (.ref C) (.ref t') h'' ∧ h'.UpToSlots h'') (base := PySem.W.hideAll s2.heap (frs (envOfC qual scope s₀.heap.objs.size f cd :: outer) ++ [])) I2.ok.frames rfl (fun b o q => PySem.W.of_hideAll _ q) (PySem.W.funFrames_hide I2.stack hin) hx fun h'' t' f1 _ _ up => ⟨h'', t', rfl, f1, up⟩)) ?_ fun _ _ z => z.1
    rintro _ _ ⟨⟨h'', t', rfl, f1, up⟩, dk⟩
    have up' : s2.heap.UpToSlots h'' := (Heap.UpToSlots.of_keeps hx.keeps).trans up
    have W : Flown H2 (envOfC qual scope s₀.heap.objs.size f cd :: outer) [] s2.heap h'' := flown_of f1.1 up' FF (fun b hb => absurd hb (by simp)) I2.stkFree
    have hea : H2 ea = none := by
      cases q : H2 ea with
      | none => rfl
      | some u =>
        obtain ⟨o, qo⟩ := (I2.hok ea u q).obj
        rw [hx.new] at qo; cases qo
    have dom : ∀ b, (s₀.heap.get? b).isSome = true → ∃ o, s2.heap.get? b = some o := fun b z => by
      obtain ⟨o, q⟩ := Option.isSome_iff_exists.mp z
      exact I2.base.there b o q (by intro z; exact absurd (show b ∈ ([] : List Addr) from z) (by simp))
    refine ⟨ea, .ref C, none, H2, rfl, I2.os, I2.bare, W.un I2.base (fun b hb => absurd hb (by simp)) (fun b hb => ?_), W.hok I2.hok, ?_, q2⟩
    · rcases List.mem_cons.mp (show b ∈ s₀.heap.objs.size :: frs outer from hb) with z | z
      · exact .inr (by rw [z]; exact Heap.get?_none_of_le (Nat.le_refl _))
      · exact .inl z
    · refine W.fly (bad := fun b => (s₀.heap.get? b).isSome = true) I2.hok FF (fun b hb => absurd hb (by simp)) dom f1 ⟨hea, fun z => ?_⟩ (dk.dict ?_)
      · obtain ⟨o, qo⟩ := dom ea z
        rw [hx.new] at qo; cases qo
      · obtain ⟨t0, e0, _⟩ := hx.there
        exact ⟨_, e0, rfl⟩
  show wpAny (model P w) (A.deeper (envOfC qual scope s₀.heap.objs.size f cd)) (evalArgs (.ref C) true (backTo cpos (starEach (e :: es) (envOfC qual scope s₀.heap.objs.size f cd))) []) _ _ s
  rw [he] at pl ⊢
  exact Calls.evalArgs_plain (wpAny_mono pl (fun vs s₂ h₂ => ⟨rfl, h₂.1, h₂.2.1 _ _ hC, hN.keeps h₂.2.1, T.keeps h₂.2.1, h₂.2.2⟩) fun _ _ y => y)
end

/-! ### a def that may raise -/
structure FunD (K : PySem.W.Frag) (x qual : Str) (st : Stmt) (dV : Value) (f : Addr) (fd : FuncData) : Prop where
  ex : ∃ (oc : Value) (od : Option Addr) (kV doc pm : Value) (an : Option Addr) (cdv ct : Value) (osl : Array (Option Value)),
    fd = PySem.W.fnOf x qual (defArgs st) (defBody st) (defScope st) dV kV doc pm an cdv ct ∧ K.lookup f = some ⟨oc, od, .func fd, osl⟩ ∧ PySem.W.codeIn K cdv qual = true
  kp : PySem.W.keepIn K (.ref f) = true
section
variable {P : Program} {w : World} {K : PySem.W.Frag} {mg : Str → Option Value} {base : Heap}
/-- THE RULE for a def that may raise -/
theorem FunD.okR {x qual : Str} {st : Stmt} {dV : Value} {f : Addr} {fd : FuncData} {N ps : List Str} {k : Nat} {sp : Sp} (F : FunD K x qual st dV f fd) (S : FnScope N ps (defScope st)) (len : ∀ vs H Q E, sp vs H Q E → vs.length = ps.length)
    (hbody : ∀ (cdv : Value) (A : Around) (outer : List Env) (s : Shared) (H : Hp) (vs : List V) (Q : VK) (E : XK), Room k (A.deeper (envOfC qual (defScope st) s.heap.objs.size f cdv)) → sp vs H Q E →
      ∃ t, PSs (cxOf (CXR P w) P w K mg base N qual (defScope st) f cdv A outer s H E) (defBody st) t ∧ t { nx := fun _ H' => Q .non H', rt := Q } (start N vs) H) : FnOk P w K mg base (CXR P w) (k + 1) f fd ps sp := by
  obtain ⟨oc, od, kV, doc, pm, an, cdv, ct, osl, rfl, lk, hcd⟩ := F.ex
  exact fn_of lk hcd S len fun A outer s H vs Q E hr hsp => hbody cdv A outer s H vs Q E hr hsp
/-- .. that never raises -/
theorem FunD.ok {x qual : Str} {st : Stmt} {dV : Value} {f : Addr} {fd : FuncData} {N ps : List Str} {k : Nat} {sp : Sp} (F : FunD K x qual st dV f fd) (S : FnScope N ps (defScope st)) (len : ∀ vs H Q E, sp vs H Q E → vs.length = ps.length)
    (hbody : ∀ (cdv : Value) (A : Around) (outer : List Env) (s : Shared) (H : Hp) (vs : List V) (Q : VK) (E : XK), Room k (A.deeper (envOfC qual (defScope st) s.heap.objs.size f cdv)) → sp vs H Q E →
      ∃ t, PSs (cxOf (CXR P w) P w K mg base N qual (defScope st) f cdv A outer s H E).nox (defBody st) t ∧ t { nx := fun _ H' => Q .non H', rt := Q } (start N vs) H) : FnOk P w K mg base (CXR P w) (k + 1) f fd ps sp :=
  F.okR S len fun cdv A outer s H vs Q E hr hsp => by
    obtain ⟨t, h, q⟩ := hbody cdv A outer s H vs Q E hr hsp
    exact ⟨t, h.nox, q⟩
theorem passN {X : Cx} {P : Program} {w : World} : Passes (CXR P w) X E0 := fun _ _ _ _ _ _ _ h => (CXR.no h).elim
end
end L2

namespace L2
open PySem PySem.Spec PyProof.Rows

section
variable {X : Cx} {pins : List (Addr × Obj)} {σ : St} {H : Hp} {s : Shared} {h' : Heap} {ex : List Addr}
theorem Inv.flown (I : Inv X pins σ H s) (W : Flown H X.stack ex s.heap h') (up : s.heap.UpToSlots h') (hpx : ∀ p ∈ X.pn ++ pins, p.1 ∉ ex) (gx : ∀ b ∈ ex, X.s_0.heap.get? b = none) (hex : X.ex = []) : Inv X pins σ H { s with heap := h' } := by
  have cellUp : ∀ c v, s.heap.IsCell c v → h'.IsCell c v := fun c v z => by
    obtain ⟨o, ho, hd⟩ := z
    obtain ⟨sl, e⟩ := up c o ho (fun vs q => by rw [hd] at q; cases q)
    exact ⟨_, e, hd⟩
  have U : Un X.fs [] X.H_0 H X.s_0.heap s.heap := by have := I.base; rwa [hex] at this
  have gf : ∀ b ∈ frs X.stack, b ∈ X.fs ∨ X.s_0.heap.get? b = none := fun b hb => by
    rcases List.mem_cons.mp (I.stkSub b hb) with z | z
    · exact .inr (by rw [z]; exact Heap.get?_none_of_le I.ok.above)
    · exact .inl z
  obtain ⟨m, hn, hl⟩ := I.loc
  refine ⟨I.ok, I.os, I.bare, by rw [hex]; exact W.un U gx gf, ⟨m, up.ns hn, fun i x v h1 h2 h3 => ?_⟩, fun x c e => ?_, I.free, I.freeC, fun p hp => ?_, W.hok I.hok, I.len⟩
  · obtain ⟨u, r, q⟩ := hl i x v h1 h2 h3
    refine ⟨u, r, ?_⟩
    rcases q with q | ⟨k, c, e, z⟩
    · exact .inl q
    · exact .inr ⟨k, c, e, cellUp _ _ z⟩
  · obtain ⟨v, z⟩ := I.cell x c e
    exact ⟨v, cellUp _ _ z⟩
  · obtain ⟨e, n, ne, nf, d⟩ := I.pin p hp
    refine ⟨W.keep p.1 p.2 e (fun z => ?_) (hpx p hp), n, ne, nf, d⟩
    rcases List.mem_cons.mp (I.stkSub p.1 z) with y | y
    · exact ne y
    · exact nf y
end

/-! ### try -/
abbrev RK := St → Value → Option Addr → Hp → Prop
def badX (X : Cx) (pins : List (Addr × Obj)) : Addr → Prop := fun b => (X.s_0.heap.get? b).isSome = true ∨ ∃ p ∈ X.pn ++ pins, p.1 = b
abbrev Cx.pnd (X : Cx) (pn : List (Addr × Obj)) : Cx := { X with pn := pn }
def XT (X : Cx) (pn : List (Addr × Obj)) (R : RK) (e : Value) (s : Shared) : Prop :=
  ∃ (a : Addr) (cls : Value) (dx : Option Addr) (σ : St) (H : Hp), e = .ref a ∧ Inv (X.pnd pn) [] σ H s ∧ Fly (badX (X.pnd pn) []) H X.stack a cls dx s.heap ∧ R σ cls dx H
abbrev Cx.tr (X : Cx) (pn : List (Addr × Obj)) (R : RK) : Cx := { X with pn := pn, xe := fun e s' => wpAny (model X.prog X.w) X.A (noteFrame e X.env) (fun _ s₂ => wpAny (model X.prog X.w) X.A (setFlight e none) (fun _ s₃ => XT X pn R e s₃) (fun _ _ => False) s₂) (fun _ _ => False) s' }
structure InDef (X : Cx) : Prop where
  st : X.stack = X.env :: X.outer
  fr : X.env.frame = some X.env.locals
  ex : X.ex = []
section
variable {X : Cx} {pn : List (Addr × Obj)} {R : RK}
theorem Cx.Ok.re {X Y : Cx} (ok : X.Ok) (h1 : Y.prog = X.prog) (h2 : Y.K = X.K) (h3 : Y.mg = X.mg) (h4 : Y.base = X.base) (h5 : Y.A.frames = X.A.frames) (h6 : Y.s_0 = X.s_0) (h7 : Y.H_0 = X.H_0) (h8 : Y.env = X.env) (h9 : Y.outer = X.outer) (h10 : Y.stack = X.stack) (h11 : Y.ex = X.ex) (h12 : Y.fn = X.fn) (h13 : Y.calm = true → Y.A.handled = none) : Y.Ok := by
  obtain ⟨a1, a2, a3, a4, a5, a6, a7, a8, a9, a10, a11, a12, a13, a14, a15, a16, a17, a18⟩ := ok
  obtain ⟨yprog, yw, yK, ymg, ybase, yA, yN, ys, yH, yenv, youter, ystack, yex, yfn, ycalm, ypn, yxe⟩ := Y
  dsimp only at h1 h2 h3 h4 h5 h6 h7 h8 h9 h10 h11 h12 h13
  subst h1 h2 h3 h4 h6 h7 h8 h9 h10 h11 h12
  exact ⟨a1, a2, a3, a4, a5, a6, a7, a8, h13, h5.trans a10, a11, a12, a13, a14, a15, a16, a17, a18⟩
theorem Inv.tr {pins : List (Addr × Obj)} {σ : St} {H : Hp} {s : Shared} (I : Inv X pins σ H s) (hp : ∀ p ∈ pn, p ∈ X.pn ++ pins) : Inv (X.tr pn R) [] σ H s :=
  ⟨I.ok.re rfl rfl rfl rfl rfl rfl rfl rfl rfl rfl rfl rfl I.ok.hd, I.os, I.bare, I.base, I.loc, I.cell, I.free, I.freeC, fun p h => I.pin p (hp p (by simpa using h)), I.hok, I.len⟩
theorem Inv.untr {pins pn' : List (Addr × Obj)} {σ : St} {H : Hp} {s : Shared} (I : Inv (X.tr pn R) pn' σ H s) (hp : ∀ p ∈ X.pn ++ pins, p ∈ pn ++ pn') : Inv X pins σ H s :=
  ⟨I.ok.re rfl rfl rfl rfl rfl rfl rfl rfl rfl rfl rfl rfl I.ok.hd, I.os, I.bare, I.base, I.loc, I.cell, I.free, I.freeC, fun p h => I.pin p (hp p h), I.hok, I.len⟩
theorem Inv.unpnd {pins pn' : List (Addr × Obj)} {σ : St} {H : Hp} {s : Shared} (I : Inv (X.pnd pn) pn' σ H s) (hp : ∀ p ∈ X.pn ++ pins, p ∈ pn ++ pn') : Inv X pins σ H s :=
  ⟨I.ok.re rfl rfl rfl rfl rfl rfl rfl rfl rfl rfl rfl rfl I.ok.hd, I.os, I.bare, I.base, I.loc, I.cell, I.free, I.freeC, fun p h => I.pin p (hp p h), I.hok, I.len⟩
theorem Inv.topnd {pins : List (Addr × Obj)} {σ : St} {H : Hp} {s : Shared} (I : Inv (X.tr pn R) pins σ H s) : Inv (X.pnd pn) [] σ H s :=
  ⟨I.ok.re rfl rfl rfl rfl rfl rfl rfl rfl rfl rfl rfl rfl I.ok.hd, I.os, I.bare, I.base, I.loc, I.cell, I.free, I.freeC, fun p h => I.pin p (by rw [List.append_nil] at h; exact List.mem_append_left _ h), I.hok, I.len⟩

/-- the exceptions of a callee within a try's body -/
theorem passT (hD : InDef X) : Passes (CXR X.prog X.w) (X.tr pn R) (fun σ cls dx H => R σ cls dx H) := by
  intro pins σ H s x s' I hx
  obtain ⟨a, cls, dx, H', rfl, os, bare, un, hok, fly, er⟩ := hx
  have I' := I.call' os un hok bare (fun b z => absurd z (by simp))
  obtain ⟨a0, xs, fl, p, q, dd⟩ := id fly
  have fl' : Heap.FlyingW (PySem.W.hideAll s'.heap (frs X.stack ++ xs)) (X.env :: X.outer) a cls a0 s'.heap := by have := fl; rw [← hD.st]; exact this
  have FF : ∀ b ∈ frs X.stack, ∃ o, s'.heap.get? b = some o ∧ ∀ vs, o.data ≠ .fields vs := fly.ff
  show wpAny (model X.prog X.w) X.A (noteFrame (.ref a) X.env) _ _ s'
  refine wpAny_mono ((kd_note _ _).any (wpAny_looks_onW (Q := fun _ sx => ∃ h4, sx = { s' with heap := h4 } ∧ Heap.HeldW _ (X.env :: X.outer) a cls a0 X.env.locals h4 ∧ s'.heap.UpToSlots h4) (by rw [← hD.st]; exact I.ok.frames) hD.fr fl' fun h4 held up4 => ⟨h4, rfl, held, up4⟩)) ?_ fun _ _ z => z.1
  rintro _ _ ⟨⟨h4, rfl, held, up4⟩, dk4⟩
  refine wpAny_mono ((kd_setFlight _ _).any (wpAny_landsW (Q := fun _ sx => ∃ h5, sx = { s' with heap := h5 } ∧ Heap.FlyingW _ (X.env :: X.outer) a cls a0 h5 ∧ h4.UpToSlots h5) held fun h5 f5 up5 => ⟨h5, rfl, f5, up5⟩)) ?_ fun _ _ z => z.1
  rintro _ _ ⟨⟨h5, rfl, f5, up5⟩, dk5⟩
  have up : s'.heap.UpToSlots h5 := up4.trans up5
  have f5' : Heap.FlyingW (PySem.W.hideAll s'.heap (frs X.stack ++ xs)) X.stack a cls a0 h5 := by rw [hD.st]; rw [hD.st] at f5; exact f5
  have W : Flown H' X.stack xs s'.heap h5 := flown_of f5.1 up FF (fun b hb => (p b hb).1) I'.stkFree
  have old : ∀ b, badX (X.pnd pn) [] b → (s.heap.get? b).isSome = true ∧ ∃ o, s'.heap.get? b = some o := fun b z => by
    rcases z with z | ⟨y, hy, rfl⟩
    · obtain ⟨o, q⟩ := Option.isSome_iff_exists.mp z
      have nb : ∀ b : Addr, b ∉ (X.tr pn R).ex := fun b z => by rw [show (X.tr pn R).ex = [] from hD.ex] at z; exact absurd z (by simp)
      obtain ⟨o1, q1⟩ := I.base.there b o q (nb b)
      exact ⟨by rw [q1]; rfl, I'.base.there b o q (nb b)⟩
    · have hy' : y ∈ (X.tr pn R).pn ++ pins := by rw [List.append_nil] at hy; exact List.mem_append_left _ hy
      exact ⟨by rw [(I.pin y hy').1]; rfl, _, (I'.pin y hy').1⟩
  refine ⟨a, cls, dx, σ, H', rfl, (Inv.topnd I').flown W up (fun y hy => ?_) (fun b hb => ?_) hD.ex, W.fly hok FF (fun b hb z => (p b hb).2 (old b z).1) (fun b z => (old b z).2) f5' ⟨(p a q).1, fun z => (p a q).2 (old a z).1⟩ (dk5.dict (dk4.dict dd)), er⟩
  · exact fun z => (p y.1 z).2 (old y.1 (.inr ⟨y, hy, rfl⟩)).1
  · exact cut_none fun z => (p b hb).2 (old b (.inl z)).1

/-! ### the handlers -/
abbrev TH := Ends → St → Hp → Addr → Value → Option Addr → Prop
def PH (X : Cx) (hs : List ExceptHandler) (t : TH) : Prop := ∀ (pins : List (Addr × Obj)) (s : Shared) (σ : St) (H : Hp) (D : Ends) (a : Addr) (cls : Value) (dx : Option Addr), Inv X pins σ H s → Fly (badX X pins) H X.stack a cls dx s.heap → t D σ H a cls dx →
  wpAny (model X.prog X.w) X.A (handleBy (.ref a) X.env hs) (SP X pins D) X.xe s
def tTry (R : RK) (tb : TS) (th : TH) : TS := fun D σ H => tb D σ H ∧ ∀ σ' H' a cls dx, R σ' cls dx H' → H' a = none → th D σ' H' a cls dx
theorem ps_try {body : List Stmt} {h0 : ExceptHandler} {hs : List ExceptHandler} {pos : Pos} {tb : TS} {th : TH} (R : RK) (hD : InDef X) (hb : ∀ pn, PSs (X.tr pn R) body tb) (hh : PH X (h0 :: hs) th) : PS X (.Try body (h0 :: hs) [] [] pos) (tTry R tb th) := by
  intro pins s σ H D I h
  obtain ⟨h1, h2⟩ := h
  have un : ∀ {pn' : List (Addr × Obj)} {σ' : St} {H' : Hp} {s' : Shared}, Inv (X.tr (X.pn ++ pins) R) pn' σ' H' s' → Inv X pins σ' H' s' := fun I' => I'.untr fun p hp => List.mem_append_left _ hp
  refine wpAny_Try_except (wpAny_mono (hb (X.pn ++ pins) [] s σ H D (I.tr fun p hp => hp) h1) (fun f s1 q => ?_) (fun e s1 q => ?_))
  · cases f with
    | next => obtain ⟨σ', H', I', q⟩ := q; exact wpAny_execs_nil ⟨σ', H', un I', q⟩
    | brk => obtain ⟨σ', H', I', q⟩ := q; exact ⟨σ', H', un I', q⟩
    | cont => obtain ⟨σ', H', I', q⟩ := q; exact ⟨σ', H', un I', q⟩
    | ret u => obtain ⟨v, σ', H', I', r, q⟩ := q; exact ⟨v, σ', H', un I', r, q⟩
  · refine wpAny_mono q (fun _ s2 q2 => wpAny_mono q2 (fun _ s3 q3 => ?_) fun _ _ z => z.elim) fun _ _ z => z.elim
    obtain ⟨a, cls, dx, σ', H', rfl, I', fly, r⟩ := q3
    refine hh pins s3 σ' H' D a cls dx (I'.unpnd fun p hp => List.mem_append_left _ hp) (fly.mono fun b z => ?_) (h2 σ' H' a cls dx r fly.free.1)
    rcases z with z | ⟨y, hy, e⟩
    · exact .inl z
    · exact .inr ⟨y, List.mem_append_left _ hy, e⟩

/-- a caught exception, by its class -/
def excO (a : Addr) (cls : Value) (dx : Option Addr) : HO := .ext fun h => ∃ o vs, h.get? a = some o ∧ o.cls = cls ∧ o.data = .fields vs ∧ o.dict = dx
theorem Inv.exc {pins : List (Addr × Obj)} {σ : St} {H : Hp} {s : Shared} {a : Addr} {cls : Value} {dx : Option Addr} (I : Inv X pins σ H s) (ho : ∃ o vs, s.heap.get? a = some o ∧ o.cls = cls ∧ o.data = .fields vs ∧ o.dict = dx) (hn : H a = none) (hb : ¬ badX X pins a) : Inv X pins σ (upd H a (excO a cls dx)) s := by
  obtain ⟨o, vs, ha, hc, hd, hdx⟩ := id ho
  have nd : ∀ b ob, s.heap.get? b = some ob → (∀ vs, ob.data ≠ .fields vs) → b ≠ a := fun b ob q n z => by
    subst z; rw [ha] at q; cases q; exact n vs hd
  refine ⟨I.ok, I.os, I.bare, ⟨I.base.keep, I.base.slot, fun b ob q n hx => ?_, I.base.there, fun b xs q => ?_, fun b ob u q => ?_, fun b ps q => ?_⟩, I.loc, I.cell, ?_, fun x c e => ?_, fun p hp => ?_, fun b ob q => ?_, I.len⟩
  · have : b ≠ a := fun z => hb (.inl (by rw [← z, q]; rfl))
    rw [upd_ne this]; exact I.base.free b ob q n hx
  · have := I.base.tups b xs q
    rw [upd_ne (ne_of_none this hn)]; exact this
  · have := I.base.frzs b ob u q
    rw [upd_ne (ne_of_none this hn)]; exact this
  · obtain ⟨more, q1⟩ := I.base.tbls b ps q
    exact ⟨more, by rw [upd_ne (ne_of_none q1 hn)]; exact q1⟩
  · obtain ⟨m, ⟨o', es, ep, ho', hd', _⟩, _⟩ := I.loc
    rw [upd_ne (nd _ _ ho' (fun vs q => by rw [hd'] at q; cases q))]; exact I.free
  · obtain ⟨v, o', ho', hd'⟩ := I.cell x c e
    rw [upd_ne (nd _ _ ho' (fun vs q => by rw [hd'] at q; cases q))]; exact I.freeC x c e
  · obtain ⟨e, n, ne, nf, d⟩ := I.pin p hp
    refine ⟨e, ?_, ne, nf, d⟩
    rw [upd_ne fun z => hb (.inr ⟨p, hp, z⟩)]; exact n
  · by_cases z : b = a
    · subst z
      rw [upd_same] at q; cases q
      exact ⟨ho, ⟨o, ha⟩, fun h1 h2 ⟨o1, vs1, q1, c1, d1, z1⟩ k => ⟨o1, vs1, k _ q1, c1, d1, z1⟩⟩
    · rw [upd_ne z] at q
      exact (I.hok b ob q).stay (fun _ _ _ q => q) (fun c q => by rw [upd_ne (ne_of_none q hn)]; exact q) fun c xs q => by rw [upd_ne (ne_of_none q hn)]; exact q

/-- the context of a handler's suite: no exception leaves it -/
abbrev Cx.hdl (X : Cx) (a : Addr) : Cx := { X with A := X.A.mark (some (.ref a)), calm := false, xe := fun _ _ => False }
theorem Inv.hdl {pins : List (Addr × Obj)} {σ : St} {H : Hp} {s : Shared} (I : Inv X pins σ H s) (a : Addr) : Inv (X.hdl a) pins σ H s :=
  ⟨I.ok.re rfl rfl rfl rfl rfl rfl rfl rfl rfl rfl rfl rfl (fun z => by cases z), I.os, I.bare, I.base, I.loc, I.cell, I.free, I.freeC, I.pin, I.hok, I.len⟩
theorem Inv.unhdl {pins : List (Addr × Obj)} {σ : St} {H : Hp} {s : Shared} {a : Addr} (hc : X.calm = true → X.A.handled = none) (I : Inv (X.hdl a) pins σ H s) : Inv X pins σ H s :=
  ⟨I.ok.re rfl rfl rfl rfl rfl rfl rfl rfl rfl rfl rfl rfl hc, I.os, I.bare, I.base, I.loc, I.cell, I.free, I.freeC, I.pin, I.hok, I.len⟩

/-- a class's name -/
def NameIs (X : Cx) (x : Str) (c : Value) : Prop := ∀ (a : Addr) (np : Pos) (E : Value → Shared → Prop) (pins : List (Addr × Obj)) (s : Shared) (σ : St) (H : Hp) (Q : Value → Shared → Prop), Inv (X.hdl a) pins σ H s → Q c s → wpAny (model X.prog X.w) (X.A.mark (some (.ref a))) (eval (.Name x np) X.env) Q E s
theorem NameIs.own {x : Str} {c : Value} (hg : Gl X x) (hm : X.mg x = some c) (hd : (x == ("__debug__" : Str)) = false := by decide) : NameIs X x c := fun a np E pins s σ H Q I h => ld_glob (X := X.hdl a) I hg hm h hd
theorem NameIs.blt {x : Str} {c : Value} (hg : Gl X x) (hm : X.mg x = none) (hv : bootBuiltins x = some c) (hn : x ≠ "__name__" := by decide) (hd : (x == ("__debug__" : Str)) = false := by decide) : NameIs X x c := fun a np E pins s σ H Q I h => ld_blt (X := X.hdl a) I hg hm hv h hn hd

theorem fly_again {pins : List (Addr × Obj)} {σ : St} {H : Hp} {s : Shared} {a : Addr} {cls : Value} {M : Model} {A : Around} {E : Value → Shared → Prop} {Q : Unit → Shared → Prop} {dx : Option Addr} (hD : InDef X) (I : Inv X pins σ H s) (fly : Fly (badX X pins) H X.stack a cls dx s.heap)
    (h : ∀ h', Inv X pins σ H { s with heap := h' } → Fly (badX X pins) H X.stack a cls dx h' → Q () { s with heap := h' }) : wpAny M A (setFlight (.ref a) none) Q E s := by
  obtain ⟨a0, xs, fl, p, q, dd⟩ := id fly
  refine wpAny_mono ((kd_setFlight _ _).any (lands_againW (Q := fun _ sx => ∃ h5, sx = { s with heap := h5 } ∧ Heap.FlyingW _ X.stack a cls a0 h5 ∧ s.heap.UpToSlots h5) (E := E) fl fun h5 f5 up => ⟨h5, rfl, f5, up⟩)) ?_ fun _ _ z => z.1
  rintro _ _ ⟨⟨h5, rfl, f5, up⟩, dk⟩
  have W : Flown H X.stack xs s.heap h5 := flown_of f5.1 up fly.ff (fun b hb => (p b hb).1) I.stkFree
  have dom : ∀ b, badX X pins b → ∃ o, s.heap.get? b = some o := fun b z => by
    rcases z with z | ⟨y, hy, rfl⟩
    · obtain ⟨o, q⟩ := Option.isSome_iff_exists.mp z
      exact I.base.there b o q (by rw [hD.ex]; simp)
    · exact ⟨_, (I.pin y hy).1⟩
  refine h h5 (I.flown W up (fun y hy z => (p y.1 z).2 (.inr ⟨y, hy, rfl⟩)) (fun b hb => cut_none fun z => (p b hb).2 (.inl z)) hD.ex) (W.fly I.hok fly.ff (fun b hb => (p b hb).2) dom f5 (p a q) (dk.dict dd))

/-- except C: .. -/
def tHd (K : PySem.W.Frag) (c : Value) (ts : TS) (tr : TH) : TH := fun D σ H a cls dx => ∃ b, PySem.W.exmOne K cls c = some b ∧ if b = true then ts D σ (upd H a (excO a cls dx)) else tr D σ H a cls dx
theorem ph_cons {x : Str} {c : Value} {np pos : Pos} {b0 : Stmt} {suite : List Stmt} {rest : List ExceptHandler} {ts : TS} {tr : TH} (hD : InDef X) (hn : NameIs X x c) (hs : ∀ a, PSs (X.hdl a) (b0 :: suite) ts) (hr : PH X rest tr) :
    PH X (.ExceptHandler (some (.Name x np)) none (b0 :: suite) pos :: rest) (tHd X.K c ts tr) := by
  intro pins s σ H D a cls dx I fly h
  obtain ⟨b, hb, h⟩ := h
  obtain ⟨oe, vs, ha, hc, hd, hdx⟩ := fly.obj
  have LT : PySem.W.Looks (model X.prog X.w) s.heap (typeOf (.ref a)) cls := by subst hc; exact (PySem.W.Looks.ld ha).andThen .now
  refine wpAny_handleBy_cons (codeAny_handlers_test (hn a np _ pins s σ H _ (I.hdl a) ((PySem.W.exm_one I.kIn LT hb).here ?_))) (by intro q; cases q)
  cases b with
  | false =>
    rw [if_neg Bool.false_ne_true] at h
    exact hr pins s σ H D a cls dx I fly h
  | true =>
    rw [if_pos rfl] at h
    refine codeAny_handlers_suite (fly_again hD I fly fun h' I' fly' => ?_)
    have I2 := I'.exc fly'.obj fly'.free.1 fly'.free.2
    refine wpAny_mono (hs a pins _ σ _ D (I2.hdl a) h) (fun f s1 q => ?_) fun _ _ z => z.elim
    cases f with
    | next => obtain ⟨σ', H', I', q⟩ := q; exact ⟨σ', H', I'.unhdl I.ok.hd, q⟩
    | brk => obtain ⟨σ', H', I', q⟩ := q; exact ⟨σ', H', I'.unhdl I.ok.hd, q⟩
    | cont => obtain ⟨σ', H', I', q⟩ := q; exact ⟨σ', H', I'.unhdl I.ok.hd, q⟩
    | ret u => obtain ⟨v, σ', H', I', r, q⟩ := q; exact ⟨v, σ', H', I'.unhdl I.ok.hd, r, q⟩
end
end L2

namespace L2
open PySem PySem.Spec PyProof.Rows PySem.W Builtin Builtin.ObjectAttr Builtin.Getset_descriptor
/-- what the text must say of a class c of exceptions for isinstance to read an exception's class off it -/
structure ExcCls (K : Frag) (c : Addr) : Prop where
  ga : findIn K (.ref c) "__getattribute__" = some (some (.builtin "BaseException.__getattribute__"))
  gn : findIn K (.ref c) "__getattr__" = some none
  gc : findIn K (.ref c) "__class__" = some (some (.builtin "object.__class__"))
  mo : mroIn K c (.type "object") = some true
  mb : mroIn K c (.type "BaseException") = some true
  is : (clsIn K c).isSome = true
section
variable {P : Program} {w : World} {A : Around} {E : Value → Shared → Prop} {K : Frag} {e c : Addr} {m : Heap} {g : Array GenState} {dr : Drawn} {tk : Nat} {os : OsState}
/-- object.__class__ read by its descriptor: what the class of e is -/
theorem gives_class {tp : Value} {R : Result → Shared → Prop} (ty : Looks (model P w) m (typeOf (.ref e)) (.ref c)) (sub : Looks (model P w) m (isSubtype (.ref c) (.type "object")) true)
    (k : R (.ok (.ret (.ref c))) ⟨m, g, dr, tk, os⟩) :
    codeAny (model P w) A (.call (.builtin "getset_descriptor.__get__") ⟨.builtin "object.__class__" :: [.ref e, tp], []⟩) R ⟨m, g, dr, tk, os⟩ := by
  have S := KF.slot_gs
  have own := KF.owner_class
  refine codeAny_call_builtin S.plain KF.entry_gs ?_
  refine S.check _ _ _ _ _ _ _ _ KF.type_class (KF.args_gs _ _ _) ?_
  delta Builtin.«getset_descriptor.__get__» descrGet
  refine wpAny_bind (wpAny_of_eq (dga_obj _ _ _) ?_)
  delta descrGetter descrCheckInstance isInstance descrNameAndClass
  dsimp only
  rw [own]
  dsimp only
  repeat (first | (with_reducible refine ty.at ?_) | (with_reducible refine sub.at ?_) | wp_step | dsimp only)
  refine ⟨Code.quiet_builtin _ (by decide +kernel), ?_⟩
  refine codeAny_builtin KF.entry_class ?_
  delta Builtin.«object.__class__» shownTypeOf
  repeat (first | (with_reducible refine ty.at ?_) | wp_step | dsimp only)
  exact k
/-- the generic reading of an object's attributes, asked for __class__ -/
theorem reads_class {nt : Tok} {Q : Fin → Shared → Prop} (kin : K.In m) (ty : Looks (model P w) m (typeOf (.ref e)) (.ref c)) (T : ExcCls K c) (k : Q (.done (.ret (.ref c))) ⟨m, g, dr, tk, os⟩) :
    wpAny (model P w) A (Builtin.«object.__getattribute__» ⟨.ref e :: [.str "__class__" nt], []⟩) Q E ⟨m, g, dr, tk, os⟩ := by
  have lf := looks_findIn (M := model P w) kin T.gc
  have lg := F.slot_gs_get.lookup
  have ls := F.slot_gs_set.lookup
  have lt := F.typeOf_object_class
  delta Builtin.«object.__getattribute__»
  repeat (first | assumption | (with_reducible refine ty.at ?_) | (with_reducible refine lf.at ?_) | wp_step | dsimp only)
  refine gives_class ty (looks_mroIn kin T.mo) ?_
  exact wpAny_pure k
/-- the check ahead of BaseException's own reading -/
theorem exc_check {nm : Value} {Q : Unit → Shared → Prop} (kin : K.In m) (ty : Looks (model P w) m (typeOf (.ref e)) (.ref c)) (T : ExcCls K c) (k : Q () ⟨m, g, dr, tk, os⟩) :
    wpAny (model P w) A (checkBuiltinCall "BaseException.__getattribute__" ⟨.ref e :: [nm], []⟩) Q E ⟨m, g, dr, tk, os⟩ := by
  have b1 : builtinKind "BaseException.__getattribute__" = some .slot ∧ splitId "BaseException.__getattribute__" = some ("BaseException", "__getattribute__") := by decide +kernel
  have ar := F.args_bexc_ga (.ref e) nm
  have sub := looks_mroIn (M := model P w) kin T.mb
  delta checkBuiltinCall
  dsimp only
  rw [b1.1, b1.2]
  delta isInstance
  dsimp only
  repeat (first | assumption | (with_reducible refine ty.at ?_) | (with_reducible refine sub.at ?_) | wp_step | dsimp only)
/-- the class of an exception, as isinstance asks for it -/
theorem tells_class {Q : Option Value → Shared → Prop} (kin : K.In m) (ty : Looks (model P w) m (typeOf (.ref e)) (.ref c)) (T : ExcCls K c) (k : Q (some (.ref c)) ⟨m, g, dr, tk + 1, os⟩) :
    wpAny (model P w) A (getAttr? (.ref e) "__class__") Q E ⟨m, g, dr, tk, os⟩ := by
  have l1 := looks_findIn (M := model P w) kin T.ga
  have l2 := looks_findIn (M := model P w) kin T.gn
  have V := PySem.F.excAttr_ValueError.ga
  have ne : (Value.builtin "BaseException.__getattribute__" == Value.builtin "object.__getattribute__") = false := by decide +kernel
  delta getAttr? getAttrBy? getAttrBy
  apply wpAny_bind
  apply wpAny_mkText
  refine wpAny_bind (wpAny_attempt (wpAny_holding (wpAny_bind (ty.at ?_))))
  refine wpAny_bind (l1.at ?_)
  dsimp only
  rw [ne, Bool.and_false, if_neg (by decide)]
  delta getAttrByItsOwn hookBefore
  refine wpAny_bind (l2.at (wpAny_bind (wpAny_attempt (wpAny_holding ?_))))
  delta callGetattribute boundAndCalled
  rw [if_neg (by decide)]
  refine wpAny_bind (wpAny_of_eq (V.bind (.ref e)) ?_)
  refine wpAny_call (codeAny_call_builtin V.plain F.entry_bexc_ga (exc_check kin ty T (reads_class kin ty T ?_)))
  repeat (first | assumption | wp_step | dsimp only)
/-- a class of K is no tuple -/
theorem not_tuple {tp : Addr} {dd : Option Addr} {its : List Value} {n : Nat} {sl : Array (Option Value)} (own : (clsIn K c).isSome = true) (kin : K.In m) (at_ : m.get? tp = some ⟨.type "tuple", dd, .seq its.toArray n, sl⟩) : (Value.ref c == .ref tp) = false := by
  refine beq_eq_false_iff_ne.mpr fun q => ?_
  injection q with q
  rw [← q] at at_
  delta clsIn at own
  split at own
  next o =>
    have z := (kin c _ o).symm.trans at_
    injection z with z
    injection z with _ _ z
    cases z
  next => cases own
theorem is_type {M : Model} (own : (clsIn K c).isSome = true) (kin : K.In m) : Looks M m (isType (.ref c)) true := by
  delta clsIn at own
  split at own
  next o =>
    intro A' Q' E' s' k q
    delta isType loadHead
    refine wpAny_bind (wpAny_loadPart (k c _ (kin c _ o)) ?_)
    exact wpAny_pure q
  next => cases own
theorem kitx_exc {dx : Option Addr} (T : ExcCls K c) : KitX K (.ref e) (.ref c) (fun h => ∃ o vs, h.get? e = some o ∧ o.cls = .ref c ∧ o.data = .fields vs ∧ o.dict = dx) where
  ty M h _ p := let ⟨_, _, at_, cl, _⟩ := p; cl ▸ (Looks.ld at_).andThen .now
  it M h kin _ := is_type T.is kin
  ne h tp dd its n sl kin at_ := not_tuple T.is kin at_
  ca {P w A E Q s} kin p k := by
    obtain ⟨_, _, at_, cl, _⟩ := p
    exact tells_class (m := s.heap) kin (cl ▸ (Looks.ld at_).andThen .now) T k
end
def clsV : V → Option Value
  | .ref a => some (.ref a)
  | .ty n => some (.type n)
  | _ => none
theorem clsV_rel {c : V} {u u' : Value} (h : clsV c = some u) (r : RelV c u') : u' = u := by
  cases c <;> first | cases h | skip
  · exact r
  · exact r
section
variable {X : Cx}
theorem ci_exc {C : Addr} (T : ExcCls X.K C) : CallR X (.builtin "isinstance") (fun xs H Q => ∃ a c u b dx, xs = [V.ref a, c] ∧ clsV c = some u ∧ H a = some (excO a (.ref C) dx) ∧ PySem.W.kitOne X.K (.ref C) u = some b ∧ Q (.bl b) H) := by
  intro pins s σ H xs us Q I r h
  obtain ⟨a, c, u, b, dx, rfl, hc, ha, hk, q⟩ := h
  cases r with
  | cons r1 r2 => cases r2 with
    | cons r2 r3 =>
      cases r3
      have e := clsV_rel hc r2
      subst e
      cases (show _ = Value.ref a from r1)
      have ho : ∃ o vs, s.heap.get? a = some o ∧ o.cls = .ref C ∧ o.data = .fields vs ∧ o.dict = dx := by
        have := I.hok a _ ha
        exact this.1
      refine PySem.W.kia_one (kitx_exc T) I.kIn ho hk (fun z => nomatch z) fun tk => ⟨.bl b, H, ?_, rfl, q⟩
      exact ⟨I.ok, I.os, I.bare, I.base, I.loc, I.cell, I.free, I.freeC, I.pin, I.hok, I.len⟩
theorem ci_isi : CallR X (.builtin "isinstance") (fun xs H Q => ∃ x c t u b, xs = [x, c] ∧ clsV c = some u ∧ TyOf X.K H x t ∧ PySem.W.kitOne X.K t u = some b ∧ Q (.bl b) H) := by
  intro pins s σ H xs us Q I r h
  obtain ⟨x, c, t, u, b, rfl, hc, ht, hk, q⟩ := h
  cases r with
  | cons r1 r2 => cases r2 with
    | cons r2 r3 =>
      cases r3
      have e := clsV_rel hc r2
      subst e
      refine isinst_ok I r1 ht hk fun tk => ⟨.bl b, H, ?_, rfl, q⟩
      exact ⟨I.ok, I.os, I.bare, I.base, I.loc, I.cell, I.free, I.freeC, I.pin, I.hok, I.len⟩
end
end L2

namespace L2
open PySem PySem.Spec PyProof.Rows

/-! ### whole numbers of any size -/
section
variable {X : Cx}
theorem op_mulB : OpR X (binaryOp .Mult) (rI IntMulOk fun i j => .int (i * j)) := opI fun _ _ _ _ _ _ _ hc q => mul_int q hc
def CDivB (_ j : Int) : Prop := j ≠ 0 ∧ j.natAbs.log2 < 9000
theorem op_fdivB : OpR X (binaryOp .FloorDiv) (rI CDivB fun i j => .int (i.fdiv j)) := opI fun _ _ _ _ _ _ _ hc q => floordiv_int hc.1 q (.inl (PyProof.noPylong_of_log2 hc.2))
end

/-! ### unpacking a list -/
def gLst (K : PySem.W.Frag) (n : Nat) (t : TGs) : TG := fun v σ H Q => ∃ a xs, v = .ref a ∧ SqL K H a xs ∧ xs.length = n ∧ t xs σ H Q
theorem pg_lst {X : Cx} {pos : Pos} {es : List Expr} {k : Nat} {t : TGs} {n : Nat} (hc : X.calm = true) (h : PGs X es t)
    (hn : (assignEach es X.env).length = n := by rfl) (hst : (assignEach es X.env).findIdx? (·.1) = none := by rfl) : PG X (.Tuple es k pos) (gLst X.K n t) := by
  intro pins s σ H v u Q I r hw
  obtain ⟨a, xs, e1, hq, hl, hw⟩ := hw
  subst e1
  cases r
  obtain ⟨its, rv, ⟨o, n', e, hcl, hdi, hda⟩, hz⟩ := I.list hq
  rw [assign_Tuple]
  refine wpAny_bind (wpAny_standAt ?_)
  unfold unpack
  rw [hst, show (assignEach es X.env).length = its.toArray.size by simp [hn, ← hl, rv.length]]
  refine wpAny_bind (wpAny_holding (PySem.W.kun_itemsOf (I.ok.hd hc) ⟨o, e, hcl, n', hda⟩ fun h' hx => ?_))
  have I1 : Inv X pins σ H { s with heap := h' } := I.kept (t' := s.toks) fun b o e => hx b o (Nat.ne_of_lt (Heap.lt_size e)) e
  exact h pins _ σ H xs _ Q I1 (by simpa using rv) hw

/-! ### for i, x in enumerate(xs) -/
/-! ### a def of the text, to be called -/
structure Cal (P : Program) (w : World) (K : PySem.W.Frag) (mg : Str → Option Value) (base : Heap) (k : Nat) (x : Str) (ps : List Str) (sp : Sp) : Prop where
  ex : ∃ (f : Addr) (fd : FuncData), FnOk P w K mg base (CXR P w) k f fd ps sp ∧ mg x = some (.ref f) ∧ PySem.W.keepIn K (.ref f) = true ∧ Binds K fd ps []
/-- .. one default -/
structure CalD (P : Program) (w : World) (K : PySem.W.Frag) (mg : Str → Option Value) (base : Heap) (k : Nat) (x : Str) (ps : List Str) (dvs : List V) (sp : Sp) : Prop where
  ex : ∃ (f : Addr) (fd : FuncData) (ds : List Value), FnOk P w K mg base (CXR P w) k f fd ps sp ∧ mg x = some (.ref f) ∧ PySem.W.keepIn K (.ref f) = true ∧ Binds K fd ps ds ∧ Vals dvs ds
/-- .. by keywords alone, ks their order, the values put by g -/
structure CalK (P : Program) (w : World) (K : PySem.W.Frag) (mg : Str → Option Value) (base : Heap) (k : Nat) (x : Str) (ps ks : List Str) (gV : List V → List V → List V) (sp : Sp) : Prop where
  ex : ∃ (f : Addr) (fd : FuncData) (g : List Value → List Value → List Value), FnOk P w K mg base (CXR P w) k f fd ps sp ∧ mg x = some (.ref f) ∧ PySem.W.keepIn K (.ref f) = true ∧ KBinds K fd ps ks g gV
section
variable {X : Cx} {k n : Nat} {ps ks : List Str} {sp : Sp} {dvs : List V} {E : St → XK} {x : Str} {p pos : Pos} {e : Expr} {es : List Expr} {t tk : TA} {gV : List V → List V → List V} {kws : List Keyword}
theorem pe_cal (c : Cal X.prog X.w X.K X.mg X.base k x ps sp) (hr : Room n X.A) (ha : PA X (e :: es) t) (hx : Passes (CXR X.prog X.w) X E) (hk : k ≤ n := by decide) (hg : Gl X x := by rfl)
    (hdb : (x == ("__debug__" : Str)) = false := by decide) (he : starEach (e :: es) X.env = (false, eval e X.env) :: starEach es X.env := by rfl) (hpl : (backTo pos (starEach es X.env)).any (·.1) = false := by rfl) :
    PE X (.Call (.Name x p) (e :: es) [] pos) (tCall sp [] E t) := by
  obtain ⟨f, fd, G, m, kp, b⟩ := c.ex
  exact pe_call G (hr.mono hk) hg m kp b .nil hx ha hdb he hpl
/-- f(k = v, ..) -/
theorem pe_calK0 (c : CalK X.prog X.w X.K X.mg X.base k x ps ks gV sp) (hr : Room n X.A) (hkw : PK X kws tk) (hx : Passes (CXR X.prog X.w) X E) (hk : k ≤ n := by decide) (hg : Gl X x := by rfl)
    (hall : (backToKw pos (keywordEach kws X.env)).all (·.1.isSome) = true := by rfl) (hks : (backToKw pos (keywordEach kws X.env)).filterMap (·.1) = ks := by rfl)
    (hdb : (x == ("__debug__" : Str)) = false := by decide) (hpl : ((backTo pos (starEach [] X.env)).any (·.1) || (backToKw pos (keywordEach kws X.env)).any (·.1.isNone)) = false := by rfl) :
    PE X (.Call (.Name x p) [] kws pos) (tCallK sp gV E tNil tk) := by
  obtain ⟨f, fd, g, G, m, kp, b⟩ := c.ex
  intro pins s σ H Q I h
  refine wpAny_Call_Name_kw (ld_glob I hg m ?_ hdb)
  refine PySem.W.callWith_KW0 (h₀ := X.base) I.ok.mod.kin kp hall (thn (hkw pos pins s σ H _ I h) fun ws s2 ⟨zs, H2, I2, rz, q2⟩ => ⟨I2.kIn, ?_⟩) hpl
  rw [hks]
  exact run_fnk (us := []) (vs := []) G (hr.mono hk) b hx I2 .nil rz q2
end

/-! ### data in the heap that stays -/
theorem Same.tup {K : PySem.W.Frag} {H H' : Hp} {a : Addr} {xs : List V} (e : Same H H') (h : SqT K H a xs) : SqT K H' a xs := by
  rcases h with (h | ⟨o, h⟩) | h
  · exact .inl (.inl (e _ _ h))
  · exact .inl (.inr ⟨o, e _ _ h⟩)
  · exact .inr h
theorem Same.new {H : Hp} {p : Addr} {o : HO} (h : H p = none) : Same H (upd H p o) := fun b u e => by
  rw [upd_ne (ne_of_none e h)]; exact e
theorem Same.step {H0 H : Hp} {p : Addr} {o : HO} (s : Same H0 H) (h : H p = none) : Same H0 (upd H p o) := s.trans (.new h)
theorem Same.app {H0 H : Hp} {l : Addr} {o : HO} (s : Same H0 H) (h : H0 l = none) : Same H0 (upd H l o) := fun b u e => by
  rw [upd_ne (ne_of_none e h)]; exact s b u e

/-! ### making a Cal -/
section
variable {P : Program} {w : World} {K : PySem.W.Frag} {mg : Str → Option Value} {base h : Heap}
theorem funD_mk {x qual : Str} {st : Stmt} {f : Addr} {oc : Value} {od an : Option Addr} {osl : Array (Option Value)} {dV kV doc pm cdv ct : Value} (l : K.lookup f = some ⟨oc, od, .func (PySem.W.fnOf x qual (defArgs st) (defBody st) (defScope st) dV kV doc pm an cdv ct), osl⟩)
    (c : PySem.W.codeIn K cdv qual = true) (k : PySem.W.keepIn K (.ref f) = true) : FunD K x qual st dV f (PySem.W.fnOf x qual (defArgs st) (defBody st) (defScope st) dV kV doc pm an cdv ct) := ⟨⟨oc, od, kV, doc, pm, an, cdv, ct, osl, rfl, l, c⟩, k⟩
/-- what the top has written of a def -/
structure Top1 (K : PySem.W.Frag) (mg : Str → Option Value) (x : Str) (st : Stmt) (dV : Value) : Prop where
  ex : ∃ (f : Addr) (fd : FuncData), FunD K x x st dV f fd ∧ mg x = some (.ref f)
theorem top1 {x : Str} {st : Stmt} {f : Addr} {oc : Value} {od an : Option Addr} {osl : Array (Option Value)} {dV kV doc pm cdv ct : Value} (X : K.In h) (G : h.Ns mainGlobals mg) (a : PySem.W.nsIn K mainGlobals x = some (some (.ref f)))
    (l : K.lookup f = some ⟨oc, od, .func (PySem.W.fnOf x x (defArgs st) (defBody st) (defScope st) dV kV doc pm an cdv ct), osl⟩) (c : PySem.W.codeIn K cdv x = true) (k : PySem.W.keepIn K (.ref f) = true) : Top1 K mg x st dV :=
  ⟨f, _, funD_mk l c k, PySem.W.mg_of X G a⟩
theorem Top1.cal {x : Str} {st : Stmt} {n : Nat} {ps : List Str} {sp : Sp} (T : Top1 K mg x st .none) (h : ∀ (kV doc pm : Value) (an : Option Addr) (cdv ct : Value) (us : List Value), us.length = ps.length → bindArgs (PySem.W.fnOf x x (defArgs st) (defBody st) (defScope st) .none kV doc pm an cdv ct) ⟨us, []⟩ = pure (ps.zip us))
    (ok : ∀ f fd, FunD K x x st .none f fd → FnOk P w K mg base (CXR P w) n f fd ps sp) : Cal P w K mg base n x ps sp := by
  obtain ⟨f, fd, F, m⟩ := T.ex
  refine ⟨f, fd, ok f fd F, m, F.kp, ?_⟩
  obtain ⟨oc, od, kV, doc, pm, an, cdv, ct, osl, rfl, lk, hcd⟩ := F.ex
  exact .all (h kV doc pm an cdv ct)
end
end L2

namespace L2
open PySem PySem.Spec PyProof.Rows
/-- a try whose wish is chosen by the reading -/
def tTryR (tb : RK → TS) (th : TH) : TS := fun D σ H => ∃ R, tb R D σ H ∧ ∀ σ' H' a cls dx, R σ' cls dx H' → H' a = none → th D σ' H' a cls dx
theorem ps_tryR {X : Cx} {body : List Stmt} {h0 : ExceptHandler} {hs : List ExceptHandler} {pos : Pos} {tb : RK → TS} {th : TH} (hD : InDef X) (hb : ∀ R pn, PSs (X.tr pn R) body (tb R)) (hh : PH X (h0 :: hs) th) : PS X (.Try body (h0 :: hs) [] [] pos) (tTryR tb th) := by
  intro pins s σ H D I h
  obtain ⟨R, h⟩ := h
  exact ps_try R hD (hb R) hh pins s σ H D I h
/-- an own class of errors, by what the top has written -/
theorem own_mk {K : PySem.W.Frag} {m : Heap} {mg : Str → Option Value} {x : Str} {c : Addr} {line : List Value} {new : String} (kin : K.In m) (top : m.Ns mainGlobals mg) (name : PySem.W.nsIn K mainGlobals x = some (some (.ref c))) (q : PySem.W.excIn K c line new = true) :
    OwnCls x c line new mg m := by
  constructor
  · exact PySem.W.mg_of kin top name
  delta PySem.W.excIn at q
  split at q
  case h_2 => cases q
  case h_1 d cd l at_ =>
    split at q
    case h_2 => cases q
    case h_1 c' tl z0 z1 z2 z3 z4 z5 e1 e2 =>
      have p := kin c _ at_
      simp only [Bool.and_eq_true] at q
      rcases q with ⟨⟨⟨⟨⟨p1, p2⟩, p3⟩, p4⟩, p5⟩, p6⟩
      cases eq_of_beq p1
      cases eq_of_beq p2
      have e3 := Array.toList_inj.mp (e2.trans (show _ = #[z0, z1, z2, z3, some (Value.builtin new), z5].toList from rfl))
      rcases cd with ⟨f1, f2, f3, f4, f5, f6, f7, f8, f9, f10, f11⟩
      cases e1
      cases (Bool.not_eq_true' _).mp p3
      cases e3
      exact ⟨tl, f4, f1, f5, f2, f6, f7, f8, f9, f10, d, z0, z1, z2, z3, z5, _, p, .of_isNs (PySem.W.isNs_of_in kin p5), PySem.W.nsMap_none_of_in kin p5 (eq_of_beq p6), PySem.W.tail_of_in kin p4⟩
end L2

namespace L2
open PySem PySem.Spec PyProof.Rows
/-- *e among written items, e a list -/
def tStar (K : PySem.W.Frag) (te : TE) (t : TA) : TA := fun σ H Q => te σ H fun x H1 => ∃ a xs, x = .ref a ∧ SqL K H1 a xs ∧ t σ H1 fun ys H2 => Q (xs ++ ys) H2
theorem pa_star {X : Cx} {e : Expr} {es : List Expr} {te : TE} {t : TA} {sp : Pos} (ha : PE X e te) (hr : PA X es t) : PA X (.Starred e sp :: es) (tStar X.K te t) := by
  intro pos pins s σ H Q I h
  show wpAny _ _ (spliced ((true, do let v ← eval e X.env; standAt pos; pure v) :: backTo pos (starEach es X.env))) _ _ s
  unfold spliced
  refine wpAny_bind (wpAny_bind (thn (ha pins s σ H _ I h) fun u s1 ⟨x, H1, I1, r1, a, xs, e1, hq, q1⟩ => wpAny_bind (wpAny_standAt (wpAny_pure ?_))))
  subst e1
  cases r1
  obtain ⟨its, rv, ⟨o, n, eo, hc, hd, hda⟩, hz⟩ := I1.list hq
  rw [if_pos rfl]
  apply wpAny_bind
  apply wpAny_bind
  refine wpAny_specialOf (Heap.IsList.typeIs ⟨o, eo, hc, n, hda⟩) slot_list_iter.lookup ?_
  rw [if_pos (by rfl)]
  refine wpAny_pure ?_
  dsimp only
  rw [if_neg Bool.false_ne_true]
  refine wpAny_bind ?_
  refine wpAny_collect_seq a (.inl rfl) eo hc hda (fun h' hk => ?_) (by rw [List.size_toArray, ← rv.length]; exact hz)
  have I1' : Inv X pins σ H1 { s1 with heap := h' } := I1.kept (t' := s1.toks) hk
  refine wpAny_bind (wpAny_holding (thn (hr pos pins _ σ H1 _ I1' q1) fun us s2 ⟨ys, H2, I2, r2, q2⟩ => wpAny_pure ⟨xs ++ ys, H2, I2, ?_, q2⟩))
  exact Vals.append (by simpa using rv) r2
end L2

namespace L2
open PySem PySem.Spec PyProof.Rows
/-- a class of the text, to be made -/
structure Mak (P : Program) (w : World) (K : PySem.W.Frag) (mg : Str → Option Value) (base : Heap) (k : Nat) (x : Str) (C : Addr) (ps : List Str) (sp : Sp) : Prop where
  ex : ∃ (f : Addr) (fd : FuncData), Mk K C f ∧ FnOk P w K mg base (CXR P w) k f fd ps sp ∧ mg x = some (.ref C) ∧ Binds K fd ps []
/-- .. its one argument by its name -/
structure MakK (P : Program) (w : World) (K : PySem.W.Frag) (mg : Str → Option Value) (base : Heap) (k : Nat) (x : Str) (C : Addr) (ps : List Str) (sp : Sp) : Prop where
  ex : ∃ (f : Addr) (fd : FuncData), Mk K C f ∧ FnOk P w K mg base (CXR P w) k f fd ps sp ∧ mg x = some (.ref C) ∧ Binds K fd ps []
/-- a method, to be called -/
structure Met (P : Program) (w : World) (K : PySem.W.Frag) (mg : Str → Option Value) (base : Heap) (k : Nat) (C : Addr) (m : Str) (ps : List Str) (sp : Sp) : Prop where
  cl : Cls K C
  ex : ∃ (f : Addr) (fd : FuncData), Meth K C m f ∧ FnOk P w K mg base (CXR P w) k f fd ps sp ∧ Binds K fd ps []
section
variable {X : Cx} {k n : Nat} {ps : List Str} {sp : Sp} {E : St → XK} {x m : Str} {C : Addr} {p pos apos : Pos} {e o : Expr} {es : List Expr} {ta : TE} {t : TA} {pl : Sem Bool}
theorem pe_mak (c : Mak X.prog X.w X.K X.mg X.base k x C ps sp) (hr : Room n X.A) (ha : PA X (e :: es) t) (hx : Passes (CXR X.prog X.w) X E) (hk : k + 1 ≤ n := by decide) (hg : Gl X x := by rfl)
    (hdb : (x == ("__debug__" : Str)) = false := by decide) (he : starEach (e :: es) X.env = (false, eval e X.env) :: starEach es X.env := by rfl) (hpl : (backTo pos (starEach es X.env)).any (·.1) = false := by rfl) :
    PE X (.Call (.Name x p) (e :: es) [] pos) (tMake C sp [] E t) := by
  obtain ⟨f, fd, M, G, m, b⟩ := c.ex
  exact pe_make M G (hr.mono hk) hg m b .nil hx ha hdb he hpl
end
/-- what the top has written of a method -/
structure TopM (K : PySem.W.Frag) (C : Addr) (x qual : Str) (st : Stmt) : Prop where
  ex : ∃ (f : Addr) (fd : FuncData), FunD K x qual st .none f fd ∧ Meth K C x f
theorem topM {K : PySem.W.Frag} {C f : Addr} {x qual : Str} {st : Stmt} {oc : Value} {od an : Option Addr} {osl : Array (Option Value)} {kV doc pm cdv ct : Value} (a : PySem.W.findIn K (.ref C) x = some (some (.ref f))) (i : PySem.W.isFn K (.ref f) = true)
    (l : K.lookup f = some ⟨oc, od, .func (PySem.W.fnOf x qual (defArgs st) (defBody st) (defScope st) .none kV doc pm an cdv ct), osl⟩) (c : PySem.W.codeIn K cdv qual = true) (k : PySem.W.keepIn K (.ref f) = true) : TopM K C x qual st :=
  ⟨f, _, funD_mk l c k, ⟨a, i, k⟩⟩
section
variable {P : Program} {w : World} {K : PySem.W.Frag} {mg : Str → Option Value} {base : Heap} {C : Addr} {x qual cn : Str} {st : Stmt} {n : Nat} {ps : List Str} {sp : Sp}
theorem TopM.met (T : TopM K C x qual st) (cl : Cls K C) (h : ∀ (kV doc pm : Value) (an : Option Addr) (cdv ct : Value) (us : List Value), us.length = ps.length → bindArgs (PySem.W.fnOf x qual (defArgs st) (defBody st) (defScope st) .none kV doc pm an cdv ct) ⟨us, []⟩ = pure (ps.zip us))
    (ok : ∀ f fd, FunD K x qual st .none f fd → FnOk P w K mg base (CXR P w) n f fd ps sp) : Met P w K mg base n C x ps sp := by
  obtain ⟨f, fd, F, m⟩ := T.ex
  refine ⟨cl, f, fd, m, ok f fd F, ?_⟩
  obtain ⟨oc, od, kV, doc, pm, an, cdv, ct, osl, rfl, lk, hcd⟩ := F.ex
  exact .all (h kV doc pm an cdv ct)
theorem TopM.mak (T : TopM K C "__init__" qual st) (mk : PySem.W.makesIn K C = true) (kc : PySem.W.keepIn K (.ref C) = true) (hm : mg cn = some (.ref C)) (h : ∀ (kV doc pm : Value) (an : Option Addr) (cdv ct : Value) (us : List Value), us.length = ps.length → bindArgs (PySem.W.fnOf "__init__" qual (defArgs st) (defBody st) (defScope st) .none kV doc pm an cdv ct) ⟨us, []⟩ = pure (ps.zip us))
    (ok : ∀ f fd, FunD K "__init__" qual st .none f fd → FnOk P w K mg base (CXR P w) n f fd ps sp) : Mak P w K mg base n cn C ps sp := by
  obtain ⟨f, fd, F, m⟩ := T.ex
  refine ⟨f, fd, ⟨mk, m.at_, m.fn, kc⟩, ok f fd F, hm, ?_⟩
  obtain ⟨oc, od, kV, doc, pm, an, cdv, ct, osl, rfl, lk, hcd⟩ := F.ex
  exact .all (h kV doc pm an cdv ct)
end
end L2

namespace L2
open PySem PySem.Spec PyProof.Rows
/-- isinstance of a tuple, of a list, wherever it stands -/
def rIsiT (K : PySem.W.Frag) : List V → Hp → VK → Prop := fun xs H Q => ∃ a c u b ys, xs = [V.ref a, c] ∧ clsV c = some u ∧ SqT K H a ys ∧ PySem.W.kitOne K (.type "tuple") u = some b ∧ Q (.bl b) H
theorem ci_isiT {X : Cx} {K : PySem.W.Frag} (hK : X.K = K) : CallR X (.builtin "isinstance") (rIsiT K) := by
  subst hK
  intro pins s σ H xs us Q I r h
  obtain ⟨a, c, u, b, ys, rfl, hc, ht, hk, q⟩ := h
  cases r with
  | cons r1 r2 => cases r2 with
    | cons r2 r3 =>
      cases r3
      have e := clsV_rel hc r2
      subst e
      cases (show _ = Value.ref a from r1)
      obtain ⟨its, _, ⟨o, h1, h2, _⟩, _⟩ := I.tuple ht
      refine PySem.W.kia_one PySem.W.kitx_tuple I.kIn ⟨o, h1, h2⟩ hk (fun z => nomatch z) fun tk => ⟨.bl b, H, ?_, rfl, q⟩
      exact ⟨I.ok, I.os, I.bare, I.base, I.loc, I.cell, I.free, I.freeC, I.pin, I.hok, I.len⟩
def rIsiL (K : PySem.W.Frag) : List V → Hp → VK → Prop := fun xs H Q => ∃ a c u b ys, xs = [V.ref a, c] ∧ clsV c = some u ∧ SqL K H a ys ∧ PySem.W.kitOne K (.type "list") u = some b ∧ Q (.bl b) H
theorem ci_isiL {X : Cx} {K : PySem.W.Frag} (hK : X.K = K) : CallR X (.builtin "isinstance") (rIsiL K) := by
  subst hK
  intro pins s σ H xs us Q I r h
  obtain ⟨a, c, u, b, ys, rfl, hc, ht, hk, q⟩ := h
  cases r with
  | cons r1 r2 => cases r2 with
    | cons r2 r3 =>
      cases r3
      have e := clsV_rel hc r2
      subst e
      cases (show _ = Value.ref a from r1)
      obtain ⟨its, _, ⟨o, n, h1, h2, _⟩, _⟩ := I.list ht
      refine PySem.W.kia_one PySem.W.kitx_list I.kIn ⟨o, h1, h2⟩ hk (fun z => nomatch z) fun tk => ⟨.bl b, H, ?_, rfl, q⟩
      exact ⟨I.ok, I.os, I.bare, I.base, I.loc, I.cell, I.free, I.freeC, I.pin, I.hok, I.len⟩
end L2

namespace L2
open PySem PySem.Spec PyProof.Rows
/-- a method whose last parameters are left out -/
structure MetD (P : Program) (w : World) (K : PySem.W.Frag) (mg : Str → Option Value) (base : Heap) (k : Nat) (C : Addr) (m : Str) (ps : List Str) (dvs : List V) (sp : Sp) : Prop where
  cl : Cls K C
  ex : ∃ (f : Addr) (fd : FuncData) (ds : List Value), Meth K C m f ∧ FnOk P w K mg base (CXR P w) k f fd ps sp ∧ Binds K fd ps ds ∧ Vals dvs ds
/-- a method whose arguments are given by their names -/
structure MetK (P : Program) (w : World) (K : PySem.W.Frag) (mg : Str → Option Value) (base : Heap) (k : Nat) (C : Addr) (m : Str) (ps ks : List Str) (gV : List V → List V → List V) (sp : Sp) : Prop where
  cl : Cls K C
  ex : ∃ (f : Addr) (fd : FuncData) (g : List Value → List Value → List Value), Meth K C m f ∧ FnOk P w K mg base (CXR P w) k f fd ps sp ∧ KBinds K fd ps ks g gV
section
variable {X : Cx} {k n : Nat} {ps ks : List Str} {sp : Sp} {E : St → XK} {m : Str} {C : Addr} {pos apos : Pos} {e o : Expr} {es : List Expr} {ta : TE} {t tk : TA} {pl : Sem Bool} {dvs : List V} {gV : List V → List V → List V} {kws : List Keyword}
end
end L2

namespace L2
open PySem PySem.Spec PyProof.Rows
/-- isinstance of a caught exception, its class told by the reading -/
def rExcA (K : PySem.W.Frag) : List V → Hp → VK → Prop := fun xs H Q => ∃ a C c u b dx, ExcCls K C ∧ xs = [V.ref a, c] ∧ clsV c = some u ∧ H a = some (excO a (.ref C) dx) ∧ PySem.W.kitOne K (.ref C) u = some b ∧ Q (.bl b) H
theorem ci_excA {X : Cx} {K : PySem.W.Frag} (hK : X.K = K) : CallR X (.builtin "isinstance") (rExcA K) := by
  subst hK
  intro pins s σ H xs us Q I r h
  obtain ⟨a, C, c, u, b, dx, T, rfl, hc, ha, hk, q⟩ := h
  exact ci_exc T pins s σ H _ us Q I r ⟨a, c, u, b, dx, rfl, hc, ha, hk, q⟩
end L2

namespace L2
open PySem PySem.Spec PyProof.Rows
/-- a class of the text, made by keywords alone: gV puts the values in their order, the new object ahead -/
structure MakKw (P : Program) (w : World) (K : PySem.W.Frag) (mg : Str → Option Value) (base : Heap) (k : Nat) (x : Str) (C : Addr) (ps ks : List Str) (gV : List V → List V → List V) (sp : Sp) : Prop where
  ex : ∃ (f : Addr) (fd : FuncData) (g : List Value → List Value → List Value), Mk K C f ∧ FnOk P w K mg base (CXR P w) k f fd ps sp ∧ mg x = some (.ref C) ∧ KBinds K fd ps ks g gV
section
variable {X : Cx} {k n : Nat} {ps ks : List Str} {sp : Sp} {E : St → XK} {x m : Str} {C f : Addr} {fd : FuncData} {p pos apos : Pos} {e o : Expr} {es : List Expr} {ta : TE} {t tk : TA} {pl : Sem Bool} {g : List Value → List Value → List Value} {gV : List V → List V → List V} {kws : List Keyword}
end
end L2

namespace L2
open PySem PySem.Spec PyProof.Rows
section
variable {X : Cx}
/-- x in a list or tuple of data -/
def rInD (K : PySem.W.Frag) (neg : Bool) : R2 := fun x y H Q => ∃ p ys ds d, y = .ref p ∧ (SqL K H p ys ∨ SqT K H p ys) ∧ DpAll K H ys ds ∧ Dp K H x d ∧ PyData.canLayAll0 ds = true ∧ SeqAt.shaped d = true ∧ Q (.bl (if neg then !(ds.any fun e => PyData.eqv e d) else ds.any fun e => PyData.eqv e d)) H
theorem room_d {A : Around} {ds : List PyData} {d : PyData} (hd : SeqAt.shaped d = true) (hu : A.units + 65 < cLine) : A.units + 1 + min (PyData.depthAll ds) d.depth < cLine := by
  have h1 := SeqAt.depth_of_shaped hd
  have h2 : min (PyData.depthAll ds) d.depth ≤ d.depth := Nat.min_le_right _ _
  omega
theorem op_inD (hu : X.A.units + 65 < cLine) : OpR X (compareOp .In) (rInD X.K false) := by
  intro pins s σ H x y v u Q I rx ry h
  obtain ⟨p, ys, ds, d, rfl, hq, hds, hd, hc, sd, q⟩ := h
  obtain ⟨bs, r1⟩ := Dp.reads I d x v hd rx
  rcases hq with hq | hq
  · obtain ⟨as, r2⟩ := Dp.reads I (.list ds) _ u (.lst hq hds) ry
    exact SeqAt.in_list_reads r2 r1 hc (SeqAt.canLay_of_shaped sd) (room_d sd hu) ⟨.bl _, H, I, rfl, q⟩
  · obtain ⟨as, r2⟩ := Dp.reads I (.tuple ds) _ u (.tup hq hds) ry
    exact SeqAt.in_tuple_reads r2 r1 hc (SeqAt.canLay_of_shaped sd) (room_d sd hu) ⟨.bl _, H, I, rfl, q⟩
end
section
variable {X : Cx} {e st : Expr} {te ts : TE} {pos p2 : Pos}
end
end L2

namespace L2
open PySem PySem.Spec PyProof.Rows
/-! ### a value whose tuples are known by what they hold; objects by their numbers -/
inductive U where
  | non | bl (b : Bool) | int (i : Int) | str (x : Str) | tup (xs : List U) | obj (n : Nat)
/-- what stands at a number: a list, one that is read alone, an instance of an own class, an exception that was caught -/
inductive AO where
  | lst (xs : List U) | rol (xs : List U) | krl (xs : List U) | ins (c : Str) (fs : List (Str × U)) | exc (c : Str) (fs : List (Str × U) := [])
abbrev AH := List AO
mutual
inductive RU (K : PySem.W.Frag) (H : Hp) (φ : List Addr) : U → V → Prop
  | non : RU K H φ .non .non
  | bl {b : Bool} : RU K H φ (.bl b) (.bl b)
  | int {i : Int} : RU K H φ (.int i) (.int i)
  | str {x : Str} : RU K H φ (.str x) (.str x)
  | tup {us : List U} {a : Addr} {vs : List V} : SqT K H a vs → RUs K H φ us vs → RU K H φ (.tup us) (.ref a)
  | obj {n : Nat} {a : Addr} : φ[n]? = some a → RU K H φ (.obj n) (.ref a)
inductive RUs (K : PySem.W.Frag) (H : Hp) (φ : List Addr) : List U → List V → Prop
  | nil : RUs K H φ [] []
  | cons {u : U} {v : V} {us : List U} {vs : List V} : RU K H φ u v → RUs K H φ us vs → RUs K H φ (u :: us) (v :: vs)
end
/-- later -/
structure Ext (K : PySem.W.Frag) (φ : List Addr) (H : Hp) (φ' : List Addr) (H' : Hp) : Prop where
  num : ∀ (n : Nat) (a : Addr), φ[n]? = some a → φ'[n]? = some a
  tup : ∀ a xs, SqT K H a xs → SqT K H' a xs
  frz : ∀ a o u, H a = some (.frz o u) → H' a = some (.frz o u)
section
variable {K : PySem.W.Frag} {φ φ' φ1 φ2 : List Addr} {H H' H1 H2 : Hp}
theorem Ext.refl : Ext K φ H φ H := ⟨fun _ _ h => h, fun _ _ h => h, fun _ _ _ h => h⟩
theorem Ext.trans (a : Ext K φ H φ1 H1) (b : Ext K φ1 H1 φ2 H2) : Ext K φ H φ2 H2 := ⟨fun n x h => b.num n x (a.num n x h), fun x xs h => b.tup x xs (a.tup x xs h), fun x o u h => b.frz x o u (a.frz x o u h)⟩
mutual
theorem RU.mono (e : Ext K φ H φ' H') : ∀ {u : U} {v : V}, RU K H φ u v → RU K H' φ' u v
  | _, _, .non => .non
  | _, _, .bl => .bl
  | _, _, .int => .int
  | _, _, .str => .str
  | _, _, .tup h r => .tup (e.tup _ _ h) (RUs.mono e r)
  | _, _, .obj h => .obj (e.num _ _ h)
theorem RUs.mono (e : Ext K φ H φ' H') : ∀ {us : List U} {vs : List V}, RUs K H φ us vs → RUs K H' φ' us vs
  | _, _, .nil => .nil
  | _, _, .cons h r => .cons (RU.mono e h) (RUs.mono e r)
end
theorem RUs.len : ∀ {us : List U} {vs : List V}, RUs K H φ us vs → us.length = vs.length
  | _, _, .nil => rfl
  | _, _, .cons _ r => by rw [List.length_cons, List.length_cons, RUs.len r]
theorem RUs.app : ∀ {us us' : List U} {vs vs' : List V}, RUs K H φ us vs → RUs K H φ us' vs' → RUs K H φ (us ++ us') (vs ++ vs')
  | _, _, _, _, .nil, s => s
  | _, _, _, _, .cons h r, s => .cons h (RUs.app r s)
theorem RUs.at : ∀ {us : List U} {vs : List V} {i : Nat} {u : U}, RUs K H φ us vs → us[i]? = some u → ∃ v, vs[i]? = some v ∧ RU K H φ u v
  | _, _, _, _, .nil, e => by simp at e
  | _, _, 0, _, .cons h _, e => by simp at e; subst e; exact ⟨_, rfl, h⟩
  | _, _, i + 1, u, .cons _ r, e => by
    obtain ⟨v, h1, h2⟩ := RUs.at (i := i) (u := u) r (by simpa using e)
    exact ⟨v, by simpa using h1, h2⟩
theorem RUs.at' : ∀ {us : List U} {vs : List V} {i : Nat} {v : V}, RUs K H φ us vs → vs[i]? = some v → ∃ u, us[i]? = some u ∧ RU K H φ u v
  | _, _, _, _, .nil, e => by simp at e
  | _, _, 0, _, .cons h _, e => by simp at e; subst e; exact ⟨_, rfl, h⟩
  | _, _, i + 1, u, .cons _ r, e => by
    obtain ⟨v, h1, h2⟩ := RUs.at' (i := i) (v := u) r (by simpa using e)
    exact ⟨v, by simpa using h1, h2⟩
theorem RUs.take : ∀ {us : List U} {vs : List V} (n : Nat), RUs K H φ us vs → RUs K H φ (us.take n) (vs.take n)
  | _, _, 0, _ => .nil
  | _, _, _ + 1, .nil => .nil
  | _, _, n + 1, .cons h r => .cons h (RUs.take n r)
theorem RUs.drop : ∀ {us : List U} {vs : List V} (n : Nat), RUs K H φ us vs → RUs K H φ (us.drop n) (vs.drop n)
  | _, _, 0, r => r
  | _, _, _ + 1, .nil => .nil
  | _, _, n + 1, .cons _ r => RUs.drop n r
theorem RUs.set : ∀ {us : List U} {vs : List V} {u : U} {v : V} (i : Nat), RU K H φ u v → RUs K H φ us vs → RUs K H φ (us.set i u) (vs.set i v)
  | _, _, _, _, _, _, .nil => .nil
  | _, _, _, _, 0, h, .cons _ r => .cons h r
  | _, _, _, _, i + 1, h, .cons g r => .cons g (RUs.set i h r)
theorem RUs.era : ∀ {us : List U} {vs : List V} (i : Nat), RUs K H φ us vs → RUs K H φ (us.eraseIdx i) (vs.eraseIdx i)
  | _, _, _, .nil => .nil
  | _, _, 0, .cons _ r => r
  | _, _, i + 1, .cons h r => .cons h (RUs.era i r)
theorem RUs.last {us : List U} {vs : List V} (r : RUs K H φ us vs) : RUs K H φ us.dropLast vs.dropLast := by
  rw [List.dropLast_eq_take, List.dropLast_eq_take, r.len]; exact r.take _
theorem RUs.ints : ∀ {ns : List Int} {vs : List V}, RUs K H φ (ns.map U.int) vs → vs = ns.map V.int
  | [], _, .nil => rfl
  | n :: ns, _, .cons h r => by cases h; rw [RUs.ints r]; rfl
theorem RUs.bls : ∀ {ns : List Bool} {vs : List V}, RUs K H φ (ns.map U.bl) vs → vs = ns.map V.bl
  | [], _, .nil => rfl
  | n :: ns, _, .cons h r => by cases h; rw [RUs.bls r]; rfl
theorem RUs.strs : ∀ {ns : List Str} {vs : List V}, RUs K H φ (ns.map U.str) vs → vs = ns.map V.str
  | [], _, .nil => rfl
  | n :: ns, _, .cons h r => by cases h; rw [RUs.strs r]; rfl
theorem RUs.ofInts : ∀ {ns : List Int}, RUs K H φ (ns.map U.int) (ns.map V.int)
  | [] => .nil
  | _ :: _ => .cons .int RUs.ofInts
theorem RUs.ofStrs : ∀ {ns : List Str}, RUs K H φ (ns.map U.str) (ns.map V.str)
  | [] => .nil
  | _ :: _ => .cons .str RUs.ofStrs
/-- names with values -/
inductive RFs (K : PySem.W.Frag) (H : Hp) (φ : List Addr) : List (Str × U) → List (Str × V) → Prop
  | nil : RFs K H φ [] []
  | cons {x : Str} {u : U} {v : V} {us : List (Str × U)} {vs : List (Str × V)} : RU K H φ u v → RFs K H φ us vs → RFs K H φ ((x, u) :: us) ((x, v) :: vs)
theorem RFs.mono (e : Ext K φ H φ' H') : ∀ {us : List (Str × U)} {vs : List (Str × V)}, RFs K H φ us vs → RFs K H' φ' us vs
  | _, _, .nil => .nil
  | _, _, .cons h r => .cons (h.mono e) (RFs.mono e r)
theorem RFs.at {x : Str} : ∀ {us : List (Str × U)} {vs : List (Str × V)} {u : U}, RFs K H φ us vs → us.lookup x = some u → ∃ v, vs.lookup x = some v ∧ RU K H φ u v
  | _, _, _, .nil, e => by cases e
  | _, _, u, @RFs.cons _ _ _ y _ _ _ _ h r, e => by
    rw [List.lookup_cons] at e ⊢
    cases hx : x == y with
    | true => rw [hx] at e; cases e; exact ⟨_, rfl, h⟩
    | false => rw [hx] at e; exact RFs.at r e
theorem RFs.no {x : Str} : ∀ {us : List (Str × U)} {vs : List (Str × V)}, RFs K H φ us vs → us.lookup x = none → vs.lookup x = none
  | _, _, .nil, e => rfl
  | _, _, @RFs.cons _ _ _ y _ _ _ _ h r, e => by
    rw [List.lookup_cons] at e ⊢
    cases hx : x == y with
    | true => rw [hx] at e; cases e
    | false => rw [hx] at e; exact RFs.no r e
theorem RFs.len : ∀ {us : List (Str × U)} {vs : List (Str × V)}, RFs K H φ us vs → us.length = vs.length
  | _, _, .nil => rfl
  | _, _, .cons _ r => by rw [List.length_cons, List.length_cons, RFs.len r]
/-- a list of the text's own -/
def KL (K : PySem.W.Frag) (a : Addr) (xs : List V) : Prop := ∃ (o : Obj) (its : Array Value) (n : Nat), K.lookup a = some o ∧ o.cls = .type "list" ∧ o.dict = none ∧ o.data = .seq its n ∧ its.size ≤ sizeLine ∧ Vals xs its.toList
/-- an exception's fields: none that are told, or those of its dict, which is frozen -/
def XF (K : PySem.W.Frag) (H : Hp) (φ : List Addr) (dx : Option Addr) (fs : List (Str × U)) : Prop := fs = [] ∨ ∃ d od vs, dx = some d ∧ H d = some (.frz od (.xd vs)) ∧ RFs K H φ fs vs
theorem XF.mono {dx : Option Addr} {fs : List (Str × U)} (x : XF K H φ dx fs) (e : Ext K φ H φ' H') : XF K H' φ' dx fs := by
  rcases x with x | ⟨d, od, vs, h1, h2, h3⟩
  · exact .inl x
  · exact .inr ⟨d, od, vs, h1, e.frz _ _ _ h2, h3.mono e⟩
def RObj (K : PySem.W.Frag) (G : Str → Addr) (H : Hp) (φ : List Addr) (a : Addr) : AO → Prop
  | .lst us => ∃ vs, H a = some (.lst vs) ∧ RUs K H φ us vs
  | .rol us => ∃ vs, Rd H a (.lst vs) ∧ RUs K H φ us vs
  | .krl us => ∃ vs, KL K a vs ∧ RUs K H φ us vs
  | .ins c fs => ∃ dx gs, H a = some (.ins (G c) dx gs) ∧ RFs K H φ fs gs
  | .exc c fs => ∃ dx, H a = some (excO a (.ref (G c)) dx) ∧ XF K H φ dx fs
def isK : Option AO → Prop
  | some (.krl _) => True
  | _ => False
structure RH (K : PySem.W.Frag) (G : Str → Addr) (φ : List Addr) (h : AH) (H : Hp) : Prop where
  len : φ.length = h.length
  inj : ∀ (m n : Nat) (a : Addr), φ[m]? = some a → φ[n]? = some a → m = n ∨ isK h[m]? ∨ isK h[n]?
  ob : ∀ (n : Nat) (a : Addr) (o : AO), φ[n]? = some a → h[n]? = some o → RObj K G H φ a o
variable {G : Str → Addr} {h h' : AH}
theorem RObj.there {a : Addr} {o : AO} (r : RObj K G H φ a o) : H a ≠ none ∨ isK (some o) := by
  cases o with
  | lst us => obtain ⟨vs, e, _⟩ := r; rw [e]; exact .inl fun z => by cases z
  | rol us =>
    obtain ⟨vs, e | ⟨o, e⟩, _⟩ := r
    · rw [e]; exact .inl fun z => by cases z
    · rw [e]; exact .inl fun z => by cases z
  | krl us => exact .inr trivial
  | ins c fs => obtain ⟨dx, gs, e, _⟩ := r; rw [e]; exact .inl fun z => by cases z
  | exc c fs => obtain ⟨dx, e, _⟩ := r; rw [e]; exact .inl fun z => by cases z
theorem RObj.stay {a : Addr} {o : AO} (r : RObj K G H φ a o) (e : Ext K φ H φ' H') (s : H' a = H a ∨ isK (some o)) : RObj K G H' φ' a o := by
  cases o with
  | lst us => obtain ⟨vs, q, z⟩ := r; rcases s with s | s; exact ⟨vs, s.trans q, z.mono e⟩; exact s.elim
  | rol us =>
    obtain ⟨vs, q, z⟩ := r
    refine ⟨vs, ?_, z.mono e⟩
    rcases s with s | s
    · unfold Rd; rw [s]; exact q
    · exact s.elim
  | krl us => obtain ⟨vs, q, z⟩ := r; exact ⟨vs, q, z.mono e⟩
  | ins c fs => obtain ⟨dx, gs, q, z⟩ := r; rcases s with s | s; exact ⟨dx, gs, s.trans q, z.mono e⟩; exact s.elim
  | exc c fs => obtain ⟨dx, q, z⟩ := r; rcases s with s | s; exact ⟨dx, s.trans q, z.mono e⟩; exact s.elim
theorem RH.there (r : RH K G φ h H) {n : Nat} {a : Addr} (e : φ[n]? = some a) : ∃ o, h[n]? = some o ∧ RObj K G H φ a o := by
  have hl : n < h.length := by rw [← r.len]; exact (List.getElem?_eq_some_iff.mp e).1
  exact ⟨_, List.getElem?_eq_getElem hl, r.ob n a _ e (List.getElem?_eq_getElem hl)⟩
theorem RH.get (r : RH K G φ h H) {n : Nat} {o : AO} (e : h[n]? = some o) : ∃ a, φ[n]? = some a ∧ RObj K G H φ a o := by
  have hl : n < φ.length := by rw [r.len]; exact (List.getElem?_eq_some_iff.mp e).1
  exact ⟨_, List.getElem?_eq_getElem hl, r.ob n _ _ (List.getElem?_eq_getElem hl) e⟩
/-- a new tuple, or anything else that is new: the objects stay -/
theorem Ext.upd {p : Addr} {o : HO} (hp : H p = none) : Ext K φ H φ (upd H p o) := ⟨fun _ _ h => h, fun a xs h => by
  rcases h with (h | ⟨o', h⟩) | h
  · exact .inl (.inl (by rw [upd_ne (ne_of_none h hp)]; exact h))
  · exact .inl (.inr ⟨o', by rw [upd_ne (ne_of_none h hp)]; exact h⟩)
  · exact .inr h, fun a o' u h => by rw [upd_ne (ne_of_none h hp)]; exact h⟩
theorem RH.upd {p : Addr} {o : HO} (r : RH K G φ h H) (hp : H p = none) : RH K G φ h (upd H p o) := ⟨r.len, r.inj, fun n a ob e1 e2 => by
  have q := r.ob n a ob e1 e2
  rcases q.there with t | t
  · exact q.stay (.upd hp) (.inl (upd_ne fun z => t (z ▸ hp)))
  · exact q.stay (.upd hp) (.inr t)⟩
/-- a new object, numbered -/
theorem Ext.push {p : Addr} {o : HO} (hp : H p = none) : Ext K φ H (φ ++ [p]) (L2.upd H p o) := ⟨fun n a h => by
  rw [List.getElem?_append_left (List.getElem?_eq_some_iff.mp h).1]; exact h, (Ext.upd hp (φ := φ) (K := K)).tup, (Ext.upd hp (φ := φ) (K := K)).frz⟩
theorem RH.push {p : Addr} {o : HO} {ao : AO} (r : RH K G φ h H) (hp : H p = none) (ho : RObj K G (L2.upd H p o) (φ ++ [p]) p ao) : RH K G (φ ++ [p]) (h ++ [ao]) (L2.upd H p o) := by
  have hx : Ext K φ H (φ ++ [p]) (L2.upd H p o) := .push hp
  have ne : ∀ (n : Nat) (a : Addr), φ[n]? = some a → a ≠ p ∨ isK h[n]? := fun n a e => by
    obtain ⟨ob, eo, q⟩ := r.there e
    rcases q.there with t | t
    · exact .inl fun z => t (z ▸ hp)
    · rw [eo]; exact .inr t
  have hl : ∀ n : Nat, n < φ.length → (h ++ [ao])[n]? = h[n]? := fun n hn => List.getElem?_append_left (by rw [← r.len]; exact hn)
  refine ⟨by simp [r.len], fun m n a e1 e2 => ?_, fun n a ob e1 e2 => ?_⟩
  · by_cases h1 : m < φ.length <;> by_cases h2 : n < φ.length
    · rw [List.getElem?_append_left h1] at e1
      rw [List.getElem?_append_left h2] at e2
      rw [hl m h1, hl n h2]
      exact r.inj m n a e1 e2
    · rw [List.getElem?_append_left h1] at e1
      rw [List.getElem?_append_right (by omega)] at e2
      have : a = p := by
        have h3 : n - φ.length = 0 := by
          have := (List.getElem?_eq_some_iff.mp e2).1
          simp at this; omega
        rw [h3] at e2; simpa using e2.symm
      rcases ne m a e1 with z | z
      · exact absurd this z
      · rw [hl m h1]; exact .inr (.inl z)
    · rw [List.getElem?_append_right (by omega)] at e1
      rw [List.getElem?_append_left h2] at e2
      have : a = p := by
        have h3 : m - φ.length = 0 := by
          have := (List.getElem?_eq_some_iff.mp e1).1
          simp at this; omega
        rw [h3] at e1; simpa using e1.symm
      rcases ne n a e2 with z | z
      · exact absurd this z
      · rw [hl n h2]; exact .inr (.inr z)
    · have z1 := (List.getElem?_eq_some_iff.mp e1).1
      have z2 := (List.getElem?_eq_some_iff.mp e2).1
      simp at z1 z2; exact .inl (by omega)
  · by_cases h1 : n < φ.length
    · rw [List.getElem?_append_left h1] at e1
      rw [hl n h1] at e2
      rcases ne n a e1 with z | z
      · exact (r.ob n a ob e1 e2).stay hx (.inl (upd_ne z))
      · rw [e2] at z; exact (r.ob n a ob e1 e2).stay hx (.inr z)
    · have z1 := (List.getElem?_eq_some_iff.mp e1).1
      simp at z1
      have h3 : n = φ.length := by omega
      subst h3
      rw [List.getElem?_append_right (by omega)] at e1
      rw [r.len, List.getElem?_append_right (by omega)] at e2
      simp at e1 e2
      subst e1 e2
      exact ho
/-- the object n is changed -/
theorem Ext.put {p : Addr} {o o' : HO} (hp : H p = some o') (nt : ∀ xs, o' ≠ .tup xs) (nf : ∀ b u, o' ≠ .frz b u) : Ext K φ H φ (L2.upd H p o) := ⟨fun _ _ h => h, fun a xs h => by
  rcases h with (h | ⟨o1, h⟩) | h
  · exact .inl (.inl (by rw [upd_ne (fun z => by subst z; rw [hp] at h; cases h; exact nt _ rfl)]; exact h))
  · exact .inl (.inr ⟨o1, by rw [upd_ne (fun z => by subst z; rw [hp] at h; cases h; exact nf _ _ rfl)]; exact h⟩)
  · exact .inr h, fun a o1 u h => by rw [upd_ne (fun z => by subst z; rw [hp] at h; cases h; exact nf _ _ rfl)]; exact h⟩
theorem RH.put {n : Nat} {p : Addr} {o o' : HO} {ao : AO} (r : RH K G φ h H) (hn : φ[n]? = some p) (hp : H p = some o') (nt : ∀ xs, o' ≠ .tup xs) (nf : ∀ b u, o' ≠ .frz b u) (ho : RObj K G (L2.upd H p o) φ p ao) (hk : ¬ isK h[n]?) (hk' : ¬ isK (some ao)) : RH K G φ (h.set n ao) (L2.upd H p o) := by
  have hl : n < h.length := by rw [← r.len]; exact (List.getElem?_eq_some_iff.mp hn).1
  have same : ∀ m, isK h[m]? → isK (h.set n ao)[m]? := fun m z => by
    by_cases hm : n = m
    · subst hm; exact absurd z hk
    · rw [List.getElem?_set_ne hm]; exact z
  refine ⟨by simp [r.len], fun m k a e1 e2 => (r.inj m k a e1 e2).imp id fun z => z.imp (same m) (same k), fun m a ob e1 e2 => ?_⟩
  by_cases hm : m = n
  · subst hm
    rw [hn] at e1; cases e1
    rw [List.getElem?_set_self hl] at e2
    cases e2
    exact ho
  · rw [List.getElem?_set_ne (Ne.symm hm)] at e2
    have q := r.ob m a ob e1 e2
    by_cases hkm : isK (some ob)
    · exact q.stay (.put hp nt nf) (.inr hkm)
    · refine q.stay (.put hp nt nf) (.inl (upd_ne fun z => ?_))
      rcases r.inj m n p (z ▸ e1) hn with t | t | t
      · exact hm t
      · rw [e2] at t; exact hkm t
      · exact hk t
end
/-! ### the state -/
abbrev SU := List (Option U)
inductive RO (K : PySem.W.Frag) (H : Hp) (φ : List Addr) : SU → St → Prop
  | nil : RO K H φ [] []
  | no {ρ : SU} {σ : St} {o : Option V} : RO K H φ ρ σ → RO K H φ (none :: ρ) (o :: σ)
  | so {u : U} {v : V} {ρ : SU} {σ : St} : RU K H φ u v → RO K H φ ρ σ → RO K H φ (some u :: ρ) (some v :: σ)
/-- where the def was entered -/
structure Bs where
  G : Str → Addr
  φ : List Addr
  H : Hp
section
variable {K : PySem.W.Frag} {φ φ' : List Addr} {H H' : Hp}
theorem RO.mono (e : Ext K φ H φ' H') : ∀ {ρ : SU} {σ : St}, RO K H φ ρ σ → RO K H' φ' ρ σ
  | _, _, .nil => .nil
  | _, _, .no r => .no (RO.mono e r)
  | _, _, .so h r => .so (h.mono e) (RO.mono e r)
theorem RO.at : ∀ {ρ : SU} {σ : St} {i : Nat} {u : U}, RO K H φ ρ σ → ρ[i]? = some (some u) → ∃ v, σ[i]? = some (some v) ∧ RU K H φ u v
  | _, _, _, _, .nil, e => by simp at e
  | _, _, 0, _, .no r, e => by simp at e
  | _, _, 0, _, .so h r, e => by simp at e; subst e; exact ⟨_, rfl, h⟩
  | _, _, i + 1, u, .no r, e => by
    obtain ⟨v, h1, h2⟩ := RO.at (i := i) (u := u) r (by simpa using e)
    exact ⟨v, by simpa using h1, h2⟩
  | _, _, i + 1, u, .so _ r, e => by
    obtain ⟨v, h1, h2⟩ := RO.at (i := i) (u := u) r (by simpa using e)
    exact ⟨v, by simpa using h1, h2⟩
theorem RO.set {u : U} {v : V} (h : RU K H φ u v) : ∀ {ρ : SU} {σ : St} (i : Nat), RO K H φ ρ σ → RO K H φ (ρ.set i (some u)) (σ.set i (some v))
  | _, _, _, .nil => .nil
  | _, _, 0, .no r => .so h r
  | _, _, 0, .so _ r => .so h r
  | _, _, i + 1, .no r => .no (RO.set h i r)
  | _, _, i + 1, .so g r => .so g (RO.set h i r)
theorem RO.unset : ∀ {ρ : SU} {σ : St} (i : Nat) (o : Option V), RO K H φ ρ σ → RO K H φ (ρ.set i none) (σ.set i o)
  | _, _, _, _, .nil => .nil
  | _, _, 0, _, .no r => .no r
  | _, _, 0, _, .so _ r => .no r
  | _, _, i + 1, o, .no r => .no (RO.unset i o r)
  | _, _, i + 1, o, .so g r => .so g (RO.unset i o r)
theorem RO.nones : ∀ (n : Nat), RO K H φ (List.replicate n none) (List.replicate n none)
  | 0 => .nil
  | n + 1 => .no (RO.nones n)
theorem RO.start : ∀ {us : List U} {vs : List V} (n : Nat), RUs K H φ us vs → RO K H φ (us.map some ++ List.replicate n none) (vs.map some ++ List.replicate n none)
  | _, _, n, .nil => RO.nones n
  | _, _, n, .cons h r => .so h (RO.start n r)
end
structure R (K : PySem.W.Frag) (B : Bs) (φ : List Addr) (ρ : SU) (h : AH) (σ : St) (H : Hp) : Prop where
  ext : Ext K B.φ B.H φ H
  st : RO K H φ ρ σ
  hp : RH K B.G φ h H
theorem R.step {K : PySem.W.Frag} {B : Bs} {φ φ' : List Addr} {ρ : SU} {h h' : AH} {σ : St} {H H' : Hp} (r : R K B φ ρ h σ H) (e : Ext K φ H φ' H') (q : RH K B.G φ' h' H') : R K B φ' ρ h' σ H' := ⟨r.ext.trans e, r.st.mono e, q⟩
/-- an exception -/
structure UX where
  c : Str
  fs : List (Str × U) := []
abbrev UQ := U → AH → Prop
abbrev XQ := UX → AH → Prop
abbrev EX := SU → XQ
abbrev WE := SU → AH → UQ → XQ → Prop
abbrev WT := SU → AH → (Bool → AH → Prop) → XQ → Prop
abbrev WA := SU → AH → (List U → AH → Prop) → XQ → Prop
structure UD where
  nx : SU → AH → Prop
  rt : UQ
  bk : SU → AH → Prop := fun _ _ => False
  ct : SU → AH → Prop := fun _ _ => False
abbrev SK := SU → AH → Prop
abbrev WS := SK → UQ → SK → SK → EX → SU → AH → Prop
def AQ (K : PySem.W.Frag) (G : Str → Addr) (φ : List Addr) (H : Hp) (Q : UQ) : VK := fun v H' => ∃ φ' u h', Ext K φ H φ' H' ∧ RH K G φ' h' H' ∧ RU K H' φ' u v ∧ Q u h'
def tA (K : PySem.W.Frag) (B : Bs) (E : EX) (W : WE) : TE := fun σ H Q => ∃ φ ρ h QA, R K B φ ρ h σ H ∧ W ρ h QA (E ρ) ∧ ∀ v H', AQ K B.G φ H QA v H' → Q v H'
def tAT (K : PySem.W.Frag) (B : Bs) (E : EX) (W : WT) : TT := fun σ H Q => ∃ φ ρ h QA, R K B φ ρ h σ H ∧ W ρ h QA (E ρ) ∧ ∀ b H' φ' h', Ext K φ H φ' H' → RH K B.G φ' h' H' → QA b h' → Q b H'
def tAA (K : PySem.W.Frag) (B : Bs) (E : EX) (W : WA) : TA := fun σ H Q => ∃ φ ρ h QA, R K B φ ρ h σ H ∧ W ρ h QA (E ρ) ∧ ∀ vs H' φ' us h', Ext K φ H φ' H' → RH K B.G φ' h' H' → RUs K H' φ' us vs → QA us h' → Q vs H'
/-- the ends of what began at φ, H -/
structure Fin (K : PySem.W.Frag) (B : Bs) (φ : List Addr) (H : Hp) (DA : UD) (D : Ends) : Prop where
  nx : ∀ φ' ρ' h' σ' H', Ext K φ H φ' H' → R K B φ' ρ' h' σ' H' → DA.nx ρ' h' → D.nx σ' H'
  rt : ∀ v H' φ' u h', Ext K φ H φ' H' → RH K B.G φ' h' H' → RU K H' φ' u v → DA.rt u h' → D.rt v H'
  bk : ∀ φ' ρ' h' σ' H', Ext K φ H φ' H' → R K B φ' ρ' h' σ' H' → DA.bk ρ' h' → D.bk σ' H'
  ct : ∀ φ' ρ' h' σ' H', Ext K φ H φ' H' → R K B φ' ρ' h' σ' H' → DA.ct ρ' h' → D.ct σ' H'
theorem Fin.step {K : PySem.W.Frag} {B : Bs} {φ φ1 : List Addr} {H H1 : Hp} {DA : UD} {D : Ends} (f : Fin K B φ H DA D) (e : Ext K φ H φ1 H1) : Fin K B φ1 H1 DA D :=
  ⟨fun φ' ρ' h' σ' H' e' r q => f.nx φ' ρ' h' σ' H' (e.trans e') r q, fun v H' φ' u h' e' rh ru q => f.rt v H' φ' u h' (e.trans e') rh ru q, fun φ' ρ' h' σ' H' e' r q => f.bk φ' ρ' h' σ' H' (e.trans e') r q, fun φ' ρ' h' σ' H' e' r q => f.ct φ' ρ' h' σ' H' (e.trans e') r q⟩
def tAS (K : PySem.W.Frag) (B : Bs) (E : EX) (W : WS) : TS := fun D σ H => ∃ φ ρ h DA, R K B φ ρ h σ H ∧ W DA.nx DA.rt DA.bk DA.ct E ρ h ∧ Fin K B φ H DA D
structure AE (X : Cx) (B : Bs) (E : EX) (e : Expr) (W : WE) : Prop where
  pe : PE X e (tA X.K B E W)
structure AT (X : Cx) (B : Bs) (E : EX) (e : Expr) (W : WT) : Prop where
  pt : PT X e (tAT X.K B E W)
structure AW (X : Cx) (B : Bs) (E : EX) (e : Expr) (W : WT) : Prop where
  pw : PW X e (tAT X.K B E W)
structure AA (X : Cx) (B : Bs) (E : EX) (es : List Expr) (W : WA) : Prop where
  pa : PA X es (tAA X.K B E W)
structure AS (X : Cx) (B : Bs) (E : EX) (st : Stmt) (W : WS) : Prop where
  ps : PS X st (tAS X.K B E W)
structure ASs (X : Cx) (B : Bs) (E : EX) (st : List Stmt) (W : WS) : Prop where
  pss : PSs X st (tAS X.K B E W)
theorem PE.weak {X : Cx} {e : Expr} {t t' : TE} (h : PE X e t) (w : ∀ σ H Q, t' σ H Q → t σ H Q) : PE X e t' := fun pins s σ H Q I q => h pins s σ H Q I (w _ _ _ q)
theorem PT.weak {X : Cx} {e : Expr} {t t' : TT} (h : PT X e t) (w : ∀ σ H Q, t' σ H Q → t σ H Q) : PT X e t' := fun pins s σ H Q I q => h pins s σ H Q I (w _ _ _ q)
theorem PW.weak {X : Cx} {e : Expr} {t t' : TT} (h : PW X e t) (w : ∀ σ H Q, t' σ H Q → t σ H Q) : PW X e t' := fun wh pins s σ H Q I q => h wh pins s σ H Q I (w _ _ _ q)
theorem PA.weak {X : Cx} {e : List Expr} {t t' : TA} (h : PA X e t) (w : ∀ σ H Q, t' σ H Q → t σ H Q) : PA X e t' := fun pos pins s σ H Q I q => h pos pins s σ H Q I (w _ _ _ q)
theorem PS.weak {X : Cx} {e : Stmt} {t t' : TS} (h : PS X e t) (w : ∀ D σ H, t' D σ H → t D σ H) : PS X e t' := fun pins s σ H D I q => h pins s σ H D I (w _ _ _ q)
theorem PSs.weak {X : Cx} {e : List Stmt} {t t' : TS} (h : PSs X e t) (w : ∀ D σ H, t' D σ H → t D σ H) : PSs X e t' := fun pins s σ H D I q => h pins s σ H D I (w _ _ _ q)
section
variable {K : PySem.W.Frag} {B : Bs} {E : EX} {φ : List Addr} {ρ : SU} {h : AH} {σ : St} {H : Hp}
theorem tA.mk {W : WE} {QA : UQ} {Q : VK} (r : R K B φ ρ h σ H) (w : W ρ h QA (E ρ)) (k : ∀ v H' φ' u h', Ext K φ H φ' H' → R K B φ' ρ h' σ H' → RU K H' φ' u v → QA u h' → Q v H') : tA K B E W σ H Q :=
  ⟨φ, ρ, h, QA, r, w, fun v H' ⟨φ', u, h', e, q, ru, qa⟩ => k v H' φ' u h' e (r.step e q) ru qa⟩
theorem tAT.mk {W : WT} {QA : Bool → AH → Prop} {Q : Bool → Hp → Prop} (r : R K B φ ρ h σ H) (w : W ρ h QA (E ρ)) (k : ∀ b H' φ' h', Ext K φ H φ' H' → R K B φ' ρ h' σ H' → QA b h' → Q b H') : tAT K B E W σ H Q :=
  ⟨φ, ρ, h, QA, r, w, fun b H' φ' h' e q qa => k b H' φ' h' e (r.step e q) qa⟩
theorem tAA.mk {W : WA} {QA : List U → AH → Prop} {Q : List V → Hp → Prop} (r : R K B φ ρ h σ H) (w : W ρ h QA (E ρ)) (k : ∀ vs H' φ' us h', Ext K φ H φ' H' → R K B φ' ρ h' σ H' → RUs K H' φ' us vs → QA us h' → Q vs H') : tAA K B E W σ H Q :=
  ⟨φ, ρ, h, QA, r, w, fun vs H' φ' us h' e q ru qa => k vs H' φ' us h' e (r.step e q) ru qa⟩
end
end L2

namespace L2
open PySem PySem.Spec PyProof.Rows
/-- not, by its two values -/
@[reducible] def nB : Bool → Bool
  | true => false
  | false => true
theorem nB_not (b : Bool) : nB b = !b := by cases b <;> rfl
/-! ### operations on values -/
abbrev O2 := U → U → AH → UQ → Prop
abbrev O1 := U → AH → UQ → Prop
abbrev ON := List U → AH → UQ → Prop
def rA (K : PySem.W.Frag) (G : Str → Addr) (w : O2) : R2 := fun x y H Q => ∃ φ a b h QA, RH K G φ h H ∧ RU K H φ a x ∧ RU K H φ b y ∧ w a b h QA ∧ ∀ v H', AQ K G φ H QA v H' → Q v H'
def rA1 (K : PySem.W.Frag) (G : Str → Addr) (w : O1) : V → Hp → VK → Prop := fun x H Q => ∃ φ a h QA, RH K G φ h H ∧ RU K H φ a x ∧ w a h QA ∧ ∀ v H', AQ K G φ H QA v H' → Q v H'
def rAN (K : PySem.W.Frag) (G : Str → Addr) (w : ON) : List V → Hp → VK → Prop := fun xs H Q => ∃ φ us h QA, RH K G φ h H ∧ RUs K H φ us xs ∧ w us h QA ∧ ∀ v H', AQ K G φ H QA v H' → Q v H'
structure AOp (X : Cx) (G : Str → Addr) (f : Value → Value → Sem Value) (w : O2) : Prop where
  op : OpR X f (rA X.K G w)
structure AUn (X : Cx) (G : Str → Addr) (f : Value → Sem Value) (w : O1) : Prop where
  op : UnR X f (rA1 X.K G w)
structure ACl (X : Cx) (G : Str → Addr) (f : Value) (w : ON) : Prop where
  op : CallR X f (rAN X.K G w)
section
variable {K : PySem.W.Frag} {G : Str → Addr} {φ : List Addr} {h : AH} {H : Hp} {QA : UQ}
theorem AQ.here {u : U} {v : V} (rh : RH K G φ h H) (ru : RU K H φ u v) (q : QA u h) : AQ K G φ H QA v H := ⟨φ, u, h, .refl, rh, ru, q⟩
theorem AQ.tup {us : List U} {vs : List V} {p : Addr} (rh : RH K G φ h H) (hp : H p = none) (ru : RUs K H φ us vs) (q : QA (.tup us) h) : AQ K G φ H QA (.ref p) (upd H p (.tup vs)) :=
  ⟨φ, .tup us, h, .upd hp, rh.upd hp, .tup (SqT.of upd_same) (ru.mono (.upd hp)), q⟩
theorem AQ.lst {us : List U} {vs : List V} {p : Addr} (rh : RH K G φ h H) (hp : H p = none) (ru : RUs K H φ us vs) (q : QA (.obj h.length) (h ++ [.lst us])) : AQ K G φ H QA (.ref p) (upd H p (.lst vs)) :=
  ⟨φ ++ [p], .obj h.length, h ++ [.lst us], .push hp, rh.push (ao := .lst us) hp ⟨vs, upd_same, ru.mono (.push hp)⟩, .obj (by rw [← rh.len]; simp), q⟩
theorem RH.lst (r : RH K G φ h H) {n : Nat} {us : List U} (e : h[n]? = some (.lst us)) {v : V} (q : RU K H φ (.obj n) v) : ∃ a vs, v = .ref a ∧ φ[n]? = some a ∧ H a = some (.lst vs) ∧ RUs K H φ us vs := by
  cases q with
  | obj hn =>
    obtain ⟨vs, h1, h2⟩ := r.ob _ _ _ hn e
    exact ⟨_, vs, rfl, hn, h1, h2⟩
theorem RH.rol (r : RH K G φ h H) {n : Nat} {us : List U} (e : h[n]? = some (.lst us) ∨ h[n]? = some (.rol us) ∨ h[n]? = some (.krl us)) {v : V} (q : RU K H φ (.obj n) v) : ∃ a vs, v = .ref a ∧ φ[n]? = some a ∧ SqL K H a vs ∧ RUs K H φ us vs := by
  cases q with
  | obj hn =>
    rcases e with e | e | e
    · obtain ⟨vs, h1, h2⟩ := r.ob _ _ _ hn e
      exact ⟨_, vs, rfl, hn, SqL.of h1, h2⟩
    · obtain ⟨vs, h1, h2⟩ := r.ob _ _ _ hn e
      exact ⟨_, vs, rfl, hn, .inl h1, h2⟩
    · obtain ⟨vs, h1, h2⟩ := r.ob _ _ _ hn e
      exact ⟨_, vs, rfl, hn, .inr h1, h2⟩
end
/-- the items of a list at a number -/
def lstAt (h : AH) (n : Nat) : Option (List U) := match h[n]? with
  | some (.lst xs) => some xs
  | some (.rol xs) => some xs
  | some (.krl xs) => some xs
  | _ => none
theorem lstAt_of {h : AH} {n : Nat} {us : List U} (e : lstAt h n = some us) : h[n]? = some (.lst us) ∨ h[n]? = some (.rol us) ∨ h[n]? = some (.krl us) := by
  unfold lstAt at e
  split at e
  · cases e; exact .inl (by assumption)
  · cases e; exact .inr (.inl (by assumption))
  · cases e; exact .inr (.inr (by assumption))
  · cases e
/-- list or tuple, its items -/
def itemsOf (h : AH) : U → Option (List U)
  | .tup xs => some xs
  | .obj n => lstAt h n
  | _ => none
def ownLst (h : AH) (n : Nat) : Option (List U) := match h[n]? with
  | some (.lst xs) => some xs
  | _ => none
theorem ownLst_of {h : AH} {n : Nat} {us : List U} (e : ownLst h n = some us) : h[n]? = some (.lst us) := by
  unfold ownLst at e
  split at e
  · cases e; assumption
  · cases e
/-- in an option's way -/
def Opt {α : Type} (o : Option α) (k : α → Prop) : Prop := match o with
  | some a => k a
  | none => False
theorem Opt.of {α : Type} {o : Option α} {k : α → Prop} (h : Opt o k) : ∃ a, o = some a ∧ k a := by
  cases o with
  | none => exact h.elim
  | some a => exact ⟨a, rfl, h⟩
theorem Opt.mk {α : Type} {o : Option α} {k : α → Prop} {a : α} (e : o = some a) (h : k a) : Opt o k := by rw [e]; exact h
def uAdd : O2 := fun a b h Q => match a, b with
  | .int i, .int j => Q (.int (i + j)) h
  | .str x, .str y => x.length + y.length ≤ sizeLine ∧ Q (.str (x ++ y)) h
  | .tup xs, .tup ys => xs ≠ [] ∧ xs.length + ys.length ≤ sizeLine ∧ Q (.tup (xs ++ ys)) h
  | .obj m, .obj n => Opt (ownLst h m) fun xs => Opt (ownLst h n) fun ys => xs.length + ys.length ≤ sizeLine ∧ Q (.obj h.length) (h ++ [.lst (xs ++ ys)])
  | _, _ => False
def uI (g : Int → Int → U) : O2 := fun a b h Q => match a, b with
  | .int i, .int j => Q (g i j) h
  | _, _ => False
def uIC (C : Int → Int → Prop) (g : Int → Int → U) : O2 := fun a b h Q => match a, b with
  | .int i, .int j => C i j ∧ Q (g i j) h
  | _, _ => False
def uSub : O2 := uI fun i j => .int (i - j)
def uMul : O2 := fun a b h Q => match a, b with
  | .int i, .int j => IntMulOk i j ∧ Q (.int (i * j)) h
  | .obj m, .int k => Opt (ownLst h m) fun xs => -(2 ^ 63) ≤ k ∧ k < 2 ^ 63 ∧ xs.length * k.toNat ≤ sizeLine ∧ Q (.obj h.length) (h ++ [.lst (List.replicate k.toNat xs).flatten])
  | _, _ => False
def uMod : O2 := uIC (fun _ j => 0 < j) fun i j => .int (i % j)
def uDiv : O2 := uIC CDivB fun i j => .int (i.fdiv j)
def uPow : O2 := uIC CPow fun i j => .int (i ^ j.toNat)
def uLt : O2 := uI fun i j => .bl (decide (i < j))
def uLe : O2 := uI fun i j => .bl (decide (i ≤ j))
def uGt : O2 := uI fun i j => .bl (decide (j < i))
def uGe : O2 := uI fun i j => .bl (decide (j ≤ i))
section
variable {X : Cx} {G : Str → Addr}
theorem aop_int {f : Value → Value → Sem Value} {g : Int → Int → U} {g' : Int → Int → V} (ho : OpR X f (rI0 g')) (hg : ∀ K H φ i j, RU K H φ (g i j) (g' i j)) : AOp X G f (uI g) := ⟨by
  rintro pins s σ H x y v u Q I rx ry ⟨φ, a, b, h, QA, rh, ra, rb, w, k⟩
  cases a <;> cases b <;> first | exact w.elim | skip
  cases ra; cases rb
  exact ho pins s σ H _ _ v u Q I rx ry ⟨_, _, rfl, rfl, k _ _ (.here rh (hg _ _ _ _ _) w)⟩⟩
theorem aop_intC {f : Value → Value → Sem Value} {C : Int → Int → Prop} {g : Int → Int → U} {g' : Int → Int → V} (ho : OpR X f (rI C g')) (hg : ∀ K H φ i j, RU K H φ (g i j) (g' i j)) : AOp X G f (uIC C g) := ⟨by
  rintro pins s σ H x y v u Q I rx ry ⟨φ, a, b, h, QA, rh, ra, rb, w, k⟩
  cases a <;> cases b <;> first | exact w.elim | skip
  cases ra; cases rb
  exact ho pins s σ H _ _ v u Q I rx ry ⟨_, _, rfl, rfl, w.1, k _ _ (.here rh (hg _ _ _ _ _) w.2)⟩⟩
theorem ao_sub : AOp X G (binaryOp .Sub) uSub := aop_int op_sub fun _ _ _ _ _ => .int
theorem ao_mod : AOp X G (binaryOp .Mod) uMod := aop_intC op_mod fun _ _ _ _ _ => .int
theorem ao_div : AOp X G (binaryOp .FloorDiv) uDiv := aop_intC op_fdivB fun _ _ _ _ _ => .int
theorem ao_pow : AOp X G (binaryOp .Pow) uPow := aop_intC op_pow fun _ _ _ _ _ => .int
theorem ao_lt : AOp X G (compareOp .Lt) uLt := aop_int op_lt fun _ _ _ _ _ => .bl
theorem ao_le : AOp X G (compareOp .LtE) uLe := aop_int op_le fun _ _ _ _ _ => .bl
theorem ao_gt : AOp X G (compareOp .Gt) uGt := aop_int op_gt fun _ _ _ _ _ => .bl
theorem ao_ge : AOp X G (compareOp .GtE) uGe := aop_int op_ge fun _ _ _ _ _ => .bl
theorem ao_mul : AOp X G (binaryOp .Mult) uMul := ⟨by
  rintro pins s σ H x y v u Q I rx ry ⟨φ, a, b, h, QA, rh, ra, rb, w, k⟩
  cases a <;> cases b <;> first | exact w.elim | skip
  · cases ra; cases rb
    exact op_mulB pins s σ H _ _ v u Q I rx ry ⟨_, _, rfl, rfl, w.1, k _ _ (.here rh .int w.2)⟩
  · obtain ⟨xs, e, w1, w2, w3, w4⟩ := Opt.of w
    obtain ⟨p, vs, rfl, hn, hp, r⟩ := rh.lst (ownLst_of e) ra
    cases rb
    refine op_rep pins s σ H _ _ v u Q I rx ry ⟨_, _, _, rfl, rfl, hp, w1, w2, by rw [← r.len]; exact w3, fun q hq => k _ _ (.lst rh hq ?_ w4)⟩
    generalize (Int.toNat _) = m
    induction m with
    | zero => exact .nil
    | succ m ih => rw [List.replicate_succ, List.replicate_succ, List.flatten_cons, List.flatten_cons]; exact r.app ih⟩
theorem ao_add : AOp X G (binaryOp .Add) uAdd := ⟨by
  rintro pins s σ H x y v u Q I rx ry ⟨φ, a, b, h, QA, rh, ra, rb, w, k⟩
  cases a <;> cases b <;> first | exact w.elim | skip
  · cases ra; cases rb
    exact op_add pins s σ H _ _ v u Q I rx ry ⟨_, _, rfl, rfl, k _ _ (.here rh .int w)⟩
  · cases ra; cases rb
    exact op_add_str pins s σ H _ _ v u Q I rx ry ⟨_, _, rfl, rfl, w.1, k _ _ (.here rh .str w.2)⟩
  · obtain ⟨w1, w2, w3⟩ := w
    cases ra with
    | tup t1 r1 => cases rb with
      | tup t2 r2 =>
        refine op_catT pins s σ H _ _ v u Q I rx ry ⟨_, _, _, _, rfl, rfl, t1, t2, ?_, by rw [← r1.len, ← r2.len]; exact w2, fun z => k _ _ ?_, fun _ p hp => k _ _ (.tup rh hp (r1.app r2) w3)⟩
        · intro z; subst z; cases r1; exact w1 rfl
        · subst z; cases r2; rw [List.append_nil] at w3; exact .here rh (.tup t1 r1) w3
  · obtain ⟨xs, e, w⟩ := Opt.of w
    obtain ⟨ys, e', w1, w2⟩ := Opt.of w
    obtain ⟨p, vs, rfl, hn, hp, r⟩ := rh.lst (ownLst_of e) ra
    obtain ⟨p', vs', rfl, hn', hp', r'⟩ := rh.lst (ownLst_of e') rb
    exact op_cat pins s σ H _ _ v u Q I rx ry ⟨_, _, _, _, rfl, rfl, hp, hp', by rw [← r.len, ← r'.len]; exact w1, fun q hq => k _ _ (.lst rh hq (r.app r') w2)⟩⟩
/-- - a -/
def uNeg : O1 := fun a h Q => match a with
  | .int i => Q (.int (-i)) h
  | _ => False
theorem ao_neg : AUn X G (unaryOp .USub) uNeg := ⟨by
  rintro pins s σ H x v Q I rx ⟨φ, a, h, QA, rh, ra, w, k⟩
  cases a <;> first | exact w.elim | skip
  cases ra
  exact un_neg pins s σ H _ v Q I rx ⟨_, rfl, k _ _ (.here rh .int w)⟩⟩
end
/-! ### data -/
def datL (f : U → Option PyData) : List U → Option (List PyData)
  | [] => some []
  | u :: us => match f u, datL f us with
    | some e, some es => some (e :: es)
    | _, _ => none
def dat (h : AH) : Nat → U → Option PyData
  | 0, _ => none
  | n + 1, u => match u with
    | .non => some .none
    | .bl b => some (.bool b)
    | .int i => some (.int i)
    | .str x => some (.str x)
    | .tup xs => (datL (dat h n) xs).map .tuple
    | .obj k => match lstAt h k with
      | some xs => (datL (dat h n) xs).map .list
      | none => none
section
variable {K : PySem.W.Frag} {G : Str → Addr} {φ : List Addr} {h : AH} {H : Hp}
theorem datL_dp {f : U → Option PyData} (hf : ∀ u d v, f u = some d → RU K H φ u v → Dp K H v d) : ∀ {us : List U} {ds : List PyData} {vs : List V}, datL f us = some ds → RUs K H φ us vs → DpAll K H vs ds
  | [], ds, _, e, r => by cases e; cases r; exact .nil
  | u :: us, ds, _, e, r => by
    unfold datL at e
    split at e
    · rename_i d ds' e1 e2
      cases e
      cases r with
      | cons r1 r2 => exact .cons (hf u d _ e1 r1) (datL_dp hf e2 r2)
    · cases e
theorem dat_dp (rh : RH K G φ h H) : ∀ (n : Nat) {u : U} {d : PyData} {v : V}, dat h n u = some d → RU K H φ u v → Dp K H v d
  | 0, _, _, _, e, _ => by cases e
  | n + 1, u, d, v, e, r => by
    unfold dat at e
    cases u with
    | non => cases e; cases r; exact .non
    | bl b => cases e; cases r; exact .bl b
    | int i => cases e; cases r; exact .int i
    | str x => cases e; cases r; exact .str x
    | tup xs =>
      cases r with
      | tup t r =>
        dsimp only at e
        cases e1 : datL (dat h n) xs with
        | none => rw [e1] at e; cases e
        | some ds => rw [e1] at e; cases e; exact .tup t (datL_dp (fun u d v => dat_dp rh n) e1 r)
    | obj k =>
      dsimp only at e
      split at e
      · rename_i xs e0
        obtain ⟨a, vs, rfl, _, hs, r'⟩ := rh.rol (lstAt_of e0) r
        cases e1 : datL (dat h n) xs with
        | none => rw [e1] at e; cases e
        | some ds => rw [e1] at e; cases e; exact .lst hs (datL_dp (fun u d v => dat_dp rh n) e1 r')
      · cases e
end
/-- == of data -/
def uEqD (neg : Bool) : O2 := fun a b h Q => Opt (dat h 9 a) fun d => Opt (dat h 9 b) fun e => SeqAt.shaped d = true ∧ SeqAt.shaped e = true ∧ Q (.bl (if neg then !PyData.eqv d e else PyData.eqv d e)) h
def uEq : O2 := fun a b h Q => match a, b with
  | .int i, .int j => Q (.bl (decide (i = j))) h
  | .str i, .str j => Q (.bl (decide (i = j))) h
  | .bl i, .bl j => Q (.bl (decide (i = j))) h
  | .non, .non => Q (.bl true) h
  | .non, .int _ => Q (.bl false) h
  | .int _, .non => Q (.bl false) h
  | .non, .str _ => Q (.bl false) h
  | .str _, .non => Q (.bl false) h
  | a, b => uEqD false a b h Q
def uNe : O2 := fun a b h Q => match a, b with
  | .int i, .int j => Q (.bl (!decide (i = j))) h
  | .str i, .str j => Q (.bl (!decide (i = j))) h
  | .bl i, .bl j => Q (.bl (!decide (i = j))) h
  | .non, .non => Q (.bl false) h
  | .non, .int _ => Q (.bl true) h
  | .int _, .non => Q (.bl true) h
  | .non, .str _ => Q (.bl true) h
  | .str _, .non => Q (.bl true) h
  | a, b => uEqD true a b h Q
section
variable {X : Cx} {G : Str → Addr}
theorem dec_V {α : Type} [DecidableEq α] {f : α → V} (hf : ∀ a b, f a = f b → a = b) (a b : α) : decide (f a = f b) = decide (a = b) := by
  rw [Bool.eq_iff_iff]; simp only [decide_eq_true_eq]; exact ⟨hf a b, fun e => by rw [e]⟩
theorem ao_eqD (hu : X.A.units + 64 < cLine) : AOp X G (compareOp .Eq) (uEqD false) := ⟨by
  rintro pins s σ H x y v u Q I rx ry ⟨φ, a, b, h, QA, rh, ra, rb, w, k⟩
  obtain ⟨d, e1, w⟩ := Opt.of w
  obtain ⟨e, e2, s1, s2, w⟩ := Opt.of w
  exact op_eqD hu pins s σ H _ _ v u Q I rx ry ⟨d, e, dat_dp rh 9 e1 ra, dat_dp rh 9 e2 rb, s1, s2, k _ _ (.here rh .bl w)⟩⟩
theorem ao_neD (hu : X.A.units + 64 < cLine) : AOp X G (compareOp .NotEq) (uEqD true) := ⟨by
  rintro pins s σ H x y v u Q I rx ry ⟨φ, a, b, h, QA, rh, ra, rb, w, k⟩
  obtain ⟨d, e1, w⟩ := Opt.of w
  obtain ⟨e, e2, s1, s2, w⟩ := Opt.of w
  exact op_neD hu pins s σ H _ _ v u Q I rx ry ⟨d, e, dat_dp rh 9 e1 ra, dat_dp rh 9 e2 rb, s1, s2, k _ _ (.here rh .bl w)⟩⟩
theorem ao_eq (hu : X.A.units + 64 < cLine) : AOp X G (compareOp .Eq) uEq := ⟨by
  rintro pins s σ H x y v u Q I rx ry ⟨φ, a, b, h, QA, rh, ra, rb, w, k⟩
  have dfl : uEqD false a b h QA → wpAny (model X.prog X.w) X.A (compareOp .Eq v u) (EP X pins σ Q) X.xe s := fun w => (ao_eqD hu).op pins s σ H x y v u Q I rx ry ⟨φ, a, b, h, QA, rh, ra, rb, w, k⟩
  have one : ∀ c, scal x y = true → decide (x = y) = c → QA (.bl c) h → wpAny (model X.prog X.w) X.A (compareOp .Eq v u) (EP X pins σ Q) X.xe s := fun c h1 h2 q => op_eq pins s σ H x y v u Q I rx ry ⟨h1, by rw [h2]; exact k _ _ (.here rh .bl q)⟩
  cases a <;> cases b <;> first
    | exact dfl w
    | (cases ra; cases rb; exact one _ rfl (dec_V (fun _ _ e => by cases e; rfl) _ _) w)
    | (cases ra; cases rb; exact one _ rfl (by decide) w)
    | (cases ra; cases rb; exact one _ rfl (decide_eq_false (fun z => by cases z)) w)⟩
theorem ao_ne (hu : X.A.units + 64 < cLine) : AOp X G (compareOp .NotEq) uNe := ⟨by
  rintro pins s σ H x y v u Q I rx ry ⟨φ, a, b, h, QA, rh, ra, rb, w, k⟩
  have dfl : uEqD true a b h QA → wpAny (model X.prog X.w) X.A (compareOp .NotEq v u) (EP X pins σ Q) X.xe s := fun w => (ao_neD hu).op pins s σ H x y v u Q I rx ry ⟨φ, a, b, h, QA, rh, ra, rb, w, k⟩
  have one : ∀ c, scal x y = true → decide (x = y) = c → QA (.bl (!c)) h → wpAny (model X.prog X.w) X.A (compareOp .NotEq v u) (EP X pins σ Q) X.xe s := fun c h1 h2 q => op_ne pins s σ H x y v u Q I rx ry ⟨h1, by rw [h2]; exact k _ _ (.here rh .bl q)⟩
  cases a <;> cases b <;> first
    | exact dfl w
    | (cases ra; cases rb; exact one _ rfl (dec_V (fun _ _ e => by cases e; rfl) _ _) w)
    | (cases ra; cases rb; exact one true rfl (by decide) w)
    | (cases ra; cases rb; exact one false rfl (decide_eq_false (fun z => by cases z)) w)⟩
/-- is None, is not None -/
@[reducible] def uNon : U → Bool
  | .non => true
  | _ => false
def uIs : O2 := fun a b h Q => match b with
  | .non => Q (.bl (uNon a)) h
  | _ => False
end
/-! ### expressions -/
section
variable {X : Cx} {B : Bs} {E : EX} {a b c e : Expr} {es : List Expr} {Wa Wb Wc We : WE} {pos : Pos}
@[reducible] def aVar (i : Nat) : WE := fun ρ h Q _ => match ρ[i]? with
  | some (some u) => Q u h
  | _ => False
@[reducible] def aC (u : U) : WE := fun _ h Q _ => Q u h
theorem ae_var {i : Nat} {x : Str} (hN : X.N[i]? = some x) (hv : Vis X.env.scope x) (hd : (x == ("__debug__" : Str)) = false := by decide) (hcd : (x == ("__classdict__" : Str)) = false := by decide) : AE X B E (.Name x pos) (aVar i) := ⟨by
  refine (pe_var (pos := pos) hN hv hd hcd).weak ?_
  rintro σ H Q ⟨φ, ρ, h, QA, r, w, k⟩
  unfold aVar at w
  split at w
  · rename_i u e
    obtain ⟨v, e', ru⟩ := r.st.at e
    exact ⟨v, e', k _ _ (.here r.hp ru w)⟩
  · exact w.elim⟩
theorem ae_const {u : U} {v : V} {t : Expr} (h : PE X t (tC v)) (ru : ∀ H φ, RU X.K H φ u v) : AE X B E t (aC u) := ⟨by
  refine h.weak ?_
  rintro σ H Q ⟨φ, ρ, h, QA, r, w, k⟩
  exact k _ _ (.here r.hp (ru _ _) w)⟩
theorem ae_int {i : Int} {j} : AE X B E (.Constant (.int i) j pos) (aC (.int i)) := ae_const pe_int fun _ _ => .int
theorem ae_bl {i : Bool} {j} : AE X B E (.Constant (.bool i) j pos) (aC (.bl i)) := ae_const pe_bl fun _ _ => .bl
theorem ae_str {x : Str} {j} : AE X B E (.Constant (.str x) j pos) (aC (.str x)) := ae_const pe_str fun _ _ => .str
@[reducible] def aOp (w : O2) (Wa Wb : WE) : WE := fun ρ h Q E => Wa ρ h (fun x h1 => Wb ρ h1 (fun y h2 => w x y h2 Q) E) E
@[reducible] def aUn (w : O1) (Wa : WE) : WE := fun ρ h Q E => Wa ρ h (fun x h1 => w x h1 Q) E
theorem aOp_low {K : PySem.W.Frag} {w : O2} {σ : St} {H : Hp} {Q : VK} (q : tA K B E (aOp w Wa Wb) σ H Q) : tOp (rA K B.G w) (tA K B E Wa) (tA K B E Wb) σ H Q := by
  obtain ⟨φ, ρ, h, QA, r, w, k⟩ := q
  refine tA.mk r w fun x H1 φ1 u1 h1 e1 r1 ru1 w1 => tA.mk r1 w1 fun y H2 φ2 u2 h2 e2 r2 ru2 w2 => ?_
  exact ⟨φ2, u1, u2, h2, QA, r2.hp, ru1.mono e2, ru2, w2, fun v H' ⟨φ', u, h', e, q⟩ => k v H' ⟨φ', u, h', (e1.trans e2).trans e, q⟩⟩
theorem ae_op {op : Operator} {w : O2} (ho : AOp X B.G (binaryOp op) w) (ha : AE X B E a Wa) (hb : AE X B E b Wb) : AE X B E (.BinOp a op b pos) (aOp w Wa Wb) := ⟨(pe_op ho.op ha.pe hb.pe).weak fun _ _ _ => aOp_low⟩
theorem ae_un {op : UnaryOp} {w : O1} (ho : AUn X B.G (unaryOp op) w) (ha : AE X B E a Wa) : AE X B E (.UnaryOp op a pos) (aUn w Wa) := ⟨(pe_un ho.op ha.pe).weak fun σ H Q q => by
  obtain ⟨φ, ρ, h, QA, r, w, k⟩ := q
  refine tA.mk r w fun x H1 φ1 u1 h1 e1 r1 ru1 w1 => ?_
  exact ⟨φ1, u1, h1, QA, r1.hp, ru1, w1, fun v H' ⟨φ', u, h', e, q⟩ => k v H' ⟨φ', u, h', e1.trans e, q⟩⟩⟩
theorem ae_cmp {op : CmpOp} {w : O2} (ho : AOp X B.G (compareOp op) w) (ha : AE X B E a Wa) (hb : AE X B E b Wb) (hm : behindInMarks op b = false := by first | exact nomark _ | with_unfolding_all rfl) : AE X B E (.Compare a [op] [b] pos) (aOp w Wa Wb) := ⟨(pe_cmpR ho.op ha.pe hb.pe hm).weak fun _ _ _ => aOp_low⟩
end
end L2

namespace L2
open PySem PySem.Spec PyProof.Rows
/-- two ways -/
@[reducible] def Br (b : Bool) (A C : Prop) : Prop := match b with
  | true => A
  | false => C
section
variable {b : Bool} {A C : Prop} {p : Prop} [Decidable p]
theorem Br.t (h : A) : Br true A C := h
theorem Br.f (h : C) : Br false A C := h
theorem Br.dec (h : p → A) (h' : ¬ p → C) : Br (decide p) A C := by
  by_cases hp : p
  · rw [decide_eq_true hp]; exact h hp
  · rw [decide_eq_false hp]; exact h' hp
theorem Br.ndec (h : p → C) (h' : ¬ p → A) : Br (!decide p) A C := by
  by_cases hp : p
  · rw [decide_eq_true hp]; exact h hp
  · rw [decide_eq_false hp]; exact h' hp
theorem Br.pos (hp : p) (h : A) : Br (decide p) A C := by rw [decide_eq_true hp]; exact h
theorem Br.neg (hp : ¬ p) (h : C) : Br (decide p) A C := by rw [decide_eq_false hp]; exact h
theorem Br.mdec (h : p → C) (h' : ¬ p → A) : Br (nB (decide p)) A C := by rw [nB_not]; exact Br.ndec h h'
theorem Br.any (h : b = true → A) (h' : b = false → C) : Br b A C := by
  cases b with
  | true => exact h rfl
  | false => exact h' rfl
theorem Br.is {c : Bool} (e : b = c) (h : Br c A C) : Br b A C := by rw [e]; exact h
end
/-- a value that is a truth -/
@[reducible] def asB (u : U) (k : Bool → Prop) : Prop := match u with
  | .bl b => k b
  | _ => False
@[reducible] def asI (u : U) (k : Int → Prop) : Prop := match u with
  | .int b => k b
  | _ => False
@[reducible] def asN (u : U) (k : Prop) : Prop := match u with
  | .non => k
  | _ => False
theorem asB.of {K : PySem.W.Frag} {H : Hp} {φ : List Addr} {u : U} {v : V} {k : Bool → Prop} (h : asB u k) (r : RU K H φ u v) : ∃ b, v = .bl b ∧ k b := by
  cases u <;> first | exact h.elim | skip
  cases r
  exact ⟨_, rfl, h⟩
theorem asI.of {K : PySem.W.Frag} {H : Hp} {φ : List Addr} {u : U} {v : V} {k : Int → Prop} (h : asI u k) (r : RU K H φ u v) : ∃ b, v = .int b ∧ k b := by
  cases u <;> first | exact h.elim | skip
  cases r
  exact ⟨_, rfl, h⟩
section
variable {X : Cx} {B : Bs} {E : EX} {a b c e : Expr} {es rest : List Expr} {Wa Wb Wc We : WE} {Ta Tb Tc : WT} {pos p2 : Pos}
/-! ### tests -/
@[reducible] def aB (W : WE) : WT := fun ρ h Q E => W ρ h (fun u h1 => asB u fun b => Q b h1) E
theorem aB_low {K : PySem.W.Frag} {W : WE} {t : TE} {σ : St} {H : Hp} {Q : Bool → Hp → Prop} (hw : ∀ σ H Q, tA K B E W σ H Q → t σ H Q) (q : tAT K B E (aB W) σ H Q) : t σ H (fun x H1 => ∃ c, x = .bl c ∧ Q c H1) := by
  obtain ⟨φ, ρ, h, QA, r, w, k⟩ := q
  refine hw _ _ _ (tA.mk r w fun v H1 φ1 u h1 e1 r1 ru w1 => ?_)
  obtain ⟨b, rfl, w2⟩ := asB.of w1 ru
  exact ⟨b, rfl, k _ _ _ _ e1 r1.hp w2⟩
theorem at_val (ha : AE X B E e We) (he : ∀ whole, isTrue e X.env whole = (do let v ← whole; standAt e.pos; holding [v] (truthy v)) := by intro _; rfl) : AT X B E e (aB We) := ⟨(pt_val ha.pe he).weak fun _ _ _ q => aB_low (fun _ _ _ z => z) q⟩
theorem at_cmp {op : CmpOp} {w : O2} (ho : AOp X B.G (compareOp op) w) (ha : AE X B E a Wa) (hb : AE X B E b Wb) (hm : behindInMarks op b = false := by first | exact nomark _ | with_unfolding_all rfl) : AT X B E (.Compare a [op] [b] pos) (aB (aOp w Wa Wb)) := ⟨(pt_cmpR ho.op ha.pe hb.pe hm).weak fun _ _ _ q => aB_low (fun _ _ _ => aOp_low) q⟩
/-- a op1 b op2 c -/
@[reducible] def aChain (w w' : O2) (Wa Wb Wc : WE) : WE := fun ρ h Q E => Wa ρ h (fun x h1 => Wb ρ h1 (fun y h2 => w x y h2 fun z h3 => asB z fun k => Br k (Wc ρ h3 (fun t h4 => w' y t h4 Q) E) (Q (.bl false) h3)) E) E
theorem aChain_low {K : PySem.W.Frag} {w w' : O2} {σ : St} {H : Hp} {Q : VK} (q : tA K B E (aChain w w' Wa Wb Wc) σ H Q) : tChain (rA K B.G w) (rA K B.G w') (tA K B E Wa) (tA K B E Wb) (tA K B E Wc) σ H Q := by
  obtain ⟨φ, ρ, h, QA, r, w, k⟩ := q
  refine tA.mk r w fun x H1 φ1 u1 h1 e1 r1 ru1 w1 => tA.mk r1 w1 fun y H2 φ2 u2 h2 e2 r2 ru2 w2 => ?_
  refine ⟨φ2, u1, u2, h2, _, r2.hp, ru1.mono e2, ru2, w2, fun v H3 ⟨φ3, u, h3, e3, rh3, ru3, w3⟩ => ?_⟩
  obtain ⟨c, rfl, w4⟩ := asB.of w3 ru3
  refine ⟨c, rfl, ?_⟩
  have r3 := r2.step e3 rh3
  cases c with
  | false => exact k _ _ ⟨φ3, _, h3, (e1.trans e2).trans e3, rh3, .bl, w4⟩
  | true =>
    refine tA.mk r3 w4 fun t H4 φ4 u4 h4 e4 r4 ru4 w5 => ?_
    exact ⟨φ4, u2, u4, h4, QA, r4.hp, ru2.mono (e3.trans e4), ru4, w5, fun v H' ⟨φ', u, h', e, q⟩ => k v H' ⟨φ', u, h', (((e1.trans e2).trans e3).trans e4).trans e, q⟩⟩
theorem at_chain {op op' : CmpOp} {w w' : O2} (ho : AOp X B.G (compareOp op) w) (ho' : AOp X B.G (compareOp op') w') (ha : AE X B E a Wa) (hb : AE X B E b Wb) (hc : AE X B E c Wc) (hm : lastMarks [op, op'] [b, c] = false := by with_unfolding_all rfl) :
    AT X B E (.Compare a [op, op'] [b, c] pos) (aB (aChain w w' Wa Wb Wc)) := ⟨(pt_chain ho.op ho'.op ha.pe hb.pe hc.pe hm).weak fun _ _ _ q => aB_low (fun _ _ _ => aChain_low) q⟩
@[reducible] def aNotT (T : WT) : WT := fun ρ h Q E => T ρ h (fun c h1 => Q (nB c) h1) E
@[reducible] def aAndT (T U : WT) : WT := fun ρ h Q E => T ρ h (fun c h1 => Br c (U ρ h1 Q E) (Q false h1)) E
@[reducible] def aOrT (T U : WT) : WT := fun ρ h Q E => T ρ h (fun c h1 => Br c (Q true h1) (U ρ h1 Q E)) E
theorem at_not (ha : AT X B E a Ta) : AT X B E (.UnaryOp .Not a pos) (aNotT Ta) := ⟨(pt_not ha.pt).weak fun σ H Q q => by
  obtain ⟨φ, ρ, h, QA, r, w, k⟩ := q
  exact tAT.mk r w fun b H1 φ1 h1 e1 r1 w1 => by rw [← nB_not]; exact k _ _ _ _ e1 r1.hp w1⟩
theorem aw_and1 (ha : AT X B E a Ta) : AW X B E (.BoolOp .And [a] pos) Ta := ⟨pw_and1 ha.pt⟩
theorem aw_or1 (ha : AT X B E a Ta) : AW X B E (.BoolOp .Or [a] pos) Ta := ⟨pw_or1 ha.pt⟩
theorem aw_and (ha : AT X B E a Ta) (hb : AW X B E (.BoolOp .And (b :: rest) pos) Tb) : AW X B E (.BoolOp .And (a :: b :: rest) pos) (aAndT Ta Tb) := ⟨(pw_and ha.pt hb.pw).weak fun σ H Q q => by
  obtain ⟨φ, ρ, h, QA, r, w, k⟩ := q
  refine tAT.mk r w fun c H1 φ1 h1 e1 r1 w1 => ?_
  cases c with
  | false => exact k _ _ _ _ e1 r1.hp w1
  | true => exact tAT.mk r1 w1 fun c H2 φ2 h2 e2 r2 w2 => k _ _ _ _ (e1.trans e2) r2.hp w2⟩
theorem aw_or (ha : AT X B E a Ta) (hb : AW X B E (.BoolOp .Or (b :: rest) pos) Tb) : AW X B E (.BoolOp .Or (a :: b :: rest) pos) (aOrT Ta Tb) := ⟨(pw_or ha.pt hb.pw).weak fun σ H Q q => by
  obtain ⟨φ, ρ, h, QA, r, w, k⟩ := q
  refine tAT.mk r w fun c H1 φ1 h1 e1 r1 w1 => ?_
  cases c with
  | true => exact k _ _ _ _ e1 r1.hp w1
  | false => exact tAT.mk r1 w1 fun c H2 φ2 h2 e2 r2 w2 => k _ _ _ _ (e1.trans e2) r2.hp w2⟩
theorem AW.at (h : AW X B E a Ta) : AT X B E a Ta := ⟨h.pw.pt⟩
/-! ### and, or, not, if as values -/
@[reducible] def aAnd (Wa Wb : WE) : WE := fun ρ h Q E => Wa ρ h (fun x h1 => asB x fun c => Br c (Wb ρ h1 Q E) (Q (.bl false) h1)) E
@[reducible] def aNot (Wa : WE) : WE := fun ρ h Q E => Wa ρ h (fun x h1 => asB x fun c => Q (.bl (nB c)) h1) E
@[reducible] def aIfE (T : WT) (Wa Wb : WE) : WE := fun ρ h Q E => T ρ h (fun c h1 => Br c (Wa ρ h1 Q E) (Wb ρ h1 Q E)) E
theorem ae_one {op} (ha : AE X B E a Wa) : AE X B E (.BoolOp op [a] pos) Wa := ⟨pe_one ha.pe⟩
theorem ae_and (ha : AE X B E a Wa) (hb : AE X B E (.BoolOp .And (b :: rest) pos) Wb) : AE X B E (.BoolOp .And (a :: b :: rest) pos) (aAnd Wa Wb) := ⟨(pe_and ha.pe hb.pe).weak fun σ H Q q => by
  obtain ⟨φ, ρ, h, QA, r, w, k⟩ := q
  refine tA.mk r w fun v H1 φ1 u h1 e1 r1 ru w1 => ?_
  obtain ⟨c, rfl, w2⟩ := asB.of w1 ru
  refine ⟨c, rfl, ?_⟩
  cases c with
  | false => exact k _ _ ⟨φ1, _, h1, e1, r1.hp, .bl, w2⟩
  | true => exact tA.mk r1 w2 fun v H2 φ2 u h2 e2 r2 ru w3 => k _ _ ⟨φ2, _, h2, e1.trans e2, r2.hp, ru, w3⟩⟩
theorem ae_not (ha : AE X B E a Wa) : AE X B E (.UnaryOp .Not a pos) (aNot Wa) := ⟨(pe_not ha.pe).weak fun σ H Q q => by
  obtain ⟨φ, ρ, h, QA, r, w, k⟩ := q
  refine tA.mk r w fun v H1 φ1 u h1 e1 r1 ru w1 => ?_
  obtain ⟨c, rfl, w2⟩ := asB.of w1 ru
  exact ⟨c, rfl, by rw [← nB_not]; exact k _ _ ⟨φ1, _, h1, e1, r1.hp, .bl, w2⟩⟩⟩
theorem ae_if (hc : AT X B E c Tc) (ha : AE X B E a Wa) (hb : AE X B E b Wb) : AE X B E (.IfExp c a b pos) (aIfE Tc Wa Wb) := ⟨(pe_ifExp hc.pt ha.pe hb.pe).weak fun σ H Q q => by
  obtain ⟨φ, ρ, h, QA, r, w, k⟩ := q
  refine tAT.mk r w fun c H1 φ1 h1 e1 r1 w1 => ?_
  cases c with
  | true => exact tA.mk r1 w1 fun v H2 φ2 u h2 e2 r2 ru w3 => k _ _ ⟨φ2, _, h2, e1.trans e2, r2.hp, ru, w3⟩
  | false => exact tA.mk r1 w1 fun v H2 φ2 u h2 e2 r2 ru w3 => k _ _ ⟨φ2, _, h2, e1.trans e2, r2.hp, ru, w3⟩⟩
/-! ### argument lists, displays -/
@[reducible] def aNil : WA := fun _ h Q _ => Q [] h
@[reducible] def aCons (W : WE) (R : WA) : WA := fun ρ h Q E => W ρ h (fun u h1 => R ρ h1 (fun us h2 => Q (u :: us) h2) E) E
@[reducible] def aStar (W : WE) (R : WA) : WA := fun ρ h Q E => W ρ h (fun u h1 => match u with
  | .obj n => Opt (lstAt h1 n) fun xs => R ρ h1 (fun us h2 => Q (xs ++ us) h2) E
  | _ => False) E
variable {Wr : WA}
theorem aa_nil : AA X B E [] aNil := ⟨pa_nil.weak fun σ H Q q => by
  obtain ⟨φ, ρ, h, QA, r, w, k⟩ := q
  exact k _ _ _ _ _ .refl r.hp .nil w⟩
theorem aa_cons (ha : AE X B E e We) (hr : AA X B E es Wr) (hs : starEach (e :: es) X.env = (false, eval e X.env) :: starEach es X.env := by rfl) : AA X B E (e :: es) (aCons We Wr) := ⟨(pa_cons ha.pe hr.pa hs).weak fun σ H Q q => by
  obtain ⟨φ, ρ, h, QA, r, w, k⟩ := q
  refine tA.mk r w fun v H1 φ1 u h1 e1 r1 ru w1 => tAA.mk r1 w1 fun vs H2 φ2 us h2 e2 r2 rus w2 => ?_
  exact k _ _ _ _ _ (e1.trans e2) r2.hp (.cons (ru.mono e2) rus) w2⟩
theorem aa_star {sp : Pos} (ha : AE X B E e We) (hr : AA X B E es Wr) : AA X B E (.Starred e sp :: es) (aStar We Wr) := ⟨(pa_star ha.pe hr.pa).weak fun σ H Q q => by
  obtain ⟨φ, ρ, h, QA, r, w, k⟩ := q
  refine tA.mk r w fun v H1 φ1 u h1 e1 r1 ru w1 => ?_
  cases u <;> first | exact w1.elim | skip
  obtain ⟨xs, ex, w1⟩ := Opt.of w1
  obtain ⟨a, vs, rfl, _, hs, r'⟩ := r1.hp.rol (lstAt_of ex) ru
  refine ⟨a, vs, rfl, hs, tAA.mk r1 w1 fun vs H2 φ2 us h2 e2 r2 rus w2 => ?_⟩
  exact k _ _ _ _ _ (e1.trans e2) r2.hp ((r'.mono e2).app rus) w2⟩
@[reducible] def aTup (R : WA) : WE := fun ρ h Q E => R ρ h (fun us h1 => us.length ≤ sizeLine ∧ Q (.tup us) h1) E
@[reducible] def aLst (R : WA) : WE := fun ρ h Q E => R ρ h (fun us h1 => us.length ≤ sizeLine ∧ Q (.obj h1.length) (h1 ++ [.lst us])) E
theorem ae_tup {x1} (hr : AA X B E es Wr) : AE X B E (.Tuple es x1 pos) (aTup Wr) := ⟨(pe_tup hr.pa).weak fun σ H Q q => by
  obtain ⟨φ, ρ, h, QA, r, w, k⟩ := q
  refine tAA.mk r w fun vs H1 φ1 us h1 e1 r1 rus w1 => ⟨by rw [← rus.len]; exact w1.1, fun p hp => ?_⟩
  obtain ⟨φ', u, h', e, q⟩ := AQ.tup (QA := QA) r1.hp hp rus w1.2
  exact k _ _ ⟨φ', u, h', e1.trans e, q⟩⟩
theorem ae_lst (hr : AA X B E es Wr) : AE X B E (.List es pos) (aLst Wr) := ⟨(pe_lst hr.pa).weak fun σ H Q q => by
  obtain ⟨φ, ρ, h, QA, r, w, k⟩ := q
  refine tAA.mk r w fun vs H1 φ1 us h1 e1 r1 rus w1 => ⟨by rw [← rus.len]; exact w1.1, fun p hp => ?_⟩
  obtain ⟨φ', u, h', e, q⟩ := AQ.lst (QA := QA) r1.hp hp rus w1.2
  exact k _ _ ⟨φ', u, h', e1.trans e, q⟩⟩
/-! ### subscripts -/
def uIx : O2 := fun a b h Q => match a, b with
  | .tup xs, .int i => Opt (atI xs i) fun u => Q u h
  | .obj n, .int i => Opt (lstAt h n) fun xs => Opt (atI xs i) fun u => Q u h
  | .str z, .int i => z.length ≤ sizeLine ∧ Opt (atI z.cps.toList i) fun c => Q (.str ⟨#[c]⟩) h
  | _, _ => False
theorem atI_rel {K : PySem.W.Frag} {H : Hp} {φ : List Addr} {us : List U} {vs : List V} {i : Int} {u : U} (r : RUs K H φ us vs) (e : atI us i = some u) : ∃ v, atI vs i = some v ∧ RU K H φ u v := by
  unfold atI at e ⊢
  rw [← r.len]
  cases e1 : ixN us.length i with
  | none => rw [e1] at e; cases e
  | some j => rw [e1] at e; exact r.at e
theorem ix_uIx : IxR X (rA X.K B.G uIx) := by
  rintro value slice pins s σ H x y v u Q I rx ry ⟨φ, a, b, h, QA, rh, ra, rb, w, k⟩ hs
  refine ix_seq value slice pins s σ H x y v u Q I rx ry ?_ hs
  cases a <;> cases b <;> first | exact w.elim | skip
  · obtain ⟨w1, w⟩ := w
    obtain ⟨c, e, w⟩ := Opt.of w
    cases ra; cases rb
    exact .inr (.inr ⟨_, _, _, rfl, rfl, w1, e, k _ _ (.here rh .str w)⟩)
  · obtain ⟨c, e, w⟩ := Opt.of w
    cases rb
    cases ra with
    | tup t r =>
      obtain ⟨v, ev, rv⟩ := atI_rel r e
      exact .inr (.inl ⟨_, _, _, _, rfl, rfl, t, ev, k _ _ (.here rh rv w)⟩)
  · obtain ⟨xs, e1, w⟩ := Opt.of w
    obtain ⟨c, e, w⟩ := Opt.of w
    cases rb
    obtain ⟨p, vs, rfl, _, hs, r⟩ := rh.rol (lstAt_of e1) ra
    obtain ⟨v, ev, rv⟩ := atI_rel r e
    exact .inl ⟨_, _, _, _, rfl, rfl, hs, ev, k _ _ (.here rh rv w)⟩
theorem ae_ix (ha : AE X B E a Wa) (hb : AE X B E b Wb) (hs : PlainIx b := by exact fun _ _ => rfl) : AE X B E (.Subscript a b pos) (aOp uIx Wa Wb) := ⟨(pe_ix ix_uIx ha.pe hb.pe hs).weak fun _ _ _ => aOp_low⟩
/-- the items of xs[lo:hi] -/
def cutU (xs : List U) (lo hi : Option Int) : List U := (xs.drop (HT.sIx xs.length 0 lo)).take (HT.sIx xs.length xs.length hi - HT.sIx xs.length 0 lo)
def uSl (lo hi : Option Int) : O1 := fun a h Q => match a with
  | .tup xs => (HT.sIx xs.length 0 lo = 0 ∧ HT.sIx xs.length xs.length hi = xs.length → False) ∧ Q (.tup (cutU xs lo hi)) h
  | .obj n => Opt (lstAt h n) fun xs => Q (.obj h.length) (h ++ [.lst (cutU xs lo hi)])
  | .str z => z.length ≤ sizeLine ∧ Q (.str (cutS z lo hi)) h
  | _ => False
abbrev WO := SU → AH → (Option Int → AH → Prop) → XQ → Prop
def tAO (K : PySem.W.Frag) (B : Bs) (E : EX) (W : WO) : TO := fun σ H Q => ∃ φ ρ h QA, R K B φ ρ h σ H ∧ W ρ h QA (E ρ) ∧ ∀ o H' φ' h', Ext K φ H φ' H' → RH K B.G φ' h' H' → QA o h' → Q o H'
structure AP0 (X : Cx) (B : Bs) (E : EX) (e : Option Expr) (W : WO) : Prop where
  po : PO X e (tAO X.K B E W)
@[reducible] def oSome (W : WE) : WO := fun ρ h Q E => W ρ h (fun u h1 => asI u fun i => Q (some i) h1) E
theorem PO.weak {e : Option Expr} {t t' : TO} (h : PO X e t) (w : ∀ σ H Q, t' σ H Q → t σ H Q) : PO X e t' := fun pins s σ H Q I q => h pins s σ H Q I (w _ _ _ q)
@[reducible] def aSl (W : WE) (Lo Hi : WO) : WE := fun ρ h Q E => W ρ h (fun u h1 => Lo ρ h1 (fun lo h2 => Hi ρ h2 (fun hi h3 => uSl lo hi u h3 Q) E) E) E
end
end L2

namespace L2
open PySem PySem.Spec PyProof.Rows
/-! ### targets that are names -/
abbrev GU := AH → U → SU → Option SU
def tAG (K : PySem.W.Frag) (G : Str → Addr) (vs : List Nat) (g : GU) : TG := fun v σ H Q => ∃ φ u ρ ρ' h, RH K G φ h H ∧ RU K H φ u v ∧ RO K H φ ρ σ ∧ g h u ρ = some ρ' ∧ ∀ σ', RO K H φ ρ' σ' → (∀ ws : List Nat, (∀ i ∈ vs, i ∈ ws) → wipe σ' ws = wipe σ ws) → Q σ' H
structure AG (X : Cx) (G : Str → Addr) (tg : Expr) (vs : List Nat) (g : GU) : Prop where
  pg : PG X tg (tAG X.K G vs g)
abbrev GUs := AH → List U → SU → Option SU
def tAGs (K : PySem.W.Frag) (G : Str → Addr) (vs : List Nat) (g : GUs) : TGs := fun v σ H Q => ∃ φ u ρ ρ' h, RH K G φ h H ∧ RUs K H φ u v ∧ RO K H φ ρ σ ∧ g h u ρ = some ρ' ∧ ∀ σ', RO K H φ ρ' σ' → (∀ ws : List Nat, (∀ i ∈ vs, i ∈ ws) → wipe σ' ws = wipe σ ws) → Q σ' H
structure AGs (X : Cx) (G : Str → Addr) (tg : List Expr) (vs : List Nat) (g : GUs) : Prop where
  pg : PGs X tg (tAGs X.K G vs g)
theorem wipe_set (σ : St) (i : Nat) (o : Option V) : ∀ (ws : List Nat), i ∈ ws → wipe (σ.set i o) ws = wipe σ ws
  | w :: ws, hi => by
    unfold wipe
    by_cases h : i ∈ ws
    · rw [wipe_set σ i o ws h]
    · have e : i = w := by rcases List.mem_cons.mp hi with z | z; exact z; exact absurd z h
      subst e
      have : ∀ ws : List Nat, (wipe (σ.set i o) ws).set i none = (wipe σ ws).set i none := by
        intro ws
        induction ws with
        | nil => unfold wipe; rw [List.set_set]
        | cons v vs ih =>
          unfold wipe
          by_cases hv : v = i
          · subst hv; rw [List.set_set, List.set_set]; exact ih
          · rw [List.set_comm _ _ hv, List.set_comm _ _ hv, ih]
      exact this ws
theorem wipe_wipe (σ : St) (ws : List Nat) : wipe (wipe σ ws) ws = wipe σ ws := by
  have : ∀ vs : List Nat, (∀ i ∈ vs, i ∈ ws) → wipe (wipe σ vs) ws = wipe σ ws := by
    intro vs
    induction vs with
    | nil => intro _; rfl
    | cons v vs ih => intro h; rw [show wipe σ (v :: vs) = (wipe σ vs).set v none from rfl, wipe_set _ _ _ _ (h v (by simp)), ih fun i hi => h i (by simp [hi])]
  exact this ws fun _ h => h
theorem PG.weak {X : Cx} {e : Expr} {t t' : TG} (h : PG X e t) (w : ∀ v σ H Q, t' v σ H Q → t v σ H Q) : PG X e t' := fun pins s σ H v u Q I r q => h pins s σ H v u Q I r (w _ _ _ _ q)
theorem PGs.weak {X : Cx} {e : List Expr} {t t' : TGs} (h : PGs X e t) (w : ∀ v σ H Q, t' v σ H Q → t v σ H Q) : PGs X e t' := fun pins s σ H v u Q I r q => h pins s σ H v u Q I r (w _ _ _ _ q)
section
variable {X : Cx} {G : Str → Addr} {pos : Pos} {vs vs' : List Nat}
def gN (i : Nat) : GU := fun _ u ρ => some (ρ.set i (some u))
def gsNil : GUs := fun _ us ρ => match us with
  | [] => some ρ
  | _ => none
def gsCons (g : GU) (gs : GUs) : GUs := fun h us ρ => match us with
  | u :: us => (g h u ρ).bind fun ρ' => gs h us ρ'
  | [] => none
def gT (n : Nat) (gs : GUs) : GU := fun h u ρ => match itemsOf h u with
  | some us => if us.length = n then gs h us ρ else none
  | none => none
theorem ag_name {i : Nat} {x : Str} (hN : X.N.Nodup) (hi : X.N[i]? = some x) (hx : Loc X.env.scope x) (hf : X.fn x = true ∨ X.env.scope.names.lookup x = some .local := by first | exact .inl rfl | exact .inr rfl | assumption) : AG X G (.Name x pos) [i] (gN i) := ⟨(pg_name (pos := pos) hN hi hx hf).weak fun v σ H Q q => by
  obtain ⟨φ, u, ρ, ρ', h, rh, ru, ro, e, k⟩ := q
  cases e
  exact k _ (ro.set ru i) fun ws hw => wipe_set _ _ _ _ (hw i (by simp))⟩
theorem ags_nil : AGs X G [] [] gsNil := ⟨pgs_nil.weak fun v σ H Q q => by
  obtain ⟨φ, us, ρ, ρ', h, rh, ru, ro, e, k⟩ := q
  cases ru with
  | nil => cases e; exact ⟨rfl, k _ ro fun _ _ => rfl⟩
  | cons _ _ => cases e⟩
theorem ags_cons {e : Expr} {es : List Expr} {g : GU} {gs : GUs} (h1 : AG X G e vs g) (h2 : AGs X G es vs' gs) (hs : (assignEach (e :: es) X.env).map (·.2) = assign e X.env :: (assignEach es X.env).map (·.2) := by rfl) : AGs X G (e :: es) (vs ++ vs') (gsCons g gs) := ⟨(pgs_cons h1.pg h2.pg hs).weak fun v σ H Q q => by
  obtain ⟨φ, us, ρ, ρ', h, rh, ru, ro, e, k⟩ := q
  cases ru with
  | nil => cases e
  | @cons u v us vs ru rus =>
    cases e1 : g h u ρ with
    | none => unfold gsCons at e; dsimp only at e; rw [e1] at e; cases e
    | some ρ1 =>
      unfold gsCons at e; dsimp only at e; rw [e1] at e
      refine ⟨v, vs, rfl, φ, u, ρ, ρ1, h, rh, ru, ro, e1, fun σ1 ro1 w1 => ⟨φ, us, ρ1, ρ', h, rh, rus, ro1, e, fun σ2 ro2 w2 => k _ ro2 fun ws hw => ?_⟩⟩
      rw [w2 ws fun i hi => hw i (by simp [hi]), w1 ws fun i hi => hw i (by simp [hi])]⟩
theorem ag_tup {es : List Expr} {kk n : Nat} {gs : GUs} (hc : X.calm = true) (h : AGs X G es vs gs) (hn : (assignEach es X.env).length = n := by rfl) (hst : (assignEach es X.env).findIdx? (·.1) = none := by rfl) : AG X G (.Tuple es kk pos) vs (gT n gs) := ⟨fun pins s σ H v u Q I r q => by
  obtain ⟨φ, a, ρ, ρ', hh, rh, ru, ro, e, k⟩ := q
  unfold gT at e
  cases e0 : itemsOf hh a with
  | none => rw [e0] at e; cases e
  | some us =>
    rw [e0] at e
    dsimp only at e
    split at e
    · rename_i hl
      cases a <;> first | cases e0 | skip
      · cases ru with
        | tup t rus => exact pg_tup hc h.pg hn hst pins s σ H _ u Q I r ⟨_, _, rfl, t, by rw [← rus.len]; exact hl, φ, us, ρ, ρ', hh, rh, rus, ro, e, k⟩
      · obtain ⟨p, ws, rfl, _, hs, rus⟩ := rh.rol (lstAt_of e0) ru
        exact pg_lst hc h.pg hn hst pins s σ H _ u Q I r ⟨_, _, rfl, hs, by rw [← rus.len]; exact hl, φ, us, ρ, ρ', hh, rh, rus, ro, e, k⟩
    · cases e⟩
end
/-! ### what is walked -/
structure RIt (K : PySem.W.Frag) (G : Str → Addr) (φ : List Addr) (H : Hp) (J : It) (xs : List U) (live : AH → Prop) : Prop where
  go : ∀ i φ' h' H', Ext K φ H φ' H' → RH K G φ' h' H' → live h' → i < xs.length → J.go i H'
  stop : ∀ φ' h' H', Ext K φ H φ' H' → RH K G φ' h' H' → live h' → J.stop xs.length H'
  yld : ∀ i φ' h' H' v H2, Ext K φ H φ' H' → RH K G φ' h' H' → live h' → i < xs.length → J.yld i H' v H2 → Ext K φ' H' φ' H2 ∧ RH K G φ' h' H2 ∧ ∃ u, xs[i]? = some u ∧ RU K H2 φ' u v
abbrev WI := SU → AH → (List U → (AH → Prop) → AH → Prop) → XQ → Prop
def tAI (K : PySem.W.Frag) (B : Bs) (E : EX) (W : WI) : TI := fun σ H Rk => ∃ φ ρ h QA, R K B φ ρ h σ H ∧ W ρ h QA (E ρ) ∧ ∀ J H' φ' h' xs live, Ext K φ H φ' H' → RH K B.G φ' h' H' → RIt K B.G φ' H' J xs live → QA xs live h' → Rk J H'
structure AI (X : Cx) (B : Bs) (E : EX) (tg iter : Expr) (W : WI) : Prop where
  pi : PI X tg iter (tAI X.K B E W)
theorem PI.weak {X : Cx} {tg e : Expr} {t t' : TI} (h : PI X tg e t) (w : ∀ σ H Q, t' σ H Q → t σ H Q) : PI X tg e t' := fun pins s σ H Q I q => h pins s σ H Q I (w _ _ _ q)
def iSeq (K : PySem.W.Frag) (tl : TE) : TI := fun σ H R => tl σ H fun x H1 => (∃ a, x = .ref a ∧ (∃ xs, SqL K H1 a xs) ∧ R (Itl K a) H1) ∨ (∃ a, x = .ref a ∧ (∃ xs, SqT K H1 a xs) ∧ R (Itt K a) H1) ∨ ∃ z, x = .str z ∧ R (Its z) H1
theorem pi_seq {X : Cx} {tg l : Expr} {tl : TE} (hl : PE X l tl) : PI X tg l (iSeq X.K tl) := by
  intro pins s σ H R I h
  refine thn (hl pins s σ H _ I h) fun v s1 ⟨x, H1, I1, r1, q1⟩ => ?_
  rcases q1 with ⟨a, e, ⟨xs, hq⟩, q⟩ | ⟨a, e, ⟨xs, hq⟩, q⟩ | ⟨z, e, q⟩
  · subst e
    cases r1
    obtain ⟨its, rv, p, hz⟩ := I1.list hq
    refine wpAny_pyIter_list p.isList ?_
    refine ⟨s1.heap.objs.size, [s1.heap.objs.size], _, _, H1, rfl, I1.kept (t' := s1.toks) fun b o e => Heap.get?_push_of_some _ e, turn_list a _, ⟨_, Heap.get?_push_size _ rfl, rfl, rfl⟩, fun b hb => ?_, q⟩
    have e : b = s1.heap.objs.size := by simpa using hb
    subst e
    exact I1.fpOk (Nat.le_refl _) (I1.hok.fresh (Nat.le_refl _))
  · subst e
    cases r1
    obtain ⟨its, rv, p, hz⟩ := I1.tuple hq
    refine wpAny_pyIter_tuple (show s1.heap.IsTuple a its.toArray from p) ?_
    refine ⟨s1.heap.objs.size, [s1.heap.objs.size], _, _, H1, rfl, I1.kept (t' := s1.toks) fun b o e => Heap.get?_push_of_some _ e, turn_tuple a _, ⟨_, Heap.get?_push_size _ rfl, rfl, rfl⟩, fun b hb => ?_, q⟩
    have e : b = s1.heap.objs.size := by simpa using hb
    subst e
    exact I1.fpOk (Nat.le_refl _) (I1.hok.fresh (Nat.le_refl _))
  · subst e
    obtain ⟨t, rfl⟩ := r1
    cases ha : z.cps.all (· < 128)
    · exact wpAny_pyIter_wide ha (pi_one (tk := s1.toks) I1 _ (turn_str _ z t "str_iterator" (.inr rfl)) ⟨_, Heap.get?_push_size _ rfl, rfl, rfl⟩ q)
    · exact wpAny_pyIter_ascii ha (pi_one (tk := s1.toks) I1 _ (turn_str _ z t "str_ascii_iterator" (.inl rfl)) ⟨_, Heap.get?_push_size _ rfl, rfl, rfl⟩ q)
/-- the items of a list, a tuple, a text, and what must stay while they are walked -/
def uWalk (h : AH) : U → Option (List U × (AH → Prop))
  | .tup xs => some (xs, fun _ => True)
  | .obj n => (lstAt h n).map fun xs => (xs, fun h' => lstAt h' n = some xs)
  | .str z => some (z.cps.toList.map fun c => .str ⟨#[c]⟩, fun _ => True)
  | _ => none
section
variable {K : PySem.W.Frag} {G : Str → Addr} {φ : List Addr} {H : Hp} {h : AH}
theorem rit_list {n : Nat} {a : Addr} {xs : List U} (hn : φ[n]? = some a) : RIt K G φ H (Itl K a) xs (fun h' => lstAt h' n = some xs) := by
  have key : ∀ φ' h' H', Ext K φ H φ' H' → RH K G φ' h' H' → lstAt h' n = some xs → ∃ vs, SqL K H' a vs ∧ RUs K H' φ' xs vs := fun φ' h' H' e r l => by
    obtain ⟨b, vs, eb, hb, hs, rs⟩ := r.rol (lstAt_of l) (.obj (e.num n a hn))
    cases eb
    exact ⟨vs, hs, rs⟩
  refine ⟨fun i φ' h' H' e r l hi => ?_, fun φ' h' H' e r l => ?_, fun i φ' h' H' v H2 e r l hi y => ?_⟩
  · obtain ⟨vs, hs, rs⟩ := key φ' h' H' e r l
    obtain ⟨v, hv, _⟩ := rs.at (List.getElem?_eq_getElem hi)
    exact ⟨vs, v, hs, hv⟩
  · obtain ⟨vs, hs, rs⟩ := key φ' h' H' e r l
    exact ⟨vs, hs, by rw [rs.len]; exact Nat.le_refl _⟩
  · obtain ⟨vs, hs, rs⟩ := key φ' h' H' e r l
    obtain ⟨rfl, y⟩ := y
    obtain ⟨u, hu, ru⟩ := rs.at' (y vs hs)
    exact ⟨.refl, r, u, hu, ru⟩
theorem rit_str {z : Str} : RIt K G φ H (Its z) (z.cps.toList.map fun c => .str ⟨#[c]⟩) (fun _ => True) := by
  refine ⟨fun i φ' h' H' e r l hi => ?_, fun φ' h' H' e r l => ?_, fun i φ' h' H' v H2 e r l hi y => ?_⟩
  · rw [List.length_map] at hi; exact (show i < z.cps.size by simpa using hi)
  · exact (show z.cps.size ≤ _ by rw [List.length_map]; simp)
  · obtain ⟨rfl, c, hc, rfl⟩ := y
    refine ⟨.refl, r, .str ⟨#[c]⟩, ?_, .str⟩
    rw [List.getElem?_map, Array.getElem?_toList, hc]; rfl
theorem rit_rng {lo : Int} {n : Nat} : RIt K G φ H (Itr lo n) ((List.range n).map fun i => .int (lo + (i : Nat))) (fun _ => True) := by
  refine ⟨fun i φ' h' H' e r l hi => ?_, fun φ' h' H' e r l => ?_, fun i φ' h' H' v H2 e r l hi y => ?_⟩
  · rw [List.length_map, List.length_range] at hi; exact hi
  · exact (show n ≤ _ by rw [List.length_map, List.length_range]; exact Nat.le_refl _)
  · obtain ⟨rfl, rfl⟩ := y
    rw [List.length_map, List.length_range] at hi
    exact ⟨.refl, r, .int (lo + (i : Nat)), by rw [List.getElem?_map, List.getElem?_range hi]; rfl, .int⟩
end
section
variable {X : Cx} {B : Bs} {E : EX} {tg a b c e : Expr} {es : List Expr} {Wa Wb We : WE} {Wr : WA} {p pos tpos : Pos}
@[reducible] def aWalk (W : WE) : WI := fun ρ h Q E => W ρ h (fun u h1 => Opt (uWalk h1 u) fun p => Q p.1 p.2 h1) E
theorem ai_seq (he : AE X B E e We) : AI X B E tg e (aWalk We) := ⟨(pi_seq he.pe).weak fun σ H Rk q => by
  obtain ⟨φ, ρ, h, QA, r, w, k⟩ := q
  refine tA.mk r w fun v H1 φ1 u h1 e1 r1 ru w1 => ?_
  obtain ⟨⟨xs, live⟩, eo, w2⟩ := Opt.of w1
  cases u <;> first | cases eo | skip
  · cases ru
    exact .inr (.inr ⟨_, rfl, k _ _ _ _ _ _ e1 r1.hp rit_str w2⟩)
  · cases ru with
    | tup t rs =>
      refine .inr (.inl ⟨_, rfl, ⟨_, t⟩, k _ _ _ _ _ _ e1 r1.hp ?_ w2⟩)
      refine ⟨fun i φ' h' H' e r l hi => ?_, fun φ' h' H' e r l => ?_, fun i φ' h' H' v H2 e r l hi y => ?_⟩
      · obtain ⟨v, hv, _⟩ := rs.at (List.getElem?_eq_getElem hi)
        exact ⟨_, v, e.tup _ _ t, hv⟩
      · exact ⟨_, e.tup _ _ t, by rw [rs.len]; exact Nat.le_refl _⟩
      · obtain ⟨rfl, y⟩ := y
        obtain ⟨u, hu, ru⟩ := rs.at' (y _ (e.tup _ _ t))
        exact ⟨.refl, r, u, hu, ru.mono e⟩
  · rename_i n
    have eo : (lstAt h1 n).map (fun xs => (xs, fun h' => lstAt h' n = some xs)) = some (xs, live) := eo
    cases e2 : lstAt h1 n with
    | none => rw [e2] at eo; cases eo
    | some ys =>
      rw [e2] at eo; cases eo
      obtain ⟨a, vs, rfl, hn, hs, _⟩ := r1.hp.rol (lstAt_of e2) ru
      exact .inl ⟨a, rfl, ⟨vs, hs⟩, k _ _ _ _ _ _ e1 r1.hp (rit_list hn) w2⟩⟩
def rngU (lo hi : Int) : List U := (List.range (hi - lo).toNat).map fun i => .int (lo + (i : Nat))
@[reducible] def aRng1 (W : WE) : WI := fun ρ h Q E => W ρ h (fun u h1 => asI u fun j => -(2 ^ 62) ≤ j ∧ j < 2 ^ 62 ∧ Q (rngU 0 j) (fun _ => True) h1) E
theorem ai_rng1 (hg : Gl X "range") (hm : X.mg "range" = none) (he : AE X B E a We) (hs : starEach [a] X.env = [(false, eval a X.env)] := by rfl) : AI X B E tg (.Call (.Name "range" p) [a] [] pos) (aRng1 We) := ⟨(pi_range1 hg hm (pa_cons he.pe pa_nil hs) hs).weak fun σ H Rk q => by
  obtain ⟨φ, ρ, h, QA, r, w, k⟩ := q
  refine tA.mk r w fun v H1 φ1 u h1 e1 r1 ru w1 => ?_
  obtain ⟨j, rfl, h1, h2, w2⟩ := asI.of w1 ru
  refine ⟨j, rfl, h1, h2, k _ _ _ _ _ _ e1 r1.hp rit_rng ?_⟩
  have : (j - 0).toNat = j.toNat := by omega
  unfold rngU at w2; rw [this] at w2; exact w2⟩
end
end L2

namespace L2
open PySem PySem.Spec PyProof.Rows
section
variable {X : Cx} {B : Bs} {E : EX} {a b c e o i : Expr} {es : List Expr} {Wa Wb Wc We Wo Wi : WE} {Wr : WA} {T : WT} {pos pos' : Pos} {st : Stmt} {rest sa sb : List Stmt} {S S1 S2 : WS}
theorem Ext.of {K : PySem.W.Frag} {φ φ' : List Addr} {H H' : Hp} (h : Ext K φ H φ' H') : Ext K φ H φ' H' := h
/-! ### blocks -/
@[reducible] def sNext : WS := fun nx _ _ _ _ ρ h => nx ρ h
@[reducible] def sSeq (s t : WS) : WS := fun nx rt bk ct E ρ h => s (fun ρ' h' => t nx rt bk ct E ρ' h') rt bk ct E ρ h
theorem ass_nil : ASs X B E [] sNext := ⟨pss_nil.weak fun D σ H q => by
  obtain ⟨φ, ρ, h, DA, r, w, f⟩ := q
  exact f.nx _ _ _ _ _ .refl r w⟩
theorem ass_cons (h1 : AS X B E st S1) (h2 : ASs X B E rest S2) : ASs X B E (st :: rest) (sSeq S1 S2) := ⟨(pss_cons h1.ps h2.pss).weak fun D σ H q => by
  obtain ⟨φ, ρ, h, DA, r, w, f⟩ := q
  exact ⟨φ, ρ, h, ⟨fun ρ' h' => S2 DA.nx DA.rt DA.bk DA.ct E ρ' h', DA.rt, DA.bk, DA.ct⟩, r, w, fun φ' ρ' h' σ' H' e r' q => ⟨φ', ρ', h', DA, r', q, f.step e⟩, f.rt, f.bk, f.ct⟩⟩
theorem ass_one (h1 : AS X B E st S1) : ASs X B E [st] S1 := ⟨pss_one h1.ps⟩
def sNever : WS := fun _ _ _ _ _ _ _ => False
theorem as_never : AS X B E st sNever := ⟨fun _ _ _ _ _ _ ⟨_, _, _, _, _, z, _⟩ => z.elim⟩
@[reducible] def sDrop (W : WE) : WS := fun nx _ _ _ E ρ h => W ρ h (fun _ h1 => nx ρ h1) (E ρ)
theorem as_expr (he : AE X B E e We) (hs : swapsWith e none pos.line X.env = pure false := by rfl) : AS X B E (.Expr e pos) (sDrop We) := ⟨(ps_expr he.pe hs).weak fun D σ H q => by
  obtain ⟨φ, ρ, h, DA, r, w, f⟩ := q
  exact tA.mk r w fun v H1 φ1 u h1 e1 r1 ru w1 => f.nx _ _ _ _ _ e1 r1 w1⟩
@[reducible] def sRet (W : WE) : WS := fun _ rt _ _ E ρ h => W ρ h rt (E ρ)
theorem as_ret (he : AE X B E e We) : AS X B E (.Return (some e) pos) (sRet We) := ⟨(ps_ret he.pe).weak fun D σ H q => by
  obtain ⟨φ, ρ, h, DA, r, w, f⟩ := q
  exact tA.mk r w fun v H1 φ1 u h1 e1 r1 ru w1 => f.rt _ _ _ _ _ e1 r1.hp ru w1⟩
@[reducible] def sIf (T : WT) (s t : WS) : WS := fun nx rt bk ct E ρ h => T ρ h (fun b h1 => Br b (s nx rt bk ct E ρ h1) (t nx rt bk ct E ρ h1)) (E ρ)
theorem as_if (hc : AT X B E c T) (ha : ASs X B E sa S1) (hb : ASs X B E sb S2) : AS X B E (.If c sa sb pos) (sIf T S1 S2) := ⟨(ps_if hc.pt ha.pss hb.pss).weak fun D σ H q => by
  obtain ⟨φ, ρ, h, DA, r, w, f⟩ := q
  refine tAT.mk r w fun b H1 φ1 h1 e1 r1 w1 => ?_
  cases b with
  | true => exact ⟨φ1, ρ, h1, DA, r1, w1, f.step e1⟩
  | false => exact ⟨φ1, ρ, h1, DA, r1, w1, f.step e1⟩⟩
/-! ### stores -/
@[reducible] def sAsg (W : WE) (g : GU) : WS := fun nx _ _ _ E ρ h => W ρ h (fun u h1 => Opt (g h1 u ρ) fun ρ' => nx ρ' h1) (E ρ)
theorem sAsg_low {K : PySem.W.Frag} {vs : List Nat} {g : GU} {D : Ends} {σ : St} {H : Hp} (q : tAS K B E (sAsg We g) D σ H) : tAsg (tA K B E We) (tAG K B.G vs g) D σ H := by
  obtain ⟨φ, ρ, h, DA, r, w, f⟩ := q
  refine tA.mk r w fun v H1 φ1 u h1 e1 r1 ru w1 => ?_
  obtain ⟨ρ', eo, w2⟩ := Opt.of w1
  exact ⟨φ1, u, ρ, ρ', h1, r1.hp, ru, r1.st, eo, fun σ' ro _ => f.nx _ _ _ _ _ e1 ⟨r1.ext, ro, r1.hp⟩ w2⟩
theorem as_asg {tg : Expr} {vs : List Nat} {g : GU} (he : AE X B E e We) (hg : AG X B.G tg vs g) (hs : swapsWithSole [tg] e pos.line X.env = pure false := by rfl) (hw : swappedStores [tg] e X.env = pure none := by rfl)
    (h1 : (assignEach [tg] X.env).map (·.2) = [assign tg X.env] := by rfl) : AS X B E (.Assign [tg] e pos) (sAsg We g) := ⟨(ps_asg he.pe hg.pg hs hw h1).weak fun _ _ _ => sAsg_low⟩
@[reducible] def sSet (i : Nat) (W : WE) : WS := fun nx _ _ _ E ρ h => W ρ h (fun u h1 => nx (ρ.set i (some u)) h1) (E ρ)
theorem as_set {i : Nat} {x : Str} (hN : X.N.Nodup) (hi : X.N[i]? = some x) (hx : Loc X.env.scope x) (he : AE X B E e We) (hs : swapsWith e (some (.Name x pos')) pos.line X.env = pure false := by rfl) (hf : X.fn x = true ∨ X.env.scope.names.lookup x = some .local := by first | exact .inl rfl | exact .inr rfl | assumption) :
    AS X B E (.Assign [.Name x pos'] e pos) (sSet i We) := ⟨(ps_set hN hi hx he.pe hs hf).weak fun D σ H q => by
  obtain ⟨φ, ρ, h, DA, r, w, f⟩ := q
  exact tA.mk r w fun v H1 φ1 u h1 e1 r1 ru w1 => f.nx _ _ _ _ _ e1 ⟨r1.ext, r1.st.set ru i, r1.hp⟩ w1⟩
/-- a, b = e1, e2 -/
@[reducible] def sPar (i j : Nat) (W : WA) : WS := fun nx _ _ _ E ρ h => W ρ h (fun us h1 => match us with
  | [u, v] => nx ((ρ.set i (some u)).set j (some v)) h1
  | _ => False) (E ρ)
theorem as_par {i j : Nat} {x y : Str} {px py pt : Pos} {kt k2 pt2} (hc : X.calm = true) (hN : X.N.Nodup) (hi : X.N[i]? = some x) (hj : X.N[j]? = some y) (hij : i ≠ j)
    (hx : X.env.scope.names.lookup x = some .local) (hy : X.env.scope.names.lookup y = some .local) (ha : AA X B E [a, b] Wr)
    (hw : swappedStores [.Tuple [.Name x px, .Name y py] kt pt] (.Tuple [a, b] k2 pt2) X.env = pure (some [x, y]))
    (hs : swapsWithSole [.Tuple [.Name x px, .Name y py] kt pt] (.Tuple [a, b] k2 pt2) pos.line X.env = pure false := by rfl) :
    AS X B E (.Assign [.Tuple [.Name x px, .Name y py] kt pt] (.Tuple [a, b] k2 pt2) pos) (sPar i j Wr) := ⟨(ps_par hc hN hi hj hij hx hy ha.pa hw hs).weak fun D σ H q => by
  obtain ⟨φ, ρ, h, DA, r, w, f⟩ := q
  refine tAA.mk r w fun vs H1 φ1 us h1 e1 r1 rus w1 => ?_
  cases rus with
  | nil => exact w1.elim
  | cons r2 rs => cases rs with
    | nil => exact w1.elim
    | cons r3 rs => cases rs with
      | cons _ _ => exact w1.elim
      | nil => exact ⟨_, _, rfl, f.nx _ _ _ _ _ e1 ⟨r1.ext, (r1.st.set r2 i).set r3 j, r1.hp⟩ w1⟩⟩
/-- o[i] = v -/
def uSet (o i v : U) (h : AH) (k : AH → Prop) : Prop := match o, i with
  | .obj n, .int z => Opt (ownLst h n) fun xs => Opt (ixN xs.length z) fun j => k (h.set n (.lst (xs.set j v)))
  | _, _ => False
theorem uSet_low {K : PySem.W.Frag} {G : Str → Addr} {φ : List Addr} {o i u : U} {x y v : V} {h : AH} {H : Hp} {k : AH → Prop} {Q : Hp → Prop} (rh : RH K G φ h H) (ro : RU K H φ o x) (ri : RU K H φ i y) (ru : RU K H φ u v) (w : uSet o i u h k) (hk : ∀ H' h', Ext K φ H φ H' → RH K G φ h' H' → k h' → Q H') : rSetL x y v H Q := by
  cases o <;> cases i <;> first | exact w.elim | skip
  obtain ⟨xs, e1, w⟩ := Opt.of w
  obtain ⟨j, e2, w⟩ := Opt.of w
  obtain ⟨p, vs, rfl, hn, hp, rs⟩ := rh.lst (ownLst_of e1) ro
  cases ri
  have ex : Ext K φ H φ (upd H p (.lst (vs.set j v))) := .put hp (fun _ z => by cases z) (fun _ _ z => by cases z)
  refine ⟨p, vs, _, j, rfl, rfl, hp, by rw [← rs.len]; exact e2, hk _ _ ex (rh.put hn hp (fun _ z => by cases z) (fun _ _ z => by cases z) (ao := .lst (xs.set j u)) ⟨_, upd_same, (rs.set j ru).mono ex⟩ (by rw [ownLst_of e1]; exact fun z => z) (fun z => z)) w⟩
@[reducible] def sIx (We Wo Wi : WE) : WS := fun nx _ _ _ E ρ h => We ρ h (fun v h1 => Wo ρ h1 (fun o h2 => Wi ρ h2 (fun i h3 => uSet o i v h3 fun h4 => nx ρ h4) (E ρ)) (E ρ)) (E ρ)
theorem as_ix {tpos : Pos} (he : AE X B E e We) (ho : AE X B E o Wo) (hi : AE X B E i Wi) (hs : swapsWithSole [.Subscript o i tpos] e pos.line X.env = pure false := by rfl) (hw : swappedStores [.Subscript o i tpos] e X.env = pure none := by rfl)
    (h1 : (assignEach [.Subscript o i tpos] X.env).map (·.2) = [assign (.Subscript o i tpos) X.env] := by rfl)
    (ha : ∀ v, assign (.Subscript o i tpos) X.env v = (do
      let ov ← holding [v] (eval o X.env)
      let iv ← holding [v, ov] (eval i X.env)
      standAt tpos
      holding [v, ov, iv] (setItem ov iv v)
      release [v, ov, iv] []) := by intro _; rfl) : AS X B E (.Assign [.Subscript o i tpos] e pos) (sIx We Wo Wi) := ⟨(ps_asg he.pe (pg_sub ho.pe hi.pe set_list ha) hs hw h1).weak fun D σ H q => by
  obtain ⟨φ, ρ, h, DA, r, w, f⟩ := q
  refine tA.mk r w fun v H1 φ1 u h1 e1 r1 ru w1 => tA.mk r1 w1 fun x H2 φ2 o h2 e2 r2 ro w2 => tA.mk r2 w2 fun y H3 φ3 i h3 e3 r3 ri w3 => ?_
  exact uSet_low r3.hp (ro.mono e3) ri (ru.mono (e2.trans e3)) w3 fun H' h' e rh q => f.nx _ _ _ _ _ (((e1.trans e2).trans e3).trans e) (r3.step e rh) q⟩
/-- the instance at a number -/
def insAt (h : AH) (n : Nat) : Option (Str × List (Str × U)) := match h[n]? with
  | some (.ins c fs) => some (c, fs)
  | _ => none
theorem insAt_of {h : AH} {n : Nat} {p : Str × List (Str × U)} (e : insAt h n = some p) : h[n]? = some (.ins p.1 p.2) := by
  unfold insAt at e
  split at e
  · cases e; assumption
  · cases e
theorem RH.ins {K : PySem.W.Frag} {G : Str → Addr} {φ : List Addr} {h : AH} {H : Hp} (r : RH K G φ h H) {n : Nat} {p : Str × List (Str × U)} (e : insAt h n = some p) {v : V} (q : RU K H φ (.obj n) v) : ∃ a dx gs, v = .ref a ∧ φ[n]? = some a ∧ H a = some (.ins (G p.1) dx gs) ∧ RFs K H φ p.2 gs := by
  cases q with
  | obj hn =>
    obtain ⟨dx, gs, h1, h2⟩ := r.ob _ _ _ hn (insAt_of e)
    exact ⟨_, dx, gs, rfl, hn, h1, h2⟩
/-- what is known of own classes: fields that are no names of the class -/
structure FldOk (K : PySem.W.Frag) (G : Str → Addr) (cs : List Str) (f : Str) : Prop where
  cl : ∀ c ∈ cs, Cls K (G c)
  na : ∀ c ∈ cs, NoAttr K (G c) f
def uFld (cs : List Str) (f : Str) : O1 := fun u h Q => match u with
  | .obj n => Opt (insAt h n) fun p => p.1 ∈ cs ∧ Opt (p.2.lookup f) fun v => Q v h
  | _ => False
theorem ae_fld {cs : List Str} {f : Str} (F : FldOk X.K B.G cs f) (he : AE X B E e We) (hb : attributeBase e f X.env (eval e X.env) = eval e X.env := by rfl) : AE X B E (.Attribute e f pos) (aUn (uFld cs f) We) := ⟨(pe_fld he.pe hb).weak fun σ H Q q => by
  obtain ⟨φ, ρ, h, QA, r, w, k⟩ := q
  refine tA.mk r w fun v H1 φ1 u h1 e1 r1 ru w1 => ?_
  cases u <;> first | exact w1.elim | skip
  obtain ⟨p, e2, hc, w2⟩ := Opt.of w1
  obtain ⟨y, e3, w3⟩ := Opt.of w2
  obtain ⟨a, dx, gs, rfl, hn, ha, rf⟩ := r1.hp.ins e2 ru
  obtain ⟨z, hz, rz⟩ := rf.at e3
  exact ⟨a, _, dx, gs, z, rfl, ha, F.cl _ hc, F.na _ hc, hz, k _ _ ⟨φ1, y, h1, e1, r1.hp, rz, w3⟩⟩⟩
def putU (f : Str) (v : U) : List (Str × U) → List (Str × U)
  | [] => [(f, v)]
  | p :: r => if p.1 = f then (f, v) :: r else p :: putU f v r
theorem putU_rel {K : PySem.W.Frag} {H : Hp} {φ : List Addr} {f : Str} {u : U} {v : V} (ru : RU K H φ u v) : ∀ {us : List (Str × U)} {vs : List (Str × V)}, RFs K H φ us vs → RFs K H φ (putU f u us) (putF f v vs)
  | _, _, .nil => .cons ru .nil
  | _, _, @RFs.cons _ _ _ y _ _ _ _ h r => by
    unfold putU putF
    by_cases e : y = f
    · subst e; rw [if_pos rfl, if_pos rfl]; exact .cons ru r
    · rw [if_neg e, if_neg e]; exact .cons h (putU_rel ru r)
@[reducible] def sFldU (cs : List Str) (f : Str) (We Wo : WE) : WS := fun nx _ _ _ E ρ h => We ρ h (fun v h1 => Wo ρ h1 (fun o h2 => match o with
  | .obj n => Opt (insAt h2 n) fun p => p.1 ∈ cs ∧ p.2.length < 1000 ∧ nx ρ (h2.set n (.ins p.1 (putU f v p.2)))
  | _ => False) (E ρ)) (E ρ)
theorem as_fld {cs : List Str} {f : Str} {tpos : Pos} (F : FldOk X.K B.G cs f) (he : AE X B E e We) (ho : AE X B E o Wo) (hs : swapsWith e (some (.Attribute o f tpos)) pos.line X.env = pure false := by rfl) : AS X B E (.Assign [.Attribute o f tpos] e pos) (sFldU cs f We Wo) := ⟨(ps_fld ho.pe he.pe hs).weak fun D σ H q => by
  obtain ⟨φ, ρ, h, DA, r, w, fi⟩ := q
  refine tA.mk r w fun v H1 φ1 u h1 e1 r1 ru w1 => tA.mk r1 w1 fun x H2 φ2 o h2 e2 r2 ro w2 => ?_
  cases o <;> first | exact w2.elim | skip
  obtain ⟨p, e3, hc, hl, w3⟩ := Opt.of w2
  obtain ⟨a, dx, gs, rfl, hn, ha, rf⟩ := r2.hp.ins e3 ro
  have ex : Ext X.K φ2 H2 φ2 (upd H2 a (.ins (B.G p.1) dx (putF f v gs))) := .put ha (fun _ z => by cases z) (fun _ _ z => by cases z)
  refine ⟨a, _, dx, gs, rfl, ha, F.cl _ hc, F.na _ hc, by rw [← rf.len]; exact hl, fi.nx _ _ _ _ _ ((e1.trans e2).trans ex) (r2.step ex (r2.hp.put hn ha (fun _ z => by cases z) (fun _ _ z => by cases z) (ao := .ins p.1 (putU f u p.2)) ⟨dx, _, upd_same, (putU_rel (ru.mono e2) rf).mono ex⟩ (by rw [insAt_of e3]; exact fun z => z) (fun z => z))) w3⟩⟩
/-- x op= e, ints -/
structure AIp (X : Cx) (G : Str → Addr) (op : Operator) (w : O2) : Prop where
  ip : PIp X op (rA X.K G w)
/-! ### loops -/
/-- what a loop over xs asks -/
def ForB (xs : List U) (live : AH → Prop) (g : GU) (Sb : WS) (nx : SK) (rt : UQ) (E : EX) (ρ : SU) (h1 : AH) : Prop := ∃ P : Nat → SU → AH → Prop, P 0 ρ h1 ∧
  (∀ i x ρ' h', xs[i]? = some x → P i ρ' h' → live h' ∧ Opt (g h' x ρ') fun ρ2 => Sb (P (i + 1)) rt nx (P (i + 1)) E ρ2 h') ∧ ∀ ρ' h', P xs.length ρ' h' → live h' ∧ nx ρ' h'
@[reducible] def sFor (It : WI) (g : GU) (Sb : WS) : WS := fun nx rt bk ct E ρ h => It ρ h (fun xs live h1 => ForB xs live g Sb nx rt E ρ h1) (E ρ)
theorem as_for {tg iter : Expr} {It : WI} {vs : List Nat} {g : GU} {Sb : WS} (hp : PassesOwn (model X.prog X.w) X.A X.env X.xe) (hc : X.calm = true) (hi : AI X B E tg iter It) (hg : AG X B.G tg vs g) (hb : ASs X B E rest Sb)
    (hs : ∀ x, foldedSetIterable iter X.env x = pure x := by intro _; rfl) : AS X B E (.For tg iter rest [] pos) (sFor It g Sb) := ⟨(ps_for hp hc hi.pi hg.pg hb.pss hs).weak fun D σ H q => by
  obtain ⟨φ, ρ, h, DA, r, w, f⟩ := q
  refine ⟨φ, ρ, h, _, r, w, fun J H1 φ1 h1 xs live e1 rh1 J1 ⟨P, p0, pt, pd⟩ => ?_⟩
  have r1 := r.step e1 rh1
  refine ⟨fun i m σ' H' => i ≤ xs.length ∧ m = xs.length - i ∧ ∃ φ' ρ' h', Ext X.K φ1 H1 φ' H' ∧ R X.K B φ' ρ' h' σ' H' ∧ P i ρ' h', ⟨_, Nat.zero_le _, rfl, φ1, ρ, h1, .refl, r1, p0⟩, ?_⟩
  rintro i m σ' H' ⟨hi, rfl, φ', ρ', h', e', r', p⟩
  by_cases hl : i < xs.length
  · obtain ⟨lv, _⟩ := pt i _ ρ' h' (List.getElem?_eq_getElem hl) p
    refine .inr ⟨J1.go i φ' h' H' e' r'.hp lv hl, fun σ2 H2 => i + 1 ≤ xs.length ∧ ∃ φ2 ρ2 h2, Ext X.K φ1 H1 φ2 H2 ∧ R X.K B φ2 ρ2 h2 σ2 H2 ∧ P (i + 1) ρ2 h2, fun σ2 H2 ⟨h3, z⟩ => ⟨xs.length - (i + 1), by omega, h3, rfl, z⟩, fun v H2 y => ?_⟩
    obtain ⟨e2, rh2, u, hu, ru⟩ := J1.yld i φ' h' H' v H2 e' r'.hp lv hl y
    obtain ⟨lv, w1⟩ := pt i u ρ' h' hu p
    obtain ⟨ρ2, eg, w2⟩ := Opt.of w1
    have r2 := r'.step e2 rh2
    refine ⟨φ', u, ρ', ρ2, h', rh2, ru, r2.st, eg, fun σ3 ro _ => ⟨φ', ρ2, h', ⟨P (i + 1), DA.rt, DA.nx, P (i + 1)⟩, ⟨r2.ext, ro, rh2⟩, w2, ?_⟩⟩
    have ee := e'.trans e2
    exact ⟨fun φ3 ρ3 h3 σ4 H3 e3 r3 q => ⟨hl, φ3, ρ3, h3, ee.trans e3, r3, q⟩, (f.step (e1.trans ee)).rt, fun φ3 ρ3 h3 σ4 H3 e3 r3 q => f.nx _ _ _ _ _ ((e1.trans ee).trans e3) r3 q, fun φ3 ρ3 h3 σ4 H3 e3 r3 q => ⟨hl, φ3, ρ3, h3, ee.trans e3, r3, q⟩⟩
  · have e : i = xs.length := by omega
    subst e
    obtain ⟨lv, q⟩ := pd ρ' h' p
    exact .inl ⟨J1.stop φ' h' H' e' r'.hp lv, f.nx _ _ _ _ _ (e1.trans e') r' q⟩⟩
def WhB (T : WT) (Sb : WS) (nx : SK) (rt : UQ) (E : EX) (ρ : SU) (h : AH) : Prop := ∃ P : Nat → SU → AH → Prop, (∃ m, P m ρ h) ∧ ∀ m ρ' h', P m ρ' h' → T ρ' h' (fun b h1 => Br b
  (Sb (fun ρ2 h2 => ∃ m', m' < m ∧ P m' ρ2 h2) rt nx (fun ρ2 h2 => ∃ m', m' < m ∧ P m' ρ2 h2) E ρ' h1) (nx ρ' h1)) (E ρ')
@[reducible] def sWhile (T : WT) (Sb : WS) : WS := fun nx rt bk ct E ρ h => WhB T Sb nx rt E ρ h
theorem as_while {Sb : WS} (hp : PassesOwn (model X.prog X.w) X.A X.env X.xe) (hc : AT X B E c T) (hb : ASs X B E rest Sb) : AS X B E (.While c rest [] pos) (sWhile T Sb) := ⟨(ps_while hp hc.pt hb.pss).weak fun D σ H q => by
  obtain ⟨φ, ρ, h, DA, r, ⟨P, ⟨m0, p0⟩, pt⟩, f⟩ := q
  refine ⟨fun m σ' H' => ∃ φ' ρ' h', Ext X.K φ H φ' H' ∧ R X.K B φ' ρ' h' σ' H' ∧ P m ρ' h', ⟨m0, φ, ρ, h, .refl, r, p0⟩, ?_⟩
  rintro m σ' H' ⟨φ', ρ', h', e', r', p⟩
  refine tAT.mk r' (pt m ρ' h' p) fun b H1 φ1 h1 e1 r1 w1 => ?_
  have ee := e'.trans e1
  cases b with
  | false => exact f.nx _ _ _ _ _ ee r1 w1
  | true =>
    refine ⟨fun σ2 H2 => ∃ m', m' < m ∧ ∃ φ' ρ' h', Ext X.K φ H φ' H2 ∧ R X.K B φ' ρ' h' σ2 H2 ∧ P m' ρ' h', fun _ _ z => z, φ1, ρ', h1, ⟨fun ρ2 h2 => ∃ m', m' < m ∧ P m' ρ2 h2, DA.rt, DA.nx, fun ρ2 h2 => ∃ m', m' < m ∧ P m' ρ2 h2⟩, r1, w1, ?_⟩
    exact ⟨fun φ3 ρ3 h3 σ4 H3 e3 r3 ⟨m', hm, q⟩ => ⟨m', hm, φ3, ρ3, h3, ee.trans e3, r3, q⟩, (f.step ee).rt, fun φ3 ρ3 h3 σ4 H3 e3 r3 q => f.nx _ _ _ _ _ (ee.trans e3) r3 q, fun φ3 ρ3 h3 σ4 H3 e3 r3 ⟨m', hm, q⟩ => ⟨m', hm, φ3, ρ3, h3, ee.trans e3, r3, q⟩⟩⟩
/-! ### comprehensions -/
def wipeU (ρ : SU) : List Nat → SU
  | [] => ρ
  | v :: vs => (wipeU ρ vs).set v none
theorem wipe_rel {K : PySem.W.Frag} {H : Hp} {φ : List Addr} {ρ : SU} {σ : St} (r : RO K H φ ρ σ) : ∀ vs, RO K H φ (wipeU ρ vs) (wipe σ vs)
  | [] => r
  | v :: vs => (wipe_rel r vs).unset v none
abbrev X0 : EX := fun _ _ _ => False
@[reducible] def tYesU : WT := fun _ h Q _ => Q true h
def LcB (xs : List U) (live : AH → Prop) (g : GU) (Tt : WT) (W : WE) (ρw : SU) (h1 : AH) (Q : UQ) : Prop := ∃ P : Nat → List U → AH → Prop, P 0 [] (h1 ++ [.lst []]) ∧
  (∀ i x acc h', xs[i]? = some x → P i acc h' → live h' ∧ h'[h1.length]? = some (.lst acc) ∧ acc.length < sizeLine ∧ Opt (g h' x ρw) fun ρ2 => Tt ρ2 h' (fun b h3 => Br b
    (W ρ2 h3 (fun y h4 => h4[h1.length]? = some (.lst acc) ∧ P (i + 1) (acc ++ [y]) (h4.set h1.length (.lst (acc ++ [y])))) (X0 ρ2)) (P (i + 1) acc h3)) (X0 ρ2)) ∧
  ∀ acc h', P xs.length acc h' → live h' ∧ Q (.obj h1.length) h'
@[reducible] def aLc (It : WI) (g : GU) (Tt : WT) (W : WE) (vs : List Nat) : WE := fun ρ h Q E => It ρ h (fun xs live h1 => LcB xs live g Tt W (wipeU ρ vs) h1 Q) E
structure ATs (X : Cx) (B : Bs) (E : EX) (ifs : List Expr) (W : WT) : Prop where
  pts : PTs X ifs (tAT X.K B E W)
theorem ats_nil : ATs X B E [] tYesU := ⟨fun pins s σ H Q I q => by
  obtain ⟨φ, ρ, h, QA, r, w, k⟩ := q
  exact pts_nil pins s σ H Q I (k _ _ _ _ .refl r.hp w)⟩
theorem ats_one (h : AT X B E c T) : ATs X B E [c] T := ⟨pts_one h.pt⟩
theorem aLc_low {K : PySem.W.Frag} {It : WI} {vs ws : List Nat} {g : GU} {Tt : WT} {σ : St} {H : Hp} {Q : VK} (hv : ∀ i ∈ ws, i ∈ vs) (q : tA K B E (aLc It g Tt We vs) σ H Q) : tLc (tAI K B E It) (tAG K B.G ws g) (tAT K B X0 Tt) (tA K B X0 We) vs σ H Q := by
  obtain ⟨φ, ρ, h, QA, r, w, k⟩ := q
  refine ⟨φ, ρ, h, _, r, w, fun J H1 φ1 h1 xs live e1 rh1 J1 ⟨P, p0, pt, pd⟩ D hD => ?_⟩
  have r1 := r.step e1 rh1
  have eD : Ext K φ1 H1 (φ1 ++ [D]) (upd H1 D (.lst [])) := .push hD
  have rD : RH K B.G (φ1 ++ [D]) (h1 ++ [.lst []]) (upd H1 D (.lst [])) := rh1.push (ao := .lst []) hD ⟨[], upd_same, .nil⟩
  have nD : (φ1 ++ [D])[h1.length]? = some D := by rw [← rh1.len]; simp
  refine ⟨fun i m H' => i ≤ xs.length ∧ m = xs.length - i ∧ ∃ φ' h' acc, Ext K (φ1 ++ [D]) (upd H1 D (.lst [])) φ' H' ∧ RH K B.G φ' h' H' ∧ P i acc h', ⟨_, Nat.zero_le _, rfl, _, _, [], .refl, rD, p0⟩, ?_⟩
  rintro i m H' ⟨hi, rfl, φ', h', acc, e', r', p⟩
  by_cases hl : i < xs.length
  · obtain ⟨lv, _⟩ := pt i _ acc h' (List.getElem?_eq_getElem hl) p
    refine .inr ⟨J1.go i φ' h' H' (eD.trans e') r' lv hl, fun H2 => i + 1 ≤ xs.length ∧ ∃ φ2 h2 acc2, Ext K (φ1 ++ [D]) (upd H1 D (.lst [])) φ2 H2 ∧ RH K B.G φ2 h2 H2 ∧ P (i + 1) acc2 h2, fun H2 ⟨h3, z⟩ => ⟨xs.length - (i + 1), by omega, h3, rfl, z⟩, fun v H2 y => ?_⟩
    obtain ⟨e2, rh2, u, hu, ru⟩ := J1.yld i φ' h' H' v H2 (eD.trans e') r' lv hl y
    obtain ⟨lv, hacc, hlen, w1⟩ := pt i u acc h' hu p
    obtain ⟨ρ2, eg, w2⟩ := Opt.of w1
    have ee := (eD.trans e').trans e2
    refine ⟨φ', u, wipeU ρ vs, ρ2, h', rh2, ru, wipe_rel (r1.st.mono ee) vs, eg, fun σ3 ro wq => ⟨?_, ?_⟩⟩
    · rw [wq vs hv, wipe_wipe]
    · have r2 : R K B φ' ρ2 h' σ3 H2 := ⟨r1.ext.trans ee, ro, rh2⟩
      refine tAT.mk r2 w2 fun b H3 φ3 h3 e3 r3 w3 => ?_
      cases b with
      | false => exact ⟨hl, φ3, h3, acc, (e'.trans e2).trans e3, r3.hp, w3⟩
      | true =>
        refine tA.mk r3 w3 fun y H4 φ4 uy h4 e4 r4 ruy ⟨ha4, w4⟩ => ?_
        have n4 : φ4[h1.length]? = some D := e4.num _ _ (e3.num _ _ (e'.num _ _ nD))
        obtain ⟨vs4, hD4, rs4⟩ := r4.hp.ob _ _ _ n4 ha4
        have ex : Ext K φ4 H4 φ4 (upd H4 D (.lst (vs4 ++ [y]))) := .put hD4 (fun _ z => by cases z) (fun _ _ z => by cases z)
        exact ⟨vs4, hD4, by rw [← rs4.len]; exact hlen, hl, φ4, _, _, (((e'.trans e2).trans e3).trans e4).trans ex, r4.hp.put n4 hD4 (fun _ z => by cases z) (fun _ _ z => by cases z) (ao := .lst (acc ++ [uy])) ⟨_, upd_same, (rs4.app (.cons ruy .nil)).mono ex⟩ (by rw [ha4]; exact fun z => z) (fun z => z), w4⟩
  · have e : i = xs.length := by omega
    subst e
    obtain ⟨lv, q⟩ := pd acc h' p
    exact .inl ⟨J1.stop φ' h' H' (eD.trans e') r' lv, k _ _ ⟨φ', .obj h1.length, h', (e1.trans eD).trans e', r', .obj (e'.num _ _ nD), q⟩⟩
theorem ae_lc {elt tg iter : Expr} {ifs : List Expr} {scope : Scope} {own : List (Str × Nat)} {It : WI} {ws : List Nat} {g : GU} {Tt : WT} (hc : X.calm = true) (hN : X.N.Nodup) (hi : AI X B E tg iter It) (ok : BlkOk X.N X.env.scope scope own) (hv : ∀ i ∈ ws, i ∈ own.map (·.2))
    (hg : ∀ (s : Shared) (H : Hp) (C : Addr) (cl : List (Str × Addr)) (fp : List Addr), AG (X.blk s H scope (compEnvC scope cl C X.env) fp) B.G tg ws g) (ht : ∀ (s : Shared) (H : Hp) (C : Addr) (cl : List (Str × Addr)) (fp : List Addr), ATs (X.blk s H scope (compEnvC scope cl C X.env) fp) B X0 ifs Tt)
    (he : ∀ (s : Shared) (H : Hp) (C : Addr) (cl : List (Str × Addr)) (fp : List Addr), AE (X.blk s H scope (compEnvC scope cl C X.env) fp) B X0 elt We) (hs : ∀ x, foldedSetIterable iter X.env x = pure x := by intro _; rfl) :
    AE X B E (.ListComp elt [⟨tg, iter, ifs, 0⟩] scope pos) (aLc It g Tt We (own.map (·.2))) := ⟨(pe_lc hc hN hi.pi ok (fun s H C cl fp => (hg s H C cl fp).pg) (fun s H C cl fp => (ht s H C cl fp).pts) (fun s H C cl fp => (he s H C cl fp).pe) hs).weak fun σ H Q q => aLc_low hv q⟩
theorem as_setLc {i : Nat} {y : Str} {py spos : Pos} {elt tg iter : Expr} {ifs : List Expr} {scope : Scope} {own : List (Str × Nat)} {It : WI} {ws : List Nat} {g : GU} {Tt : WT} (hc : X.calm = true) (hN : X.N.Nodup) (hy : X.N[i]? = some y) (hyl : X.env.scope.names.lookup y = some .local)
    (hsw : swapsWith (.ListComp elt [⟨tg, iter, ifs, 0⟩] scope pos) (some (.Name y py)) spos.line X.env = pure true) (hi : AI X B E tg iter It) (ok : BlkOk X.N X.env.scope scope own) (hv : ∀ i ∈ ws, i ∈ own.map (·.2))
    (hg : ∀ (s : Shared) (H : Hp) (C : Addr) (cl : List (Str × Addr)) (fp : List Addr), AG (X.blk s H scope (compEnvC scope cl C X.env) fp) B.G tg ws g) (ht : ∀ (s : Shared) (H : Hp) (C : Addr) (cl : List (Str × Addr)) (fp : List Addr), ATs (X.blk s H scope (compEnvC scope cl C X.env) fp) B X0 ifs Tt)
    (he : ∀ (s : Shared) (H : Hp) (C : Addr) (cl : List (Str × Addr)) (fp : List Addr), AE (X.blk s H scope (compEnvC scope cl C X.env) fp) B X0 elt We) (hs : ∀ x, foldedSetIterable iter X.env x = pure x := by intro _; rfl) :
    AS X B E (.Assign [.Name y py] (.ListComp elt [⟨tg, iter, ifs, 0⟩] scope pos) spos) (sSet i (aLc It g Tt We (own.map (·.2)))) := ⟨(ps_setLc hc hN hy hyl hsw hi.pi ok (fun s H C cl fp => (hg s H C cl fp).pg) (fun s H C cl fp => (ht s H C cl fp).pts) (fun s H C cl fp => (he s H C cl fp).pe) hs).weak fun D σ H q => by
  obtain ⟨φ, ρ, h, DA, r, w, f⟩ := q
  refine aLc_low hv ⟨φ, ρ, h, _, r, w, fun v H' ⟨φ', u, h', e, rh, ru, q⟩ => ?_⟩
  exact f.nx _ _ _ _ _ e ⟨(r.step e rh).ext, (r.step e rh).st.set ru i, rh⟩ q⟩
end
end L2

namespace L2
open PySem PySem.Spec PyProof.Rows
/-! ### defs -/
abbrev WF := List U → AH → UQ → XQ → Prop
def xA (K : PySem.W.Frag) (B : Bs) (E : EX) : St → XK := fun σ cls dx H => ∃ φ ρ x h, R K B φ ρ h σ H ∧ (cls = .ref (B.G x.c) ∧ XF K H φ dx x.fs) ∧ E ρ x h
def AX (K : PySem.W.Frag) (G : Str → Addr) (φ : List Addr) (H : Hp) (E : XQ) : XK := fun cls dx H' => ∃ φ' x h', Ext K φ H φ' H' ∧ RH K G φ' h' H' ∧ (cls = .ref (G x.c) ∧ XF K H' φ' dx x.fs) ∧ E x h'
def spA (K : PySem.W.Frag) (G : Str → Addr) (W : WF) : Sp := fun vs H Q E => ∃ φ us h QA EA, RUs K H φ us vs ∧ RH K G φ h H ∧ W us h QA EA ∧ (∀ v H', AQ K G φ H QA v H' → Q v H') ∧ ∀ cls dx H', AX K G φ H EA cls dx H' → E cls dx H'
@[reducible] def wFn (N n : Nat) (S : WS) : WF := fun us h Q E => us.length = n ∧ S (fun _ h' => Q .non h') Q (fun _ _ => False) (fun _ _ => False) (fun _ => E) (us.map some ++ List.replicate (N - us.length) none) h
section
variable {P : Program} {w : World} {K : PySem.W.Frag} {mg : Str → Option Value} {base : Heap} {G : Str → Addr}
theorem FunD.okA {x qual : Str} {st : Stmt} {dV : Value} {f : Addr} {fd : FuncData} {N ps : List Str} {k : Nat} {S : WS} (F : FunD K x qual st dV f fd) (sc : FnScope N ps (defScope st))
    (hb : ∀ (cdv : Value) (A : Around) (outer : List Env) (s : Shared) (H : Hp) (E₀ : XK) (φ : List Addr) (E : EX), Room k (A.deeper (envOfC qual (defScope st) s.heap.objs.size f cdv)) → (∀ σ cls dx H', xA K ⟨G, φ, H⟩ E σ cls dx H' → E₀ cls dx H') →
      Passes (CXR P w) (cxOf (CXR P w) P w K mg base N qual (defScope st) f cdv A outer s H E₀) (xA K ⟨G, φ, H⟩ E) →
      ASs (cxOf (CXR P w) P w K mg base N qual (defScope st) f cdv A outer s H E₀) ⟨G, φ, H⟩ E (defBody st) S) : FnOk P w K mg base (CXR P w) (k + 1) f fd ps (spA K G (wFn N.length ps.length S)) := by
  refine F.okR sc ?_ ?_
  · rintro vs H Q E ⟨φ, us, h, QA, EA, ru, rh, ⟨hl, _⟩, _⟩
    rw [← ru.len]; exact hl
  · rintro cdv A outer s H vs Q E₀ hr ⟨φ, us, h, QA, EA, ru, rh, ⟨hl, w1⟩, hq, hx⟩
    have hE : ∀ σ cls dx H', xA K ⟨G, φ, H⟩ (fun _ => EA) σ cls dx H' → E₀ cls dx H' := fun σ cls dx H' ⟨φ', ρ, x, h', r, ec, ea⟩ => hx cls dx H' ⟨φ', x, h', r.ext, r.hp, ec, ea⟩
    refine ⟨_, (hb cdv A outer s H E₀ φ (fun _ => EA) hr hE (passR hE)).pss, φ, _, h, ⟨fun _ h' => QA .non h', QA, fun _ _ => False, fun _ _ => False⟩, ⟨.refl, ?_, rh⟩, w1, ?_⟩
    · unfold start; rw [← ru.len]; exact RO.start _ ru
    · exact ⟨fun φ' ρ' h' σ' H' e r q => hq _ _ ⟨φ', .non, h', e, r.hp, .non, q⟩, fun v H' φ' u h' e rh ru q => hq _ _ ⟨φ', u, h', e, rh, ru, q⟩, fun φ' ρ' h' σ' H' e r q => q, fun φ' ρ' h' σ' H' e r q => q⟩
theorem passX0 {X : Cx} {B : Bs} : Passes (CXR X.prog X.w) X (xA X.K B X0) := fun _ _ _ _ _ _ _ h => by
  obtain ⟨_, _, _, _, _, _, _, _, _, _, ⟨_, _, _, _, _, _, z⟩⟩ := h
  exact z.elim
end
section
variable {X : Cx} {B : Bs} {E : EX} {a b c e o i : Expr} {es : List Expr} {Wa Wb Wc We Wo Wi : WE} {Wr Wk : WA} {T : WT} {p pos pos' apos : Pos} {W : WF} {k n : Nat} {ps ks : List Str} {x m : Str}
@[reducible] def aCall (W : WF) (ds : List U) (R : WA) : WE := fun ρ h Q E => R ρ h (fun us h1 => W (us ++ ds) h1 Q E) E
theorem aCall_low {σ : St} {H H1 : Hp} {Q : VK} {φ φ1 : List Addr} {ρ : SU} {h1 : AH} {us : List U} {vs : List V} {QA : UQ} (k : ∀ v H', AQ X.K B.G φ H QA v H' → Q v H') (e1 : Ext X.K φ H φ1 H1) (r1 : R X.K B φ1 ρ h1 σ H1) (rus : RUs X.K H1 φ1 us vs) (w1 : W us h1 QA (E ρ)) : spA X.K B.G W vs H1 Q (xA X.K B E σ) :=
  ⟨φ1, us, h1, QA, E ρ, rus, r1.hp, w1, fun v H' ⟨φ', u, h', e, q⟩ => k v H' ⟨φ', u, h', e1.trans e, q⟩, fun cls dx H' ⟨φ', x, h', e, rh, ec, ea⟩ => ⟨φ', ρ, x, h', r1.step e rh, ec, ea⟩⟩
theorem ae_call (c : Cal X.prog X.w X.K X.mg X.base k x ps (spA X.K B.G W)) (hr : Room n X.A) (hp : Passes (CXR X.prog X.w) X (xA X.K B E)) (ha : AA X B E (e :: es) Wr) (hk : k ≤ n := by decide) (hg : Gl X x := by rfl)
    (hdb : (x == ("__debug__" : Str)) = false := by decide) (he : starEach (e :: es) X.env = (false, eval e X.env) :: starEach es X.env := by rfl) (hpl : (backTo pos (starEach es X.env)).any (·.1) = false := by rfl) :
    AE X B E (.Call (.Name x p) (e :: es) [] pos) (aCall W [] Wr) := ⟨(pe_cal c hr ha.pa hp hk hg hdb he hpl).weak fun σ H Q q => by
  obtain ⟨φ, ρ, h, QA, r, w, k⟩ := q
  refine tAA.mk r w fun vs H1 φ1 us h1 e1 r1 rus w1 => ?_
  rw [List.append_nil] at w1 ⊢
  exact aCall_low k e1 r1 rus w1⟩
/-- defaults that are constants -/
def KU (K : PySem.W.Frag) (us : List U) (vs : List V) : Prop := ∀ H φ, RUs K H φ us vs
/-- f(k = v, ..): g puts them in order -/
structure AK (X : Cx) (B : Bs) (E : EX) (kws : List Keyword) (W : WA) : Prop where
  pk : PK X kws (tAA X.K B E W)
theorem PK.weak {kws : List Keyword} {t t' : TA} (h : PK X kws t) (w : ∀ σ H Q, t' σ H Q → t σ H Q) : PK X kws t' := fun pos pins s σ H Q I q => h pos pins s σ H Q I (w _ _ _ q)
theorem ak_nil : AK X B E [] aNil := ⟨PK.weak pk_nil fun σ H Q q => by
  obtain ⟨φ, ρ, h, QA, r, w, k⟩ := q
  exact k _ _ _ _ _ .refl r.hp .nil w⟩
theorem ak_cons {nm : Option Str} {kpos : Pos} {kws : List Keyword} (ha : AE X B E e We) (hr : AK X B E kws Wk) : AK X B E (⟨nm, e, kpos⟩ :: kws) (aCons We Wk) := ⟨PK.weak (pk_cons ha.pe hr.pk) fun σ H Q q => by
  obtain ⟨φ, ρ, h, QA, r, w, k⟩ := q
  refine tA.mk r w fun v H1 φ1 u h1 e1 r1 ru w1 => tAA.mk r1 w1 fun vs H2 φ2 us h2 e2 r2 rus w2 => ?_
  exact k _ _ _ _ _ (e1.trans e2) r2.hp (.cons (ru.mono e2) rus) w2⟩
def PU (g : List U → List U) (gV : List V → List V → List V) (first : List V) (ufirst : List U) : Prop := ∀ K H φ us vs, RUs K H φ ufirst first → RUs K H φ us vs → RUs K H φ (g us) (gV first vs)
@[reducible] def aCallK (W : WF) (g : List U → List U) (R : WA) : WE := fun ρ h Q E => R ρ h (fun us h1 => W (g us) h1 Q E) E
theorem ae_callK {g : List U → List U} {gV : List V → List V → List V} {kws : List Keyword} (c : CalK X.prog X.w X.K X.mg X.base k x ps ks gV (spA X.K B.G W)) (hg' : PU g gV [] []) (hr : Room n X.A) (hp : Passes (CXR X.prog X.w) X (xA X.K B E)) (ha : AK X B E kws Wr) (hk : k ≤ n := by decide) (hg : Gl X x := by rfl)
    (hall : (backToKw pos (keywordEach kws X.env)).all (·.1.isSome) = true := by rfl) (hks : (backToKw pos (keywordEach kws X.env)).filterMap (·.1) = ks := by rfl)
    (hdb : (x == ("__debug__" : Str)) = false := by decide) (hpl : ((backTo pos (starEach [] X.env)).any (·.1) || (backToKw pos (keywordEach kws X.env)).any (·.1.isNone)) = false := by rfl) :
    AE X B E (.Call (.Name x p) [] kws pos) (aCallK W g Wr) := ⟨(pe_calK0 c hr ha.pk hp hk hg hall hks hdb hpl).weak fun σ H Q q => by
  obtain ⟨φ, ρ, h, QA, r, w, k⟩ := q
  refine tAA.mk r w fun vs H1 φ1 us h1 e1 r1 rus w1 => ?_
  exact aCall_low k e1 r1 (hg' _ _ _ _ _ .nil rus) w1⟩
/-! ### making an instance -/
@[reducible] def aMake (c : Str) (W : WF) (R : WA) : WE := fun ρ h Q E => R ρ h (fun us h1 => W (.obj h1.length :: us) (h1 ++ [.ins c []]) (fun u h2 => asN u (Q (.obj h1.length) h2)) E) E
theorem aMake_low {cn : Str} {σ : St} {H H1 : Hp} {Q : VK} {φ φ1 : List Addr} {ρ : SU} {h1 : AH} {us : List U} {vs : List V} {QA : UQ} {x dx : Addr} (k : ∀ v H', AQ X.K B.G φ H QA v H' → Q v H') (e1 : Ext X.K φ H φ1 H1) (r1 : R X.K B φ1 ρ h1 σ H1) (rus : RUs X.K H1 φ1 us vs)
    (w1 : W (.obj h1.length :: us) (h1 ++ [.ins cn []]) (fun u h2 => asN u (QA (.obj h1.length) h2)) (E ρ)) (hx : H1 x = none) (hdx : H1 dx = none) (ne : dx ≠ x) :
    spA X.K B.G W (.ref x :: vs) (upd (upd H1 dx (.own x)) x (.ins (B.G cn) dx [])) (fun v H2 => v = .non ∧ Q (.ref x) H2) (xA X.K B E σ) := by
  have hx2 : (upd H1 dx (.own x)) x = none := by rw [upd_ne (Ne.symm ne)]; exact hx
  have ea : Ext X.K φ1 H1 φ1 (upd H1 dx (.own x)) := .upd hdx
  have eb : Ext X.K φ1 (upd H1 dx (.own x)) (φ1 ++ [x]) (upd (upd H1 dx (.own x)) x (.ins (B.G cn) dx [])) := .push hx2
  have rb : RH X.K B.G (φ1 ++ [x]) (h1 ++ [.ins cn []]) (upd (upd H1 dx (.own x)) x (.ins (B.G cn) dx [])) := (r1.hp.upd hdx).push (ao := .ins cn []) hx2 ⟨dx, [], upd_same, .nil⟩
  have nx : (φ1 ++ [x])[h1.length]? = some x := by rw [← r1.hp.len]; simp
  refine ⟨φ1 ++ [x], _, _, _, E ρ, .cons (.obj nx) (rus.mono (ea.trans eb)), rb, w1, fun v H' ⟨φ', u, h', e, rh, ru, q⟩ => ?_, fun cls d H' ⟨φ', x, h', e, rh, ec, z⟩ => ⟨φ', ρ, x, h', r1.step ((ea.trans eb).trans e) rh, ec, z⟩⟩
  cases u <;> first | exact q.elim | skip
  cases ru
  exact ⟨rfl, k _ _ ⟨φ', .obj h1.length, h', ((e1.trans ea).trans eb).trans e, rh, .obj (e.num _ _ nx), q⟩⟩
theorem ae_make {cn : Str} (c : Mak X.prog X.w X.K X.mg X.base k x (B.G cn) ps (spA X.K B.G W)) (hr : Room n X.A) (hp : Passes (CXR X.prog X.w) X (xA X.K B E)) (ha : AA X B E (e :: es) Wr) (hk : k + 1 ≤ n := by decide) (hg : Gl X x := by rfl)
    (hdb : (x == ("__debug__" : Str)) = false := by decide) (he : starEach (e :: es) X.env = (false, eval e X.env) :: starEach es X.env := by rfl) (hpl : (backTo pos (starEach es X.env)).any (·.1) = false := by rfl) :
    AE X B E (.Call (.Name x p) (e :: es) [] pos) (aMake cn W Wr) := ⟨(pe_mak c hr ha.pa hp hk hg hdb he hpl).weak fun σ H Q q => by
  obtain ⟨φ, ρ, h, QA, r, w, k⟩ := q
  refine tAA.mk r w fun vs H1 φ1 us h1 e1 r1 rus w1 y dy hy hdy ne => ?_
  rw [List.append_nil]
  exact aMake_low k e1 r1 rus w1 hy hdy ne⟩
/-! ### methods -/
structure MFam (X : Cx) (G : Str → Addr) (k : Nat) (m : Str) (ds : List U) (F : List (Str × WF)) : Prop where
  me : ∀ c W, F.lookup c = some W → ∃ ps dvs, MetD X.prog X.w X.K X.mg X.base k (G c) m ps dvs (spA X.K G W) ∧ KU X.K ds dvs
@[reducible] def aMeth (m : Str) (ds : List U) (F : List (Str × WF)) (Wo : WE) (R : WA) : WE := fun ρ h Q E => Wo ρ h (fun o h1 => match o with
  | .obj n => Opt (insAt h1 n) fun p => p.2.lookup m = none ∧ Opt (F.lookup p.1) fun W => R ρ h1 (fun us h2 => W (.obj n :: (us ++ ds)) h2 Q E) E
  | _ => False) E
theorem ae_meth0 {ds : List U} {F : List (Str × WF)} {pl : Sem Bool} (fm : MFam X B.G k m ds F) (hr : Room n X.A) (hp : Passes (CXR X.prog X.w) X (xA X.K B E)) (ho : AE X B E o Wo) (hk : k ≤ n := by decide)
    (ht : eval (.Call (.Attribute o m apos) [] [] pos) X.env = (do
      let ov ← eval o X.env
      standAt apos.atName
      let (f, first) ← holding [ov] (getMethod ov m pl)
      callWith pos f first (backTo pos (starEach [] X.env)) (backToKw pos (keywordEach [] X.env))) := by rfl) : AE X B E (.Call (.Attribute o m apos) [] [] pos) (aMeth m ds F Wo aNil) := ⟨by
  rintro pins s σ H Q I ⟨φ, ρ, h, QA, r, w, kk⟩
  refine PySem.W.methodCall_KW (pl := pl) (thn (ho.pe pins s σ H _ I (tA.mk (Q := fun v H1 => ∃ a n φ1 h1 p, v = .ref a ∧ φ1[n]? = some a ∧ Ext X.K φ H φ1 H1 ∧ R X.K B φ1 ρ h1 σ H1 ∧ insAt h1 n = some p ∧ p.2.lookup m = none ∧ Opt (F.lookup p.1) fun W => W (.obj n :: ([] ++ ds)) h1 QA (E ρ)) r w fun v H1 φ1 u h1 e1 r1 ru w1 => ?_)) fun u s1 ⟨x, H1, I1, rx, a, nn, φ1, h1, p, ex, hn, e1, r1, ep, hl, w2⟩ => ?_) ht
  · cases u <;> first | exact w1.elim | skip
    obtain ⟨p, ep, hl, w2⟩ := Opt.of w1
    cases ru with
    | obj hn => exact ⟨_, _, φ1, h1, p, rfl, hn, e1, r1, ep, hl, w2⟩
  · subst ex
    obtain rfl : u = Value.ref a := rx
    obtain ⟨W, eW, w3⟩ := Opt.of w2
    obtain ⟨ps, dvs, M, hd⟩ := fm.me _ _ eW
    obtain ⟨f, fd, dsv, Me, Fn, bi, vd⟩ := M.ex
    obtain ⟨b, dx, gs, eb, hn', hb, rf⟩ := r1.hp.ins ep (.obj hn)
    cases eb
    refine getmeth_ok I1 hb M.cl Me (rf.no hl) ?_
    refine PySem.W.callWith_K0 (first := [.ref a]) I1.kIn Me.kp (run_fn (us := [.ref a]) (vs := [.ref a]) Fn (hr.mono hk) bi vd hp I1 (.cons rfl .nil) ?_)
    exact aCall_low kk e1 r1 (.cons (.obj hn) (hd _ _)) w3⟩
/-! ### built-ins -/
@[reducible] def aBlt (w : ON) (R : WA) : WE := fun ρ h Q E => R ρ h (fun us h1 => w us h1 Q) E
theorem aBlt_low {w : ON} {σ : St} {H : Hp} {Q : VK} (q : tA X.K B E (aBlt w Wr) σ H Q) : tCB (rAN X.K B.G w) (tAA X.K B E Wr) σ H Q := by
  obtain ⟨φ, ρ, h, QA, r, w, k⟩ := q
  refine tAA.mk r w fun vs H1 φ1 us h1 e1 r1 rus w1 => ?_
  exact ⟨φ1, us, h1, QA, r1.hp, rus, w1, fun v H' ⟨φ', u, h', e, q⟩ => k v H' ⟨φ', u, h', e1.trans e, q⟩⟩
theorem ae_blt {id : String} {w : ON} (hc : ACl X B.G (.builtin id) w) (hg : Gl X x) (hm : X.mg x = none) (hv : bootBuiltins x = some (.builtin id)) (ha : AA X B E (e :: es) Wr) (hn : x ≠ "__name__" := by decide) (hdb : (x == ("__debug__" : Str)) = false := by decide)
    (he : starEach (e :: es) X.env = (false, eval e X.env) :: starEach es X.env := by rfl) (hpl : (backTo pos (starEach es X.env)).any (·.1) = false := by rfl) : AE X B E (.Call (.Name x p) (e :: es) [] pos) (aBlt w Wr) := ⟨(pe_callB hc.op hg hm hv ha.pa hn hdb he hpl).weak fun _ _ _ => aBlt_low⟩
theorem ae_bty {T : String} {w : ON} (hc : ACl X B.G (.type T) w) (hg : Gl X x) (hm : X.mg x = none) (hv : bootBuiltins x = some (.type T)) (ha : AA X B E (e :: es) Wr) (hn : x ≠ "__name__" := by decide) (hdb : (x == ("__debug__" : Str)) = false := by decide)
    (he : starEach (e :: es) X.env = (false, eval e X.env) :: starEach es X.env := by rfl) (hpl : (backTo pos (starEach es X.env)).any (·.1) = false := by rfl) : AE X B E (.Call (.Name x p) (e :: es) [] pos) (aBlt w Wr) := ⟨(pe_callTy hc.op hg hm hv ha.pa hn hdb he hpl).weak fun _ _ _ => aBlt_low⟩
def uLen : ON := fun us h Q => match us with
  | [.str y] => y.length ≤ sizeLine ∧ Q (.int y.length) h
  | [.tup xs] => Q (.int xs.length) h
  | [.obj n] => Opt (lstAt h n) fun xs => Q (.int xs.length) h
  | _ => False
theorem ac_len : ACl X B.G (.builtin "len") uLen := ⟨by
  rintro pins s σ H xs us Q I r ⟨φ, as, h, QA, rh, ru, w, k⟩
  cases ru with
  | nil => exact w.elim
  | cons r1 rs =>
    rename_i u v us' vs'
    cases rs with
    | cons _ _ => cases u <;> exact w.elim
    | nil =>
      cases u <;> first | exact w.elim | skip
      · cases r1
        exact call_len pins s σ H _ us Q I r ⟨_, _, rfl, ⟨w.1, rfl⟩, k _ _ (.here rh .int w.2)⟩
      · cases r1 with
        | tup t rs => exact call_len_seq pins s σ H _ us Q I r ⟨_, _, rfl, .inr t, k _ _ (.here rh .int (by rw [← rs.len]; exact w))⟩
      · obtain ⟨xs, e, w⟩ := Opt.of w
        obtain ⟨a, ws, rfl, _, hs, rs⟩ := rh.rol (lstAt_of e) r1
        exact call_len_seq pins s σ H _ us Q I r ⟨_, _, rfl, .inl hs, k _ _ (.here rh .int (by rw [← rs.len]; exact w))⟩⟩
def uAbs : ON := fun us h Q => match us with
  | [.int i] => Q (.int (if i < 0 then -i else i)) h
  | _ => False
theorem ac_abs : ACl X B.G (.builtin "abs") uAbs := ⟨by
  rintro pins s σ H xs us Q I r ⟨φ, as, h, QA, rh, ru, w, k⟩
  match as, ru, w with
  | [.int i], .cons .int .nil, w => exact call_abs pins s σ H _ us Q I r ⟨_, rfl, k _ _ (.here rh .int w)⟩⟩
def intsOf : List U → Option (List Int)
  | [] => some []
  | .int i :: us => (intsOf us).map (i :: ·)
  | _ => none
theorem intsOf_of : ∀ {us : List U} {ns : List Int}, intsOf us = some ns → us = ns.map U.int
  | [], _, e => by cases e; rfl
  | .int i :: us, _, e => by
    unfold intsOf at e
    cases e1 : intsOf us with
    | none => rw [e1] at e; cases e
    | some ms => rw [e1] at e; cases e; rw [intsOf_of e1]; rfl
  | .non :: _, _, e => by cases e
  | .bl _ :: _, _, e => by cases e
  | .str _ :: _, _, e => by cases e
  | .tup _ :: _, _, e => by cases e
  | .obj _ :: _, _, e => by cases e
def blsOf : List U → Option (List Bool)
  | [] => some []
  | .bl i :: us => (blsOf us).map (i :: ·)
  | _ => none
theorem blsOf_of : ∀ {us : List U} {ns : List Bool}, blsOf us = some ns → us = ns.map U.bl
  | [], _, e => by cases e; rfl
  | .bl i :: us, _, e => by
    unfold blsOf at e
    cases e1 : blsOf us with
    | none => rw [e1] at e; cases e
    | some ms => rw [e1] at e; cases e; rw [blsOf_of e1]; rfl
  | .non :: _, _, e => by cases e
  | .int _ :: _, _, e => by cases e
  | .str _ :: _, _, e => by cases e
  | .tup _ :: _, _, e => by cases e
  | .obj _ :: _, _, e => by cases e
theorem blsOf_map : ∀ (ns : List Bool), blsOf (ns.map U.bl) = some ns
  | [] => rfl
  | n :: ns => by show (blsOf (ns.map U.bl)).map (n :: ·) = _; rw [blsOf_map ns]; rfl
def uMax : ON := fun us h Q => match us with
  | [.int i, .int j] => Q (.int (if j > i then j else i)) h
  | [.obj n] => Opt (lstAt h n) fun xs => Opt (intsOf xs) fun ns => 0 < ns.length ∧ ∀ m, m ∈ ns → (∀ y, y ∈ ns → y ≤ m) → Q (.int m) h
  | _ => False
def uMin : ON := fun us h Q => match us with
  | [.int i, .int j] => Q (.int (if j < i then j else i)) h
  | [.obj n] => Opt (lstAt h n) fun xs => Opt (intsOf xs) fun ns => 0 < ns.length ∧ ∀ m, m ∈ ns → (∀ y, y ∈ ns → m ≤ y) → Q (.int m) h
  | _ => False
theorem ac_max (hc : X.calm = true) : ACl X B.G (.builtin "max") uMax := ⟨by
  rintro pins s σ H xs us Q I r ⟨φ, as, h, QA, rh, ru, w, k⟩
  match as, ru, w with
  | [.int i, .int j], .cons .int (.cons .int .nil), w => exact call_max2 hc pins s σ H _ us Q I r ⟨_, _, rfl, k _ _ (.here rh .int w)⟩
  | [.obj n], .cons r1 .nil, w =>
    obtain ⟨xs, e, w⟩ := Opt.of w
    obtain ⟨ns, e2, w1, w2⟩ := Opt.of w
    obtain ⟨a, ws, rfl, _, hs, rs⟩ := rh.rol (lstAt_of e) r1
    rw [intsOf_of e2] at rs
    rw [rs.ints] at hs
    exact cr_max hc pins s σ H _ us Q I r ⟨a, ns, rfl, hs, w1, fun m h1 h2 => k _ _ (.here rh .int (w2 m h1 h2))⟩⟩
theorem ac_min (hc : X.calm = true) : ACl X B.G (.builtin "min") uMin := ⟨by
  rintro pins s σ H xs us Q I r ⟨φ, as, h, QA, rh, ru, w, k⟩
  match as, ru, w with
  | [.int i, .int j], .cons .int (.cons .int .nil), w => exact call_min2 hc pins s σ H _ us Q I r ⟨_, _, rfl, k _ _ (.here rh .int w)⟩
  | [.obj n], .cons r1 .nil, w =>
    obtain ⟨xs, e, w⟩ := Opt.of w
    obtain ⟨ns, e2, w1, w2⟩ := Opt.of w
    obtain ⟨a, ws, rfl, _, hs, rs⟩ := rh.rol (lstAt_of e) r1
    rw [intsOf_of e2] at rs
    rw [rs.ints] at hs
    exact cr_min hc pins s σ H _ us Q I r ⟨a, ns, rfl, hs, w1, fun m h1 h2 => k _ _ (.here rh .int (w2 m h1 h2))⟩⟩
def uSum : ON := fun us h Q => match us with
  | [.obj n] => Opt (lstAt h n) fun xs => Opt (intsOf xs) fun ns => Q (.int ns.sum) h
  | _ => False
def uAll : ON := fun us h Q => match us with
  | [.obj n] => Opt (lstAt h n) fun xs => Opt (blsOf xs) fun ns => Q (.bl (ns.all id)) h
  | _ => False
theorem ac_all (hc : X.calm = true) : ACl X B.G (.builtin "all") uAll := ⟨by
  rintro pins s σ H xs us Q I r ⟨φ, as, h, QA, rh, ru, w, k⟩
  match as, ru, w with
  | [.obj n], .cons r1 .nil, w =>
    obtain ⟨xs, e, w⟩ := Opt.of w
    obtain ⟨ns, e2, w1⟩ := Opt.of w
    obtain ⟨a, ws, rfl, _, hs, rs⟩ := rh.rol (lstAt_of e) r1
    rw [blsOf_of e2] at rs
    rw [rs.bls] at hs
    exact cr_all hc pins s σ H _ us Q I r ⟨a, ns, rfl, hs, k _ _ (.here rh .bl w1)⟩⟩
def uList : ON := fun us h Q => match us with
  | [u] => Opt (itemsOf h u) fun xs => Q (.obj h.length) (h ++ [.lst xs])
  | _ => False
theorem ac_list : ACl X B.G (.type "list") uList := ⟨by
  rintro pins s σ H xs us Q I r ⟨φ, as, h, QA, rh, ru, w, k⟩
  match as, ru, w with
  | [u], .cons r1 .nil, w =>
    obtain ⟨xs, e, w9⟩ := Opt.of w
    cases u <;> first | cases e | skip
    · cases r1 with
      | tup t rs => exact call_list_of pins s σ H _ us Q I r ⟨_, _, rfl, .inr t, fun l hl => k _ _ (.lst rh hl rs w9)⟩
    · obtain ⟨a, ws, rfl, _, hs, rs⟩ := rh.rol (lstAt_of e) r1
      exact call_list_of pins s σ H _ us Q I r ⟨_, _, rfl, .inl hs, fun l hl => k _ _ (.lst rh hl rs w9)⟩⟩
/-! ### built-in methods of lists -/
abbrev OM := U → List U → AH → UQ → Prop
def rAM (K : PySem.W.Frag) (G : Str → Addr) (w : OM) : V → List V → Hp → VK → Prop := fun x xs H Q => ∃ φ u us h QA, RH K G φ h H ∧ RU K H φ u x ∧ RUs K H φ us xs ∧ w u us h QA ∧ ∀ v H', AQ K G φ H QA v H' → Q v H'
structure AMt (X : Cx) (G : Str → Addr) (id : String) (w : OM) : Prop where
  op : MtR X id (rAM X.K G w)
/-- the receiver is a list -/
def isLst (h : AH) : U → Prop
  | .obj n => ∃ xs, lstAt h n = some xs
  | _ => False
@[reducible] def aBm (w : OM) (Wo : WE) (R : WA) : WE := fun ρ h Q E => Wo ρ h (fun o h1 => isLst h1 o ∧ R ρ h1 (fun us h2 => w o us h2 Q) E) E
variable {name : Str} {cpos : Pos}
theorem isLst_ty {K : PySem.W.Frag} {G : Str → Addr} {φ : List Addr} {h : AH} {H : Hp} {u : U} {v : V} (rh : RH K G φ h H) (ru : RU K H φ u v) (hl : isLst h u) : tyV K "list" v H := by
  cases u <;> first | exact hl.elim | skip
  obtain ⟨xs, e⟩ := hl
  obtain ⟨a, ws, rfl, _, hs, rs⟩ := rh.rol (lstAt_of e) ru
  exact .inl ⟨rfl, ws, hs⟩
theorem ae_bm {id : String} {w : OM} (slot : Slot "list" name id) (hty : typeOf (.builtin id) = pure (.type "method_descriptor")) (hm : AMt X B.G id w) (ho : AE X B E o Wo) (ha : AA X B E (e :: es) Wr)
    (hbase : attributeBase o name X.env (eval o X.env) = eval o X.env := by rfl)
    (hfew : ((backTo cpos (starEach (e :: es) X.env)).all (fun x => !x.1) && (backToKw cpos (keywordEach [] X.env)).all (fun x => x.1.isSome)
      && decide ((e :: es).length + ([] : List Keyword).length + (if ([] : List Keyword).isEmpty then 0 else 1) < 30)) = true := by rfl)
    (hline : (apos.endLine == cpos.line) = true := by rfl) (hs : starEach (e :: es) X.env = (false, eval e X.env) :: starEach es X.env := by rfl) (hplain : (backTo cpos (starEach es X.env)).any (·.1) = false := by rfl) :
    AE X B E (.Call (.Attribute o name apos) (e :: es) [] cpos) (aBm w Wo Wr) := ⟨(pe_bm PySem.F.plainAttrs_list slot hty hm.op ho.pe ha.pa hbase hfew hline hs hplain).weak fun σ H Q q => by
  obtain ⟨φ, ρ, h, QA, r, w, k⟩ := q
  refine tA.mk r w fun v H1 φ1 u h1 e1 r1 ru w1 => ⟨isLst_ty r1.hp ru w1.1, tAA.mk r1 w1.2 fun vs H2 φ2 us h2 e2 r2 rus w2 => ?_⟩
  exact ⟨φ2, u, us, h2, QA, r2.hp, ru.mono e2, rus, w2, fun v H' ⟨φ', u, h', e, q⟩ => k v H' ⟨φ', u, h', (e1.trans e2).trans e, q⟩⟩⟩
theorem AQ.put {K : PySem.W.Frag} {G : Str → Addr} {φ : List Addr} {h : AH} {H : Hp} {QA : UQ} {n : Nat} {p : Addr} {vs vs' : List V} {us us' : List U} {u : U} {v : V} (rh : RH K G φ h H) (ho : ownLst h n = some us) (hn : φ[n]? = some p) (hp : H p = some (.lst vs)) (rs : RUs K H φ us' vs') (ru : RU K H φ u v) (q : QA u (h.set n (.lst us'))) : AQ K G φ H QA v (upd H p (.lst vs')) := by
  have ex : Ext K φ H φ (upd H p (.lst vs')) := .put hp (fun _ z => by cases z) (fun _ _ z => by cases z)
  exact ⟨φ, u, _, ex, rh.put hn hp (fun _ z => by cases z) (fun _ _ z => by cases z) (ao := .lst us') ⟨_, upd_same, rs.mono ex⟩ (by rw [ownLst_of ho]; exact fun z => z) (fun z => z), ru.mono ex, q⟩
def uAppend : OM := fun o us h Q => match o, us with
  | .obj n, [u] => Opt (ownLst h n) fun xs => xs.length < sizeLine ∧ Q .non (h.set n (.lst (xs ++ [u])))
  | _, _ => False
theorem am_append : AMt X B.G "list.append" uAppend := ⟨by
  rintro pins s σ H x xs v us Q I rx rxs ⟨φ, o, as, h, QA, rh, ro, ras, w, k⟩
  match o, as, ro, ras, w with
  | .obj n, [u], ro, .cons r1 .nil, w =>
    obtain ⟨ys, e, w1, w2⟩ := Opt.of w
    obtain ⟨a, ws, rfl, hn, hs, rs⟩ := rh.lst (ownLst_of e) ro
    exact mt_append pins s σ H _ _ v us Q I rx rxs ⟨a, ws, _, rfl, rfl, hs, by rw [← rs.len]; exact w1, k _ _ (.put rh e hn hs (rs.app (.cons r1 .nil)) .non w2)⟩⟩
def uPop : OM := fun o us h Q => match o, us with
  | .obj n, [] => Opt (ownLst h n) fun xs => Opt (xs[xs.length - 1]?) fun y => Q y (h.set n (.lst xs.dropLast))
  | .obj n, [.int i] => Opt (ownLst h n) fun xs => -(2 ^ 63) ≤ i ∧ i < 2 ^ 63 ∧ Opt (seqIndex? i xs.length) fun j => Opt xs[j]? fun y => Q y (h.set n (.lst (xs.eraseIdx j)))
  | _, _ => False
theorem am_pop : AMt X B.G "list.pop" uPop := ⟨by
  rintro pins s σ H x xs v us Q I rx rxs ⟨φ, o, as, h, QA, rh, ro, ras, w, k⟩
  match o, as, ro, ras, w with
  | .obj n, [], ro, .nil, w =>
    obtain ⟨ys, e, w⟩ := Opt.of w
    obtain ⟨y, e1, w2⟩ := Opt.of w
    obtain ⟨a, ws, rfl, hn, hs, rs⟩ := rh.lst (ownLst_of e) ro
    obtain ⟨z, ez, rz⟩ := rs.at e1
    exact mt_pop pins s σ H _ _ v us Q I rx rxs ⟨a, ws, z, rfl, rfl, hs, by rw [← rs.len]; exact ez, k _ _ (.put rh e hn hs rs.last rz w2)⟩
  | .obj n, [.int i], ro, .cons .int .nil, w =>
    obtain ⟨ys, e, w1, w2, w⟩ := Opt.of w
    obtain ⟨j, ej, w⟩ := Opt.of w
    obtain ⟨y, e1, w3⟩ := Opt.of w
    obtain ⟨a, ws, rfl, hn, hs, rs⟩ := rh.lst (ownLst_of e) ro
    obtain ⟨z, ez, rz⟩ := rs.at e1
    exact mt_popAt pins s σ H _ _ v us Q I rx rxs ⟨a, ws, i, j, z, rfl, rfl, hs, w1, w2, by rw [← rs.len]; exact ej, ez, k _ _ (.put rh e hn hs (rs.era j) rz w3)⟩⟩
end
end L2

namespace L2
open PySem PySem.Spec PyProof.Rows
/-! ### isinstance -/
inductive TTag where
  | non | bl | int | str | tup | lst | ins (c : Str) | exc (c : Str)
def tyTag (h : AH) : U → Option TTag
  | .non => some .non
  | .bl _ => some .bl
  | .int _ => some .int
  | .str _ => some .str
  | .tup _ => some .tup
  | .obj n => match h[n]? with
    | some (.lst _) => some .lst
    | some (.rol _) => some .lst
    | some (.krl _) => some .lst
    | some (.ins c _) => some (.ins c)
    | some (.exc c _) => some (.exc c)
    | none => none
structure InsT (K : PySem.W.Frag) (C : Addr) : Prop where
  cl : Cls K C
  ha : PySem.W.findIn K (.ref C) "__class__" = some (some (.builtin "object.__class__"))
  hn : PySem.W.specialIn K (.builtin "object.__class__") "__get__" = some (some (.builtin "getset_descriptor.__get__"))
  htk : PySem.W.takesIn K (.builtin "object.__class__") = some true
  hm : PySem.W.mroIn K C (.type "object") = some true
def KitOk (K : PySem.W.Frag) (G : Str → Addr) (u : Value) (t : TTag) (b : Bool) : Prop := match t with
  | .non => PySem.W.kitOne K (.type "NoneType") u = some b
  | .bl => PySem.W.kitOne K (.type "bool") u = some b
  | .int => PySem.W.kitOne K (.type "int") u = some b
  | .str => PySem.W.kitOne K (.type "str") u = some b
  | .tup => PySem.W.kitOne K (.type "tuple") u = some b
  | .lst => PySem.W.kitOne K (.type "list") u = some b
  | .ins c => InsT K (G c) ∧ PySem.W.kitOne K (.ref (G c)) u = some b
  | .exc c => ExcCls K (G c) ∧ PySem.W.kitOne K (.ref (G c)) u = some b
def uIsi (f : TTag → Option Bool) : O1 := fun u h Q => Opt (tyTag h u) fun t => Opt (f t) fun b => Q (.bl b) h
section
variable {X : Cx} {B : Bs} {E : EX} {a b c e o i ec : Expr} {es : List Expr} {Wa Wb Wc We Wo Wi : WE} {Wr Wk : WA} {T : WT} {p pos pos' apos : Pos} {x m : Str}
theorem ae_isi {cv : V} {u : Value} {f : TTag → Option Bool} (hg : Gl X "isinstance") (hm : X.mg "isinstance" = none) (hcls : PE X ec (tC cv)) (hcv : clsV cv = some u) (hf : ∀ t b, f t = some b → KitOk X.K B.G u t b) (ha : AE X B E a Wa)
    (he : starEach [a, ec] X.env = (false, eval a X.env) :: starEach [ec] X.env := by rfl) (he2 : starEach [ec] X.env = [(false, eval ec X.env)] := by rfl) (hpl : (backTo pos (starEach [ec] X.env)).any (·.1) = false := by rfl) :
    AE X B E (.Call (.Name "isinstance" p) [a, ec] [] pos) (aUn (uIsi f) Wa) := ⟨(pe_callB (id := "isinstance") ((ci_isi (X := X)).or ((ci_isiT rfl).or ((ci_isiL rfl).or (ci_excA rfl)))) hg hm (by decide +kernel) (pa_cons ha.pe (pa_cons hcls pa_nil he2) he) (by decide) (by decide) he hpl).weak fun σ H Q q => by
  obtain ⟨φ, ρ, h, QA, r, w, k⟩ := q
  refine tA.mk r w fun v H1 φ1 y h1 e1 r1 ru w1 => ?_
  obtain ⟨t, et, w2⟩ := Opt.of w1
  obtain ⟨b, eb, w3⟩ := Opt.of w2
  have kk := hf t b eb
  have fin : Q (.bl b) H1 := k _ _ ⟨φ1, _, h1, e1, r1.hp, .bl, w3⟩
  cases y with
  | non => cases ru; cases et; exact .inl ⟨_, _, _, _, _, rfl, hcv, .non, kk, fin⟩
  | bl z => cases ru; cases et; exact .inl ⟨_, _, _, _, _, rfl, hcv, .bl z, kk, fin⟩
  | int z => cases ru; cases et; exact .inl ⟨_, _, _, _, _, rfl, hcv, .int z, kk, fin⟩
  | str z => cases ru; cases et; exact .inl ⟨_, _, _, _, _, rfl, hcv, .str z, kk, fin⟩
  | tup z => cases ru with | tup tt _ => cases et; exact .inr (.inl ⟨_, _, _, _, _, rfl, hcv, tt, kk, fin⟩)
  | obj n =>
    have et : (match h1[n]? with
      | some (.lst _) => some TTag.lst
      | some (.rol _) => some .lst
      | some (.krl _) => some .lst
      | some (.ins c _) => some (.ins c)
      | some (.exc c _) => some (.exc c)
      | none => none) = some t := et
    cases ru with
    | obj hn =>
      split at et
      · rename_i xs ex
        cases et
        obtain ⟨vs, hv, _⟩ := r1.hp.ob _ _ _ hn ex
        exact .inr (.inr (.inl ⟨_, _, _, _, _, rfl, hcv, SqL.of hv, kk, fin⟩))
      · rename_i xs ex
        cases et
        obtain ⟨vs, hv, _⟩ := r1.hp.ob _ _ _ hn ex
        exact .inr (.inr (.inl ⟨_, _, _, _, _, rfl, hcv, .inl hv, kk, fin⟩))
      · rename_i xs ex
        cases et
        obtain ⟨vs, hv, _⟩ := r1.hp.ob _ _ _ hn ex
        exact .inr (.inr (.inl ⟨_, _, _, _, _, rfl, hcv, .inr hv, kk, fin⟩))
      · rename_i cn fs ex
        cases et
        obtain ⟨dx, gs, hv, _⟩ := r1.hp.ob _ _ _ hn ex
        exact .inl ⟨_, _, _, _, _, rfl, hcv, .ins hv kk.1.cl kk.1.ha kk.1.hn kk.1.htk kk.1.hm, kk.2, fin⟩
      · rename_i cn efs ex
        cases et
        obtain ⟨dx, hv, _⟩ := r1.hp.ob _ _ _ hn ex
        exact .inr (.inr (.inr ⟨_, _, _, _, _, dx, kk.1, rfl, hcv, hv, kk.2, fin⟩))
      · cases et⟩
/-- a constant of the module -/
theorem ae_glob {u : U} {v : V} {uv : Value} (hg : Gl X x) (hm : X.mg x = some uv) (r : RelV v uv) (ru : ∀ H φ, RU X.K H φ u v) (hd : (x == ("__debug__" : Str)) = false := by decide) : AE X B E (.Name x pos) (aC u) := ae_const (pe_glob hg hm r hd) ru
end
/-! ### raise -/
section
variable {P : Program} {w : World} {K : PySem.W.Frag} {mg : Str → Option Value} {base : Heap} {N : List Str} {qual : Str} {scope : Scope} {f : Addr} {cd : Value} {A : Around} {outer : List Env} {s₀ : Shared} {H₀ : Hp} {E₀ : XK} {B : Bs} {E : EX}
@[reducible] def sRaise (c : Str) (R : WA) : WS := fun _ _ _ _ E ρ h => R ρ h (fun us h1 => us.length ≤ sizeLine ∧ E ρ ⟨c, []⟩ h1) (E ρ)
theorem as_raise {x : Str} {cn : Str} {bm : List Value} {Bn newId initId : String} {e : Expr} {es : List Expr} {Wr : WA} {np cpos pos : Pos} (O : OwnCls x (B.G cn) bm newId mg base) (FB : ExcBaseFacts Bn newId initId bm) (hE : ∀ σ cls dx H', xA K B E σ cls dx H' → E₀ cls dx H')
    (ha : AA (cxOf (CXR P w) P w K mg base N qual scope f cd A outer s₀ H₀ E₀) B E (e :: es) Wr) (hg : Gl (cxOf (CXR P w) P w K mg base N qual scope f cd A outer s₀ H₀ E₀) x := by rfl)
    (he : starEach (e :: es) (envOfC qual scope s₀.heap.objs.size f cd) = (false, eval e (envOfC qual scope s₀.heap.objs.size f cd)) :: starEach es (envOfC qual scope s₀.heap.objs.size f cd) := by rfl)
    (hpl : (backTo cpos (starEach es (envOfC qual scope s₀.heap.objs.size f cd))).any (·.1) = false := by rfl) (hdb : (x == ("__debug__" : Str)) = false := by decide) :
    AS (cxOf (CXR P w) P w K mg base N qual scope f cd A outer s₀ H₀ E₀) B E (.Raise (some (.Call (.Name x np) (e :: es) [] cpos)) none pos) (sRaise cn Wr) := ⟨(ps_raise O FB hg ha.pa he hpl hdb).weak fun D σ H q => by
  obtain ⟨φ, ρ, h, DA, r, w, fi⟩ := q
  refine tAA.mk r w fun vs H1 φ1 us h1 e1 r1 rus w1 => ⟨by rw [← rus.len]; exact w1.1, hE σ _ _ _ ⟨φ1, ρ, ⟨cn, []⟩, h1, r1, ⟨rfl, .inl rfl⟩, w1.2⟩⟩⟩
end
/-! ### try -/
abbrev WH := SK → UQ → SK → SK → EX → UX → SU → AH → Prop
def tAH (K : PySem.W.Frag) (B : Bs) (E : EX) (W : WH) : TH := fun D σ H a cls dx => ∃ φ ρ h DA x, R K B φ ρ h σ H ∧ (cls = .ref (B.G x.c) ∧ XF K H φ dx x.fs) ∧ H a = none ∧ W DA.nx DA.rt DA.bk DA.ct E x ρ h ∧ Fin K B φ H DA D
structure AHd (X : Cx) (B : Bs) (E : EX) (hs : List ExceptHandler) (W : WH) : Prop where
  ph : PH X hs (tAH X.K B E W)
@[reducible] def sTry (Sb : WS) (W : WH) : WS := fun nx rt bk ct E ρ h => Sb nx rt bk ct (fun ρ' x h' => W nx rt bk ct E x ρ' h') ρ h
theorem PH.weak {X : Cx} {hs : List ExceptHandler} {t t' : TH} (h : PH X hs t) (w : ∀ D σ H a cls dx, t' D σ H a cls dx → t D σ H a cls dx) : PH X hs t' := fun pins s σ H D a cls dx I fl q => h pins s σ H D a cls dx I fl (w _ _ _ _ _ _ q)
section
variable {X : Cx} {B : Bs} {E : EX} {W : WH} {Sb : WS}
theorem as_try {body : List Stmt} {h0 : ExceptHandler} {hs : List ExceptHandler} {pos : Pos} (hD : InDef X) (hb : ∀ (R : RK) (pn : List (Addr × Obj)) (φ : List Addr) (H : Hp) (E' : EX), Passes (CXR X.prog X.w) (X.tr pn R) (xA X.K ⟨B.G, φ, H⟩ E') → ASs (X.tr pn R) ⟨B.G, φ, H⟩ E' body Sb) (hh : AHd X B E (h0 :: hs) W) : AS X B E (.Try body (h0 :: hs) [] [] pos) (sTry Sb W) := ⟨by
  have hb2 : ∀ (R : RK) (pn : List (Addr × Obj)), PSs (X.tr pn R) body (fun D σ H => ∃ φ E', (∀ σ cls dx H', xA X.K ⟨B.G, φ, H⟩ E' σ cls dx H' → R σ cls dx H') ∧ tAS X.K ⟨B.G, φ, H⟩ E' Sb D σ H) := fun R pn pins s σ H D I ⟨φ, E', h1, h2⟩ => by
    refine (hb R pn φ H E' ?_).pss pins s σ H D I h2
    intro pins σ H s e s' I hx
    refine passT hD pins σ H s e s' I ?_
    obtain ⟨a, cls, dx, H', q1, q2, q3, q4, q5, q6, q7⟩ := hx
    exact ⟨a, cls, dx, H', q1, q2, q3, q4, q5, q6, h1 _ _ _ _ q7⟩
  refine (ps_tryR hD hb2 hh.ph).weak fun D σ H q => ?_
  obtain ⟨φ, ρ, h, DA, r, w, f⟩ := q
  have up : ∀ {φ' : List Addr} {ρ' : SU} {h' : AH} {σ' : St} {H' : Hp}, R X.K ⟨B.G, φ, H⟩ φ' ρ' h' σ' H' → R X.K B φ' ρ' h' σ' H' := fun q => ⟨r.ext.trans q.ext, q.st, q.hp⟩
  refine ⟨fun σ' cls dx H' => ∃ φ' ρ' x h', Ext X.K φ H φ' H' ∧ R X.K B φ' ρ' h' σ' H' ∧ (cls = .ref (B.G x.c) ∧ XF X.K H' φ' dx x.fs) ∧ W DA.nx DA.rt DA.bk DA.ct E x ρ' h', ?_, ?_⟩
  · refine ⟨φ, fun ρ' x h' => W DA.nx DA.rt DA.bk DA.ct E x ρ' h', fun σ cls dx H' ⟨φ', ρ', x, h', r', ec, z⟩ => ⟨φ', ρ', x, h', r'.ext, up r', ec, z⟩, φ, ρ, h, DA, ⟨.refl, r.st, r.hp⟩, w, ?_⟩
    exact ⟨fun φ' ρ' h' σ' H' e r' q => f.nx _ _ _ _ _ e (up r') q, f.rt, fun φ' ρ' h' σ' H' e r' q => f.bk _ _ _ _ _ e (up r') q, fun φ' ρ' h' σ' H' e r' q => f.ct _ _ _ _ _ e (up r') q⟩
  · rintro σ' H' a cls dx ⟨φ', ρ', x, h', e, r', ec, w'⟩ ha
    exact ⟨φ', ρ', h', DA, x, r', ec, ha, w', f.step e⟩⟩
/-- which classes an except clause takes -/
def ExOk (K : PySem.W.Frag) (G : Str → Addr) (c : Value) (f : Str → Option Bool) : Prop := ∀ n b, f n = some b → PySem.W.exmOne K (.ref (G n)) c = some b
@[reducible] def hCons (f : Str → Option Bool) (Ss : WS) (W : WH) : WH := fun nx rt bk ct E x ρ h => Opt (f x.c) fun b => Br b (Ss nx rt bk ct X0 ρ (h ++ [.exc x.c x.fs])) (W nx rt bk ct E x ρ h)
def hNone : WH := fun _ _ _ _ _ _ _ _ => False
theorem ah_none {hs : List ExceptHandler} : AHd X B E hs hNone := ⟨fun _ _ _ _ _ _ _ _ _ _ ⟨_, _, _, _, _, _, _, _, z, _⟩ => z.elim⟩
theorem ah_cons {x : Str} {c : Value} {f : Str → Option Bool} {np pos : Pos} {b0 : Stmt} {suite : List Stmt} {rest : List ExceptHandler} {Ss : WS} (hD : InDef X) (hn : NameIs X x c) (hf : ExOk X.K B.G c f) (hs : ∀ a, ASs (X.hdl a) B X0 (b0 :: suite) Ss) (hr : AHd X B E rest W) :
    AHd X B E (.ExceptHandler (some (.Name x np)) none (b0 :: suite) pos :: rest) (hCons f Ss W) := ⟨PH.weak (ph_cons (ts := tAS X.K B X0 Ss) hD hn (fun a => (hs a).pss) hr.ph) fun D σ H a cls dx q => by
  obtain ⟨φ, ρ, h, DA, x, r, ⟨ec, ef⟩, ha, w, fi⟩ := q
  obtain ⟨b, eb, w1⟩ := Opt.of w
  refine ⟨b, by rw [ec]; exact hf _ _ eb, ?_⟩
  cases b with
  | false => exact ⟨φ, ρ, h, DA, x, r, ⟨ec, ef⟩, ha, w1, fi⟩
  | true =>
    have ex : Ext X.K φ H (φ ++ [a]) (upd H a (excO a cls dx)) := .push ha
    exact ⟨φ ++ [a], ρ, _, DA, r.step ex (r.hp.push (ao := .exc x.c x.fs) ha ⟨dx, by rw [upd_same, ec], ef.mono ex⟩), w1, fi.step ex⟩⟩
end
end L2

namespace L2
open PySem PySem.Spec PyProof.Rows
section
variable {X : Cx} {B : Bs} {E : EX} {a b c e o i ec : Expr} {es : List Expr} {Wa Wb Wc We Wo Wi : WE} {Wr Wk : WA} {T : WT} {p p2 pos pos' apos : Pos} {x m : Str}
theorem av (i : Nat) {x : Str} {pos : Pos} (hN : X.N[i]? = some x := by rfl) (hv : Vis X.env.scope x := by first | exact Or.inl rfl | exact Or.inr (Or.inl rfl) | exact Or.inr (Or.inr rfl)) (hd : (x == ("__debug__" : Str)) = false := by decide)
    (hcd : (x == ("__classdict__" : Str)) = false := by decide) : AE X B E (.Name x pos) (aVar i) := ae_var hN hv hd hcd
/-- in, not in: data -/
def uIn (neg : Bool) : O2 := fun a b h Q => match b with
  | .str z => match a with
    | .str y => Q (.bl (if neg then !(!(Builtin.Str.occurrences z y 0 z.length 1).isEmpty) else !(Builtin.Str.occurrences z y 0 z.length 1).isEmpty)) h
    | _ => False
  | b => Opt (itemsOf h b) fun xs => Opt (datL (dat h 9) xs) fun ds => Opt (dat h 9 a) fun d => PyData.canLayAll0 ds = true ∧ SeqAt.shaped d = true ∧ Q (.bl (if neg then !(ds.any fun e => PyData.eqv e d) else ds.any fun e => PyData.eqv e d)) h
theorem in_low {neg : Bool} {K : PySem.W.Frag} {G : Str → Addr} {φ : List Addr} {h : AH} {H : Hp} {QA : UQ} {Q : VK} {a b : U} {x y : V} (nb : ∀ z, b ≠ .str z) (rh : RH K G φ h H) (ra : RU K H φ a x) (rb : RU K H φ b y) (w : uIn neg a b h QA) (k : ∀ v H', AQ K G φ H QA v H' → Q v H') : rInD K neg x y H Q := by
  have w : Opt (itemsOf h b) fun xs => Opt (datL (dat h 9) xs) fun ds => Opt (dat h 9 a) fun d => PyData.canLayAll0 ds = true ∧ SeqAt.shaped d = true ∧ QA (.bl (if neg then !(ds.any fun e => PyData.eqv e d) else ds.any fun e => PyData.eqv e d)) h := by
    cases b <;> first | exact absurd rfl (nb _) | exact w
  obtain ⟨xs, e1, w⟩ := Opt.of w
  obtain ⟨ds, e2, w⟩ := Opt.of w
  obtain ⟨d, e3, w1, w2, w3⟩ := Opt.of w
  have dx := dat_dp rh 9 e3 ra
  cases b <;> first | cases e1 | skip
  · cases rb with
    | tup t rs => exact ⟨_, _, ds, d, rfl, .inr t, datL_dp (fun u d v => dat_dp rh 9) e2 rs, dx, w1, w2, k _ _ (.here rh .bl w3)⟩
  · obtain ⟨p, vs, rfl, _, hs, rs⟩ := rh.rol (lstAt_of e1) rb
    exact ⟨_, _, ds, d, rfl, .inl hs, datL_dp (fun u d v => dat_dp rh 9) e2 rs, dx, w1, w2, k _ _ (.here rh .bl w3)⟩
theorem ao_in (hu : X.A.units + 65 < cLine) : AOp X B.G (compareOp .In) (uIn false) := ⟨by
  rintro pins s σ H x y v u Q I rx ry ⟨φ, a, b, h, QA, rh, ra, rb, w, k⟩
  by_cases hb : ∃ z, b = .str z
  · obtain ⟨z, rfl⟩ := hb
    cases a <;> first | exact w.elim | skip
    cases ra; cases rb
    exact op_in_str pins s σ H _ _ v u Q I rx ry ⟨_, _, rfl, rfl, k _ _ (.here rh .bl w)⟩
  · exact op_inD hu pins s σ H x y v u Q I rx ry (in_low (fun z e => hb ⟨z, e⟩) rh ra rb w k)⟩
end
end L2

namespace L2
open PySem PySem.Spec PyProof.Rows
theorem Room.units65 {k : Nat} {A : Around} (r : Room k A) : A.units + 65 < cLine := by have := r.un; omega
abbrev EXCB : List Value := [.type "ValueError", .type "Exception", .type "BaseException", .type "object"]
def KitT (K : PySem.W.Frag) (G : Str → Addr) (u : Value) (f : TTag → Option Bool) : Prop := ∀ t b, f t = some b → KitOk K G u t b
def is_int : TTag → Option Bool
  | .ins _ => none
  | .exc _ => none
  | .bl => some true
  | .int => some true
  | _ => some false
def is_bool : TTag → Option Bool
  | .ins _ => none
  | .exc _ => none
  | .bl => some true
  | _ => some false
def is_tuple : TTag → Option Bool
  | .ins _ => none
  | .exc _ => none
  | .tup => some true
  | _ => some false
def is_list : TTag → Option Bool
  | .ins _ => none
  | .exc _ => none
  | .lst => some true
  | _ => some false
def is_str : TTag → Option Bool
  | .ins _ => none
  | .exc _ => none
  | .str => some true
  | _ => some false
theorem kitT_mk {K : PySem.W.Frag} {G : Str → Addr} {u : Value} {f : TTag → Option Bool} (h1 : ∀ b, f .non = some b → PySem.W.kitOne K (.type "NoneType") u = some b) (h2 : ∀ b, f .bl = some b → PySem.W.kitOne K (.type "bool") u = some b) (h3 : ∀ b, f .int = some b → PySem.W.kitOne K (.type "int") u = some b)
    (h4 : ∀ b, f .str = some b → PySem.W.kitOne K (.type "str") u = some b) (h5 : ∀ b, f .tup = some b → PySem.W.kitOne K (.type "tuple") u = some b) (h6 : ∀ b, f .lst = some b → PySem.W.kitOne K (.type "list") u = some b) (h7 : ∀ c, f (.ins c) = none) (h8 : ∀ c, f (.exc c) = none) : KitT K G u f := by
  intro t b e
  cases t with
  | non => exact h1 b e
  | bl => exact h2 b e
  | int => exact h3 b e
  | str => exact h4 b e
  | tup => exact h5 b e
  | lst => exact h6 b e
  | ins c => rw [h7] at e; cases e
  | exc c => rw [h8] at e; cases e
theorem KU.nil {K : PySem.W.Frag} : KU K [] [] := fun _ _ => .nil
theorem Met.fam {P : Program} {w : World} {K : PySem.W.Frag} {mg : Str → Option Value} {base : Heap} {k : Nat} {C : Addr} {m : Str} {ps : List Str} {sp : Sp} (M : Met P w K mg base k C m ps sp) : MetD P w K mg base k C m ps [] sp := by
  obtain ⟨f, fd, h1, h2, h3⟩ := M.ex
  exact ⟨M.cl, f, fd, [], h1, h2, h3, .nil⟩
theorem FnOk.up {P : Program} {w : World} {K : PySem.W.Frag} {mg : Str → Option Value} {base : Heap} {CX : CXT} {k k' : Nat} {f : Addr} {fd : FuncData} {ps : List Str} {sp : Sp} (F : FnOk P w K mg base CX k f fd ps sp) (h : k ≤ k') : FnOk P w K mg base CX k' f fd ps sp :=
  ⟨F.len, fun A outer s H args us vs Q E hr => F.run A outer s H args us vs Q E (hr.mono h)⟩
theorem mfam1 {X : Cx} {G : Str → Addr} {k : Nat} {c m : Str} {ps : List Str} {W : WF} (M : Met X.prog X.w X.K X.mg X.base k (G c) m ps (spA X.K G W)) : MFam X G k m [] [(c, W)] := ⟨fun c' W' e => by
  rw [List.lookup_cons] at e
  cases h : c' == c with
  | true => rw [h] at e; cases e; have := beq_iff_eq.mp h; subst this; exact ⟨ps, [], M.fam, .nil⟩
  | false => rw [h] at e; cases e⟩
end L2

namespace L2
open PySem PySem.Spec PyProof.Rows
/-- what the law is asked: a script of whole numbers, and True -/
def spL (K : PySem.W.Frag) : Sp := fun vs H Q _ => ∃ (a : Addr) (ns : List Int), vs = [.ref a] ∧ SqL K H a (ns.map V.int) ∧ ns.length ≤ 63 ∧ ∀ H', Q (.bl true) H'
section
variable {P : Program} {w : World} {K : PySem.W.Frag} {mg : Str → Option Value} {base : Heap} {G : Str → Addr} {k : Nat} {f : Addr} {fd : FuncData} {ps : List Str} {W : WF}
theorem FnOk.law (F : FnOk P w K mg base (CXR P w) k f fd ps (spA K G W)) (hl : ps.length = 1)
    (hW : ∀ (h : AH) (sc : Nat) (ns : List Int), lstAt h sc = some (ns.map U.int) → ns.length ≤ 63 → W [.obj sc] h (fun u _ => u = .bl true) (fun _ _ => False)) : FnOk P w K mg base (CXR P w) k f fd ps (spL K) := by
  refine ⟨fun vs H Q E ⟨a, ns, e, _⟩ => by rw [e, hl]; rfl, fun A outer s H args us vs Q E hr e0 hb r hsp => F.run A outer s H args us vs Q E hr e0 hb r ?_⟩
  obtain ⟨a, ns, rfl, hs, hn, q⟩ := hsp
  have fin : ∀ (o : AO), RObj K G H [a] a o → lstAt [o] 0 = some (ns.map U.int) → spA K G W [.ref a] H Q E := fun o ro hl0 => by
    refine ⟨[a], [.obj 0], [o], fun u _ => u = .bl true, fun _ _ => False, .cons (.obj rfl) .nil, ⟨rfl, fun m n b e1 e2 => ?_, fun n b ob e1 e2 => ?_⟩, hW _ _ ns hl0 hn, fun v H' ⟨φ', u, h', _, _, ru, e⟩ => ?_, fun cls dx H' ⟨_, _, _, _, _, _, z⟩ => z.elim⟩
    · have h1 := (List.getElem?_eq_some_iff.mp e1).1
      have h2 := (List.getElem?_eq_some_iff.mp e2).1
      simp at h1 h2
      exact .inl (by omega)
    · have h1 := (List.getElem?_eq_some_iff.mp e1).1
      simp at h1
      subst h1
      cases e1; cases e2
      exact ro
    · subst e; cases ru; exact q H'
  rcases hs with hs | hs
  · exact fin (.rol (ns.map U.int)) ⟨_, hs, RUs.ofInts⟩ rfl
  · exact fin (.krl (ns.map U.int)) ⟨_, hs, RUs.ofInts⟩ rfl
theorem walkL {l : PySem.W.OpenLaw} {q : Program} {loose : List Str} {XP : (Str → Option Value) → Heap → Prop} {YP : World → Heap → Prop} {d : DefRec} {K : Params → PySem.W.Frag} {k : Nat} (hn : l.most = some 63) (hdf : d.params.defaults = []) (hr : Room k callerA)
    (hY : ∀ (w : World) (h : Heap), YP w h → (K w.params).In h)
    (F : ∀ (w : World) (mg : Str → Option Value) (fa : Addr) (h : Heap), (K w.params).In h → h.Ns mainGlobals mg → mg d.name = some (.ref fa) →
      ∃ fd : FuncData, (∀ (s : Shared) (u : Value), BindsTo s fd ⟨[u], []⟩ [("_law_script", u)]) ∧ ∀ base : Heap, (K w.params).In base → base.Ns mainGlobals mg → FnOk l.prog w (K w.params) mg base (CXR l.prog w) k fa fd ["_law_script"] (spL (K w.params))) :
    PySem.W.WalkO q loose XP YP l.row.toRowW d [] (fun f vs => PySem.call f vs) :=
  L2.walk_of (n := 63) (k := k) (x := "_law_script") (CX := fun w => CXR l.prog w) (sp := fun w => spL (K w.params)) hn (by decide) hdf hr hY F (fun _ _ a ns hl _ hS => ⟨a, ns, rfl, hS, hl, fun _ => rfl⟩) fun _ _ _ _ _ z => CXR.no z
end
/-! ### what the top has written -/
section
variable {K : PySem.W.Frag} {h : Heap} {mg : Str → Option Value} {G : Str → Addr}
theorem int_mk {x : Str} {v : Int} {tk : Tok} (X : K.In h) (N : h.Ns mainGlobals mg) (z : PySem.W.nsIn K mainGlobals x = some (some (.int v tk))) : ∃ tk, mg x = some (.int v tk) := ⟨_, PySem.W.mg_of X N z⟩
theorem str_mk {x v : Str} {tk : Tok} (X : K.In h) (N : h.Ns mainGlobals mg) (z : PySem.W.nsIn K mainGlobals x = some (some (.str v tk))) : ∃ tk, mg x = some (.str v tk) := ⟨_, PySem.W.mg_of X N z⟩
theorem tup2_mk {x : Str} {a b : Int} {A : Addr} {o : Obj} {k0 k1 : Tok} {n : Nat} (X : K.In h) (N : h.Ns mainGlobals mg) (z : PySem.W.nsIn K mainGlobals x = some (some (.ref A))) (t : K.lookup A = some o) (c : o.cls = .type "tuple") (d : o.data = .seq #[.int a k0, .int b k1] n) :
    ∃ A, mg x = some (.ref A) ∧ ∀ H φ, RU K H φ (.tup [.int a, .int b]) (.ref A) :=
  ⟨A, PySem.W.mg_of X N z, fun H φ => .tup (vs := [.int a, .int b]) (.inr ⟨o, _, _, t, c, d, (by show 2 ≤ sizeLine; decide), .cons ⟨_, rfl⟩ (.cons ⟨_, rfl⟩ .nil)⟩) (.cons .int (.cons .int .nil))⟩
theorem kit_int (h1 : PySem.W.kitOne K (.type "NoneType") (.type "int") = some false) (h2 : PySem.W.kitOne K (.type "bool") (.type "int") = some true) (h3 : PySem.W.kitOne K (.type "int") (.type "int") = some true)
    (h4 : PySem.W.kitOne K (.type "str") (.type "int") = some false) (h5 : PySem.W.kitOne K (.type "tuple") (.type "int") = some false) (h6 : PySem.W.kitOne K (.type "list") (.type "int") = some false) : KitT K G (.type "int") is_int :=
  kitT_mk (fun b e => by cases e; exact h1) (fun b e => by cases e; exact h2) (fun b e => by cases e; exact h3) (fun b e => by cases e; exact h4) (fun b e => by cases e; exact h5) (fun b e => by cases e; exact h6) (fun _ => rfl) (fun _ => rfl)
theorem kit_bool (h1 : PySem.W.kitOne K (.type "NoneType") (.type "bool") = some false) (h2 : PySem.W.kitOne K (.type "bool") (.type "bool") = some true) (h3 : PySem.W.kitOne K (.type "int") (.type "bool") = some false)
    (h4 : PySem.W.kitOne K (.type "str") (.type "bool") = some false) (h5 : PySem.W.kitOne K (.type "tuple") (.type "bool") = some false) (h6 : PySem.W.kitOne K (.type "list") (.type "bool") = some false) : KitT K G (.type "bool") is_bool :=
  kitT_mk (fun b e => by cases e; exact h1) (fun b e => by cases e; exact h2) (fun b e => by cases e; exact h3) (fun b e => by cases e; exact h4) (fun b e => by cases e; exact h5) (fun b e => by cases e; exact h6) (fun _ => rfl) (fun _ => rfl)
theorem kit_tuple (h1 : PySem.W.kitOne K (.type "NoneType") (.type "tuple") = some false) (h2 : PySem.W.kitOne K (.type "bool") (.type "tuple") = some false) (h3 : PySem.W.kitOne K (.type "int") (.type "tuple") = some false)
    (h4 : PySem.W.kitOne K (.type "str") (.type "tuple") = some false) (h5 : PySem.W.kitOne K (.type "tuple") (.type "tuple") = some true) (h6 : PySem.W.kitOne K (.type "list") (.type "tuple") = some false) : KitT K G (.type "tuple") is_tuple :=
  kitT_mk (fun b e => by cases e; exact h1) (fun b e => by cases e; exact h2) (fun b e => by cases e; exact h3) (fun b e => by cases e; exact h4) (fun b e => by cases e; exact h5) (fun b e => by cases e; exact h6) (fun _ => rfl) (fun _ => rfl)
theorem kit_list (h1 : PySem.W.kitOne K (.type "NoneType") (.type "list") = some false) (h2 : PySem.W.kitOne K (.type "bool") (.type "list") = some false) (h3 : PySem.W.kitOne K (.type "int") (.type "list") = some false)
    (h4 : PySem.W.kitOne K (.type "str") (.type "list") = some false) (h5 : PySem.W.kitOne K (.type "tuple") (.type "list") = some false) (h6 : PySem.W.kitOne K (.type "list") (.type "list") = some true) : KitT K G (.type "list") is_list :=
  kitT_mk (fun b e => by cases e; exact h1) (fun b e => by cases e; exact h2) (fun b e => by cases e; exact h3) (fun b e => by cases e; exact h4) (fun b e => by cases e; exact h5) (fun b e => by cases e; exact h6) (fun _ => rfl) (fun _ => rfl)
theorem kit_str (h1 : PySem.W.kitOne K (.type "NoneType") (.type "str") = some false) (h2 : PySem.W.kitOne K (.type "bool") (.type "str") = some false) (h3 : PySem.W.kitOne K (.type "int") (.type "str") = some false)
    (h4 : PySem.W.kitOne K (.type "str") (.type "str") = some true) (h5 : PySem.W.kitOne K (.type "tuple") (.type "str") = some false) (h6 : PySem.W.kitOne K (.type "list") (.type "str") = some false) : KitT K G (.type "str") is_str :=
  kitT_mk (fun b e => by cases e; exact h1) (fun b e => by cases e; exact h2) (fun b e => by cases e; exact h3) (fun b e => by cases e; exact h4) (fun b e => by cases e; exact h5) (fun b e => by cases e; exact h6) (fun _ => rfl) (fun _ => rfl)
/-- an own class -/
structure ClsX (K : PySem.W.Frag) (mg : Str → Option Value) (x : Str) (C : Addr) : Prop where
  cl : Cls K C
  mks : PySem.W.makesIn K C = true
  kc : PySem.W.keepIn K (.ref C) = true
  nm : mg x = some (.ref C)
theorem clsX_mk {x : Str} {C : Addr} (X : K.In h) (N : h.Ns mainGlobals mg) (aC : PySem.W.nsIn K mainGlobals x = some (some (.ref C))) (pg : PySem.W.plainGet K C Str.empty = true) (hd : PySem.W.hasDictIn K C = true) (po : PySem.W.plainOver K C = true) (sa : PySem.W.findIn K (.ref C) "__setattr__" = some (some (.builtin "object.__setattr__"))) (mk : PySem.W.makesIn K C = true) (kc : PySem.W.keepIn K (.ref C) = true) : ClsX K mg x C :=
  ⟨⟨pg, hd, po, sa⟩, mk, kc, PySem.W.mg_of X N aC⟩
theorem fld1 {c f : Str} (cl : Cls K (G c)) (na : PySem.W.findIn K (.ref (G c)) f = some none) : FldOk K G [c] f := ⟨fun d hd => by rw [List.mem_singleton] at hd; subst hd; exact cl, fun d hd => by rw [List.mem_singleton] at hd; subst hd; exact na⟩
end
end L2

namespace L2
open PySem PySem.Spec PyProof.Rows
section
variable {X : Cx} {B : Bs}
/-- xs.count(y), data -/
def uCount : OM := fun o us h Q => match o, us with
  | .obj n, [u] => Opt (lstAt h n) fun xs => Opt (datL (dat h 9) xs) fun ds => Opt (dat h 9 u) fun d => PyData.canLayAll0 ds = true ∧ SeqAt.shaped d = true ∧ Q (.int ((ds.countP fun e => PyData.eqv e d : Nat) : Int)) h
  | _, _ => False
end
end L2

namespace L2
open PySem PySem.W PyProof.Rows
/-! ### the tree of questions of a sort: its answer rises -/
/-- every question is of two of the n, answered by their keys; then Q -/
def tOk {α : Type} (n : Nat) (key : Nat → Int) : KasT α → (α → Prop) → Prop
  | .ret a, Q => Q a
  | .ask i j k, Q => i < n ∧ j < n ∧ tOk n key (k (decide (key i < key j))) Q
theorem tOk_bind {α β : Type} {n : Nat} {key : Nat → Int} {f : α → KasT β} {Q : β → Prop} : ∀ (t : KasT α), tOk n key t (fun a => tOk n key (f a) Q) → tOk n key (t.bind f) Q
  | .ret _, h => h
  | .ask _ _ k, h => ⟨h.1, h.2.1, tOk_bind (k _) h.2.2⟩
theorem tOk_mono {α : Type} {n : Nat} {key : Nat → Int} {Q R : α → Prop} (hq : ∀ a, Q a → R a) : ∀ (t : KasT α), tOk n key t Q → tOk n key t R
  | .ret _, h => hq _ h
  | .ask _ _ k, h => ⟨h.1, h.2.1, tOk_mono hq (k _) h.2.2⟩
section
variable {n : Nat} {key : Nat → Int}
abbrev kyA (key : Nat → Int) (p : Array Nat) (i : Nat) : Int := key (p.getD i 0)
structure PmA (n : Nat) (p : Array Nat) : Prop where
  pm : p.Perm (List.toArray (List.range n))
theorem PmA.size {p : Array Nat} (h : PmA n p) : p.size = n := by have := h.pm.size_eq; simpa using this
theorem PmA.lt {p : Array Nat} (h : PmA n p) {i : Nat} (hi : i < n) : p.getD i 0 < n := by
  have hs := h.size
  have e : p.getD i 0 = p[i]'(by omega) := by simp [Array.getD, show i < p.size by omega]
  rw [e]
  have : p[i]'(by omega) ∈ p := Array.getElem_mem _
  have := h.pm.mem_iff.mp this
  simpa using this
def Up (key : Nat → Int) (p : Array Nat) (m : Nat) : Prop := ∀ i j, i ≤ j → j < m → kyA key p i ≤ kyA key p j
def Dn (key : Nat → Int) (p : Array Nat) (m : Nat) : Prop := ∀ i j, i ≤ j → j < m → kyA key p j ≤ kyA key p i
theorem getD_of {p q : Array Nat} {i j : Nat} (h : p[i]? = q[j]?) : p.getD i 0 = q.getD j 0 := by
  rw [Array.getD_eq_getD_getElem?, Array.getD_eq_getD_getElem?, h]
theorem ky_rev {p : Array Nat} {i j : Nat} (hj : j ≤ p.size) (k : Nat) : kyA key (kas_rev p i j) k = if i ≤ k ∧ k < j then kyA key p (i + j - 1 - k) else kyA key p k := by
  have e := getElem?_mirror_all (xs := p) (i := i) hj k
  unfold kyA kas_rev
  by_cases c : i ≤ k ∧ k < j
  · rw [if_pos c] at e ⊢; rw [getD_of e]
  · rw [if_neg c] at e ⊢; rw [getD_of e]
theorem pm_rev {p : Array Nat} {i j : Nat} (h : PmA n p) : PmA n (kas_rev p i j) := ⟨(mirror_perm _ _ _ _).trans h.pm⟩
theorem asc_ok {p : Array Nat} (h : PmA n p) {nrem : Nat} (hn : nrem ≤ n) : ∀ (f m : Nat), 1 ≤ m → m + f = nrem → Up key p m → tOk n key (kas_asc p f m) (fun m' => m ≤ m' ∧ m' ≤ nrem ∧ Up key p m' ∧ (m' < nrem → kyA key p m' < kyA key p (m' - 1)))
  | 0, m, h1, e, u => ⟨by omega, by omega, u, fun z => by omega⟩
  | f + 1, m, h1, e, u => by
    refine ⟨h.lt (by omega), h.lt (by omega), ?_⟩
    by_cases c : key (p.getD m 0) < key (p.getD (m - 1) 0)
    · rw [decide_eq_true c]; dsimp only; rw [if_pos rfl]
      exact ⟨by omega, by omega, u, fun _ => c⟩
    · rw [decide_eq_false c]; dsimp only; rw [if_neg (by simp)]
      refine tOk_mono ?_ _ (asc_ok h hn f (m + 1) (by omega) (by omega) ?_)
      · rintro a ⟨a1, a2, a3, a4⟩; exact ⟨by omega, a2, a3, a4⟩
      · intro i j hij hj
        by_cases hjm : j < m
        · exact u i j hij hjm
        · have : j = m := by omega
          subst this
          by_cases him : i = j
          · subst him; exact Int.le_refl _
          · have a := u i (j - 1) (by omega) (by omega)
            have b : kyA key p (j - 1) ≤ kyA key p j := by show key _ ≤ key _; omega
            omega
/-- the last q + 1 of the first m are alike -/
def Ek (key : Nat → Int) (p : Array Nat) (m q : Nat) : Prop := q + 1 ≤ m ∧ ∀ k, m - (q + 1) ≤ k → k < m → kyA key p k = kyA key p (m - 1)
theorem rev_eq {p : Array Nat} {m q : Nat} (hm : m ≤ p.size) (e : Ek key p m q) (k : Nat) : kyA key (kas_rev p (m - (q + 1)) m) k = kyA key p k := by
  rw [ky_rev hm]
  split
  · have := e.1
    rw [e.2 _ (by omega) (by omega), e.2 k (by omega) (by omega)]
  · rfl
theorem Dn.step {p : Array Nat} {m : Nat} (d : Dn key p m) (h1 : 1 ≤ m) (c : kyA key p m ≤ kyA key p (m - 1)) : Dn key p (m + 1) := by
  intro i j hij hj
  by_cases hjm : j < m
  · exact d i j hij hjm
  · have : j = m := by omega
    subst this
    by_cases him : i = j
    · subst him; exact Int.le_refl _
    · have a := d i (j - 1) (by omega) (by omega)
      omega
theorem desc_ok {nrem : Nat} (hn : nrem ≤ n) : ∀ (f : Nat) (p : Array Nat) (m q : Nat), PmA n p → 1 ≤ m → m + f = nrem → Dn key p m → Ek key p m q → tOk n key (kas_desc f p m q) (fun r => PmA n r.1 ∧ 1 ≤ r.2.1 ∧ r.2.1 ≤ nrem ∧ Dn key r.1 r.2.1 ∧ Ek key r.1 r.2.1 r.2.2)
  | 0, p, m, q, h, h1, e, d, k => ⟨h, h1, (show m ≤ nrem by omega), d, k⟩
  | f + 1, p, m, q, h, h1, e, d, k => by
    have hs := h.size
    refine ⟨h.lt (by omega), h.lt (by omega), ?_⟩
    by_cases c : key (p.getD m 0) < key (p.getD (m - 1) 0)
    · rw [decide_eq_true c]; dsimp only; rw [if_pos rfl]
      by_cases hq : q > 0
      · rw [if_pos hq]
        have re := rev_eq (key := key) (p := p) (m := m) (q := q) (by omega) k
        refine desc_ok hn f _ (m + 1) 0 (pm_rev h) (by omega) (by omega) (Dn.step (fun i j a b => by rw [re, re]; exact d i j a b) h1 (by rw [re, re]; exact Int.le_of_lt c)) ⟨by omega, fun x y z => by rw [show x = m by omega]; rfl⟩
      · rw [if_neg hq]
        exact desc_ok hn f p (m + 1) 0 h (by omega) (by omega) (d.step h1 (Int.le_of_lt c)) ⟨by omega, fun x y z => by rw [show x = m by omega]; rfl⟩
    · rw [decide_eq_false c]; dsimp only; rw [if_neg (by simp)]
      refine ⟨h.lt (by omega), h.lt (by omega), ?_⟩
      by_cases c2 : key (p.getD (m - 1) 0) < key (p.getD m 0)
      · rw [decide_eq_true c2]; dsimp only; rw [if_pos rfl]
        exact ⟨h, h1, (show m ≤ nrem by omega), d, k⟩
      · rw [decide_eq_false c2]; dsimp only; rw [if_neg (by simp)]
        have eq : kyA key p m = kyA key p (m - 1) := by show key _ = key _; omega
        refine desc_ok hn f p (m + 1) (q + 1) h (by omega) (by omega) (d.step h1 (by omega)) ⟨by have := k.1; omega, fun x y z => ?_⟩
        rw [show m + 1 - 1 = m by omega]
        by_cases hx : x = m
        · rw [hx]
        · rw [k.2 x (by omega) (by omega), eq]
abbrev Run (n : Nat) (key : Nat → Int) (nrem : Nat) : Nat × Array Nat → Prop := fun r => PmA n r.2 ∧ r.1 ≤ nrem ∧ 1 ≤ r.1 ∧ Up key r.2 r.1
theorem tail3_ok {p : Array Nat} {m nrem : Nat} (hn : nrem ≤ n) (h : PmA n p) (h1 : 1 ≤ m) (hm : m ≤ nrem) (d : Dn key p m) : tOk n key (kas_tail3 m nrem p) (Run n key nrem) := by
  have hs := h.size
  refine tOk_bind _ (tOk_mono ?_ _ (asc_ok (pm_rev h) hn (nrem - m) m h1 (by omega) ?_))
  · rintro a ⟨a1, a2, a3, _⟩; exact ⟨pm_rev h, a2, by omega, a3⟩
  · intro i j hij hj
    rw [ky_rev (by omega), ky_rev (by omega), if_pos ⟨by omega, by omega⟩, if_pos ⟨by omega, by omega⟩]
    exact d _ _ (by omega) (by omega)
theorem descPart_ok {p : Array Nat} {m nrem : Nat} (hn : nrem ≤ n) (h : PmA n p) (h1 : 1 ≤ m) (hm : m + 1 ≤ nrem) (d : Dn key p (m + 1)) : tOk n key (kas_descPart m nrem p) (Run n key nrem) := by
  refine tOk_bind _ (tOk_mono ?_ _ (desc_ok hn (nrem - (m + 1)) p (m + 1) 0 h (by omega) (by omega) d ⟨by omega, fun x y z => by rw [show x = m by omega]; rfl⟩))
  rintro ⟨p', m', q'⟩ ⟨a1, a2, a3, a4, a5⟩
  dsimp only at a1 a2 a3 a4 a5 ⊢
  by_cases hq : q' > 0
  · rw [if_pos hq]
    have re := rev_eq (key := key) (p := p') (m := m') (q := q') (by rw [a1.size]; omega) a5
    exact tail3_ok hn (pm_rev a1) a2 a3 (fun i j a b => by rw [re, re]; exact a4 i j a b)
  · rw [if_neg hq]; exact tail3_ok hn a1 a2 a3 a4
theorem count_ok {p : Array Nat} (h : PmA n p) (hn : 1 ≤ n) : tOk n key (kas_count n p) (Run n key n) := by
  have hs := h.size
  refine tOk_bind _ (tOk_mono ?_ _ (asc_ok h (Nat.le_refl n) (n - 1) 1 (by omega) (by omega) (fun i j a b => by rw [show i = j by omega]; exact Int.le_refl _)))
  rintro m ⟨a1, a2, a3, a4⟩
  by_cases c : (m == n) = true
  · rw [if_pos c]; exact ⟨h, a2, a1, a3⟩
  · rw [if_neg c]
    have c' : m ≠ n := by simpa using c
    have lt := a4 (by omega)
    by_cases c1 : m > 1
    · rw [if_pos c1]
      refine ⟨h.lt (by omega), h.lt (by omega), ?_⟩
      by_cases c2 : key (p.getD 0 0) < key (p.getD (m - 1) 0)
      · rw [decide_eq_true c2]; dsimp only; rw [if_pos rfl]; exact ⟨h, a2, a1, a3⟩
      · rw [decide_eq_false c2]; dsimp only; rw [if_neg (by simp)]
        have all : ∀ k, k < m → kyA key p k = kyA key p (m - 1) := fun k hk => by
          have b1 := a3 0 k (by omega) hk
          have b2 := a3 k (m - 1) (by omega) (by omega)
          have b3 : ¬ kyA key p 0 < kyA key p (m - 1) := c2
          omega
        have re : ∀ k, kyA key (kas_rev p 0 m) k = kyA key p k := fun k => by
          rw [ky_rev (by omega)]
          split
          · rw [all _ (by omega), all k (by omega)]
          · rfl
        refine descPart_ok (Nat.le_refl n) (pm_rev h) a1 (by omega) (Dn.step (fun i j a b => by rw [re, re, all i (by omega), all j (by omega)]; exact Int.le_refl _) a1 (by rw [re, re]; exact Int.le_of_lt lt))
    · rw [if_neg c1]
      have : m = 1 := by omega
      subst this
      exact descPart_ok (Nat.le_refl n) h (by omega) (by omega) (Dn.step (fun i j a b => by rw [show i = j by omega]; exact Int.le_refl _) (by omega) (Int.le_of_lt lt))
theorem place_ok {p : Array Nat} (h : PmA n p) {k : Nat} (hk : k < n) : ∀ (f l r : Nat), l ≤ r → r ≤ k → r - l ≤ f → (∀ i, i < l → kyA key p i ≤ kyA key p k) → (∀ i, r ≤ i → i < k → kyA key p k < kyA key p i) → Up key p k → tOk n key (kas_place p k f l r) (fun l' => l' ≤ k ∧ (∀ i, i < l' → kyA key p i ≤ kyA key p k) ∧ ∀ i, l' ≤ i → i < k → kyA key p k < kyA key p i)
  | 0, l, r, h1, h2, h3, a, b, u => ⟨by omega, a, fun i x y => b i (by omega) y⟩
  | f + 1, l, r, h1, h2, h3, a, b, u => by
    unfold kas_place
    by_cases c : l ≥ r
    · rw [if_pos c]
      exact ⟨by omega, a, fun i x y => b i (by omega) y⟩
    · rw [if_neg c]
      refine ⟨h.lt hk, h.lt (by omega), ?_⟩
      by_cases c2 : key (p.getD k 0) < key (p.getD ((l + r) / 2) 0)
      · rw [decide_eq_true c2]; dsimp only; rw [if_pos rfl]
        refine place_ok h hk f l ((l + r) / 2) (by omega) (by omega) (by omega) a (fun i x y => ?_) u
        have := u ((l + r) / 2) i x (by omega)
        have c3 : kyA key p k < kyA key p ((l + r) / 2) := c2
        omega
      · rw [decide_eq_false c2]; dsimp only; rw [if_neg (by simp)]
        refine place_ok h hk f ((l + r) / 2 + 1) r (by omega) h2 (by omega) (fun i x => ?_) b u
        have := u i ((l + r) / 2) (by omega) (by omega)
        have c3 : ¬ kyA key p k < kyA key p ((l + r) / 2) := c2
        omega
theorem ky_bubble {p : Array Nat} {src d : Nat} (lt : src < p.size) (le : d ≤ src) (k : Nat) : kyA key (bubble p src d) k = if k = src - d then kyA key p src else if src - d < k ∧ k ≤ src then kyA key p (k - 1) else kyA key p k := by
  have at_ := getElem?_bubble lt d le k
  delta kyA
  by_cases c : k = src - d
  · rw [if_pos c] at at_ ⊢
    exact congrArg key (getD_of at_)
  · rw [if_neg c] at at_ ⊢
    by_cases c2 : (src - d < k ∧ k ≤ src)
    · rw [if_pos c2] at at_ ⊢; exact congrArg key (getD_of at_)
    · rw [if_neg c2] at at_ ⊢; exact congrArg key (getD_of at_)
theorem bin_ok : ∀ (f : Nat) (p : Array Nat) (k : Nat), PmA n p → 1 ≤ k → k + f = n → Up key p k → tOk n key (kas_bin f p k) (fun p' => PmA n p' ∧ Up key p' n)
  | 0, p, k, h, h1, e, u => ⟨h, by rw [show n = k by omega]; exact u⟩
  | f + 1, p, k, h, h1, e, u => by
    have hs := h.size
    refine tOk_bind _ (tOk_mono ?_ _ (place_ok h (by omega) k 0 k (by omega) (by omega) (by omega) (fun i x => by omega) (fun i x y => by omega) u))
    rintro l ⟨a1, a2, a3⟩
    refine bin_ok f _ (k + 1) ⟨(bubble_perm _ _ _).trans h.pm⟩ (by omega) (by omega) ?_
    intro i j hij hj
    rw [ky_bubble (by omega) (by omega), ky_bubble (by omega) (by omega)]
    rw [show k - (k - l) = l by omega]
    by_cases ci : i = l
    · rw [if_pos ci]
      by_cases cj : j = l
      · rw [if_pos cj]; exact Int.le_refl _
      · rw [if_neg cj, if_pos ⟨by omega, by omega⟩]
        exact Int.le_of_lt (a3 (j - 1) (by omega) (by omega))
    · rw [if_neg ci]
      by_cases cj : j = l
      · rw [if_pos cj, if_neg (by omega)]
        exact a2 i (by omega)
      · rw [if_neg cj]
        by_cases ci2 : l < i ∧ i ≤ k
        · rw [if_pos ci2, if_pos ⟨by omega, by omega⟩]
          exact u _ _ (by omega) (by omega)
        · rw [if_neg ci2]
          by_cases cj2 : l < j ∧ j ≤ k
          · rw [if_pos cj2]
            exact u _ _ (by omega) (by omega)
          · rw [if_neg cj2]
            exact u _ _ hij (by omega)
theorem sort_ok (hn : 1 ≤ n) : tOk n key (kas_sort n) (fun p => PmA n p ∧ Up key p n) := by
  refine tOk_bind _ (tOk_mono ?_ _ (count_ok (p := List.toArray (List.range n)) ⟨Array.Perm.refl _⟩ hn))
  rintro ⟨m, p⟩ ⟨a1, a2, a3, a4⟩
  dsimp only at a1 a2 a3 a4 ⊢
  by_cases c : m < n
  · rw [if_pos c, show max m 1 = m by omega]
    exact bin_ok _ p m a1 a3 (by omega) a4
  · rw [if_neg c]
    exact ⟨a1, by rw [show n = m by omega]; exact a4⟩
end
end L2

namespace L2
open PySem PySem.W PyProof.Rows
theorem tOk_wp {α : Type} {n : Nat} {key : Nat → Int} {cmp : Nat → Nat → (Bool → Shared → Prop) → Shared → Prop} {G : α → Shared → Prop} {s : Shared} (hc : ∀ i j C, i < n → j < n → C (decide (key i < key j)) s → cmp i j C s) : ∀ (t : KasT α) {Q : α → Prop}, tOk n key t Q → (∀ a, Q a → G a s) → t.kasWp cmp G s
  | .ret a, _, h, g => g a h
  | .ask i j k, _, h, g => hc i j _ h.1 h.2.1 (tOk_wp hc (k _) h.2.2 g)
section
variable {prog : Program} {w : World} {A : Around} {E : Value → Shared → Prop} {s : Shared}
def outOf (vs : List Value) (p : Array Nat) : Array Value := List.toArray (p.toList.map fun i => vs.getD i Value.none)
/-- a choice whose sides go on alike -/
theorem either {M : Model} {α β : Type} {c : Prop} [Decidable c] {x y : Sem α} {f : α → Sem β} {J : α → Shared → Prop} {R : β → Shared → Prop} (a : c → wpAny M A x J E s) (b : ¬c → wpAny M A y J E s) (k : ∀ u s', J u s' → wpAny M A (f u) R E s') :
    wpAny M A (if c then x >>= f else y >>= f) R E s := by
  split
  next h => exact wpAny_bind (wpAny_mono (a h) k fun _ _ e => e)
  next h => exact wpAny_bind (wpAny_mono (b h) k fun _ _ e => e)
/-- list.sort of a list told by its own words: the numbers key tell the order -/
theorem tsort {a : Addr} {vs : List Value} {n : Nat} {R : PySem.Fin → Shared → Prop} (key : Nat → Int) (κ : SortKind) (at_ : s.heap.get? a = some (seqObj "list" vs.toArray n)) (few : vs.length < 64)
    (hk : ∀ (s' : Shared) (R : SortKind → Shared → Prop), (∀ b o, b ≠ a → s.heap.get? b = some o → s'.heap.get? b = some o) → 2 ≤ vs.length → R κ s' → wpAny (model prog w) A (keyKind' vs.toArray) R E s')
    (hc : ∀ s' : Shared, (∀ b o, b ≠ a → s.heap.get? b = some o → s'.heap.get? b = some o) → ∀ i j C, i < vs.length → j < vs.length → C (decide (key i < key j)) s' → kas_ask prog w A κ vs i j C s')
    (k : ∀ p : Array Nat, PmA vs.length p → Up key p vs.length → R (.done (.ret .none)) { s with heap := sortedHeap s.heap a vs (outOf vs p) }) :
    wpAny (model prog w) A (Builtin.«list.sort» ⟨.ref a :: [], []⟩) R E s := by
  have sz : vs.toArray.size = vs.length := by rw [List.size_toArray]
  have z1 : vs.length ≤ sizeLine := by rw [sizeLine_eq]; omega
  have emptied := get?_update_seq at_ fun _ => #[]
  -- behind the emptying: the heap m, in which the list is empty, with the two new things of the sort
  generalize hm : ((s.heap.update a (Obj.mapSeq fun _ => (#[] : Array Value))).push (seqObj "tuple" vs.toArray 0)).push (seqObj "list" #[] 0) = m
  have old : ∀ b o, (s.heap.update a (Obj.mapSeq fun _ => (#[] : Array Value))).get? b = some o → m.get? b = some o := fun b o q => hm ▸ Heap.get?_push_of_some _ (Heap.get?_push_of_some _ q)
  have keep : ∀ b o, b ≠ a → s.heap.get? b = some o → m.get? b = some o := fun b o ne q => old b o ((Heap.get?_update_ne _ _ _ _ ne).trans q)
  have there := old a _ emptied
  have fin : ∀ p : Array Nat, sortedHeap s.heap a vs (outOf vs p) = m.update a (Obj.mapSeq fun _ => outOf vs p) := fun p => hm ▸ rfl
  rw [list_sort_plain]
  refine wpAny_bind (listItems_at at_ rfl ?_)
  refine wpAny_bind (listUpdate_at at_ rfl ?_ (sz ▸ z1) (Nat.zero_le _))
  refine wpAny_bind (seqEpoch_at emptied rfl ?_)
  refine wpAny_bind (wpAny_newTuple ?_ (sz ▸ z1))
  refine wpAny_bind (wpAny_newList (wpAny_holding ?_) (Nat.zero_le _))
  dsimp only
  rw [hm]
  refine either (J := fun q s' => s' = { s with heap := m } ∧ (2 ≤ vs.length → q = κ)) (fun few2 => wpAny_pure ⟨rfl, fun q => absurd q (by omega)⟩) (fun more => hk _ _ keep (by omega) ⟨rfl, fun _ => rfl⟩) ?rest
  case rest =>
    rintro q _ ⟨rfl, hq⟩
    refine wpAny_bind (wpAny_mono (Q := fun r s' => s' = { s with heap := m } ∧ ∃ p : Array Nat, p.size = vs.length ∧ (arrOf r.2).map (·.2) = outOf vs p ∧ failedOf r.2 = none ∧ PmA vs.length p ∧ Up key p vs.length) ?run ?last fun _ _ e => e)
    case run =>
      split
      next few2 =>
        rw [StateT.run_pure]
        have e := kas_range (vs.toArray.zip vs.toArray)
        rw [show (vs.toArray.zip vs.toArray).size = vs.length by simp] at e
        exact wpAny_pure ⟨rfl, _, by simp, kat_snds rfl (show vs.toArray.zip vs.toArray = _ from e.symm), rfl, ⟨Array.Perm.refl _⟩, fun i j c d => by rw [show i = j by omega]; exact Int.le_refl _⟩
      next =>
        have more : 2 ≤ vs.length := by omega
        cases hq more
        have tr := tOk_wp (s := { s with heap := m }) (hc _ keep) (G := fun p s' => s' = { s with heap := m } ∧ PmA vs.length p ∧ Up key p vs.length) _ (sort_ok (n := vs.length) (key := key) (by omega)) (fun p hp => ⟨rfl, hp⟩)
        exact kat_run (Q := fun r s' => s' = { s with heap := m } ∧ ∃ p : Array Nat, p.size = vs.length ∧ (arrOf r).map (·.2) = outOf vs p ∧ failedOf r = none ∧ PmA vs.length p ∧ Up key p vs.length) rfl more few (fun p r s' a1 a2 a3 a4 => ⟨a4.1, p, a1, kat_snds rfl a2, a3, a4.2⟩) tr
    case last =>
      rintro ⟨_, r⟩ _ ⟨rfl, p, b1, b2, b3, b4, b5⟩
      have z2 : (outOf vs p).size ≤ sizeLine + 1 := by delta outOf; rw [List.size_toArray, List.length_map, Array.length_toList, b1]; omega
      dsimp only at b2 b3 ⊢
      rw [b2, b3]
      refine wpAny_bind (seqEpoch_at there rfl (wpAny_bind (listUpdate_at there rfl ?_ (Nat.zero_le _) z2)))
      rw [bne_self_eq_false, if_neg (by decide)]
      refine wpAny_pure ?_
      have q := k p b4 b5
      rw [fin] at q
      exact q
end
end L2

namespace L2
open PySem PySem.W PyProof.Rows
abbrev lxB (p q : Int × Int) : Bool := decide (p.1 < q.1 ∨ p.1 = q.1 ∧ p.2 < q.2)
structure PrAt (h : Heap) (v : Value) (p : Int × Int) : Prop where
  ex : ∃ (b : Addr) (o : Obj) (t1 t2 : Tok) (n : Nat), v = .ref b ∧ h.get? b = some o ∧ o.cls = .type "tuple" ∧ o.data = .seq #[.int p.1 t1, .int p.2 t2] n
theorem lex_key {a b c d M : Int} (h1 : -M < b) (h2 : b < M) (h3 : -M < d) (h4 : d < M) : (a * (2 * M) + b < c * (2 * M) + d) ↔ (a < c ∨ a = c ∧ b < d) := by
  obtain ⟨k, hk⟩ : ∃ k, k = 2 * M := ⟨_, rfl⟩
  rw [← hk]
  have up : ∀ x y : Int, x < y → x * k + k ≤ y * k := fun x y h => by
    have := Int.mul_le_mul_of_nonneg_right (show x + 1 ≤ y by omega) (show 0 ≤ k by omega)
    rw [Int.add_mul, Int.one_mul] at this
    exact this
  rcases Int.lt_trichotomy a c with h | h | h
  · have := up a c h
    generalize a * k = x at *; generalize c * k = y at *
    constructor
    · intro _; exact .inl h
    · intro _; omega
  · subst h
    generalize a * k = x
    constructor
    · intro z; exact .inr ⟨rfl, by omega⟩
    · intro z; rcases z with z | z <;> omega
  · have := up c a h
    generalize a * k = x at *; generalize c * k = y at *
    constructor
    · intro _; omega
    · intro z; rcases z with z | z <;> omega
section
variable {prog : Program} {w : World} {A : Around} {E : Value → Shared → Prop} {s : Shared}
theorem pair_lt {x y : Value} {p q : Int × Int} {C : Bool → Shared → Prop} (hx : PrAt s.heap x p) (hy : PrAt s.heap y q) (h : C (lxB p q) s) : wpAny (model prog w) A (keyLt' (tuples' true) x y) C E s := by
  obtain ⟨b, o, t1, t2, n, rfl, ho, _, hd⟩ := hx.ex
  obtain ⟨b', o', u1, u2, n', rfl, ho', _, hd'⟩ := hy.ex
  refine kat_lt ho hd ho' hd' (wpAny_eqBool_int ?_)
  by_cases c : p.1 = q.1
  · rw [show (p.1 == q.1) = true by simp [c], if_pos rfl]
    refine wpAny_eqBool_int ?_
    by_cases c2 : p.2 = q.2
    · rw [show (p.2 == q.2) = true by simp [c2], if_pos rfl]
      have e : lxB p q = false := decide_eq_false (by omega)
      rw [e] at h
      exact h
    · rw [show (p.2 == q.2) = false by simp [c2], if_neg (by simp)]
      refine kat_one _ _ (lt_int ?_)
      have e : lxB p q = decide (p.2 < q.2) := by rw [decide_eq_decide]; omega
      rw [e] at h
      exact h
  · rw [show (p.1 == q.1) = false by simp [c], if_neg (by simp)]
    refine oneLt_int ?_
    have e : lxB p q = decide (p.1 < q.1) := by rw [decide_eq_decide]; omega
    rw [e] at h
    exact h
theorem pair_tups {h : Heap} : ∀ {vs : List Value} {ps : List (Int × Int)}, vs.length = ps.length → (∀ (i : Nat) (v : Value) (p : Int × Int), vs[i]? = some v → ps[i]? = some p → PrAt h v p) → ∃ fs : List Value, KatTups h vs fs ∧ fs.length = vs.length ∧ ∀ f ∈ fs, ∃ (n : Int) (t : Tok), f = .int n t
  | [], [], _, _ => ⟨[], trivial, rfl, fun f hf => by simp at hf⟩
  | v :: vs, p :: ps, hl, hp => by
    obtain ⟨fs, k, l, g⟩ := pair_tups (vs := vs) (ps := ps) (by simpa using hl) fun i v p a b => hp (i + 1) v p (by simpa using a) (by simpa using b)
    obtain ⟨b, o, t1, t2, n, rfl, ho, hc, hd⟩ := (hp 0 v p rfl rfl).ex
    refine ⟨.int p.1 t1 :: fs, KatTups.cons ho hc hd rfl k, by simp [l], fun f hf => ?_⟩
    rcases List.mem_cons.1 hf with rfl | hf
    · exact ⟨_, _, rfl⟩
    · exact g f hf
theorem pair_kind {vs : List Value} {ps : List (Int × Int)} {R : SortKind → Shared → Prop} (hl : vs.length = ps.length) (h2 : 2 ≤ vs.length) (hp : ∀ (i : Nat) (v : Value) (p : Int × Int), vs[i]? = some v → ps[i]? = some p → PrAt s.heap v p) (h : R (tuples' true) s) : wpAny (model prog w) A (keyKind' vs.toArray) R E s := by
  obtain ⟨fs, k, l, g⟩ := pair_tups hl hp
  refine kat_kind (T := .type "int") k (by omega) (fun v hv => ?_) (by decide +kernel) ?_
  · obtain ⟨n, t, rfl⟩ := g v hv
    exact .now
  · have e : (Value.type "int" != Value.type "tuple") = true := by decide +kernel
    rw [e]; exact h
end
end L2

namespace L2
open PySem PySem.W PyProof.Rows
theorem exM : ∀ ps : List (Int × Int), ∃ M : Int, 0 < M ∧ ∀ p ∈ ps, -M < p.2 ∧ p.2 < M
  | [] => ⟨1, by decide, fun p hp => by simp at hp⟩
  | p :: ps => by
    obtain ⟨M, m0, hM⟩ := exM ps
    refine ⟨M + p.2.natAbs, by omega, fun q hq => ?_⟩
    rcases List.mem_cons.1 hq with rfl | hq
    · omega
    · have := hM q hq; omega
def lxLe (p q : Int × Int) : Prop := p.1 < q.1 ∨ p.1 = q.1 ∧ p.2 ≤ q.2
section
variable {prog : Program} {w : World} {A : Around} {E : Value → Shared → Prop} {s : Shared}
theorem PrAt.keep {h h' : Heap} {v : Value} {p : Int × Int} (x : PrAt h v p) (k : ∀ b o, h.get? b = some o → h'.get? b = some o) : PrAt h' v p := by
  obtain ⟨b, o, t1, t2, n, rfl, ho, r⟩ := x.ex
  exact ⟨b, o, t1, t2, n, rfl, k _ _ ho, r⟩
theorem sorted_pairs {l : Addr} {vs : List Value} {ps : List (Int × Int)} {Q : Value → Shared → Prop} (hl : s.heap.IsList l vs.toArray) (hlen : vs.length = ps.length) (h64 : vs.length < 64) (hp : ∀ (i : Nat) (v : Value) (p : Int × Int), vs[i]? = some v → ps[i]? = some p → PrAt s.heap v p)
    (h : ∀ σ : List Nat, σ.Perm (List.range vs.length) → (σ.map fun i => ps.getD i (0, 0)).Pairwise lxLe → Q (.ref (s.heap.objs.size + 1)) { s with heap := sortedAll s.heap vs (List.toArray (σ.map fun i => vs.getD i Value.none)) }) :
    wpAny (model prog w) A (call (.builtin "sorted") (.ref l :: [])) Q E s := by
  obtain ⟨M, m0, hM⟩ := exM ps
  have hz : vs.length ≤ sizeLine := by rw [sizeLine_eq]; omega
  have lxk : ∀ i j, i < vs.length → j < vs.length → (decide ((ps.getD i (0, 0)).1 * (2 * M) + (ps.getD i (0, 0)).2 < (ps.getD j (0, 0)).1 * (2 * M) + (ps.getD j (0, 0)).2)) = lxB (ps.getD i (0, 0)) (ps.getD j (0, 0)) := fun i j hi hj => by
    have g : ∀ k, k < vs.length → ps.getD k (0, 0) ∈ ps := fun k hk => by
      have hk' : k < ps.length := by omega
      rw [List.getD_eq_getElem?_getD, List.getElem?_eq_getElem hk']; exact List.getElem_mem hk'
    have a := hM _ (g i hi); have b := hM _ (g j hj)
    rw [decide_eq_decide]; exact lex_key a.1 a.2 b.1 b.2
  refine Calls.call_function_entry kind_sorted plain_sorted entry_sorted (args_sorted1 _) (?_); unfold Builtin.«sorted»
  refine wpAny_bind (m := checkCount "sorted" 1 1 _) (wpAny_pure (wpAny_bind (collect_list hl (wpAny_bind (wpAny_newList ?_ hz)) (by simpa using hz))))
  obtain ⟨H, hH⟩ : ∃ H, H = ((s.heap.push (seqObj "list" #[] 0)).update s.heap.objs.size (Obj.mapSeq (· ++ vs.toArray))) := ⟨_, rfl⟩
  have hs : H.objs.size = s.heap.objs.size + 1 := by rw [hH, Heap.size_update, size_push']
  have hD : (H.push (seqObj "list" vs.toArray 0)).get? (s.heap.objs.size + 1) = some (seqObj "list" vs.toArray 0) := by rw [← hs]; exact Heap.get?_push_size _ rfl
  have keep : ∀ b o, s.heap.get? b = some o → (H.push (seqObj "list" vs.toArray 0)).get? b = some o := fun b o q => by
    have hlt := Heap.lt_size q
    refine Heap.get?_push_of_some _ ?_; rw [hH, Heap.get?_update_ne _ _ _ _ (Nat.ne_of_lt hlt)]; exact Heap.get?_push_of_some _ q
  have fine : ∀ s' : Shared, (∀ b o, b ≠ s.heap.objs.size + 1 → (H.push (seqObj "list" vs.toArray 0)).get? b = some o → s'.heap.get? b = some o) → ∀ (i : Nat) (v : Value) (p : Int × Int), vs[i]? = some v → ps[i]? = some p → PrAt s'.heap v p := fun s' k i v p a b =>
    (hp i v p a b).keep fun c o q => k c o (Nat.ne_of_lt (Nat.lt_succ_of_lt (Heap.lt_size q))) (keep c o q)
  show wpAny (model prog w) _ _ _ _ { s with heap := ((s.heap.push (seqObj "list" #[] 0)).update s.heap.objs.size (Obj.mapSeq (· ++ vs.toArray))).push (seqObj "list" vs.toArray 0) }
  have hs' := hs; rw [hH] at hs'; rw [hs']; rw [← hH]
  refine wpAny_bind (wpAny_holding (wpAny_call_entry slot_list_sort ⟨_, hD, rfl⟩ entry_list_sort (tsort (fun i => (ps.getD i (0, 0)).1 * (2 * M) + (ps.getD i (0, 0)).2) (tuples' true) hD h64 (fun s' R k h2 r => pair_kind hlen h2 (fine s' k) r) (fun s' k i j C hi hj c => ?_) fun p pm up => ⟨_, rfl, wpAny_pure ⟨_, rfl, ?_⟩⟩) (args_list_sort _)))
  · have hi' : i < ps.length := by omega
    have hj' : j < ps.length := by omega
    rw [lxk i j hi hj] at c
    have e1 : ps.getD i (0, 0) = ps[i] := by simp [hi']
    have e2 : ps.getD j (0, 0) = ps[j] := by simp [hj']
    rw [e1, e2] at c
    unfold kas_ask
    rw [show vs.getD i Value.none = vs[i] by simp [hi], show vs.getD j Value.none = vs[j] by simp [hj]]
    exact pair_lt (fine s' k i _ _ (List.getElem?_eq_getElem hi) (List.getElem?_eq_getElem hi')) (fine s' k j _ _ (List.getElem?_eq_getElem hj) (List.getElem?_eq_getElem hj')) c
  · have q := h p.toList (by simpa [Array.perm_iff_toList_perm] using pm.pm) ?_
    · rw [hH]; exact q
    · rw [List.pairwise_map, List.pairwise_iff_getElem]
      intro i j hi hj hij
      have hn := pm.size
      have hj2 : j < vs.length := by rw [Array.length_toList] at hj; omega
      have hi2 : i < vs.length := by omega
      have u := up i j (by omega) hj2
      have e1 : p.getD i 0 = p.toList[i] := by simp [Array.getD, show i < p.size by omega]
      have e2 : p.getD j 0 = p.toList[j] := by simp [Array.getD, show j < p.size by omega]
      have l1 := pm.lt hi2; have l2 := pm.lt hj2
      show lxLe (ps.getD p.toList[i] (0, 0)) (ps.getD p.toList[j] (0, 0))
      rw [← e1, ← e2]
      have nl := lxk (p.getD j 0) (p.getD i 0) l2 l1
      have f : decide ((ps.getD (p.getD j 0) (0, 0)).1 * (2 * M) + (ps.getD (p.getD j 0) (0, 0)).2 < (ps.getD (p.getD i 0) (0, 0)).1 * (2 * M) + (ps.getD (p.getD i 0) (0, 0)).2) = false := decide_eq_false (Int.not_lt.mpr u)
      rw [f] at nl
      have z := of_decide_eq_false nl.symm
      unfold lxLe; omega
end
end L2

namespace L2
open PySem PySem.Spec PyProof.Rows
theorem vals_pick {xs : List V} {us : List Value} (r : Vals xs us) : ∀ σ : List Nat, (∀ i ∈ σ, i < xs.length) → Vals (σ.map fun i => xs.getD i .non) (σ.map fun i => us.getD i Value.none)
  | [], _ => .nil
  | i :: σ, h => by
    have hi := h i (by simp)
    obtain ⟨u, eu, ru⟩ := r.get (List.getElem?_eq_getElem hi)
    have e1 : xs.getD i .non = xs[i] := by simp [hi]
    have e2 : us.getD i Value.none = u := by rw [List.getD_eq_getElem?_getD, eu]; rfl
    rw [List.map_cons, List.map_cons, e1, e2]
    exact .cons ru (vals_pick r σ fun j hj => h j (by simp [hj]))
/-- sorted, pairs of whole numbers, fewer than 64 -/
def rSortedT (K : PySem.W.Frag) : List V → Hp → VK → Prop := fun vs H Q => ∃ (a : Addr) (us : List V) (ps : List (Int × Int)), vs = [V.ref a] ∧ SqL K H a us ∧ us.length = ps.length ∧ us.length < 64 ∧ (∀ (i : Nat) (u : V) (p : Int × Int), us[i]? = some u → ps[i]? = some p → ∃ b, u = .ref b ∧ SqT K H b [.int p.1, .int p.2]) ∧
  ∀ (σ : List Nat) (q : Addr), σ.Perm (List.range us.length) → (σ.map fun i => ps.getD i (0, 0)).Pairwise lxLe → H q = none → Q (.ref q) (upd H q (.lst (σ.map fun i => us.getD i .non)))
section
variable {X : Cx}
theorem cr_sortedT : CallR X (.builtin "sorted") (rSortedT X.K) := by
  intro pins s σ H vs us Q I r h
  obtain ⟨a, xs, ps, rfl, hs, hlen, h64, hp, q⟩ := h
  obtain ⟨its, rv, hl, hz⟩ := I.list hs
  rw [Vals.ref1 r]
  have hvl := rv.length
  refine sorted_pairs (ps := ps) hl.isList (by omega) (by omega) (fun i v p hv hpp => ?_) fun τ h1 h2 => ?_
  · have hi : i < xs.length := by have := (List.getElem?_eq_some_iff.mp hv).1; omega
    obtain ⟨b, eb, hb⟩ := hp i _ p (List.getElem?_eq_getElem hi) hpp
    obtain ⟨u, eu, ru⟩ := rv.get (List.getElem?_eq_getElem hi)
    rw [hv] at eu
    cases eu
    rw [eb] at ru
    cases ru
    obtain ⟨it2, r2, ⟨o, ho, hc, n, hd⟩, _⟩ := I.tuple hb
    obtain ⟨t, u, rfl⟩ := r2.int2
    exact ⟨b, o, t, u, n, rfl, ho, hc, hd⟩
  · rw [← hvl] at h1
    have lt : ∀ i ∈ τ, i < xs.length := fun i hi => by have := h1.mem_iff.mp hi; simpa using this
    have ll : τ.length = xs.length := by have := h1.length_eq; simpa using this
    obtain ⟨ep, he'⟩ := sortedAll_at s.heap its (List.toArray (τ.map fun i => its.getD i Value.none))
    exact ⟨.ref _, upd H (s.heap.objs.size + 1) (.lst (τ.map fun i => xs.getD i .non)), I.laid (t' := s.toks) (fun _ _ => sortedAll_old) (Nat.le_succ _) ⟨by rw [List.length_map, ll]; exact small64 h64, _, ep, vals_pick rv τ lt, he'⟩, rfl, q τ _ h1 h2 (I.hok.fresh (Nat.le_succ _))⟩
end
/-! ### in the abstract -/
def prI (p : Int × Int) : U := .tup [.int p.1, .int p.2]
def prsOf : List U → Option (List (Int × Int))
  | [] => some []
  | .tup [.int a, .int b] :: us => (prsOf us).map fun l => (a, b) :: l
  | _ => none
theorem prsOf_map : ∀ {us : List U} {ps : List (Int × Int)}, prsOf us = some ps → us = ps.map prI
  | [], ps, e => by cases e; rfl
  | u :: us, ps, e => by
    unfold prsOf at e
    split at e
    · cases ‹_ :: _ = []›
    · rename_i a b us' heq
      injection heq with h1 h2
      subst h1 h2
      obtain ⟨l, el, rfl⟩ := Option.map_eq_some_iff.mp e
      rw [prsOf_map el]; rfl
    · cases e
theorem prsOf_of (ps : List (Int × Int)) : prsOf (ps.map prI) = some ps := by
  induction ps with
  | nil => rfl
  | cons p ps ih => show (prsOf (ps.map prI)).map _ = _; rw [ih]; rfl
def uSorted : ON := fun us h Q => match us with
  | [.obj n] => Opt (lstAt h n) fun xs => Opt (prsOf xs) fun ps => ps.length < 64 ∧ ∀ ps' : List (Int × Int), ps'.Perm ps → ps'.Pairwise lxLe → Q (.obj h.length) (h ++ [.lst (ps'.map prI)])
  | _ => False
section
variable {X : Cx} {B : Bs}
theorem rus_pick {K : PySem.W.Frag} {H : Hp} {φ : List Addr} {us : List U} {vs : List V} (r : RUs K H φ us vs) : ∀ σ : List Nat, (∀ i ∈ σ, i < us.length) → RUs K H φ (σ.map fun i => us.getD i .non) (σ.map fun i => vs.getD i .non)
  | [], _ => .nil
  | i :: σ, h => by
    have hi := h i (by simp)
    obtain ⟨v, ev, rv⟩ := r.at (List.getElem?_eq_getElem hi)
    have e1 : us.getD i .non = us[i] := by simp [hi]
    have e2 : vs.getD i .non = v := by rw [List.getD_eq_getElem?_getD, ev]; rfl
    rw [List.map_cons, List.map_cons, e1, e2]
    exact .cons rv (rus_pick r σ fun j hj => h j (by simp [hj]))
theorem ac_sorted : ACl X B.G (.builtin "sorted") uSorted := ⟨by
  rintro pins s σ H xs us Q I r ⟨φ, as, h, QA, rh, ru, w, k⟩
  match as, ru, w with
  | [.obj n], .cons r1 .nil, w =>
    obtain ⟨ys, e, w⟩ := Opt.of w
    obtain ⟨ps, e2, w1, w2⟩ := Opt.of w
    have em := prsOf_map e2
    obtain ⟨a, ws, rfl, _, hs, rs⟩ := rh.rol (lstAt_of e) r1
    have hl := rs.len
    have hlp : ys.length = ps.length := by rw [em, List.length_map]
    refine cr_sortedT pins s σ H _ us Q I r ⟨a, ws, ps, rfl, hs, by omega, by omega, fun i u p hu hp => ?_, fun τ q h1 h2 hq => ?_⟩
    · have ey : ys[i]? = some (prI p) := by rw [em, List.getElem?_map, hp]; rfl
      obtain ⟨v, ev, rv⟩ := rs.at ey
      rw [hu] at ev
      cases ev
      cases rv with
      | tup t rr =>
        cases rr with
        | cons q1 rr => cases rr with
          | cons q2 rr => cases rr; cases q1; cases q2; exact ⟨_, rfl, t⟩
    · have lt : ∀ i ∈ τ, i < ys.length := fun i hi => by have := h1.mem_iff.mp hi; rw [List.mem_range] at this; omega
      have rp := rus_pick rs τ lt
      have ee : (τ.map fun i => ys.getD i .non) = (τ.map fun i => ps.getD i (0, 0)).map prI := by
        rw [List.map_map]
        refine List.map_congr_left fun i hi => ?_
        have hi' : i < ps.length := by have := lt i hi; omega
        show ys.getD i .non = prI (ps.getD i (0, 0))
        rw [em, List.getD_eq_getElem?_getD, List.getElem?_map, List.getD_eq_getElem?_getD, List.getElem?_eq_getElem hi']
        rfl
      rw [ee] at rp
      have pm : (τ.map fun i => ps.getD i (0, 0)).Perm ps := by
        have := h1.map fun i => ps.getD i (0, 0)
        rw [show ws.length = ps.length by omega] at this
        refine this.trans (List.Perm.of_eq ?_)
        apply List.ext_getElem?
        intro i
        rw [List.getElem?_map]
        by_cases c : i < ps.length
        · rw [List.getElem?_range c, List.getElem?_eq_getElem c]; simp [c]
        · rw [List.getElem?_eq_none (by simp; omega), List.getElem?_eq_none (by omega)]; rfl
      exact k _ _ (.lst rh hq rp (w2 _ pm h2))⟩
end
end L2

namespace L2
open PySem PySem.Spec PyProof.Rows
section
variable {X : Cx} {CX : CXT} {k : Nat} {f C : Addr} {fd : FuncData} {ps : List Str} {sp : Sp} {dvs : List V} {ds : List Value} {E : St → XK}
/-- a function of the text, called by a built-in -/
theorem run_fn1 {pins : List (Addr × Obj)} {σ : St} {H : Hp} {s : Shared} {Q : VK} {us : List Value} {vs : List V} (F : FnOk X.prog X.w X.K X.mg X.base CX k f fd ps sp) (hr : Room (k + 1) X.A) (hb : Binds X.K fd ps ds) (hd : Vals dvs ds) (hx : Passes CX X E)
    (I : Inv X pins σ H s) (r : Vals vs us) (h : sp (vs ++ dvs) H Q (E σ)) : wpAny (model X.prog X.w) X.A.in1 (call (.ref f) us) (EP X pins σ Q) X.xe s := by
  have r2 : Vals (vs ++ dvs) (us ++ ds) := r.append hd
  have hl : (us ++ ds).length = ps.length := r2.length ▸ F.len _ _ _ _ h
  refine wpAny_call (codeAny_mono (F.run X.A.in1 X.stack s H ⟨us, []⟩ (us ++ ds) (vs ++ dvs) Q (E σ) hr.in1 I.env0.in1 (hb s us I.kIn hl) r2 h) fun z s' hq => ?_)
  match z, hq with
  | .error e, hq => exact hx pins σ H s e s' I hq
  | .ok (.ret u), hq => exact I.after hq
theorem inst_at {pins : List (Addr × Obj)} {σ : St} {H : Hp} {s : Shared} {a dx : Addr} {fs : List (Str × V)} (I : Inv X pins σ H s) (e : H a = some (.ins C dx fs)) : ∃ ox od, PySem.W.InstAt s.heap a ox C od := by
  obtain ⟨mA, O, _⟩ := ins_get I.hok e
  obtain ⟨od, _, _, e', _⟩ := O.ns
  exact ⟨_, some od, O.obj, rfl, rfl, e'⟩
end
/-! ### in the abstract -/
section
variable {X : Cx} {B : Bs} {k n : Nat}
end
/-! ### C(name = v), a class of one parameter -/
section
variable {X : Cx} {B : Bs} {E : EX} {Wk : WA} {p pos : Pos} {W : WF} {k n : Nat} {ps ks : List Str} {x : Str} {kws : List Keyword}
end
end L2

namespace L2
open PySem PySem.Spec PyProof.Rows
/-! ### which exceptions a clause takes, and of which classes they are: by a list of the classes that can come -/
def excL (l : List (Str × Bool)) : Str → Option Bool := fun n => l.lookup n
section
variable {K : PySem.W.Frag} {G : Str → Addr} {c : Value} {l : List (Str × Bool)} {d : Str} {b : Bool}
theorem exOk_nil : ExOk K G c (excL []) := fun n b e => by cases e
theorem exOk_cons (h : PySem.W.exmOne K (.ref (G d)) c = some b) (r : ExOk K G c (excL l)) : ExOk K G c (excL ((d, b) :: l)) := fun n b' e => by
  have e : ((d, b) :: l).lookup n = some b' := e
  rw [List.lookup_cons] at e
  cases hx : n == d with
  | true => rw [hx] at e; cases e; have := beq_iff_eq.mp hx; subst this; exact h
  | false => rw [hx] at e; exact r n b' e
end
end L2

namespace L2
open PySem PySem.Spec PyProof.Rows
section
variable {K : PySem.W.Frag} {M : Model} {A : Around} {E : Value → Shared → Prop} {s : Shared} {x y C f : Addr} {ox oy : Obj} {od od' : Option Obj}
/-- a special method of an own class, asked for where there may be none -/
theorem bound_fn {name : Str} {args : List Value} {Q : Option Value → Shared → Prop} (X : K.In s.heap) (I : PySem.W.InstAt s.heap x ox C od) (hs : PySem.W.findIn K (.ref C) name = some (some (.ref f))) (hf : PySem.W.typeIn K (.ref f) = some (.type "function"))
    (h : wpAny M A (call (.ref f) (.ref x :: args)) (fun v s' => Q (some v) s') E s) : wpAny M A (callSpecialIfBound? (.ref x) name args) Q E s := by
  have go : wpAny M A (call (.ref f) ([Value.ref x] ++ args) >>= fun v => (pure (some v) : Sem (Option Value))) Q E s :=
    wpAny_bind (wpAny_mono h (fun _ _ z => wpAny_pure z) (fun _ _ z => z))
  unfold callSpecialIfBound? bindSpecialIfBound? specialOf
  refine wpAny_holding (wpAny_bind (wpAny_bind (wpAny_bind (I.type.here ((PySem.W.looks_findIn X hs).here ?_)))))
  refine wpAny_bind (wpAny_askSetting (wpAny_ite ?_))
  split
  · exact wpAny_bind ((PySem.W.bind_fn X _ hf).here (wpAny_pure go))
  · exact wpAny_tryCatch (wpAny_bind ((PySem.W.bind_fn X _ hf).here (wpAny_pure go)))
end

section
variable {prog : Program} {w : World} {A : Around} {R : Result → Shared → Prop} {l : Addr} {items : Array Value} {x : Value}
end
end L2

namespace L2
open PySem PySem.Spec PyProof.Rows
/-- is one of these objects like it -/
def InL (F : List (Str × WF)) (l : Nat) (xs : List U) (m : Nat) : List Nat → AH → UQ → Prop
  | [], h, Q => ownLst h l = some xs ∧ Q (.bl false) h
  | k :: ks, h, Q => ownLst h l = some xs ∧ k ≠ m ∧ Opt (insAt h k) fun p => Opt (insAt h m) fun q => p.1 = q.1 ∧ Opt (F.lookup p.1) fun W => W [.obj k, .obj m] h (fun u h' => asB u fun t => (t = true → Q (.bl true) h') ∧ (t = false → InL F l xs m ks h' Q)) (fun _ _ => False)
theorem RUs.objs {K : PySem.W.Frag} {H : Hp} {φ : List Addr} : ∀ {ks : List Nat} {vs : List V}, RUs K H φ (ks.map U.obj) vs → ∃ as : List Addr, vs = as.map V.ref ∧ as.length = ks.length ∧ ∀ (i k : Nat), ks[i]? = some k → ∃ a, as[i]? = some a ∧ φ[k]? = some a
  | [], _, .nil => ⟨[], rfl, rfl, fun i k e => by simp at e⟩
  | k :: ks, _, .cons (.obj (a := a) h) r => by
    obtain ⟨as, e, l, q⟩ := RUs.objs (ks := ks) r
    refine ⟨a :: as, by rw [e]; rfl, by simp [l], fun i k' e' => ?_⟩
    cases i with
    | zero => simp at e'; subst e'; exact ⟨a, rfl, h⟩
    | succ i => obtain ⟨a', e1, e2⟩ := q i k' (by simpa using e'); exact ⟨a', by simpa using e1, e2⟩
section
variable {X : Cx} {B : Bs} {k n : Nat}
theorem asB_of {u : U} {k : Bool → Prop} (h : asB u k) : ∃ t, u = .bl t ∧ k t := by
  cases u <;> first | exact h.elim | exact ⟨_, rfl, h⟩
theorem InL.lst {F : List (Str × WF)} {l m : Nat} {xs : List U} {ks : List Nat} {h : AH} {Q : UQ} (w : InL F l xs m ks h Q) : ownLst h l = some xs := by
  cases ks with
  | nil => exact w.1
  | cons u us => exact w.1
end

/-! ### isinstance(x, C), C an own class -/
def isO (l : List (Str × Bool)) : TTag → Option Bool
  | .ins c => l.lookup c
  | .exc _ => none
  | _ => some false
structure KitB (K : PySem.W.Frag) (u : Value) : Prop where
  h1 : PySem.W.kitOne K (.type "NoneType") u = some false
  h2 : PySem.W.kitOne K (.type "bool") u = some false
  h3 : PySem.W.kitOne K (.type "int") u = some false
  h4 : PySem.W.kitOne K (.type "str") u = some false
  h5 : PySem.W.kitOne K (.type "tuple") u = some false
  h6 : PySem.W.kitOne K (.type "list") u = some false
section
variable {K : PySem.W.Frag} {G : Str → Addr} {u : Value} {l : List (Str × Bool)} {d : Str} {b : Bool}
theorem isO_nil (B : KitB K u) : KitT K G u (isO []) := fun t b e => by
  cases t with
  | non => cases e; exact B.h1
  | bl => cases e; exact B.h2
  | int => cases e; exact B.h3
  | str => cases e; exact B.h4
  | tup => cases e; exact B.h5
  | lst => cases e; exact B.h6
  | ins c => cases e
  | exc c => cases e
theorem isO_cons (x : InsT K (G d)) (h : PySem.W.kitOne K (.ref (G d)) u = some b) (r : KitT K G u (isO l)) : KitT K G u (isO ((d, b) :: l)) := fun t b' e => by
  cases t with
  | ins n =>
    have e : ((d, b) :: l).lookup n = some b' := e
    rw [List.lookup_cons] at e
    cases hx : n == d with
    | true => rw [hx] at e; cases e; have := beq_iff_eq.mp hx; subst this; exact ⟨x, h⟩
    | false => rw [hx] at e; exact r (.ins n) b' e
  | non => exact r .non b' e
  | bl => exact r .bl b' e
  | int => exact r .int b' e
  | str => exact r .str b' e
  | tup => exact r .tup b' e
  | lst => exact r .lst b' e
  | exc c => exact r (.exc c) b' e
end
end L2

namespace L2
open PySem PySem.Spec PyProof.Rows
/-! ### o.m(name = v, ..): the values of the names in the parameters' order, None where one is left out -/
def nthD {α : Type} (d : α) : List α → Nat → α
  | [], _ => d
  | a :: _, 0 => a
  | _ :: l, n + 1 => nthD d l n
def pkA {α : Type} (d : α) (ws : List α) : List Nat → List α
  | [] => []
  | i :: is => nthD d ws i :: pkA d ws is
def gP {α : Type} (d : α) (n : Nat) (is : List Nat) : List α → List α → List α
  | [x], ws => bif ws.length == n then x :: pkA d ws is else []
  | _, _ => []
structure MFamK (X : Cx) (G : Str → Addr) (k : Nat) (m : Str) (ks : List Str) (n : Nat) (is : List Nat) (F : List (Str × WF)) : Prop where
  me : ∀ c W, F.lookup c = some W → ∃ ps, MetK X.prog X.w X.K X.mg X.base k (G c) m ps ks (gP .non n is) (spA X.K G W)
section
variable {X : Cx} {B : Bs} {E : EX} {Wk : WA} {Wo : WE} {o : Expr} {pos apos : Pos} {k n N : Nat} {ks : List Str} {m : Str} {kws : List Keyword} {is : List Nat}
end
end L2

namespace L2
open PySem PySem.Spec PyProof.Rows
section
variable {X : Cx} {B : Bs} {E : EX} {a b c e e' o i o' i' : Expr} {es : List Expr} {Wa Wb Wc We We' Wo Wi Wo' Wi' : WE} {Wr Wk : WA} {pos pos' apos cpos tpos t1 t2 tp : Pos}
/-! ### o[i], o'[i'] = e -/
/-! ### o[i] += e -/
/-! ### methods of texts -/
def isStr : U → Prop
  | .str _ => True
  | _ => False
@[reducible] def aSm (w : OM) (Wo : WE) (R : WA) : WE := fun ρ h Q E => Wo ρ h (fun o h1 => isStr o ∧ R ρ h1 (fun us h2 => w o us h2 Q) E) E
theorem isStr_ty {K : PySem.W.Frag} {φ : List Addr} {H : Hp} {u : U} {v : V} (ru : RU K H φ u v) (hl : isStr u) : tyV K "str" v H := by
  cases u <;> first | exact hl.elim | skip
  cases ru
  rfl
variable {name : Str}
theorem ae_sm {id : String} {w : OM} (slot : Slot "str" name id) (hty : typeOf (.builtin id) = pure (.type "method_descriptor")) (hm : AMt X B.G id w) (ho : AE X B E o Wo) (ha : AA X B E (e :: es) Wr)
    (hbase : attributeBase o name X.env (eval o X.env) = eval o X.env := by rfl)
    (hfew : ((backTo cpos (starEach (e :: es) X.env)).all (fun x => !x.1) && (backToKw cpos (keywordEach [] X.env)).all (fun x => x.1.isSome)
      && decide ((e :: es).length + ([] : List Keyword).length + (if ([] : List Keyword).isEmpty then 0 else 1) < 30)) = true := by rfl)
    (hline : (apos.endLine == cpos.line) = true := by rfl) (hs : starEach (e :: es) X.env = (false, eval e X.env) :: starEach es X.env := by rfl) (hplain : (backTo cpos (starEach es X.env)).any (·.1) = false := by rfl) :
    AE X B E (.Call (.Attribute o name apos) (e :: es) [] cpos) (aSm w Wo Wr) := ⟨(pe_bm PySem.F.plainAttrs_str slot hty hm.op ho.pe ha.pa hbase hfew hline hs hplain).weak fun σ H Q q => by
  obtain ⟨φ, ρ, h, QA, r, w, k⟩ := q
  refine tA.mk r w fun v H1 φ1 u h1 e1 r1 ru w1 => ⟨isStr_ty ru w1.1, tAA.mk r1 w1.2 fun vs H2 φ2 us h2 e2 r2 rus w2 => ?_⟩
  exact ⟨φ2, u, us, h2, QA, r2.hp, ru.mono e2, rus, w2, fun v H' ⟨φ', u, h', e, q⟩ => k v H' ⟨φ', u, h', (e1.trans e2).trans e, q⟩⟩⟩
theorem laidStrs {K : PySem.W.Frag} {φ : List Addr} {H : Hp} : ∀ {ns : List Str}, RUs K H φ (ns.map U.str) (ns.map V.str) := RUs.ofStrs
def uSplit : OM := fun o us h Q => match o, us with
  | .str a, [.str b] => (b.length == 0) = false ∧ a.length + 2 ≤ sizeLine ∧ Q (.obj h.length) (h ++ [.lst ((Txt.split a b).map U.str)])
  | _, _ => False
theorem am_split : AMt X B.G "str.split" uSplit := ⟨by
  rintro pins s σ H x xs v us Q I rx rxs ⟨φ, o, as, h, QA, rh, ro, ras, w, k⟩
  match o, as, ro, ras, w with
  | .str a, [.str b], .str, .cons .str .nil, w =>
    exact mt_split pins s σ H _ _ v us Q I rx rxs ⟨_, _, rfl, rfl, w.1, w.2.1, fun p hp => k _ _ (.lst rh hp laidStrs w.2.2)⟩⟩
def uPartition : OM := fun o us h Q => match o, us with
  | .str a, [.str b] => (b.length == 0) = false ∧ a.length ≤ sizeLine ∧ Q (.tup [.str (Txt.partition a b).1, .str (Txt.partition a b).2.1, .str (Txt.partition a b).2.2]) h
  | _, _ => False
theorem am_partition : AMt X B.G "str.partition" uPartition := ⟨by
  rintro pins s σ H x xs v us Q I rx rxs ⟨φ, o, as, h, QA, rh, ro, ras, w, k⟩
  match o, as, ro, ras, w with
  | .str a, [.str b], .str, .cons .str .nil, w =>
    exact mt_partition pins s σ H _ _ v us Q I rx rxs ⟨_, _, rfl, rfl, w.1, w.2.1, fun p hp => k _ _ (.tup rh hp (.cons .str (.cons .str (.cons .str .nil))) w.2.2)⟩⟩
def strsOf : List U → Option (List Str)
  | [] => some []
  | .str x :: us => (strsOf us).map (x :: ·)
  | _ => none
theorem strsOf_map : ∀ (ns : List Str), strsOf (ns.map U.str) = some ns
  | [] => rfl
  | n :: ns => by show (strsOf (ns.map U.str)).map (n :: ·) = _; rw [strsOf_map ns]; rfl
theorem strsOf_of : ∀ {us : List U} {ns : List Str}, strsOf us = some ns → us = ns.map U.str
  | [], _, e => by cases e; rfl
  | .str i :: us, _, e => by
    unfold strsOf at e
    cases e1 : strsOf us with
    | none => rw [e1] at e; cases e
    | some ms => rw [e1] at e; cases e; rw [strsOf_of e1]; rfl
  | .non :: _, _, e => by cases e
  | .bl _ :: _, _, e => by cases e
  | .int _ :: _, _, e => by cases e
  | .tup _ :: _, _, e => by cases e
  | .obj _ :: _, _, e => by cases e
def uJoin : OM := fun o us h Q => match o, us with
  | .str a, [u] => Opt (itemsOf h u) fun xs => Opt (strsOf xs) fun ys => (ys.map (·.length)).sum + ys.length * a.length ≤ 16777216 ∧ Q (.str (Txt.join a ys)) h
  | _, _ => False
theorem am_join : AMt X B.G "str.join" uJoin := ⟨by
  rintro pins s σ H x xs v us Q I rx rxs ⟨φ, o, as, h, QA, rh, ro, ras, w, k⟩
  match o, as, ro, ras, w with
  | .str a, [u], .str, .cons r1 .nil, w =>
    obtain ⟨ys, e, w⟩ := Opt.of w
    obtain ⟨zs, e2, w1, w2⟩ := Opt.of w
    have := strsOf_of e2
    subst this
    cases u <;> first | cases e | skip
    · cases r1 with
      | tup t rs =>
        rw [rs.strs] at t
        exact mt_join pins s σ H _ _ v us Q I rx rxs ⟨_, _, zs, rfl, rfl, .inr t, w1, k _ _ (.here rh .str w2)⟩
    · obtain ⟨p, ws, rfl, _, hs, rs⟩ := rh.rol (lstAt_of e) r1
      rw [rs.strs] at hs
      exact mt_join pins s σ H _ _ v us Q I rx rxs ⟨_, _, zs, rfl, rfl, .inl hs, w1, k _ _ (.here rh .str w2)⟩⟩
def uRemP : OM := fun o us h Q => match o, us with
  | .str a, [.str b] => a.length ≤ sizeLine ∧ Q (.str (Txt.removeprefix a b)) h
  | _, _ => False
theorem am_remp : AMt X B.G "str.removeprefix" uRemP := ⟨by
  rintro pins s σ H x xs v us Q I rx rxs ⟨φ, o, as, h, QA, rh, ro, ras, w, k⟩
  match o, as, ro, ras, w with
  | .str a, [.str b], .str, .cons .str .nil, w =>
    obtain ⟨t, rfl⟩ := rx
    cases rxs with
    | cons r1 rs =>
      cases rs
      obtain ⟨u, rfl⟩ := r1
      refine PySem.SC.removeprefix (fun t' kk => ?_) w.1
      obtain ⟨φ', u', h', q⟩ := AQ.here (QA := QA) rh .str w.2
      exact ⟨.str _, H, I.tok kk, ⟨t', rfl⟩, k _ _ ⟨φ', u', h', q⟩⟩⟩
/-! ### str(n), int(s), int(truth) -/
def uStr : ON := fun us h Q => match us with
  | [.int n] => n.natAbs.log2 < 1920 ∧ Q (.str (toString n : String)) h
  | _ => False
theorem ac_str : ACl X B.G (.type "str") uStr := ⟨by
  rintro pins s σ H xs us Q I r ⟨φ, as, h, QA, rh, ru, w, k⟩
  match as, ru, w with
  | [.int n], .cons .int .nil, w => exact call_str_int pins s σ H _ us Q I r ⟨_, rfl, w.1, k _ _ (.here rh .str w.2)⟩⟩
def b2i' (b : Bool) : Int := if b then 1 else 0
def uInt : ON := fun us h Q => match us with
  | [.int n] => Q (.int n) h
  | [.bl b] => Q (.int (b2i' b)) h
  | [.str a] => a.length ≤ 640 ∧ Opt (PySem.intText? a) fun n => Q (.int n) h
  | _ => False
theorem ac_int : ACl X B.G (.type "int") uInt := ⟨by
  rintro pins s σ H xs us Q I r ⟨φ, as, h, QA, rh, ru, w, k⟩
  match as, ru, w with
  | [.int n], .cons .int .nil, w => exact call_int1 pins s σ H _ us Q I r (.inl ⟨_, rfl, k _ _ (.here rh .int w)⟩)
  | [.bl b], .cons .bl .nil, w => exact call_int1 pins s σ H _ us Q I r (.inr ⟨_, rfl, k _ _ (.here rh .int w)⟩)
  | [.str a], .cons .str .nil, w =>
    obtain ⟨w1, w⟩ := w
    obtain ⟨n, en, w⟩ := Opt.of w
    exact call_int_str pins s σ H _ us Q I r ⟨_, _, rfl, en, w1, k _ _ (.here rh .int w)⟩⟩
/-! ### f-strings -/
/-- the parts of an f-string, behind what is written already -/
abbrev WJ := Str → WE
def PJ (X : Cx) (es : List Expr) (t : Str → TE) : Prop := ∀ (acc : Str) (pins : List (Addr × Obj)) (s : Shared) (σ : St) (H : Hp) (Q : VK), Inv X pins σ H s → t acc σ H Q → wpAny (model X.prog X.w) X.A (joinParts acc (evalEach es X.env)) (EP X pins σ Q) X.xe s
structure AJ (X : Cx) (B : Bs) (E : EX) (es : List Expr) (W : WJ) : Prop where
  pj : PJ X es (fun acc => tA X.K B E (W acc))
@[reducible] def jNil : WJ := fun acc _ h Q _ => acc.length ≤ sizeLine ∧ Q (.str acc) h
theorem aj_nil : AJ X B E [] jNil := ⟨fun acc pins s σ H Q I q => by
  obtain ⟨φ, ρ, h, QA, r, w, k⟩ := q
  exact PyProof.Rows.joinParts_nilE (PyProof.Rows.joinParts_nil ⟨.str acc, H, I.tok _, ⟨_, rfl⟩, k _ _ (.here r.hp .str w.2)⟩ w.1)⟩
@[reducible] def jStr (x : Str) (W : WJ) : WJ := fun acc ρ h Q E => (acc ++ x).length ≤ sizeLine ∧ W (acc ++ x) ρ h Q E
theorem aj_str {x : Str} {j} {W : WJ} (hr : AJ X B E es W) : AJ X B E (.Constant (.str x) j pos :: es) (jStr x W) := ⟨fun acc pins s σ H Q I q => by
  obtain ⟨φ, ρ, h, QA, r, w, k⟩ := q
  refine PyProof.Rows.joinParts_consE (PyProof.Rows.joinParts_cons (thn (pe_str (X := X) pins s σ H _ I (show tC (.str x) σ H (fun v H1 => v = .str x ∧ H1 = H) from ⟨rfl, rfl⟩)) fun v s1 ⟨y, H1, I1, r1, e1, e2⟩ => ?_))
  subst e1 e2
  obtain ⟨t, rfl⟩ := r1
  exact ⟨w.1, hr.pj _ pins s1 σ _ Q I1 ⟨φ, ρ, h, QA, r, w.2, k⟩⟩⟩
/-- what stands for a value in an f-string -/
def fsOf : U → Option Str
  | .int n => if n.natAbs.log2 < 1920 then some (toString n : String) else none
  | .str x => if x.length ≤ sizeLine then some x else none
  | _ => none
theorem field_ok {pins : List (Addr × Obj)} {σ : St} {H : Hp} {s : Shared} {u : U} {v : V} {w : Value} {x : Str} {K : PySem.W.Frag} {φ : List Addr} {Q : Value → Shared → Prop} (I : Inv X pins σ H s) (ru : RU K H φ u v) (rv : RelV v w) (e : fsOf u = some x)
    (q : ∀ t k, Inv X pins σ H { s with toks := k } → Q (.str x t) { s with toks := k }) : wpAny (model X.prog X.w) X.A (formatField w Str.empty) Q X.xe s := by
  match u, ru, e with
  | .int n, .int, e =>
    by_cases hd : n.natAbs.log2 < 1920
    · have e : some (Str.ofString (toString n)) = some x := by rw [← e]; exact (if_pos hd).symm
      cases e
      obtain ⟨t, rfl⟩ := rv
      exact PyProof.Rows.formatField_int_small hd (q _ _ (I.tok _))
    · have e : none = some x := by rw [← e]; exact (if_neg hd).symm
      cases e
  | .str y, .str, e =>
    by_cases hd : y.length ≤ sizeLine
    · have e : some y = some x := by rw [← e]; exact (if_pos hd).symm
      cases e
      obtain ⟨t, rfl⟩ := rv
      exact PyProof.Rows.formatField_str (fun t' tk => q _ _ (I.tok _)) hd
    · have e : none = some x := by rw [← e]; exact (if_neg hd).symm
      cases e
@[reducible] def jVal (We : WE) (W : WJ) : WJ := fun acc ρ h Q E => We ρ h (fun u h1 => Opt (fsOf u) fun x => (acc ++ x).length ≤ sizeLine ∧ W (acc ++ x) ρ h1 Q E) E
theorem aj_val {W : WJ} (he : AE X B E e We) (hr : AJ X B E es W) : AJ X B E (.FormattedValue e (-1) none pos :: es) (jVal We W) := ⟨fun acc pins s σ H Q I q => by
  obtain ⟨φ, ρ, h, QA, r, w, k⟩ := q
  refine PyProof.Rows.joinParts_consE (PyProof.Rows.joinParts_cons (PyProof.Rows.FormattedValue_plain (thn (he.pe pins s σ H _ I (tA.mk (Q := fun v H1 => ∃ u φ1 h1, Ext X.K φ H φ1 H1 ∧ R X.K B φ1 ρ h1 σ H1 ∧ RU X.K H1 φ1 u v ∧ Opt (fsOf u) fun x => (acc ++ x).length ≤ sizeLine ∧ W (acc ++ x) ρ h1 QA (E ρ)) r w fun v H1 φ1 u h1 e1 r1 ru w1 => ⟨u, φ1, h1, e1, r1, ru, w1⟩)) fun v s1 ⟨y, H1, I1, rv, u, φ1, h1, e1, r1, ru, w1⟩ => ?_)))
  obtain ⟨x, ex, w2, w3⟩ := Opt.of w1
  refine field_ok I1 ru rv ex fun t kk I2 => ⟨w2, hr.pj _ pins _ σ _ Q I2 ⟨φ1, ρ, h1, QA, r1, w3, fun v H' ⟨φ', u, h', e, q⟩ => k v H' ⟨φ', u, h', e1.trans e, q⟩⟩⟩⟩
@[reducible] def aFs (W : WJ) : WE := fun ρ h Q E => W Str.empty ρ h Q E
theorem ae_fs {W : WJ} (hj : AJ X B E (a :: b :: es) W) : AE X B E (.JoinedStr (a :: b :: es) pos) (aFs W) := ⟨fun pins s σ H Q I q => PyProof.Rows.JoinedStr_many (hj.pj Str.empty pins s σ H Q I q)⟩
end
end L2

namespace L2
open PySem PySem.Spec PyProof.Rows
theorem sub_int (C : Addr) : isSubtype (.type "int") (.ref C) = pure false := by rw [isSubtype_type]; kernel_rfl
theorem sub_bool (C : Addr) : isSubtype (.type "bool") (.ref C) = pure false := by rw [isSubtype_type]; kernel_rfl
theorem sub_str (C : Addr) : isSubtype (.type "str") (.ref C) = pure false := by rw [isSubtype_type]; kernel_rfl
theorem sub_list (C : Addr) : isSubtype (.type "list") (.ref C) = pure false := by rw [isSubtype_type]; kernel_rfl
theorem sub_tuple (C : Addr) : isSubtype (.type "tuple") (.ref C) = pure false := by rw [isSubtype_type]; kernel_rfl
theorem sub_none (C : Addr) : isSubtype (.type "NoneType") (.ref C) = pure false := by rw [isSubtype_type]; kernel_rfl
section
variable {K : PySem.W.Frag} {M : Model} {A : Around} {E : Value → Shared → Prop} {s : Shared} {x C f : Addr} {ox : Obj} {od : Option Obj} {v : Value}
/-- a right side that leaves the left one first -/
def RtK (C : Addr) (s : Shared) (v : Value) : Prop := (∃ y oy od', v = .ref y ∧ PySem.W.InstAt s.heap y oy C od') ∨ ∃ T, s.TypeIs v T ∧ isSubtype (.type T) (.ref C) = pure false
theorem rt_first {α : Type} {k : Bool → Sem α} {Q : α → Shared → Prop} (R : RtK C s v) (h : wpAny M A (k false) Q E s) : wpAny M A (typeOf v >>= fun tb => if (Value.ref C != tb) = true then isSubtype tb (.ref C) >>= fun r => k r else pure false >>= fun r => k r) Q E s := by
  rcases R with ⟨y, oy, od', rfl, J⟩ | ⟨T, hT, hsub⟩
  · refine wpAny_bind (J.type.here ?_)
    have e : (Value.ref C != Value.ref C) = false := by simp
    rw [e]
    exact wpAny_bind (wpAny_pure h)
  · apply wpAny_bind
    refine wpAny_typeOf hT ?_
    have e : (Value.ref C != Value.type T) = true := by
      show (!(Value.ref C == Value.type T)) = true
      rfl
    rw [e, if_pos rfl, hsub]
    exact wpAny_bind (wpAny_pure h)
/-- x == v -/
theorem eq_ownK {Q : Value → Shared → Prop} (hu : A.units < cLine) (X : K.In s.heap) (I : PySem.W.InstAt s.heap x ox C od) (R : RtK C s v) (hs : PySem.W.findIn K (.ref C) "__eq__" = some (some (.ref f))) (hf : PySem.W.typeIn K (.ref f) = some (.type "function"))
    (h : wpAny M A (call (.ref f) [.ref x, v]) (fun v s' => ∃ b, v = .bool b ∧ Q (.bool b) s') E s) : wpAny M A (richCompare .Eq (.ref x) v) Q E s := by
  delta richCompare
  apply wpAny_holding
  apply wpAny_bind
  refine wpAny_cRoomFor hu ?_
  rw [oneThing_ref]
  show wpAny M A (typeOf (.ref x) >>= _) Q E s
  refine wpAny_bind (I.type.here ?_)
  refine rt_first R ?_
  show wpAny M A (tryCompare (.ref x) "__eq__" v >>= _) Q E s
  refine wpAny_bind ?_
  unfold tryCompare
  refine wpAny_bind (bound_fn X I hs hf (wpAny_mono h (fun v s' z => ?_) fun _ _ z => z))
  obtain ⟨b, rfl, q⟩ := z
  exact wpAny_pure (wpAny_pure q)
end
section
variable {K : PySem.W.Frag} {prog : Program} {w : World} {A : Around} {E : Value → Shared → Prop} {s : Shared} {x C f : Addr} {ox : Obj} {od : Option Obj} {v : Value}
theorem check_ne {Q : Unit → Shared → Prop} (X : K.In s.heap) (I : PySem.W.InstAt s.heap x ox C od) (hm : PySem.W.mroIn K C (.type "object") = some true) (hq : Q () s) : wpAny (model prog w) A (checkBuiltinCall "object.__ne__" ⟨[.ref x, v], []⟩) Q E s := by
  have b1 : builtinKind "object.__ne__" = some .slot ∧ splitId "object.__ne__" = some ("object", "__ne__") := by decide +kernel
  have ar := F.args_object_ne_2 (.ref x) v
  have ty : PySem.W.Looks (model prog w) s.heap (typeOf (.ref x)) (.ref C) := I.type
  have sub := PySem.W.looks_mroIn (M := model prog w) X hm
  rcases s with ⟨m, g, dr, tk, os⟩
  delta checkBuiltinCall
  dsimp only
  rw [b1.1, b1.2]
  delta isInstance
  dsimp only
  repeat (first | assumption | (with_reducible refine ty.at ?_) | (with_reducible refine sub.at ?_) | wp_step | dsimp only)
/-- x != v -/
theorem ne_ownK {Q : Value → Shared → Prop} (hu : A.units + 1 < cLine) (X : K.In s.heap) (I : PySem.W.InstAt s.heap x ox C od) (R : RtK C s v) (hm : PySem.W.mroIn K C (.type "object") = some true) (hn : PySem.W.findIn K (.ref C) "__ne__" = some (some (.builtin "object.__ne__"))) (hs : PySem.W.findIn K (.ref C) "__eq__" = some (some (.ref f))) (hf : PySem.W.typeIn K (.ref f) = some (.type "function"))
    (h : wpAny (model prog w) A.in1 (call (.ref f) [.ref x, v]) (fun v s' => ∃ b, v = .bool b ∧ Q (.bool (!b)) s') E s) : wpAny (model prog w) A (richCompare .NotEq (.ref x) v) Q E s := by
  unfold richCompare
  refine wpAny_holding (wpAny_bind (wpAny_cRoomFor (by omega) ?_))
  rw [oneThing_ref]
  show wpAny _ A (typeOf (.ref x) >>= _) Q E s
  refine wpAny_bind (I.type.here ?_)
  refine rt_first R ?_
  show wpAny _ A (tryCompare (.ref x) "__ne__" v >>= _) Q E s
  have go : wpAny (model prog w) A (call (.builtin "object.__ne__") [.ref x, v]) (fun r s' => ∃ b, r = Value.bool b ∧ Q (.bool b) s') E s := by
    refine wpAny_call (codeAny_call_builtin F.slot_object_ne.plain F.entry_object_ne (check_ne X I hm ?_))
    delta Builtin.«object.__ne__»
    refine wpAny_bind (wpAny_pure ?_)
    apply wpAny_bind
    refine wpAny_cRoomFor (by exact hu) ?_
    refine wpAny_bind (bound_fn X I hs hf (wpAny_mono h (fun r s' z => ?_) fun _ _ z => z))
    obtain ⟨b, rfl, q⟩ := z
    cases b
    · exact wpAny_bind (wpAny_truthy_bool (wpAny_pure ⟨_, rfl, q⟩))
    · exact wpAny_bind (wpAny_truthy_bool (wpAny_pure ⟨_, rfl, q⟩))
  refine wpAny_bind ?_
  unfold tryCompare
  refine wpAny_bind ?_
  have go2 : wpAny (model prog w) A (call (.builtin "object.__ne__") ([Value.ref x] ++ [v]) >>= fun v => (pure (some v) : Sem (Option Value))) (fun o s' => ∃ b, o = some (Value.bool b) ∧ Q (.bool b) s') E s :=
    wpAny_bind (wpAny_mono go (fun _ _ ⟨b, e, q⟩ => wpAny_pure ⟨b, by rw [e], q⟩) (fun _ _ z => z))
  have fin : wpAny (model prog w) A (callSpecialIfBound? (.ref x) "__ne__" [v]) (fun o s' => ∃ b, o = some (Value.bool b) ∧ Q (.bool b) s') E s := by
    unfold callSpecialIfBound? bindSpecialIfBound? specialOf
    refine wpAny_holding (wpAny_bind (wpAny_bind (wpAny_bind (I.type.here ((PySem.W.looks_findIn X hn).here ?_)))))
    refine wpAny_bind (wpAny_askSetting (wpAny_ite ?_))
    split
    · exact wpAny_bind (wpAny_of_eq (F.slot_object_ne.bind (.ref x)) (wpAny_pure go2))
    · exact wpAny_tryCatch (wpAny_bind (wpAny_of_eq (F.slot_object_ne.bind (.ref x)) (wpAny_pure go2)))
  refine wpAny_mono fin (fun o s' z => ?_) fun _ _ z => z
  obtain ⟨b, rfl, q⟩ := z
  exact wpAny_pure (wpAny_pure q)
/-- str(x) -/
theorem str_own {Q : Value → Shared → Prop} (hu : A.units + 2 < cLine) (X : K.In s.heap) (I : PySem.W.InstAt s.heap x ox C od) (hs : PySem.W.findIn K (.ref C) "__str__" = some (some (.ref f))) (hf : PySem.W.typeIn K (.ref f) = some (.type "function"))
    (h : wpAny (model prog w) A.in1.in1 (call (.ref f) [.ref x]) (fun r s' => ∃ y t, r = .str y t ∧ Q (.str y t) s') E s) : wpAny (model prog w) A (call (.type "str") [.ref x]) Q E s := by
  refine ks_callType_codesW (Q₁ := fun r s' => ∃ y t, r = .str y t ∧ Q (.str y t) s') F.called_str (wpAny_of_eq (F.typeCall_str_1 _)) F.entry_object_init ?_ fun obj s₁ hq => ?_
  · refine codeAny_call_builtin F.called_str.plain F.entry_str_new (wpAny_of_eq (F.newCall_str_1 _) ?_)
    rw [str_new_tree]
    refine wpAny_bind (wpAny_pure ?_)
    apply wpAny_bind
    refine wpAny_of_eq isSubtype_str_str ?_
    refine wpAny_bind ?_
    unfold Builtin.Str.strOf
    show wpAny _ _ (do cRoomFor "str" [.ref x]; _) _ _ _
    refine wpAny_bind (wpAny_cRoomFor (show A.in1.in1.units < cLine from hu) ?_)
    refine wpAny_bind (m := callSpecial? (.ref x) (Str.ofString "__str__")) (PySem.W.special_fn X I hs hf (wpAny_mono h (fun r s' z => ?_) fun _ _ z => z))
    obtain ⟨y, t, rfl, q⟩ := z
    exact wpAny_bind (wpAny_pure (wpAny_pure (wpAny_pure ⟨y, t, rfl, q⟩)))
  · obtain ⟨y, t, rfl, q⟩ := hq
    refine ⟨typeIs_str _ _ _, F.args_object_init_2 _ _, ?_⟩
    have g := object_init_meets (T := "str") (self := .str y t) (rest := [Value.ref x]) F.called_str.init.lookup F.called_str.made (by decide)
    exact g prog w A.in1 _ s₁ ⟨typeIs_str _ _ _, rfl, q⟩
end
/-! ### in the abstract -/
def kindOk (h : AH) (c : Str) : U → Prop
  | .obj n => (∃ q, insAt h n = some q ∧ q.1 = c) ∨ ∃ xs, lstAt h n = some xs
  | _ => True
/-- a == b, a of an own class -/
def uEqK (F : List (Str × WF)) : O2 := fun a b h Q => match a with
  | .obj m => Opt (insAt h m) fun p => kindOk h p.1 b ∧ Opt (F.lookup p.1) fun W => W [.obj m, b] h (fun u h' => asB u fun t => Q (.bl t) h') (fun _ _ => False)
  | _ => False
/-- a != b, a of an own class that has no __ne__ -/
def uNeK (F : List (Str × WF)) : O2 := fun a b h Q => match a with
  | .obj m => Opt (insAt h m) fun p => kindOk h p.1 b ∧ Opt (F.lookup p.1) fun W => W [.obj m, b] h (fun u h' => asB u fun t => Q (.bl (nB t)) h') (fun _ _ => False)
  | _ => False
structure NeF (K : PySem.W.Frag) (G : Str → Addr) (F : List (Str × WF)) : Prop where
  f : ∀ c W, F.lookup c = some W → PySem.W.mroIn K (G c) (.type "object") = some true ∧ PySem.W.findIn K (.ref (G c)) "__ne__" = some (some (.builtin "object.__ne__"))
theorem neF1 {K : PySem.W.Frag} {G : Str → Addr} {c : Str} {W : WF} (it : InsT K (G c)) (ne : PySem.W.findIn K (.ref (G c)) "__ne__" = some (some (.builtin "object.__ne__"))) : NeF K G [(c, W)] := ⟨fun d W' e => by
  rw [List.lookup_cons] at e
  cases hx : d == c with
  | true => have := beq_iff_eq.mp hx; subst this; exact ⟨it.hm, ne⟩
  | false => rw [hx] at e; cases e⟩
section
variable {X : Cx} {B : Bs} {k n : Nat}
theorem rt_ok {pins : List (Addr × Obj)} {σ : St} {H : Hp} {s : Shared} {φ : List Addr} {h : AH} {c : Str} {b : U} {v : V} {u : Value} (I : Inv X pins σ H s) (rh : RH X.K B.G φ h H) (rb : RU X.K H φ b v) (rv : RelV v u) (ko : kindOk h c b) : RtK (B.G c) s u := by
  cases b with
  | non => cases rb; cases rv; exact .inr ⟨_, PySem.typeIs_none s, sub_none _⟩
  | bl z => cases rb; cases rv; exact .inr ⟨_, PySem.typeIs_bool s z, sub_bool _⟩
  | int z => cases rb; obtain ⟨t, rfl⟩ := rv; exact .inr ⟨_, typeIs_int s z t, sub_int _⟩
  | str z => cases rb; obtain ⟨t, rfl⟩ := rv; exact .inr ⟨_, PySem.typeIs_str s z t, sub_str _⟩
  | tup z =>
    cases rb with
    | tup t r =>
      cases rv
      obtain ⟨its, r, pl, hz⟩ := I.tuple t
      exact .inr ⟨_, pl.typeIs, sub_tuple _⟩
  | obj m =>
    rcases ko with ⟨q, e, rfl⟩ | ⟨xs, e⟩
    · obtain ⟨a, dx, gs, rfl, _, h1, _⟩ := rh.ins e rb
      cases rv
      obtain ⟨oy, od, J⟩ := inst_at I h1
      exact .inl ⟨_, _, _, rfl, J⟩
    · obtain ⟨a, ws, rfl, _, hs, rs⟩ := rh.rol (lstAt_of e) rb
      cases rv
      obtain ⟨its, r, pl, hz⟩ := I.list hs
      exact .inr ⟨_, pl.isList.typeIs, sub_list _⟩
theorem ao_eqK {F : List (Str × WF)} (fm : MFam X B.G k "__eq__" [] F) (hr : Room n X.A) (hk : k ≤ n := by decide) : AOp X B.G (compareOp .Eq) (uEqK F) := ⟨by
  rintro pins s σ H x y v u Q I rx ry ⟨φ, a, b, h, QA, rh, ra, rb, w, kk⟩
  cases a <;> first | exact w.elim | skip
  rename_i m
  obtain ⟨p, ep, ko, w⟩ := Opt.of w
  obtain ⟨W, eW, w⟩ := Opt.of w
  obtain ⟨ps, dvs, Mt, hd⟩ := fm.me _ _ eW
  obtain ⟨f, fd, dsv, Me, Fn, bi, vd⟩ := Mt.ex
  have ra' := ra
  obtain ⟨a', dx, gs, e1, hn1, h1, _⟩ := rh.ins ep ra
  subst e1
  have rxx := rx
  cases rx
  obtain ⟨ox, od, IA⟩ := inst_at I h1
  show wpAny _ _ (richCompare .Eq _ _) _ _ _
  refine eq_ownK (by have := hr.un; omega) I.kIn IA (rt_ok I rh rb ry ko) Me.at_ (beq_iff_eq.mp Me.fn) (wpAny_mono (run_fn (us := [.ref a', u]) (vs := [V.ref a', y]) (Q := fun v H' => AQ X.K B.G φ H (fun u h' => asB u fun t => QA (.bl t) h') v H') Fn (hr.mono hk) bi vd passN I (.cons rxx (.cons ry .nil)) ?_) (fun r s' hq => ?_) fun _ _ z => z)
  · exact ⟨φ, [.obj m, b], h, _, fun _ _ => False, .cons ra' (.cons rb (hd _ _)), rh, w, fun v H' z => z, fun cls dx H' ⟨_, _, _, _, _, _, z⟩ => z⟩
  · obtain ⟨v, H', I', rv, φ', u', h', e, rh', ru, q⟩ := hq
    obtain ⟨t, rfl, q⟩ := asB_of q
    cases ru
    cases rv
    exact ⟨t, rfl, .bl t, H', I', rfl, kk _ _ ⟨φ', .bl t, h', e, rh', .bl, q⟩⟩⟩
theorem ao_neK {F : List (Str × WF)} (fm : MFam X B.G k "__eq__" [] F) (nf : NeF X.K B.G F) (hr : Room n X.A) (hk : k + 1 ≤ n := by decide) : AOp X B.G (compareOp .NotEq) (uNeK F) := ⟨by
  rintro pins s σ H x y v u Q I rx ry ⟨φ, a, b, h, QA, rh, ra, rb, w, kk⟩
  cases a <;> first | exact w.elim | skip
  rename_i m
  obtain ⟨p, ep, ko, w⟩ := Opt.of w
  obtain ⟨W, eW, w⟩ := Opt.of w
  obtain ⟨hm, hne⟩ := nf.f _ _ eW
  obtain ⟨ps, dvs, Mt, hd⟩ := fm.me _ _ eW
  obtain ⟨f, fd, dsv, Me, Fn, bi, vd⟩ := Mt.ex
  have ra' := ra
  obtain ⟨a', dx, gs, e1, hn1, h1, _⟩ := rh.ins ep ra
  subst e1
  have rxx := rx
  cases rx
  obtain ⟨ox, od, IA⟩ := inst_at I h1
  show wpAny _ _ (richCompare .NotEq _ _) _ _ _
  refine ne_ownK (by have := hr.un; omega) I.kIn IA (rt_ok I rh rb ry ko) hm hne Me.at_ (beq_iff_eq.mp Me.fn) (wpAny_mono (run_fn1 (us := [.ref a', u]) (vs := [V.ref a', y]) (Q := fun v H' => AQ X.K B.G φ H (fun u h' => asB u fun t => QA (.bl (nB t)) h') v H') Fn (hr.mono hk) bi vd passN I (.cons rxx (.cons ry .nil)) ?_) (fun r s' hq => ?_) fun _ _ z => z)
  · exact ⟨φ, [.obj m, b], h, _, fun _ _ => False, .cons ra' (.cons rb (hd _ _)), rh, w, fun v H' z => z, fun cls dx H' ⟨_, _, _, _, _, _, z⟩ => z⟩
  · obtain ⟨v, H', I', rv, φ', u', h', e, rh', ru, q⟩ := hq
    obtain ⟨t, rfl, q⟩ := asB_of q
    cases ru
    cases rv
    refine ⟨t, rfl, ?_⟩
    rw [← nB_not]
    exact ⟨.bl (nB t), H', I', rfl, kk _ _ ⟨φ', .bl (nB t), h', e, rh', .bl, q⟩⟩⟩
theorem run_fn2 {CX : CXT} {f : Addr} {fd : FuncData} {ps : List Str} {sp : Sp} {dvs : List V} {ds : List Value} {E : St → XK} {pins : List (Addr × Obj)} {σ : St} {H : Hp} {s : Shared} {Q : VK} {us : List Value} {vs : List V} (F : FnOk X.prog X.w X.K X.mg X.base CX k f fd ps sp) (hr : Room (k + 2) X.A) (hb : Binds X.K fd ps ds) (hd : Vals dvs ds) (hx : Passes CX X E)
    (I : Inv X pins σ H s) (r : Vals vs us) (h : sp (vs ++ dvs) H Q (E σ)) : wpAny (model X.prog X.w) X.A.in1.in1 (call (.ref f) us) (EP X pins σ Q) X.xe s := by
  have r2 : Vals (vs ++ dvs) (us ++ ds) := r.append hd
  have hl : (us ++ ds).length = ps.length := r2.length ▸ F.len _ _ _ _ h
  have hr' : Room (k + 1) X.A.in1 := hr.in1
  refine wpAny_call (codeAny_mono (F.run X.A.in1.in1 X.stack s H ⟨us, []⟩ (us ++ ds) (vs ++ dvs) Q (E σ) hr'.in1 I.env0.in1.in1 (hb s us I.kIn hl) r2 h) fun z s' hq => ?_)
  match z, hq with
  | .error e, hq => exact hx pins σ H s e s' I hq
  | .ok (.ret u), hq => exact I.after hq
/-- str(x), x of an own class -/
def uStrO (F : List (Str × WF)) : ON := fun us h Q => match us with
  | [.obj n] => Opt (insAt h n) fun p => Opt (F.lookup p.1) fun W => W [.obj n] h (fun u h' => match u with
    | .str x => Q (.str x) h'
    | _ => False) (fun _ _ => False)
  | _ => False
theorem ac_strO {F : List (Str × WF)} (fm : MFam X B.G k "__str__" [] F) (hr : Room n X.A) (hk : k + 2 ≤ n := by decide) : ACl X B.G (.type "str") (uStrO F) := ⟨by
  rintro pins s σ H xs us Q I r ⟨φ, as, h, QA, rh, ru, w, kk⟩
  match as, ru, w with
  | [.obj m], .cons r1 .nil, w =>
    obtain ⟨p, ep, w⟩ := Opt.of w
    obtain ⟨W, eW, w⟩ := Opt.of w
    obtain ⟨ps, dvs, Mt, hd⟩ := fm.me _ _ eW
    obtain ⟨f, fd, dsv, Me, Fn, bi, vd⟩ := Mt.ex
    obtain ⟨a', dx, gs, e1, hn1, h1, _⟩ := rh.ins ep r1
    subst e1
    rw [Vals.ref1 r]
    obtain ⟨ox, od, IA⟩ := inst_at I h1
    refine str_own (by have := hr.un; omega) I.kIn IA Me.at_ (beq_iff_eq.mp Me.fn) (wpAny_mono (run_fn2 (us := [.ref a']) (vs := [V.ref a']) (Q := fun v H' => AQ X.K B.G φ H (fun u h' => match u with
      | .str x => QA (.str x) h'
      | _ => False) v H') Fn (hr.mono hk) bi vd passN I (.cons rfl .nil) ?_) (fun r s' hq => ?_) fun _ _ z => z)
    · exact ⟨φ, [.obj m], h, _, fun _ _ => False, .cons r1 (hd _ _), rh, w, fun v H' z => z, fun cls dx H' ⟨_, _, _, _, _, _, z⟩ => z⟩
    · obtain ⟨v, H', I', rv, φ', u', h', e, rh', ru, q⟩ := hq
      cases u' <;> first | exact q.elim | skip
      cases ru
      obtain ⟨t, rfl⟩ := rv
      exact ⟨_, t, rfl, .str _, H', I', ⟨t, rfl⟩, kk _ _ ⟨φ', .str _, h', e, rh', .str, q⟩⟩⟩
end
end L2

namespace L2
open PySem PySem.Spec PyProof.Rows
/-! ### f(name = v), a function of one parameter -/
def gk1V : List V → List V → List V
  | [], [v] => [v]
  | _, _ => []
def gk1u : List Value → List Value → List Value
  | [], [v] => [v]
  | _, _ => []
def gk1 : List U → List U
  | [v] => [v]
  | _ => []
theorem gk1_rel {vs : List V} {us : List Value} {zs : List V} {ws : List Value} (r : Vals vs us) (q : Vals zs ws) : Vals (gk1V vs zs) (gk1u us ws) := by
  match vs, us, zs, ws, r, q with
  | [], [], [_], [_], _, .cons b .nil => exact .cons b .nil
  | [], [], [], [], _, _ => exact .nil
  | [], [], _ :: _ :: _, _ :: _ :: _, _, _ => exact .nil
  | _ :: _, _ :: _, _, _, _, _ => exact .nil
theorem pu_k1 : PU gk1 gk1V [] [] := fun K H φ us vs _ r => by
  match us, vs, r with
  | [], [], _ => exact .nil
  | [_], [_], .cons a .nil => exact .cons a .nil
  | _ :: _ :: _, _ :: _ :: _, _ => exact .nil
theorem Top1.calK1 {P : Program} {w : World} {K : PySem.W.Frag} {mg : Str → Option Value} {base : Heap} {x kw : Str} {st : Stmt} {n : Nat} {ps : List Str} {sp : Sp} (T : Top1 K mg x st .none)
    (h : ∀ (kV doc pm : Value) (an : Option Addr) (cdv ct : Value) (v : Value), bindArgs (PySem.W.fnOf x x (defArgs st) (defBody st) (defScope st) .none kV doc pm an cdv ct) ⟨[], [(kw, v)]⟩ = pure (ps.zip [v])) (h0 : 0 < ps.length)
    (ok : ∀ f fd, FunD K x x st .none f fd → FnOk P w K mg base (CXR P w) n f fd ps sp) : CalK P w K mg base n x ps [kw] gk1V sp := by
  obtain ⟨f, fd, F, hm⟩ := T.ex
  refine ⟨f, fd, gk1u, ok f fd F, hm, F.kp, ⟨fun s us ws X hl => ?_, gk1_rel⟩⟩
  obtain ⟨oc, od, kV, doc, pm, an, cdv, ct, osl, rfl, lk, hcd⟩ := F.ex
  match us, ws, hl with
  | [], [y], _ => exact .of_eq (h kV doc pm an cdv ct y)
  | [], [], hl => exact absurd hl (by simp [gk1u]; omega)
  | [], _ :: _ :: _, hl => exact absurd hl (by simp [gk1u]; omega)
  | _ :: _, _, hl => exact absurd hl (by simp [gk1u]; omega)
end L2

namespace L2
open PySem PySem.Spec PyProof.Rows
section
variable {K : PySem.W.Frag} {prog : Program} {w : World} {A : Around} {E : Value → Shared → Prop} {s : Shared} {x C f : Addr} {ox : Obj} {od : Option Obj} {v : Value}
/-! who declines -/
end
section
variable {prog : Program} {w : World} {A : Around} {l : Addr} {x : Value} {R : Result → Shared → Prop} {N : Nat}
end
/-! ### in the abstract: in, the things of the list of any kinds, x of an own class -/
def dcl (h : AH) : U → Prop
  | .non => True
  | .int _ => True
  | .str _ => True
  | .obj k => ∃ xs, lstAt h k = some xs
  | _ => False
def InM (F : List (Str × WF)) (l : Nat) (xs : List U) (m : Nat) : List U → AH → UQ → Prop
  | [], h, Q => ownLst h l = some xs ∧ Q (.bl false) h
  | u :: us, h, Q => ownLst h l = some xs ∧ u ≠ .obj m ∧ Opt (insAt h m) fun q => Opt (F.lookup q.1) fun W =>
      (∃ k p, u = .obj k ∧ insAt h k = some p ∧ p.1 = q.1 ∧ W [.obj k, .obj m] h (fun u h' => asB u fun t => (t = true → Q (.bl true) h') ∧ (t = false → InM F l xs m us h' Q)) (fun _ _ => False))
      ∨ (dcl h u ∧ W [.obj m, u] h (fun u h' => asB u fun t => (t = true → Q (.bl true) h') ∧ (t = false → InM F l xs m us h' Q)) (fun _ _ => False))
structure DcF (K : PySem.W.Frag) (G : Str → Addr) (F : List (Str × WF)) : Prop where
  f : ∀ c W, F.lookup c = some W → PySem.W.mroIn K (G c) (.type "list") = some false ∧ PySem.W.mroIn K (G c) (.type "int") = some false ∧ PySem.W.mroIn K (G c) (.type "str") = some false ∧ PySem.W.mroIn K (G c) (.type "NoneType") = some false
section
variable {X : Cx} {B : Bs} {k n : Nat}
theorem InM.lst {F : List (Str × WF)} {l m : Nat} {xs us : List U} {h : AH} {Q : UQ} (w : InM F l xs m us h Q) : ownLst h l = some xs := by
  cases us with
  | nil => exact w.1
  | cons u us => exact w.1
/-! ### list.clear -/
end
end L2

namespace L2
open PySem PySem.Spec PyProof.Rows
section
variable {X : Cx} {B : Bs}
end
end L2

namespace L2
open PySem PySem.Spec PyProof.Rows
end L2
namespace L2
open PySem PySem.Spec PyProof.Rows
section
variable {K : PySem.W.Frag} {G : Str → Addr} {φ : List Addr} {H : Hp}
end
section
variable {X : Cx} {B : Bs} {E : EX} {a : Expr} {We : WE} {p pos tpos : Pos}
end
end L2

namespace L2
open PySem PySem.Spec PyProof.Rows
section
variable {X : Cx} {e lo st : Expr} {te tl ts : TE} {pos p2 : Pos}
end
section
variable {X : Cx} {B : Bs} {E : EX} {a b c : Expr} {Wa Wb Wc : WE} {pos p2 : Pos}
end
end L2

namespace L2
open PySem PySem.Spec PyProof.Rows
/-- a zip that has handed out its tuple -/
abbrev IsZipO (h : Heap) (z TI TO a : Addr) (f : Bool) : Prop :=
  h.get? z = some { cls := .type "zip", dict := none, data := .fields #[rawInt a, .bool f, .bool false, .ref TI, .ref TO], slots := #[] }
/-- a zip of two lists that stands at the places p and q of them, its first tuple handed out -/
structure Zip2 (h : Heap) (z TI TO i1 i2 l1 l2 a : Addr) (f : Bool) (p q : Nat) (xs ys : Array Value) : Prop where
  ap : ZipApart z TI TO i1 i2 l1 l2
  zp : IsZipO h z TI TO a f
  own : ∃ o, h.get? a = some o
  ti : IsPair h TI (.ref i1) (.ref i2)
  p1 : h.IsListIter i1 l1 p
  p2 : h.IsListIter i2 l2 q
  b1 : h.IsList l1 xs
  b2 : h.IsList l2 ys
section
variable {P : Program} {w : World} {A : Around} {E : Value → Shared → Prop} {m : Heap} {g : Array GenState} {dr : Drawn} {tk : Nat} {os : OsState} {z TI TO i1 i2 l1 l2 a : Addr} {f : Bool} {p q : Nat} {xs ys : Array Value}
end
/-- where a walk over a zip stands, its list in the making at S -/
structure ZSt (z TI TO i1 i2 l1 l2 S n1 : Addr) (xs ys : Array Value) (h : Heap) (i : Nat) (acc : Array Value) : Prop where
  zp : IsZip h z TI TO .none ∨ ∃ a f oa, n1 ≤ a ∧ IsZipO h z TI TO a f ∧ h.get? a = some oa
  ti : IsPair h TI (.ref i1) (.ref i2)
  to : ∃ a b, IsPair h TO a b
  a1 : h.IsListIter i1 l1 i
  a2 : h.IsListIter i2 l2 i
  b1 : h.IsList l1 xs
  b2 : h.IsList l2 ys
  sS : ∃ c, h.get? S = some { cls := .type "list", dict := none, data := .seq acc c, slots := #[] }
  sz : acc.size = i
  it : ∀ (j : Nat) (v : Value), acc[j]? = some v → ∃ (T : Addr) (x y : Value), v = Value.ref T ∧ n1 ≤ T ∧ IsPair h T x y ∧ xs[j]? = some x ∧ ys[j]? = some y
  big : n1 ≤ h.objs.size
  inj : ∀ (j k : Nat) (v : Value), acc[j]? = some v → acc[k]? = some v → j = k
structure ZAp (z TI TO i1 i2 l1 l2 S n1 : Addr) : Prop where
  D : ZipApart z TI TO i1 i2 l1 l2
  zn : z < n1
  TIn : TI < n1
  TOn : TO < n1
  i1n : i1 < n1
  i2n : i2 < n1
  Sn : S < n1
  Sz : S ≠ z
  STI : S ≠ TI
  STO : S ≠ TO
  Si1 : S ≠ i1
  Si2 : S ≠ i2
  Sl1 : S ≠ l1
  Sl2 : S ≠ l2
section
variable {pr : Program} {w : World} {A : Around} {E : Value → Shared → Prop} {s : Shared}
end
end L2

namespace L2
open PySem PySem.Spec PyProof.Rows
section
variable {X : Cx} {B : Bs}
/-! ### list.reverse -/
/-! ### list(range(..)), list(zip(..)) -/
/-! many new tuples at once -/
structure NewT (H : Hp) (ps : List (Addr × List V)) : Prop where
  nd : (ps.map (·.1)).Nodup
  new : ∀ p ∈ ps, H p.1 = none
theorem NewT.tail {H : Hp} {p : Addr × List V} {ps : List (Addr × List V)} {o : HO} (n : NewT H (p :: ps)) : NewT (upd H p.1 o) ps := by
  have nd := n.nd
  rw [List.map_cons, List.nodup_cons] at nd
  refine ⟨nd.2, fun q hq => ?_⟩
  rw [upd_ne (fun e => nd.1 (by rw [← e]; exact List.mem_map_of_mem hq))]
  exact n.new q (List.mem_cons_of_mem _ hq)
/-- all that is new is laid at once -/
theorem Inv.all {pins : List (Addr × Obj)} {σ : St} {H H' : Hp} {s : Shared} {h' : Heap} {t' : Nat} (I : Inv X pins σ H s) (k : ∀ b u, s.heap.get? b = some u → h'.get? b = some u) (d : ∀ b, H' b = H b ∨ (H b = none ∧ s.heap.objs.size ≤ b)) (hok : HOk X.prog X.w H' h') : Inv X pins σ H' { s with heap := h', toks := t' } :=
  I.un ⟨fun b ob q _ _ _ => k b ob q, fun b ob q _ _ _ => ⟨ob.slots, k b ob q⟩, fun b ob q n _ => (d b).elim (fun e => e.trans n) (fun e => absurd (Nat.lt_of_lt_of_le (Heap.lt_size q) e.2) (Nat.lt_irrefl _)),
    fun b ob q _ => ⟨ob, k b ob q⟩, fun b xs q => (d b).elim (fun e => e.trans q) (fun e => absurd (e.1.symm.trans q) (fun z => nomatch z)),
    fun b u xs q => (d b).elim (fun e => e.trans q) (fun e => absurd (e.1.symm.trans q) (fun z => nomatch z)),
    fun b ps q => (d b).elim (fun e => ⟨#[], by rw [e, q]; simp⟩) (fun e => absurd (e.1.symm.trans q) (fun z => nomatch z))⟩ hok
/-! ### in the abstract -/
theorem AQ.pre {K : PySem.W.Frag} {G : Str → Addr} {φ φ1 : List Addr} {H H1 H' : Hp} {QA : UQ} {v : V} (e : Ext K φ H φ1 H1) (q : AQ K G φ1 H1 QA v H') : AQ K G φ H QA v H' := by
  obtain ⟨φ', u, h', e', q1, q2, q3⟩ := q
  exact ⟨φ', u, h', e.trans e', q1, q2, q3⟩
/-! ### sorted, whole numbers -/
end
end L2

namespace L2
open PySem PySem.Spec PyProof.Rows
/-! ### an exception that a block has noted already -/
section
variable {M : Model} {s : Shared} {A : Around} {E : Value → Shared → Prop}
end
/-- as Fly, whatever the flight says -/
def FlyA (bad : Addr → Prop) (H : Hp) (l : List Env) (e : Addr) (cls : Value) (dx : Option Addr) (h : Heap) : Prop :=
  ∃ (a0 fl : Value) (ex : List Addr), (PySem.W.hideAll h (frs l ++ ex)).get? e = none ∧ h.FunFrames (PySem.W.hideAll h (frs l ++ ex)) l ∧ h.TracedAtW (PySem.W.hideAll h (frs l ++ ex)) e cls a0 fl ∧ (∀ b ∈ ex, H b = none ∧ ¬ bad b) ∧ e ∈ ex ∧ ∃ oe, h.get? e = some oe ∧ oe.dict = dx
theorem Fly.any {bad : Addr → Prop} {H : Hp} {l : List Env} {e : Addr} {cls : Value} {dx : Option Addr} {h : Heap} (F : Fly bad H l e cls dx h) : FlyA bad H l e cls dx h := by
  obtain ⟨a0, ex, f, p, q, d⟩ := F
  exact ⟨a0, _, ex, f.2.1, f.2.2.1, f.2.2.2.at, p, q, d⟩
theorem FlyA.mono {bad bad' : Addr → Prop} {H : Hp} {l : List Env} {e : Addr} {cls : Value} {dx : Option Addr} {h : Heap} (F : FlyA bad H l e cls dx h) (m : ∀ b, bad' b → bad b) : FlyA bad' H l e cls dx h := by
  obtain ⟨a0, fl, ex, f1, f2, f3, p, q⟩ := F
  exact ⟨a0, fl, ex, f1, f2, f3, fun b hb => ⟨(p b hb).1, fun z => (p b hb).2 (m b z)⟩, q⟩
/-- what lies behind a call in a block, its exception perhaps noted -/
def CXA (P : Program) (w : World) : CXT := fun outer H s E e s' => ∃ (a : Addr) (cls : Value) (dx : Option Addr) (H' : Hp), e = .ref a ∧ s'.os = s.os ∧ AllBare s'.gens ∧ Un (frs outer) [] H H' s.heap s'.heap ∧ HOk P w H' s'.heap ∧
  FlyA (fun b => (s.heap.get? b).isSome = true) H' outer a cls dx s'.heap ∧ E cls dx H'
theorem CXR.any {P : Program} {w : World} {outer : List Env} {H : Hp} {s : Shared} {E : XK} {e : Value} {s' : Shared} (h : CXR P w outer H s E e s') : CXA P w outer H s E e s' := by
  obtain ⟨a, cls, dx, H', h1, h2, h3, h4, h5, h6, h7⟩ := h
  exact ⟨a, cls, dx, H', h1, h2, h3, h4, h5, h6.any, h7⟩
section
variable {P : Program} {w : World} {K : PySem.W.Frag} {mg : Str → Option Value} {base : Heap} {N : List Str} {qual : Str} {scope : Scope} {f : Addr} {cd : Value} {A : Around} {outer : List Env} {s₀ : Shared} {H₀ : Hp} {E₀ : XK}
end
section
variable {X : Cx} {pn : List (Addr × Obj)} {R : RK}
end
end L2

namespace L2
open PySem PySem.Spec PyProof.Rows
section
variable {X : Cx} {pins pinsB : List (Addr × Obj)} {σ σB : St} {H3 HB : Hp} {s3 sB s' : Shared} {scope : Scope} {ce : Env} {fp : List Addr} {E : St → XK} {Rk : XK}
end
end L2

namespace L2
open PySem PySem.Spec PyProof.Rows
section
variable {X : Cx}
end
end L2

namespace L2
open PySem PySem.Spec PyProof.Rows
/-! ### a comprehension whose step may raise -/
section
variable {X : Cx} {B : Bs} {E : EX} {We : WE} {T : WT}
end
end L2

namespace L2
open PySem PySem.Spec PyProof.Rows
/-! ### text * number -/
section
variable {X : Cx} {G : Str → Addr}
end
end L2

namespace L2
open PySem PySem.Spec PyProof.Rows
/-! ### C.m(x, ..): a method read off its class -/
structure CMet (P : Program) (w : World) (K : PySem.W.Frag) (mg : Str → Option Value) (base : Heap) (k : Nat) (cn : Str) (C : Addr) (m : Str) (ps : List Str) (sp : Sp) : Prop where
  ex : ∃ (f : Addr) (fd : FuncData) (mc : Value), mg cn = some (.ref C) ∧ PySem.W.specialIn K (.ref C) "__getattribute__" = some (some (.builtin "type.__getattribute__")) ∧ PySem.W.readsIn K C mc = true ∧
    PySem.W.findCls K (.ref C) mc m = some (.val (.ref f)) ∧ PySem.W.handedIn (.ref f) = true ∧ PySem.W.keepIn K (.ref f) = true ∧ FnOk P w K mg base (CXR P w) k f fd ps sp ∧ Binds K fd ps []
section
variable {X : Cx} {k n : Nat} {ps : List Str} {sp : Sp} {E : St → XK} {x cn m : Str} {C : Addr} {np p pos apos : Pos} {e o : Expr} {es : List Expr} {ta : TE} {t : TA} {pl : Sem Bool}
end
end L2

/-! A field stored on an object of an own class that has no dict yet (an exception that is being made) -/
namespace XJ
open PySem PySem.W PyProof.Rows Builtin Builtin.ObjectAttr
abbrev withDict (ob : Obj) (a : Addr) : Obj := { cls := ob.cls, dict := some a, data := ob.data, slots := ob.slots }
section
variable {m : Heap} {e : Addr} {ob : Obj}
end
/-- the object and its class, as the frozen part of the heap tells them -/
structure Bare (P : Program) (w : World) (K : Frag) (m : Heap) (e c : Addr) (ob : Obj) (line : List Value) (cd : ClassData) : Prop where
  kin : K.In m
  here : m.get? e = some ob
  cls : ob.cls = .ref c
  inst : ∀ z, ob.data ≠ .cls z
  bare : ob.dict = none
  mro : Looks (model P w) m (mroOf (.ref c)) line
  lets : refuseLoop (.ref e) "__setattr__" line = pure ()
  own : clsIn K c = some cd
  dicts : cd.hasDict = true
section
variable {P : Program} {w : World} {A : Around} {E : Value → Shared → Prop} {K : Frag} {m : Heap} {e c : Addr} {ob : Obj} {line : List Value} {cd : ClassData} {f : Str} {v : Value} {g : Array GenState} {dr : Drawn} {tk : Nat} {os : OsState}
/-- what a store leaves -/
structure Stored (m m' : Heap) (e : Addr) (ob : Obj) (f : Str) (v : Value) : Prop where
  old : ∀ b o, b ≠ e → m.get? b = some o → m'.get? b = some o
  obj : m'.get? e = some (withDict ob m.objs.size)
  ns : m'.Ns1 m.objs.size fun y => if y = f then some v else none
end
end XJ

/-! super().__init__(text) in a class that stands over ValueError -/
namespace XJ
open PySem PySem.W PyProof.Rows Builtin
abbrev vin : Value := .builtin "ValueError.__init__"
abbrev sup (d e c : Addr) : Obj := { cls := .type "super", dict := none, data := .fields #[.ref d, .ref e, .ref c], slots := #[] }
/-- a super object, its instance, and what stands behind the class d in the line of c -/
structure Sup (P : Program) (w : World) (K : Frag) (m : Heap) (so d e c : Addr) (ob : Obj) (line rest : List Value) : Prop where
  kin : K.In m
  at_ : m.get? so = some (sup d e c)
  here : m.get? e = some ob
  cls : ob.cls = .ref c
  ne : e ≠ c
  own : Looks (model P w) m (opaqueClassAbove (.ref c)) none
  mro : Looks (model P w) m (mroOf (.ref c)) line
  cut : (line.dropWhile (· != .ref d)).drop 1 = rest
  init : alongIn K "__init__" rest = some (some vin)
  sub : Looks (model P w) m (isSubtype (.ref c) (.type "ValueError")) true
section
variable {P : Program} {w : World} {A : Around} {E : Value → Shared → Prop} {K : Frag} {m : Heap} {so d e c : Addr} {ob : Obj} {line rest : List Value} {v : Value} {g : Array GenState} {dr : Drawn} {tk : Nat} {os : OsState}
end
end XJ

namespace XJ
open PySem PySem.W PyProof.Rows Builtin
section
variable {P : Program} {w : World} {A : Around} {E : Value → Shared → Prop} {K : Frag} {m : Heap} {so d e c : Addr} {ob : Obj} {line rest : List Value} {v : Value} {g : Array GenState} {dr : Drawn} {tk : Nat} {os : OsState}
end
end XJ

/-! C(..): an own class of exceptions with an __init__ of its own is called -/
namespace XJ
open PySem PySem.W PyProof.Rows Builtin
/-- the class in the heap: its line, its base's making, its own __init__ -/
structure ExcInit (m : Heap) (c n fn : Addr) (nm q : Str) (bs tl bmB : List Value) (hd : Bool) (sn : List Str) (sub : List Value) (ab : Bool) (col : Option Bool) (dd : Option Addr) (k0 k1 k2 k3 k5 : Option Value) (B nid iid : String) (ns : Str → Option Value) (fo : Obj) : Prop where
  base : ExcBaseFacts B nid iid bmB
  cls : m.get? c = some (excClassObj nm q c n bs tl hd sn sub ab col dd k0 k1 k2 k3 k5 nid)
  names : m.Ns n ns
  tail : OwnTail m bmB tl
  init : ns "__init__" = some (.ref fn)
  fn : m.get? fn = some fo
  isFn : fo.cls = .type "function"
section
variable {P : Program} {w : World} {A : Around} {E : Value → Shared → Prop} {m : Heap} {g : Array GenState} {dr : Drawn} {tk : Nat} {os : OsState} {c n fn : Addr} {nm q : Str} {bs tl bmB : List Value} {hd : Bool} {sn : List Str} {sub : List Value} {ab : Bool} {col : Option Bool} {dd : Option Addr} {k0 k1 k2 k3 k5 : Option Value} {B nid iid : String} {ns : Str → Option Value} {fo : Obj} {vs : List Value}
abbrev rawExc (c t : Addr) : Obj := { cls := .ref c, data := .fields #[.ref t, .none, .none, .none, .bool false, .none] }
end
end XJ

/-! raise C(..) for such a class -/
namespace XJ
open PySem PySem.W PyProof.Rows Builtin
section
variable {M : Model} {A : Around} {E : Value → Shared → Prop} {s : Shared} {env : Env} {c n : Addr} {nm q : Str} {bs tl : List Value} {hd : Bool} {sn : List Str} {sub : List Value} {ab : Bool} {col : Option Bool} {dd : Option Addr} {k0 k1 k2 k3 k5 : Option Value} {nid : String}
/-- an exception that may be raised: an object of the class c, not yet raised -/
structure Ready (h : Heap) (c n : Addr) (nm q : Str) (bs tl : List Value) (hd : Bool) (sn : List Str) (sub : List Value) (ab : Bool) (col : Option Bool) (dd : Option Addr) (k0 k1 k2 k3 k5 : Option Value) (nid : String) (e : Addr) (dx : Option Addr) (t : Addr) : Prop where
  cls : h.get? c = some (excClassObj nm q c n bs tl hd sn sub ab col dd k0 k1 k2 k3 k5 nid)
  obj : h.get? e = some { cls := .ref c, dict := dx, data := .fields #[.ref t, .none, .none, .none, .bool false, .none] }
end
section
variable {P : Program} {w : World} {A : Around} {E : Value → Shared → Prop} {s : Shared} {env : Env} {c n fn : Addr} {nm q : Str} {bs tl bmB : List Value} {hd : Bool} {sn : List Str} {sub : List Value} {ab : Bool} {col : Option Bool} {dd : Option Addr} {k0 k1 k2 k3 k5 : Option Value} {B nid iid : String} {ns : Str → Option Value} {fo : Obj}
end
end XJ

/-! the def's own body: super() -/
namespace XJ
open PySem PySem.W PyProof.Rows Builtin
/-- what the frozen heap tells of a method whose body says super() -/
structure Node (P : Program) (w : World) (K : Frag) (m : Heap) (mg : Str → Option Value) (fn d e c cc cda : Addr) (fd : FuncData) (ob : Obj) (cd : ClassData) (me : Str) : Prop where
  kin : K.In m
  fn : ∃ of, m.get? fn = some of ∧ of.data = .func fd
  first : ∃ ar, (fd.params.posonlyargs ++ fd.params.args).head? = some ar ∧ ar.arg = me
  code : ∃ oc vs file tf, m.get? cda = some oc ∧ oc.data = .fields vs ∧ vs[2]? = some (.str file tf) ∧ ((P.main.file : Str) == file) = true
  cell : m.IsCell cc (some (.ref d))
  dcls : ∃ od, m.get? d = some od ∧ od.data = .cls cd
  here : m.get? e = some ob
  cls : ob.cls = .ref c
  inst : ∀ z, ob.data ≠ .cls z
  sub : Looks (model P w) m (isSubtype (.ref c) (.ref d)) true
  glob : m.Ns mainGlobals mg
  noSup : mg "super" = none
  blt : ∃ mb, m.Ns builtinsNs mb ∧ mb "super" = some (.type "super")
  top : (P.main.scope.names.lookup ("super" : Str)).isSome = false
section
variable {P : Program} {w : World} {A : Around} {E : Value → Shared → Prop} {K : Frag} {m : Heap} {mg ml : Str → Option Value} {fn d e c cc cda L : Addr} {fd : FuncData} {ob : Obj} {cd : ClassData} {me q : Str} {scope : Scope} {body : List Stmt} {g : Array GenState} {dr : Drawn} {tk : Nat} {os : OsState} {p0 p1 : Pos} {whole : Sem Value}
end
end XJ

/-! the def's own body: super().__init__(text) -/
namespace XJ
open PySem PySem.W PyProof.Rows Builtin
section
variable {P : Program} {w : World} {A : Around} {E : Value → Shared → Prop} {s : Shared} {env : Env} {b e : Addr} {te : Expr} {pos : Pos}
end
end XJ

/-! the def's own body: super().__init__(text) -/
namespace XJ
open PySem PySem.W PyProof.Rows Builtin
/-- the line behind the class d -/
structure Line (P : Program) (w : World) (K : Frag) (m : Heap) (d c : Addr) (line rest : List Value) : Prop where
  own : Looks (model P w) m (opaqueClassAbove (.ref c)) none
  mro : Looks (model P w) m (mroOf (.ref c)) line
  cut : (line.dropWhile (· != .ref d)).drop 1 = rest
  init : alongIn K "__init__" rest = some (some vin)
  sub : Looks (model P w) m (isSubtype (.ref c) (.type "ValueError")) true
section
variable {P : Program} {w : World} {A : Around} {E : Value → Shared → Prop} {K : Frag} {m : Heap} {mg ml : Str → Option Value} {fn d e c cc cda L : Addr} {fd : FuncData} {ob : Obj} {cd cdc : ClassData} {me q : Str} {scope : Scope} {body : List Stmt} {g : Array GenState} {dr : Drawn} {tk : Nat} {os : OsState} {p0 p1 ap cp sp : Pos} {te : Expr} {line rest : List Value} {t0 : Addr} {vs : Array Value}
end
end XJ

/-! the whole def: super().__init__(text); me.f = pv -/
namespace XJ
open PySem PySem.W PyProof.Rows Builtin
section
variable {P : Program} {w : World} {A : Around} {E : Value → Shared → Prop} {K : Frag} {m : Heap} {mg : Str → Option Value} {fn d e c cc cda t0 : Addr} {cd cdc : ClassData} {me pv f q : Str} {scope : Scope} {g : Array GenState} {dr : Drawn} {tk : Nat} {os : OsState} {p0 p1 p2 p3 p4 ap cp sp sp2 : Pos} {te : Expr} {line rest : List Value}
  {params : Arguments} {dV kV doc pm ct oc v : Value} {an od : Option Addr} {osl : Array (Option Value)} {R : Result → Shared → Prop}
/-- what the def leaves: the exception bears a dict with its one field -/
structure Told (m m' : Heap) (e c : Addr) (f : Str) (v : Value) : Prop where
  old : ∀ b o, b ≠ e → m.get? b = some o → m'.get? b = some o
  obj : ∃ t1 dx, m'.get? e = some { cls := .ref c, dict := some dx, data := .fields #[.ref t1, .none, .none, .none, .bool false, .none] } ∧ m.get? dx = none ∧ m'.Ns1 dx fun y => if y = f then some v else none
end
end XJ

/-! super().__init__(text) in a class that stands over Exception -/
namespace XE
open XJ PySem PySem.W PyProof.Rows Builtin
abbrev vin : Value := .builtin "Exception.__init__"
abbrev sup (d e c : Addr) : Obj := { cls := .type "super", dict := none, data := .fields #[.ref d, .ref e, .ref c], slots := #[] }
/-- a super object, its instance, and what stands behind the class d in the line of c -/
structure Sup (P : Program) (w : World) (K : Frag) (m : Heap) (so d e c : Addr) (ob : Obj) (line rest : List Value) : Prop where
  kin : K.In m
  at_ : m.get? so = some (sup d e c)
  here : m.get? e = some ob
  cls : ob.cls = .ref c
  ne : e ≠ c
  own : Looks (model P w) m (opaqueClassAbove (.ref c)) none
  mro : Looks (model P w) m (mroOf (.ref c)) line
  cut : (line.dropWhile (· != .ref d)).drop 1 = rest
  init : alongIn K "__init__" rest = some (some vin)
  sub : Looks (model P w) m (isSubtype (.ref c) (.type "Exception")) true
section
variable {P : Program} {w : World} {A : Around} {E : Value → Shared → Prop} {K : Frag} {m : Heap} {so d e c : Addr} {ob : Obj} {line rest : List Value} {v : Value} {g : Array GenState} {dr : Drawn} {tk : Nat} {os : OsState}
end
end XE

namespace XE
open XJ PySem PySem.W PyProof.Rows Builtin
section
variable {P : Program} {w : World} {A : Around} {E : Value → Shared → Prop} {K : Frag} {m : Heap} {so d e c : Addr} {ob : Obj} {line rest : List Value} {v : Value} {g : Array GenState} {dr : Drawn} {tk : Nat} {os : OsState}
end
end XE

/-! the def's own body: super().__init__(text) -/
namespace XE
open XJ PySem PySem.W PyProof.Rows Builtin
section
variable {P : Program} {w : World} {A : Around} {E : Value → Shared → Prop} {s : Shared} {env : Env} {b e : Addr} {te : Expr} {pos : Pos}
end
end XE

/-! the def's own body: super().__init__(text) -/
namespace XE
open XJ PySem PySem.W PyProof.Rows Builtin
/-- the line behind the class d -/
structure Line (P : Program) (w : World) (K : Frag) (m : Heap) (d c : Addr) (line rest : List Value) : Prop where
  own : Looks (model P w) m (opaqueClassAbove (.ref c)) none
  mro : Looks (model P w) m (mroOf (.ref c)) line
  cut : (line.dropWhile (· != .ref d)).drop 1 = rest
  init : alongIn K "__init__" rest = some (some vin)
  sub : Looks (model P w) m (isSubtype (.ref c) (.type "Exception")) true
section
variable {P : Program} {w : World} {A : Around} {E : Value → Shared → Prop} {K : Frag} {m : Heap} {mg ml : Str → Option Value} {fn d e c cc cda L : Addr} {fd : FuncData} {ob : Obj} {cd cdc : ClassData} {me q : Str} {scope : Scope} {body : List Stmt} {g : Array GenState} {dr : Drawn} {tk : Nat} {os : OsState} {p0 p1 ap cp sp : Pos} {te : Expr} {line rest : List Value} {t0 : Addr} {vs : Array Value}
end
end XE

/-! the whole def: super().__init__(text); me.f = pv -/
namespace XE
open XJ PySem PySem.W PyProof.Rows Builtin
section
variable {P : Program} {w : World} {A : Around} {E : Value → Shared → Prop} {K : Frag} {m : Heap} {mg : Str → Option Value} {fn d e c cc cda t0 : Addr} {cd cdc : ClassData} {me pv f q : Str} {scope : Scope} {g : Array GenState} {dr : Drawn} {tk : Nat} {os : OsState} {p0 p1 p2 p3 p4 ap cp sp sp2 : Pos} {te : Expr} {line rest : List Value}
  {params : Arguments} {dV kV doc pm ct oc v : Value} {an od : Option Addr} {osl : Array (Option Value)} {R : Result → Shared → Prop}
end
end XE

/-! the text that an exception with a told field is made of -/
namespace L2
open PySem PySem.Spec PyProof.Rows
/-- a value that can stand in such a text -/
def Fit (v : Value) : Prop := (∃ i t, v = .int i t ∧ i.natAbs.log2 < 1920) ∨ (∃ x t, v = .str x t ∧ x.length ≤ 1000000)
/-- parts of a text: written ones, and the value named pv -/
inductive Pts (pv : Str) : List Expr → Prop
  | nil : Pts pv []
  | txt {x : Str} {j p es} (h : x.length ≤ 1000) (r : Pts pv es) : Pts pv (.Constant (.str x) j p :: es)
  | val {np p es} (r : Pts pv es) : Pts pv (.FormattedValue (.Name pv np) (-1) none p :: es)
section
variable {P : Program} {w : World} {A : Around} {E : Value → Shared → Prop} {env : Env} {L : Addr} {mA : Str → Option Value} {v : Value} {pv : Str} {g : Array GenState} {dr : Drawn} {os : OsState} {m : Heap}
/-- one text as the only argument -/
inductive Txt1 (pv : Str) (okv : Value → Prop) : Expr → Prop
  | txt {x : Str} {j p} : Txt1 pv okv (.Constant (.str x) j p)
  | many {a b es p} (F : ∀ v, okv v → Fit v) (T : Pts pv (a :: b :: es)) (few : (a :: b :: es).length ≤ 5) : Txt1 pv okv (.JoinedStr (a :: b :: es) p)
end
end L2

namespace L2
open PySem PySem.Spec PyProof.Rows
section
variable {P : Program} {w : World} {K : PySem.W.Frag} {mg : Str → Option Value} {base : Heap} {N : List Str} {qual : Str} {scope : Scope} {f : Addr} {cd : Value} {A : Around} {outer : List Env} {s₀ : Shared} {H₀ : Hp} {E₀ : XK}
end
end L2

namespace L2
open PySem PySem.Spec PyProof.Rows
/-- an own class of exceptions whose __init__ stores one field -/
structure OwnI (P : Program) (w : World) (K : PySem.W.Frag) (x : Str) (C : Addr) (fld : Str) (fit : Bool) (mg : Str → Option Value) (base : Heap) (k : Nat) : Prop where
  ex : Mod K mg base → ∃ (n fn : Addr) (nm q : Str) (bs tl bmB : List Value) (hd : Bool) (sn : List Str) (sub : List Value) (ab : Bool) (col : Option Bool) (dd : Option Addr) (k0 k1 k2 k3 k5 : Option Value) (B nid iid : String) (ns : Str → Option Value) (fo : Obj),
    XJ.ExcInit base C n fn nm q bs tl bmB hd sn sub ab col dd k0 k1 k2 k3 k5 B nid iid ns fo ∧ mg x = some (.ref C) ∧ tl.contains (.type "BaseException") = true ∧
    ∀ (A : Around) (s : Shared) (e t0 : Addr) (v : Value) (R : Result → Shared → Prop), (fit = true → Fit v) → Room k A → (∀ b o, base.get? b = some o → s.heap.get? b = some o) → s.heap.get? e = some (XJ.rawExc C t0) → base.get? e = none →
      (∀ m' t', XJ.Told s.heap m' e C fld v → R (.ok (.ret .none)) { s with heap := m', toks := t' }) → codeAny (model P w) A (.call (.ref fn) ⟨.ref e :: [v], []⟩) R s
section
variable {P : Program} {w : World} {K : PySem.W.Frag} {mg : Str → Option Value} {base : Heap} {N : List Str} {qual : Str} {scope : Scope} {f : Addr} {cd : Value} {A : Around} {outer : List Env} {s₀ : Shared} {H₀ : Hp} {E₀ : XK} {k n : Nat}
theorem Inv.more {X : Cx} {pins : List (Addr × Obj)} {σ : St} {H H' : Hp} {s : Shared} {h' : Heap} {t' : Nat} (I : Inv X pins σ H s) (k : ∀ b u, s.heap.get? b = some u → h'.get? b = some u) (d : ∀ b, H' b = H b ∨ (H b = none ∧ s.heap.get? b = none)) (hok : HOk X.prog X.w H' h') : Inv X pins σ H' { s with heap := h', toks := t' } := by
  have no : ∀ {b : Addr} {o : HO}, (H b = none ∧ s.heap.get? b = none) → H b ≠ some o := fun z q => by rw [z.1] at q; cases q
  refine I.un ⟨fun b ob q _ _ _ => k b ob q, fun b ob q _ _ _ => ⟨ob.slots, k b ob q⟩, fun b ob q n _ => ?_, fun b ob q _ => ⟨ob, k b ob q⟩, fun b xs q => ?_, fun b u xs q => ?_, fun b ps q => ?_⟩ hok
  · rcases d b with z | z
    · exact z.trans n
    · rw [z.2] at q; cases q
  · rcases d b with z | z
    · exact z.trans q
    · exact absurd q (no z)
  · rcases d b with z | z
    · exact z.trans q
    · exact absurd q (no z)
  · rcases d b with z | z
    · exact ⟨#[], by rw [z, q]; simp⟩
    · exact absurd q (no z)
end
end L2

/-! a class of exceptions with a told field, from what the top has written -/
namespace L2
open PySem PySem.Spec PyProof.Rows
section
variable {K : PySem.W.Frag} {x fld : Str} {C n fn cda cc : Addr} {fit : Bool} {file me pv q : Str} {scope : Scope} {params : Arguments} {dd od od2 od3 an : Option Addr} {cd : ClassData} {sl osl osl2 osl3 : Array (Option Value)} {tl : List Value} {k0 k1 k2 k3 k5 : Option Value} {te : Expr} {p0 p1 p2 p3 p4 ap cp sp sp2 : Pos} {dV kV doc pm ct oc2 oc3 : Value} {vs : Array Value} {tf : Tok} {ar : Arg} {pl : Sem Bool} {fd : FuncData}
end
end L2

/-! a class of exceptions with a told field, from what the top has written -/
namespace L2
open PySem PySem.Spec PyProof.Rows
section
variable {K : PySem.W.Frag} {x fld : Str} {C n fn cda cc : Addr} {fit : Bool} {file me pv q : Str} {scope : Scope} {params : Arguments} {dd od od2 od3 an : Option Addr} {cd : ClassData} {sl osl osl2 osl3 : Array (Option Value)} {tl : List Value} {k0 k1 k2 k3 k5 : Option Value} {te : Expr} {p0 p1 p2 p3 p4 ap cp sp sp2 : Pos} {dV kV doc pm ct oc2 oc3 : Value} {vs : Array Value} {tf : Tok} {ar : Arg} {pl : Sem Bool} {fd : FuncData}
end
end L2

namespace L2
open PySem PySem.Spec PyProof.Rows
section
variable {P : Program} {w : World} {K : PySem.W.Frag} {mg : Str → Option Value} {base : Heap} {N : List Str} {qual : Str} {scope : Scope} {f : Addr} {cd : Value} {A : Around} {outer : List Env} {s₀ : Shared} {H₀ : Hp} {E₀ : XK} {B : Bs} {E : EX} {We : WE} {k : Nat}
end
end L2

namespace L2
open PySem PySem.Spec PyProof.Rows
/-! ### C.m(x, ..): a method read off its class -/
section
variable {X : Cx} {B : Bs} {E : EX} {Wr : WA} {W : WF} {k n : Nat} {ps : List Str}
end
end L2

namespace XJ
open PySem PySem.W PyProof.Rows Builtin
section
variable {P : Program} {w : World} {A : Around} {E : Value → Shared → Prop} {K : Frag} {m : Heap} {e c d : Addr} {ob : Obj} {nm : Str} {v : Value} {ns : Str → Option Value} {vs : Array Value} {g : Array GenState} {dr : Drawn} {tk : Nat} {os : OsState}
end
end XJ

namespace XJ
open PySem PySem.W PyProof.Rows Builtin
section
variable {P : Program} {w : World} {A : Around} {E : Value → Shared → Prop} {K : Frag} {m : Heap} {e c d : Addr} {ob : Obj} {nm : Str} {v : Value} {ns : Str → Option Value} {vs : Array Value} {g : Array GenState} {dr : Drawn} {tk : Nat} {os : OsState}
end
end XJ

namespace L2
open PySem PySem.Spec PyProof.Rows
/-- what is asked of the class of an exception whose field is read -/
structure ExF (K : PySem.W.Frag) (C : Addr) (f : Str) : Prop where
  cls : ExcCls K C
  no : PySem.W.findIn K (.ref C) f = some none
  own : ∃ cd, PySem.W.clsIn K C = some cd ∧ cd.hasDict = true
section
variable {X : Cx} {e : Expr} {f : Str} {pos : Pos} {te : TE}
end
end L2

namespace L2
open PySem PySem.Spec PyProof.Rows
section
variable {X : Cx} {B : Bs} {E : EX} {e : Expr} {We : WE} {pos : Pos}
end
end L2

namespace L2
open PySem PySem.Spec PyProof.Rows
/-- a class of own objects, made with nothing but what its def has by itself -/
structure MakD (P : Program) (w : World) (K : PySem.W.Frag) (mg : Str → Option Value) (base : Heap) (k : Nat) (x : Str) (C : Addr) (ps : List Str) (dvs : List V) (sp : Sp) : Prop where
  ex : ∃ (f : Addr) (fd : FuncData) (ds : List Value), Mk K C f ∧ FnOk P w K mg base (CXR P w) k f fd ps sp ∧ mg x = some (.ref C) ∧ Binds K fd ps ds ∧ Vals dvs ds
section
variable {X : Cx} {B : Bs} {E : EX} {W : WF} {k n : Nat} {ps : List Str} {x : Str} {p pos : Pos}
end
/-- a def of a class, read off the class -/
structure TopC (K : PySem.W.Frag) (mg : Str → Option Value) (cn : Str) (C : Addr) (m qual : Str) (st : Stmt) : Prop where
  ex : ∃ (f : Addr) (fd : FuncData), FunD K m qual st .none f fd ∧ mg cn = some (.ref C) ∧ PySem.W.specialIn K (.ref C) "__getattribute__" = some (some (.builtin "type.__getattribute__")) ∧ PySem.W.readsIn K C (.type "type") = true ∧
    PySem.W.findCls K (.ref C) (.type "type") m = some (.val (.ref f)) ∧ PySem.W.handedIn (.ref f) = true ∧ PySem.W.keepIn K (.ref f) = true
section
variable {P : Program} {w : World} {K : PySem.W.Frag} {mg : Str → Option Value} {base : Heap} {cn m qual : Str} {C f : Addr} {st : Stmt} {n : Nat} {ps : List Str} {sp : Sp}
theorem TopC.met (T : TopC K mg cn C m qual st) (h : ∀ (kV doc pm : Value) (an : Option Addr) (cdv ct : Value) (us : List Value), us.length = ps.length → bindArgs (PySem.W.fnOf m qual (defArgs st) (defBody st) (defScope st) .none kV doc pm an cdv ct) ⟨us, []⟩ = pure (ps.zip us))
    (ok : ∀ f fd, FunD K m qual st .none f fd → FnOk P w K mg base (CXR P w) n f fd ps sp) : CMet P w K mg base n cn C m ps sp := by
  obtain ⟨f, fd, F, hm, ga, rd, fc, hh, kp⟩ := T.ex
  refine ⟨f, fd, _, hm, ga, rd, fc, hh, kp, ok f fd F, ?_⟩
  obtain ⟨oc, od, kV, doc, pm, an, cdv, ct, osl, rfl, lk, hcd⟩ := F.ex
  exact .all (h kV doc pm an cdv ct)
end
end L2

namespace K
open PySem L2
/-! ### the mathematics of fractions -/
/-- top and bottom in lowest terms -/
def dv (a b : Int) : Int := if b < 0 then -(Int.gcd a b : Int) else (Int.gcd a b : Int)
def lo1 (a b : Int) : Int := a.fdiv (dv a b)
def lo2 (a b : Int) : Int := b.fdiv (dv a b)
theorem dv_ne {a b : Int} (h : b ≠ 0) : dv a b ≠ 0 := by
  unfold dv
  have : 0 < Int.gcd a b := Int.gcd_pos_of_ne_zero_right _ h
  split <;> omega
theorem dv_small {a b : Int} (h : b ≠ 0) (hb : b.natAbs.log2 < 9000) : (dv a b).natAbs.log2 < 9000 := by
  have e : (dv a b).natAbs = Int.gcd a b := by unfold dv; split <;> simp
  rw [e]
  have hp : 0 < Int.gcd a b := Int.gcd_pos_of_ne_zero_right _ h
  have hle : Int.gcd a b ≤ b.natAbs := Nat.le_of_dvd (by omega) (by have := Int.gcd_dvd_right (a := a) (b := b); exact Int.natAbs_dvd_natAbs.mpr this |> fun z => by simpa using z)
  refine (Nat.log2_lt (by omega)).mpr ?_
  exact Nat.lt_of_le_of_lt hle ((Nat.log2_lt (by omega)).mp hb)
theorem gcd_step {x y : Int} (h1 : 0 ≤ x) (h2 : 0 < y) : Int.gcd y (x % y) = Int.gcd x y := by
  obtain ⟨m, rfl⟩ := Int.eq_ofNat_of_zero_le h1
  obtain ⟨n, rfl⟩ := Int.eq_ofNat_of_zero_le (Int.le_of_lt h2)
  show Nat.gcd n (m % n) = Nat.gcd m n
  rw [Nat.gcd_comm n, ← Nat.gcd_rec, Nat.gcd_comm]
theorem log2_le {n k : Nat} (h : n < 2 ^ k) (hk : 0 < k) : n.log2 < k := by
  rcases Nat.eq_zero_or_pos n with rfl | hp
  · simpa using hk
  · exact (Nat.log2_lt (by omega)).mpr h

/-! ### sizes -/
def Sz (x : Int) : Prop := x.natAbs < 10 ^ 41
theorem dv_dvd (a b : Int) : dv a b ∣ a ∧ dv a b ∣ b := by
  unfold dv
  split
  · exact ⟨Int.neg_dvd.mpr (Int.gcd_dvd_left ..), Int.neg_dvd.mpr (Int.gcd_dvd_right ..)⟩
  · exact ⟨Int.gcd_dvd_left .., Int.gcd_dvd_right ..⟩
theorem quo_le {d x : Int} (h0 : d ≠ 0) (h : d ∣ x) : (x.fdiv d).natAbs ≤ x.natAbs ∧ d * x.fdiv d = x := by
  obtain ⟨q, rfl⟩ := h
  rw [Int.mul_fdiv_cancel_left _ h0]
  refine ⟨?_, rfl⟩
  rw [Int.natAbs_mul]
  exact Nat.le_mul_of_pos_left _ (by omega)
/-! ### fractions in lowest terms are the rational numbers -/
theorem dv_eq {a b : Int} (hb : b ≠ 0) : ∃ m n : Int, a = (Int.gcd a b : Int) * m ∧ b = (Int.gcd a b : Int) * n ∧ 0 < (Int.gcd a b : Int) := by
  obtain ⟨m, hm⟩ := Int.gcd_dvd_left a b
  obtain ⟨n, hn⟩ := Int.gcd_dvd_right a b
  have : 0 < Int.gcd a b := Int.gcd_pos_of_ne_zero_right _ hb
  exact ⟨m, n, hm, hn, by omega⟩
theorem lo_num {a b : Int} (hb : b ≠ 0) : lo1 a b = (Rat.divInt a b).num := by
  rw [Rat.num_divInt, Int.gcd_comm b a]
  obtain ⟨m, n, hm, hn, hg⟩ := dv_eq (a := a) hb
  unfold lo1 dv
  generalize (Int.gcd a b : Int) = g at *
  have g0 : g ≠ 0 := by omega
  subst hm
  split
  · rename_i h
    rw [Int.sign_eq_neg_one_of_neg h, show (-g : Int) = g * (-1) by omega, show g * m = g * (-1) * (-m) by grind, Int.mul_fdiv_cancel_left _ (by omega), show -1 * (g * -1 * -m) = g * (-m) by grind, Int.mul_ediv_cancel_left _ g0]
  · rename_i h
    rw [Int.sign_eq_one_of_pos (by omega), Int.one_mul, Int.mul_ediv_cancel_left _ g0, Int.mul_fdiv_cancel_left _ g0]
theorem lo_den {a b : Int} (hb : b ≠ 0) : lo2 a b = ((Rat.divInt a b).den : Int) := by
  rw [Rat.den_divInt, if_neg hb, Int.gcd_comm b a]
  obtain ⟨m, n, hm, hn, hg⟩ := dv_eq (a := a) hb
  unfold lo2 dv
  rw [Int.natCast_ediv]
  generalize (Int.gcd a b : Int) = g at *
  have g0 : g ≠ 0 := by omega
  subst hn
  split
  · rename_i h
    rw [show ((g * n).natAbs : Int) = g * (-n) by rw [Int.ofNat_natAbs_of_nonpos (by omega)]; grind, Int.mul_ediv_cancel_left _ g0, show (-g : Int) = g * (-1) by omega, show g * n = g * (-1) * (-n) by grind, Int.mul_fdiv_cancel_left _ (by omega)]
  · rename_i h
    rw [Int.natAbs_of_nonneg (by omega), Int.mul_ediv_cancel_left _ g0, Int.mul_fdiv_cancel_left _ g0]
/-- a bound of both parts -/
structure Bt (k : Nat) (r : Rat) : Prop where
  n : r.num.natAbs < 2 ^ k
  d : r.den < 2 ^ k
theorem Bt.mono {j k : Nat} {r : Rat} (h : Bt j r) (e : j ≤ k) : Bt k r := ⟨Nat.lt_of_lt_of_le h.n (Nat.pow_le_pow_right (by decide) e), Nat.lt_of_lt_of_le h.d (Nat.pow_le_pow_right (by decide) e)⟩
theorem Bt.div {k : Nat} {a b : Int} (hb : b ≠ 0) (h1 : a.natAbs < 2 ^ k) (h2 : b.natAbs < 2 ^ k) : Bt k (Rat.divInt a b) := by
  refine ⟨?_, ?_⟩
  · rw [← lo_num hb]
    exact Nat.lt_of_le_of_lt (quo_le (dv_ne hb) (dv_dvd a b).1).1 h1
  · have := (quo_le (dv_ne (a := a) hb) (dv_dvd a b).2).1
    have e : lo2 a b = _ := lo_den (a := a) hb
    unfold lo2 at e
    rw [e, Int.natAbs_natCast] at this
    exact Nat.lt_of_le_of_lt this h2
theorem mul_lt_pow {x y j k : Nat} (h : x < 2 ^ j) (g : y < 2 ^ k) : x * y < 2 ^ (j + k) := by
  rw [Nat.pow_add]
  exact Nat.mul_lt_mul'' h g
theorem num_den (r : Rat) : Rat.divInt r.num r.den = r := Rat.num_divInt_den r
theorem den_ne (r : Rat) : (r.den : Int) ≠ 0 := by have := r.den_nz; omega
theorem den_mul_ne (r s : Rat) : (r.den : Int) * s.den ≠ 0 := Int.mul_ne_zero (den_ne r) (den_ne s)
theorem sub_div (r s : Rat) : Rat.divInt (r.num * s.den - s.num * r.den) (r.den * s.den) = r - s := by
  rw [← Rat.divInt_sub_divInt _ _ (den_ne r) (den_ne s), num_den, num_den]
theorem Bt.mulN {j k : Nat} {r s : Rat} (h : Bt j r) (g : Bt k s) : ((r.den : Int) * s.den).natAbs < 2 ^ (j + k) := by
  rw [Int.natAbs_mul]; exact mul_lt_pow h.d g.d
theorem Bt.subN {j k : Nat} {r s : Rat} (h : Bt j r) (g : Bt k s) : (r.num * s.den - s.num * r.den).natAbs < 2 ^ (j + k + 1) := by
  have h1 := mul_lt_pow h.n g.d
  have h2 := mul_lt_pow g.n h.d
  rw [Nat.add_comm k j] at h2
  have h3 : (r.num * s.den).natAbs = r.num.natAbs * s.den := by rw [Int.natAbs_mul]; rfl
  have h4 : (s.num * r.den).natAbs = s.num.natAbs * r.den := by rw [Int.natAbs_mul]; rfl
  rw [Nat.pow_succ]
  omega
theorem Bt.sub {j k : Nat} {r s : Rat} (h : Bt j r) (g : Bt k s) : Bt (j + k + 1) (r - s) := by
  rw [← sub_div]
  exact .div (den_mul_ne r s) (h.subN g) (Nat.lt_of_lt_of_le (h.mulN g) (Nat.pow_le_pow_right (by decide) (by omega)))
theorem Bt.neg {j : Nat} {r : Rat} (h : Bt j r) : Bt j (-r) := ⟨by rw [Rat.neg_num, Int.natAbs_neg]; exact h.n, by rw [Rat.neg_den]; exact h.d⟩
theorem log_pow {x k : Nat} (h : x < 2 ^ k) (hk : k ≤ 9000) (h0 : 0 < k) : x.log2 < 9000 := Nat.lt_of_lt_of_le (log2_le h h0) hk
theorem mulOk {x y : Int} {j k : Nat} (h : x.natAbs < 2 ^ j) (g : y.natAbs < 2 ^ k) (e : j ≤ 9000) (e' : k ≤ 9000) : IntMulOk x y := PyProof.Rows.mulOk_of_bits (Nat.le_trans (PyProof.Rows.intBits_le h) e) (Nat.le_trans (PyProof.Rows.intBits_le g) e') (by decide)
theorem dn {k : Nat} {r : Rat} (h : Bt k r) : ((r.den : Int)).natAbs < 2 ^ k := h.d

end K

namespace K
open PySem L2
def w_law_less_5e3f : WF := wFn 2 2 (sRet (aOp uLt (aOp uMul (aOp uIx (aVar 0) (aC (.int 0))) (aOp uIx (aVar 1) (aC (.int 1)))) (aOp uMul (aOp uIx (aVar 1) (aC (.int 0))) (aOp uIx (aVar 0) (aC (.int 1))))))

def w_greatest_divisor : WF := wFn 2 2 (sSeq (sWhile (aB (aOp uNe (aVar 1) (aC (.int 0)))) (sPar 0 1 (aCons (aVar 1) (aCons (aOp uMod (aVar 0) (aVar 1)) aNil))))
    (sRet (aVar 0)))

def w_fraction_of : WF := wFn 3 2 (sSeq (sIf (aB (aOp uEq (aVar 1) (aC (.int 0)))) (sRaise "NoFraction" (aCons (aC (.str "the bottom of a fraction is not 0")) aNil)) sNext)
    (sSeq (sSet 2 (aCall w_greatest_divisor [] (aCons (aBlt uAbs (aCons (aVar 0) aNil)) (aCons (aBlt uAbs (aCons (aVar 1) aNil)) aNil))))
    (sSeq (sIf (aB (aOp uLt (aVar 1) (aC (.int 0)))) (sSet 2 (aUn uNeg (aVar 2))) sNext)
    (sRet (aTup (aCons (aOp uDiv (aVar 0) (aVar 2)) (aCons (aOp uDiv (aVar 1) (aVar 2)) aNil)))))))

def w_is_less : WF := wFn 2 2 (sRet (aOp uLt (aOp uMul (aOp uIx (aVar 0) (aC (.int 0))) (aOp uIx (aVar 1) (aC (.int 1)))) (aOp uMul (aOp uIx (aVar 1) (aC (.int 0))) (aOp uIx (aVar 0) (aC (.int 1))))))

def w_law_box_1502 : WF := wFn 3 1 (sSeq (sSet 2 (aLc (aWalk (aVar 0)) (gN 1) (aB (aOp uGe (aVar 1) (aOp uPow (aC (.int 10)) (aC (.int 18))))) (aVar 1) [1]))
    (sRet (aLst (aCons (aVar 2) (aCons (aC (.int 0)) (aCons (aLc (aWalk (aVar 0)) (gN 1) (aB (aOp uLt (aVar 1) (aOp uPow (aC (.int 10)) (aC (.int 18))))) (aVar 1) [1]) (aCons (aC (.int 0)) aNil)))))))

def w_law_mixed_0002 : WF := wFn 3 2 (sSeq (sSet 2 (aOp uMod (aOp uPow (aOp uAdd (aOp uAdd (aOp uAdd (aOp uMod (aVar 0) (aC (.int 2147483647))) (aOp uMul (aOp uMul (aC (.int 1009)) (aVar 1)) (aVar 1))) (aOp uMul (aC (.int 48611)) (aVar 1))) (aC (.int 17))) (aC (.int 5))) (aC (.int 2147483647))))
    (sRet (aOp uMod (aOp uAdd (aOp uMul (aVar 2) (aC (.int 39373))) (aOp uMul (aC (.int 7919)) (aVar 1))) (aC (.int 1000000007)))))

def w_law_take_dbef : WF := wFn 5 2 (sSeq (sIx (aOp uAdd (aOp uIx (aVar 0) (aC (.int 3))) (aC (.int 1))) (aVar 0) (aC (.int 3)))
    (sSeq (sIf (aAndT (aB (aOp uEq (aOp uIx (aVar 0) (aC (.int 1))) (aC (.int 0)))) (aB (aOp uGt (aBlt uLen (aCons (aOp uIx (aVar 0) (aC (.int 0))) aNil)) (aC (.int 0))))) (sIx (aBm uPop (aOp uIx (aVar 0) (aC (.int 0))) (aCons (aC (.int 0)) aNil)) (aVar 0) (aC (.int 1))) sNext)
    (sSeq (sIf (aB (aOp uGt (aOp uIx (aVar 0) (aC (.int 1))) (aC (.int 0)))) (sSeq (sSet 2 (aOp uMod (aOp uIx (aVar 0) (aC (.int 1))) (aVar 1)))
    (sSeq (sIx (aOp uDiv (aOp uIx (aVar 0) (aC (.int 1))) (aVar 1)) (aVar 0) (aC (.int 1)))
    (sRet (aVar 2)))) sNext)
    (sSeq (sSet 3 (aOp uMul (aC (.int 7)) (aOp uIx (aVar 0) (aC (.int 3)))))
    (sSeq (sIf (aB (aOp uGt (aBlt uLen (aCons (aOp uIx (aVar 0) (aC (.int 2))) aNil)) (aC (.int 0)))) (sSet 3 (aOp uIx (aOp uIx (aVar 0) (aC (.int 2))) (aOp uMod (aOp uIx (aVar 0) (aC (.int 3))) (aBlt uLen (aCons (aOp uIx (aVar 0) (aC (.int 2))) aNil))))) sNext)
    (sSeq (sSet 2 (aC (.int 0)))
    (sSeq (sSet 4 (aC (.int 1)))
    (sSeq (sWhile (aB (aOp uLt (aVar 4) (aVar 1))) (sSeq (sSet 2 (aOp uAdd (aOp uMul (aVar 2) (aC (.int 1000000007))) (aCall w_law_mixed_0002 [] (aCons (aVar 3) (aCons (aOp uAdd (aOp uIx (aVar 0) (aC (.int 3))) (aOp uMul (aC (.int 1000)) (aOp uMod (aVar 2) (aC (.int 89))))) aNil)))))
    (sSet 4 (aOp uMul (aVar 4) (aC (.int 1000000007))))))
    (sRet (aOp uMod (aVar 2) (aVar 1)))))))))))

def w_law_low_35aa : WF := wFn 4 2 (sSeq (sSet 2 (aBlt uAbs (aCons (aVar 0) aNil)))
    (sSeq (sSet 3 (aBlt uAbs (aCons (aVar 1) aNil)))
    (sSeq (sWhile (aB (aOp uGt (aVar 3) (aC (.int 0)))) (sPar 2 3 (aCons (aVar 3) (aCons (aOp uMod (aVar 2) (aVar 3)) aNil))))
    (sSeq (sIf (aB (aOp uLt (aVar 1) (aC (.int 0)))) (sSet 2 (aUn uNeg (aVar 2))) sNext)
    (sRet (aTup (aCons (aOp uDiv (aVar 0) (aVar 2)) (aCons (aOp uDiv (aVar 1) (aVar 2)) aNil))))))))

def w_law_plus_7700 : WF := wFn 2 2 (sRet (aCall w_law_low_35aa [] (aCons (aOp uAdd (aOp uMul (aOp uIx (aVar 0) (aC (.int 0))) (aOp uIx (aVar 1) (aC (.int 1)))) (aOp uMul (aOp uIx (aVar 1) (aC (.int 0))) (aOp uIx (aVar 0) (aC (.int 1))))) (aCons (aOp uMul (aOp uIx (aVar 0) (aC (.int 1))) (aOp uIx (aVar 1) (aC (.int 1)))) aNil))))

def w_law_worth_3dd4 : WF := wFn 11 3 (sSeq (sSet 5 (aBlt uSum (aCons (aLc (aWalk (aVar 0)) (gT 2 (gsCons (gN 3) (gsCons (gN 4) gsNil))) tYesU (aVar 3) [3, 4]) aNil)))
    (sSeq (sSet 6 (aTup (aCons (aC (.int 0)) (aCons (aC (.int 1)) aNil))))
    (sSeq (sSet 7 (aC (.int 0)))
    (sSeq (sFor (aWalk (aVar 0)) (gT 2 (gsCons (gN 3) (gsCons (gN 4) gsNil))) (sSeq (sSet 8 (aTup (aCons (aVar 7) (aCons (aVar 5) aNil))))
    (sSeq (sSet 9 (aTup (aCons (aOp uAdd (aVar 7) (aVar 3)) (aCons (aVar 5) aNil))))
    (sSeq (sSet 7 (aOp uAdd (aVar 7) (aVar 3)))
    (sSeq (sIf (aB (aCall w_law_less_5e3f [] (aCons (aVar 8) (aCons (aVar 1) aNil)))) (sSet 8 (aVar 1)) sNext)
    (sSeq (sIf (aB (aCall w_law_less_5e3f [] (aCons (aVar 2) (aCons (aVar 9) aNil)))) (sSet 9 (aVar 2)) sNext)
    (sIf (aB (aCall w_law_less_5e3f [] (aCons (aVar 8) (aCons (aVar 9) aNil)))) (sSeq (sSet 10 (aOp uSub (aOp uMul (aOp uIx (aVar 9) (aC (.int 0))) (aOp uIx (aVar 8) (aC (.int 1)))) (aOp uMul (aOp uIx (aVar 8) (aC (.int 0))) (aOp uIx (aVar 9) (aC (.int 1))))))
    (sSeq (sSet 10 (aOp uMul (aOp uMul (aVar 10) (aVar 4)) (aVar 5)))
    (sSet 6 (aCall w_law_plus_7700 [] (aCons (aVar 6) (aCons (aCall w_law_low_35aa [] (aCons (aVar 10) (aCons (aOp uMul (aOp uMul (aOp uIx (aVar 9) (aC (.int 1))) (aOp uIx (aVar 8) (aC (.int 1)))) (aVar 3)) aNil))) aNil)))))) sNext)))))))
    (sRet (aVar 6))))))

def w_law_cut_03a2 : WF := wFn 12 4 (sSeq (sIf (aB (aOp uEq (aOp uIx (aVar 2) (aC (.int 0))) (aC (.int 0)))) (sRet (aVar 1)) sNext)
    (sSeq (sSet 6 (aBlt uSum (aCons (aLc (aWalk (aVar 0)) (gT 2 (gsCons (gN 4) (gsCons (gN 5) gsNil))) tYesU (aVar 4) [4, 5]) aNil)))
    (sSeq (sSet 7 (aC (.int 0)))
    (sSeq (sFor (aWalk (aVar 0)) (gT 2 (gsCons (gN 4) (gsCons (gN 5) gsNil))) (sSeq (sSet 8 (aTup (aCons (aVar 7) (aCons (aVar 6) aNil))))
    (sSeq (sSet 9 (aTup (aCons (aOp uAdd (aVar 7) (aVar 4)) (aCons (aVar 6) aNil))))
    (sSeq (sSet 7 (aOp uAdd (aVar 7) (aVar 4)))
    (sSeq (sIf (aB (aCall w_law_less_5e3f [] (aCons (aVar 8) (aCons (aVar 1) aNil)))) (sSet 8 (aVar 1)) sNext)
    (sSeq (sIf (aB (aCall w_law_less_5e3f [] (aCons (aVar 3) (aCons (aVar 9) aNil)))) (sSet 9 (aVar 3)) sNext)
    (sIf (aB (aCall w_law_less_5e3f [] (aCons (aVar 8) (aCons (aVar 9) aNil)))) (sSeq (sSet 10 (aCall w_law_worth_3dd4 [] (aCons (aVar 0) (aCons (aVar 8) (aCons (aVar 9) aNil)))))
    (sSeq (sIf (aNotT (aB (aCall w_law_less_5e3f [] (aCons (aVar 10) (aCons (aVar 2) aNil))))) (sSeq (sSet 11 (aOp uMul (aOp uIx (aVar 2) (aC (.int 0))) (aVar 4)))
    (sRet (aCall w_law_plus_7700 [] (aCons (aVar 8) (aCons (aCall w_law_low_35aa [] (aCons (aVar 11) (aCons (aOp uMul (aOp uMul (aOp uIx (aVar 2) (aC (.int 1))) (aVar 5)) (aVar 6)) aNil))) aNil))))) sNext)
    (sSet 2 (aCall w_law_plus_7700 [] (aCons (aVar 2) (aCons (aTup (aCons (aUn uNeg (aOp uIx (aVar 10) (aC (.int 0)))) (aCons (aOp uIx (aVar 10) (aC (.int 1))) aNil))) aNil)))))) sNext)))))))
    (sRet (aC .non))))))

def w_is_span : WF := wFn 2 2 (sRet (aAnd (aNot (aCall w_is_less [] (aCons (aVar 0) (aCons (aC (.tup [.int 0, .int 1])) aNil)))) (aAnd (aNot (aCall w_is_less [] (aCons (aC (.tup [.int 1, .int 1])) (aCons (aVar 1) aNil)))) (aNot (aCall w_is_less [] (aCons (aVar 1) (aCons (aVar 0) aNil)))))))

def w_check_span : WF := wFn 2 2 (sIf (aNotT (aB (aCall w_is_span [] (aCons (aVar 0) (aCons (aVar 1) aNil))))) (sRaise "NoSpan" (aCons (aC (.str "a span goes from 0 or more to 1 or less, and not backwards")) aNil)) sNext)

def w_greater : WF := wFn 2 2 (sRet (aIfE (aB (aCall w_is_less [] (aCons (aVar 0) (aCons (aVar 1) aNil)))) (aVar 1) (aVar 0)))

def w_law_best_1f71 : WF := wFn 3 1 (sSeq (sSet 1 (aC (.int 0)))
    (sSeq (sFor (aRng1 (aBlt uLen (aCons (aVar 0) aNil))) (gN 2) (sIf (aB (aCall w_law_less_5e3f [] (aCons (aOp uIx (aVar 0) (aVar 1)) (aCons (aOp uIx (aVar 0) (aVar 2)) aNil)))) (sSet 1 (aVar 2)) sNext))
    (sRet (aVar 1))))

def w_law_reply_e455 : WF := wFn 10 2 (sSeq (sIf (aOrT (aB (aOp uEq (aOp uIx (aVar 1) (aC (.int 0))) (aC (.str "trim")))) (aB (aOp uEq (aOp uIx (aVar 1) (aC (.int 0))) (aC (.str "choose"))))) (sSeq (sSet 4 (aLc (aWalk (aOp uIx (aVar 1) (aC (.int 2)))) (gT 2 (gsCons (gN 2) (gsCons (gN 3) gsNil))) tYesU (aCall w_law_worth_3dd4 [] (aCons (aVar 0) (aCons (aVar 2) (aCons (aVar 3) aNil)))) [2, 3]))
    (sSeq (sSet 5 (aCall w_law_best_1f71 [] (aCons (aVar 4) aNil)))
    (sSeq (sIf (aAndT (aB (aOp uEq (aOp uIx (aVar 1) (aC (.int 0))) (aC (.str "trim")))) (aB (aOp uGt (aBm uCount (aVar 4) (aCons (aOp uIx (aVar 4) (aVar 5)) aNil)) (aC (.int 1))))) (sRet (aC (.int 3))) sNext)
    (sRet (aVar 5))))) sNext)
    (sSeq (sAsg (aSl (aVar 1) (oSome (aC (.int 2))) (oSome (aC (.int 4)))) (gT 2 (gsCons (gN 2) (gsCons (gN 3) gsNil))))
    (sSeq (sIf (aB (aOp uEq (aOp uIx (aVar 1) (aC (.int 0))) (aC (.str "cut")))) (sSeq (sSet 6 (aCall w_law_worth_3dd4 [] (aCons (aVar 0) (aCons (aVar 2) (aCons (aOp uIx (aVar 1) (aC (.int 4))) aNil)))))
    (sSet 6 (aCall w_law_low_35aa [] (aCons (aOp uMul (aOp uIx (aVar 6) (aC (.int 0))) (aOp uIx (aOp uIx (aVar 1) (aC (.int 5))) (aC (.int 0)))) (aCons (aOp uMul (aOp uIx (aVar 6) (aC (.int 1))) (aOp uIx (aOp uIx (aVar 1) (aC (.int 5))) (aC (.int 1)))) aNil))))) (sSeq (sSet 4 (aLc (aWalk (aOp uIx (aVar 1) (aC (.int 4)))) (gT 2 (gsCons (gN 7) (gsCons (gN 8) gsNil))) tYesU (aCall w_law_worth_3dd4 [] (aCons (aVar 0) (aCons (aVar 7) (aCons (aVar 8) aNil)))) [7, 8]))
    (sSet 6 (aOp uIx (aVar 4) (aCall w_law_best_1f71 [] (aCons (aVar 4) aNil))))))
    (sSeq (sSet 9 (aCall w_law_cut_03a2 [] (aCons (aVar 0) (aCons (aVar 2) (aCons (aVar 6) (aCons (aVar 3) aNil))))))
    (sSeq (sIf (aB (aOp uIs (aVar 9) (aC .non))) (sRet (aVar 3)) sNext)
    (sRet (aVar 9)))))))

def w_law_told_ca41 : WF := wFn 4 2 (sRet (aLc (aWalk (aVar 0)) (gT 2 (gsCons (gN 2) (gsCons (gN 3) gsNil))) tYesU (aTup (aCons (aCall w_law_low_35aa [] (aCons (aVar 2) (aCons (aVar 1) aNil))) (aCons (aCall w_law_low_35aa [] (aCons (aVar 3) (aCons (aVar 1) aNil))) aNil))) [2, 3]))

def w_law_joined_aeb5 : WF := wFn 5 1 (sSeq (sSet 1 (aLst aNil))
    (sSeq (sFor (aWalk (aBlt uSorted (aCons (aLc (aWalk (aVar 0)) (gN 2) (aB (aOp uLt (aOp uIx (aVar 2) (aC (.int 0))) (aOp uIx (aVar 2) (aC (.int 1))))) (aVar 2) [2]) aNil))) (gT 2 (gsCons (gN 3) (gsCons (gN 4) gsNil))) (sIf (aAndT (aB (aOp uGt (aBlt uLen (aCons (aVar 1) aNil)) (aC (.int 0)))) (aB (aOp uLe (aVar 3) (aOp uIx (aOp uIx (aVar 1) (aUn uNeg (aC (.int 1)))) (aC (.int 1)))))) (sIx (aTup (aCons (aOp uIx (aOp uIx (aVar 1) (aUn uNeg (aC (.int 1)))) (aC (.int 0))) (aCons (aBlt uMax (aCons (aVar 4) (aCons (aOp uIx (aOp uIx (aVar 1) (aUn uNeg (aC (.int 1)))) (aC (.int 1))) aNil))) aNil))) (aVar 1) (aUn uNeg (aC (.int 1)))) (sDrop (aBm uAppend (aVar 1) (aCons (aTup (aCons (aVar 3) (aCons (aVar 4) aNil))) aNil)))))
    (sRet (aVar 1))))

def w_lesser : WF := wFn 2 2 (sRet (aIfE (aB (aCall w_is_less [] (aCons (aVar 1) (aCons (aVar 0) aNil)))) (aVar 1) (aVar 0)))

def w_with_span : WF := wFn 9 3 (sSeq (sSet 3 (aLst aNil))
    (sSeq (sSet 4 (aLst aNil))
    (sSeq (sSet 5 (aVar 1))
    (sSeq (sSet 6 (aVar 2))
    (sSeq (sFor (aWalk (aVar 0)) (gT 2 (gsCons (gN 7) (gsCons (gN 8) gsNil))) (sIf (aB (aCall w_is_less [] (aCons (aVar 8) (aCons (aVar 1) aNil)))) (sDrop (aBm uAppend (aVar 3) (aCons (aTup (aCons (aVar 7) (aCons (aVar 8) aNil))) aNil))) (sIf (aB (aCall w_is_less [] (aCons (aVar 2) (aCons (aVar 7) aNil)))) (sDrop (aBm uAppend (aVar 4) (aCons (aTup (aCons (aVar 7) (aCons (aVar 8) aNil))) aNil))) (sSeq (sSet 5 (aCall w_lesser [] (aCons (aVar 5) (aCons (aVar 7) aNil))))
    (sSet 6 (aCall w_greater [] (aCons (aVar 6) (aCons (aVar 8) aNil))))))))
    (sRet (aLst (aStar (aVar 3) (aCons (aTup (aCons (aVar 5) (aCons (aVar 6) aNil))) (aStar (aVar 4) aNil))))))))))

def w_told_spans : WF := wFn 4 1 (sSeq (sSet 1 (aLst aNil))
    (sSeq (sFor (aWalk (aVar 0)) (gT 2 (gsCons (gN 2) (gsCons (gN 3) gsNil))) (sSeq (sDrop (aCall w_check_span [] (aCons (aVar 2) (aCons (aVar 3) aNil))))
    (sIf (aB (aCall w_is_less [] (aCons (aVar 2) (aCons (aVar 3) aNil)))) (sSet 1 (aCall w_with_span [] (aCons (aVar 1) (aCons (aVar 2) (aCons (aVar 3) aNil))))) sNext)))
    (sRet (aVar 1))))

def w_Share_init : WF := wFn 2 2 (sFldU ["Share"] "held" (aCall w_told_spans [] (aCons (aVar 1) aNil)) (aVar 0))

def w_Share_spans : WF := wFn 1 1 (sRet (aBlt uList (aCons (aUn (uFld ["Share"] "held") (aVar 0)) aNil)))

def w_law_plain_6e75 : WF := wFn 4 1 (sSeq (sIf (aNotT (aB (aUn (uIsi is_list) (aVar 0)))) (sRet (aC (.bl false))) sNext)
    (sSeq (sFor (aWalk (aVar 0)) (gN 1) (sSeq (sIf (aOrT (aNotT (aB (aUn (uIsi is_tuple) (aVar 1)))) (aB (aOp uNe (aBlt uLen (aCons (aVar 1) aNil)) (aC (.int 2))))) (sRet (aC (.bl false))) sNext)
    (sFor (aWalk (aVar 1)) (gN 2) (sSeq (sIf (aOrT (aNotT (aB (aUn (uIsi is_tuple) (aVar 2)))) (aB (aOp uNe (aBlt uLen (aCons (aVar 2) aNil)) (aC (.int 2))))) (sRet (aC (.bl false))) sNext)
    (sIf (aNotT (aB (aBlt uAll (aCons (aLc (aWalk (aVar 2)) (gN 3) tYesU (aAnd (aUn (uIsi is_int) (aVar 3)) (aNot (aUn (uIsi is_bool) (aVar 3)))) [3]) aNil)))) (sRet (aC (.bl false))) sNext)))))
    (sRet (aC (.bl true)))))

def w_law_pairs_6145 : WF := wFn 7 2 (sSeq (sSet 2 (aLst aNil))
    (sSeq (sFor (aRng1 (aCall w_law_take_dbef [] (aCons (aVar 0) (aCons (aC (.int 9)) aNil)))) (gN 3) (sSeq (sSet 4 (aCall w_law_take_dbef [] (aCons (aVar 0) (aCons (aC (.int 4)) aNil))))
    (sSeq (sSet 5 (aCall w_law_take_dbef [] (aCons (aVar 0) (aCons (aOp uAdd (aVar 1) (aC (.int 1))) aNil))))
    (sSeq (sSet 6 (aOp uAdd (aVar 5) (aCall w_law_take_dbef [] (aCons (aVar 0) (aCons (aOp uSub (aOp uAdd (aVar 1) (aC (.int 1))) (aVar 5)) aNil)))))
    (sSeq (sIf (aAndT (aB (aOp uEq (aVar 4) (aC (.int 0)))) (aB (aOp uGt (aBlt uLen (aCons (aVar 2) aNil)) (aC (.int 0))))) (sSeq (sSet 5 (aOp uIx (aOp uIx (aVar 2) (aCall w_law_take_dbef [] (aCons (aVar 0) (aCons (aBlt uLen (aCons (aVar 2) aNil)) aNil)))) (aC (.int 1))))
    (sSet 6 (aBlt uMax (aCons (aVar 5) (aCons (aVar 6) aNil))))) sNext)
    (sSeq (sIf (aB (aOp uEq (aVar 4) (aC (.int 1)))) (sSet 6 (aBlt uMin (aCons (aVar 1) (aCons (aOp uAdd (aVar 5) (aCall w_law_take_dbef [] (aCons (aVar 0) (aCons (aC (.int 3)) aNil)))) aNil)))) sNext)
    (sDrop (aBm uAppend (aVar 2) (aCons (aTup (aCons (aVar 5) (aCons (aVar 6) aNil))) aNil)))))))))
    (sRet (aVar 2))))

def w_Share_eq : WF := wFn 2 2 (sRet (aAnd (aUn (uIsi (isO [("Share", true)])) (aVar 1)) (aOp uEq (aUn (uFld ["Share"] "held") (aVar 0)) (aUn (uFld ["Share"] "held") (aVar 1)))))

def w_fraction_text : WF := wFn 3 1 (sSeq (sAsg (aVar 0) (gT 2 (gsCons (gN 1) (gsCons (gN 2) gsNil))))
    (sRet (aIfE (aB (aOp uEq (aVar 2) (aC (.int 1)))) (aBlt uStr (aCons (aVar 1) aNil)) (aFs (jVal (aVar 1) (jStr "/" (jVal (aVar 2) jNil)))))))

def w_Share_str : WF := wFn 3 1 (sSeq (sIf (aB (aOp uEq (aUn (uFld ["Share"] "held") (aVar 0)) (aLst aNil))) (sRet (aC (.str "none"))) sNext)
    (sRet (aSm uJoin (aC (.str " ")) (aCons (aLc (aWalk (aUn (uFld ["Share"] "held") (aVar 0))) (gT 2 (gsCons (gN 1) (gsCons (gN 2) gsNil))) tYesU (aFs (jVal (aCall w_fraction_text [] (aCons (aVar 1) aNil)) (jStr "-" (jVal (aCall w_fraction_text [] (aCons (aVar 2) aNil)) jNil)))) [1, 2]) aNil))))

def w_law_text_d5f7 : WF := wFn 1 1 (sSeq (sIf (aB (aOp uEq (aOp uIx (aVar 0) (aC (.int 1))) (aC (.int 1)))) (sRet (aBlt uStr (aCons (aOp uIx (aVar 0) (aC (.int 0))) aNil))) sNext)
    (sRet (aOp uAdd (aOp uAdd (aBlt uStr (aCons (aOp uIx (aVar 0) (aC (.int 0))) aNil)) (aC (.str "/"))) (aBlt uStr (aCons (aOp uIx (aVar 0) (aC (.int 1))) aNil)))))

def w_is_number : WF := wFn 2 1 (sSeq (sIf (aNotT (aB (aChain uLe uLe (aC (.int 1)) (aBlt uLen (aCons (aVar 0) aNil)) (aC (.int 40))))) (sRet (aC (.bl false))) sNext)
    (sSeq (sIf (aAndT (aB (aOp uGt (aBlt uLen (aCons (aVar 0) aNil)) (aC (.int 1)))) (aB (aOp uEq (aOp uIx (aVar 0) (aC (.int 0))) (aC (.str "0"))))) (sRet (aC (.bl false))) sNext)
    (sRet (aBlt uAll (aCons (aLc (aWalk (aVar 0)) (gN 1) tYesU (aOp (uIn false) (aVar 1) (aC (.str "0123456789"))) [1]) aNil)))))

def w_read_fraction : WF := wFn 6 1 (sSeq (sAsg (aSm uPartition (aSm uRemP (aVar 0) (aCons (aC (.str "-")) aNil)) (aCons (aC (.str "/")) aNil)) (gT 3 (gsCons (gN 1) (gsCons (gN 2) (gsCons (gN 3) gsNil)))))
    (sSeq (sIf (aB (aOp uEq (aVar 2) (aC (.str "")))) (sSet 3 (aC (.str "1"))) sNext)
    (sSeq (sIf (aOrT (aNotT (aB (aCall w_is_number [] (aCons (aVar 1) aNil)))) (aOrT (aNotT (aB (aCall w_is_number [] (aCons (aVar 3) aNil)))) (aB (aOp uEq (aVar 3) (aC (.str "0")))))) (sRaise "NoText" (aCons (aC (.str "this is not written as a fraction")) aNil)) sNext)
    (sSeq (sSet 4 (aIfE (aB (aOp uEq (aOp uIx (aVar 0) (aC (.int 0))) (aC (.str "-")))) (aUn uNeg (aBlt uInt (aCons (aVar 1) aNil))) (aBlt uInt (aCons (aVar 1) aNil))))
    (sSeq (sSet 5 (aCall w_fraction_of [] (aCons (aVar 4) (aCons (aBlt uInt (aCons (aVar 3) aNil)) aNil))))
    (sSeq (sIf (aB (aOp uNe (aCall w_fraction_text [] (aCons (aVar 5) aNil)) (aVar 0))) (sRaise "NoText" (aCons (aC (.str "this is not how the fraction is written")) aNil)) sNext)
    (sRet (aVar 5))))))))

def w_law_text_53b6 : WF := wFn 3 1 (sSeq (sIf (aB (aOp uEq (aBlt uLen (aCons (aVar 0) aNil)) (aC (.int 0)))) (sRet (aC (.str "none"))) sNext)
    (sRet (aSm uJoin (aC (.str " ")) (aCons (aLc (aWalk (aVar 0)) (gT 2 (gsCons (gN 1) (gsCons (gN 2) gsNil))) tYesU (aOp uAdd (aOp uAdd (aCall w_law_text_d5f7 [] (aCons (aVar 1) aNil)) (aC (.str "-"))) (aCall w_law_text_d5f7 [] (aCons (aVar 2) aNil))) [1, 2]) aNil))))

def w_read_span : WF := wFn 4 1 (sSeq (sAsg (aSm uPartition (aVar 0) (aCons (aC (.str "-")) aNil)) (gT 3 (gsCons (gN 1) (gsCons (gN 2) (gsCons (gN 3) gsNil)))))
    (sRet (aTup (aCons (aCall w_read_fraction [] (aCons (aVar 1) aNil)) (aCons (aCall w_read_fraction [] (aCons (aVar 3) aNil)) aNil)))))

def w_read_share : WF := wFn 3 1 (sSeq (sIf (aB (aOp uEq (aVar 0) (aC (.str "none")))) (sRet (aMake "Share" w_Share_init (aCons (aLst aNil) aNil))) sNext)
    (sSeq (sTry (sSet 2 (aMake "Share" w_Share_init (aCons (aLc (aWalk (aSm uSplit (aVar 0) (aCons (aC (.str " ")) aNil))) (gN 1) tYesU (aCall w_read_span [] (aCons (aVar 1) aNil)) [1]) aNil))) (hCons (excL [("NoSpan", true), ("NoText", false), ("NoFraction", false)]) sNever hNone))
    (sSeq (sIf (aB (aOp uNe (aBlt (uStrO [("Share", w_Share_str)]) (aCons (aVar 2) aNil)) (aVar 0))) (sRaise "NoText" (aCons (aC (.str "this is not how the share is written")) aNil)) sNext)
    (sRet (aVar 2)))))

def w_law_0869 : WF := wFn 11 1 (sSeq (sSet 1 (aCall w_law_box_1502 [] (aCons (aVar 0) aNil)))
    (sSeq (sSet 2 (aCall w_law_take_dbef [] (aCons (aVar 1) (aCons (aC (.int 8)) aNil))))
    (sSeq (sSet 3 (aOp uAdd (aC (.int 1)) (aCall w_law_take_dbef [] (aCons (aVar 1) (aCons (aOp uIx (aLst (aCons (aC (.int 6)) (aCons (aC (.int 30)) (aCons (aC (.int 1000)) (aCons (aOp uPow (aC (.int 10)) (aC (.int 12))) aNil))))) (aCall w_law_take_dbef [] (aCons (aVar 1) (aCons (aC (.int 4)) aNil)))) aNil)))))
    (sSeq (sSet 4 (aCall w_law_pairs_6145 [] (aCons (aVar 1) (aCons (aVar 3) aNil))))
    (sSeq (sIf (aB (aOp uEq (aVar 2) (aC (.int 0)))) (sSeq (sSet 3 (aOp uAdd (aC (.int 20)) (aCall w_law_take_dbef [] (aCons (aVar 1) (aCons (aC (.int 41)) aNil)))))
    (sSet 4 (aLc (aRng1 (aVar 3)) (gN 5) (aB (aOp uEq (aCall w_law_take_dbef [] (aCons (aVar 1) (aCons (aC (.int 2)) aNil))) (aC (.int 0)))) (aTup (aCons (aVar 5) (aCons (aOp uAdd (aVar 5) (aC (.int 1))) aNil))) [5]))) sNext)
    (sSeq (sSet 6 (aCall w_law_told_ca41 [] (aCons (aCall w_law_joined_aeb5 [] (aCons (aVar 4) aNil)) (aCons (aVar 3) aNil))))
    (sSeq (sSet 7 (aMake "Share" w_Share_init (aCons (aVar 6) aNil)))
    (sSeq (sSet 8 (aBlt (uStrO [("Share", w_Share_str)]) (aCons (aVar 7) aNil)))
    (sSeq (sIf (aOrT (aNotT (aB (aUn (uIsi is_str) (aVar 8)))) (aB (aOp uNe (aVar 8) (aCall w_law_text_53b6 [] (aCons (aVar 6) aNil))))) (sRet (aC (.bl false))) sNext)
    (sSeq (sSet 9 (aCall w_read_share [] (aCons (aVar 8) aNil)))
    (sSeq (sSet 10 (aMeth "spans" [] [("Share", w_Share_spans)] (aVar 9) aNil))
    (sSeq (sIf (aOrT (aNotT (aB (aCall w_law_plain_6e75 [] (aCons (aVar 10) aNil)))) (aOrT (aB (aOp uNe (aVar 10) (aVar 6))) (aOrT (aNotT (aB (aOp (uEqK [("Share", w_Share_eq)]) (aVar 9) (aVar 7)))) (aB (aOp (uNeK [("Share", w_Share_eq)]) (aVar 9) (aVar 7)))))) (sRet (aC (.bl false))) sNext)
    (sSeq (sDrop (aBm uAppend (aVar 10) (aCons (aTup (aCons (aTup (aCons (aC (.int 0)) (aCons (aC (.int 1)) aNil))) (aCons (aTup (aCons (aC (.int 1)) (aCons (aC (.int 1)) aNil))) aNil))) aNil)))
    (sSeq (sIf (aOrT (aB (aOp uNe (aMeth "spans" [] [("Share", w_Share_spans)] (aVar 9) aNil) (aVar 6))) (aB (aOp uNe (aBlt (uStrO [("Share", w_Share_str)]) (aCons (aVar 9) aNil)) (aVar 8)))) (sRet (aC (.bl false))) sNext)
    (sRet (aAnd (aOp uEq (aBlt (uStrO [("Share", w_Share_str)]) (aCons (aVar 7) aNil)) (aVar 8)) (aOp uEq (aMeth "spans" [] [("Share", w_Share_spans)] (aCallK w_read_share gk1 (aCons (aVar 8) aNil)) aNil) (aVar 6))))))))))))))))))

end K

namespace K
open PySem L2
/-! ### later heaps: all that stood stands, but what S names -/
structure Lat (S : Nat → Prop) (h h' : AH) : Prop where
  len : h.length ≤ h'.length
  old : ∀ n : Nat, n < h.length → ¬ S n → h'[n]? = h[n]?
abbrev Nob : Nat → Prop := fun _ => False
abbrev Pre (h h' : AH) : Prop := Lat Nob h h'
section
variable {S T : Nat → Prop} {h h' h1 h2 : AH} {n m : Nat} {xs : List U} {o : AO} {p : Str × List (Str × U)}
theorem Lat.refl : Lat S h h := ⟨Nat.le_refl _, fun _ _ _ => rfl⟩
theorem Lat.trans (a : Lat S h h1) (b : Lat S h1 h2) : Lat S h h2 := ⟨Nat.le_trans a.len b.len, fun n hn hs => (b.old n (Nat.lt_of_lt_of_le hn a.len) hs).trans (a.old n hn hs)⟩
theorem Lat.weak (a : Lat S h h1) (w : ∀ n, S n → T n) : Lat T h h1 := ⟨a.len, fun n hn hs => a.old n hn fun z => hs (w n z)⟩
theorem Lat.of (a : Pre h h1) : Lat T h h1 := a.weak fun _ z => z.elim
theorem Lat.app {t : AH} : Lat S h (h ++ t) := ⟨by simp, fun n hn _ => List.getElem?_append_left hn⟩
theorem Lat.set (hs : S n) : Lat S h (h.set n o) := ⟨by simp, fun m hm hn => List.getElem?_set_ne (fun (e : n = m) => hn (by rw [← e]; exact hs))⟩
/-- what is new may change -/
theorem Lat.setNew (a : Lat S h h1) (hn : h.length ≤ n) : Lat S h (h1.set n o) := ⟨by simp [a.len], fun m hm hs => by rw [List.getElem?_set_ne (by omega)]; exact a.old m hm hs⟩
theorem at_lt {o : AO} (e : h[n]? = some o) : n < h.length := (List.getElem?_eq_some_iff.mp e).1
theorem lst_lt (e : lstAt h n = some xs) : n < h.length := by rcases lstAt_of e with e | e | e <;> exact at_lt e
theorem own_lt (e : ownLst h n = some xs) : n < h.length := at_lt (ownLst_of e)
theorem ins_lt (e : insAt h n = some p) : n < h.length := at_lt (insAt_of e)
theorem Lat.at (a : Lat S h h') (e : h[n]? = some o) (hs : ¬ S n) : h'[n]? = some o := (a.old n (at_lt e) hs).trans e
theorem Lat.lst (a : Lat S h h') (e : lstAt h n = some xs) (hs : ¬ S n) : lstAt h' n = some xs := by
  unfold lstAt; rw [a.old n (lst_lt e) hs]; exact e
theorem Lat.own (a : Lat S h h') (e : ownLst h n = some xs) (hs : ¬ S n) : ownLst h' n = some xs := by
  unfold ownLst; rw [a.old n (own_lt e) hs]; exact e
theorem Lat.ins (a : Lat S h h') (e : insAt h n = some p) (hs : ¬ S n) : insAt h' n = some p := by
  unfold insAt; rw [a.old n (ins_lt e) hs]; exact e
theorem Pre.lst (a : Pre h h') (e : lstAt h n = some xs) : lstAt h' n = some xs := Lat.lst a e fun z => z
theorem Pre.own (a : Pre h h') (e : ownLst h n = some xs) : ownLst h' n = some xs := Lat.own a e fun z => z
theorem Pre.ins (a : Pre h h') (e : insAt h n = some p) : insAt h' n = some p := Lat.ins a e fun z => z
theorem own_lst (e : ownLst h n = some xs) : lstAt h n = some xs := by
  have := ownLst_of e
  unfold lstAt; rw [this]
theorem new_at : (h ++ [o])[h.length]? = some o := by simp
theorem new_own : ownLst (h ++ [.lst xs]) h.length = some xs := by unfold ownLst; rw [new_at]
theorem new_lst : lstAt (h ++ [.lst xs]) h.length = some xs := own_lst new_own
theorem set_at (hn : n < h.length) : (h.set n o)[n]? = some o := List.getElem?_set_self hn
theorem set_own (hn : n < h.length) : ownLst (h.set n (.lst xs)) n = some xs := by unfold ownLst; rw [set_at hn]
theorem ne_own (hm : m ≠ n) : ownLst (h.set m o) n = ownLst h n := by unfold ownLst; rw [List.getElem?_set_ne hm]
theorem ne_lst (hm : m ≠ n) : lstAt (h.set m o) n = lstAt h n := by unfold lstAt; rw [List.getElem?_set_ne hm]
theorem own_of (e : h[n]? = some (.lst xs)) : ownLst h n = some xs := by unfold ownLst; rw [e]
end
section
variable {h : AH} {n : Nat} {xs : List U}
theorem Opt.walk {k : List U × (AH → Prop) → Prop} (hl : lstAt h n = some xs) (q : k (xs, fun h' => lstAt h' n = some xs)) : Opt (uWalk h (.obj n)) k :=
  .mk (show (lstAt h n).map _ = _ by rw [hl]; rfl) q
theorem Opt.items {k : List U → Prop} (hl : lstAt h n = some xs) (q : k xs) : Opt (itemsOf h (.obj n)) k := .mk (show lstAt h n = _ from hl) q
/-- a comprehension whose step leaves the heap -/
theorem lcP {live : AH → Prop} {g : GU} {Tt : WT} {W : WE} {ρw : SU} {Q : UQ} (f : U → Option U) (hlen : xs.length < sizeLine) (hlive : ∀ h', Pre h h' → live h')
    (hs : ∀ x ∈ xs, ∀ (h' : AH) (Kt : Option U → AH → Prop), Pre h h' → Kt (f x) h' → Opt (g h' x ρw) fun ρ2 => Tt ρ2 h' (fun b h3 => Br b (W ρ2 h3 (fun y h4 => Kt (some y) h4) (X0 ρ2)) (Kt none h3)) (X0 ρ2))
    (q : Q (.obj h.length) (h ++ [.lst (xs.filterMap f)])) :
    LcB xs live g Tt W ρw h Q := by
  refine ⟨fun i acc h' => acc = (xs.take i).filterMap f ∧ h' = h ++ [.lst acc], ⟨rfl, rfl⟩, ?_, ?_⟩
  · rintro i x acc h' hx ⟨rfl, rfl⟩
    have hi : i < xs.length := (List.getElem?_eq_some_iff.mp hx).1
    have hl : ((xs.take i).filterMap f).length < sizeLine := Nat.lt_of_le_of_lt (Nat.le_trans (List.length_filterMap_le _ _) (by rw [List.length_take]; omega)) hlen
    refine ⟨hlive _ .app, new_at, hl, ?_⟩
    refine hs x (List.mem_of_getElem? hx) _ (fun o h4 => match o with
      | some y => h4[h.length]? = some (.lst ((xs.take i).filterMap f)) ∧ (((xs.take i).filterMap f) ++ [y] = (xs.take (i + 1)).filterMap f ∧ h4.set h.length (.lst (((xs.take i).filterMap f) ++ [y])) = h ++ [.lst (((xs.take i).filterMap f) ++ [y])])
      | none => (xs.take i).filterMap f = (xs.take (i + 1)).filterMap f ∧ h4 = h ++ [.lst ((xs.take i).filterMap f)]) .app ?_
    have et : xs.take (i + 1) = xs.take i ++ [x] := by rw [List.take_add_one, hx]; rfl
    cases ef : f x with
    | none => exact ⟨by rw [et, List.filterMap_append]; simp [ef], rfl⟩
    | some y => exact ⟨new_at, by rw [et, List.filterMap_append]; simp [ef], by simp⟩
  · rintro acc h' ⟨rfl, rfl⟩
    rw [List.take_length]
    exact ⟨hlive _ .app, q⟩
theorem forP {live : AH → Prop} {g : GU} {Sb : WS} {nx : SK} {rt : UQ} {E : EX} {ρ : SU} (P : Nat → SU → AH → Prop) (h0 : P 0 ρ h)
    (hs : ∀ i x ρ' h', xs[i]? = some x → P i ρ' h' → live h' ∧ Opt (g h' x ρ') fun ρ2 => Sb (P (i + 1)) rt nx (P (i + 1)) E ρ2 h') (hd : ∀ ρ' h', P xs.length ρ' h' → live h' ∧ nx ρ' h') : ForB xs live g Sb nx rt E ρ h := ⟨P, h0, hs, hd⟩
theorem whP {T : WT} {Sb : WS} {nx : SK} {rt : UQ} {E : EX} {ρ : SU} (P : Nat → SU → AH → Prop) (h0 : ∃ m, P m ρ h)
    (hs : ∀ m ρ' h', P m ρ' h' → T ρ' h' (fun b h1 => Br b (Sb (fun ρ2 h2 => ∃ m', m' < m ∧ P m' ρ2 h2) rt nx (fun ρ2 h2 => ∃ m', m' < m ∧ P m' ρ2 h2) E ρ' h1) (nx ρ' h1)) (E ρ')) : WhB T Sb nx rt E ρ h := ⟨P, h0, hs⟩
end
/-! ### fractions -/
/-- the tuple of a rational number -/
def qU (r : Rat) : U := .tup [.int r.num, .int (r.den : Int)]
end K

namespace K
open PySem L2
section
variable {h : AH} {Q : UQ} {E : XQ}
theorem t_gd {x y : Int} (hx : 0 ≤ x) (hy : 0 ≤ y) (k : Q (.int (Int.gcd x y)) h) : w_greatest_divisor [.int x, .int y] h Q E := by
  refine ⟨rfl, whP (fun m ρ h' => h' = h ∧ ∃ a b : Int, ρ = [some (.int a), some (.int b)] ∧ 0 ≤ a ∧ 0 ≤ b ∧ Int.gcd a b = Int.gcd x y ∧ m = b.toNat) ⟨_, rfl, x, y, rfl, hx, hy, rfl, rfl⟩ ?_⟩
  rintro m ρ h' ⟨rfl, a, b, rfl, ha, hb, hg, rfl⟩
  refine Br.ndec (fun hz => ?_) (fun hz => ?_)
  · subst hz
    rw [← hg, Int.gcd_zero_right, Int.natAbs_of_nonneg ha] at k
    exact k
  · have hp : 0 < b := by omega
    have m0 := Int.emod_nonneg a (show b ≠ 0 by omega)
    have m1 := Int.emod_lt_of_pos a hp
    exact ⟨hp, (a % b).toNat, by omega, rfl, b, a % b, rfl, hb, m0, by rw [gcd_step ha hp, hg], rfl⟩
theorem abs_if (x : Int) : (if x < 0 then -x else x) = (x.natAbs : Int) := by split <;> omega
theorem lo_q {a b : Int} (hb : b ≠ 0) : U.tup [.int (lo1 a b), .int (lo2 a b)] = qU (Rat.divInt a b) := by
  unfold qU; rw [lo_num hb, lo_den hb]
/-- fraction_of, the bottom not nought -/
theorem t_fr {a b : Int} (hb : b ≠ 0) (hl : b.natAbs.log2 < 9000) (k : Q (qU (Rat.divInt a b)) h) : w_fraction_of [.int a, .int b] h Q E := by
  refine ⟨rfl, ?_⟩
  refine Br.neg hb ?_
  refine t_gd (by rw [abs_if]; omega) (by rw [abs_if]; omega) ?_
  have eg : (Int.gcd (if a < 0 then -a else a) (if b < 0 then -b else b) : Int) = (Int.gcd a b : Int) := by rw [abs_if, abs_if]; simp [Int.gcd]
  rw [eg]
  have d0 := dv_ne (a := a) hb
  have ds := dv_small (a := a) hb hl
  rw [← lo_q hb] at k
  refine Br.dec (fun hn => ?_) (fun hn => ?_)
  · have e : -(Int.gcd a b : Int) = dv a b := by unfold dv; rw [if_pos hn]
    show CDivB a (-(Int.gcd a b : Int)) ∧ CDivB b (-(Int.gcd a b : Int)) ∧ _
    rw [e]
    exact ⟨⟨d0, ds⟩, ⟨d0, ds⟩, (by show 2 ≤ sizeLine; decide), k⟩
  · have e : (Int.gcd a b : Int) = dv a b := by unfold dv; rw [if_neg hn]
    show CDivB a (Int.gcd a b : Int) ∧ CDivB b (Int.gcd a b : Int) ∧ _
    rw [e]
    exact ⟨⟨d0, ds⟩, ⟨d0, ds⟩, (by show 2 ≤ sizeLine; decide), k⟩
theorem t_less {r s : Rat} {j k : Nat} (hr : Bt j r) (hs : Bt k s) (hj : j ≤ 9000) (hk : k ≤ 9000) (q : Q (.bl (decide (r < s))) h) : w_is_less [qU r, qU s] h Q E := by
  have e : decide (r < s) = decide (r.num * (s.den : Int) < s.num * (r.den : Int)) := by rw [decide_eq_decide]; exact Rat.lt_iff r s
  rw [e] at q
  exact ⟨rfl, mulOk hr.n (dn hs) hj hk, mulOk hs.n (dn hr) hk hj, q⟩
end
end K

namespace K
open PySem L2
section
variable {h : AH} {Q : UQ} {E : XQ}
theorem rd {b : Nat} {xs : List U} {i : Int} {u : U} {k : UQ} (hb : lstAt h b = some xs) (e : atI xs i = some u) (q : k u h) : uIx (.obj b) (.int i) h k := Opt.mk hb (Opt.mk e q)
theorem wr {b j : Nat} {xs : List U} {i : Int} {v : U} {k : AH → Prop} (hb : ownLst h b = some xs) (e : ixN xs.length i = some j) (q : k (h.set b (.lst (xs.set j v)))) : uSet (.obj b) (.int i) v h k := Opt.mk hb (Opt.mk e q)
theorem ln {b : Nat} {xs : List U} {k : UQ} (hb : lstAt h b = some xs) (q : k (.int xs.length) h) : uLen [.obj b] h k := Opt.mk hb q
theorem atI_of {xs : List U} {i : Int} {u : U} (h0 : 0 ≤ i) (e : xs[i.toNat]? = some u) : atI xs i = some u := by
  have hl := (List.getElem?_eq_some_iff.mp e).1
  unfold atI ixN
  rw [if_pos h0, if_pos (by omega)]
  exact e
/-- the box of draws: at b, the script's numbers at s; at most D draws were taken -/
structure BoxK (h : AH) (b s : Nat) (D : Int) : Prop where
  ex : ∃ (ns : List Int) (i c d : Int), ownLst h b = some [.obj s, .int i, .int c, .int d] ∧ lstAt h s = some (ns.map U.int) ∧ 0 ≤ i ∧ 0 ≤ c ∧ 0 ≤ d ∧ d ≤ D ∧ b ≠ s
theorem BoxK.lat {S : Nat → Prop} {h h' : AH} {b s : Nat} {D : Int} (B : BoxK h b s D) (l : Lat S h h') (hb : ¬ S b) (hs : ¬ S s) : BoxK h' b s D := by
  obtain ⟨ns, i, c, d, h1, h2, r⟩ := B.ex
  exact ⟨ns, i, c, d, l.own h1 hb, l.lst h2 hs, r⟩
theorem BoxK.ne {h : AH} {b s : Nat} {D : Int} (B : BoxK h b s D) : b ≠ s := by obtain ⟨_, _, _, _, _, _, _, _, _, _, n⟩ := B.ex; exact n
theorem BoxK.lt {h : AH} {b s : Nat} {D : Int} (B : BoxK h b s D) : b < h.length ∧ s < h.length := by obtain ⟨_, _, _, _, h1, h2, _⟩ := B.ex; exact ⟨own_lt h1, lst_lt h2⟩
theorem BoxK.mono {h : AH} {b s : Nat} {D D' : Int} (B : BoxK h b s D) (e : D ≤ D') : BoxK h b s D' := by obtain ⟨ns, i, c, d, h1, h2, h3, h4, h5, h6, h7⟩ := B.ex; exact ⟨ns, i, c, d, h1, h2, h3, h4, h5, by omega, h7⟩
end
end K

namespace K
open PySem L2
section
variable {h : AH} {Q : UQ} {E : XQ}
theorem al {b : Nat} {ns : List Bool} {k : UQ} (hb : lstAt h b = some (ns.map U.bl)) (q : k (.bl (ns.all id)) h) : uAll [.obj b] h k := Opt.mk hb (Opt.mk (blsOf_map ns) q)
/-- stretches -/
abbrev Rows := List (Int × Int)
def rowsU (rs : Rows) : List U := rs.map fun p => .tup [.int p.1, .int p.2]
def wid (rs : Rows) : Int := (rs.map (·.1)).sum
structure Good (rs : Rows) : Prop where
  lo : 1 ≤ rs.length
  hi : rs.length ≤ 8
  w : ∀ p ∈ rs, 1 ≤ p.1 ∧ p.1 ≤ 999
  v : ∀ p ∈ rs, 0 ≤ p.2 ∧ p.2 ≤ 999999999
  some : ∃ p ∈ rs, 0 < p.2
theorem small {n : Nat} (h : n ≤ 1000) : n < sizeLine := Nat.lt_of_le_of_lt h (by decide)
abbrev CF := Str × List (Str × U)
/-- a table stands at t -/
structure IsTab (h : AH) (t : Nat) (rs : Rows) : Prop where
  ex : ∃ r, insAt h t = some (("Table", [("rows", .obj r), ("breadth", .int (wid rs))]) : CF) ∧ lstAt h r = some (rowsU rs)
theorem IsTab.lat {S : Nat → Prop} {h h' : AH} {t : Nat} {rs : Rows} (T : IsTab h t rs) (l : Lat S h h') (hs : ∀ n, n < h.length → ¬ S n) : IsTab h' t rs := by
  obtain ⟨r, h1, h2⟩ := T.ex
  exact ⟨r, l.ins h1 (hs _ (ins_lt h1)), l.lst h2 (hs _ (lst_lt h2))⟩
theorem IsTab.pre {h h' : AH} {t : Nat} {rs : Rows} (T : IsTab h t rs) (l : Pre h h') : IsTab h' t rs := T.lat l fun _ _ z => z
end
end K

namespace K
open PySem L2
/-! ### spans told: rising, none empty, none touching another -/
abbrev Sps := List (Rat × Rat)
def InS (S : Sps) (x : Rat) : Prop := ∃ p ∈ S, p.1 ≤ x ∧ x ≤ p.2
structure Nf (S : Sps) : Prop where
  ne : ∀ p ∈ S, p.1 < p.2
  ap : S.Pairwise fun p q => p.2 < q.1
theorem Nf.tail {p : Rat × Rat} {S : Sps} (n : Nf (p :: S)) : Nf S := ⟨fun q hq => n.ne q (List.mem_cons_of_mem _ hq), (List.pairwise_cons.mp n.ap).2⟩
theorem Nf.hd {p : Rat × Rat} {S : Sps} (n : Nf (p :: S)) : p.1 < p.2 ∧ ∀ q ∈ S, p.2 < q.1 := ⟨n.ne p (by simp), (List.pairwise_cons.mp n.ap).1⟩
theorem Nf.lo {p : Rat × Rat} {S : Sps} (n : Nf (p :: S)) {x : Rat} (h : InS (p :: S) x) : p.1 ≤ x := by
  obtain ⟨q, hq, h1, h2⟩ := h
  have a := n.hd
  rcases List.mem_cons.1 hq with rfl | hq
  · exact h1
  · have := a.2 q hq; have := a.1; grind
/-- between the first span's end and the next begin nothing is held -/
theorem Nf.gap {p : Rat × Rat} {S : Sps} (n : Nf (p :: S)) {y : Rat} (hy : p.2 < y) : ∃ x, p.2 < x ∧ x < y ∧ ¬ InS (p :: S) x := by
  have a := n.hd
  cases S with
  | nil =>
    refine ⟨(p.2 + y) / 2, by grind, by grind, ?_⟩
    rintro ⟨q, hq, h1, h2⟩
    rw [List.mem_singleton] at hq; subst hq; grind
  | cons q S =>
    have b := a.2 q (by simp)
    have c := n.tail.hd
    obtain ⟨m, hm⟩ : ∃ m, m = if y < q.1 then y else q.1 := ⟨_, rfl⟩
    have m1 : p.2 < m := by rw [hm]; split <;> grind
    have m2 : m ≤ y := by rw [hm]; split <;> grind
    have m3 : m ≤ q.1 := by rw [hm]; split <;> grind
    refine ⟨(p.2 + m) / 2, by grind, by grind, ?_⟩
    rintro ⟨r, hr, h1, h2⟩
    rcases List.mem_cons.1 hr with rfl | hr
    · grind
    · have : q.1 ≤ r.1 := by
        rcases List.mem_cons.1 hr with rfl | hr
        · exact Rat.le_refl
        · have := c.2 r hr; have := c.1; grind
      grind
theorem Nf.uniq : ∀ {S T : Sps}, Nf S → Nf T → (∀ x, InS S x ↔ InS T x) → S = T
  | [], [], _, _, _ => rfl
  | [], q :: T, _, n, h => by
    have := (h q.1).mpr ⟨q, by simp, Rat.le_refl, Rat.le_of_lt n.hd.1⟩
    obtain ⟨r, hr, _⟩ := this; simp at hr
  | p :: S, [], n, _, h => by
    have := (h p.1).mp ⟨p, by simp, Rat.le_refl, Rat.le_of_lt n.hd.1⟩
    obtain ⟨r, hr, _⟩ := this; simp at hr
  | p :: S, q :: T, n, m, h => by
    have a := n.hd
    have b := m.hd
    have e1 : p.1 = q.1 := by
      have c := m.lo ((h p.1).mp ⟨p, by simp, Rat.le_refl, Rat.le_of_lt a.1⟩)
      have d := n.lo ((h q.1).mpr ⟨q, by simp, Rat.le_refl, Rat.le_of_lt b.1⟩)
      grind
    have e2 : p.2 = q.2 := by
      have c1 : ¬ p.2 < q.2 := fun z => by
        obtain ⟨x, x1, x2, x3⟩ := n.gap z
        exact x3 ((h x).mpr ⟨q, by simp, by grind, by grind⟩)
      have c2 : ¬ q.2 < p.2 := fun z => by
        obtain ⟨x, x1, x2, x3⟩ := m.gap z
        exact x3 ((h x).mp ⟨p, by simp, by grind, by grind⟩)
      grind
    have e : p = q := Prod.ext e1 e2
    subst e
    congr 1
    refine Nf.uniq n.tail m.tail fun x => ⟨fun ⟨r, hr, h1, h2⟩ => ?_, fun ⟨r, hr, h1, h2⟩ => ?_⟩
    · obtain ⟨t, ht, h3, h4⟩ := (h x).mp ⟨r, List.mem_cons_of_mem _ hr, h1, h2⟩
      rcases List.mem_cons.1 ht with rfl | ht
      · have := a.2 r hr; grind
      · exact ⟨t, ht, h3, h4⟩
    · obtain ⟨t, ht, h3, h4⟩ := (h x).mpr ⟨r, List.mem_cons_of_mem _ hr, h1, h2⟩
      rcases List.mem_cons.1 ht with rfl | ht
      · have := b.2 r hr; grind
      · exact ⟨t, ht, h3, h4⟩
/-! ### a span joined to told ones -/
def ahdS (S : Sps) (a : Rat) : Sps := S.filter fun p => decide (p.2 < a)
def bhdS (S : Sps) (a b : Rat) : Sps := S.filter fun p => decide (¬ p.2 < a ∧ b < p.1)
def midS (S : Sps) (a b : Rat) : Sps := S.filter fun p => decide (¬ p.2 < a ∧ ¬ b < p.1)
def loS (b : Rat) : Sps → Rat
  | [] => b
  | p :: S => loS (if p.1 < b then p.1 else b) S
def hiS (b : Rat) : Sps → Rat
  | [] => b
  | p :: S => hiS (if b < p.2 then p.2 else b) S
theorem loS_b : ∀ {S : Sps} {b : Rat}, loS b S ≤ b ∧ (∀ p ∈ S, loS b S ≤ p.1) ∧ (loS b S = b ∨ ∃ p ∈ S, loS b S = p.1)
  | [], b => ⟨Rat.le_refl, fun p hp => by simp at hp, .inl rfl⟩
  | p :: S, b => by
    obtain ⟨h1, h2, h3⟩ := loS_b (S := S) (b := if p.1 < b then p.1 else b)
    show loS _ S ≤ b ∧ (∀ q ∈ p :: S, loS _ S ≤ q.1) ∧ (loS _ S = b ∨ ∃ q ∈ p :: S, loS _ S = q.1)
    refine ⟨by split at h1 <;> grind, fun q hq => ?_, ?_⟩
    · rcases List.mem_cons.1 hq with rfl | hq
      · split at h1 <;> grind
      · exact h2 q hq
    · rcases h3 with h3 | ⟨q, hq, h3⟩
      · by_cases c : p.1 < b
        · right; exact ⟨p, by simp, by rw [h3, if_pos c]⟩
        · left; rw [h3, if_neg c]
      · right; exact ⟨q, by simp [hq], h3⟩
theorem hiS_b : ∀ {S : Sps} {b : Rat}, b ≤ hiS b S ∧ (∀ p ∈ S, p.2 ≤ hiS b S) ∧ (hiS b S = b ∨ ∃ p ∈ S, hiS b S = p.2)
  | [], b => ⟨Rat.le_refl, fun p hp => by simp at hp, .inl rfl⟩
  | p :: S, b => by
    obtain ⟨h1, h2, h3⟩ := hiS_b (S := S) (b := if b < p.2 then p.2 else b)
    show b ≤ hiS _ S ∧ (∀ q ∈ p :: S, q.2 ≤ hiS _ S) ∧ (hiS _ S = b ∨ ∃ q ∈ p :: S, hiS _ S = q.2)
    refine ⟨by split at h1 <;> grind, fun q hq => ?_, ?_⟩
    · rcases List.mem_cons.1 hq with rfl | hq
      · split at h1 <;> grind
      · exact h2 q hq
    · rcases h3 with h3 | ⟨q, hq, h3⟩
      · by_cases c : b < p.2
        · right; exact ⟨p, by simp, by rw [h3, if_pos c]⟩
        · left; rw [h3, if_neg c]
      · right; exact ⟨q, by simp [hq], h3⟩
def wiS (S : Sps) (a b : Rat) : Sps := ahdS S a ++ (loS a (midS S a b), hiS b (midS S a b)) :: bhdS S a b
theorem wiS_in {S : Sps} {a b : Rat} (n : Nf S) (ab : a < b) (x : Rat) : InS (wiS S a b) x ↔ InS S x ∨ (a ≤ x ∧ x ≤ b) := by
  obtain ⟨l1, l2, l3⟩ := loS_b (S := midS S a b) (b := a)
  obtain ⟨h1, h2, h3⟩ := hiS_b (S := midS S a b) (b := b)
  have mm : ∀ p, p ∈ midS S a b ↔ p ∈ S ∧ ¬ p.2 < a ∧ ¬ b < p.1 := fun p => by unfold midS; rw [List.mem_filter, decide_eq_true_eq]
  have ma : ∀ p, p ∈ ahdS S a ↔ p ∈ S ∧ p.2 < a := fun p => by unfold ahdS; rw [List.mem_filter, decide_eq_true_eq]
  have mb : ∀ p, p ∈ bhdS S a b ↔ p ∈ S ∧ ¬ p.2 < a ∧ b < p.1 := fun p => by unfold bhdS; rw [List.mem_filter, decide_eq_true_eq]
  unfold wiS
  constructor
  · rintro ⟨p, hp, x1, x2⟩
    rcases List.mem_append.1 hp with hp | hp
    · exact .inl ⟨p, ((ma p).mp hp).1, x1, x2⟩
    · rcases List.mem_cons.1 hp with rfl | hp
      · dsimp only at x1 x2
        by_cases c1 : x < a
        · rcases l3 with l3 | ⟨q, hq, l3⟩
          · grind
          · have := (mm q).mp hq
            exact .inl ⟨q, this.1, by grind, by grind⟩
        · by_cases c2 : b < x
          · rcases h3 with h3 | ⟨q, hq, h3⟩
            · grind
            · have := (mm q).mp hq
              exact .inl ⟨q, this.1, by grind, by grind⟩
          · exact .inr ⟨by grind, by grind⟩
      · exact .inl ⟨p, ((mb p).mp hp).1, x1, x2⟩
  · rintro (⟨p, hp, x1, x2⟩ | ⟨x1, x2⟩)
    · by_cases c1 : p.2 < a
      · exact ⟨p, List.mem_append_left _ ((ma p).mpr ⟨hp, c1⟩), x1, x2⟩
      · by_cases c2 : b < p.1
        · exact ⟨p, List.mem_append_right _ (List.mem_cons_of_mem _ ((mb p).mpr ⟨hp, c1, c2⟩)), x1, x2⟩
        · have hm := (mm p).mpr ⟨hp, c1, c2⟩
          have := l2 p hm; have := h2 p hm
          exact ⟨(loS a (midS S a b), hiS b (midS S a b)), List.mem_append_right _ (List.mem_cons_self ..), by dsimp only; grind, by dsimp only; grind⟩
    · exact ⟨(loS a (midS S a b), hiS b (midS S a b)), List.mem_append_right _ (List.mem_cons_self ..), by dsimp only; grind, by dsimp only; grind⟩
theorem wiS_nf {S : Sps} {a b : Rat} (n : Nf S) (ab : a < b) : Nf (wiS S a b) := by
  obtain ⟨l1, l2, l3⟩ := loS_b (S := midS S a b) (b := a)
  obtain ⟨h1, h2, h3⟩ := hiS_b (S := midS S a b) (b := b)
  have mm : ∀ p, p ∈ midS S a b ↔ p ∈ S ∧ ¬ p.2 < a ∧ ¬ b < p.1 := fun p => by unfold midS; rw [List.mem_filter, decide_eq_true_eq]
  have ma : ∀ p, p ∈ ahdS S a ↔ p ∈ S ∧ p.2 < a := fun p => by unfold ahdS; rw [List.mem_filter, decide_eq_true_eq]
  have mb : ∀ p, p ∈ bhdS S a b ↔ p ∈ S ∧ ¬ p.2 < a ∧ b < p.1 := fun p => by unfold bhdS; rw [List.mem_filter, decide_eq_true_eq]
  -- two of the told ones are apart, one way or the other
  have tri : ∀ p ∈ S, ∀ q ∈ S, p = q ∨ p.2 < q.1 ∨ q.2 < p.1 := fun p hp q hq => by
    obtain ⟨i, hi, rfl⟩ := List.getElem_of_mem hp
    obtain ⟨j, hj, rfl⟩ := List.getElem_of_mem hq
    rcases Nat.lt_trichotomy i j with c | c | c
    · exact .inr (.inl (List.pairwise_iff_getElem.mp n.ap i j hi hj c))
    · subst c; exact .inl rfl
    · exact .inr (.inr (List.pairwise_iff_getElem.mp n.ap j i hj hi c))
  have x1 : ∀ p ∈ ahdS S a, p.2 < loS a (midS S a b) := fun p hp => by
    have hp := (ma p).mp hp
    rcases l3 with l3 | ⟨q, hq, l3⟩
    · grind
    · have hq := (mm q).mp hq
      have := n.ne p hp.1
      have := n.ne q hq.1
      rcases tri p hp.1 q hq.1 with c | c | c <;> grind
  have x2 : ∀ p ∈ bhdS S a b, hiS b (midS S a b) < p.1 := fun p hp => by
    have hp := (mb p).mp hp
    rcases h3 with h3 | ⟨q, hq, h3⟩
    · grind
    · have hq := (mm q).mp hq
      have := n.ne p hp.1
      have := n.ne q hq.1
      rcases tri p hp.1 q hq.1 with c | c | c <;> grind
  unfold wiS
  refine ⟨fun p hp => ?_, ?_⟩
  · rcases List.mem_append.1 hp with hp | hp
    · exact n.ne p ((ma p).mp hp).1
    · rcases List.mem_cons.1 hp with rfl | hp
      · dsimp only; grind
      · exact n.ne p ((mb p).mp hp).1
  · rw [List.pairwise_append, List.pairwise_cons]
    refine ⟨List.Pairwise.filter _ n.ap, ⟨fun q hq => x2 q hq, List.Pairwise.filter _ n.ap⟩, fun p hp q hq => ?_⟩
    have := x1 p hp
    rcases List.mem_cons.1 hq with rfl | hq
    · exact this
    · have := x2 q hq; grind
end K

namespace K
open PySem L2
theorem Good.l1 {rs : Rows} (g : Good rs) : 1 ≤ rs.length := g.lo
theorem Good.l8 {rs : Rows} (g : Good rs) : rs.length ≤ 8 := g.hi
/-- widths and worths of a table -/
def OkS (ps : List (Int × Int)) : Prop := ∀ x ∈ ps, (1 ≤ x.1 ∧ x.1 ≤ 999) ∧ 0 ≤ x.2 ∧ x.2 ≤ 999999999
theorem OkS.tail {a : Int × Int} {ps : List (Int × Int)} (h : OkS (a :: ps)) : OkS ps := fun x hx => h x (List.mem_cons_of_mem _ hx)
theorem OkS.take {ps : List (Int × Int)} (h : OkS ps) (n : Nat) : OkS (ps.take n) := fun x hx => h x (List.mem_of_mem_take hx)
theorem OkS.drop {ps : List (Int × Int)} (h : OkS ps) (n : Nat) : OkS (ps.drop n) := fun x hx => h x (List.mem_of_mem_drop hx)
def cl (r s x : Rat) : Rat := if x ≤ r then r else if x ≤ s then x else s
end K

namespace K
open PySem L2
section
variable {h : AH} {Q : UQ} {E : XQ} {r s : Rat} {j k : Nat}
theorem bt0 : Bt 1 (0 : Rat) := ⟨by decide, by decide⟩
theorem bt1 : Bt 1 (1 : Rat) := ⟨by decide, by decide⟩
/-- a place -/
structure Pl (k : Nat) (r : Rat) : Prop where
  b : Bt k r
  lo : 0 ≤ r
  hi : r ≤ 1
theorem nB_dec {p : Prop} [Decidable p] : nB (decide p) = decide (¬ p) := by
  by_cases c : p
  · rw [decide_eq_true c, decide_eq_false (fun z => z c)]
  · rw [decide_eq_false c, decide_eq_true c]
/-- does a span lie on the loaf -/
theorem t_isspan (hr : Bt j r) (hs : Bt k s) (hj : j ≤ 8990) (hk : k ≤ 8990) (q : Q (.bl (decide (0 ≤ r ∧ s ≤ 1 ∧ r ≤ s))) h) : w_is_span [qU r, qU s] h Q E := by
  refine ⟨rfl, ?_⟩
  refine t_less hr bt0 (by omega) (by decide) (Br.mdec (fun c => ?_) (fun c => ?_))
  · rw [decide_eq_false (fun z => absurd z.1 (Rat.not_le.mpr c))] at q; exact q
  refine t_less bt1 hs (by decide) (by omega) (Br.mdec (fun c2 => ?_) (fun c2 => ?_))
  · rw [decide_eq_false (fun z => absurd z.2.1 (Rat.not_le.mpr c2))] at q; exact q
  refine t_less hs hr (by omega) (by omega) ?_
  show Q (.bl (nB (decide (s < r)))) h
  rw [nB_dec]
  have e : (¬ s < r) = (0 ≤ r ∧ s ≤ 1 ∧ r ≤ s) := propext ⟨fun z => ⟨Rat.not_lt.mp c, Rat.not_lt.mp c2, Rat.not_lt.mp z⟩, fun z => Rat.not_lt.mpr z.2.2⟩
  have e2 : decide (¬ s < r) = decide (0 ≤ r ∧ s ≤ 1 ∧ r ≤ s) := by rw [decide_eq_decide, e]
  rw [e2]; exact q
theorem t_chk (hr : Pl k r) (hs : Pl k s) (e : k ≤ 8990) (le : r ≤ s) (q : Q .non h) : w_check_span [qU r, qU s] h Q E := by
  refine ⟨rfl, ?_⟩
  refine t_isspan hr.b hs.b e e (Br.mdec (fun _ => q) (fun c => absurd ⟨hr.lo, hs.hi, le⟩ c))
theorem t_greater (hr : Bt j r) (hs : Bt k s) (hj : j ≤ 9000) (hk : k ≤ 9000) (q : Q (qU (if r < s then s else r)) h) : w_greater [qU r, qU s] h Q E := by
  refine ⟨rfl, t_less hr hs hj hk (Br.dec (fun z => ?_) (fun z => ?_))⟩
  · rw [if_pos z] at q; exact q
  · rw [if_neg z] at q; exact q
theorem brF {b : Bool} {P P' : Prop} (e : b = false) (q : P') : Br b P P' := by subst e; exact q
end
end K

namespace K
open PySem L2
/-! ### places in their order -/
/-- a place put into a rising list -/
def insQ (ps : List Rat) (p : Rat) : List Rat := ps.filter (fun r => decide (r < p)) ++ p :: ps.filter (fun r => decide (p < r))
theorem mem_insQ {ps : List Rat} {p r : Rat} : r ∈ insQ ps p ↔ r = p ∨ r ∈ ps := by
  unfold insQ
  simp only [List.mem_append, List.mem_cons, List.mem_filter, decide_eq_true_eq]
  constructor
  · rintro (⟨h, _⟩ | h | ⟨h, _⟩)
    · exact .inr h
    · exact .inl h
    · exact .inr h
  · rintro (h | h)
    · exact .inr (.inl h)
    · by_cases h1 : r < p
      · exact .inl ⟨h, h1⟩
      · by_cases h2 : r = p
        · exact .inr (.inl h2)
        · exact .inr (.inr ⟨h, by grind⟩)
/-! ### the ends of stretches -/
def endQ (rs : Rows) (i : Nat) : Rat := Rat.divInt (wid (rs.take i)) (wid rs)
theorem wid_cons (p : Int × Int) (rs : Rows) : wid (p :: rs) = p.1 + wid rs := by unfold wid; simp
theorem wid_bd : ∀ {rs : Rows}, (∀ p ∈ rs, 1 ≤ p.1 ∧ p.1 ≤ 999) → (rs.length : Int) ≤ wid rs ∧ wid rs ≤ 999 * rs.length
  | [], _ => by simp [wid]
  | p :: rs, h => by
    have h1 := h p (by simp)
    have h2 := wid_bd (rs := rs) fun q hq => h q (by simp [hq])
    rw [wid_cons, List.length_cons]; omega
theorem Good.wid {rs : Rows} (G : Good rs) : 1 ≤ wid rs ∧ wid rs ≤ 7992 := by
  have h1 := wid_bd G.w
  have h2 := G.lo
  have h3 := G.hi
  omega
theorem Good.take {rs : Rows} (G : Good rs) (i : Nat) : 0 ≤ K.wid (rs.take i) ∧ K.wid (rs.take i) ≤ 7992 := by
  have h1 := wid_bd (rs := rs.take i) fun p hp => G.w p (List.mem_of_mem_take hp)
  have h3 := G.hi
  have h4 : (rs.take i).length ≤ rs.length := by rw [List.length_take]; omega
  omega
theorem Good.end {rs : Rows} (G : Good rs) (i : Nat) : Bt 13 (endQ rs i) := by
  have h1 := G.wid
  have h2 := G.take i
  exact .div (by omega) (by omega) (by omega)
section
variable {h : AH} {Q : UQ} {E : XQ}
theorem q0 : qU 0 = .tup [.int 0, .int 1] := rfl
def ratOf : U → Rat
  | .tup [.int a, .int b] => Rat.divInt a b
  | _ => 0
theorem ratOf_q (p : Rat) : ratOf (qU p) = p := num_den p
def pick (f : Rat → Bool) (u : U) : Option U := if f (ratOf u) then some u else none
/-- bounded places -/
abbrev BtL (k : Nat) (ps : List Rat) : Prop := ∀ r ∈ ps, Bt k r
theorem BtL.ins {j : Nat} {ps : List Rat} {p : Rat} (hb : BtL j ps) (hp : Bt j p) : BtL j (insQ ps p) := fun r hr => by
  rcases mem_insQ.mp hr with rfl | z
  · exact hp
  · exact hb r z
end
end K

namespace K
open PySem L2
section
variable {h : AH} {Q : UQ} {E : XQ}
/-! ### data -/
def dQ (r : Rat) : PyData := .tuple [.int r.num, .int (r.den : Int)]
theorem dat_q (n : Nat) (r : Rat) : dat h (n + 2) (qU r) = some (dQ r) := rfl
theorem eqv_q (r s : Rat) : PyData.eqv (dQ r) (dQ s) = decide (r = s) := by
  unfold dQ
  simp only [PyData.eqv, PyData.eqvAll, Bool.and_true]
  rw [Bool.eq_iff_iff]
  simp only [Bool.and_eq_true, beq_iff_eq, decide_eq_true_eq]
  constructor
  · rintro ⟨a, b⟩; exact Rat.ext a (by omega)
  · rintro rfl; exact ⟨rfl, rfl⟩
/-! ### a place put in -/
end
end K

namespace K
open PySem L2
section
variable {h : AH} {Q : UQ} {E : XQ}
end
end K

namespace K
open PySem L2
section
variable {h : AH} {Q : UQ} {E : XQ}
end
end K

namespace K
open PySem L2
/-! ### rows of rows as data -/
section
variable {h : AH} {Q : UQ} {E : XQ}
end
end K

namespace K
open PySem L2
section
variable {h : AH} {Q : UQ} {E : XQ} {r s : Rat} {j k : Nat}
/-- the greatest, from an item on -/
def gmx (a : Rat) : List Rat → Rat
  | [] => a
  | b :: l => gmx (if a < b then b else a) l
/-- the first one of the greatest -/
structure FM (ws : List Rat) (j : Nat) : Prop where
  ex : ∃ x, ws[j]? = some x ∧ (∀ y ∈ ws, y ≤ x) ∧ ∀ (i : Nat) (y : Rat), i < j → ws[i]? = some y → y < x
theorem gmx_fm : ∀ {l : List Rat} {a : Rat}, a ≤ gmx a l ∧ (∀ y ∈ l, y ≤ gmx a l) ∧ (gmx a l = a ∨ gmx a l ∈ l)
  | [], a => ⟨Rat.le_refl, fun y hy => by simp at hy, .inl rfl⟩
  | b :: l, a => by
    obtain ⟨h1, h2, h3⟩ := gmx_fm (l := l) (a := if a < b then b else a)
    show a ≤ gmx _ l ∧ (∀ y ∈ b :: l, y ≤ gmx _ l) ∧ (gmx _ l = a ∨ gmx _ l ∈ b :: l)
    by_cases c : a < b
    · rw [if_pos c] at h1 h2 h3 ⊢
      refine ⟨by grind, fun y hy => ?_, ?_⟩
      · rcases List.mem_cons.1 hy with rfl | hy
        · exact h1
        · exact h2 y hy
      · rcases h3 with h3 | h3
        · right; rw [h3]; simp
        · right; simp [h3]
    · rw [if_neg c] at h1 h2 h3 ⊢
      refine ⟨h1, fun y hy => ?_, ?_⟩
      · rcases List.mem_cons.1 hy with rfl | hy
        · grind
        · exact h2 y hy
      · rcases h3 with h3 | h3
        · left; exact h3
        · right; simp [h3]
theorem FM.max {w0 : Rat} {ws : List Rat} {j : Nat} (f : FM (w0 :: ws) j) : (w0 :: ws)[j]? = some (gmx w0 (w0 :: ws)) := by
  obtain ⟨x, e, h1, _⟩ := f.ex
  obtain ⟨g1, g2, g3⟩ := gmx_fm (l := w0 :: ws) (a := w0)
  have hx : x ∈ w0 :: ws := List.mem_of_getElem? e
  have a := g2 x hx
  have b : gmx w0 (w0 :: ws) ≤ x := by
    rcases g3 with g3 | g3
    · rw [g3]; exact h1 w0 (by simp)
    · exact h1 _ g3
  rw [e]
  congr 1
  grind
theorem FM.uniq {ws : List Rat} {i j : Nat} (a : FM ws i) (b : FM ws j) : i = j := by
  obtain ⟨x, e, h1, h2⟩ := a.ex
  obtain ⟨y, f, g1, g2⟩ := b.ex
  have c1 := h1 y (List.mem_of_getElem? f)
  have c2 := g1 x (List.mem_of_getElem? e)
  rcases Nat.lt_trichotomy i j with c | c | c
  · have := g2 i x c e; grind
  · exact c
  · have := h2 j y c f; grind
/-! ### pieces -/
abbrev Pcs := List (Rat × Rat)
def prU (p : Rat × Rat) : U := .tup [qU p.1, qU p.2]
def pcU (ps : Pcs) : U := .tup (ps.map prU)
def PcK (k : Nat) (ps : Pcs) : Prop := ∀ p ∈ ps, Pl k p.1 ∧ Pl k p.2 ∧ p.1 ≤ p.2
end
end K

namespace K
open PySem L2
section
variable {h : AH} {Q : UQ} {E : XQ} {r s : Rat} {j k : Nat} {u v : U}
theorem t_lesser (hr : Bt j r) (hs : Bt k s) (hj : j ≤ 9000) (hk : k ≤ 9000) (q : Q (qU (if s < r then s else r)) h) : w_lesser [qU r, qU s] h Q E := by
  refine ⟨rfl, t_less hs hr hk hj (Br.dec (fun z => ?_) (fun z => ?_))⟩
  · rw [if_pos z] at q; exact q
  · rw [if_neg z] at q; exact q
theorem loS_snoc : ∀ (S : Sps) (b : Rat) (p : Rat × Rat), loS b (S ++ [p]) = if p.1 < loS b S then p.1 else loS b S
  | [], b, p => rfl
  | q :: S, b, p => loS_snoc S _ p
theorem hiS_snoc : ∀ (S : Sps) (b : Rat) (p : Rat × Rat), hiS b (S ++ [p]) = if hiS b S < p.2 then p.2 else hiS b S
  | [], b, p => rfl
  | q :: S, b, p => hiS_snoc S _ p
def BtS (k : Nat) (S : Sps) : Prop := ∀ p ∈ S, Bt k p.1 ∧ Bt k p.2
theorem loS_bt {S : Sps} {b : Rat} (hb : Bt k b) (h : BtS k S) : Bt k (loS b S) := by
  rcases (loS_b (S := S) (b := b)).2.2 with e | ⟨p, hp, e⟩
  · rw [e]; exact hb
  · rw [e]; exact (h p hp).1
theorem hiS_bt {S : Sps} {b : Rat} (hb : Bt k b) (h : BtS k S) : Bt k (hiS b S) := by
  rcases (hiS_b (S := S) (b := b)).2.2 with e | ⟨p, hp, e⟩
  · rw [e]; exact hb
  · rw [e]; exact (h p hp).2
theorem app2 {n : Nat} {xs : List U} {u : U} {k : UQ} (e : ownLst h n = some xs) (hz : xs.length ≤ 900) (q : k .non (h.set n (.lst (xs ++ [u])))) : uAppend (.obj n) [u] h k := Opt.mk e ⟨small (by omega), q⟩
theorem flt_len {S : Sps} {f : Rat × Rat → Bool} : (S.filter f).length ≤ S.length := List.length_filter_le _ _
theorem t_with_span {n : Nat} {S : Sps} {a b : Rat} (hl : lstAt h n = some (S.map prU)) (hb : BtS k S) (ha : Bt k a) (hbb : Bt k b) (hk : k ≤ 9000) (hz : S.length ≤ 300)
    (q : ∀ h' m, Pre h h' → h.length ≤ m → ownLst h' m = some ((wiS S a b).map prU) → Q (.obj m) h') : w_with_span [.obj n, qU a, qU b] h Q E := by
  refine ⟨rfl, ⟨by show 0 ≤ sizeLine; decide, ⟨by show 0 ≤ sizeLine; decide, ?_⟩⟩⟩
  have l0 : Pre h (h ++ [AO.lst []] ++ [AO.lst []]) := Lat.trans .app .app
  have hl0 := Pre.lst l0 hl
  have oA : ownLst (h ++ [AO.lst []] ++ [AO.lst []]) h.length = some [] := Pre.own .app new_own
  have oB : ownLst (h ++ [AO.lst []] ++ [AO.lst []]) (h ++ [AO.lst []]).length = some [] := new_own
  have nAB : h.length < (h ++ [AO.lst []]).length := by simp
  generalize hB : (h ++ [AO.lst []]).length = B at *
  generalize h ++ [AO.lst []] ++ [AO.lst []] = H at *
  refine Opt.walk hl0 (forP (fun i ρ h' => i ≤ S.length ∧ ∃ x y : Option U, ρ = [some (.obj n), some (qU a), some (qU b), some (.obj h.length), some (.obj B), some (qU (loS a (midS (S.take i) a b))), some (qU (hiS b (midS (S.take i) a b))), x, y] ∧ Pre h h' ∧ ownLst h' h.length = some ((ahdS (S.take i) a).map prU) ∧ ownLst h' B = some ((bhdS (S.take i) a b).map prU)) ?_ ?_ ?_)
  · exact ⟨by omega, none, none, rfl, l0, oA, oB⟩
  · rintro i x ρ' h' hx ⟨hi, x1, y1, rfl, lp, o1, o2⟩
    refine ⟨Pre.lst lp hl, ?_⟩
    rw [List.getElem?_map] at hx
    obtain ⟨p, hp, rfl⟩ := Option.map_eq_some_iff.mp hx
    have hil := (List.getElem?_eq_some_iff.mp hp).1
    obtain ⟨b1, b2⟩ := hb p (List.mem_of_getElem? hp)
    have et : S.take (i + 1) = S.take i ++ [p] := by rw [List.take_add_one, hp]; rfl
    have tl : (S.take i).length ≤ 300 := by rw [List.length_take]; omega
    have bm : BtS k (midS (S.take i) a b) := fun q hq => hb q (List.mem_of_mem_take (List.mem_filter.mp hq).1)
    have eA : ∀ c : Bool, decide (p.2 < a) = c → ahdS (S.take (i + 1)) a = if c then ahdS (S.take i) a ++ [p] else ahdS (S.take i) a := fun c hc => by
      unfold ahdS; rw [et, List.filter_append]; simp only [List.filter_cons, List.filter_nil, hc]; cases c <;> simp
    have eB : ∀ c : Bool, decide (¬ p.2 < a ∧ b < p.1) = c → bhdS (S.take (i + 1)) a b = if c then bhdS (S.take i) a b ++ [p] else bhdS (S.take i) a b := fun c hc => by
      unfold bhdS; rw [et, List.filter_append]; simp only [List.filter_cons, List.filter_nil, hc]; cases c <;> simp
    have eM : ∀ c : Bool, decide (¬ p.2 < a ∧ ¬ b < p.1) = c → midS (S.take (i + 1)) a b = if c then midS (S.take i) a b ++ [p] else midS (S.take i) a b := fun c hc => by
      unfold midS; rw [et, List.filter_append]; simp only [List.filter_cons, List.filter_nil, hc]; cases c <;> simp
    refine Opt.mk rfl ?_
    refine t_less b2 ha hk hk (Br.dec (fun c => ?_) (fun c => ?_))
    · rw [eA true (decide_eq_true c), eB false (decide_eq_false (by grind)), eM false (decide_eq_false (by grind))]
      refine ⟨⟨_, own_lst o1⟩, ⟨by show 2 ≤ sizeLine; decide, app2 o1 (by rw [List.length_map]; exact Nat.le_trans flt_len (by omega)) ?_⟩⟩
      refine ⟨by omega, _, _, rfl, Lat.setNew lp (Nat.le_refl _), ?_, ?_⟩
      · rw [set_own (own_lt o1)]; simp [prU]
      · rw [ne_own (by omega)]; exact o2
    · refine t_less hbb b1 hk hk (Br.dec (fun c2 => ?_) (fun c2 => ?_))
      · rw [eA false (decide_eq_false c), eB true (decide_eq_true ⟨c, c2⟩), eM false (decide_eq_false (by grind))]
        refine ⟨⟨_, own_lst o2⟩, ⟨by show 2 ≤ sizeLine; decide, app2 o2 (by rw [List.length_map]; exact Nat.le_trans flt_len (by omega)) ?_⟩⟩
        refine ⟨by omega, _, _, rfl, Lat.setNew lp (by omega), ?_, ?_⟩
        · rw [ne_own (by omega)]; exact o1
        · rw [set_own (own_lt o2)]; simp [prU]
      · rw [eA false (decide_eq_false c), eB false (decide_eq_false (by grind)), eM true (decide_eq_true ⟨c, c2⟩)]
        simp only [if_true, Bool.false_eq_true, if_false]
        rw [loS_snoc, hiS_snoc]
        refine t_lesser (loS_bt ha bm) b1 hk hk (t_greater (hiS_bt hbb bm) b2 hk hk ?_)
        exact ⟨by omega, _, _, rfl, lp, o1, o2⟩
  · rintro ρ' h' ⟨hi, x1, y1, rfl, lp, o1, o2⟩
    refine ⟨Pre.lst lp hl, ?_⟩
    rw [List.length_map, List.take_length] at *
    refine Opt.items (own_lst o1) ⟨by show 2 ≤ sizeLine; decide, Opt.items (own_lst o2) ?_⟩
    have lw : (wiS S a b).length ≤ 1000 := by
      have f1 : (ahdS S a).length ≤ S.length := flt_len
      have f2 : (bhdS S a b).length ≤ S.length := flt_len
      unfold wiS
      rw [List.length_append, List.length_cons]; omega
    have e : (ahdS S a).map prU ++ (U.tup [qU (loS a (midS S a b)), qU (hiS b (midS S a b))] :: ((bhdS S a b).map prU ++ [])) = (wiS S a b).map prU := by unfold wiS; simp [prU]
    show ((ahdS S a).map prU ++ (U.tup [qU (loS a (midS S a b)), qU (hiS b (midS S a b))] :: ((bhdS S a b).map prU ++ []))).length ≤ sizeLine ∧ Q (.obj h'.length) (h' ++ [AO.lst ((ahdS S a).map prU ++ (U.tup [qU (loS a (midS S a b)), qU (hiS b (midS S a b))] :: ((bhdS S a b).map prU ++ [])))])
    rw [e]
    exact ⟨Nat.le_of_lt (small (by rw [List.length_map]; exact lw)), q (h' ++ [AO.lst ((wiS S a b).map prU)]) h'.length (lp.trans .app) lp.len new_own⟩
/-- the told spans of a list of any -/
def toldS (T : Sps) : Sps := T.foldl (fun S p => if p.1 < p.2 then wiS S p.1 p.2 else S) []
theorem toldS_snoc (T : Sps) (p : Rat × Rat) : toldS (T ++ [p]) = if p.1 < p.2 then wiS (toldS T) p.1 p.2 else toldS T := by unfold toldS; rw [List.foldl_append]; rfl
theorem wiS_bt {S : Sps} {a b : Rat} (hS : BtS k S) (ha : Bt k a) (hb : Bt k b) : BtS k (wiS S a b) := by
  intro p hp
  unfold wiS at hp
  rcases List.mem_append.1 hp with hp | hp
  · exact hS p (List.mem_filter.mp hp).1
  · rcases List.mem_cons.1 hp with rfl | hp
    · exact ⟨loS_bt ha fun q hq => hS q (List.mem_filter.mp hq).1, hiS_bt hb fun q hq => hS q (List.mem_filter.mp hq).1⟩
    · exact hS p (List.mem_filter.mp hp).1
theorem wiS_len {S : Sps} {a b : Rat} : (wiS S a b).length ≤ S.length + 1 := by
  unfold wiS ahdS bhdS
  rw [List.length_append, List.length_cons]
  have : ∀ S : Sps, (S.filter fun p => decide (p.2 < a)).length + (S.filter fun p => decide (¬ p.2 < a ∧ b < p.1)).length ≤ S.length := fun S => by
    induction S with
    | nil => simp
    | cons p S ih =>
      by_cases c1 : p.2 < a
      · rw [List.filter_cons_of_pos (by simpa using c1), List.filter_cons_of_neg (by simp [c1])]; simp only [List.length_cons]; omega
      · by_cases c2 : b < p.1
        · rw [List.filter_cons_of_neg (by simpa using c1), List.filter_cons_of_pos (by simp [c1, c2])]; simp only [List.length_cons]; omega
        · rw [List.filter_cons_of_neg (by simpa using c1), List.filter_cons_of_neg (by simp [c2])]; simp only [List.length_cons]; omega
  have := this S
  omega
theorem fold_ok : ∀ (T S : Sps), Nf S → BtS k S → BtS k T → Nf (T.foldl (fun S p => if p.1 < p.2 then wiS S p.1 p.2 else S) S) ∧ BtS k (T.foldl (fun S p => if p.1 < p.2 then wiS S p.1 p.2 else S) S) ∧ (T.foldl (fun S p => if p.1 < p.2 then wiS S p.1 p.2 else S) S).length ≤ S.length + T.length ∧ ∀ x, InS (T.foldl (fun S p => if p.1 < p.2 then wiS S p.1 p.2 else S) S) x ↔ InS S x ∨ ∃ p ∈ T, p.1 < p.2 ∧ p.1 ≤ x ∧ x ≤ p.2
  | [], S, n, b, _ => ⟨n, b, Nat.le_refl _, fun x => ⟨fun z => .inl z, fun z => z.elim id fun ⟨p, hp, _⟩ => by simp at hp⟩⟩
  | p :: T, S, n, b, hb => by
    have bp := hb p (by simp)
    have bT : BtS k T := fun q hq => hb q (by simp [hq])
    rw [List.foldl_cons]
    by_cases c : p.1 < p.2
    · rw [if_pos c]
      obtain ⟨r1, r2, r3, r4⟩ := fold_ok T (wiS S p.1 p.2) (wiS_nf n c) (wiS_bt b bp.1 bp.2) bT
      have := wiS_len (S := S) (a := p.1) (b := p.2)
      refine ⟨r1, r2, by rw [List.length_cons]; omega, fun x => ?_⟩
      rw [r4, wiS_in n c]
      constructor
      · rintro ((z | z) | ⟨q, hq, z⟩)
        · exact .inl z
        · exact .inr ⟨p, by simp, c, z⟩
        · exact .inr ⟨q, by simp [hq], z⟩
      · rintro (z | ⟨q, hq, z⟩)
        · exact .inl (.inl z)
        · rcases List.mem_cons.1 hq with rfl | hq
          · exact .inl (.inr z.2)
          · exact .inr ⟨q, hq, z⟩
    · rw [if_neg c]
      obtain ⟨r1, r2, r3, r4⟩ := fold_ok T S n b bT
      refine ⟨r1, r2, by rw [List.length_cons]; omega, fun x => ?_⟩
      rw [r4]
      constructor
      · rintro (z | ⟨q, hq, z⟩)
        · exact .inl z
        · exact .inr ⟨q, by simp [hq], z⟩
      · rintro (z | ⟨q, hq, z⟩)
        · exact .inl z
        · rcases List.mem_cons.1 hq with rfl | hq
          · exact absurd z.1 c
          · exact .inr ⟨q, hq, z⟩
theorem toldS_ok (T : Sps) (hb : BtS k T) : Nf (toldS T) ∧ BtS k (toldS T) ∧ (toldS T).length ≤ T.length ∧ ∀ x, InS (toldS T) x ↔ ∃ p ∈ T, p.1 < p.2 ∧ p.1 ≤ x ∧ x ≤ p.2 := by
  obtain ⟨r1, r2, r3, r4⟩ := fold_ok T [] ⟨fun p hp => by simp at hp, List.Pairwise.nil⟩ (fun p hp => by simp at hp) hb
  refine ⟨r1, r2, by unfold toldS; simpa using r3, fun x => ?_⟩
  unfold toldS
  rw [r4]
  exact ⟨fun z => z.elim (fun ⟨p, hp, _⟩ => by simp at hp) id, .inr⟩
theorem t_told {n : Nat} {T : Sps} (hl : lstAt h n = some (T.map prU)) (hp : ∀ p ∈ T, Pl k p.1 ∧ Pl k p.2 ∧ p.1 ≤ p.2) (hk : k ≤ 8990) (hz : T.length ≤ 300)
    (q : ∀ h' m, Pre h h' → h.length ≤ m → ownLst h' m = some ((toldS T).map prU) → Q (.obj m) h') : w_told_spans [.obj n] h Q E := by
  have hb : BtS k T := fun p h' => ⟨(hp p h').1.b, (hp p h').2.1.b⟩
  refine ⟨rfl, ⟨by show 0 ≤ sizeLine; decide, ?_⟩⟩
  have hl0 := Pre.lst (.app (t := [AO.lst []])) hl
  refine Opt.walk hl0 (forP (fun i ρ h' => i ≤ T.length ∧ ∃ (x y : Option U) (m : Nat), ρ = [some (.obj n), some (.obj m), x, y] ∧ Pre h h' ∧ h.length ≤ m ∧ ownLst h' m = some ((toldS (T.take i)).map prU)) ?_ ?_ ?_)
  · exact ⟨by omega, none, none, h.length, rfl, .app, Nat.le_refl _, new_own⟩
  · rintro i x ρ' h' hx ⟨hi, x1, y1, m, rfl, lp, hm, ho⟩
    refine ⟨Pre.lst lp hl, ?_⟩
    rw [List.getElem?_map] at hx
    obtain ⟨p, hpx, rfl⟩ := Option.map_eq_some_iff.mp hx
    have hil := (List.getElem?_eq_some_iff.mp hpx).1
    obtain ⟨b1, b2, b3⟩ := hp p (List.mem_of_getElem? hpx)
    have et : T.take (i + 1) = T.take i ++ [p] := by rw [List.take_add_one, hpx]; rfl
    obtain ⟨_, bt, tl, _⟩ := toldS_ok (k := k) (T.take i) fun q hq => hb q (List.mem_of_mem_take hq)
    rw [List.length_take] at tl
    refine Opt.mk rfl ?_
    refine t_chk b1 b2 hk b3 ?_
    rw [et, toldS_snoc]
    refine t_less b1.b b2.b (by omega) (by omega) (Br.dec (fun c => ?_) (fun c => ?_))
    · rw [if_pos c]
      refine t_with_span (own_lst ho) bt b1.b b2.b (by omega) (by omega) fun h2 m2 l2 hm2 o2 => ?_
      exact ⟨by omega, _, _, m2, rfl, lp.trans l2, by have := lp.len; omega, o2⟩
    · rw [if_neg c]
      exact ⟨by omega, _, _, m, rfl, lp, hm, ho⟩
  · rintro ρ' h' ⟨hi, x1, y1, m, rfl, lp, hm, ho⟩
    rw [List.length_map, List.take_length] at ho
    exact ⟨Pre.lst lp hl, q h' m lp hm ho⟩
end
end K

namespace K
open PySem L2
section
variable {h : AH} {Q : UQ} {E : XQ} {r s : Rat} {j k : Nat}
end
end K

namespace K
open PySem L2
section
variable {h : AH} {Q : UQ} {E : XQ} {r s : Rat} {j k : Nat}
theorem t_mixedB {c k : Int} (h0 : 0 ≤ k) (h1 : k ≤ 10000000) (q : ∀ r : Int, 0 ≤ r → r < 1000000007 → Q (.int r) h) : w_law_mixed_0002 [.int c, .int k] h Q E := by
  have a0 := Int.emod_nonneg c (show (2147483647 : Int) ≠ 0 by decide)
  have a1 := Int.emod_lt_of_pos c (show (0 : Int) < 2147483647 by decide)
  have c0 : 1009 * k * k ≤ 1009 * 10000000 * 10000000 := Int.mul_le_mul (by omega) h1 (by omega) (by omega)
  have c1 : 0 ≤ 1009 * k * k := Int.mul_nonneg (by omega) (by omega)
  refine ⟨rfl, (show (0 : Int) < 2147483647 by decide), IntMulOk.of_left (by decide), mulOk (j := 50) (k := 50) (by omega) (by omega) (by decide) (by decide), IntMulOk.of_left (by decide), ⟨by decide, by decide, by omega⟩, (show (0 : Int) < 2147483647 by decide), ?_⟩
  refine ⟨IntMulOk.of_right (by decide), IntMulOk.of_left (by decide), (show (0 : Int) < 1000000007 by decide), ?_⟩
  exact q _ (Int.emod_nonneg _ (by decide)) (Int.emod_lt_of_pos _ (by decide))
/-- the box of draws: at b, its lists at g and s; at most D draws were taken -/
structure BoxB (h : AH) (b g s : Nat) (D : Int) : Prop where
  ex : ∃ (gs ss : List Int) (x n : Int), ownLst h b = some [.obj g, .int x, .obj s, .int n] ∧ ownLst h g = some (gs.map U.int) ∧ lstAt h s = some (ss.map U.int) ∧ b ≠ g ∧ b ≠ s ∧ g ≠ s ∧ 0 ≤ n ∧ n ≤ D
abbrev BG (b g : Nat) : Nat → Prop := fun n => n = b ∨ n = g
theorem BoxB.lat {S : Nat → Prop} {h h' : AH} {b g s : Nat} {D : Int} (B : BoxB h b g s D) (l : Lat S h h') (hb : ¬ S b) (hg : ¬ S g) (hs : ¬ S s) : BoxB h' b g s D := by
  obtain ⟨gs, ss, x, n, h1, h2, h3, r⟩ := B.ex
  exact ⟨gs, ss, x, n, l.own h1 hb, l.own h2 hg, l.lst h3 hs, r⟩
theorem BoxB.pre {h h' : AH} {b g s : Nat} {D : Int} (B : BoxB h b g s D) (l : Pre h h') : BoxB h' b g s D := B.lat l (fun z => z) (fun z => z) (fun z => z)
theorem BoxB.lt {h : AH} {b g s : Nat} {D : Int} (B : BoxB h b g s D) : b < h.length ∧ g < h.length ∧ s < h.length := by obtain ⟨_, _, _, _, h1, h2, h3, _⟩ := B.ex; exact ⟨own_lt h1, own_lt h2, lst_lt h3⟩
theorem BoxB.mono {h : AH} {b g s : Nat} {D D' : Int} (B : BoxB h b g s D) (e : D ≤ D') : BoxB h b g s D' := by obtain ⟨gs, ss, x, n, h1, h2, h3, h4, h5, h6, h7, h8⟩ := B.ex; exact ⟨gs, ss, x, n, h1, h2, h3, h4, h5, h6, h7, by omega⟩
theorem t_takeB {b g s : Nat} {m D : Int} (B : BoxB h b g s D) (hD : D ≤ 1000000) (hm : 0 < m) (hl : m.natAbs.log2 < 9000) (k : ∀ (r : Int) (h' : AH), 0 ≤ r → r < m → Lat (BG b g) h h' → BoxB h' b g s (D + 1) → Q (.int r) h') : w_law_take_dbef [.obj b, .int m] h Q E := by
  obtain ⟨gs, ss, x, n, h1, h2, h3, bg, bs, gs', n0, nD⟩ := B.ex
  refine ⟨rfl, rd (own_lst h1) rfl (wr h1 rfl ?_)⟩
  have g1 : ownLst (h.set b (.lst [.obj g, .int x, .obj s, .int (n + 1)])) b = some [.obj g, .int x, .obj s, .int (n + 1)] := set_own (own_lt h1)
  have g2 : ownLst (h.set b (.lst [.obj g, .int x, .obj s, .int (n + 1)])) g = some (gs.map U.int) := by rw [ne_own bg]; exact h2
  have g3 : lstAt (h.set b (.lst [.obj g, .int x, .obj s, .int (n + 1)])) s = some (ss.map U.int) := by rw [ne_lst bs]; exact h3
  have l1 : Lat (BG b g) h (h.set b (.lst [.obj g, .int x, .obj s, .int (n + 1)])) := .set (.inl rfl)
  have fin : ∀ {H : AH} (gs2 : List Int) (y r : Int), Lat (BG b g) h H → ownLst H b = some [.obj g, .int y, .obj s, .int (n + 1)] → ownLst H g = some (gs2.map U.int) → lstAt H s = some (ss.map U.int) → 0 ≤ r → r < m → Q (.int r) H := fun gs2 y r l e1 e2 e3 a1 a2 => k _ _ a1 a2 l ⟨gs2, ss, y, n + 1, e1, e2, e3, bg, bs, gs', by omega, by omega⟩
  -- from the loop on
  have tail2 : ∀ (H : AH) (gs2 : List Int) (y c : Int) (z : Option U), Lat (BG b g) h H → ownLst H b = some [.obj g, .int y, .obj s, .int (n + 1)] → ownLst H g = some (gs2.map U.int) → lstAt H s = some (ss.map U.int) →
      (sSeq (sSet 2 (aC (.int 0)))
    (sSeq (sSet 4 (aC (.int 1)))
    (sSeq (sWhile (aB (aOp uLt (aVar 4) (aVar 1))) (sSeq (sSet 2 (aOp uAdd (aOp uMul (aVar 2) (aC (.int 1000000007))) (aCall w_law_mixed_0002 [] (aCons (aVar 3) (aCons (aOp uAdd (aOp uIx (aVar 0) (aC (.int 3))) (aOp uMul (aC (.int 1000)) (aOp uMod (aVar 2) (aC (.int 89))))) aNil)))))
    (sSet 4 (aOp uMul (aVar 4) (aC (.int 1000000007))))))
    (sRet (aOp uMod (aVar 2) (aVar 1)))))) (fun _ h' => Q .non h') Q (fun _ _ => False) (fun _ _ => False) (fun _ => E) [some (.obj b), some (.int m), z, some (.int c), none] H := fun H gs2 y c z l e1 e2 e3 => by
    refine whP (fun mm ρ h' => h' = H ∧ ∃ fo re : Int, ρ = [some (.obj b), some (.int m), some (.int fo), some (.int c), some (.int re)] ∧ 0 ≤ fo ∧ 1 ≤ re ∧ mm = (m - re).toNat) ⟨_, rfl, 0, 1, rfl, by decide, by decide, rfl⟩ ?_
    rintro mm ρ h' ⟨rfl, fo, re, rfl, f0, r1, rfl⟩
    refine Br.dec (fun c1 => ?_) (fun c1 => ?_)
    · refine ⟨IntMulOk.of_right (by decide), rd (own_lst e1) rfl ⟨(show (0 : Int) < 89 by decide), IntMulOk.of_left (by decide), ?_⟩⟩
      have q0 := Int.emod_nonneg fo (show (89 : Int) ≠ 0 by decide)
      have q1 := Int.emod_lt_of_pos fo (show (0 : Int) < 89 by decide)
      refine t_mixedB (by omega) (by omega) fun r r0 r1' => ?_
      exact ⟨IntMulOk.of_right (by decide), (m - re * 1000000007).toNat, by omega, rfl, fo * 1000000007 + r, re * 1000000007, rfl, by omega, by omega, rfl⟩
    · exact ⟨hm, fin gs2 y _ l e1 e2 e3 (Int.emod_nonneg _ (by omega)) (Int.emod_lt_of_pos _ hm)⟩
  -- from the second if on
  have tail1 : ∀ (H : AH) (gs2 : List Int) (y : Int), Lat (BG b g) h H → ownLst H b = some [.obj g, .int y, .obj s, .int (n + 1)] → ownLst H g = some (gs2.map U.int) → lstAt H s = some (ss.map U.int) →
      (sSeq (sIf (aB (aOp uGt (aOp uIx (aVar 0) (aC (.int 1))) (aC (.int 0)))) (sSeq (sSet 2 (aOp uMod (aOp uIx (aVar 0) (aC (.int 1))) (aVar 1)))
    (sSeq (sIx (aOp uDiv (aOp uIx (aVar 0) (aC (.int 1))) (aVar 1)) (aVar 0) (aC (.int 1)))
    (sRet (aVar 2)))) sNext)
    (sSeq (sSet 3 (aOp uMul (aC (.int 7)) (aOp uIx (aVar 0) (aC (.int 3)))))
    (sSeq (sIf (aB (aOp uGt (aBlt uLen (aCons (aOp uIx (aVar 0) (aC (.int 2))) aNil)) (aC (.int 0)))) (sSet 3 (aOp uIx (aOp uIx (aVar 0) (aC (.int 2))) (aOp uMod (aOp uIx (aVar 0) (aC (.int 3))) (aBlt uLen (aCons (aOp uIx (aVar 0) (aC (.int 2))) aNil))))) sNext)
    (sSeq (sSet 2 (aC (.int 0)))
    (sSeq (sSet 4 (aC (.int 1)))
    (sSeq (sWhile (aB (aOp uLt (aVar 4) (aVar 1))) (sSeq (sSet 2 (aOp uAdd (aOp uMul (aVar 2) (aC (.int 1000000007))) (aCall w_law_mixed_0002 [] (aCons (aVar 3) (aCons (aOp uAdd (aOp uIx (aVar 0) (aC (.int 3))) (aOp uMul (aC (.int 1000)) (aOp uMod (aVar 2) (aC (.int 89))))) aNil)))))
    (sSet 4 (aOp uMul (aVar 4) (aC (.int 1000000007))))))
    (sRet (aOp uMod (aVar 2) (aVar 1))))))))) (fun _ h' => Q .non h') Q (fun _ _ => False) (fun _ _ => False) (fun _ => E) [some (.obj b), some (.int m), none, none, none] H := fun H gs2 y l e1 e2 e3 => by
    refine rd (own_lst e1) rfl (Br.dec (fun hp => ?_) (fun hp => ?_))
    · refine rd (own_lst e1) rfl ⟨hm, ?_⟩
      refine rd (own_lst e1) rfl ⟨⟨by omega, hl⟩, ?_⟩
      refine wr e1 rfl ?_
      exact fin gs2 _ _ (l.trans (.set (.inl rfl))) (set_own (own_lt e1)) (by rw [ne_own bg]; exact e2) (by rw [ne_lst bs]; exact e3) (Int.emod_nonneg _ (by omega)) (Int.emod_lt_of_pos _ hm)
    · refine rd (own_lst e1) rfl ⟨IntMulOk.of_left (by decide), ?_⟩
      refine rd (own_lst e1) rfl (ln e3 (Br.dec (fun hq => ?_) (fun hq => ?_)))
      · rw [List.length_map] at hq
        have q0 := Int.emod_nonneg (n + 1) (show ((ss.map U.int).length : Int) ≠ 0 by rw [List.length_map]; omega)
        have q1 := Int.emod_lt_of_pos (n + 1) (show (0 : Int) < ((ss.map U.int).length : Int) by rw [List.length_map]; omega)
        have hi : ((n + 1) % ((ss.map U.int).length : Int)).toNat < ss.length := by rw [List.length_map] at q1 q0 ⊢; omega
        refine rd (own_lst e1) rfl (rd (own_lst e1) rfl (rd (own_lst e1) rfl (ln e3 ⟨by rw [List.length_map]; omega, rd e3 (atI_of (u := .int (ss[((n + 1) % ((ss.map U.int).length : Int)).toNat])) q0 (by rw [List.getElem?_map, List.getElem?_eq_getElem hi]; rfl)) ?_⟩)))
        exact tail2 H gs2 y _ _ l e1 e2 e3
      · exact tail2 H gs2 y _ _ l e1 e2 e3
  refine Opt.mk (own_lst g1) (Opt.mk rfl (Br.dec (fun hc => ?_) (fun hc => tail1 _ gs x l1 g1 g2 g3)))
  refine rd (own_lst g1) rfl (ln (own_lst g2) (Br.dec (fun hi => ?_) (fun hi => tail1 _ gs x l1 g1 g2 g3)))
  rw [List.length_map] at hi
  obtain ⟨c0, gs2, rfl⟩ : ∃ c0 gs2, gs = c0 :: gs2 := by cases gs with
    | nil => simp at hi
    | cons a l => exact ⟨a, l, rfl⟩
  refine rd (own_lst g1) rfl ⟨⟨_, own_lst g2⟩, ?_⟩
  refine Opt.mk g2 ⟨by decide, by decide, Opt.mk (a := 0) (by unfold seqIndex?; simp) (Opt.mk (a := .int c0) rfl ?_)⟩
  have l2 := l1.trans (.set (S := BG b g) (n := g) (o := .lst (((c0 :: gs2).map U.int).eraseIdx 0)) (.inr rfl))
  have k1 : ownLst ((h.set b (.lst [.obj g, .int x, .obj s, .int (n + 1)])).set g (.lst (((c0 :: gs2).map U.int).eraseIdx 0))) b = some [.obj g, .int x, .obj s, .int (n + 1)] := by rw [ne_own (Ne.symm bg)]; exact g1
  have k2 : ownLst ((h.set b (.lst [.obj g, .int x, .obj s, .int (n + 1)])).set g (.lst (((c0 :: gs2).map U.int).eraseIdx 0))) g = some (gs2.map U.int) := set_own (own_lt g2)
  have k3 : lstAt ((h.set b (.lst [.obj g, .int x, .obj s, .int (n + 1)])).set g (.lst (((c0 :: gs2).map U.int).eraseIdx 0))) s = some (ss.map U.int) := by rw [ne_lst gs']; exact g3
  refine wr k1 rfl ?_
  exact tail1 _ gs2 c0 (l2.trans (.set (.inl rfl))) (set_own (own_lt k1)) (by rw [ne_own bg]; exact k2) (by rw [ne_lst bs]; exact k3)
end
end K

namespace K
open PySem L2
section
variable {h : AH} {Q : UQ} {E : XQ} {r s : Rat} {j k : Nat} {u v : U}
theorem t_low {a b : Int} (hb : b ≠ 0) (hl : b.natAbs.log2 < 9000) (k : Q (qU (Rat.divInt a b)) h) : w_law_low_35aa [.int a, .int b] h Q E := by
  refine ⟨rfl, whP (fun m ρ h' => h' = h ∧ ∃ x y : Int, ρ = [some (.int a), some (.int b), some (.int x), some (.int y)] ∧ 0 ≤ x ∧ 0 ≤ y ∧ Int.gcd x y = Int.gcd a b ∧ m = y.toNat) ⟨_, rfl, _, _, rfl, by rw [abs_if]; omega, by rw [abs_if]; omega, by rw [abs_if, abs_if]; simp [Int.gcd], rfl⟩ ?_⟩
  rintro m ρ h' ⟨rfl, x, y, rfl, hx, hy, hg, rfl⟩
  refine Br.dec (fun hp => ?_) (fun hp => ?_)
  · have hp : 0 < y := hp
    have m0 := Int.emod_nonneg x (show y ≠ 0 by omega)
    have m1 := Int.emod_lt_of_pos x hp
    exact ⟨hp, (x % y).toNat, by omega, rfl, y, x % y, rfl, hy, m0, by rw [gcd_step hx hp, hg], rfl⟩
  · have hp : ¬ 0 < y := hp
    have : y = 0 := by omega
    subst this
    rw [Int.gcd_zero_right] at hg
    have ex : x = (Int.gcd a b : Int) := by omega
    subst ex
    have d0 := dv_ne (a := a) hb
    have ds := dv_small (a := a) hb hl
    rw [← lo_q hb] at k
    refine Br.dec (fun hn => ?_) (fun hn => ?_)
    · have e : -(Int.gcd a b : Int) = dv a b := by unfold dv; rw [if_pos hn]
      show CDivB a (-(Int.gcd a b : Int)) ∧ CDivB b (-(Int.gcd a b : Int)) ∧ _
      rw [e]
      exact ⟨⟨d0, ds⟩, ⟨d0, ds⟩, (by show 2 ≤ sizeLine; decide), k⟩
    · have e : (Int.gcd a b : Int) = dv a b := by unfold dv; rw [if_neg hn]
      show CDivB a (Int.gcd a b : Int) ∧ CDivB b (Int.gcd a b : Int) ∧ _
      rw [e]
      exact ⟨⟨d0, ds⟩, ⟨d0, ds⟩, (by show 2 ≤ sizeLine; decide), k⟩
/-- a tuple that stands for a rational number -/
structure Fq (k : Nat) (u : U) (r : Rat) : Prop where
  ex : ∃ a b : Int, u = .tup [.int a, .int b] ∧ 0 < b ∧ r = (a : Rat) / b ∧ a.natAbs < 2 ^ k ∧ b.natAbs < 2 ^ k
theorem Fq.of (b : Bt k r) : Fq k (qU r) r := by
  refine ⟨r.num, r.den, rfl, by have := r.den_nz; omega, ?_, b.n, dn b⟩
  have e := num_den r
  rw [Rat.divInt_eq_div] at e
  exact e.symm
theorem Fq.mono (f : Fq j u r) (e : j ≤ k) : Fq k u r := by
  obtain ⟨a, b, rfl, b0, hr, h1, h2⟩ := f.ex
  exact ⟨a, b, rfl, b0, hr, Nat.lt_of_lt_of_le h1 (Nat.pow_le_pow_right (by decide) e), Nat.lt_of_lt_of_le h2 (Nat.pow_le_pow_right (by decide) e)⟩
end
end K

namespace K
open PySem L2
/-- a share stands at t -/
structure IsShr (h : AH) (t : Nat) (S : Sps) : Prop where
  ex : ∃ m, insAt h t = some (("Share", [("held", .obj m)]) : CF) ∧ lstAt h m = some (S.map prU)
theorem IsShr.pre {h h' : AH} {t : Nat} {S : Sps} (T : IsShr h t S) (l : Pre h h') : IsShr h' t S := by
  obtain ⟨m, h1, h2⟩ := T.ex
  exact ⟨m, Pre.ins l h1, Pre.lst l h2⟩
section
variable {h : AH} {Q : UQ} {E : XQ} {r s : Rat} {j k : Nat} {u v : U}
theorem t_sinit {t n : Nat} {T : Sps} (ht : insAt h t = some (("Share", []) : CF)) (hl : lstAt h n = some (T.map prU)) (hp : ∀ p ∈ T, Pl k p.1 ∧ Pl k p.2 ∧ p.1 ≤ p.2) (hk : k ≤ 8990) (hz : T.length ≤ 300)
    (q : ∀ h' m, Lat (· = t) h h' → h.length ≤ m → insAt h' t = some (("Share", [("held", .obj m)]) : CF) → lstAt h' m = some ((toldS T).map prU) → Q .non h') : w_Share_init [.obj t, .obj n] h Q E := by
  refine ⟨rfl, t_told hl hp hk hz fun h1 m l1 hm ho => ?_⟩
  have ht1 := Pre.ins l1 ht
  have lt := ins_lt ht
  refine Opt.mk ht1 ⟨List.mem_singleton.mpr rfl, by show 0 < 1000; decide, ?_⟩
  refine q _ m ((Lat.of l1).trans (.set rfl)) hm ?_ ?_
  · unfold insAt; rw [set_at (ins_lt ht1)]; rfl
  · rw [ne_lst (by omega)]; exact own_lst ho
theorem t_spans {t : Nat} {S : Sps} (T : IsShr h t S) (q : Q (.obj h.length) (h ++ [AO.lst (S.map prU)])) : w_Share_spans [.obj t] h Q E := by
  obtain ⟨m, h1, h2⟩ := T.ex
  exact ⟨rfl, Opt.mk h1 ⟨List.mem_singleton.mpr rfl, Opt.mk rfl (Opt.items h2 q)⟩⟩
/-! ### the law's own -/
abbrev Prs := List (Int × Int)
def scQ (g : Int) (p : Int × Int) : Rat × Rat := ((p.1 : Rat) / g, (p.2 : Rat) / g)
def scF (g : Int) : U → Option U
  | .tup [.int a, .int b] => some (prU (scQ g (a, b)))
  | _ => none
theorem scF_all (g : Int) : ∀ ps : Prs, (ps.map prI).filterMap (scF g) = (ps.map (scQ g)).map prU
  | [] => rfl
  | p :: ps => by
    rw [List.map_cons, List.filterMap_cons, show scF g (prI p) = some (prU (scQ g p)) from rfl, scF_all g ps]; rfl
theorem t_ltold {n : Nat} {ps : Prs} {g : Int} (hl : lstAt h n = some (ps.map prI)) (hg : 0 < g) (hgl : g.natAbs.log2 < 9000) (hz : ps.length ≤ 900) (q : Q (.obj h.length) (h ++ [AO.lst ((ps.map (scQ g)).map prU)])) : w_law_told_ca41 [.obj n, .int g] h Q E := by
  refine ⟨rfl, Opt.walk hl (lcP (xs := ps.map prI) (scF g) (small (by rw [List.length_map]; omega)) (fun h' l => Pre.lst l hl) ?_ ?_)⟩
  · intro x hx h' Kt l qk
    obtain ⟨p, _, rfl⟩ := List.mem_map.1 hx
    refine Opt.mk rfl (t_low (by omega) hgl (t_low (by omega) hgl ⟨by show 2 ≤ sizeLine; decide, ?_⟩))
    have e : ∀ a : Int, Rat.divInt a g = (a : Rat) / g := fun a => Rat.divInt_eq_div _ _
    show Kt (some (U.tup [qU (Rat.divInt p.1 g), qU (Rat.divInt p.2 g)])) h'
    rw [e, e]; exact qk
  · rw [scF_all]; exact q
/-- whole spans as spans -/
def caQ (p : Int × Int) : Rat × Rat := ((p.1 : Rat), (p.2 : Rat))
def neF : U → Option U
  | .tup [.int a, .int b] => if a < b then some (.tup [.int a, .int b]) else none
  | _ => none
theorem neF_all : ∀ ps : Prs, (ps.map prI).filterMap neF = (ps.filter fun p => decide (p.1 < p.2)).map prI
  | [] => rfl
  | p :: ps => by
    rw [List.map_cons, List.filterMap_cons, neF_all ps]
    by_cases c : p.1 < p.2
    · rw [show neF (prI p) = some (prI p) from if_pos c, List.filter_cons_of_pos (by simpa using c)]; rfl
    · rw [show neF (prI p) = none from if_neg c, List.filter_cons_of_neg (by simpa using c)]
/-- one more, which begins no sooner than the last -/
def jn1 (J : Prs) (p : Int × Int) : Prs := match J.getLast? with
  | some q => if p.1 ≤ q.2 then J.dropLast ++ [(q.1, if q.2 > p.2 then q.2 else p.2)] else J ++ [p]
  | none => [p]
end
end K

namespace K
open PySem L2
theorem jn1_nil (p : Int × Int) : jn1 [] p = [p] := rfl
theorem jn1_snoc (J : Prs) (q p : Int × Int) : jn1 (J ++ [q]) p = if p.1 ≤ q.2 then J ++ [(q.1, if q.2 > p.2 then q.2 else p.2)] else J ++ [q] ++ [p] := by
  unfold jn1
  rw [List.getLast?_concat, List.dropLast_concat]
theorem ins_snoc {S : Sps} {p : Rat × Rat} {y : Rat} : InS (S ++ [p]) y ↔ InS S y ∨ p.1 ≤ y ∧ y ≤ p.2 := by
  unfold InS
  constructor
  · rintro ⟨q, hq, r⟩
    rcases List.mem_append.1 hq with hq | hq
    · exact .inl ⟨q, hq, r⟩
    · rw [List.mem_singleton] at hq; subst hq; exact .inr r
  · rintro (⟨q, hq, r⟩ | r)
    · exact ⟨q, by simp [hq], r⟩
    · exact ⟨p, by simp, r⟩
theorem nf_snoc {S : Sps} {p : Rat × Rat} : Nf (S ++ [p]) ↔ Nf S ∧ p.1 < p.2 ∧ ∀ q ∈ S, q.2 < p.1 := by
  constructor
  · intro n
    have a := List.pairwise_append.mp n.ap
    exact ⟨⟨fun q hq => n.ne q (by simp [hq]), a.1⟩, n.ne p (by simp), fun q hq => a.2.2 q hq p (by simp)⟩
  · rintro ⟨n, c, d⟩
    refine ⟨fun q hq => ?_, List.pairwise_append.mpr ⟨n.ap, List.pairwise_singleton _ _, fun q hq r hr => ?_⟩⟩
    · rcases List.mem_append.1 hq with hq | hq
      · exact n.ne q hq
      · rw [List.mem_singleton] at hq; subst hq; exact c
    · rw [List.mem_singleton] at hr; subst hr; exact d q hq
theorem jn1_ok {J : Prs} {p : Int × Int} (n : Nf (J.map caQ)) (c : p.1 < p.2) (lo : ∀ q ∈ J, q.1 ≤ p.1) : Nf ((jn1 J p).map caQ) ∧ (∀ y : Rat, InS ((jn1 J p).map caQ) y ↔ InS (J.map caQ) y ∨ (p.1 : Rat) ≤ y ∧ y ≤ (p.2 : Rat)) ∧ (∀ q ∈ jn1 J p, q.1 ≤ p.1) ∧ (jn1 J p).length ≤ J.length + 1 := by
  have c' : (p.1 : Rat) < p.2 := by exact_mod_cast c
  rcases List.eq_nil_or_concat J with rfl | ⟨J, q, rfl⟩
  · rw [jn1_nil]
    refine ⟨⟨fun r hr => by rw [List.map_singleton, List.mem_singleton] at hr; subst hr; exact c', List.pairwise_singleton _ _⟩, fun y => ?_, fun r hr => by rw [List.mem_singleton] at hr; subst hr; exact Int.le_refl _, by simp⟩
    have := ins_snoc (S := []) (p := caQ p) (y := y)
    exact this
  · rw [List.concat_eq_append] at *
    rw [List.map_append, List.map_singleton] at n ⊢
    obtain ⟨n1, n2, n3⟩ := nf_snoc.mp n
    have lq := lo q (by simp)
    have lq' : (q.1 : Rat) ≤ p.1 := by exact_mod_cast lq
    rw [jn1_snoc]
    by_cases d : p.1 ≤ q.2
    · have d' : (p.1 : Rat) ≤ q.2 := by exact_mod_cast d
      rw [if_pos d, List.map_append, List.map_singleton]
      have e : caQ (q.1, if q.2 > p.2 then q.2 else p.2) = ((q.1 : Rat), if (q.2 : Rat) > p.2 then (q.2 : Rat) else p.2) := by
        unfold caQ
        by_cases z : q.2 > p.2
        · have z' : (q.2 : Rat) > p.2 := by exact_mod_cast z
          simp only [if_pos z, if_pos z']
        · have z' : ¬ (q.2 : Rat) > p.2 := by exact_mod_cast z
          simp only [if_neg z, if_neg z']
      rw [e]
      refine ⟨nf_snoc.mpr ⟨n1, ?_, n3⟩, fun y => ?_, fun r hr => ?_, by simp⟩
      · dsimp only; split <;> grind
      · rw [ins_snoc, ins_snoc]
        unfold caQ
        dsimp only
        by_cases z : (q.2 : Rat) > p.2
        · rw [if_pos z]; grind
        · rw [if_neg z]; grind
      · rcases List.mem_append.1 hr with hr | hr
        · exact lo r (by simp [hr])
        · rw [List.mem_singleton] at hr; subst hr; exact lq
    · have d' : (q.2 : Rat) < p.1 := by exact_mod_cast (show q.2 < p.1 by omega)
      rw [if_neg d, List.map_append, List.map_singleton, List.map_append, List.map_singleton]
      refine ⟨nf_snoc.mpr ⟨n, c', fun r hr => ?_⟩, fun y => ins_snoc, fun r hr => ?_, by simp⟩
      · rcases List.mem_append.1 hr with hr | hr
        · have := n3 r hr; have := n2; show r.2 < (p.1 : Rat); unfold caQ at *; grind
        · rw [List.mem_singleton] at hr; subst hr; exact d'
      · rcases List.mem_append.1 hr with hr | hr
        · exact lo r hr
        · rw [List.mem_singleton] at hr; subst hr; exact Int.le_refl _
end K

namespace K
open PySem L2
section
variable {h : AH} {Q : UQ} {E : XQ} {r s : Rat} {j k : Nat} {u v : U}
theorem ix_last (xs : List U) (u : U) : ixN (xs ++ [u]).length (-1) = some xs.length := by
  unfold ixN
  rw [if_neg (by decide), List.length_append, List.length_singleton]
  rw [if_pos (by omega)]
  congr 1
  omega
theorem at_last (xs : List U) (u : U) : atI (xs ++ [u]) (-1) = some u := by
  unfold atI; rw [ix_last]; simp
theorem t_joined {n : Nat} {ps : Prs} (hl : lstAt h n = some (ps.map prI)) (hz : ps.length < 64)
    (q : ∀ h' m (J : Prs), Pre h h' → h.length ≤ m → ownLst h' m = some (J.map prI) → Nf (J.map caQ) → (∀ y : Rat, InS (J.map caQ) y ↔ ∃ p ∈ ps, p.1 < p.2 ∧ (p.1 : Rat) ≤ y ∧ y ≤ (p.2 : Rat)) → J.length ≤ ps.length → Q (.obj m) h') : w_law_joined_aeb5 [.obj n] h Q E := by
  refine ⟨rfl, ⟨by show 0 ≤ sizeLine; decide, ?_⟩⟩
  have l0 : Pre h (h ++ [AO.lst []]) := .app
  have hl0 := Pre.lst l0 hl
  have o0 : ownLst (h ++ [AO.lst []]) h.length = some [] := new_own
  generalize h ++ [AO.lst []] = H at *
  refine Opt.walk hl0 (lcP (xs := ps.map prI) neF (small (by rw [List.length_map]; omega)) (fun h' l => Pre.lst l hl0) ?_ ?_)
  · intro x hx h' Kt l qk
    obtain ⟨p, _, rfl⟩ := List.mem_map.1 hx
    refine Opt.mk rfl (Br.dec (fun c => ?_) (fun c => ?_))
    · rw [show neF (prI p) = some (prI p) from if_pos c] at qk; exact qk
    · rw [show neF (prI p) = none from if_neg c] at qk; exact qk
  rw [neF_all]
  obtain ⟨fs, hfs⟩ : ∃ fs, fs = ps.filter fun p => decide (p.1 < p.2) := ⟨_, rfl⟩
  rw [← hfs]
  have hfl : fs.length ≤ ps.length := by rw [hfs]; exact List.length_filter_le _ _
  have l1 : Pre h (H ++ [AO.lst (fs.map prI)]) := l0.trans .app
  have o1 := Pre.own (.app (t := [AO.lst (fs.map prI)])) o0
  refine Opt.mk new_lst (Opt.mk (prsOf_of fs) ⟨by omega, fun ps' pm so => ?_⟩)
  have lw : lstAt (H ++ [AO.lst (fs.map prI)] ++ [AO.lst (ps'.map prI)]) (H ++ [AO.lst (fs.map prI)]).length = some (ps'.map prI) := new_lst
  have l2 : Pre h (H ++ [AO.lst (fs.map prI)] ++ [AO.lst (ps'.map prI)]) := l1.trans .app
  have o2 := Pre.own (.app (t := [AO.lst (ps'.map prI)])) o1
  have nF : h.length < (H ++ [AO.lst (fs.map prI)]).length := by have := own_lt o1; omega
  generalize (H ++ [AO.lst (fs.map prI)]).length = W at *
  generalize H ++ [AO.lst (fs.map prI)] ++ [AO.lst (ps'.map prI)] = G at *
  have pl := pm.length_eq
  have plt : ∀ p ∈ ps', p.1 < p.2 := fun p hp => by
    have := pm.mem_iff.mp hp
    rw [hfs, List.mem_filter, decide_eq_true_eq] at this
    exact this.2
  refine Opt.walk lw (forP (fun i ρ h' => i ≤ ps'.length ∧ ∃ (x y z : Option U) (J : Prs), ρ = [some (.obj n), some (.obj h.length), x, y, z] ∧ Pre h h' ∧ lstAt h' W = some (ps'.map prI) ∧ ownLst h' h.length = some (J.map prI) ∧ Nf (J.map caQ) ∧ (∀ y : Rat, InS (J.map caQ) y ↔ ∃ p ∈ ps'.take i, (p.1 : Rat) ≤ y ∧ y ≤ (p.2 : Rat)) ∧ (∀ q ∈ J, ∀ r ∈ ps'.drop i, q.1 ≤ r.1) ∧ J.length ≤ i) ?_ ?_ ?_)
  · exact ⟨by omega, _, _, _, [], rfl, l2, lw, o2, ⟨fun p hp => by simp at hp, List.Pairwise.nil⟩, fun y => ⟨fun ⟨p, hp, _⟩ => by simp at hp, fun ⟨p, hp, _⟩ => by simp at hp⟩, fun q hq => by simp at hq, Nat.le_refl _⟩
  · rintro i x ρ' h' hx ⟨hi, x1, y1, z1, J, rfl, lp, lw', ho, nf, inn, lo, jl⟩
    refine ⟨lw', ?_⟩
    rw [List.getElem?_map] at hx
    obtain ⟨p, hpx, rfl⟩ := Option.map_eq_some_iff.mp hx
    have hil := (List.getElem?_eq_some_iff.mp hpx).1
    have hpm := List.mem_of_getElem? hpx
    have et : ps'.take (i + 1) = ps'.take i ++ [p] := by rw [List.take_add_one, hpx]; rfl
    have ed : ps'.drop i = p :: ps'.drop (i + 1) := by rw [List.drop_eq_getElem_cons hil, (List.getElem?_eq_some_iff.mp hpx).2]
    obtain ⟨k1, k2, k3, k4⟩ := jn1_ok nf (plt p hpm) (fun q hq => lo q hq p (by rw [ed]; simp))
    have k5 : ∀ y : Rat, InS ((jn1 J p).map caQ) y ↔ ∃ p ∈ ps'.take (i + 1), (p.1 : Rat) ≤ y ∧ y ≤ (p.2 : Rat) := fun y => by
      rw [k2, inn, et]
      constructor
      · rintro (⟨q, hq, z⟩ | z)
        · exact ⟨q, by simp [hq], z⟩
        · exact ⟨p, by simp, z⟩
      · rintro ⟨q, hq, z⟩
        rcases List.mem_append.1 hq with hq | hq
        · exact .inl ⟨q, hq, z⟩
        · rw [List.mem_singleton] at hq; subst hq; exact .inr z
    have k6 : ∀ q ∈ jn1 J p, ∀ r ∈ ps'.drop (i + 1), q.1 ≤ r.1 := fun q hq r hr => by
      have a := k3 q hq
      have so' := so.sublist (List.drop_sublist i ps')
      rw [ed] at so'
      have b := (List.pairwise_cons.mp so').1 r hr
      unfold lxLe at b
      omega
    have fin : ∀ (xs : List U) (ρ2 : SU), xs = (jn1 J p).map prI → (∃ x y z : Option U, ρ2 = [some (.obj n), some (.obj h.length), x, y, z]) → i + 1 ≤ ps'.length ∧ ∃ (x y z : Option U) (J : Prs), ρ2 = [some (.obj n), some (.obj h.length), x, y, z] ∧ Pre h (h'.set h.length (.lst xs)) ∧ lstAt (h'.set h.length (.lst xs)) W = some (ps'.map prI) ∧ ownLst (h'.set h.length (.lst xs)) h.length = some (J.map prI) ∧ Nf (J.map caQ) ∧ (∀ y : Rat, InS (J.map caQ) y ↔ ∃ p ∈ ps'.take (i + 1), (p.1 : Rat) ≤ y ∧ y ≤ (p.2 : Rat)) ∧ (∀ q ∈ J, ∀ r ∈ ps'.drop (i + 1), q.1 ≤ r.1) ∧ J.length ≤ i + 1 := fun xs ρ2 exs ⟨x, y, z, er⟩ => by
      subst exs
      exact ⟨by omega, x, y, z, jn1 J p, er, Lat.setNew lp (Nat.le_refl _), by rw [ne_lst (by omega)]; exact lw', set_own (own_lt ho), k1, k5, k6, by omega⟩
    refine Opt.mk rfl (ln (own_lst ho) ?_)
    have app : (J = [] ∨ ∃ J' q, J = J' ++ [q] ∧ ¬ p.1 ≤ q.2) → J.map prI ++ [prI p] = (jn1 J p).map prI := fun z => by
      rcases z with rfl | ⟨J', q, rfl, z⟩
      · rfl
      · rw [jn1_snoc, if_neg z, List.map_append (l₂ := [p])]; rfl
    refine Br.dec (fun c0 => ?_) (fun c0 => ?_)
    rotate_left
    · have e0 : J = [] := by
        rw [List.length_map] at c0
        cases J with
        | nil => rfl
        | cons a l => exact absurd (show ((a :: l).length : Int) > 0 by rw [List.length_cons]; omega) c0
      exact ⟨⟨_, own_lst ho⟩, ⟨by show 2 ≤ sizeLine; decide, app2 ho (by rw [e0]; simp) (fin _ _ (app (.inl e0)) ⟨_, _, _, rfl⟩)⟩⟩
    · obtain ⟨J', q, eJ⟩ : ∃ J' q, J = J' ++ [q] := by
        rcases List.eq_nil_or_concat J with e0 | ⟨J', q, e0⟩
        · rw [e0] at c0; exact absurd c0 (by simp)
        · exact ⟨J', q, by rw [e0, List.concat_eq_append]⟩
      have em : J.map prI = J'.map prI ++ [prI q] := by rw [eJ, List.map_append]; rfl
      have al : atI (J.map prI) (-1) = some (prI q) := by rw [em]; exact at_last _ _
      refine Opt.mk (own_lst ho) (Opt.mk al ?_)
      refine Br.dec (fun c => ?_) (fun c => ?_)
      · refine Opt.mk (own_lst ho) (Opt.mk al ?_)
        refine Opt.mk (own_lst ho) (Opt.mk al ?_)
        refine ⟨by show 2 ≤ sizeLine; decide, ?_⟩
        refine wr ho (j := (J'.map prI).length) (by rw [em]; exact ix_last _ _) ?_
        refine fin _ _ ?_ ⟨_, _, _, rfl⟩
        rw [em, eJ, jn1_snoc, if_pos c, List.map_append]
        rw [List.set_append_right _ _ (Nat.le_refl _), Nat.sub_self]
        rfl
      · refine ⟨⟨_, own_lst ho⟩, ⟨by show 2 ≤ sizeLine; decide, app2 ho (by rw [List.length_map]; omega) (fin _ _ (app (.inr ⟨J', q, eJ, c⟩)) ⟨_, _, _, rfl⟩)⟩⟩
  · rintro ρ' h' ⟨hi, x1, y1, z1, J, rfl, lp, lw', ho, nf, inn, lo, jl⟩
    refine ⟨lw', q h' h.length J lp (Nat.le_refl _) ho nf (fun y => ?_) (by rw [List.length_map] at jl; omega)⟩
    rw [List.length_map, List.take_length] at inn
    rw [inn]
    constructor
    · rintro ⟨p, hp, z⟩
      have := pm.mem_iff.mp hp
      rw [hfs, List.mem_filter, decide_eq_true_eq] at this
      exact ⟨p, this.1, this.2, z⟩
    · rintro ⟨p, hp, c, z⟩
      exact ⟨p, pm.mem_iff.mpr (by rw [hfs, List.mem_filter, decide_eq_true_eq]; exact ⟨hp, c⟩), z⟩
end
end K

namespace K
open PySem L2
section
variable {h : AH} {Q : UQ} {E : XQ} {r s : Rat} {j k : Nat} {u v : U}
theorem Fq.bt (f : Fq k u r) : Bt k r := by
  obtain ⟨a, b, rfl, b0, rfl, h1, h2⟩ := f.ex
  rw [← Rat.divInt_eq_div]
  exact .div (by omega) h1 h2
theorem lcP2 {xs : List U} {live : AH → Prop} {g : GU} {Tt : WT} {W : WE} {ρw : SU} {Q : UQ} (f : U → Option U) (hlen : xs.length < sizeLine) (hlive : ∀ h', Pre h h' → live h')
    (hs : ∀ x ∈ xs, ∀ (h' : AH) (Kt : Option U → AH → Prop), Pre h h' → (∀ h4, Pre h' h4 → Kt (f x) h4) → Opt (g h' x ρw) fun ρ2 => Tt ρ2 h' (fun b h3 => Br b (W ρ2 h3 (fun y h4 => Kt (some y) h4) (X0 ρ2)) (Kt none h3)) (X0 ρ2))
    (q : ∀ h', Pre h h' → ownLst h' h.length = some (xs.filterMap f) → Q (.obj h.length) h') :
    LcB xs live g Tt W ρw h Q := by
  refine ⟨fun i acc h' => acc = (xs.take i).filterMap f ∧ Pre h h' ∧ h'[h.length]? = some (.lst acc), ⟨rfl, .app, new_at⟩, ?_, ?_⟩
  · rintro i x acc h' hx ⟨rfl, lp, ha⟩
    have hi : i < xs.length := (List.getElem?_eq_some_iff.mp hx).1
    have hl : ((xs.take i).filterMap f).length < sizeLine := Nat.lt_of_le_of_lt (Nat.le_trans (List.length_filterMap_le _ _) (by rw [List.length_take]; omega)) hlen
    refine ⟨hlive _ lp, ha, hl, ?_⟩
    have et : xs.take (i + 1) = xs.take i ++ [x] := by rw [List.take_add_one, hx]; rfl
    refine hs x (List.mem_of_getElem? hx) _ (fun o h4 => match o with
      | some y => h4[h.length]? = some (.lst ((xs.take i).filterMap f)) ∧ (((xs.take i).filterMap f) ++ [y] = (xs.take (i + 1)).filterMap f ∧ Pre h (h4.set h.length (.lst (((xs.take i).filterMap f) ++ [y]))) ∧ (h4.set h.length (.lst (((xs.take i).filterMap f) ++ [y])))[h.length]? = some (.lst (((xs.take i).filterMap f) ++ [y])))
      | none => (xs.take i).filterMap f = (xs.take (i + 1)).filterMap f ∧ Pre h h4 ∧ h4[h.length]? = some (.lst ((xs.take i).filterMap f))) lp ?_
    intro h4 l4
    have h4a := Lat.at l4 ha (fun z => z)
    cases ef : f x with
    | none => exact ⟨by rw [et, List.filterMap_append]; simp [ef], lp.trans l4, h4a⟩
    | some y => exact ⟨h4a, by rw [et, List.filterMap_append]; simp [ef], Lat.setNew (lp.trans l4) (Nat.le_refl _), set_at (at_lt h4a)⟩
  · rintro acc h' ⟨rfl, lp, ha⟩
    rw [List.take_length] at ha
    refine ⟨hlive _ lp, q _ lp (own_of ha)⟩
end
end K

namespace K
open PySem L2
section
variable {h : AH} {Q : UQ} {E : XQ} {r s : Rat} {j k : Nat} {u v : U}
end
end K

namespace K
open PySem L2
section
variable {h : AH} {Q : UQ} {E : XQ} {r s : Rat} {j k : Nat} {u v : U}
theorem frac01 {a b : Int} (hb : 0 < b) (h0 : 0 ≤ a) (h1 : a ≤ b) : 0 ≤ Rat.divInt a b ∧ Rat.divInt a b ≤ 1 := by
  rw [Rat.divInt_eq_div]
  have hb' : (0 : Rat) < b := Rat.intCast_pos.mpr hb
  have hb2 : (b : Rat) ≠ 0 := by grind
  have e := Rat.div_mul_cancel (a := (a : Rat)) hb2
  have a0 : (0 : Rat) ≤ a := by exact_mod_cast h0
  have a1 : (a : Rat) ≤ b := by exact_mod_cast h1
  generalize (a : Rat) / b = x at *
  constructor
  · refine Rat.not_lt.mp fun z => ?_
    have := Rat.mul_lt_mul_of_pos_right z hb'
    grind
  · refine Rat.not_lt.mp fun z => ?_
    have := Rat.mul_lt_mul_of_pos_right z hb'
    grind
end
end K

namespace K
open PySem L2
section
variable {h : AH} {Q : UQ} {E : XQ} {r s : Rat} {j k : Nat} {u v : U}
theorem Pl.mono (p : Pl j r) (e : j ≤ k) : Pl k r := ⟨p.b.mono e, p.lo, p.hi⟩
end
end K

namespace K
open PySem L2
section
variable {h : AH} {Q : UQ} {E : XQ} {r s : Rat} {j k : Nat} {u v : U}
def geF : U → Option U
  | .int c => if c ≥ 10 ^ (Int.toNat 18) then some (.int c) else none
  | _ => none
def ltF : U → Option U
  | .int c => if c < 10 ^ (Int.toNat 18) then some (.int c) else none
  | _ => none
theorem geF_all : ∀ ns : List Int, ∃ ms : List Int, (ns.map U.int).filterMap geF = ms.map U.int
  | [] => ⟨[], rfl⟩
  | c :: ns => by
    obtain ⟨ms, e⟩ := geF_all ns
    rw [List.map_cons, List.filterMap_cons, e]
    by_cases z : c ≥ 10 ^ (Int.toNat 18)
    · have : geF (.int c) = some (.int c) := if_pos z
      rw [this]; exact ⟨c :: ms, rfl⟩
    · have : geF (.int c) = none := if_neg z
      rw [this]; exact ⟨ms, rfl⟩
theorem ltF_all : ∀ ns : List Int, ∃ ms : List Int, (ns.map U.int).filterMap ltF = ms.map U.int
  | [] => ⟨[], rfl⟩
  | c :: ns => by
    obtain ⟨ms, e⟩ := ltF_all ns
    rw [List.map_cons, List.filterMap_cons, e]
    by_cases z : c < 10 ^ (Int.toNat 18)
    · have : ltF (.int c) = some (.int c) := if_pos z
      rw [this]; exact ⟨c :: ms, rfl⟩
    · have : ltF (.int c) = none := if_neg z
      rw [this]; exact ⟨ms, rfl⟩
theorem t_boxB {sc : Nat} {ns : List Int} (hsc : lstAt h sc = some (ns.map U.int)) (hn : ns.length ≤ 1000) (q : ∀ (b g s' : Nat) (h' : AH), BoxB h' b g s' 0 → Pre h h' → h.length ≤ b → h.length ≤ g → Q (.obj b) h') : w_law_box_1502 [.obj sc] h Q E := by
  obtain ⟨gs, eg⟩ := geF_all ns
  obtain ⟨ss, es⟩ := ltF_all ns
  refine ⟨rfl, Opt.walk hsc (lcP (xs := ns.map U.int) geF (small (by rw [List.length_map]; omega)) (fun h' l => Pre.lst l hsc) ?_ ?_)⟩
  · intro x hx h' Kt l qk
    obtain ⟨c, _, rfl⟩ := List.mem_map.1 hx
    refine Opt.mk rfl ⟨⟨by decide, by decide, by decide⟩, Br.dec (fun z => ?_) (fun z => ?_)⟩
    · have : geF (.int c) = some (.int c) := if_pos z
      rw [this] at qk; exact qk
    · have : geF (.int c) = none := if_neg z
      rw [this] at qk; exact qk
  rw [eg]
  have l1 : Pre h (h ++ [AO.lst (gs.map U.int)]) := .app
  have hs1 := Pre.lst l1 hsc
  have o1 : ownLst (h ++ [AO.lst (gs.map U.int)]) h.length = some (gs.map U.int) := new_own
  have n1 : (h ++ [AO.lst (gs.map U.int)]).length = h.length + 1 := by simp
  generalize h ++ [AO.lst (gs.map U.int)] = H at *
  refine Opt.walk hs1 (lcP (xs := ns.map U.int) ltF (small (by rw [List.length_map]; omega)) (fun h' l => Pre.lst l hs1) ?_ ?_)
  · intro x hx h' Kt l qk
    obtain ⟨c, _, rfl⟩ := List.mem_map.1 hx
    refine Opt.mk rfl ⟨⟨by decide, by decide, by decide⟩, Br.dec (fun z => ?_) (fun z => ?_)⟩
    · have : ltF (.int c) = some (.int c) := if_pos z
      rw [this] at qk; exact qk
    · have : ltF (.int c) = none := if_neg z
      rw [this] at qk; exact qk
  rw [es]
  refine ⟨by show 4 ≤ sizeLine; decide, ?_⟩
  have l2 : Pre H (H ++ [AO.lst (ss.map U.int)]) := .app
  have o2 := Pre.own l2 o1
  have s2 : lstAt (H ++ [AO.lst (ss.map U.int)]) H.length = some (ss.map U.int) := new_lst
  have n2 : (H ++ [AO.lst (ss.map U.int)]).length = H.length + 1 := by simp
  generalize H ++ [AO.lst (ss.map U.int)] = H2 at *
  refine q H2.length h.length H.length _ ?_ ((l1.trans l2).trans .app) (by omega) (by omega)
  refine ⟨gs, ss, 0, 0, new_own, Pre.own .app o2, Pre.lst .app s2, by omega, by omega, by omega, by decide, by decide⟩
end
end K

namespace K
open PySem L2
section
variable {h : AH} {Q : UQ} {E : XQ} {r s : Rat} {j k : Nat} {u v : U}
end
end K

namespace K
open PySem L2
/-! ### plain data: values whose likeness is that of what they stand for -/
class Pd (α : Type) where
  dec : DecidableEq α
  u : α → U
  d : α → PyData
  dp : Nat
  dat : ∀ (h : AH) (a : α) (n : Nat), dp + 1 ≤ n → L2.dat h n (u a) = some (d a)
  lay : ∀ a, PyData.canLay0 (d a) = true
  dep : ∀ a, PyData.depth (d a) ≤ dp
  eqv : ∀ a b, PyData.eqv (d a) (d b) = decide (a = b)
instance {α : Type} [p : Pd α] : DecidableEq α := p.dec
theorem dec_and {p q : Prop} [Decidable p] [Decidable q] : (decide p && decide q) = decide (p ∧ q) := by
  by_cases a : p <;> by_cases b : q <;> simp [a, b]
instance : Pd Int where
  dec := inferInstance
  u := U.int
  d := PyData.int
  dp := 0
  dat := fun h a n hn => by cases n with
    | zero => omega
    | succ n => rfl
  lay := fun _ => rfl
  dep := fun _ => Nat.le_refl _
  eqv := fun a b => by simp only [PyData.eqv]; rfl
instance : Pd Bool where
  dec := inferInstance
  u := U.bl
  d := PyData.bool
  dp := 0
  dat := fun h a n hn => by cases n with
    | zero => omega
    | succ n => rfl
  lay := fun _ => rfl
  dep := fun _ => Nat.le_refl _
  eqv := fun a b => by cases a <;> cases b <;> rfl
instance : Pd Rat where
  dec := inferInstance
  u := qU
  d := dQ
  dp := 1
  dat := fun h a n hn => by
    obtain ⟨m, rfl⟩ : ∃ m, n = m + 2 := ⟨n - 2, by omega⟩
    exact dat_q m a
  lay := fun _ => rfl
  dep := fun _ => by show PyData.depth (.tuple [.int _, .int _]) ≤ 1; simp [PyData.depth, PyData.depthAll]
  eqv := eqv_q
instance {α β : Type} [p : Pd α] [q : Pd β] : Pd (α × β) where
  dec := inferInstance
  u := fun x => .tup [p.u x.1, q.u x.2]
  d := fun x => .tuple [p.d x.1, q.d x.2]
  dp := max p.dp q.dp + 1
  dat := fun h a n hn => by
    obtain ⟨m, rfl⟩ : ∃ m, n = m + 1 := ⟨n - 1, by omega⟩
    have e1 := p.dat h a.1 m (by omega)
    have e2 := q.dat h a.2 m (by omega)
    show (datL (L2.dat h m) [p.u a.1, q.u a.2]).map PyData.tuple = _
    simp only [datL, e1, e2, Option.map]
  lay := fun a => by simp only [PyData.canLay0, PyData.canLayAll0, p.lay, q.lay]; rfl
  dep := fun a => by
    have := p.dep a.1
    have := q.dep a.2
    simp only [PyData.depth, PyData.depthAll]; omega
  eqv := fun a b => by
    simp only [PyData.eqv, PyData.eqvAll, p.eqv, q.eqv, Bool.and_true]
    rw [dec_and, decide_eq_decide]
    exact ⟨fun z => Prod.ext z.1 z.2, fun z => by rw [z]; exact ⟨rfl, rfl⟩⟩
section
variable {h : AH}
theorem ad {i j g : Int} {k : UQ} (e : g = i + j) (q : k (.int g) h) : uAdd (.int i) (.int j) h k := by subst e; exact q
/-- a test whose answer is known -/
theorem ifF {T : WT} {S1 S2 : WS} {nx : SK} {rt : UQ} {bk ct : SK} {E : EX} {ρ : SU} {h h' : AH} (hT : ∀ K : Bool → AH → Prop, K false h' → T ρ h K (E ρ)) (q : S2 nx rt bk ct E ρ h') : sIf T S1 S2 nx rt bk ct E ρ h := hT _ q
/-- a truth that is known, told by a name -/
theorem brNT {b : Bool} {P P' : Prop} (e : b = true) (q : P') : Br (nB b) P P' := by subst e; exact q
theorem brT' {b : Bool} {P P' : Prop} (e : b = true) (q : P) : Br b P P' := by subst e; exact q
theorem brF' {b : Bool} {P P' : Prop} (e : b = false) (q : P') : Br b P P' := by subst e; exact q
theorem nxt {nx : SK} {rt : UQ} {bk ct : SK} {E : EX} {ρ : SU} {h : AH} (q : nx ρ h) : sNext nx rt bk ct E ρ h := q
theorem fm_map {α : Type} {f : α → U} {g : U → Option U} {k : α → U} (h : ∀ a, g (f a) = some (k a)) : ∀ l : List α, (l.map f).filterMap g = l.map k
  | [] => rfl
  | a :: l => by rw [List.map_cons, List.map_cons, List.filterMap_cons, h a, fm_map h l]
section
variable {Q : UQ} {E : XQ}
end
end
section
variable {α : Type} [p : Pd α] {h : AH} {k : UQ} {m n : Nat} {S T : List α}
theorem Pd.datL (S : List α) (hn : p.dp + 1 ≤ n) : L2.datL (L2.dat h n) (S.map p.u) = some (S.map p.d) := by
  induction S with
  | nil => rfl
  | cons a S ih => rw [List.map_cons, List.map_cons]; unfold L2.datL; rw [ih, p.dat h a n hn]
theorem Pd.layL : ∀ (S : List α), PyData.canLayAll0 (S.map p.d) = true
  | [] => rfl
  | a :: S => by rw [List.map_cons]; simp only [PyData.canLayAll0, p.lay, Pd.layL S]; rfl
theorem Pd.depL : ∀ (S : List α), PyData.depthAll (S.map p.d) ≤ p.dp
  | [] => Nat.zero_le _
  | a :: S => by
    have := p.dep a
    have := Pd.depL S
    rw [List.map_cons]; simp only [PyData.depthAll]; omega
theorem Pd.eqvL : ∀ (S T : List α), PyData.eqvAll (S.map p.d) (T.map p.d) = decide (S = T)
  | [], [] => rfl
  | [], _ :: _ => rfl
  | _ :: _, [] => rfl
  | a :: S, b :: T => by
    rw [List.map_cons, List.map_cons]
    simp only [PyData.eqvAll, p.eqv, Pd.eqvL S T]
    rw [dec_and, decide_eq_decide]
    simp
theorem Pd.shpL (S : List α) (h64 : p.dp ≤ 60) : SeqAt.shaped (.list (S.map p.d)) = true := by
  unfold SeqAt.shaped
  rw [Bool.and_eq_true]
  refine ⟨by simp only [PyData.canLay0]; exact Pd.layL S, decide_eq_true ?_⟩
  have := Pd.depL S
  simp only [PyData.depth]; omega
theorem dat_obj {xs : List U} {ds : List PyData} (e : lstAt h m = some xs) (q : L2.datL (L2.dat h n) xs = some ds) : L2.dat h (n + 1) (.obj m) = some (.list ds) := by
  show (match lstAt h m with
    | some xs => (L2.datL (L2.dat h n) xs).map PyData.list
    | none => none) = _
  rw [e]
  show (L2.datL (L2.dat h n) xs).map PyData.list = _
  rw [q]; rfl
theorem eqL (e1 : lstAt h m = some (S.map p.u)) (e2 : lstAt h n = some (T.map p.u)) (q : k (.bl (decide (S = T))) h) (h7 : p.dp ≤ 7 := by decide) : uEq (.obj m) (.obj n) h k := by
  show uEqD false (.obj m) (.obj n) h k
  refine Opt.mk (dat_obj (n := 8) e1 (Pd.datL S (by omega))) (Opt.mk (dat_obj (n := 8) e2 (Pd.datL T (by omega))) ⟨Pd.shpL S (by omega), Pd.shpL T (by omega), ?_⟩)
  show k (.bl (PyData.eqv (.list (S.map p.d)) (.list (T.map p.d)))) h
  simp only [PyData.eqv]
  rw [Pd.eqvL]; exact q
/-- known to be alike, told by a name -/
theorem neLt (e1 : lstAt h m = some (S.map p.u)) (e2 : lstAt h n = some (T.map p.u)) (e : S = T) (q : ∀ t, t = false → k (.bl t) h) (h7 : p.dp ≤ 7 := by decide) : uNe (.obj m) (.obj n) h k := by
  show uEqD true (.obj m) (.obj n) h k
  refine Opt.mk (dat_obj (n := 8) e1 (Pd.datL S (by omega))) (Opt.mk (dat_obj (n := 8) e2 (Pd.datL T (by omega))) ⟨Pd.shpL S (by omega), Pd.shpL T (by omega), q _ ?_⟩)
  show (!PyData.eqv (.list (S.map p.d)) (.list (T.map p.d))) = false
  simp only [PyData.eqv]
  rw [Pd.eqvL, decide_eq_true e]; rfl
theorem eqLt (e1 : lstAt h m = some (S.map p.u)) (e2 : lstAt h n = some (T.map p.u)) (e : S = T) (q : ∀ t, t = true → k (.bl t) h) (h7 : p.dp ≤ 7 := by decide) : uEq (.obj m) (.obj n) h k := by
  show uEqD false (.obj m) (.obj n) h k
  refine Opt.mk (dat_obj (n := 8) e1 (Pd.datL S (by omega))) (Opt.mk (dat_obj (n := 8) e2 (Pd.datL T (by omega))) ⟨Pd.shpL S (by omega), Pd.shpL T (by omega), q _ ?_⟩)
  show PyData.eqv (.list (S.map p.d)) (.list (T.map p.d)) = true
  simp only [PyData.eqv]
  rw [Pd.eqvL, decide_eq_true e]
end
end K

namespace K
open PySem L2
section
variable {h : AH} {Q : UQ} {E : XQ} {r s : Rat} {j k : Nat} {u v : U}
theorem lcW {It : WI} {g : GU} {Tt : WT} {W : WE} {vs : List Nat} {ρ : SU} {xs : List U} (hIt : ∀ (K : List U → (AH → Prop) → AH → Prop) (E : XQ), K xs (fun _ => True) h → It ρ h K E) (q : LcB xs (fun _ => True) g Tt W (wipeU ρ vs) h Q) : aLc It g Tt W vs ρ h Q E := hIt _ _ q
end
end K

namespace K
open PySem L2
section
variable {h : AH} {Q : UQ} {E : XQ} {r s : Rat} {j k : Nat} {u v : U}
theorem dv_le {a x : Rat} {g : Int} (hg : 0 < g) : a / g ≤ x ↔ a ≤ x * g := by
  have g0 : (0 : Rat) < g := by exact_mod_cast hg
  have e : a / g * g = a := Rat.div_mul_cancel (by grind)
  have m1 := fun (p q : Rat) (z : p ≤ q) => Rat.mul_le_mul_of_nonneg_right z (show (0 : Rat) ≤ g by grind)
  constructor
  · intro z; have := m1 _ _ z; rw [e] at this; exact this
  · intro z
    refine Rat.not_lt.mp fun c => ?_
    have := Rat.mul_lt_mul_of_pos_right c g0
    rw [e] at this; grind
theorem le_dv {a x : Rat} {g : Int} (hg : 0 < g) : x ≤ a / g ↔ x * g ≤ a := by
  have g0 : (0 : Rat) < g := by exact_mod_cast hg
  have e : a / g * g = a := Rat.div_mul_cancel (by grind)
  have m1 := fun (p q : Rat) (z : p ≤ q) => Rat.mul_le_mul_of_nonneg_right z (show (0 : Rat) ≤ g by grind)
  constructor
  · intro z; have := m1 _ _ z; rw [e] at this; exact this
  · intro z
    refine Rat.not_lt.mp fun c => ?_
    have := Rat.mul_lt_mul_of_pos_right c g0
    rw [e] at this; grind
theorem dv_lt {a b : Rat} {g : Int} (hg : 0 < g) : a / g < b / g ↔ a < b := by
  have := le_dv (a := a) (x := b / g) hg
  have g0 : (0 : Rat) < g := by exact_mod_cast hg
  have e : b / g * g = b := Rat.div_mul_cancel (by grind)
  rw [e] at this
  rw [← Rat.not_le, ← Rat.not_le, this]
theorem sc_in {J : Prs} {g : Int} (hg : 0 < g) (x : Rat) : InS (J.map (scQ g)) x ↔ InS (J.map caQ) (x * g) := by
  unfold InS
  constructor
  · rintro ⟨p, hp, h1, h2⟩
    obtain ⟨q, hq, rfl⟩ := List.mem_map.1 hp
    exact ⟨caQ q, List.mem_map_of_mem hq, (dv_le hg).mp h1, (le_dv hg).mp h2⟩
  · rintro ⟨p, hp, h1, h2⟩
    obtain ⟨q, hq, rfl⟩ := List.mem_map.1 hp
    exact ⟨scQ g q, List.mem_map_of_mem hq, (dv_le hg).mpr h1, (le_dv hg).mpr h2⟩
theorem sc_nf {J : Prs} {g : Int} (hg : 0 < g) (n : Nf (J.map caQ)) : Nf (J.map (scQ g)) := by
  refine ⟨fun p hp => ?_, ?_⟩
  · obtain ⟨q, hq, rfl⟩ := List.mem_map.1 hp
    exact (dv_lt hg).mpr (n.ne _ (List.mem_map_of_mem hq))
  · rw [List.pairwise_map]
    exact (List.pairwise_map.mp n.ap).imp fun z => (dv_lt hg).mpr z
theorem sc_bt {g a : Int} (hg : 0 < g) (gb : g.natAbs < 2 ^ k) (a0 : 0 ≤ a) (a1 : a ≤ g) : Pl k ((a : Rat) / g) := by
  refine ⟨?_, ?_, ?_⟩
  · rw [← Rat.divInt_eq_div]; exact .div (by omega) (by omega) gb
  · refine (le_dv hg).mpr ?_
    have : (0 : Rat) ≤ a := by exact_mod_cast a0
    grind
  · refine (dv_le hg).mpr ?_
    have : (a : Rat) ≤ g := by exact_mod_cast a1
    grind
/-- spans drawn on a grid -/
structure Gp (g : Int) (ps : Prs) : Prop where
  v : ∀ p ∈ ps, 0 ≤ p.1 ∧ p.1 ≤ p.2 ∧ p.2 ≤ g
theorem Gp.pl {g : Int} {ps : Prs} (G : Gp g ps) (hg : 0 < g) (gb : g.natAbs < 2 ^ k) : ∀ p ∈ ps.map (scQ g), Pl k p.1 ∧ Pl k p.2 ∧ p.1 ≤ p.2 := by
  intro p hp
  obtain ⟨q, hq, rfl⟩ := List.mem_map.1 hp
  obtain ⟨h1, h2, h3⟩ := G.v q hq
  refine ⟨sc_bt hg gb h1 (by omega), sc_bt hg gb (by omega) h3, (dv_le hg).mpr ?_⟩
  have g0 : (0 : Rat) < g := by exact_mod_cast hg
  have e : (q.2 : Rat) / g * g = q.2 := Rat.div_mul_cancel (by grind)
  show (q.1 : Rat) ≤ (q.2 : Rat) / g * g
  rw [e]; exact_mod_cast h2
/-- what is told of scaled spans is the scaled join -/
theorem told_sc {g : Int} {ps J : Prs} (G : Gp g ps) (hg : 0 < g) (n : Nf (J.map caQ)) (hi : ∀ y : Rat, InS (J.map caQ) y ↔ ∃ p ∈ ps, p.1 < p.2 ∧ (p.1 : Rat) ≤ y ∧ y ≤ (p.2 : Rat)) : toldS (ps.map (scQ g)) = J.map (scQ g) := by
  have hb : BtS (g.natAbs + 1) (ps.map (scQ g)) := fun p hp => by
    have := G.pl hg (k := g.natAbs + 1) (Nat.lt_trans (Nat.lt_succ_self _) (Nat.lt_two_pow_self)) p hp
    exact ⟨this.1.b, this.2.1.b⟩
  obtain ⟨n1, _, _, i1⟩ := toldS_ok _ hb
  refine n1.uniq (sc_nf hg n) fun x => ?_
  rw [i1, sc_in hg, hi]
  constructor
  · rintro ⟨p, hp, c, h1, h2⟩
    obtain ⟨q, hq, rfl⟩ := List.mem_map.1 hp
    exact ⟨q, hq, by have := (dv_lt hg).mp c; exact_mod_cast this, (dv_le hg).mp h1, (le_dv hg).mp h2⟩
  · rintro ⟨q, hq, c, h1, h2⟩
    exact ⟨scQ g q, List.mem_map_of_mem hq, (dv_lt hg).mpr (by exact_mod_cast c), (dv_le hg).mpr h1, (le_dv hg).mpr h2⟩
theorem tag_lst' {m : Nat} {xs : List U} (e : lstAt h m = some xs) : tyTag h (.obj m) = some .lst := by
  rcases lstAt_of e with e | e | e <;> simp only [tyTag, e]
theorem t_plain {n : Nat} {S : Sps} (hl : lstAt h n = some (S.map prU)) (q : ∀ h', Pre h h' → Q (.bl true) h') : w_law_plain_6e75 [.obj n] h Q E := by
  refine ⟨rfl, Opt.mk (tag_lst' hl) (Opt.mk rfl ?_)⟩
  refine Opt.walk hl (forP (fun i ρ h' => Pre h h' ∧ ∃ x y z : Option U, ρ = [some (.obj n), x, y, z]) ?_ ?_ ?_)
  · exact ⟨.refl, none, none, none, rfl⟩
  · rintro i x ρ' h' hx ⟨lp, x1, y1, z1, rfl⟩
    refine ⟨Pre.lst lp hl, ?_⟩
    rw [List.getElem?_map] at hx
    obtain ⟨p, hp, rfl⟩ := Option.map_eq_some_iff.mp hx
    refine Opt.mk rfl ?_
    refine forP (xs := [qU p.1, qU p.2]) (fun i ρ h' => Pre h h' ∧ ∃ y z : Option U, ρ = [some (.obj n), some (prU p), y, z]) ?_ ?_ ?_
    · exact ⟨lp, y1, z1, rfl⟩
    · rintro i x ρ' h2 hx ⟨lp2, y2, z2, rfl⟩
      obtain ⟨r, rfl⟩ : ∃ r, x = qU r := by
        have := List.mem_of_getElem? hx
        rcases List.mem_cons.mp this with z | z
        · exact ⟨_, z⟩
        · rw [List.mem_singleton] at z; exact ⟨_, z⟩
      refine ⟨trivial, Opt.mk rfl ?_⟩
      refine ifF (h' := h2) (fun K z => z) ?_
      refine lcW (xs := [U.int r.num, U.int r.den]) (fun K E z => z) (lcP (xs := [U.int r.num, U.int r.den]) (fun _ => some (.bl true)) (show 2 < sizeLine by decide) (fun _ _ => trivial) ?_ ?_)
      · intro x hx h3 Kt l qk
        have : ∃ i, x = U.int i := by
          rcases List.mem_cons.mp hx with z | z
          · exact ⟨_, z⟩
          · rw [List.mem_singleton] at z; exact ⟨_, z⟩
        obtain ⟨i, rfl⟩ := this
        exact qk
      · refine al (ns := [true, true]) new_lst ?_
        exact ⟨lp2.trans .app, _, _, rfl⟩
    · rintro ρ' h2 ⟨lp2, y2, z2, rfl⟩
      exact ⟨trivial, lp2, _, _, _, rfl⟩
  · rintro ρ' h' ⟨lp, x1, y1, z1, rfl⟩
    exact ⟨Pre.lst lp hl, q h' lp⟩
end
end K

namespace K
open PySem L2
section
variable {h : AH} {Q : UQ} {E : XQ} {r s : Rat} {j k : Nat} {u v : U}
theorem t_pairs9 {b g s' : Nat} {D G : Int} (B : BoxB h b g s' D) (hD : D ≤ 900000) (g1 : 1 ≤ G) (gb : G.natAbs < 2 ^ 131)
    (q : ∀ (h' : AH) (m : Nat) (ps : Prs), Lat (BG b g) h h' → h.length ≤ m → ownLst h' m = some (ps.map prI) → ps.length < 9 → (∀ p ∈ ps, 0 ≤ p.1 ∧ p.1 ≤ p.2 ∧ p.2 ≤ G) → BoxB h' b g s' (D + 400) → Q (.obj m) h') : w_law_pairs_6145 [.obj b, .int G] h Q E := by
  refine ⟨rfl, ⟨by show 0 ≤ sizeLine; decide, ?_⟩⟩
  have B1 := B.pre (.app (t := [AO.lst []]))
  have lt0 := B.lt
  refine t_takeB B1 (by omega) (by decide) (by decide) fun r0 h2 c0 c1 l2 B2 => ?_
  have lA : Lat (BG b g) h h2 := (Lat.of .app).trans l2
  have ho2 : ownLst h2 h.length = some [] := l2.own new_own (by omega)
  refine ⟨by omega, by omega, ?_⟩
  refine forP (fun i ρ h' => ∃ ps : Prs, ps.length = i ∧ i ≤ r0.toNat ∧ (∃ x y z t : Option U, ρ = [some (.obj b), some (.int G), some (.obj h.length), x, y, z, t]) ∧ Lat (BG b g) h h' ∧ ownLst h' h.length = some (ps.map prI) ∧ BoxB h' b g s' (D + 1 + 5 * i) ∧ ∀ p ∈ ps, 0 ≤ p.1 ∧ p.1 ≤ p.2 ∧ p.2 ≤ G) ?_ ?_ ?_
  · exact ⟨[], rfl, by omega, ⟨none, none, none, none, rfl⟩, lA, ho2, B2.mono (by omega), fun p hp => by simp at hp⟩
  · rintro i x ρ' h' hx ⟨ps, hpl, hi, ⟨x1, y1, z1, t1, rfl⟩, l3, ho, B3, hv⟩
    have hil : i < r0.toNat := by have := (List.getElem?_eq_some_iff.mp hx).1; unfold rngU at this; simp at this; omega
    refine ⟨trivial, Opt.mk rfl ?_⟩
    refine t_takeB B3 (by omega) (by decide) (by decide) fun way h4 w0 w1 l4 B4 => ?_
    refine t_takeB B4 (by omega) (by omega) (log_pow (k := 132) (by omega) (by decide) (by decide)) fun lo h5 a0 a1 l5 B5 => ?_
    refine t_takeB B5 (by omega) (by omega) (log_pow (k := 132) (by omega) (by decide) (by decide)) fun hi' h6 b0 b1 l6 B6 => ?_
    have l36 : Lat (BG b g) h' h6 := (l4.trans l5).trans l6
    have ho6 : ownLst h6 h.length = some (ps.map prI) := l36.own ho (by omega)
    have tail2 : ∀ (lo hi : Int) (h7 : AH), 0 ≤ lo → lo ≤ hi → hi ≤ G → Lat (BG b g) h6 h7 → BoxB h7 b g s' (D + 1 + 5 * i + 5) → (sDrop (aBm uAppend (aVar 2) (aCons (aTup (aCons (aVar 5) (aCons (aVar 6) aNil))) aNil))) (fun ρ h' => ∃ ps : Prs, ps.length = i + 1 ∧ i + 1 ≤ r0.toNat ∧ (∃ x y z t : Option U, ρ = [some (.obj b), some (.int G), some (.obj h.length), x, y, z, t]) ∧ Lat (BG b g) h h' ∧ ownLst h' h.length = some (ps.map prI) ∧ BoxB h' b g s' (D + 1 + 5 * (i + 1 : Nat)) ∧ ∀ p ∈ ps, 0 ≤ p.1 ∧ p.1 ≤ p.2 ∧ p.2 ≤ G) Q (fun _ _ => False) (fun _ _ => False) (fun _ => E) [some (.obj b), some (.int G), some (.obj h.length), some x, some (.int way), some (.int lo), some (.int hi)] h7 := fun lo hi h7 u0 u1 u2 l7 B7 => by
      have ho7 := l7.own ho6 (by omega)
      have lt7 := B7.lt
      refine ⟨⟨_, own_lst ho7⟩, ⟨by show 2 ≤ sizeLine; decide, ?_⟩⟩
      refine app2 ho7 (by rw [List.length_map]; omega) ⟨ps ++ [(lo, hi)], by simp [hpl], by omega, ⟨_, _, _, _, rfl⟩, ?_, ?_, ?_, ?_⟩
      · exact Lat.setNew ((l3.trans l36).trans l7) (Nat.le_refl _)
      · rw [set_own (own_lt ho7)]; simp [prI]
      · exact (B7.lat (S := (· = h.length)) (.set rfl) (by omega) (by omega) (by omega)).mono (by omega)
      · intro p hp
        rcases List.mem_append.1 hp with z | z
        · exact hv p z
        · rw [List.mem_singleton] at z; subst z; exact ⟨u0, u1, u2⟩
    have tail : ∀ (lo hi : Int) (h7 : AH), 0 ≤ lo → lo ≤ hi → hi ≤ G → Lat (BG b g) h6 h7 → BoxB h7 b g s' (D + 1 + 5 * i + 4) → (sSeq (sIf (aB (aOp uEq (aVar 4) (aC (.int 1)))) (sSet 6 (aBlt uMin (aCons (aVar 1) (aCons (aOp uAdd (aVar 5) (aCall w_law_take_dbef [] (aCons (aVar 0) (aCons (aC (.int 3)) aNil)))) aNil)))) sNext)
    (sDrop (aBm uAppend (aVar 2) (aCons (aTup (aCons (aVar 5) (aCons (aVar 6) aNil))) aNil)))) (fun ρ h' => ∃ ps : Prs, ps.length = i + 1 ∧ i + 1 ≤ r0.toNat ∧ (∃ x y z t : Option U, ρ = [some (.obj b), some (.int G), some (.obj h.length), x, y, z, t]) ∧ Lat (BG b g) h h' ∧ ownLst h' h.length = some (ps.map prI) ∧ BoxB h' b g s' (D + 1 + 5 * (i + 1 : Nat)) ∧ ∀ p ∈ ps, 0 ≤ p.1 ∧ p.1 ≤ p.2 ∧ p.2 ≤ G) Q (fun _ _ => False) (fun _ _ => False) (fun _ => E) [some (.obj b), some (.int G), some (.obj h.length), some x, some (.int way), some (.int lo), some (.int hi)] h7 := fun lo hi h7 u0 u1 u2 l7 B7 => by
      refine Br.dec (fun c => ?_) (fun c => ?_)
      · refine t_takeB B7 (by omega) (by decide) (by decide) fun r7 h8 d0 d1 l8 B8 => ?_
        exact tail2 lo _ h8 u0 (by split <;> omega) (by split <;> omega) (l7.trans l8) (B8.mono (by omega))
      · exact tail2 lo hi h7 u0 u1 u2 l7 (B7.mono (by omega))
    refine Br.dec (fun c => ?_) (fun c => ?_)
    · refine ln (own_lst ho6) (Br.dec (fun c2 => ?_) (fun c2 => ?_))
      · rw [List.length_map] at c2
        refine ln (own_lst ho6) ?_
        rw [List.length_map]
        refine t_takeB B6 (by omega) (by omega) (log_pow (k := 132) (by omega) (by decide) (by decide)) fun r6 h7 d0 d1 l7 B7 => ?_
        have ho7 := l7.own ho6 (by omega)
        have hr6 : r6.toNat < ps.length := by omega
        have hp6 := hv ps[r6.toNat] (List.getElem_mem hr6)
        refine rd (own_lst ho7) (u := prI ps[r6.toNat]) (atI_of d0 (by rw [List.getElem?_map, List.getElem?_eq_getElem hr6]; rfl)) ?_
        refine Opt.mk rfl ?_
        exact tail _ _ h7 (by omega) (by split <;> omega) (by split <;> omega) l7 (B7.mono (by omega))
      · exact tail lo (lo + hi') h6 a0 (by omega) (by omega) .refl (B6.mono (by omega))
    · exact tail lo (lo + hi') h6 a0 (by omega) (by omega) .refl (B6.mono (by omega))
  · rintro ρ' h' ⟨ps, hpl, hi, ⟨x1, y1, z1, t1, rfl⟩, l3, ho, B3, hv⟩
    have hrl : (rngU 0 r0).length = r0.toNat := by unfold rngU; simp
    exact ⟨trivial, q h' h.length ps l3 (Nat.le_refl _) ho (by omega) hv (B3.mono (by omega))⟩
end
end K

namespace K
open PySem L2
/-! ### what two lists of spans have in common -/
section
variable {h : AH} {Q : UQ} {E : XQ} {r s : Rat} {j k : Nat} {u v : U}
/-! ### sums -/
end
end K

namespace K
open PySem L2
section
variable {h : AH} {Q : UQ} {E : XQ} {r s : Rat} {j k : Nat} {u v : U}
/-- spans of the loaf -/
def PlS (k : Nat) (S : Sps) : Prop := ∀ p ∈ S, Pl k p.1 ∧ Pl k p.2 ∧ p.1 ≤ p.2
theorem PlS.bt {S : Sps} (h : PlS k S) : BtS k S := fun p hp => ⟨(h p hp).1.b, (h p hp).2.1.b⟩
end
end K

namespace K
open PySem L2
section
variable {h : AH} {Q : UQ} {E : XQ} {r s : Rat} {j k : Nat} {u v : U}
theorem gp_of {g : Int} {ps J : Prs} (G : Gp g ps) (n : Nf (J.map caQ)) (hi : ∀ y : Rat, InS (J.map caQ) y ↔ ∃ p ∈ ps, p.1 < p.2 ∧ (p.1 : Rat) ≤ y ∧ y ≤ (p.2 : Rat)) : Gp g J := by
  refine ⟨fun p hp => ?_⟩
  have lt := n.ne (caQ p) (List.mem_map_of_mem hp)
  have lt' : p.1 < p.2 := by dsimp only [caQ] at lt; exact_mod_cast lt
  obtain ⟨q, hq, _, a1, a2⟩ := (hi p.1).mp ⟨caQ p, List.mem_map_of_mem hp, Rat.le_refl, Rat.le_of_lt lt⟩
  obtain ⟨q', hq', _, c1, c2⟩ := (hi p.2).mp ⟨caQ p, List.mem_map_of_mem hp, Rat.le_of_lt lt, Rat.le_refl⟩
  have z1 := G.v q hq
  have z2 := G.v q' hq'
  have a1 : q.1 ≤ p.1 := by exact_mod_cast a1
  have c2 : p.2 ≤ q'.2 := by exact_mod_cast c2
  exact ⟨by omega, by omega, by omega⟩
end
end K

namespace K
open PySem L2
section
variable {h : AH} {Q : UQ} {E : XQ} {r s : Rat} {j k : Nat} {u v : U}
end
end K

namespace K
open PySem L2
/-! ### tables of one worth: doubled, halved stretches, narrowed, turned about -/
theorem Good.pos {rs : Rows} (G : Good rs) : ∀ p ∈ rs, 0 < p.1 := fun p hp => by have := G.w p hp; omega
/-! turned about -/
end K

namespace K
open PySem L2
section
variable {h : AH} {Q : UQ} {E : XQ} {r s : Rat} {j k : Nat} {u v : U}
/-- made of rows -/
structure MadeR (rs : Rows) : Prop where
  lo : 1 ≤ rs.length
  hi : rs.length ≤ 4
  w : ∀ p ∈ rs, 1 ≤ p.1 ∧ p.1 ≤ 499
  v : ∀ p ∈ rs, 0 ≤ p.2 ∧ p.2 ≤ 499999999
  some : ∃ p ∈ rs, 0 < p.2
theorem MadeR.pos {rs : Rows} (G : MadeR rs) : ∀ p ∈ rs, 0 < p.1 := fun p hp => by have := G.w p hp; omega
end
end K

namespace K
open PySem L2
section
variable {h : AH} {Q : UQ} {E : XQ} {r s : Rat} {j k : Nat} {u v : U}
end
end K

namespace K
open PySem L2
section
variable {h : AH} {Q : UQ} {E : XQ} {r s : Rat} {j k : Nat} {u v : U}
end
end K

namespace K
open PySem L2
section
variable {h : AH} {Q : UQ} {E : XQ} {r s : Rat} {j k : Nat} {u v : U}
end
end K

namespace K
open PySem L2
def okP (p : Rat × Rat) : Prop := 0 ≤ p.1 ∧ p.2 ≤ 1 ∧ p.1 ≤ p.2
section
variable {h : AH} {Q : UQ} {E : XQ} {r s : Rat} {j k : Nat} {u v : U}
theorem okP.pl {p : Rat × Rat} (o : okP p) (b1 : Bt k p.1) (b2 : Bt k p.2) : Pl k p.1 ∧ Pl k p.2 ∧ p.1 ≤ p.2 := ⟨⟨b1, o.1, Rat.le_trans o.2.2 o.2.1⟩, ⟨b2, Rat.le_trans o.1 o.2.2, o.2.1⟩, o.2.2⟩
end
end K

namespace K
open PySem L2
section
variable {h : AH} {Q : UQ} {E : XQ} {r s : Rat} {j k : Nat} {u v : U}
end
end K

namespace K
open PySem L2
inductive AskOk : U → Prop where
  | pick {wd : Str} {who : Int} {p : Rat × Rat} {ps : Pcs} (c : wd = "trim" ∨ wd = "choose") (hp : PcK 1300 (p :: ps)) (l : (p :: ps).length ≤ 3) : AskOk (.tup [.str wd, .int who, pcU (p :: ps)])
  | even {wd : Str} {who : Int} {r s : Rat} {p : Rat × Rat} {ps : Pcs} (c : wd = "even") (hp : PcK 1300 (p :: ps)) (l : (p :: ps).length ≤ 3) (hr : Pl 1300 r) (hs : Pl 1300 s) (le : r ≤ s) : AskOk (.tup [.str wd, .int who, qU r, qU s, pcU (p :: ps)])
section
variable {h : AH} {Q : UQ} {E : XQ} {r s : Rat} {j k : Nat} {u v : U}
end
end K

namespace K
open PySem L2
section
variable {h : AH} {Q : UQ} {E : XQ} {r s : Rat} {j k : Nat} {u v : U}
def inW (wd : Str) : Bool := [PyData.str "choose", PyData.str "trim"].any fun e => PyData.eqv e (PyData.str wd)
theorem in_w {wd : Str} {k : UQ} (hs : SeqAt.shaped (.str wd) = true) (q : k (.bl (inW wd)) h) : uIn false (.str wd) (.tup [.str "choose", .str "trim"]) h k :=
  ⟨by decide +kernel, hs, q⟩
theorem body {n : Nat} {wd : Str} {rest : List U} {nx bk ct : SK} {a b c d : Option U} {tg : TTag} {nb bb ib : Bool} (hs : SeqAt.shaped (.str wd) = true) (ht : ∀ h, tyTag h u = some tg) (hnb : nb = false) (h2 : is_bool tg = some bb) (hbb : bb = false) (h4 : is_int tg = some ib) (h5 : inW wd = true → ib = true)
    (hrep : ∀ (K : UQ), (∀ h', Pre h h' → K u h') → w_law_reply_e455 [.obj n, .tup (.str wd :: rest)] h K E) (hne : ∀ (h : AH) (k : UQ), k (.bl nb) h → uNe u u h k)
    (q : ∀ h', Pre h h' → nx [a, b, some (.obj n), c, d, some (.tup (.str wd :: rest)), some u] h') : (sSeq (sIf (aOrT (aB (aOp uNe (aVar 6) (aCall w_law_reply_e455 [] (aCons (aVar 2) (aCons (aVar 5) aNil))))) (aB (aUn (uIsi is_bool) (aVar 6)))) (sRet (aC (.bl false))) sNext)
    (sIf (aAndT (aB (aOp (uIn false) (aOp uIx (aVar 5) (aC (.int 0))) (aTup (aCons (aC (.str "choose")) (aCons (aC (.str "trim")) aNil))))) (aNotT (aB (aUn (uIsi is_int) (aVar 6))))) (sRet (aC (.bl false))) sNext)) nx Q bk ct (fun _ => E) [a, b, some (.obj n), c, d, some (.tup (.str wd :: rest)), some u] h := by
  refine hrep _ fun h' l => hne _ _ ?_
  refine brF hnb ?_
  refine Opt.mk (ht _) (Opt.mk h2 ?_)
  refine brF hbb ?_
  refine Opt.mk (a := .str wd) (atI_of (by decide) rfl) ?_
  refine ⟨by show 2 ≤ sizeLine; decide, in_w hs ?_⟩
  cases ei : inW wd with
  | false => exact q h' l
  | true =>
    refine Opt.mk (ht _) (Opt.mk h4 ?_)
    have := h5 ei
    subst this
    exact q h' l
end
end K

namespace K
open PySem L2
section
variable {h : AH} {Q : UQ} {E : XQ}
end
end K

namespace K
open PySem L2
section
variable {h : AH} {Q : UQ} {E : XQ} {r s : Rat} {j k : Nat} {u v : U}
end
end K

namespace K
open PySem L2
/-- a cut between two statements: P holds between them -/
theorem cutP {S1 S2 : WS} {nx : SK} {rt : UQ} {bk ct : SK} {E : EX} {ρ : SU} {h : AH} (P : SK) (h1 : ∀ nx' : SK, (∀ ρ' h', P ρ' h' → nx' ρ' h') → S1 nx' rt bk ct E ρ h) (h2 : ∀ ρ' h', P ρ' h' → S2 nx rt bk ct E ρ' h') : sSeq S1 S2 nx rt bk ct E ρ h := h1 _ h2
theorem rng_at {m : Int} {i : Nat} {x : U} (e : (rngU 0 m)[i]? = some x) : x = .int (i : Nat) ∧ i < m.toNat := by
  have hi := (List.getElem?_eq_some_iff.mp e).1
  unfold rngU at hi e
  simp at hi
  rw [List.getElem?_map, List.getElem?_range (by omega)] at e
  have e : some (U.int (0 + (i : Nat))) = some x := e
  cases e
  exact ⟨by rw [Int.zero_add], by omega⟩
section
variable {h : AH} {Q : UQ} {E : XQ} {r s : Rat} {j k : Nat} {u v : U}
/-! truths told by names -/
theorem eqI {i j : Int} {K : UQ} (q : ∀ b, b = decide (i = j) → K (.bl b) h) : uEq (.int i) (.int j) h K := q _ rfl
theorem leI {i j : Int} {K : UQ} (q : ∀ b, b = decide (i ≤ j) → K (.bl b) h) : uLe (.int i) (.int j) h K := q _ rfl
theorem gtI {i j : Int} {K : UQ} (q : ∀ b, b = decide (j < i) → K (.bl b) h) : uGt (.int i) (.int j) h K := q _ rfl
theorem eqS {i j : Str} {K : UQ} (q : ∀ b, b = decide (i = j) → K (.bl b) h) : uEq (.str i) (.str j) h K := q _ rfl
theorem neS {i j : Str} {K : UQ} (q : ∀ b, b = decide (i ≠ j) → K (.bl b) h) : uNe (.str i) (.str j) h K := q (!decide (i = j)) (by simp)
theorem isiN {f : TTag → Option Bool} {x : U} {t : TTag} {b : Bool} {K : UQ} (e : tyTag h x = some t) (e2 : f t = some b) (q : ∀ c, c = b → K (.bl c) h) : uIsi f x h K := Opt.mk e (Opt.mk e2 (q _ rfl))
theorem dT {b : Bool} {p : Prop} [Decidable p] (e : b = decide p) (hp : p) : b = true := by rw [e]; exact decide_eq_true hp
theorem dF {b : Bool} {p : Prop} [Decidable p] (e : b = decide p) (hp : ¬ p) : b = false := by rw [e]; exact decide_eq_false hp
/-- a truth by its name: both ways -/
theorem brD {b : Bool} {p P P' : Prop} [Decidable p] (e : b = decide p) (q : p → P) (q' : ¬ p → P') : Br b P P' := by
  by_cases hp : p
  · have := dT e hp; subst this; exact q hp
  · have := dF e hp; subst this; exact q' hp
theorem brND {b : Bool} {p P P' : Prop} [Decidable p] (e : b = decide p) (q : p → P') (q' : ¬ p → P) : Br (nB b) P P' := by
  by_cases hp : p
  · have := dT e hp; subst this; exact q hp
  · have := dF e hp; subst this; exact q' hp
end
end K

namespace K
open PySem L2
/-- a whole number as it is written -/
def numT (n : Int) : Str := Str.ofString (toString n)
abbrev dgs (m : Nat) : List Nat := (Nat.toDigits 10 m).map Char.toNat
theorem dgs_all (m : Nat) : NumText.AllDigits (dgs m) := fun c hc => by
  obtain ⟨ch, hch, e⟩ := List.mem_map.1 hc
  rw [← e]
  exact PyProof.Rows.digit_range (Nat.isDigit_of_mem_toDigits (by decide) (by decide) hch)
theorem dgs_val (m : Nat) : NumText.digitsVal (dgs m) = m := W.KIN.val_back m
theorem dgs_ne (m : Nat) : dgs m ≠ [] := by
  intro e
  have h := dgs_val m
  rw [List.map_eq_nil_iff] at e
  have : (Nat.toDigits 10 m).length = 0 := by rw [e]; rfl
  have := Nat.length_toDigits_pos (b := 10) (n := m)
  omega
theorem numT_nat (m : Nat) : (numT (m : Int)).cps.toList = dgs m := W.KIN.signs_num m
theorem numT_neg (m : Nat) (h : 0 < m) : (numT (-(m : Int))).cps.toList = 45 :: dgs m := by
  unfold numT
  rw [PyProof.Rows.toString_neg (by omega)]
  have e : (0 : Int) - -(m : Int) = (m : Int) := by omega
  rw [e]
  rw [PyProof.Rows.signs_ofString, String.toList_append, List.map_append]
  have := numT_nat m
  unfold numT at this
  rw [PyProof.Rows.signs_ofString] at this
  rw [this]
  rfl
theorem str_ext {x y : Str} (h : x.cps.toList = y.cps.toList) : x = y := by
  cases x; cases y
  simp only [Str.mk.injEq]
  exact Array.toList_inj.mp h
theorem numT_cases (n : Int) : (∃ m : Nat, n = m ∧ (numT n).cps.toList = dgs m) ∨ ∃ m : Nat, 0 < m ∧ n = -(m : Int) ∧ (numT n).cps.toList = 45 :: dgs m := by
  by_cases h : 0 ≤ n
  · obtain ⟨m, rfl⟩ := Int.eq_ofNat_of_zero_le h
    exact .inl ⟨m, rfl, numT_nat m⟩
  · exact .inr ⟨n.natAbs, by omega, by omega, by have := numT_neg n.natAbs (by omega); rwa [show -(n.natAbs : Int) = n by omega] at this⟩
theorem numT_inj {a b : Int} (h : numT a = numT b) : a = b := by
  rcases numT_cases a with ⟨m, rfl, ea⟩ | ⟨m, m0, rfl, ea⟩ <;> rcases numT_cases b with ⟨k, rfl, eb⟩ | ⟨k, k0, rfl, eb⟩
  · rw [h] at ea; rw [ea] at eb
    have := congrArg NumText.digitsVal eb
    rw [dgs_val, dgs_val] at this; rw [this]
  · rw [h, eb] at ea
    have := dgs_all m 45 (by rw [← ea]; simp)
    omega
  · rw [h, eb] at ea
    have := dgs_all k 45 (by rw [ea]; simp)
    omega
  · rw [h, eb] at ea
    injection ea with _ ea
    have := congrArg NumText.digitsVal ea
    rw [dgs_val, dgs_val] at this; rw [this]
theorem numT_free {n : Int} {k : Nat} (hk : k ≠ 45 ∧ (k < 48 ∨ 57 < k)) : k ∉ (numT n).cps.toList := PyProof.Rows.int_text_free' k hk n
theorem numT_pos {n : Int} (h : 0 ≤ n) : (45 : Nat) ∉ (numT n).cps.toList := by
  obtain ⟨m, rfl⟩ := Int.eq_ofNat_of_zero_le h
  intro z
  rw [numT_nat] at z
  have := dgs_all m 45 z
  omega
/-- lists parted at a sign are alike in parts -/
theorem cut_uniq {c : Nat} : ∀ {a a' b b' : List Nat}, c ∉ a → c ∉ a' → a ++ c :: b = a' ++ c :: b' → a = a' ∧ b = b'
  | [], [], b, b', _, _, e => ⟨rfl, by simpa using e⟩
  | [], x :: a', b, b', _, h, e => by
    simp at e; exact absurd e.1 (fun z => h (by rw [z]; simp))
  | x :: a, [], b, b', h, _, e => by
    simp at e; exact absurd e.1.symm (fun z => h (by rw [z]; simp))
  | x :: a, y :: a', b, b', h, h', e => by
    simp at e
    obtain ⟨e1, e2⟩ := e
    obtain ⟨r1, r2⟩ := cut_uniq (fun z => h (List.mem_cons_of_mem _ z)) (fun z => h' (List.mem_cons_of_mem _ z)) e2
    exact ⟨by rw [e1, r1], r2⟩
/-- a fraction as it is written -/
def frT (r : Rat) : Str := if r.den = 1 then numT r.num else Str.empty ++ numT r.num ++ "/" ++ numT r.den
theorem tl_app (x y : Str) : (x ++ y).cps.toList = x.cps.toList ++ y.cps.toList := PyProof.Rows.cps_toList_append x y
theorem tl_emp : Str.empty.cps.toList = [] := rfl
theorem tl_sl : (Str.ofString "/").cps.toList = [47] := rfl
theorem tl_st : (Str.ofString "-").cps.toList = [45] := rfl
theorem frT_list {r : Rat} (h : ¬ r.den = 1) : (frT r).cps.toList = (numT r.num).cps.toList ++ 47 :: (numT r.den).cps.toList := by
  unfold frT
  rw [if_neg h, tl_app, tl_app, tl_app, tl_emp, tl_sl]; simp
theorem frT_one {r : Rat} (h : r.den = 1) : frT r = numT r.num := if_pos h
theorem frT_inj {r s : Rat} (h : frT r = frT s) : r = s := by
  have ext : ∀ {r s : Rat}, r.num = s.num → r.den = s.den → r = s := fun a b => Rat.ext a b
  by_cases hr : r.den = 1 <;> by_cases hs : s.den = 1
  · rw [frT_one hr, frT_one hs] at h
    exact ext (numT_inj h) (by omega)
  · have e := congrArg (fun z : Str => z.cps.toList) h
    simp only [frT_one hr, frT_list hs] at e
    exact absurd (show 47 ∈ (numT r.num).cps.toList by rw [e]; simp) (numT_free ⟨by decide, by decide⟩)
  · have e := congrArg (fun z : Str => z.cps.toList) h
    simp only [frT_one hs, frT_list hr] at e
    exact absurd (show 47 ∈ (numT s.num).cps.toList by rw [← e]; simp) (numT_free ⟨by decide, by decide⟩)
  · have e := congrArg (fun z : Str => z.cps.toList) h
    simp only [frT_list hs, frT_list hr] at e
    obtain ⟨e1, e2⟩ := cut_uniq (numT_free ⟨by decide, by decide⟩) (numT_free ⟨by decide, by decide⟩) e
    have h1 := numT_inj (str_ext e1)
    have h2 := numT_inj (str_ext e2)
    exact ext h1 (by exact_mod_cast h2)
theorem frT_free {r : Rat} {k : Nat} (hk : k ≠ 45 ∧ k ≠ 47 ∧ (k < 48 ∨ 57 < k)) : k ∉ (frT r).cps.toList := by
  by_cases h : r.den = 1
  · rw [frT_one h]; exact numT_free ⟨hk.1, hk.2.2⟩
  · rw [frT_list h]
    intro z
    rcases List.mem_append.1 z with z | z
    · exact numT_free ⟨hk.1, hk.2.2⟩ z
    · rcases List.mem_cons.mp z with z | z
      · exact hk.2.1 z
      · exact numT_free ⟨hk.1, hk.2.2⟩ z
theorem frT_pos {r : Rat} (h0 : 0 ≤ r) : (45 : Nat) ∉ (frT r).cps.toList := by
  have hn := Rat.num_nonneg.mpr h0
  by_cases h : r.den = 1
  · rw [frT_one h]; exact numT_pos hn
  · rw [frT_list h]
    intro z
    rcases List.mem_append.1 z with z | z
    · exact numT_pos hn z
    · rcases List.mem_cons.mp z with z | z
      · omega
      · exact numT_pos (by omega) z
/-- a span as it is written -/
def spT (p : Rat × Rat) : Str := Str.empty ++ frT p.1 ++ "-" ++ frT p.2
theorem spT_list (p : Rat × Rat) : (spT p).cps.toList = (frT p.1).cps.toList ++ 45 :: (frT p.2).cps.toList := by
  unfold spT
  rw [tl_app, tl_app, tl_app, tl_emp, tl_st]; simp
theorem spT_inj {p q : Rat × Rat} (hp : 0 ≤ p.1) (hq : 0 ≤ q.1) (h : spT p = spT q) : p = q := by
  have e := congrArg (fun z : Str => z.cps.toList) h
  simp only [spT_list] at e
  obtain ⟨e1, e2⟩ := cut_uniq (frT_pos hp) (frT_pos hq) e
  exact Prod.ext (frT_inj (str_ext e1)) (frT_inj (str_ext e2))
theorem spT_free {p : Rat × Rat} : (32 : Nat) ∉ (spT p).cps.toList := by
  rw [spT_list]
  intro z
  rcases List.mem_append.1 z with z | z
  · exact frT_free ⟨by decide, by decide, by decide⟩ z
  · rcases List.mem_cons.mp z with z | z
    · exact absurd z (by decide)
    · exact frT_free ⟨by decide, by decide, by decide⟩ z
/-- spans as they are written -/
def shT (S : List (Rat × Rat)) : Str := if S = [] then "none" else Txt.join " " (S.map spT)
theorem shT_split {S : List (Rat × Rat)} (h : S ≠ []) : Txt.split (Txt.join " " (S.map spT)) " " = S.map spT := by
  refine TL.split_join (y := " ") (s := 32) (S := []) rfl (by decide +kernel) (fun z => h (List.map_eq_nil_iff.mp z)) fun p hp => ?_
  obtain ⟨q, _, rfl⟩ := List.mem_map.1 hp
  exact spT_free
theorem none_ne {S : List (Rat × Rat)} (h : S ≠ []) : (Str.ofString "none") ≠ Txt.join " " (S.map spT) := by
  intro e
  have e1 : Txt.split (Str.ofString "none") " " = [Str.ofString "none"] := by decide +kernel
  rw [e, shT_split h] at e1
  cases S with
  | nil => exact h rfl
  | cons p S =>
    simp only [List.map_cons, List.cons.injEq, List.map_eq_nil_iff] at e1
    have e2 : (spT p).cps.toList = (Txt.join " " (List.map spT (p :: S))).cps.toList := by rw [e1.1]; rfl
    rw [← e, spT_list] at e2
    have : (45 : Nat) ∈ (Str.ofString "none").cps.toList := by rw [← e2]; simp
    exact absurd this (by decide)
end K

namespace K
open PySem L2
section
variable {h : AH} {Q : UQ} {E : XQ} {r s : Rat} {j k : Nat} {u v : U}
/-- what the law's second half knows -/
structure K12 (h : AH) (G at' : Int) (J : Prs) (rs : Rows) (mJ mR sh : Nat) : Prop where
  hJ : lstAt h mJ = some (J.map prI)
  hR : lstAt h mR = some (rowsU rs)
  S : IsShr h sh (J.map (scQ G))
  g0 : 0 < G
  gb : G.natAbs < 2 ^ 131
  P : Gp G J
  n : Nf (J.map caQ)
  l : J.length ≤ 9
  gd : Good rs
  ab : at'.natAbs < 2 ^ 132
theorem K12.pre {h h' : AH} {G at' : Int} {J : Prs} {rs : Rows} {mJ mR sh : Nat} (X : K12 h G at' J rs mJ mR sh) (l : Pre h h') : K12 h' G at' J rs mJ mR sh := ⟨Pre.lst l X.hJ, Pre.lst l X.hR, X.S.pre l, X.g0, X.gb, X.P, X.n, X.l, X.gd, X.ab⟩
theorem K12.pl {h : AH} {G at' : Int} {J : Prs} {rs : Rows} {mJ mR sh : Nat} (X : K12 h G at' J rs mJ mR sh) : PlS 132 (J.map (scQ G)) := fun p hp => by
  obtain ⟨a, b, c⟩ := X.P.pl X.g0 X.gb p hp
  exact ⟨⟨a.b.mono (by decide), a.lo, a.hi⟩, ⟨b.b.mono (by decide), b.lo, b.hi⟩, c⟩
end
end K

namespace K
open PySem L2
section
variable {h : AH} {Q : UQ} {E : XQ} {r s : Rat} {j k : Nat} {u v : U}
end
end K

namespace K
open PySem L2
section
variable {h : AH} {Q : UQ} {E : XQ} {r s : Rat} {j k : Nat} {u v : U}
end
end K

namespace K
open PySem L2
theorem log_lt {n k : Nat} (h : n < 2 ^ k) (k0 : 0 < k) : n.log2 < k := by
  by_cases z : n = 0
  · subst z; rw [show Nat.log2 0 = 0 by decide]; exact k0
  · exact (Nat.log2_lt z).mpr h
theorem numT_len {a : Int} {k : Nat} (h : a.natAbs < 2 ^ k) (k0 : 0 < k) : (numT a).length ≤ k + 1 := by
  delta numT
  refine Nat.le_trans (Nat.le_of_eq (PyProof.Rows.ofString_len _)) ?_
  exact int_text_length_le k0 (log_lt h k0)
theorem len_app (x y : Str) : (x ++ y).length = x.length + y.length := strLen_append x y
theorem frT_len {r : Rat} {k : Nat} (hr : Bt k r) (k0 : 0 < k) : (frT r).length ≤ 2 * k + 3 := by
  have h1 := numT_len hr.n k0
  have h2 := numT_len (dn hr) k0
  unfold frT
  split
  · omega
  · rw [len_app, len_app, len_app]
    have e0 : Str.empty.length = 0 := rfl
    have e1 : (Str.ofString "/").length = 1 := rfl
    omega
theorem spT_len {p : Rat × Rat} {k : Nat} (h1 : Bt k p.1) (h2 : Bt k p.2) (k0 : 0 < k) : (spT p).length ≤ 4 * k + 7 := by
  have a := frT_len h1 k0
  have b := frT_len h2 k0
  unfold spT
  rw [len_app, len_app, len_app]
  have e0 : Str.empty.length = 0 := rfl
  have e1 : (Str.ofString "-").length = 1 := rfl
  omega
theorem sum_le {α : Type} {f : α → Nat} {L : Nat} : ∀ {l : List α}, (∀ x ∈ l, f x ≤ L) → (l.map f).sum ≤ l.length * L
  | [], _ => by simp
  | a :: l, h => by
    have h1 := h a (by simp)
    have h2 := sum_le (l := l) fun x hx => h x (by simp [hx])
    rw [List.map_cons, List.sum_cons, List.length_cons, Nat.succ_mul]; omega
theorem sizeBig {n : Nat} (h : n ≤ 16000000) : n ≤ sizeLine := Nat.le_trans h (by decide)
def spF : U → Option U
  | .tup [a, b] => some (.str (spT (ratOf a, ratOf b)))
  | _ => none
theorem spF_pr (p : Rat × Rat) : spF (prU p) = some (.str (spT p)) := by
  show some (U.str (spT (ratOf (qU p.1), ratOf (qU p.2)))) = _
  rw [ratOf_q, ratOf_q]
section
variable {h : AH} {Q : UQ} {E : XQ} {r s : Rat} {j k : Nat} {u v : U}
theorem fsInt {n : Int} (hn : n.natAbs.log2 < 1920) {K : Str → Prop} (q : K (numT n)) : Opt (fsOf (.int n)) K := Opt.mk (if_pos hn) q
theorem fsStr {x : Str} (hx : x.length ≤ sizeLine) {K : Str → Prop} (q : K x) : Opt (fsOf (.str x)) K := Opt.mk (if_pos hx) q
theorem t_ftext (hr : Bt k r) (k0 : 0 < k) (hk : k ≤ 1900) (q : Q (.str (frT r)) h) : w_fraction_text [qU r] h Q E := by
  have l1 : r.num.natAbs.log2 < 1920 := Nat.lt_of_lt_of_le (log_lt hr.n k0) (by omega)
  have l2 : (r.den : Int).natAbs.log2 < 1920 := Nat.lt_of_lt_of_le (log_lt (dn hr) k0) (by omega)
  have n1 := numT_len hr.n k0
  have n2 := numT_len (dn hr) k0
  have e0 : Str.empty.length = 0 := rfl
  have e1 : (Str.ofString "/").length = 1 := rfl
  refine ⟨rfl, Opt.mk rfl ?_⟩
  refine Br.dec (fun c => ?_) (fun c => ?_)
  · have c : r.den = 1 := by exact_mod_cast c
    rw [frT_one c] at q
    exact ⟨l1, q⟩
  · have c : ¬ r.den = 1 := fun z => c (by show (r.den : Int) = 1; rw [z]; rfl)
    have q' : Q (.str (Str.empty ++ numT r.num ++ "/" ++ numT r.den)) h := by unfold frT at q; rw [if_neg c] at q; exact q
    refine fsInt l1 ⟨?_, ⟨?_, ?_⟩⟩
    · exact sizeBig (by rw [len_app]; omega)
    · exact sizeBig (by rw [len_app, len_app]; omega)
    refine fsInt l2 ⟨?_, ⟨?_, q'⟩⟩
    · exact sizeBig (by rw [len_app, len_app, len_app]; omega)
    · exact sizeBig (by rw [len_app, len_app, len_app]; omega)
theorem t_sstr {t : Nat} {S : Sps} (T : IsShr h t S) (hb : BtS k S) (k0 : 0 < k) (hk : k ≤ 1900) (hz : S.length ≤ 300) (q : ∀ h', Pre h h' → Q (.str (shT S)) h') : w_Share_str [.obj t] h Q E := by
  obtain ⟨m, h1, h2⟩ := T.ex
  refine ⟨rfl, Opt.mk h1 ⟨List.mem_singleton.mpr rfl, Opt.mk rfl ⟨by show 0 ≤ sizeLine; decide, ?_⟩⟩⟩
  have l1 : Pre h (h ++ [AO.lst []]) := .app
  have c1 := Pre.ins l1 h1
  have d1 := Pre.lst l1 h2
  have n1 : lstAt (h ++ [AO.lst []]) h.length = some [] := new_lst
  refine eqL (S := S) (T := ([] : Sps)) d1 n1 ?_
  have q' := fun h' l => q h' (l1.trans l)
  clear q
  generalize h ++ [AO.lst []] = H at *
  refine Br.dec (fun c => ?_) (fun c => ?_)
  · have := q' H .refl
    unfold shT at this
    rw [if_pos c] at this
    exact this
  · unfold shT at q'
    rw [if_neg c] at q'
    refine ⟨trivial, Opt.mk c1 ⟨List.mem_singleton.mpr rfl, Opt.mk rfl ?_⟩⟩
    refine Opt.walk d1 (lcP (xs := S.map prU) spF (small (by rw [List.length_map]; omega)) (fun h' l => Pre.lst l d1) ?_ ?_)
    · intro x hx h' Kt l qk
      obtain ⟨p, hp, rfl⟩ := List.mem_map.1 hx
      rw [spF_pr] at qk
      obtain ⟨b1, b2⟩ := hb p hp
      have e0 : Str.empty.length = 0 := rfl
      have e1 : (Str.ofString "-").length = 1 := rfl
      have a1 := frT_len b1 k0
      have a2 := frT_len b2 k0
      refine Opt.mk rfl (t_ftext b1 k0 hk (fsStr (sizeBig (by omega)) ⟨sizeBig (by rw [len_app]; omega), ⟨sizeBig (by rw [len_app, len_app]; omega), ?_⟩⟩))
      exact t_ftext b2 k0 hk (fsStr (sizeBig (by omega)) ⟨sizeBig (by rw [len_app, len_app, len_app]; omega), ⟨sizeBig (by rw [len_app, len_app, len_app]; omega), qk⟩⟩)
    have em : (S.map prU).filterMap spF = (S.map spT).map U.str := by rw [fm_map spF_pr, List.map_map]; rfl
    rw [em]
    refine Opt.items new_lst (Opt.mk (strsOf_map _) ⟨?_, q' _ .app⟩)
    have hs : ((S.map spT).map (·.length)).sum ≤ (S.map spT).length * (4 * k + 7) := sum_le fun x hx => by
      obtain ⟨p, hp, rfl⟩ := List.mem_map.1 hx
      exact spT_len (hb p hp).1 (hb p hp).2 k0
    have e1 : (Str.ofString " ").length = 1 := rfl
    rw [List.length_map] at hs ⊢
    rw [e1, Nat.mul_one]
    have : S.length * (4 * k + 7) ≤ 300 * 7607 := Nat.mul_le_mul hz (by omega)
    omega
theorem t_seq {t t' : Nat} {S S' : Sps} (T : IsShr h t S) (T' : IsShr h t' S') (q : ∀ b, b = decide (S = S') → Q (.bl b) h) : w_Share_eq [.obj t, .obj t'] h Q E := by
  obtain ⟨m, h1, h2⟩ := T.ex
  obtain ⟨m', h1', h2'⟩ := T'.ex
  have tg : tyTag h (.obj t') = some (.ins "Share") := by simp only [tyTag, insAt_of h1']
  refine ⟨rfl, isiN tg rfl fun b1 e1 => brT' e1 ?_⟩
  refine Opt.mk h1 ⟨List.mem_singleton.mpr rfl, Opt.mk rfl (Opt.mk h1' ⟨List.mem_singleton.mpr rfl, Opt.mk rfl ?_⟩)⟩
  exact eqL (S := S) (T := S') h2 h2' (q _ rfl)
/-- == and != of shares -/
theorem eqSh {t t' : Nat} {S S' : Sps} (T : IsShr h t S) (T' : IsShr h t' S') (q : ∀ b, b = decide (S = S') → Q (.bl b) h) : uEqK [("Share", w_Share_eq)] (.obj t) (.obj t') h Q := by
  obtain ⟨m, h1, h2⟩ := T.ex
  obtain ⟨m', h1', h2'⟩ := T'.ex
  exact Opt.mk h1 ⟨.inl ⟨_, h1', rfl⟩, Opt.mk rfl (t_seq T T' q)⟩
theorem neSh {t t' : Nat} {S S' : Sps} (T : IsShr h t S) (T' : IsShr h t' S') (q : ∀ b, b = decide (S ≠ S') → Q (.bl b) h) : uNeK [("Share", w_Share_eq)] (.obj t) (.obj t') h Q := by
  obtain ⟨m, h1, h2⟩ := T.ex
  obtain ⟨m', h1', h2'⟩ := T'.ex
  exact Opt.mk h1 ⟨.inl ⟨_, h1', rfl⟩, Opt.mk rfl (t_seq T T' fun b e => q _ (by rw [e, nB_dec]))⟩
end
end K

namespace K
open PySem L2
/-- the crumbs of pairs that are not empty -/
def Cov (ps : Prs) (y : Rat) : Prop := ∃ p ∈ ps, p.1 < p.2 ∧ (p.1 : Rat) ≤ y ∧ y ≤ (p.2 : Rat)
theorem cov_ins {J : Prs} (n : Nf (J.map caQ)) (y : Rat) : InS (J.map caQ) y ↔ Cov J y := by
  unfold InS Cov
  constructor
  · rintro ⟨p, hp, r⟩
    obtain ⟨q, hq, rfl⟩ := List.mem_map.1 hp
    have lt := n.ne _ (List.mem_map_of_mem hq)
    exact ⟨q, hq, by dsimp only [caQ] at lt; exact_mod_cast lt, r⟩
  · rintro ⟨p, hp, _, r⟩
    exact ⟨caQ p, List.mem_map_of_mem hp, r⟩
theorem Gp.app {g : Int} {ps qs : Prs} (a : Gp g ps) (b : Gp g qs) : Gp g (ps ++ qs) := ⟨fun p hp => by
  rcases List.mem_append.1 hp with z | z
  · exact a.v p z
  · exact b.v p z⟩
theorem Gp.one {g : Int} {a c : Int} (h0 : 0 ≤ a) (h1 : a ≤ c) (h2 : c ≤ g) : Gp g [(a, c)] := ⟨fun p hp => by rw [List.mem_singleton] at hp; subst hp; exact ⟨h0, h1, h2⟩⟩
section
variable {h : AH} {Q : UQ} {E : XQ} {r s : Rat} {j k : Nat} {u v : U}
end
end K

namespace K
open PySem L2
/-! ### figures -/
theorem dgs_one : ∀ d < 10, dgs d = [48 + d] := by decide
theorem dgs_step {n d : Nat} (hn : 0 < n) (hd : d < 10) : dgs (10 * n + d) = dgs n ++ [48 + d] := by
  show (Nat.toDigits 10 (10 * n + d)).map Char.toNat = _
  rw [← Nat.toDigits_append_toDigits (by decide) hn hd, List.map_append]
  show dgs n ++ dgs d = _
  rw [dgs_one d hd]
theorem dgs_head : ∀ (n : Nat) {m : Nat}, m < n → 0 < m → (dgs m).head? ≠ some 48
  | 0, m, h, _ => by omega
  | n + 1, m, h, m0 => by
    by_cases s : m < 10
    · rw [dgs_one m s]
      intro e
      injection e with e
      omega
    · have e : m = 10 * (m / 10) + m % 10 := by omega
      have ih := dgs_head n (m := m / 10) (by omega) (by omega)
      rw [e, dgs_step (by omega) (by omega)]
      have := dgs_ne (m / 10)
      generalize dgs (m / 10) = l at *
      cases l with
      | nil => exact absurd rfl this
      | cons a l => exact ih
theorem val_app (l : List Nat) (c : Nat) : NumText.digitsVal (l ++ [c]) = NumText.digitsVal l * 10 + (c - 48) := by
  unfold NumText.digitsVal
  rw [List.foldl_append]; rfl
theorem fig_dgs : ∀ (n : Nat) (l : List Nat), l.length = n → l ≠ [] → ¬ (1 < l.length ∧ l.head? = some 48) → NumText.AllDigits l → l = dgs (NumText.digitsVal l)
  | n, l, hn, ne, h0, hd => by
    rcases List.eq_nil_or_concat l with e | ⟨L, c, e⟩
    · exact absurd e ne
    rw [List.concat_eq_append] at e
    subst e
    have hc := hd c (by simp)
    by_cases z : L = []
    · subst z
      rw [val_app]
      show [c] = dgs (0 * 10 + (c - 48))
      rw [Nat.zero_mul, Nat.zero_add, dgs_one _ (by omega)]
      congr 1; omega
    · have l0 : 0 < L.length := List.length_pos_iff.mpr z
      have hh : (L ++ [c]).head? = L.head? := by
        cases L with
        | nil => exact absurd rfl z
        | cons a L => rfl
      have hl : (L ++ [c]).length = L.length + 1 := by simp
      have h1 : L.head? ≠ some 48 := fun w => h0 ⟨by omega, by rw [hh]; exact w⟩
      have ih := fig_dgs L.length L rfl z (fun w => h1 w.2) fun x hx => hd x (by simp [hx])
      have vp : 0 < NumText.digitsVal L := by
        rcases Nat.eq_zero_or_pos (NumText.digitsVal L) with w | w
        · rw [w] at ih
          rw [ih] at h1
          exact absurd (by decide : (dgs 0).head? = some 48) h1
        · exact w
      rw [val_app, Nat.mul_comm, dgs_step vp (by omega), ← ih]
      congr 2; omega
termination_by n => n
decreasing_by all_goals (simp_wf; subst hn; simp)
/-- figures of a whole number of at most forty figures -/
def Fig (l : List Nat) : Prop := ∃ m : Nat, m < 10 ^ 40 ∧ l = dgs m
theorem dgs_len (m : Nat) : (dgs m).length ≤ 40 ↔ m < 10 ^ 40 := by
  rw [show (dgs m).length = (Nat.toDigits 10 m).length from List.length_map ..]
  exact Nat.length_toDigits_le_iff (by decide) (by decide)
theorem fig_iff {l : List Nat} : Fig l ↔ (1 ≤ l.length ∧ l.length ≤ 40) ∧ ¬ (1 < l.length ∧ l.head? = some 48) ∧ NumText.AllDigits l := by
  constructor
  · rintro ⟨m, hm, rfl⟩
    refine ⟨⟨List.length_pos_iff.mpr (dgs_ne m), (dgs_len m).mpr hm⟩, ?_, dgs_all m⟩
    rintro ⟨h1, h2⟩
    by_cases z : m = 0
    · subst z; exact absurd h1 (by decide)
    · exact dgs_head (m + 1) (by omega) (by omega) h2
  · rintro ⟨⟨h1, h2⟩, h3, h4⟩
    have e := fig_dgs _ l rfl (List.length_pos_iff.mp h1) h3 h4
    exact ⟨NumText.digitsVal l, (dgs_len _).mp (by rw [← e]; exact h2), e⟩
/-! ### texts by their signs -/
def mkS (l : List Nat) : Str := ⟨l.toArray⟩
theorem tl_mkS (l : List Nat) : (mkS l).cps.toList = l := rfl
theorem mkS_tl (x : Str) : mkS x.cps.toList = x := str_ext rfl
theorem mkS_len (l : List Nat) : (mkS l).length = l.length := by show (l.toArray).size = _; simp
theorem mkS_int {l : List Nat} (m : Nat) (h : l = dgs m) (hl : l.length ≤ 40) : PySem.intText? (mkS l) = some (m : Int) := by
  have := PySem.intText_digits (x := mkS l) (by rw [tl_mkS, h]; exact dgs_all m) (by rw [tl_mkS, h]; exact dgs_ne m) (by rw [mkS_len]; omega)
  rw [this, tl_mkS, h, dgs_val]
theorem mkS_inj {l m : List Nat} (h : mkS l = mkS m) : l = m := by rw [← tl_mkS l, h]; rfl
theorem part_none {l : List Nat} (h : (47 : Nat) ∉ l) : Txt.partition (mkS l) "/" = (mkS l, Str.empty, Str.empty) := TL.partition_none (y := "/") (s := 47) (S := []) rfl h
theorem mk_cut (p q : List Nat) : mkS (p ++ 47 :: q) = mkS p ++ "/" ++ mkS q := str_ext (by rw [tl_app, tl_app, tl_mkS, tl_mkS, tl_mkS, tl_sl]; simp)
theorem part_app {p q : List Nat} (h : (47 : Nat) ∉ p) : Txt.partition (mkS (p ++ 47 :: q)) "/" = (mkS p, Str.ofString "/", mkS q) := by
  rw [mk_cut]; exact TL.partition_app (y := "/") (s := 47) (S := []) rfl h
theorem rem_neg (l : List Nat) : Txt.removeprefix (mkS (45 :: l)) "-" = mkS l := by
  rw [PySem.StrLaws.removeprefix_eq, PySem.StrLaws.subAt_eq]
  have e1 : (Str.ofString "-").length = 1 := rfl
  have e2 : (Str.ofString "-").cps.toList = [45] := rfl
  rw [e1, e2, tl_mkS, mkS_len, if_pos (by simp)]
  refine str_ext ?_
  show ((45 :: l).drop 1).take ((45 :: l).length - 1) = l
  simp
theorem rem_pos {l : List Nat} (h : l.head? ≠ some 45) : Txt.removeprefix (mkS l) "-" = mkS l := by
  rw [PySem.StrLaws.removeprefix_eq, PySem.StrLaws.subAt_eq]
  have e1 : (Str.ofString "-").length = 1 := rfl
  have e2 : (Str.ofString "-").cps.toList = [45] := rfl
  rw [e1, e2, tl_mkS, mkS_len, if_neg]
  cases l with
  | nil => simp
  | cons a l =>
    have : a ≠ 45 := fun z => h (by rw [z]; rfl)
    simp [this]
/-! ### what a text writes -/
def Rd (l : List Nat) (r : Rat) : Prop := (frT r).cps.toList = l ∧ r.num.natAbs < 10 ^ 40 ∧ r.den < 10 ^ 40
theorem Rd.uniq {l : List Nat} {r s : Rat} (a : Rd l r) (b : Rd l s) : r = s := frT_inj (str_ext (a.1.trans b.1.symm))
/-- the text of a fraction by its parts -/
theorem frT_lst (r : Rat) : (frT r).cps.toList = (if r.num < 0 then [45] else []) ++ (dgs r.num.natAbs ++ if r.den = 1 then [] else 47 :: dgs r.den) := by
  have en : (numT r.num).cps.toList = (if r.num < 0 then [45] else []) ++ dgs r.num.natAbs := by
    rcases numT_cases r.num with ⟨m, e, q⟩ | ⟨m, m0, e, q⟩
    · rw [q, if_neg (by omega), e]; rfl
    · rw [q, if_pos (by omega), e, Int.natAbs_neg]; rfl
  by_cases h : r.den = 1
  · rw [frT_one h, if_pos h, List.append_nil, en]
  · rw [frT_list h, if_neg h, en, numT_nat, List.append_assoc]
theorem free_dgs {m k : Nat} (hk : k < 48 ∨ 57 < k) : k ∉ dgs m := fun h => by have := dgs_all m k h; omega
theorem hd_dgs (m : Nat) (l : List Nat) : (dgs m ++ l).head? ≠ some 45 := by
  have h := dgs_ne m
  have h2 := dgs_all m
  generalize dgs m = L at *
  cases L with
  | nil => exact absurd rfl h
  | cons a L =>
    intro e
    injection e with e
    have := h2 a (by simp)
    omega
theorem dgs_inj {a b : Nat} (h : dgs a = dgs b) : a = b := by rw [← dgs_val a, h, dgs_val]
end K

namespace K
open PySem L2
abbrev sg (n : Bool) : List Nat := if n = true then [45] else []
theorem neg_split (l : List Nat) : ∃ (n : Bool) (w : List Nat), l = sg n ++ w ∧ Txt.removeprefix (mkS l) "-" = mkS w ∧ (n = false → w.head? ≠ some 45) := by
  by_cases h : l.head? = some 45
  · cases l with
    | nil => cases h
    | cons a l =>
      injection h with h
      subst h
      exact ⟨true, l, rfl, rem_neg l, fun z => by cases z⟩
  · exact ⟨false, l, rfl, rem_pos h, fun _ => h⟩
theorem stroke_split (w : List Nat) : (47 : Nat) ∉ w ∨ ∃ p q, w = p ++ 47 :: q ∧ (47 : Nat) ∉ p := by
  by_cases h : (47 : Nat) ∈ w
  · obtain ⟨p, q, e, hp⟩ := List.eq_append_cons_of_mem h
    exact .inr ⟨p, q, e, hp⟩
  · exact .inl h
theorem shape {n : Bool} {w : List Nat} {r : Rat} (hw : n = false → w.head? ≠ some 45) (e : (frT r).cps.toList = sg n ++ w) : (r.num < 0 ↔ n = true) ∧ w = dgs r.num.natAbs ++ if r.den = 1 then [] else 47 :: dgs r.den := by
  rw [frT_lst] at e
  by_cases hn : r.num < 0
  · rw [if_pos hn] at e
    cases n with
    | true =>
      have e : 45 :: (dgs r.num.natAbs ++ if r.den = 1 then [] else 47 :: dgs r.den) = 45 :: w := e
      injection e with _ e
      exact ⟨⟨fun _ => rfl, fun _ => hn⟩, e.symm⟩
    | false =>
      have e : 45 :: (dgs r.num.natAbs ++ if r.den = 1 then [] else 47 :: dgs r.den) = w := e
      exact absurd (by rw [← e]; rfl) (hw rfl)
  · rw [if_neg hn] at e
    cases n with
    | true =>
      have e : (dgs r.num.natAbs ++ if r.den = 1 then [] else 47 :: dgs r.den) = 45 :: w := e
      exact absurd (by rw [e]; rfl) (hd_dgs r.num.natAbs (if r.den = 1 then [] else 47 :: dgs r.den))
    | false =>
      have e : (dgs r.num.natAbs ++ if r.den = 1 then [] else 47 :: dgs r.den) = w := e
      exact ⟨⟨fun z => absurd z hn, fun z => by cases z⟩, e.symm⟩
theorem no47 (m : Nat) : (47 : Nat) ∉ dgs m := free_dgs (by omega)
/-- what the parts say of the fraction -/
theorem shapeA {n : Bool} {w : List Nat} {r : Rat} (hw : n = false → w.head? ≠ some 45) (h : (47 : Nat) ∉ w) (e : (frT r).cps.toList = sg n ++ w) : (r.num < 0 ↔ n = true) ∧ w = dgs r.num.natAbs ∧ r.den = 1 := by
  obtain ⟨h1, h2⟩ := shape hw e
  by_cases hd : r.den = 1
  · rw [if_pos hd, List.append_nil] at h2
    exact ⟨h1, h2, hd⟩
  · rw [if_neg hd] at h2
    exact absurd (by rw [h2]; simp) h
theorem shapeB {n : Bool} {p q : List Nat} {r : Rat} (hw : n = false → (p ++ 47 :: q).head? ≠ some 45) (h : (47 : Nat) ∉ p) (e : (frT r).cps.toList = sg n ++ (p ++ 47 :: q)) : (r.num < 0 ↔ n = true) ∧ p = dgs r.num.natAbs ∧ q = dgs r.den ∧ r.den ≠ 1 := by
  obtain ⟨h1, h2⟩ := shape hw e
  by_cases hd : r.den = 1
  · rw [if_pos hd, List.append_nil] at h2
    exact absurd (show (47 : Nat) ∈ dgs r.num.natAbs by rw [← h2]; simp) (no47 _)
  · rw [if_neg hd] at h2
    obtain ⟨e1, e2⟩ := cut_uniq h (no47 _) h2
    exact ⟨h1, e1, e2, hd⟩
abbrev sgI (n : Bool) (a : Nat) : Int := if n = true then -(a : Int) else a
theorem num_of {n : Bool} {r : Rat} {a : Nat} (h : r.num < 0 ↔ n = true) (e : dgs a = dgs r.num.natAbs) : r.num = sgI n a := by
  have e := dgs_inj e
  unfold sgI
  cases n with
  | true => have := h.mpr rfl; rw [if_pos rfl]; omega
  | false =>
    have : ¬ r.num < 0 := fun z => by have := h.mp z; cases this
    rw [if_neg (by decide)]; omega
theorem rat_of {r : Rat} {a : Int} {b : Nat} (h1 : r.num = a) (h2 : r.den = b) : r = Rat.divInt a (b : Int) := by rw [← h1, ← h2]; exact (num_den r).symm
/-- the code's way: the fraction of the parts, written again -/
theorem rdA {n : Bool} {w : List Nat} {m : Nat} (hw : n = false → w.head? ≠ some 45) (h : (47 : Nat) ∉ w) (em : w = dgs m) (hm : m < 10 ^ 40) : (frT (Rat.divInt (sgI n m) 1) = mkS (sg n ++ w) → Rd (sg n ++ w) (Rat.divInt (sgI n m) 1)) ∧ (frT (Rat.divInt (sgI n m) 1) ≠ mkS (sg n ++ w) → ∀ r, ¬ Rd (sg n ++ w) r) := by
  refine ⟨fun e => ?_, fun e r R => e ?_⟩
  · have e := congrArg (fun z : Str => z.cps.toList) e
    obtain ⟨h1, h2, h3⟩ := shapeA hw h e
    rw [em] at h2
    exact ⟨e, by rw [← dgs_inj h2]; exact hm, by rw [h3]; decide⟩
  · obtain ⟨h1, h2, h3⟩ := shapeA hw h R.1
    rw [em] at h2
    have := rat_of (num_of h1 h2) h3
    rw [show ((1 : Nat) : Int) = 1 from rfl] at this
    rw [← this]
    exact str_ext R.1
theorem rdB {n : Bool} {p q : List Nat} {a b : Nat} (hw : n = false → (p ++ 47 :: q).head? ≠ some 45) (h : (47 : Nat) ∉ p) (ea : p = dgs a) (eb : q = dgs b) (ha : a < 10 ^ 40) (hb : b < 10 ^ 40) : (frT (Rat.divInt (sgI n a) b) = mkS (sg n ++ (p ++ 47 :: q)) → Rd (sg n ++ (p ++ 47 :: q)) (Rat.divInt (sgI n a) b)) ∧ (frT (Rat.divInt (sgI n a) b) ≠ mkS (sg n ++ (p ++ 47 :: q)) → ∀ r, ¬ Rd (sg n ++ (p ++ 47 :: q)) r) := by
  refine ⟨fun e => ?_, fun e r R => e ?_⟩
  · have e := congrArg (fun z : Str => z.cps.toList) e
    obtain ⟨h1, h2, h3, h4⟩ := shapeB hw h e
    rw [ea] at h2; rw [eb] at h3
    exact ⟨e, by rw [← dgs_inj h2]; exact ha, by rw [← dgs_inj h3]; exact hb⟩
  · obtain ⟨h1, h2, h3, h4⟩ := shapeB hw h R.1
    rw [ea] at h2; rw [eb] at h3
    rw [← rat_of (num_of h1 h2) (dgs_inj h3).symm]
    exact str_ext R.1
/-! ### signs -/
theorem in_dig (c : Nat) : (!(Builtin.Str.occurrences (Str.ofString "0123456789") ⟨#[c]⟩ 0 (Str.ofString "0123456789").length 1).isEmpty) = decide (48 ≤ c ∧ c ≤ 57) := by
  rw [PySem.StrLaws.found_one]
  have e : (Str.ofString "0123456789").cps.toList = [48, 49, 50, 51, 52, 53, 54, 55, 56, 57] := by decide
  rw [e]
  refine decide_eq_decide.mpr ?_
  simp
  omega
abbrev oneS (c : Nat) : Str := ⟨#[c]⟩
theorem one_eq {c : Nat} {s : String} {d : Nat} (h : (Str.ofString s).cps.toList = [d]) : oneS c = Str.ofString s ↔ c = d := by
  constructor
  · intro e
    have := congrArg (fun z : Str => z.cps.toList) e
    simp only [h] at this
    exact (List.cons.inj this).1
  · intro e
    subst e
    exact str_ext h.symm
def digF : U → Option U
  | .str x => some (.bl (decide (∀ c ∈ x.cps.toList, 48 ≤ c ∧ c ≤ 57)))
  | _ => none
section
variable {h : AH} {Q : UQ} {E : XQ} {r s : Rat} {j k : Nat} {u v : U}
theorem rmS {x y z : Str} {K : UQ} (hl : x.length ≤ 1000000) (e : Txt.removeprefix x y = z) (q : K (.str z) h) : uRemP (.str x) [.str y] h K := ⟨sizeBig (by omega), by rw [e]; exact q⟩
theorem ptS {x y a b c : Str} {K : UQ} (hy : (y.length == 0) = false) (hl : x.length ≤ 1000000) (e : Txt.partition x y = (a, b, c)) (q : K (.tup [.str a, .str b, .str c]) h) : uPartition (.str x) [.str y] h K := ⟨hy, sizeBig (by omega), by rw [e]; exact q⟩
theorem spS {x y : Str} {L : List Str} {K : UQ} (hy : (y.length == 0) = false) (hl : x.length ≤ 1000000) (e : Txt.split x y = L) (q : K (.obj h.length) (h ++ [.lst (L.map U.str)])) : uSplit (.str x) [.str y] h K := ⟨hy, sizeBig (by omega), by rw [e]; exact q⟩
theorem t_allf {l : List Nat} {u : Option U} (hl : l.length ≤ 1000000) (q : ∀ b h', Pre h h' → (b = true ↔ NumText.AllDigits l) → Q (.bl b) h') :
    aBlt uAll (aCons (aLc (aWalk (aVar 0)) (gN 1) tYesU (aOp (uIn false) (aVar 1) (aC (.str "0123456789"))) [1]) aNil) [some (.str (mkS l)), u] h Q E := by
  have hs := sizeBig (n := l.length + 1) (by omega)
  refine Opt.mk (a := (l.map fun c => U.str (oneS c), fun _ => True)) rfl (lcP (xs := l.map fun c => U.str (oneS c)) digF (by rw [List.length_map]; exact hs) (fun _ _ => trivial) ?_ ?_)
  · intro x hx h' Kt lp qk
    obtain ⟨c, hc, rfl⟩ := List.mem_map.1 hx
    refine Opt.mk rfl (Opt.mk rfl ?_)
    have e : digF (.str (oneS c)) = some (.bl (!(Builtin.Str.occurrences (Str.ofString "0123456789") ⟨#[c]⟩ 0 (Str.ofString "0123456789").length 1).isEmpty)) := by
      rw [in_dig]
      show some (U.bl (decide (∀ d ∈ [c], 48 ≤ d ∧ d ≤ 57))) = _
      congr 2
      exact decide_eq_decide.mpr ⟨fun z => z c (by simp), fun z d hd => by rw [List.mem_singleton.mp hd]; exact z⟩
    rw [e] at qk
    exact qk
  · have em : (l.map fun c => U.str (oneS c)).filterMap digF = (l.map fun c => decide (48 ≤ c ∧ c ≤ 57)).map U.bl := by
      clear hl hs q
      induction l with
      | nil => rfl
      | cons c l ih =>
        rw [List.map_cons, List.map_cons, List.map_cons, ← ih]
        have e : digF (.str (oneS c)) = some (.bl (decide (48 ≤ c ∧ c ≤ 57))) := by
          show some (U.bl (decide (∀ d ∈ [c], 48 ≤ d ∧ d ≤ 57))) = _
          congr 2
          exact decide_eq_decide.mpr ⟨fun z => z c (by simp), fun z d hd => by rw [List.mem_singleton.mp hd]; exact z⟩
        exact List.filterMap_cons_some e
    rw [em]
    refine al (ns := l.map fun c => decide (48 ≤ c ∧ c ≤ 57)) new_lst (q _ _ .app ?_)
    rw [List.all_eq_true]
    constructor
    · intro z c hc
      exact of_decide_eq_true (z (decide (48 ≤ c ∧ c ≤ 57)) (List.mem_map.mpr ⟨c, hc, rfl⟩))
    · intro z b hb
      obtain ⟨c, hc, rfl⟩ := List.mem_map.1 hb
      exact decide_eq_true (z c hc)
end
end K

namespace K
open PySem L2
section
variable {h : AH} {Q : UQ} {E : XQ} {r s : Rat} {j k : Nat} {u v : U}
theorem lnS {x : Str} {n : Nat} {K : UQ} (hl : x.length = n) (hn : n ≤ 1000000) (q : K (.int (n : Int)) h) : uLen [.str x] h K := ⟨sizeBig (by omega), by rw [hl]; exact q⟩
/-- the first sign is like one that is known -/
theorem hdEq {l : List Nat} {s : String} {d : Nat} {K : UQ} {k2 : UQ} (hd : (Str.ofString s).cps.toList = [d]) (hl : l.length ≤ 1000000) (ne : l ≠ []) (q : ∀ b, (b = true ↔ l.head? = some d) → K (.bl b) h) : uIx (.str (mkS l)) (.int 0) h (fun u h1 => uEq u (.str (Str.ofString s)) h1 K) := by
  cases l with
  | nil => exact absurd rfl ne
  | cons c l =>
    refine ⟨sizeBig (by rw [mkS_len]; omega), Opt.mk (a := c) ?_ ?_⟩
    · show atI (c :: l) 0 = some c
      unfold atI ixN
      simp
    · refine eqS fun b e => q b ?_
      rw [e, decide_eq_true_eq]
      show oneS c = Str.ofString s ↔ _
      rw [one_eq hd]
      simp
theorem t_isn {l : List Nat} (hl : l.length ≤ 1000000) (q : ∀ b h', Pre h h' → (b = true ↔ Fig l) → Q (.bl b) h') : w_is_number [.str (mkS l)] h Q E := by
  have no : ¬ Fig l → Q (.bl false) h := fun n => q _ _ .refl ⟨fun z => (by cases z), fun z => absurd z n⟩
  rw [fig_iff] at no
  refine ⟨rfl, ?_⟩
  refine lnS (mkS_len l) hl ?_
  refine leI fun b1 e1 => brD e1 (fun p1 => ?_) (fun p1 => ?_)
  · refine leI fun b2 e2 => brND e2 (fun p2 => ?_) (fun p2 => ?_)
    · refine nxt ?_
      refine lnS (mkS_len l) hl ?_
      have fin : ¬ (1 < l.length ∧ l.head? = some 48) → aBlt uAll (aCons (aLc (aWalk (aVar 0)) (gN 1) tYesU (aOp (uIn false) (aVar 1) (aC (.str "0123456789"))) [1]) aNil) [some (.str (mkS l)), none] h Q E := fun n => by
        refine t_allf hl fun b h' p e => q b h' p ?_
        rw [e, fig_iff]
        exact ⟨fun z => ⟨⟨by omega, by omega⟩, n, z⟩, fun z => z.2.2⟩
      refine gtI fun b3 e3 => brD e3 (fun p3 => ?_) (fun p3 => ?_)
      · refine hdEq (s := "0") (d := 48) (k2 := Q) (by decide) hl (fun z => by rw [z] at p1; exact absurd p1 (by decide)) fun b4 e4 => ?_
        cases b4 with
        | true => exact no fun z => z.2.1 ⟨by omega, e4.mp rfl⟩
        | false => dsimp only [asB, nB, Br]; refine nxt ?_; exact fin fun z => by have := e4.mpr z.2; cases this
      · dsimp only [asB, nB, Br]; refine nxt ?_; exact fin fun z => by omega
    · exact no fun z => by omega
  · exact no fun z => by omega
end
end K

namespace K
open PySem L2
theorem big40 {m k : Nat} (h : m < 10 ^ 40) (e : k = 140 := by rfl) : m < 2 ^ k := by subst e; exact Nat.lt_trans h (by decide)
theorem sg_abs (n : Bool) (a : Nat) : (sgI n a).natAbs = a := by
  cases n with
  | true => show (-(a : Int)).natAbs = a; rw [Int.natAbs_neg]; rfl
  | false => rfl
theorem bt_sg {n : Bool} {a b : Nat} (ha : a < 10 ^ 40) (hb : b < 10 ^ 40) (b0 : b ≠ 0) : Bt 140 (Rat.divInt (sgI n a) (b : Int)) := by
  refine Bt.div (by omega) ?_ ?_
  · rw [sg_abs]; exact big40 ha
  · exact big40 hb
section
variable {h : AH} {Q : UQ} {E : XQ} {r s : Rat} {j k : Nat} {u v : U}
theorem intS {x : Str} {n : Int} {K : UQ} (hl : x.length ≤ 640) (e : PySem.intText? x = some n) (q : K (.int n) h) : uInt [.str x] h K := ⟨hl, Opt.mk e q⟩
theorem fig_len {l : List Nat} (h : Fig l) : l.length ≤ 40 := (fig_iff.mp h).1.2
/-- the tail of the reading: both parts are figures -/
def rdTail : WS := (sSeq (sSet 4 (aIfE (aB (aOp uEq (aOp uIx (aVar 0) (aC (.int 0))) (aC (.str "-")))) (aUn uNeg (aBlt uInt (aCons (aVar 1) aNil))) (aBlt uInt (aCons (aVar 1) aNil))))
    (sSeq (sSet 5 (aCall w_fraction_of [] (aCons (aVar 4) (aCons (aBlt uInt (aCons (aVar 3) aNil)) aNil))))
    (sSeq (sIf (aB (aOp uNe (aCall w_fraction_text [] (aCons (aVar 5) aNil)) (aVar 0))) (sRaise "NoText" (aCons (aC (.str "this is not how the fraction is written")) aNil)) sNext)
    (sRet (aVar 5)))))
theorem t_rdTail {nx bk ct : SK} {l p q : List Nat} {n : Bool} {w : List Nat} {a b : Nat} {st : Str} {ρ4 ρ5 : Option U} (hl : l.length ≤ 1000000) (el : l = sg n ++ w) (hw : n = false → w.head? ≠ some 45) (wne : w ≠ []) (ea : p = dgs a) (eb : q = dgs b) (ha : a < 10 ^ 40) (hb : b < 10 ^ 40) (b0 : b ≠ 0)
    (q1 : frT (Rat.divInt (sgI n a) b) = mkS l → Q (qU (Rat.divInt (sgI n a) b)) h) (q2 : frT (Rat.divInt (sgI n a) b) ≠ mkS l → E ⟨"NoText", []⟩ h) :
    rdTail nx Q bk ct (fun _ => E) [some (.str (mkS l)), some (.str (mkS p)), some (.str st), some (.str (mkS q)), ρ4, ρ5] h := by
  have lne : l ≠ [] := fun z => wne (List.append_eq_nil_iff.mp (el.symm.trans z)).2
  have ip := mkS_int a ea ((fig_iff.mp ⟨a, ha, ea⟩).1.2)
  have iq := mkS_int b eb ((fig_iff.mp ⟨b, hb, eb⟩).1.2)
  have lp : (mkS p).length ≤ 640 := by rw [mkS_len]; exact Nat.le_trans (fig_len ⟨a, ha, ea⟩) (by decide)
  have lq : (mkS q).length ≤ 640 := by rw [mkS_len]; exact Nat.le_trans (fig_len ⟨b, hb, eb⟩) (by decide)
  have hd45 : l.head? = some 45 ↔ n = true := by
    rw [el]
    cases n with
    | true => exact ⟨fun _ => rfl, fun _ => rfl⟩
    | false => exact ⟨fun z => absurd z (hw rfl), fun z => by cases z⟩
  have B := bt_sg (n := n) ha hb b0
  have rest : sSeq (sSet 5 (aCall w_fraction_of [] (aCons (aVar 4) (aCons (aBlt uInt (aCons (aVar 3) aNil)) aNil))))
    (sSeq (sIf (aB (aOp uNe (aCall w_fraction_text [] (aCons (aVar 5) aNil)) (aVar 0))) (sRaise "NoText" (aCons (aC (.str "this is not how the fraction is written")) aNil)) sNext)
    (sRet (aVar 5))) nx Q bk ct (fun _ => E) [some (.str (mkS l)), some (.str (mkS p)), some (.str st), some (.str (mkS q)), some (.int (sgI n a)), ρ5] h := by
    refine intS lq iq ?_
    refine t_fr (by omega) (log_pow (big40 (k := 140) hb) (by decide) (by decide)) ?_
    refine t_ftext B (by decide) (by decide) (neS fun b4 e4 => brD e4 (fun p4 => ?_) (fun p4 => ?_))
    · exact ⟨by show (1 : Nat) ≤ sizeLine; decide, q2 p4⟩
    · exact q1 (Decidable.not_not.mp p4)
  refine hdEq (s := "-") (d := 45) (k2 := Q) (by decide) hl lne fun b3 e3 => ?_
  cases b3 with
  | true =>
    have en := hd45.mp (e3.mp rfl)
    subst en
    dsimp only [asB, nB, Br]
    exact intS lp ip rest
  | false =>
    have en : n = false := by
      cases n with
      | false => rfl
      | true => have := e3.mpr (hd45.mpr rfl); cases this
    subst en
    dsimp only [asB, nB, Br]
    exact intS lp ip rest
theorem t_readf {l : List Nat} (hl : l.length ≤ 1000000) (q1 : ∀ r h', Pre h h' → Rd l r → Q (qU r) h') (q2 : ∀ h', Pre h h' → (∀ r, ¬ Rd l r) → E ⟨"NoText", []⟩ h') : w_read_fraction [.str (mkS l)] h Q E := by
  obtain ⟨n, w, el, er, hw⟩ := neg_split l
  have lw : w.length ≤ 1000000 := by rw [el] at hl; simp at hl; omega
  refine ⟨rfl, ⟨trivial, rmS (by rw [mkS_len]; exact hl) er ⟨trivial, ?_⟩⟩⟩
  have r1 : ∀ h', Pre h h' → (∀ r, ¬ Rd l r) → (1 : Nat) ≤ sizeLine ∧ E ⟨"NoText", []⟩ h' := fun h' p z => ⟨by decide, q2 h' p z⟩
  rcases stroke_split w with no | ⟨p, q, ew, hp⟩
  · refine ptS (by decide) (by rw [mkS_len]; exact lw) (part_none no) (Opt.mk rfl ?_)
    refine eqS fun b0 e0 => brT' (dT e0 rfl) ?_
    refine t_isn lw fun b1 h1 p1 e1 => ?_
    cases b1 with
    | false =>
      dsimp only [asB, nB, Br]
      refine r1 h1 p1 fun r R => ?_
      obtain ⟨_, h2, _⟩ := shapeA hw no (by rw [← el]; exact R.1)
      have := e1.mpr ⟨_, R.2.1, h2⟩
      cases this
    | true =>
      dsimp only [asB, nB, Br]
      obtain ⟨m, hm, em⟩ := e1.mp rfl
      refine t_isn (l := [49]) (by decide) fun b2 h2 p2 e2 => ?_
      have b2t := e2.mpr ⟨1, by decide, by decide⟩
      subst b2t
      dsimp only [asB, nB, Br]
      refine eqS fun b3 e3 => brF' (dF e3 (by decide)) (nxt ?_)
      have K := rdA (n := n) hw no em hm
      rw [← el] at K
      exact t_rdTail (b := 1) hl el hw (by rw [em]; exact dgs_ne m) em (show [49] = dgs 1 by decide) hm (by decide) (by decide) (fun z => q1 _ _ (p1.trans p2) (K.1 z)) (fun z => q2 _ (p1.trans p2) (K.2 z))
  · subst ew
    have lp : p.length ≤ 1000000 := by simp at lw; omega
    have lq : q.length ≤ 1000000 := by simp at lw; omega
    refine ptS (by decide) (by rw [mkS_len]; exact lw) (part_app hp) (Opt.mk rfl ?_)
    refine eqS fun b0 e0 => brF' (dF e0 (by decide)) (nxt ?_)
    refine t_isn lp fun b1 h1 p1 e1 => ?_
    cases b1 with
    | false =>
      dsimp only [asB, nB, Br]
      refine r1 h1 p1 fun r R => ?_
      obtain ⟨_, h2, _⟩ := shapeB hw hp (by rw [← el]; exact R.1)
      have := e1.mpr ⟨_, R.2.1, h2⟩
      cases this
    | true =>
      dsimp only [asB, nB, Br]
      obtain ⟨a, ha, ea⟩ := e1.mp rfl
      refine t_isn lq fun b2 h2 p2 e2 => ?_
      cases b2 with
      | false =>
        dsimp only [asB, nB, Br]
        refine r1 h2 (p1.trans p2) fun r R => ?_
        obtain ⟨_, _, h3, _⟩ := shapeB hw hp (by rw [← el]; exact R.1)
        have := e2.mpr ⟨_, R.2.2, h3⟩
        cases this
      | true =>
        dsimp only [asB, nB, Br]
        obtain ⟨b, hb, eb⟩ := e2.mp rfl
        refine eqS fun b3 e3 => brD e3 (fun p3 => ?_) (fun p3 => ?_)
        · refine r1 h2 (p1.trans p2) fun r R => ?_
          obtain ⟨_, _, h3, _⟩ := shapeB hw hp (by rw [← el]; exact R.1)
          have e0 : q = dgs 0 := mkS_inj (p3.trans (by decide))
          have := dgs_inj (h3.symm.trans e0)
          exact r.den_nz this
        · refine nxt ?_
          have b0 : b ≠ 0 := fun z => p3 (by rw [eb, z]; decide)
          have K := rdB (n := n) hw hp ea eb ha hb
          rw [← el] at K
          exact t_rdTail hl el hw (by simp) ea eb ha hb b0 (fun z => q1 _ _ (p1.trans p2) (K.1 z)) (fun z => q2 _ (p1.trans p2) (K.2 z))
end
end K

namespace K
open PySem L2
noncomputable instance decFig (l : List Nat) : Decidable (Fig l) := Classical.propDecidable _
section
variable {h : AH} {Q : UQ} {E : XQ} {r s : Rat} {j k : Nat} {u v : U}
theorem Fig.of {a : Nat} (h : a < 10 ^ 40) : Fig (dgs a) := ⟨a, h, rfl⟩
end
end K

namespace K
open PySem L2
abbrev B40 (r : Rat) : Prop := r.num.natAbs < 10 ^ 40 ∧ r.den < 10 ^ 40
theorem B40.bt {r : Rat} (h : B40 r) : Bt 140 r := ⟨big40 h.1, big40 h.2⟩
theorem B40.rd {r : Rat} (h : B40 r) : Rd (frT r).cps.toList r := ⟨rfl, h.1, h.2⟩
section
variable {h : AH} {Q : UQ} {E : XQ} {r s : Rat} {j k : Nat} {u v : U}
theorem t_ltext3 (hr : B40 r) (q : Q (.str (frT r)) h) : w_law_text_d5f7 [qU r] h Q E := by
  have l1 : r.num.natAbs.log2 < 1920 := Nat.lt_of_lt_of_le (log_lt (big40 (k := 140) hr.1) (by decide)) (by decide)
  have l2 : (r.den : Int).natAbs.log2 < 1920 := Nat.lt_of_lt_of_le (log_lt (k := 140) (big40 hr.2) (by decide)) (by decide)
  have n1 := numT_len hr.bt.n (by decide)
  have n2 := numT_len (dn hr.bt) (by decide)
  have e1 : (Str.ofString "/").length = 1 := rfl
  refine ⟨rfl, ?_⟩
  refine Br.dec (fun c => ?_) (fun c => ?_)
  · have c : r.den = 1 := by exact_mod_cast c
    rw [frT_one c] at q
    exact ⟨l1, q⟩
  · have c : ¬ r.den = 1 := fun z => c (by show (r.den : Int) = 1; rw [z]; rfl)
    have e : frT r = numT r.num ++ "/" ++ numT r.den := str_ext (by
      rw [frT_list c, tl_app, tl_app, tl_sl]; simp)
    rw [e] at q
    unfold numT at n1 n2
    refine ⟨l1, sizeBig (by omega), l2, sizeBig ?_, q⟩
    rw [len_app]; omega
theorem t_readfT (R : B40 r) (q : ∀ h', Pre h h' → Q (qU r) h') : w_read_fraction [.str (frT r)] h Q E := by
  have len0 : (frT r).cps.toList.length ≤ 300 := by have := frT_len R.bt (by decide); have e : (frT r).cps.toList.length = (frT r).length := Array.length_toList; omega
  have rf := t_readf (E := E) (Q := Q) (l := (frT r).cps.toList) (h := h) (by omega) (fun s h4 l4 S => by
    have := S.uniq R.rd
    subst this
    exact q h4 l4) (fun h4 l4 S => absurd R.rd (S r))
  rw [mkS_tl] at rf
  exact rf
end
end K

namespace K
open PySem L2
theorem sc_self {g : Int} {J : Prs} (G : Gp g J) (hg : 0 < g) (n : Nf (J.map caQ)) : toldS (J.map (scQ g)) = J.map (scQ g) := told_sc G hg n fun y => cov_ins n y
theorem Nf.sub {S T : Sps} (n : Nf S) (h : T.Sublist S) : Nf T := ⟨fun p hp => n.ne p (h.subset hp), n.ap.sublist h⟩
section
variable {h : AH} {Q : UQ} {E : XQ} {r s : Rat} {j k : Nat} {u v : U}
theorem strSh {t : Nat} {S : Sps} (T : IsShr h t S) (hb : BtS k S) (k0 : 0 < k) (hk : k ≤ 1900) (hz : S.length ≤ 300) {K : UQ} (q : ∀ h', Pre h h' → K (.str (shT S)) h') : uStrO [("Share", w_Share_str)] [.obj t] h K := by
  obtain ⟨m, h1, h2⟩ := T.ex
  exact Opt.mk h1 (Opt.mk rfl (t_sstr T hb k0 hk hz q))
theorem spansSh {t : Nat} {S : Sps} (T : IsShr h t S) {ρ : SU} {Wo : WE} {K : UQ} (hW : ∀ Q : UQ, Q (.obj t) h → Wo ρ h Q E) (q : K (.obj h.length) (h ++ [AO.lst (S.map prU)])) : aMeth "spans" [] [("Share", w_Share_spans)] Wo aNil ρ h K E := by
  obtain ⟨m, h1, h2⟩ := T.ex
  exact hW _ (Opt.mk h1 ⟨rfl, Opt.mk rfl (t_spans T q)⟩)
theorem mk_shrM {n : Nat} {T : Sps} {E : XQ} {K : AH → Prop} (hl : lstAt h n = some (T.map prU)) (hp : ∀ p ∈ T, Pl k p.1 ∧ Pl k p.2 ∧ p.1 ≤ p.2) (hk : k ≤ 8990) (hz : T.length ≤ 300) (q : ∀ h' m, Pre h h' → h.length ≤ m → insAt h' h.length = some (("Share", [("held", .obj m)]) : CF) → lstAt h' m = some ((toldS T).map prU) → K h') : w_Share_init [.obj h.length, .obj n] (h ++ [.ins "Share" []]) (fun u h2 => asN u (K h2)) E := by
  refine t_sinit (T := T) (by unfold insAt; rw [new_at]) (Pre.lst .app hl) hp hk hz fun h3 m l3 hm c3 d3 => ?_
  refine q h3 m ⟨?_, fun n hn _ => ?_⟩ (by simp at hm; omega) c3 d3
  · have := l3.len; simp at this; omega
  · rw [l3.old n (by simp; omega) (by omega)]
    exact List.getElem?_append_left hn
end
end K

namespace K
open PySem L2
theorem b40_div {a b : Int} (bn : b ≠ 0) (ha : a.natAbs < 10 ^ 40) (hb : b.natAbs < 10 ^ 40) : B40 (Rat.divInt a b) := by
  refine ⟨?_, ?_⟩
  · rw [← lo_num bn]
    exact Nat.lt_of_le_of_lt (quo_le (dv_ne bn) (dv_dvd _ _).1).1 ha
  · have := (quo_le (dv_ne (a := a) bn) (dv_dvd a b).2).1
    have e : lo2 a b = _ := lo_den (a := a) bn
    unfold lo2 at e
    rw [e, Int.natAbs_natCast] at this
    exact Nat.lt_of_le_of_lt this hb
/-- spans that are written short -/
def S40 (S : Sps) : Prop := ∀ p ∈ S, B40 p.1 ∧ B40 p.2 ∧ 0 ≤ p.1
theorem S40.bt {S : Sps} (h : S40 S) : BtS 140 S := fun p hp => ⟨(h p hp).1.bt, (h p hp).2.1.bt⟩
theorem sc_40 {g : Int} {ps : Prs} (G : Gp g ps) (hg : 0 < g) (gb : g < 10 ^ 39) : S40 (ps.map (scQ g)) := by
  intro p hp
  obtain ⟨q, hq, rfl⟩ := List.mem_map.1 hp
  obtain ⟨h1, h2, h3⟩ := G.v q hq
  have e : ∀ x : Int, (x : Rat) / g = Rat.divInt x g := fun x => (Rat.divInt_eq_div x g).symm
  refine ⟨?_, ?_, ?_⟩
  · show B40 ((q.1 : Rat) / g)
    rw [e]; exact b40_div (by omega) (by omega) (by omega)
  · show B40 ((q.2 : Rat) / g)
    rw [e]; exact b40_div (by omega) (by omega) (by omega)
  · show 0 ≤ (q.1 : Rat) / g
    rw [e]; exact (frac01 (a := q.1) (b := g) hg h1 (by omega)).1
theorem joinL_len (S : List Nat) : ∀ parts : List (List Nat), (TL.joinL S parts).length ≤ (parts.map (·.length)).sum + parts.length * S.length
  | [] => by simp [TL.joinL]
  | [p] => by simp [TL.joinL]
  | p :: q :: r => by
    have ih := joinL_len S (q :: r)
    show (p ++ (S ++ TL.joinL S (q :: r))).length ≤ _
    rw [List.length_append, List.length_append, List.map_cons, List.sum_cons, List.length_cons, Nat.succ_mul]
    omega
theorem shT_len {S : Sps} (hb : S40 S) (hz : S.length ≤ 100) : (shT S).length ≤ 100000 := by
  unfold shT
  split
  · decide
  · have e : (Txt.join " " (S.map spT)).length = (TL.joinL [32] ((S.map spT).map TL.tl)).length := by
      rw [TL.join_eq, TL.len_tl, TL.tl_join]; rfl
    rw [e]
    refine Nat.le_trans (joinL_len _ _) ?_
    have hs : (((S.map spT).map TL.tl).map (·.length)).sum ≤ S.length * 600 := by
     simp only [List.map_map]
     exact sum_le fun p hp => by
      have := spT_len (hb.bt p hp).1 (hb.bt p hp).2 (by decide)
      have e : (TL.tl (spT p)).length = (spT p).length := (TL.len_tl _).symm
      show (TL.tl (spT p)).length ≤ 600
      omega
    rw [List.length_map, List.length_map, List.length_singleton]
    omega
theorem spT_parts (p : Rat × Rat) : spT p = frT p.1 ++ "-" ++ frT p.2 := str_ext (by rw [spT_list, tl_app, tl_app, tl_st]; simp)
open Classical in
noncomputable def spanF : U → Option U
  | .str x => if h : ∃ p : Rat × Rat, 0 ≤ p.1 ∧ x = spT p then some (prU h.choose) else none
  | _ => none
open Classical in
theorem spanF_of {p : Rat × Rat} (h0 : 0 ≤ p.1) : spanF (.str (spT p)) = some (prU p) := by
  have h : ∃ q : Rat × Rat, 0 ≤ q.1 ∧ spT p = spT q := ⟨p, h0, rfl⟩
  show (if h : ∃ q : Rat × Rat, 0 ≤ q.1 ∧ spT p = spT q then some (prU h.choose) else none) = _
  rw [dif_pos h]
  have e := h.choose_spec
  rw [← spT_inj h0 e.1 e.2]
section
variable {h : AH} {Q : UQ} {E : XQ} {r s : Rat} {j k : Nat} {u v : U}
theorem t_readspan {p : Rat × Rat} (b1 : B40 p.1) (b2 : B40 p.2) (h0 : 0 ≤ p.1) (q : ∀ h', Pre h h' → Q (prU p) h') : w_read_span [.str (spT p)] h Q E := by
  have l := spT_len b1.bt b2.bt (by decide)
  refine ⟨rfl, ⟨trivial, ptS (a := frT p.1) (b := Str.ofString "-") (c := frT p.2) (by decide) (by omega) (by rw [spT_parts]; exact TL.partition_app (y := "-") (s := 45) (S := []) rfl (frT_pos h0)) (Opt.mk rfl ?_)⟩⟩
  refine t_readfT b1 fun h1 l1 => ?_
  refine t_readfT b2 fun h2 l2 => ?_
  exact ⟨by show 2 ≤ sizeLine; decide, q _ (l1.trans l2)⟩
theorem t_readshare {S : Sps} (hb : S40 S) (hp : ∀ p ∈ S, Pl 140 p.1 ∧ Pl 140 p.2 ∧ p.1 ≤ p.2) (hz : S.length ≤ 100) (ts : toldS S = S)
    (q : ∀ h' t m, Pre h h' → h.length ≤ t → h.length ≤ m → insAt h' t = some (("Share", [("held", .obj m)]) : CF) → lstAt h' m = some (S.map prU) → Q (.obj t) h') : w_read_share [.str (shT S)] h Q E := by
  refine ⟨rfl, ?_⟩
  by_cases e : S = []
  · subst e
    refine eqS fun b1 e1 => brT' (dT e1 rfl) ⟨by show 0 ≤ sizeLine; decide, ?_⟩
    refine mk_shrM (T := []) (k := 140) new_lst (fun p hp => by simp at hp) (by decide) (by decide) fun h1 m l1 hm c1 d1 => ?_
    exact q _ _ _ (Lat.trans .app l1) (by simp) (by simp at hm; omega) c1 d1
  have es : shT S = Txt.join " " (S.map spT) := if_neg e
  have ln := shT_len hb hz
  refine eqS fun b1 e1 => brF' (dF e1 (fun z => none_ne e (z.symm.trans es))) (nxt ?_)
  refine ⟨trivial, spS (L := S.map spT) (by decide) (by omega) (by rw [es]; exact shT_split e) ?_⟩
  have n1 : lstAt (h ++ [AO.lst ((S.map spT).map U.str)]) h.length = some ((S.map spT).map U.str) := new_lst
  have P1 : Pre h (h ++ [AO.lst ((S.map spT).map U.str)]) := .app
  have len1 : h.length + 1 = (h ++ [AO.lst ((S.map spT).map U.str)]).length := by simp
  generalize h ++ [AO.lst ((S.map spT).map U.str)] = h1 at *
  refine Opt.walk n1 (lcP2 (xs := (S.map spT).map U.str) spanF (small (by rw [List.length_map, List.length_map]; omega)) (fun h' l => Pre.lst l n1) ?_ ?_)
  · intro x hx h' Kt lp qk
    obtain ⟨y, hy, rfl⟩ := List.mem_map.1 hx
    obtain ⟨p, hpS, rfl⟩ := List.mem_map.1 hy
    obtain ⟨b1, b2, b3⟩ := hb p hpS
    rw [spanF_of b3] at qk
    exact Opt.mk rfl (t_readspan b1 b2 b3 fun h4 l4 => qk h4 l4)
  intro h2 l2 o2
  have em : ((S.map spT).map U.str).filterMap spanF = S.map prU := by
    clear q hz ts hp n1 es o2 e e1 ln
    induction S with
    | nil => rfl
    | cons p S ih =>
      rw [List.map_cons, List.map_cons, List.map_cons, ← ih (fun x hx => hb x (by simp [hx]))]
      exact List.filterMap_cons_some (spanF_of (hb p (by simp)).2.2)
  rw [em] at o2
  refine mk_shrM (T := S) (k := 140) (own_lst o2) hp (by decide) (by omega) fun h3 m l3 hm c3 d3 => ?_
  rw [ts] at d3
  have T3 : IsShr h3 h2.length S := ⟨m, c3, d3⟩
  refine strSh T3 hb.bt (by decide) (by decide) (by omega) fun h4 l4 => ?_
  refine neS fun b2 e2 => brF' (dF e2 (fun z => z rfl)) (nxt ?_)
  have := l2.len
  exact q _ _ _ ((P1.trans l2).trans (l3.trans l4)) (by omega) (by omega) (l4.ins c3) (l4.lst d3)
theorem t_ltextS {n : Nat} {S : Sps} (hl : lstAt h n = some (S.map prU)) (hb : S40 S) (hz : S.length ≤ 100) (q : ∀ h', Pre h h' → Q (.str (shT S)) h') : w_law_text_53b6 [.obj n] h Q E := by
  refine ⟨rfl, ?_⟩
  refine ln hl ?_
  rw [List.length_map]
  refine eqI fun b1 e1 => brD e1 (fun p1 => ?_) (fun p1 => nxt ?_)
  · have : S = [] := List.length_eq_zero_iff.mp (by omega)
    subst this
    exact q _ .refl
  have ne : S ≠ [] := fun z => p1 (by rw [z]; rfl)
  have es : shT S = Txt.join " " (S.map spT) := if_neg ne
  rw [es] at q
  refine ⟨trivial, Opt.walk hl (lcP (xs := S.map prU) spF (small (by rw [List.length_map]; omega)) (fun h' l => Pre.lst l hl) ?_ ?_)⟩
  · intro x hx h' Kt l qk
    obtain ⟨p, hp, rfl⟩ := List.mem_map.1 hx
    rw [spF_pr, spT_parts] at qk
    obtain ⟨b1, b2, _⟩ := hb p hp
    have l1 := frT_len b1.bt (by decide)
    have l2 := frT_len b2.bt (by decide)
    have e1 : (Str.ofString "-").length = 1 := rfl
    refine Opt.mk rfl (t_ltext3 b1 ?_)
    refine ⟨sizeBig (by omega), ?_⟩
    refine t_ltext3 b2 ?_
    exact ⟨sizeBig (by rw [len_app]; omega), qk⟩
  have em : (S.map prU).filterMap spF = (S.map spT).map U.str := by rw [fm_map spF_pr, List.map_map]; rfl
  rw [em]
  refine Opt.items new_lst (Opt.mk (strsOf_map _) ⟨?_, q _ .app⟩)
  have hs : ((S.map spT).map (·.length)).sum ≤ (S.map spT).length * 600 := sum_le fun x hx => by
    obtain ⟨p, hp, rfl⟩ := List.mem_map.1 hx
    have := spT_len (hb.bt p hp).1 (hb.bt p hp).2 (by decide)
    omega
  have e1 : (Str.ofString " ").length = 1 := rfl
  rw [List.length_map] at hs ⊢
  rw [e1, Nat.mul_one]
  refine sizeBig ?_
  omega
theorem t_plainN {n : Nat} {S : Sps} (hl : lstAt h n = some (S.map prU)) (q : ∀ h', Pre h h' → ∀ b, b = true → Q (.bl b) h') : w_law_plain_6e75 [.obj n] h Q E := t_plain hl fun h' l => q h' l _ rfl
theorem t_law13 {sc : Nat} {ns : List Int} (hs : lstAt h sc = some (ns.map U.int)) (hn : ns.length ≤ 1000) (q : ∀ h', Q (.bl true) h') : w_law_0869 [.obj sc] h Q E := by
  have p12 : (10 : Int) ^ (Int.toNat 12) = 1000000000000 := by decide
  refine ⟨rfl, t_boxB hs hn fun b g s' h0 B0 _ _ _ => ?_⟩
  refine t_takeB B0 (by omega) (by decide) (by decide) fun lo h1 _ _ l1 B1 => ?_
  refine ⟨⟨by decide, by decide, by decide⟩, by show 4 ≤ sizeLine; decide, ?_⟩
  have lt1 := B1.lt
  refine t_takeB (B1.pre .app) (by omega) (by decide) (by decide) fun r1 h2 b0 b1 l2 B2 => ?_
  have e1 : lstAt h2 h1.length = some [.int 6, .int 30, .int 1000, .int (10 ^ (Int.toNat 12))] := l2.lst new_lst (by omega)
  obtain ⟨gs, eg, g0, g1⟩ : ∃ w : Int, atI [U.int 6, .int 30, .int 1000, .int (10 ^ (Int.toNat 12))] r1 = some (.int w) ∧ 0 < w ∧ w ≤ 1000000000000 := by
    obtain rfl | rfl | rfl | rfl : r1 = 0 ∨ r1 = 1 ∨ r1 = 2 ∨ r1 = 3 := by omega
    · exact ⟨_, rfl, by decide, by decide⟩
    · exact ⟨_, rfl, by decide, by decide⟩
    · exact ⟨_, rfl, by decide, by decide⟩
    · exact ⟨_, rfl, by rw [p12]; decide, by rw [p12]; decide⟩
  refine rd e1 eg ?_
  refine t_takeB B2 (by omega) g0 (log_pow (k := 131) (by omega) (by decide) (by decide)) fun r3 h3 d0 d1 l3 B3 => ?_
  obtain ⟨G, hG⟩ : ∃ G, G = 1 + r3 := ⟨_, rfl⟩
  refine ad hG ?_
  have Gb : G.natAbs < 2 ^ 131 := by omega
  refine t_pairs9 B3 (by omega) (by omega) Gb fun h4 m ps l4 hm ho hpl hv B4 => ?_
  refine cutP (fun ρ' h' => ∃ (G : Int) (ps : Prs) (m : Nat) (a5 : Option U), 0 < G ∧ G ≤ 2000000000000 ∧ ownLst h' m = some (ps.map prI) ∧ Gp G ps ∧ ps.length ≤ 60 ∧ ρ' = [some (.obj sc), some (.obj b), some (.int lo), some (.int G), some (.obj m), a5, none, none, none, none, none]) (fun nx' z => ?_) ?_
  · refine eqI fun b1 e1 => brD e1 (fun p1 => ?_) (fun p1 => nxt (z _ _ ⟨G, ps, m, _, by omega, by omega, ho, ⟨hv⟩, by omega, rfl⟩))
    refine t_takeB B4 (by omega) (by decide) (by decide) fun r4 h5 c0 c1 l5 B5 => ?_
    obtain ⟨G2, hG2⟩ : ∃ G2, G2 = 20 + r4 := ⟨_, rfl⟩
    refine ad hG2 ?_
    have lt5 := B5.lt
    refine ⟨by omega, by omega, fun i acc h' => ∃ ps : Prs, acc = ps.map prI ∧ ps.length ≤ i ∧ i ≤ 60 ∧ Gp G2 ps ∧ h5.length < h'.length ∧ h'[h5.length]? = some (.lst acc) ∧ BoxB h' b g s' (1000 + i), ⟨[], rfl, by simp, by omega, ⟨fun p hp => by simp at hp⟩, by simp, new_at, (B5.pre .app).mono (by omega)⟩, ?_, ?_⟩
    · rintro i x acc h' e ⟨ps, rfl, hl, hi, GP, hlen, ha, B⟩
      obtain ⟨rfl, hi2⟩ := rng_at e
      refine ⟨trivial, ha, small (by rw [List.length_map]; omega), Opt.mk rfl ?_⟩
      refine t_takeB B (by omega) (by decide) (by decide) fun r5 h6 _ _ l6 B6 => ?_
      have ha6 := l6.at ha (by omega)
      have hl6 := l6.len
      refine eqI fun b2 e2 => brD e2 (fun p2 => ?_) (fun p2 => ?_)
      · refine ⟨by show 2 ≤ sizeLine; decide, ha6, ps ++ [((i : Int), (i : Int) + 1)], by rw [List.map_append]; rfl, by rw [List.length_append]; simp; omega, by omega, GP.app (Gp.one (by omega) (by omega) (by omega)), by simp; omega, by rw [List.getElem?_set_self (by omega)], ?_⟩
        exact (B6.lat (S := fun n => n = h5.length) (.set rfl) (by omega) (by omega) (by omega)).mono (by omega)
      · exact ⟨ps, rfl, by omega, by omega, GP, by omega, ha6, B6.mono (by omega)⟩
    · rintro acc h' ⟨ps, rfl, hl, hi, GP, hlen, ha, B⟩
      exact ⟨trivial, z _ _ ⟨G2, ps, h5.length, _, by omega, by omega, own_of ha, GP, by omega, rfl⟩⟩
  clear hG Gb ho hpl hv B4 hm l4
  clear ps m G
  rintro ρ' h6 ⟨G, ps, m, a5, G0, G1, ho, GP, hz, rfl⟩
  have Gb : G.natAbs < 2 ^ 131 := by omega
  have Gl : G.natAbs.log2 < 9000 := log_pow Gb (by decide) (by decide)
  refine t_joined (own_lst ho) (by omega) fun h7 mJ J l7 hmJ hoJ nf inn jl => ?_
  have P : Gp G J := gp_of GP nf inn
  refine t_ltold (own_lst hoJ) G0 Gl (by omega) ?_
  have eS := sc_self P G0 nf
  have hb := sc_40 P G0 (by omega)
  have hp : ∀ p ∈ J.map (scQ G), Pl 140 p.1 ∧ Pl 140 p.2 ∧ p.1 ≤ p.2 := fun p hp => by
    obtain ⟨a1, a2, a3⟩ := P.pl G0 Gb p hp
    exact ⟨a1.mono (by decide), a2.mono (by decide), a3⟩
  have hzS : (J.map (scQ G)).length ≤ 100 := by rw [List.length_map]; omega
  generalize J.map (scQ G) = S at *
  have n8 : lstAt (h7 ++ [AO.lst (S.map prU)]) h7.length = some (S.map prU) := new_lst
  generalize h7 ++ [AO.lst (S.map prU)] = h8 at *
  have nd := lst_lt n8
  refine mk_shrM (T := S) (k := 140) n8 hp (by decide) (by omega) fun h9 m9 l9 hm9 c9 d9 => ?_
  rw [eS] at d9
  have T9 : IsShr h9 h8.length S := ⟨m9, c9, d9⟩
  have n9 := Pre.lst l9 n8
  refine strSh T9 hb.bt (by decide) (by decide) (by omega) fun hA lA => ?_
  have TA := T9.pre lA
  have nA := Pre.lst lA n9
  refine isiN (b := true) rfl rfl fun b1 e1 => brNT e1 ?_
  refine t_ltextS nA hb hzS fun hB lB => ?_
  refine neS fun b2 e2 => brF' (dF e2 (fun z => z rfl)) (nxt ?_)
  have TB := TA.pre lB
  have nB := Pre.lst lB nA
  refine t_readshare hb hp hzS eS fun hC tC mC lC htC hmC cC dC => ?_
  have TC : IsShr hC tC S := ⟨mC, cC, dC⟩
  have T1 := TB.pre lC
  have n1 := Pre.lst lC nB
  refine spansSh TC (fun K z => z) ?_
  have oD : ownLst (hC ++ [AO.lst (S.map prU)]) hC.length = some (S.map prU) := new_own
  have lD : Pre hC (hC ++ [AO.lst (S.map prU)]) := .app
  have T1D := T1.pre lD
  have TD := TC.pre lD
  have nD := Pre.lst lD n1
  have ltC := ins_lt cC
  have ltM := lst_lt dC
  have ltN := lst_lt n1
  have cD := Pre.ins lD cC
  have dD := Pre.lst lD dC
  obtain ⟨m1, c1, d1⟩ := T1.ex
  have lt1 := ins_lt c1
  have ltm1 := lst_lt d1
  have c1D := Pre.ins lD c1
  have d1D := Pre.lst lD d1
  generalize hC ++ [AO.lst (S.map prU)] = hD at *
  refine t_plainN (own_lst oD) fun hE lE b3 e3 => brNT e3 ?_
  have oE := Pre.own lE oD
  have nE := Pre.lst lE nD
  refine neLt (S := S) (T := S) (own_lst oE) nE rfl fun b4 e4 => brF' e4 ?_
  refine eqSh (TD.pre lE) (T1D.pre lE) fun b5 e5 => brNT (dT e5 rfl) ?_
  refine neSh (TD.pre lE) (T1D.pre lE) fun b6 e6 => brF' (dF e6 (fun z => z rfl)) (nxt ?_)
  refine ⟨⟨_, own_lst oE⟩, by show 2 ≤ sizeLine; decide, by show 2 ≤ sizeLine; decide, by show 2 ≤ sizeLine; decide, Opt.mk oE ⟨small (by rw [List.length_map]; omega), ?_⟩⟩
  have lF : ∀ o : AO, Lat (fun n => n = hC.length) hE (hE.set hC.length o) := fun o => .set rfl
  have TF : ∀ o : AO, IsShr (hE.set hC.length o) tC S := fun o => ⟨mC, (lF o).ins (Pre.ins lE cD) (by omega), (lF o).lst (Pre.lst lE dD) (by omega)⟩
  have T1F : ∀ o : AO, IsShr (hE.set hC.length o) h8.length S := fun o => ⟨m1, (lF o).ins (Pre.ins lE c1D) (by omega), (lF o).lst (Pre.lst lE d1D) (by omega)⟩
  have nF : ∀ o : AO, lstAt (hE.set hC.length o) h7.length = some (S.map prU) := fun o => (lF o).lst nE (by omega)
  generalize AO.lst (S.map prU ++ _) = o at *
  have TF := TF o
  have T1F := T1F o
  have nF := nF o
  generalize hE.set hC.length o = hF at *
  refine spansSh TF (fun K z => z) ?_
  have lG : Pre hF (hF ++ [AO.lst (S.map prU)]) := .app
  have nG : lstAt (hF ++ [AO.lst (S.map prU)]) hF.length = some (S.map prU) := new_lst
  have TG := TF.pre lG
  have T1G := T1F.pre lG
  have nG2 := Pre.lst lG nF
  generalize hF ++ [AO.lst (S.map prU)] = hG at *
  refine neLt (S := S) (T := S) nG nG2 rfl fun b7 e7 => brF' e7 ?_
  refine strSh TG hb.bt (by decide) (by decide) (by omega) fun hH lH => ?_
  refine neS fun b8 e8 => brF' (dF e8 (fun z => z rfl)) (nxt ?_)
  refine strSh (T1G.pre lH) hb.bt (by decide) (by decide) (by omega) fun hI lI => ?_
  refine eqS fun b9 e9 => brT' (dT e9 rfl) ?_
  refine t_readshare hb hp hzS eS fun hJ tJ mJ2 lJ _ _ cJ dJ => Opt.mk cJ ⟨rfl, Opt.mk rfl (t_spans ⟨mJ2, cJ, dJ⟩ ?_)⟩
  exact eqLt (S := S) (T := S) new_lst (Pre.lst .app (Pre.lst ((lH.trans lI).trans lJ) nG2)) rfl fun t e => by subst e; exact q _
end
end K

namespace K
open PySem L2
def top (i : Nat) : Stmt := PySem.Challenge.pw_halfcrumb_k13_share_texts.main.body.getD i (.Pass ⟨0, 0, 0, 0⟩)
abbrev s_is_number : Stmt := top 9
abbrev p_is_number : List Str := ["text"]
abbrev n_is_number : List Str := ["text", "sign"]
theorem sc_is_number : FnScope n_is_number p_is_number (defScope s_is_number) := ⟨rfl, rfl, rfl, by decide +kernel, rfl, by decide +kernel, by decide +kernel⟩
abbrev s_greatest_divisor : Stmt := top 11
abbrev p_greatest_divisor : List Str := ["one", "other"]
abbrev n_greatest_divisor : List Str := ["one", "other"]
theorem sc_greatest_divisor : FnScope n_greatest_divisor p_greatest_divisor (defScope s_greatest_divisor) := ⟨rfl, rfl, rfl, by decide +kernel, rfl, by decide +kernel, by decide +kernel⟩
abbrev s_fraction_of : Stmt := top 12
abbrev p_fraction_of : List Str := ["top", "bottom"]
abbrev n_fraction_of : List Str := ["top", "bottom", "divisor"]
theorem sc_fraction_of : FnScope n_fraction_of p_fraction_of (defScope s_fraction_of) := ⟨rfl, rfl, rfl, by decide +kernel, rfl, by decide +kernel, by decide +kernel⟩
abbrev s_is_less : Stmt := top 13
abbrev p_is_less : List Str := ["one", "other"]
abbrev n_is_less : List Str := ["one", "other"]
theorem sc_is_less : FnScope n_is_less p_is_less (defScope s_is_less) := ⟨rfl, rfl, rfl, by decide +kernel, rfl, by decide +kernel, by decide +kernel⟩
abbrev s_fraction_text : Stmt := top 14
abbrev p_fraction_text : List Str := ["fraction"]
abbrev n_fraction_text : List Str := ["fraction", "top", "bottom"]
theorem sc_fraction_text : FnScope n_fraction_text p_fraction_text (defScope s_fraction_text) := ⟨rfl, rfl, rfl, by decide +kernel, rfl, by decide +kernel, by decide +kernel⟩
abbrev s_read_fraction : Stmt := top 15
abbrev p_read_fraction : List Str := ["text"]
abbrev n_read_fraction : List Str := ["text", "above", "stroke", "beneath", "top", "fraction"]
theorem sc_read_fraction : FnScope n_read_fraction p_read_fraction (defScope s_read_fraction) := ⟨rfl, rfl, rfl, by decide +kernel, rfl, by decide +kernel, by decide +kernel⟩
abbrev s_is_span : Stmt := top 19
abbrev p_is_span : List Str := ["here", "there"]
abbrev n_is_span : List Str := ["here", "there"]
theorem sc_is_span : FnScope n_is_span p_is_span (defScope s_is_span) := ⟨rfl, rfl, rfl, by decide +kernel, rfl, by decide +kernel, by decide +kernel⟩
abbrev s_check_span : Stmt := top 20
abbrev p_check_span : List Str := ["here", "there"]
abbrev n_check_span : List Str := ["here", "there"]
theorem sc_check_span : FnScope n_check_span p_check_span (defScope s_check_span) := ⟨rfl, rfl, rfl, by decide +kernel, rfl, by decide +kernel, by decide +kernel⟩
abbrev s_lesser : Stmt := top 21
abbrev p_lesser : List Str := ["one", "other"]
abbrev n_lesser : List Str := ["one", "other"]
theorem sc_lesser : FnScope n_lesser p_lesser (defScope s_lesser) := ⟨rfl, rfl, rfl, by decide +kernel, rfl, by decide +kernel, by decide +kernel⟩
abbrev s_greater : Stmt := top 22
abbrev p_greater : List Str := ["one", "other"]
abbrev n_greater : List Str := ["one", "other"]
theorem sc_greater : FnScope n_greater p_greater (defScope s_greater) := ⟨rfl, rfl, rfl, by decide +kernel, rfl, by decide +kernel, by decide +kernel⟩
abbrev s_with_span : Stmt := top 23
abbrev p_with_span : List Str := ["spans", "here", "there"]
abbrev n_with_span : List Str := ["spans", "here", "there", "ahead", "behind", "begin", "end", "first", "last"]
theorem sc_with_span : FnScope n_with_span p_with_span (defScope s_with_span) := ⟨rfl, rfl, rfl, by decide +kernel, rfl, by decide +kernel, by decide +kernel⟩
abbrev s_told_spans : Stmt := top 24
abbrev p_told_spans : List Str := ["spans"]
abbrev n_told_spans : List Str := ["spans", "told", "here", "there"]
theorem sc_told_spans : FnScope n_told_spans p_told_spans (defScope s_told_spans) := ⟨rfl, rfl, rfl, by decide +kernel, rfl, by decide +kernel, by decide +kernel⟩
abbrev s_Share_init : Stmt := inClass (top 28) 0
abbrev p_Share_init : List Str := ["self", "spans"]
abbrev n_Share_init : List Str := ["self", "spans"]
theorem sc_Share_init : FnScope n_Share_init p_Share_init (defScope s_Share_init) := ⟨rfl, rfl, rfl, by decide +kernel, rfl, by decide +kernel, by decide +kernel⟩
abbrev s_Share_spans : Stmt := inClass (top 28) 1
abbrev p_Share_spans : List Str := ["self"]
abbrev n_Share_spans : List Str := ["self"]
theorem sc_Share_spans : FnScope n_Share_spans p_Share_spans (defScope s_Share_spans) := ⟨rfl, rfl, rfl, by decide +kernel, rfl, by decide +kernel, by decide +kernel⟩
abbrev s_Share_eq : Stmt := inClass (top 28) 9
abbrev p_Share_eq : List Str := ["self", "other"]
abbrev n_Share_eq : List Str := ["self", "other"]
theorem sc_Share_eq : FnScope n_Share_eq p_Share_eq (defScope s_Share_eq) := ⟨rfl, rfl, rfl, by decide +kernel, rfl, by decide +kernel, by decide +kernel⟩
abbrev s_Share_str : Stmt := inClass (top 28) 10
abbrev p_Share_str : List Str := ["self"]
abbrev n_Share_str : List Str := ["self", "here", "there"]
theorem sc_Share_str : FnScope n_Share_str p_Share_str (defScope s_Share_str) := ⟨rfl, rfl, rfl, by decide +kernel, rfl, by decide +kernel, by decide +kernel⟩
abbrev s_read_span : Stmt := top 30
abbrev p_read_span : List Str := ["word"]
abbrev n_read_span : List Str := ["word", "here", "stroke", "there"]
theorem sc_read_span : FnScope n_read_span p_read_span (defScope s_read_span) := ⟨rfl, rfl, rfl, by decide +kernel, rfl, by decide +kernel, by decide +kernel⟩
abbrev s_read_share : Stmt := top 31
abbrev p_read_share : List Str := ["text"]
abbrev n_read_share : List Str := ["text", "word", "share"]
theorem sc_read_share : FnScope n_read_share p_read_share (defScope s_read_share) := ⟨rfl, rfl, rfl, by decide +kernel, rfl, by decide +kernel, by decide +kernel⟩
abbrev s_law_box : Stmt := top 33
abbrev p_law_box : List Str := ["_law_script"]
abbrev n_law_box : List Str := ["_law_script", "_law_cell", "_law_great"]
theorem sc_law_box : FnScope n_law_box p_law_box (defScope s_law_box) := ⟨rfl, rfl, rfl, by decide +kernel, rfl, by decide +kernel, by decide +kernel⟩
abbrev s_law_mixed : Stmt := top 34
abbrev p_law_mixed : List Str := ["_law_cell", "_law_k"]
abbrev n_law_mixed : List Str := ["_law_cell", "_law_k", "_law_whole"]
theorem sc_law_mixed : FnScope n_law_mixed p_law_mixed (defScope s_law_mixed) := ⟨rfl, rfl, rfl, by decide +kernel, rfl, by decide +kernel, by decide +kernel⟩
abbrev s_law_take : Stmt := top 35
abbrev p_law_take : List Str := ["_law_box_here", "_law_size"]
abbrev n_law_take : List Str := ["_law_box_here", "_law_size", "_law_found", "_law_cell", "_law_reach"]
theorem sc_law_take : FnScope n_law_take p_law_take (defScope s_law_take) := ⟨rfl, rfl, rfl, by decide +kernel, rfl, by decide +kernel, by decide +kernel⟩
abbrev s_law_low : Stmt := top 36
abbrev p_law_low : List Str := ["_law_top", "_law_bottom"]
abbrev n_law_low : List Str := ["_law_top", "_law_bottom", "_law_one", "_law_two"]
theorem sc_law_low : FnScope n_law_low p_law_low (defScope s_law_low) := ⟨rfl, rfl, rfl, by decide +kernel, rfl, by decide +kernel, by decide +kernel⟩
abbrev s_law_pairs : Stmt := top 37
abbrev p_law_pairs : List Str := ["_law_box_here", "_law_grid"]
abbrev n_law_pairs : List Str := ["_law_box_here", "_law_grid", "_law_pairs_here", "_law_k", "_law_way", "_law_low_here", "_law_high"]
theorem sc_law_pairs : FnScope n_law_pairs p_law_pairs (defScope s_law_pairs) := ⟨rfl, rfl, rfl, by decide +kernel, rfl, by decide +kernel, by decide +kernel⟩
abbrev s_law_joined : Stmt := top 38
abbrev p_law_joined : List Str := ["_law_pairs_here"]
abbrev n_law_joined : List Str := ["_law_pairs_here", "_law_found", "_law_pair", "_law_low_here", "_law_high"]
theorem sc_law_joined : FnScope n_law_joined p_law_joined (defScope s_law_joined) := ⟨rfl, rfl, rfl, by decide +kernel, rfl, by decide +kernel, by decide +kernel⟩
abbrev s_law_told : Stmt := top 39
abbrev p_law_told : List Str := ["_law_pairs_here", "_law_grid"]
abbrev n_law_told : List Str := ["_law_pairs_here", "_law_grid", "_law_low_here", "_law_high"]
theorem sc_law_told : FnScope n_law_told p_law_told (defScope s_law_told) := ⟨rfl, rfl, rfl, by decide +kernel, rfl, by decide +kernel, by decide +kernel⟩
abbrev s_law_plain : Stmt := top 40
abbrev p_law_plain : List Str := ["_law_found"]
abbrev n_law_plain : List Str := ["_law_found", "_law_span", "_law_place", "_law_part"]
theorem sc_law_plain : FnScope n_law_plain p_law_plain (defScope s_law_plain) := ⟨rfl, rfl, rfl, by decide +kernel, rfl, by decide +kernel, by decide +kernel⟩
abbrev s_law_number : Stmt := top 41
abbrev p_law_number : List Str := ["_law_place"]
abbrev n_law_number : List Str := ["_law_place"]
theorem sc_law_number : FnScope n_law_number p_law_number (defScope s_law_number) := ⟨rfl, rfl, rfl, by decide +kernel, rfl, by decide +kernel, by decide +kernel⟩
abbrev s_law_text : Stmt := top 42
abbrev p_law_text : List Str := ["_law_rows"]
abbrev n_law_text : List Str := ["_law_rows", "_law_here", "_law_there"]
theorem sc_law_text : FnScope n_law_text p_law_text (defScope s_law_text) := ⟨rfl, rfl, rfl, by decide +kernel, rfl, by decide +kernel, by decide +kernel⟩
abbrev s_law : Stmt := top 43
abbrev p_law : List Str := ["_law_script"]
abbrev n_law : List Str := ["_law_script", "_law_box_here", "_law_long", "_law_grid", "_law_pairs_here", "_law_k", "_law_due", "_law_share", "_law_written", "_law_told_here", "_law_found"]
theorem sc_law : FnScope n_law p_law (defScope s_law) := ⟨rfl, rfl, rfl, by decide +kernel, rfl, by decide +kernel, by decide +kernel⟩
/-- what is known of the text -/
structure Tops (K : PySem.W.Frag) (mg : Str → Option Value) (G : Str → Addr) : Prop where
  b_len : mg "len" = none
  b_range : mg "range" = none
  b_max : mg "max" = none
  b_min : mg "min" = none
  b_abs : mg "abs" = none
  b_sorted : mg "sorted" = none
  t_BEGIN : ∃ a, mg "BEGIN" = some (.ref a) ∧ ∀ H φ, RU K H φ (.tup [.int 0, .int 1]) (.ref a)
  t_END : ∃ a, mg "END" = some (.ref a) ∧ ∀ H φ, RU K H φ (.tup [.int 1, .int 1]) (.ref a)
  x_NoSpan : PySem.W.excIn K (G "NoSpan") EXCB "ValueError.__new__" = true ∧ PySem.W.nsIn K mainGlobals "NoSpan" = some (some (.ref (G "NoSpan")))
  f_Share_held : FldOk K G ["Share"] "held"
  b_str : mg "str" = none
  k_str : KitT K G (.type "str") is_str
  b_isinstance : mg "isinstance" = none
  i_MOST_FIGURES : ∃ tk, mg "MOST_FIGURES" = some (.int 40 tk)
  s_FIGURES : ∃ tk, mg "FIGURES" = some (.str "0123456789" tk)
  b_all : mg "all" = none
  x_NoText : PySem.W.excIn K (G "NoText") EXCB "ValueError.__new__" = true ∧ PySem.W.nsIn K mainGlobals "NoText" = some (some (.ref (G "NoText")))
  b_int : mg "int" = none
  x_NoFraction : PySem.W.excIn K (G "NoFraction") EXCB "ValueError.__new__" = true ∧ PySem.W.nsIn K mainGlobals "NoFraction" = some (some (.ref (G "NoFraction")))
  xm_NoFraction_NoSpan : PySem.W.exmOne K (.ref (G "NoFraction")) (.ref (G "NoSpan")) = some false
  xm_NoText_NoSpan : PySem.W.exmOne K (.ref (G "NoText")) (.ref (G "NoSpan")) = some false
  xm_NoSpan_NoSpan : PySem.W.exmOne K (.ref (G "NoSpan")) (.ref (G "NoSpan")) = some true
  xn_NoSpan : mg "NoSpan" = some (.ref (G "NoSpan"))
  b_list : mg "list" = none
  k_list : KitT K G (.type "list") is_list
  b_tuple : mg "tuple" = none
  k_tuple : KitT K G (.type "tuple") is_tuple
  k_int : KitT K G (.type "int") is_int
  b_bool : mg "bool" = none
  k_bool : KitT K G (.type "bool") is_bool
  cn_Share : mg "Share" = some (.ref (G "Share"))
  kb_Share : KitB K (.ref (G "Share"))
  it_Share : InsT K (G "Share")
  ok_Share_Share : PySem.W.kitOne K (.ref (G "Share")) (.ref (G "Share")) = some true
  ne_Share : PySem.W.findIn K (.ref (G "Share")) "__ne__" = some (some (.builtin "object.__ne__"))
section
variable {P : Program} {w : World} {K : PySem.W.Frag} {mg : Str → Option Value} {base : Heap} {G : Str → Addr} {f : Addr} {fd : FuncData} (T : Tops K mg G)
include T
theorem ok_law_box  {dV : Value} (F : FunD K "_law_box" "_law_box" s_law_box dV f fd) : FnOk P w K mg base (CXR P w) 1 f fd p_law_box (spA K G w_law_box_1502) := by
  have nd := sc_law_box.nd
  exact F.okA sc_law_box (fun cdv A outer s₀ H₀ E₀ φ E hr hE hp => (ass_cons (as_setLc (i := 2) (own := [("_law_cell", 1)]) (ws := [1]) (g := (gN 1)) (Tt := (aB (aOp uGe (aVar 1) (aOp uPow (aC (.int 10)) (aC (.int 18)))))) (We := (aVar 1)) (by rfl) nd rfl rfl (sw_true rfl rfl rfl (by decide +kernel)) (ai_seq (av 0)) (blkOk_by (own := [("_law_cell", 1)]) (N := n_law_box) (sc := defScope s_law_box) (by decide +kernel)) (by decide) (fun _ _ _ _ _ => (ag_name (i := 1) nd rfl (Or.inl rfl))) (fun _ _ _ _ _ => (ats_one (at_cmp ao_ge (av 1) (ae_op ao_pow ae_int ae_int)))) (fun _ _ _ _ _ => (av 1)))
    (ass_one (as_ret (ae_lst (aa_cons (av 2) (aa_cons ae_int (aa_cons (ae_lc (own := [("_law_cell", 1)]) (ws := [1]) (g := (gN 1)) (Tt := (aB (aOp uLt (aVar 1) (aOp uPow (aC (.int 10)) (aC (.int 18)))))) (We := (aVar 1)) (by rfl) nd (ai_seq (av 0)) (blkOk_by (own := [("_law_cell", 1)]) (N := n_law_box) (sc := defScope s_law_box) (by decide +kernel)) (by decide) (fun _ _ _ _ _ => (ag_name (i := 1) nd rfl (Or.inl rfl))) (fun _ _ _ _ _ => (ats_one (at_cmp ao_lt (av 1) (ae_op ao_pow ae_int ae_int)))) (fun _ _ _ _ _ => (av 1))) (aa_cons ae_int aa_nil)))))))))
theorem ok_law_mixed  {dV : Value} (F : FunD K "_law_mixed" "_law_mixed" s_law_mixed dV f fd) : FnOk P w K mg base (CXR P w) 1 f fd p_law_mixed (spA K G w_law_mixed_0002) := by
  have nd := sc_law_mixed.nd
  exact F.okA sc_law_mixed (fun cdv A outer s₀ H₀ E₀ φ E hr hE hp => (ass_cons (as_set (i := 2) nd rfl (Or.inl rfl) (ae_op ao_mod (ae_op ao_pow (ae_op ao_add (ae_op ao_add (ae_op ao_add (ae_op ao_mod (av 0) ae_int) (ae_op ao_mul (ae_op ao_mul ae_int (av 1)) (av 1))) (ae_op ao_mul ae_int (av 1))) ae_int) ae_int) ae_int))
    (ass_one (as_ret (ae_op ao_mod (ae_op ao_add (ae_op ao_mul (av 2) ae_int) (ae_op ao_mul ae_int (av 1))) ae_int)))))
theorem ok_law_take (c_law_mixed : Cal P w K mg base 1 "_law_mixed" p_law_mixed (spA K G w_law_mixed_0002)) {dV : Value} (F : FunD K "_law_take" "_law_take" s_law_take dV f fd) : FnOk P w K mg base (CXR P w) 2 f fd p_law_take (spA K G w_law_take_dbef) := by
  have nd := sc_law_take.nd
  exact F.okA sc_law_take (fun cdv A outer s₀ H₀ E₀ φ E hr hE hp => (ass_cons (as_ix (ae_op ao_add (ae_ix (av 0) ae_int) ae_int) (av 0) ae_int)
    (ass_cons (as_if (AW.at (aw_and (at_cmp (ao_eq hr.units) (ae_ix (av 0) ae_int) ae_int) (aw_and1 (at_cmp ao_gt (ae_blt ac_len (by rfl) T.b_len (by decide +kernel) (aa_cons (ae_ix (av 0) ae_int) aa_nil)) ae_int)))) (ass_one (as_ix (ae_bm PySem.F.slot_list_pop PySem.F.type_list_pop am_pop (ae_ix (av 0) ae_int) (aa_cons ae_int aa_nil)) (av 0) ae_int)) ass_nil)
    (ass_cons (as_if (at_cmp ao_gt (ae_ix (av 0) ae_int) ae_int) (ass_cons (as_set (i := 2) nd rfl (Or.inl rfl) (ae_op ao_mod (ae_ix (av 0) ae_int) (av 1)))
    (ass_cons (as_ix (ae_op ao_div (ae_ix (av 0) ae_int) (av 1)) (av 0) ae_int)
    (ass_one (as_ret (av 2))))) ass_nil)
    (ass_cons (as_set (i := 3) nd rfl (Or.inl rfl) (ae_op ao_mul ae_int (ae_ix (av 0) ae_int)))
    (ass_cons (as_if (at_cmp ao_gt (ae_blt ac_len (by rfl) T.b_len (by decide +kernel) (aa_cons (ae_ix (av 0) ae_int) aa_nil)) ae_int) (ass_one (as_set (i := 3) nd rfl (Or.inl rfl) (ae_ix (ae_ix (av 0) ae_int) (ae_op ao_mod (ae_ix (av 0) ae_int) (ae_blt ac_len (by rfl) T.b_len (by decide +kernel) (aa_cons (ae_ix (av 0) ae_int) aa_nil)))))) ass_nil)
    (ass_cons (as_set (i := 2) nd rfl (Or.inl rfl) ae_int)
    (ass_cons (as_set (i := 4) nd rfl (Or.inl rfl) ae_int)
    (ass_cons (as_while (by first | exact PassesOwn.leaving | exact PassesOwn.never | exact PassesOwn.looking) (at_cmp ao_lt (av 4) (av 1)) (ass_cons (as_set (i := 2) nd rfl (Or.inl rfl) (ae_op ao_add (ae_op ao_mul (av 2) ae_int) (ae_call c_law_mixed hr hp (aa_cons (av 3) (aa_cons (ae_op ao_add (ae_ix (av 0) ae_int) (ae_op ao_mul ae_int (ae_op ao_mod (av 2) ae_int))) aa_nil)))))
    (ass_one (as_set (i := 4) nd rfl (Or.inl rfl) (ae_op ao_mul (av 4) ae_int)))))
    (ass_one (as_ret (ae_op ao_mod (av 2) (av 1)))))))))))))
theorem ok_law_pairs (c_law_take : Cal P w K mg base 2 "_law_take" p_law_take (spA K G w_law_take_dbef)) {dV : Value} (F : FunD K "_law_pairs" "_law_pairs" s_law_pairs dV f fd) : FnOk P w K mg base (CXR P w) 3 f fd p_law_pairs (spA K G w_law_pairs_6145) := by
  have nd := sc_law_pairs.nd
  exact F.okA sc_law_pairs (fun cdv A outer s₀ H₀ E₀ φ E hr hE hp => (ass_cons (as_set (i := 2) nd rfl (Or.inl rfl) (ae_lst aa_nil))
    (ass_cons (as_for (by first | exact PassesOwn.leaving | exact PassesOwn.never | exact PassesOwn.looking) rfl (ai_rng1 (by rfl) T.b_range (ae_call c_law_take hr hp (aa_cons (av 0) (aa_cons ae_int aa_nil)))) (ag_name (i := 3) nd rfl (Or.inl rfl)) (ass_cons (as_set (i := 4) nd rfl (Or.inl rfl) (ae_call c_law_take hr hp (aa_cons (av 0) (aa_cons ae_int aa_nil))))
    (ass_cons (as_set (i := 5) nd rfl (Or.inl rfl) (ae_call c_law_take hr hp (aa_cons (av 0) (aa_cons (ae_op ao_add (av 1) ae_int) aa_nil))))
    (ass_cons (as_set (i := 6) nd rfl (Or.inl rfl) (ae_op ao_add (av 5) (ae_call c_law_take hr hp (aa_cons (av 0) (aa_cons (ae_op ao_sub (ae_op ao_add (av 1) ae_int) (av 5)) aa_nil)))))
    (ass_cons (as_if (AW.at (aw_and (at_cmp (ao_eq hr.units) (av 4) ae_int) (aw_and1 (at_cmp ao_gt (ae_blt ac_len (by rfl) T.b_len (by decide +kernel) (aa_cons (av 2) aa_nil)) ae_int)))) (ass_cons (as_set (i := 5) nd rfl (Or.inl rfl) (ae_ix (ae_ix (av 2) (ae_call c_law_take hr hp (aa_cons (av 0) (aa_cons (ae_blt ac_len (by rfl) T.b_len (by decide +kernel) (aa_cons (av 2) aa_nil)) aa_nil)))) ae_int))
    (ass_one (as_set (i := 6) nd rfl (Or.inl rfl) (ae_blt (ac_max rfl) (by rfl) T.b_max (by decide +kernel) (aa_cons (av 5) (aa_cons (av 6) aa_nil)))))) ass_nil)
    (ass_cons (as_if (at_cmp (ao_eq hr.units) (av 4) ae_int) (ass_one (as_set (i := 6) nd rfl (Or.inl rfl) (ae_blt (ac_min rfl) (by rfl) T.b_min (by decide +kernel) (aa_cons (av 1) (aa_cons (ae_op ao_add (av 5) (ae_call c_law_take hr hp (aa_cons (av 0) (aa_cons ae_int aa_nil)))) aa_nil))))) ass_nil)
    (ass_one (as_expr (ae_bm PySem.F.slot_list_append PySem.F.type_list_append am_append (av 2) (aa_cons (ae_tup (aa_cons (av 5) (aa_cons (av 6) aa_nil))) aa_nil))))))))))
    (ass_one (as_ret (av 2))))))
theorem ok_law_low  {dV : Value} (F : FunD K "_law_low" "_law_low" s_law_low dV f fd) : FnOk P w K mg base (CXR P w) 1 f fd p_law_low (spA K G w_law_low_35aa) := by
  have nd := sc_law_low.nd
  exact F.okA sc_law_low (fun cdv A outer s₀ H₀ E₀ φ E hr hE hp => (ass_cons (as_set (i := 2) nd rfl (Or.inl rfl) (ae_blt ac_abs (by rfl) T.b_abs (by decide +kernel) (aa_cons (av 0) aa_nil)))
    (ass_cons (as_set (i := 3) nd rfl (Or.inl rfl) (ae_blt ac_abs (by rfl) T.b_abs (by decide +kernel) (aa_cons (av 1) aa_nil)))
    (ass_cons (as_while (by first | exact PassesOwn.leaving | exact PassesOwn.never | exact PassesOwn.looking) (at_cmp ao_gt (av 3) ae_int) (ass_one (as_par (i := 2) (j := 3) (by rfl) nd rfl rfl (by decide) rfl rfl (aa_cons (av 3) (aa_cons (ae_op ao_mod (av 2) (av 3)) aa_nil)) (by rfl))))
    (ass_cons (as_if (at_cmp ao_lt (av 1) ae_int) (ass_one (as_set (i := 2) nd rfl (Or.inl rfl) (ae_un ao_neg (av 2)))) ass_nil)
    (ass_one (as_ret (ae_tup (aa_cons (ae_op ao_div (av 0) (av 2)) (aa_cons (ae_op ao_div (av 1) (av 2)) aa_nil))))))))))
theorem ok_law_told (c_law_low : Cal P w K mg base 1 "_law_low" p_law_low (spA K G w_law_low_35aa)) {dV : Value} (F : FunD K "_law_told" "_law_told" s_law_told dV f fd) : FnOk P w K mg base (CXR P w) 2 f fd p_law_told (spA K G w_law_told_ca41) := by
  have nd := sc_law_told.nd
  exact F.okA sc_law_told (fun cdv A outer s₀ H₀ E₀ φ E hr hE hp => (ass_one (as_ret (ae_lc (own := [("_law_low_here", 2), ("_law_high", 3)]) (ws := [2, 3]) (g := (gT 2 (gsCons (gN 2) (gsCons (gN 3) gsNil)))) (Tt := tYesU) (We := (aTup (aCons (aCall w_law_low_35aa [] (aCons (aVar 2) (aCons (aVar 1) aNil))) (aCons (aCall w_law_low_35aa [] (aCons (aVar 3) (aCons (aVar 1) aNil))) aNil)))) (by rfl) nd (ai_seq (av 0)) (blkOk_by (own := [("_law_low_here", 2), ("_law_high", 3)]) (N := n_law_told) (sc := defScope s_law_told) (by decide +kernel)) (by decide) (fun _ _ _ _ _ => (ag_tup (by rfl) (ags_cons (ag_name (i := 2) nd rfl (Or.inl rfl)) (ags_cons (ag_name (i := 3) nd rfl (Or.inl rfl)) ags_nil)))) (fun _ _ _ _ _ => ats_nil) (fun _ _ _ _ _ => (ae_tup (aa_cons (ae_call c_law_low hr passX0 (aa_cons (av 2) (aa_cons (av 1) aa_nil))) (aa_cons (ae_call c_law_low hr passX0 (aa_cons (av 3) (aa_cons (av 1) aa_nil))) aa_nil))))))))
theorem ok_law_joined  {dV : Value} (F : FunD K "_law_joined" "_law_joined" s_law_joined dV f fd) : FnOk P w K mg base (CXR P w) 1 f fd p_law_joined (spA K G w_law_joined_aeb5) := by
  have nd := sc_law_joined.nd
  exact F.okA sc_law_joined (fun cdv A outer s₀ H₀ E₀ φ E hr hE hp => (ass_cons (as_set (i := 1) nd rfl (Or.inl rfl) (ae_lst aa_nil))
    (ass_cons (as_for (by first | exact PassesOwn.leaving | exact PassesOwn.never | exact PassesOwn.looking) rfl (ai_seq (ae_blt ac_sorted (by rfl) T.b_sorted (by decide +kernel) (aa_cons (ae_lc (own := [("_law_pair", 2)]) (ws := [2]) (g := (gN 2)) (Tt := (aB (aOp uLt (aOp uIx (aVar 2) (aC (.int 0))) (aOp uIx (aVar 2) (aC (.int 1)))))) (We := (aVar 2)) (by rfl) nd (ai_seq (av 0)) (blkOk_by (own := [("_law_pair", 2)]) (N := n_law_joined) (sc := defScope s_law_joined) (by decide +kernel)) (by decide) (fun _ _ _ _ _ => (ag_name (i := 2) nd rfl (Or.inl rfl))) (fun _ _ _ _ _ => (ats_one (at_cmp ao_lt (ae_ix (av 2) ae_int) (ae_ix (av 2) ae_int)))) (fun _ _ _ _ _ => (av 2))) aa_nil))) (ag_tup (by rfl) (ags_cons (ag_name (i := 3) nd rfl (Or.inl rfl)) (ags_cons (ag_name (i := 4) nd rfl (Or.inl rfl)) ags_nil))) (ass_one (as_if (AW.at (aw_and (at_cmp ao_gt (ae_blt ac_len (by rfl) T.b_len (by decide +kernel) (aa_cons (av 1) aa_nil)) ae_int) (aw_and1 (at_cmp ao_le (av 3) (ae_ix (ae_ix (av 1) (ae_un ao_neg ae_int)) ae_int))))) (ass_one (as_ix (ae_tup (aa_cons (ae_ix (ae_ix (av 1) (ae_un ao_neg ae_int)) ae_int) (aa_cons (ae_blt (ac_max rfl) (by rfl) T.b_max (by decide +kernel) (aa_cons (av 4) (aa_cons (ae_ix (ae_ix (av 1) (ae_un ao_neg ae_int)) ae_int) aa_nil))) aa_nil))) (av 1) (ae_un ao_neg ae_int))) (ass_one (as_expr (ae_bm PySem.F.slot_list_append PySem.F.type_list_append am_append (av 1) (aa_cons (ae_tup (aa_cons (av 3) (aa_cons (av 4) aa_nil))) aa_nil)))))))
    (ass_one (as_ret (av 1))))))
theorem ok_is_less  {dV : Value} (F : FunD K "is_less" "is_less" s_is_less dV f fd) : FnOk P w K mg base (CXR P w) 1 f fd p_is_less (spA K G w_is_less) := by
  have nd := sc_is_less.nd
  exact F.okA sc_is_less (fun cdv A outer s₀ H₀ E₀ φ E hr hE hp => (ass_one (as_ret (ae_cmp ao_lt (ae_op ao_mul (ae_ix (av 0) ae_int) (ae_ix (av 1) ae_int)) (ae_op ao_mul (ae_ix (av 1) ae_int) (ae_ix (av 0) ae_int))))))
theorem ok_is_span (c_is_less : Cal P w K mg base 1 "is_less" p_is_less (spA K G w_is_less)) {dV : Value} (F : FunD K "is_span" "is_span" s_is_span dV f fd) : FnOk P w K mg base (CXR P w) 2 f fd p_is_span (spA K G w_is_span) := by
  have nd := sc_is_span.nd
  exact F.okA sc_is_span (fun cdv A outer s₀ H₀ E₀ φ E hr hE hp => (ass_one (as_ret (ae_and (ae_not (ae_call c_is_less hr hp (aa_cons (av 0) (aa_cons (ae_glob (v := .ref (T.t_BEGIN).choose) (by rfl) (T.t_BEGIN).choose_spec.1 rfl (T.t_BEGIN).choose_spec.2) aa_nil)))) (ae_and (ae_not (ae_call c_is_less hr hp (aa_cons (ae_glob (v := .ref (T.t_END).choose) (by rfl) (T.t_END).choose_spec.1 rfl (T.t_END).choose_spec.2) (aa_cons (av 1) aa_nil)))) (ae_one (ae_not (ae_call c_is_less hr hp (aa_cons (av 1) (aa_cons (av 0) aa_nil))))))))))
theorem ok_check_span (c_is_span : Cal P w K mg base 2 "is_span" p_is_span (spA K G w_is_span)) (O_NoSpan : PyProof.Rows.OwnCls "NoSpan" (G "NoSpan") EXCB "ValueError.__new__" mg base) {dV : Value} (F : FunD K "check_span" "check_span" s_check_span dV f fd) : FnOk P w K mg base (CXR P w) 3 f fd p_check_span (spA K G w_check_span) := by
  have nd := sc_check_span.nd
  exact F.okA sc_check_span (fun cdv A outer s₀ H₀ E₀ φ E hr hE hp => (ass_one (as_if (at_not (at_val (ae_call c_is_span hr hp (aa_cons (av 0) (aa_cons (av 1) aa_nil))))) (ass_one (as_raise (cn := "NoSpan") O_NoSpan PySem.F.excBase_ValueError hE (aa_cons ae_str aa_nil))) ass_nil)))
theorem ok_lesser (c_is_less : Cal P w K mg base 1 "is_less" p_is_less (spA K G w_is_less)) {dV : Value} (F : FunD K "lesser" "lesser" s_lesser dV f fd) : FnOk P w K mg base (CXR P w) 2 f fd p_lesser (spA K G w_lesser) := by
  have nd := sc_lesser.nd
  exact F.okA sc_lesser (fun cdv A outer s₀ H₀ E₀ φ E hr hE hp => (ass_one (as_ret (ae_if (at_val (ae_call c_is_less hr hp (aa_cons (av 1) (aa_cons (av 0) aa_nil)))) (av 1) (av 0)))))
theorem ok_greater (c_is_less : Cal P w K mg base 1 "is_less" p_is_less (spA K G w_is_less)) {dV : Value} (F : FunD K "greater" "greater" s_greater dV f fd) : FnOk P w K mg base (CXR P w) 2 f fd p_greater (spA K G w_greater) := by
  have nd := sc_greater.nd
  exact F.okA sc_greater (fun cdv A outer s₀ H₀ E₀ φ E hr hE hp => (ass_one (as_ret (ae_if (at_val (ae_call c_is_less hr hp (aa_cons (av 0) (aa_cons (av 1) aa_nil)))) (av 1) (av 0)))))
theorem ok_with_span (c_is_less : Cal P w K mg base 1 "is_less" p_is_less (spA K G w_is_less)) (c_lesser : Cal P w K mg base 2 "lesser" p_lesser (spA K G w_lesser)) (c_greater : Cal P w K mg base 2 "greater" p_greater (spA K G w_greater)) {dV : Value} (F : FunD K "with_span" "with_span" s_with_span dV f fd) : FnOk P w K mg base (CXR P w) 3 f fd p_with_span (spA K G w_with_span) := by
  have nd := sc_with_span.nd
  exact F.okA sc_with_span (fun cdv A outer s₀ H₀ E₀ φ E hr hE hp => (ass_cons (as_set (i := 3) nd rfl (Or.inl rfl) (ae_lst aa_nil))
    (ass_cons (as_set (i := 4) nd rfl (Or.inl rfl) (ae_lst aa_nil))
    (ass_cons (as_set (i := 5) nd rfl (Or.inl rfl) (av 1))
    (ass_cons (as_set (i := 6) nd rfl (Or.inl rfl) (av 2))
    (ass_cons (as_for (by first | exact PassesOwn.leaving | exact PassesOwn.never | exact PassesOwn.looking) rfl (ai_seq (av 0)) (ag_tup (by rfl) (ags_cons (ag_name (i := 7) nd rfl (Or.inl rfl)) (ags_cons (ag_name (i := 8) nd rfl (Or.inl rfl)) ags_nil))) (ass_one (as_if (at_val (ae_call c_is_less hr hp (aa_cons (av 8) (aa_cons (av 1) aa_nil)))) (ass_one (as_expr (ae_bm PySem.F.slot_list_append PySem.F.type_list_append am_append (av 3) (aa_cons (ae_tup (aa_cons (av 7) (aa_cons (av 8) aa_nil))) aa_nil)))) (ass_one (as_if (at_val (ae_call c_is_less hr hp (aa_cons (av 2) (aa_cons (av 7) aa_nil)))) (ass_one (as_expr (ae_bm PySem.F.slot_list_append PySem.F.type_list_append am_append (av 4) (aa_cons (ae_tup (aa_cons (av 7) (aa_cons (av 8) aa_nil))) aa_nil)))) (ass_cons (as_set (i := 5) nd rfl (Or.inl rfl) (ae_call c_lesser hr hp (aa_cons (av 5) (aa_cons (av 7) aa_nil))))
    (ass_one (as_set (i := 6) nd rfl (Or.inl rfl) (ae_call c_greater hr hp (aa_cons (av 6) (aa_cons (av 8) aa_nil)))))))))))
    (ass_one (as_ret (ae_lst (aa_star (av 3) (aa_cons (ae_tup (aa_cons (av 5) (aa_cons (av 6) aa_nil))) (aa_star (av 4) aa_nil))))))))))))
theorem ok_told_spans (c_check_span : Cal P w K mg base 3 "check_span" p_check_span (spA K G w_check_span)) (c_is_less : Cal P w K mg base 1 "is_less" p_is_less (spA K G w_is_less)) (c_with_span : Cal P w K mg base 3 "with_span" p_with_span (spA K G w_with_span)) {dV : Value} (F : FunD K "told_spans" "told_spans" s_told_spans dV f fd) : FnOk P w K mg base (CXR P w) 4 f fd p_told_spans (spA K G w_told_spans) := by
  have nd := sc_told_spans.nd
  exact F.okA sc_told_spans (fun cdv A outer s₀ H₀ E₀ φ E hr hE hp => (ass_cons (as_set (i := 1) nd rfl (Or.inl rfl) (ae_lst aa_nil))
    (ass_cons (as_for (by first | exact PassesOwn.leaving | exact PassesOwn.never | exact PassesOwn.looking) rfl (ai_seq (av 0)) (ag_tup (by rfl) (ags_cons (ag_name (i := 2) nd rfl (Or.inl rfl)) (ags_cons (ag_name (i := 3) nd rfl (Or.inl rfl)) ags_nil))) (ass_cons (as_expr (ae_call c_check_span hr hp (aa_cons (av 2) (aa_cons (av 3) aa_nil))))
    (ass_one (as_if (at_val (ae_call c_is_less hr hp (aa_cons (av 2) (aa_cons (av 3) aa_nil)))) (ass_one (as_set (i := 1) nd rfl (Or.inl rfl) (ae_call c_with_span hr hp (aa_cons (av 1) (aa_cons (av 2) (aa_cons (av 3) aa_nil)))))) ass_nil))))
    (ass_one (as_ret (av 1))))))
theorem ok_Share_init (c_told_spans : Cal P w K mg base 4 "told_spans" p_told_spans (spA K G w_told_spans)) {dV : Value} (F : FunD K "__init__" "Share.__init__" s_Share_init dV f fd) : FnOk P w K mg base (CXR P w) 5 f fd p_Share_init (spA K G w_Share_init) := by
  have nd := sc_Share_init.nd
  exact F.okA sc_Share_init (fun cdv A outer s₀ H₀ E₀ φ E hr hE hp => (ass_one (as_fld T.f_Share_held (ae_call c_told_spans hr hp (aa_cons (av 1) aa_nil)) (av 0))))
theorem ok_fraction_text  {dV : Value} (F : FunD K "fraction_text" "fraction_text" s_fraction_text dV f fd) : FnOk P w K mg base (CXR P w) 1 f fd p_fraction_text (spA K G w_fraction_text) := by
  have nd := sc_fraction_text.nd
  exact F.okA sc_fraction_text (fun cdv A outer s₀ H₀ E₀ φ E hr hE hp => (ass_cons (as_asg (av 0) (ag_tup (by rfl) (ags_cons (ag_name (i := 1) nd rfl (Or.inl rfl)) (ags_cons (ag_name (i := 2) nd rfl (Or.inl rfl)) ags_nil))))
    (ass_one (as_ret (ae_if (at_cmp (ao_eq hr.units) (av 2) ae_int) (ae_bty ac_str (by rfl) T.b_str (by decide +kernel) (aa_cons (av 1) aa_nil)) (ae_fs (aj_val (av 1) (aj_str (aj_val (av 2) aj_nil)))))))))
theorem ok_Share_str (c_fraction_text : Cal P w K mg base 1 "fraction_text" p_fraction_text (spA K G w_fraction_text)) {dV : Value} (F : FunD K "__str__" "Share.__str__" s_Share_str dV f fd) : FnOk P w K mg base (CXR P w) 2 f fd p_Share_str (spA K G w_Share_str) := by
  have nd := sc_Share_str.nd
  exact F.okA sc_Share_str (fun cdv A outer s₀ H₀ E₀ φ E hr hE hp => (ass_cons (as_if (at_cmp (ao_eq hr.units) (ae_fld T.f_Share_held (av 0)) (ae_lst aa_nil)) (ass_one (as_ret ae_str)) ass_nil)
    (ass_one (as_ret (ae_sm PySem.F.slot_str_join PySem.F.type_str_join am_join ae_str (aa_cons (ae_lc (own := [("here", 1), ("there", 2)]) (ws := [1, 2]) (g := (gT 2 (gsCons (gN 1) (gsCons (gN 2) gsNil)))) (Tt := tYesU) (We := (aFs (jVal (aCall w_fraction_text [] (aCons (aVar 1) aNil)) (jStr "-" (jVal (aCall w_fraction_text [] (aCons (aVar 2) aNil)) jNil))))) (by rfl) nd (ai_seq (ae_fld T.f_Share_held (av 0))) (blkOk_by (own := [("here", 1), ("there", 2)]) (N := n_Share_str) (sc := defScope s_Share_str) (by decide +kernel)) (by decide) (fun _ _ _ _ _ => (ag_tup (by rfl) (ags_cons (ag_name (i := 1) nd rfl (Or.inl rfl)) (ags_cons (ag_name (i := 2) nd rfl (Or.inl rfl)) ags_nil)))) (fun _ _ _ _ _ => ats_nil) (fun _ _ _ _ _ => (ae_fs (aj_val (ae_call c_fraction_text hr passX0 (aa_cons (av 1) aa_nil)) (aj_str (aj_val (ae_call c_fraction_text hr passX0 (aa_cons (av 2) aa_nil)) aj_nil)))))) aa_nil))))))
theorem ok_law_number  {dV : Value} (F : FunD K "_law_number" "_law_number" s_law_number dV f fd) : FnOk P w K mg base (CXR P w) 1 f fd p_law_number (spA K G w_law_text_d5f7) := by
  have nd := sc_law_number.nd
  exact F.okA sc_law_number (fun cdv A outer s₀ H₀ E₀ φ E hr hE hp => (ass_cons (as_if (at_cmp (ao_eq hr.units) (ae_ix (av 0) ae_int) ae_int) (ass_one (as_ret (ae_bty ac_str (by rfl) T.b_str (by decide +kernel) (aa_cons (ae_ix (av 0) ae_int) aa_nil)))) ass_nil)
    (ass_one (as_ret (ae_op ao_add (ae_op ao_add (ae_bty ac_str (by rfl) T.b_str (by decide +kernel) (aa_cons (ae_ix (av 0) ae_int) aa_nil)) ae_str) (ae_bty ac_str (by rfl) T.b_str (by decide +kernel) (aa_cons (ae_ix (av 0) ae_int) aa_nil)))))))
theorem ok_law_text (c_law_number : Cal P w K mg base 1 "_law_number" p_law_number (spA K G w_law_text_d5f7)) {dV : Value} (F : FunD K "_law_text" "_law_text" s_law_text dV f fd) : FnOk P w K mg base (CXR P w) 2 f fd p_law_text (spA K G w_law_text_53b6) := by
  have nd := sc_law_text.nd
  exact F.okA sc_law_text (fun cdv A outer s₀ H₀ E₀ φ E hr hE hp => (ass_cons (as_if (at_cmp (ao_eq hr.units) (ae_blt ac_len (by rfl) T.b_len (by decide +kernel) (aa_cons (av 0) aa_nil)) ae_int) (ass_one (as_ret ae_str)) ass_nil)
    (ass_one (as_ret (ae_sm PySem.F.slot_str_join PySem.F.type_str_join am_join ae_str (aa_cons (ae_lc (own := [("_law_here", 1), ("_law_there", 2)]) (ws := [1, 2]) (g := (gT 2 (gsCons (gN 1) (gsCons (gN 2) gsNil)))) (Tt := tYesU) (We := (aOp uAdd (aOp uAdd (aCall w_law_text_d5f7 [] (aCons (aVar 1) aNil)) (aC (.str "-"))) (aCall w_law_text_d5f7 [] (aCons (aVar 2) aNil)))) (by rfl) nd (ai_seq (av 0)) (blkOk_by (own := [("_law_here", 1), ("_law_there", 2)]) (N := n_law_text) (sc := defScope s_law_text) (by decide +kernel)) (by decide) (fun _ _ _ _ _ => (ag_tup (by rfl) (ags_cons (ag_name (i := 1) nd rfl (Or.inl rfl)) (ags_cons (ag_name (i := 2) nd rfl (Or.inl rfl)) ags_nil)))) (fun _ _ _ _ _ => ats_nil) (fun _ _ _ _ _ => (ae_op ao_add (ae_op ao_add (ae_call c_law_number hr passX0 (aa_cons (av 1) aa_nil)) ae_str) (ae_call c_law_number hr passX0 (aa_cons (av 2) aa_nil))))) aa_nil))))))
theorem ok_is_number  {dV : Value} (F : FunD K "is_number" "is_number" s_is_number dV f fd) : FnOk P w K mg base (CXR P w) 1 f fd p_is_number (spA K G w_is_number) := by
  have nd := sc_is_number.nd
  exact F.okA sc_is_number (fun cdv A outer s₀ H₀ E₀ φ E hr hE hp => (ass_cons (as_if (at_not (at_chain ao_le ao_le ae_int (ae_blt ac_len (by rfl) T.b_len (by decide +kernel) (aa_cons (av 0) aa_nil)) (ae_glob (v := .int 40) (by rfl) (T.i_MOST_FIGURES).choose_spec ⟨_, rfl⟩ (fun _ _ => .int)))) (ass_one (as_ret ae_bl)) ass_nil)
    (ass_cons (as_if (AW.at (aw_and (at_cmp ao_gt (ae_blt ac_len (by rfl) T.b_len (by decide +kernel) (aa_cons (av 0) aa_nil)) ae_int) (aw_and1 (at_cmp (ao_eq hr.units) (ae_ix (av 0) ae_int) ae_str)))) (ass_one (as_ret ae_bl)) ass_nil)
    (ass_one (as_ret (ae_blt (ac_all rfl) (by rfl) T.b_all (by decide +kernel) (aa_cons (ae_lc (own := [("sign", 1)]) (ws := [1]) (g := (gN 1)) (Tt := tYesU) (We := (aOp (uIn false) (aVar 1) (aC (.str "0123456789")))) (by rfl) nd (ai_seq (av 0)) (blkOk_by (own := [("sign", 1)]) (N := n_is_number) (sc := defScope s_is_number) (by decide +kernel)) (by decide) (fun _ _ _ _ _ => (ag_name (i := 1) nd rfl (Or.inl rfl))) (fun _ _ _ _ _ => ats_nil) (fun _ _ _ _ _ => (ae_cmp (ao_in (hr.units65)) (av 1) (ae_glob (v := .str "0123456789") (by rfl) (T.s_FIGURES).choose_spec ⟨_, rfl⟩ (fun _ _ => .str))))) aa_nil)))))))
theorem ok_greatest_divisor  {dV : Value} (F : FunD K "greatest_divisor" "greatest_divisor" s_greatest_divisor dV f fd) : FnOk P w K mg base (CXR P w) 1 f fd p_greatest_divisor (spA K G w_greatest_divisor) := by
  have nd := sc_greatest_divisor.nd
  exact F.okA sc_greatest_divisor (fun cdv A outer s₀ H₀ E₀ φ E hr hE hp => (ass_cons (as_while (by first | exact PassesOwn.leaving | exact PassesOwn.never | exact PassesOwn.looking) (at_cmp (ao_ne hr.units) (av 1) ae_int) (ass_one (as_par (i := 0) (j := 1) (by rfl) nd rfl rfl (by decide) rfl rfl (aa_cons (av 1) (aa_cons (ae_op ao_mod (av 0) (av 1)) aa_nil)) (by rfl))))
    (ass_one (as_ret (av 0)))))
theorem ok_fraction_of (c_greatest_divisor : Cal P w K mg base 1 "greatest_divisor" p_greatest_divisor (spA K G w_greatest_divisor)) (O_NoFraction : PyProof.Rows.OwnCls "NoFraction" (G "NoFraction") EXCB "ValueError.__new__" mg base) {dV : Value} (F : FunD K "fraction_of" "fraction_of" s_fraction_of dV f fd) : FnOk P w K mg base (CXR P w) 2 f fd p_fraction_of (spA K G w_fraction_of) := by
  have nd := sc_fraction_of.nd
  exact F.okA sc_fraction_of (fun cdv A outer s₀ H₀ E₀ φ E hr hE hp => (ass_cons (as_if (at_cmp (ao_eq hr.units) (av 1) ae_int) (ass_one (as_raise (cn := "NoFraction") O_NoFraction PySem.F.excBase_ValueError hE (aa_cons ae_str aa_nil))) ass_nil)
    (ass_cons (as_set (i := 2) nd rfl (Or.inl rfl) (ae_call c_greatest_divisor hr hp (aa_cons (ae_blt ac_abs (by rfl) T.b_abs (by decide +kernel) (aa_cons (av 0) aa_nil)) (aa_cons (ae_blt ac_abs (by rfl) T.b_abs (by decide +kernel) (aa_cons (av 1) aa_nil)) aa_nil))))
    (ass_cons (as_if (at_cmp ao_lt (av 1) ae_int) (ass_one (as_set (i := 2) nd rfl (Or.inl rfl) (ae_un ao_neg (av 2)))) ass_nil)
    (ass_one (as_ret (ae_tup (aa_cons (ae_op ao_div (av 0) (av 2)) (aa_cons (ae_op ao_div (av 1) (av 2)) aa_nil)))))))))
theorem ok_read_fraction (c_is_number : Cal P w K mg base 1 "is_number" p_is_number (spA K G w_is_number)) (c_fraction_of : Cal P w K mg base 2 "fraction_of" p_fraction_of (spA K G w_fraction_of)) (c_fraction_text : Cal P w K mg base 1 "fraction_text" p_fraction_text (spA K G w_fraction_text)) (O_NoText : PyProof.Rows.OwnCls "NoText" (G "NoText") EXCB "ValueError.__new__" mg base) {dV : Value} (F : FunD K "read_fraction" "read_fraction" s_read_fraction dV f fd) : FnOk P w K mg base (CXR P w) 3 f fd p_read_fraction (spA K G w_read_fraction) := by
  have nd := sc_read_fraction.nd
  exact F.okA sc_read_fraction (fun cdv A outer s₀ H₀ E₀ φ E hr hE hp => (ass_cons (as_asg (ae_sm PySem.F.slot_str_partition PySem.F.type_str_partition am_partition (ae_sm PySem.F.slot_str_removeprefix PySem.F.type_str_removeprefix am_remp (av 0) (aa_cons ae_str aa_nil)) (aa_cons ae_str aa_nil)) (ag_tup (by rfl) (ags_cons (ag_name (i := 1) nd rfl (Or.inl rfl)) (ags_cons (ag_name (i := 2) nd rfl (Or.inl rfl)) (ags_cons (ag_name (i := 3) nd rfl (Or.inl rfl)) ags_nil)))))
    (ass_cons (as_if (at_cmp (ao_eq hr.units) (av 2) ae_str) (ass_one (as_set (i := 3) nd rfl (Or.inl rfl) ae_str)) ass_nil)
    (ass_cons (as_if (AW.at (aw_or (at_not (at_val (ae_call c_is_number hr hp (aa_cons (av 1) aa_nil)))) (aw_or (at_not (at_val (ae_call c_is_number hr hp (aa_cons (av 3) aa_nil)))) (aw_or1 (at_cmp (ao_eq hr.units) (av 3) ae_str))))) (ass_one (as_raise (cn := "NoText") O_NoText PySem.F.excBase_ValueError hE (aa_cons ae_str aa_nil))) ass_nil)
    (ass_cons (as_set (i := 4) nd rfl (Or.inl rfl) (ae_if (at_cmp (ao_eq hr.units) (ae_ix (av 0) ae_int) ae_str) (ae_un ao_neg (ae_bty ac_int (by rfl) T.b_int (by decide +kernel) (aa_cons (av 1) aa_nil))) (ae_bty ac_int (by rfl) T.b_int (by decide +kernel) (aa_cons (av 1) aa_nil))))
    (ass_cons (as_set (i := 5) nd rfl (Or.inl rfl) (ae_call c_fraction_of hr hp (aa_cons (av 4) (aa_cons (ae_bty ac_int (by rfl) T.b_int (by decide +kernel) (aa_cons (av 3) aa_nil)) aa_nil))))
    (ass_cons (as_if (at_cmp (ao_ne hr.units) (ae_call c_fraction_text hr hp (aa_cons (av 5) aa_nil)) (av 0)) (ass_one (as_raise (cn := "NoText") O_NoText PySem.F.excBase_ValueError hE (aa_cons ae_str aa_nil))) ass_nil)
    (ass_one (as_ret (av 5))))))))))
theorem ok_read_span (c_read_fraction : Cal P w K mg base 3 "read_fraction" p_read_fraction (spA K G w_read_fraction)) {dV : Value} (F : FunD K "read_span" "read_span" s_read_span dV f fd) : FnOk P w K mg base (CXR P w) 4 f fd p_read_span (spA K G w_read_span) := by
  have nd := sc_read_span.nd
  exact F.okA sc_read_span (fun cdv A outer s₀ H₀ E₀ φ E hr hE hp => (ass_cons (as_asg (ae_sm PySem.F.slot_str_partition PySem.F.type_str_partition am_partition (av 0) (aa_cons ae_str aa_nil)) (ag_tup (by rfl) (ags_cons (ag_name (i := 1) nd rfl (Or.inl rfl)) (ags_cons (ag_name (i := 2) nd rfl (Or.inl rfl)) (ags_cons (ag_name (i := 3) nd rfl (Or.inl rfl)) ags_nil)))))
    (ass_one (as_ret (ae_tup (aa_cons (ae_call c_read_fraction hr hp (aa_cons (av 1) aa_nil)) (aa_cons (ae_call c_read_fraction hr hp (aa_cons (av 3) aa_nil)) aa_nil)))))))
theorem ok_read_share (c_read_span : Cal P w K mg base 4 "read_span" p_read_span (spA K G w_read_span)) (mk_Share : Mak P w K mg base 5 "Share" (G "Share") p_Share_init (spA K G w_Share_init)) (mf_str_ : ∀ X : Cx, X.prog = P → X.w = w → X.K = K → X.mg = mg → X.base = base → MFam X G 2 "__str__" [] [("Share", w_Share_str)]) (O_NoText : PyProof.Rows.OwnCls "NoText" (G "NoText") EXCB "ValueError.__new__" mg base) {dV : Value} (F : FunD K "read_share" "read_share" s_read_share dV f fd) : FnOk P w K mg base (CXR P w) 7 f fd p_read_share (spA K G w_read_share) := by
  have nd := sc_read_share.nd
  exact F.okA sc_read_share (fun cdv A outer s₀ H₀ E₀ φ E hr hE hp => (ass_cons (as_if (at_cmp (ao_eq hr.units) (av 0) ae_str) (ass_one (as_ret (ae_make (cn := "Share") mk_Share hr hp (aa_cons (ae_lst aa_nil) aa_nil)))) ass_nil)
    (ass_cons (as_try ⟨rfl, rfl, rfl⟩ (fun _ _ _ _ _ hpT => (ass_one (as_set (i := 2) nd rfl (Or.inl rfl) (ae_make (cn := "Share") mk_Share hr hpT (aa_cons (ae_lc (own := [("word", 1)]) (ws := [1]) (g := (gN 1)) (Tt := tYesU) (We := (aCall w_read_span [] (aCons (aVar 1) aNil))) (by rfl) nd (ai_seq (ae_sm PySem.F.slot_str_split PySem.F.type_str_split am_split (av 0) (aa_cons ae_str aa_nil))) (blkOk_by (own := [("word", 1)]) (N := n_read_share) (sc := defScope s_read_share) (by decide +kernel)) (by decide) (fun _ _ _ _ _ => (ag_name (i := 1) nd rfl (Or.inl rfl))) (fun _ _ _ _ _ => ats_nil) (fun _ _ _ _ _ => (ae_call c_read_span hr passX0 (aa_cons (av 1) aa_nil)))) aa_nil))))) (ah_cons ⟨rfl, rfl, rfl⟩ (NameIs.own rfl T.xn_NoSpan) (exOk_cons T.xm_NoSpan_NoSpan (exOk_cons T.xm_NoText_NoSpan (exOk_cons T.xm_NoFraction_NoSpan exOk_nil))) (fun _ => (ass_one as_never)) ah_none))
    (ass_cons (as_if (at_cmp (ao_ne hr.units) (ae_bty (ac_strO (mf_str_ _ rfl rfl rfl rfl rfl) hr) (by rfl) T.b_str (by decide +kernel) (aa_cons (av 2) aa_nil)) (av 0)) (ass_one (as_raise (cn := "NoText") O_NoText PySem.F.excBase_ValueError hE (aa_cons ae_str aa_nil))) ass_nil)
    (ass_one (as_ret (av 2)))))))
theorem ok_Share_spans  {dV : Value} (F : FunD K "spans" "Share.spans" s_Share_spans dV f fd) : FnOk P w K mg base (CXR P w) 1 f fd p_Share_spans (spA K G w_Share_spans) := by
  have nd := sc_Share_spans.nd
  exact F.okA sc_Share_spans (fun cdv A outer s₀ H₀ E₀ φ E hr hE hp => (ass_one (as_ret (ae_bty ac_list (by rfl) T.b_list (by decide +kernel) (aa_cons (ae_fld T.f_Share_held (av 0)) aa_nil)))))
theorem ok_law_plain  {dV : Value} (F : FunD K "_law_plain" "_law_plain" s_law_plain dV f fd) : FnOk P w K mg base (CXR P w) 1 f fd p_law_plain (spA K G w_law_plain_6e75) := by
  have nd := sc_law_plain.nd
  exact F.okA sc_law_plain (fun cdv A outer s₀ H₀ E₀ φ E hr hE hp => (ass_cons (as_if (at_not (at_val (ae_isi (by rfl) T.b_isinstance (pe_bltn (v := .ty "list") (by rfl) T.b_list (by decide +kernel) rfl) rfl T.k_list (av 0)))) (ass_one (as_ret ae_bl)) ass_nil)
    (ass_cons (as_for (by first | exact PassesOwn.leaving | exact PassesOwn.never | exact PassesOwn.looking) rfl (ai_seq (av 0)) (ag_name (i := 1) nd rfl (Or.inl rfl)) (ass_cons (as_if (AW.at (aw_or (at_not (at_val (ae_isi (by rfl) T.b_isinstance (pe_bltn (v := .ty "tuple") (by rfl) T.b_tuple (by decide +kernel) rfl) rfl T.k_tuple (av 1)))) (aw_or1 (at_cmp (ao_ne hr.units) (ae_blt ac_len (by rfl) T.b_len (by decide +kernel) (aa_cons (av 1) aa_nil)) ae_int)))) (ass_one (as_ret ae_bl)) ass_nil)
    (ass_one (as_for (by first | exact PassesOwn.leaving | exact PassesOwn.never | exact PassesOwn.looking) rfl (ai_seq (av 1)) (ag_name (i := 2) nd rfl (Or.inl rfl)) (ass_cons (as_if (AW.at (aw_or (at_not (at_val (ae_isi (by rfl) T.b_isinstance (pe_bltn (v := .ty "tuple") (by rfl) T.b_tuple (by decide +kernel) rfl) rfl T.k_tuple (av 2)))) (aw_or1 (at_cmp (ao_ne hr.units) (ae_blt ac_len (by rfl) T.b_len (by decide +kernel) (aa_cons (av 2) aa_nil)) ae_int)))) (ass_one (as_ret ae_bl)) ass_nil)
    (ass_one (as_if (at_not (at_val (ae_blt (ac_all rfl) (by rfl) T.b_all (by decide +kernel) (aa_cons (ae_lc (own := [("_law_part", 3)]) (ws := [3]) (g := (gN 3)) (Tt := tYesU) (We := (aAnd (aUn (uIsi is_int) (aVar 3)) (aNot (aUn (uIsi is_bool) (aVar 3))))) (by rfl) nd (ai_seq (av 2)) (blkOk_by (own := [("_law_part", 3)]) (N := n_law_plain) (sc := defScope s_law_plain) (by decide +kernel)) (by decide) (fun _ _ _ _ _ => (ag_name (i := 3) nd rfl (Or.inl rfl))) (fun _ _ _ _ _ => ats_nil) (fun _ _ _ _ _ => (ae_and (ae_isi (by rfl) T.b_isinstance (pe_bltn (v := .ty "int") (by rfl) T.b_int (by decide +kernel) rfl) rfl T.k_int (av 3)) (ae_one (ae_not (ae_isi (by rfl) T.b_isinstance (pe_bltn (v := .ty "bool") (by rfl) T.b_bool (by decide +kernel) rfl) rfl T.k_bool (av 3))))))) aa_nil)))) (ass_one (as_ret ae_bl)) ass_nil)))))))
    (ass_one (as_ret ae_bl)))))
theorem ok_Share_eq  {dV : Value} (F : FunD K "__eq__" "Share.__eq__" s_Share_eq dV f fd) : FnOk P w K mg base (CXR P w) 1 f fd p_Share_eq (spA K G w_Share_eq) := by
  have nd := sc_Share_eq.nd
  exact F.okA sc_Share_eq (fun cdv A outer s₀ H₀ E₀ φ E hr hE hp => (ass_one (as_ret (ae_and (ae_isi (by rfl) T.b_isinstance (pe_glob (v := .ref (G "Share")) (by rfl) T.cn_Share rfl) rfl (isO_cons T.it_Share T.ok_Share_Share (isO_nil T.kb_Share)) (av 1)) (ae_one (ae_cmp (ao_eq hr.units) (ae_fld T.f_Share_held (av 0)) (ae_fld T.f_Share_held (av 1))))))))
theorem ok_law (c_law_box : Cal P w K mg base 1 "_law_box" p_law_box (spA K G w_law_box_1502)) (c_law_take : Cal P w K mg base 2 "_law_take" p_law_take (spA K G w_law_take_dbef)) (c_law_pairs : Cal P w K mg base 3 "_law_pairs" p_law_pairs (spA K G w_law_pairs_6145)) (c_law_told : Cal P w K mg base 2 "_law_told" p_law_told (spA K G w_law_told_ca41)) (c_law_joined : Cal P w K mg base 1 "_law_joined" p_law_joined (spA K G w_law_joined_aeb5)) (c_law_text : Cal P w K mg base 2 "_law_text" p_law_text (spA K G w_law_text_53b6)) (c_read_share : Cal P w K mg base 7 "read_share" p_read_share (spA K G w_read_share)) (c_law_plain : Cal P w K mg base 1 "_law_plain" p_law_plain (spA K G w_law_plain_6e75)) (mk_Share : Mak P w K mg base 5 "Share" (G "Share") p_Share_init (spA K G w_Share_init)) (ck1_read_share : CalK P w K mg base 7 "read_share" p_read_share ["text"] gk1V (spA K G w_read_share)) (mf_str_ : ∀ X : Cx, X.prog = P → X.w = w → X.K = K → X.mg = mg → X.base = base → MFam X G 2 "__str__" [] [("Share", w_Share_str)]) (mf_spans : ∀ X : Cx, X.prog = P → X.w = w → X.K = K → X.mg = mg → X.base = base → MFam X G 1 "spans" [] [("Share", w_Share_spans)]) (mf_eq_ : ∀ X : Cx, X.prog = P → X.w = w → X.K = K → X.mg = mg → X.base = base → MFam X G 1 "__eq__" [] [("Share", w_Share_eq)]) {dV : Value} (F : FunD K "law" "law" s_law dV f fd) : FnOk P w K mg base (CXR P w) 8 f fd p_law (spA K G w_law_0869) := by
  have nd := sc_law.nd
  exact F.okA sc_law (fun cdv A outer s₀ H₀ E₀ φ E hr hE hp => (ass_cons (as_set (i := 1) nd rfl (Or.inr rfl) (ae_call c_law_box hr hp (aa_cons (av 0) aa_nil)))
    (ass_cons (as_set (i := 2) nd rfl (Or.inl rfl) (ae_call c_law_take hr hp (aa_cons (av 1) (aa_cons ae_int aa_nil))))
    (ass_cons (as_set (i := 3) nd rfl (Or.inl rfl) (ae_op ao_add ae_int (ae_call c_law_take hr hp (aa_cons (av 1) (aa_cons (ae_ix (ae_lst (aa_cons ae_int (aa_cons ae_int (aa_cons ae_int (aa_cons (ae_op ao_pow ae_int ae_int) aa_nil))))) (ae_call c_law_take hr hp (aa_cons (av 1) (aa_cons ae_int aa_nil)))) aa_nil)))))
    (ass_cons (as_set (i := 4) nd rfl (Or.inl rfl) (ae_call c_law_pairs hr hp (aa_cons (av 1) (aa_cons (av 3) aa_nil))))
    (ass_cons (as_if (at_cmp (ao_eq hr.units) (av 2) ae_int) (ass_cons (as_set (i := 3) nd rfl (Or.inl rfl) (ae_op ao_add ae_int (ae_call c_law_take hr hp (aa_cons (av 1) (aa_cons ae_int aa_nil)))))
    (ass_one (as_setLc (i := 4) (own := [("_law_k", 5)]) (ws := [5]) (g := (gN 5)) (Tt := (aB (aOp uEq (aCall w_law_take_dbef [] (aCons (aVar 1) (aCons (aC (.int 2)) aNil))) (aC (.int 0))))) (We := (aTup (aCons (aVar 5) (aCons (aOp uAdd (aVar 5) (aC (.int 1))) aNil)))) (by rfl) nd rfl rfl (sw_true rfl rfl rfl (by decide +kernel)) (ai_rng1 (by rfl) T.b_range (av 3)) (blkOk_by (own := [("_law_k", 5)]) (N := n_law) (sc := defScope s_law) (by decide +kernel)) (by decide) (fun _ _ _ _ _ => (ag_name (i := 5) nd rfl (Or.inl rfl))) (fun _ _ _ _ _ => (ats_one (at_cmp (ao_eq hr.units) (ae_call c_law_take hr passX0 (aa_cons (av 1) (aa_cons ae_int aa_nil))) ae_int))) (fun _ _ _ _ _ => (ae_tup (aa_cons (av 5) (aa_cons (ae_op ao_add (av 5) ae_int) aa_nil))))))) ass_nil)
    (ass_cons (as_set (i := 6) nd rfl (Or.inl rfl) (ae_call c_law_told hr hp (aa_cons (ae_call c_law_joined hr hp (aa_cons (av 4) aa_nil)) (aa_cons (av 3) aa_nil))))
    (ass_cons (as_set (i := 7) nd rfl (Or.inl rfl) (ae_make (cn := "Share") mk_Share hr hp (aa_cons (av 6) aa_nil)))
    (ass_cons (as_set (i := 8) nd rfl (Or.inl rfl) (ae_bty (ac_strO (mf_str_ _ rfl rfl rfl rfl rfl) hr) (by rfl) T.b_str (by decide +kernel) (aa_cons (av 7) aa_nil)))
    (ass_cons (as_if (AW.at (aw_or (at_not (at_val (ae_isi (by rfl) T.b_isinstance (pe_bltn (v := .ty "str") (by rfl) T.b_str (by decide +kernel) rfl) rfl T.k_str (av 8)))) (aw_or1 (at_cmp (ao_ne hr.units) (av 8) (ae_call c_law_text hr hp (aa_cons (av 6) aa_nil)))))) (ass_one (as_ret ae_bl)) ass_nil)
    (ass_cons (as_set (i := 9) nd rfl (Or.inl rfl) (ae_call c_read_share hr hp (aa_cons (av 8) aa_nil)))
    (ass_cons (as_set (i := 10) nd rfl (Or.inl rfl) (ae_meth0 (mf_spans _ rfl rfl rfl rfl rfl) hr hp (av 9)))
    (ass_cons (as_if (AW.at (aw_or (at_not (at_val (ae_call c_law_plain hr hp (aa_cons (av 10) aa_nil)))) (aw_or (at_cmp (ao_ne hr.units) (av 10) (av 6)) (aw_or (at_not (at_cmp (ao_eqK (mf_eq_ _ rfl rfl rfl rfl rfl) hr) (av 9) (av 7))) (aw_or1 (at_cmp (ao_neK (mf_eq_ _ rfl rfl rfl rfl rfl) (neF1 T.it_Share T.ne_Share) hr) (av 9) (av 7))))))) (ass_one (as_ret ae_bl)) ass_nil)
    (ass_cons (as_expr (ae_bm PySem.F.slot_list_append PySem.F.type_list_append am_append (av 10) (aa_cons (ae_tup (aa_cons (ae_tup (aa_cons ae_int (aa_cons ae_int aa_nil))) (aa_cons (ae_tup (aa_cons ae_int (aa_cons ae_int aa_nil))) aa_nil))) aa_nil)))
    (ass_cons (as_if (AW.at (aw_or (at_cmp (ao_ne hr.units) (ae_meth0 (mf_spans _ rfl rfl rfl rfl rfl) hr hp (av 9)) (av 6)) (aw_or1 (at_cmp (ao_ne hr.units) (ae_bty (ac_strO (mf_str_ _ rfl rfl rfl rfl rfl) hr) (by rfl) T.b_str (by decide +kernel) (aa_cons (av 9) aa_nil)) (av 8))))) (ass_one (as_ret ae_bl)) ass_nil)
    (ass_one (as_ret (ae_and (ae_cmp (ao_eq hr.units) (ae_bty (ac_strO (mf_str_ _ rfl rfl rfl rfl rfl) hr) (by rfl) T.b_str (by decide +kernel) (aa_cons (av 7) aa_nil)) (av 8)) (ae_one (ae_cmp (ao_eq hr.units) (ae_meth0 (mf_spans _ rfl rfl rfl rfl rfl) hr hp (ae_callK ck1_read_share pu_k1 hr hp (ak_cons (av 8) ak_nil))) (av 6)))))))))))))))))))))
end
end K

namespace K
open PySem L2
structure TopF_fraction_of (K : PySem.W.Frag) (mg : Str → Option Value) : Prop where
  ex : ∃ (f : Addr) (fd : FuncData) (T : Addr) (o : Obj) (tk0 : Tok) (n : Nat), FunD K "fraction_of" "fraction_of" s_fraction_of (.ref T) f fd ∧ mg "fraction_of" = some (.ref f) ∧ K.lookup T = some o ∧ o.data = .seq #[.int 1 tk0] n
theorem topF_fraction_of {K : PySem.W.Frag} {mg : Str → Option Value} {h : Heap} {f T : Addr} {oc : Value} {od an : Option Addr} {osl : Array (Option Value)} {kV doc pm cdv ct : Value} {oT : Obj} {tk0 : Tok} {n : Nat} (X : K.In h) (N : h.Ns mainGlobals mg) (a : PySem.W.nsIn K mainGlobals "fraction_of" = some (some (.ref f)))
    (l : K.lookup f = some ⟨oc, od, .func (PySem.W.fnOf "fraction_of" "fraction_of" (defArgs s_fraction_of) (defBody s_fraction_of) (defScope s_fraction_of) (.ref T) kV doc pm an cdv ct), osl⟩) (c : PySem.W.codeIn K cdv "fraction_of" = true) (k : PySem.W.keepIn K (.ref f) = true)
    (t : K.lookup T = some oT) (d : oT.data = .seq #[.int 1 tk0] n) : TopF_fraction_of K mg := ⟨f, _, T, oT, tk0, n, funD_mk l c k, PySem.W.mg_of X N a, t, d⟩
theorem TopF_fraction_of.cal {P : Program} {w : World} {K : PySem.W.Frag} {mg : Str → Option Value} {base : Heap} {sp : Sp} {n : Nat} (T : TopF_fraction_of K mg) (ok : ∀ dV f fd, FunD K "fraction_of" "fraction_of" s_fraction_of dV f fd → FnOk P w K mg base (CXR P w) n f fd p_fraction_of sp) : Cal P w K mg base n "fraction_of" p_fraction_of sp := by
  obtain ⟨f, fd, T, o, tk0, m, F, hm, ho, hd⟩ := T.ex
  have G := ok _ f fd F
  have kp := F.kp
  obtain ⟨oc, od, kV, doc, pm, an, cdv, ct, osl, rfl, lk, hcd⟩ := F.ex
  refine ⟨f, _, G, hm, kp, fun s us X hl => ?_⟩
  match us, hl with
  | [u0, u1], _ => exact PySem.W.binds_K X rfl ho hd rfl rfl
structure All (K : PySem.W.Frag) (mg : Str → Option Value) (G : Str → Addr) : Prop where
  T : Tops K mg G
  t_law_box : Top1 K mg "_law_box" s_law_box .none
  t_law_mixed : Top1 K mg "_law_mixed" s_law_mixed .none
  t_law_take : Top1 K mg "_law_take" s_law_take .none
  t_law_pairs : Top1 K mg "_law_pairs" s_law_pairs .none
  t_law_low : Top1 K mg "_law_low" s_law_low .none
  t_law_told : Top1 K mg "_law_told" s_law_told .none
  t_law_joined : Top1 K mg "_law_joined" s_law_joined .none
  t_is_less : Top1 K mg "is_less" s_is_less .none
  t_is_span : Top1 K mg "is_span" s_is_span .none
  t_check_span : Top1 K mg "check_span" s_check_span .none
  t_lesser : Top1 K mg "lesser" s_lesser .none
  t_greater : Top1 K mg "greater" s_greater .none
  t_with_span : Top1 K mg "with_span" s_with_span .none
  t_told_spans : Top1 K mg "told_spans" s_told_spans .none
  t_fraction_text : Top1 K mg "fraction_text" s_fraction_text .none
  t_law_number : Top1 K mg "_law_number" s_law_number .none
  t_law_text : Top1 K mg "_law_text" s_law_text .none
  t_is_number : Top1 K mg "is_number" s_is_number .none
  t_greatest_divisor : Top1 K mg "greatest_divisor" s_greatest_divisor .none
  t_fraction_of : TopF_fraction_of K mg
  t_read_fraction : Top1 K mg "read_fraction" s_read_fraction .none
  t_read_span : Top1 K mg "read_span" s_read_span .none
  t_read_share : Top1 K mg "read_share" s_read_share .none
  t_law_plain : Top1 K mg "_law_plain" s_law_plain .none
  x_Share : ClsX K mg "Share" (G "Share")
  m_Share_init : TopM K (G "Share") "__init__" "Share.__init__" s_Share_init
  m_Share_str : TopM K (G "Share") "__str__" "Share.__str__" s_Share_str
  m_Share_spans : TopM K (G "Share") "spans" "Share.spans" s_Share_spans
  m_Share_eq : TopM K (G "Share") "__eq__" "Share.__eq__" s_Share_eq
theorem law_ok {P : Program} {w : World} {K : PySem.W.Frag} {mg : Str → Option Value} {base : Heap} {G : Str → Addr} {f : Addr} {fd : FuncData} (S : All K mg G) (X : K.In base) (N : base.Ns mainGlobals mg) (F : FunD K "law" "law" s_law .none f fd) : FnOk P w K mg base (CXR P w) 8 f fd p_law (spL K) := by
  have T := S.T
  have O_NoSpan := own_mk X N T.x_NoSpan.2 T.x_NoSpan.1
  have O_NoText := own_mk X N T.x_NoText.2 T.x_NoText.1
  have O_NoFraction := own_mk X N T.x_NoFraction.2 T.x_NoFraction.1
  have c_law_box : Cal P w K mg base 1 "_law_box" p_law_box (spA K G w_law_box_1502) := S.t_law_box.cal (fun _ _ _ _ _ _ us hl => match us, hl with | [_], _ => rfl) fun f fd F => ok_law_box T F
  have c_law_mixed : Cal P w K mg base 1 "_law_mixed" p_law_mixed (spA K G w_law_mixed_0002) := S.t_law_mixed.cal (fun _ _ _ _ _ _ us hl => match us, hl with | [_, _], _ => rfl) fun f fd F => ok_law_mixed T F
  have c_law_take : Cal P w K mg base 2 "_law_take" p_law_take (spA K G w_law_take_dbef) := S.t_law_take.cal (fun _ _ _ _ _ _ us hl => match us, hl with | [_, _], _ => rfl) fun f fd F => ok_law_take T c_law_mixed F
  have c_law_pairs : Cal P w K mg base 3 "_law_pairs" p_law_pairs (spA K G w_law_pairs_6145) := S.t_law_pairs.cal (fun _ _ _ _ _ _ us hl => match us, hl with | [_, _], _ => rfl) fun f fd F => ok_law_pairs T c_law_take F
  have c_law_low : Cal P w K mg base 1 "_law_low" p_law_low (spA K G w_law_low_35aa) := S.t_law_low.cal (fun _ _ _ _ _ _ us hl => match us, hl with | [_, _], _ => rfl) fun f fd F => ok_law_low T F
  have c_law_told : Cal P w K mg base 2 "_law_told" p_law_told (spA K G w_law_told_ca41) := S.t_law_told.cal (fun _ _ _ _ _ _ us hl => match us, hl with | [_, _], _ => rfl) fun f fd F => ok_law_told T c_law_low F
  have c_law_joined : Cal P w K mg base 1 "_law_joined" p_law_joined (spA K G w_law_joined_aeb5) := S.t_law_joined.cal (fun _ _ _ _ _ _ us hl => match us, hl with | [_], _ => rfl) fun f fd F => ok_law_joined T F
  have c_is_less : Cal P w K mg base 1 "is_less" p_is_less (spA K G w_is_less) := S.t_is_less.cal (fun _ _ _ _ _ _ us hl => match us, hl with | [_, _], _ => rfl) fun f fd F => ok_is_less T F
  have c_is_span : Cal P w K mg base 2 "is_span" p_is_span (spA K G w_is_span) := S.t_is_span.cal (fun _ _ _ _ _ _ us hl => match us, hl with | [_, _], _ => rfl) fun f fd F => ok_is_span T c_is_less F
  have c_check_span : Cal P w K mg base 3 "check_span" p_check_span (spA K G w_check_span) := S.t_check_span.cal (fun _ _ _ _ _ _ us hl => match us, hl with | [_, _], _ => rfl) fun f fd F => ok_check_span T c_is_span O_NoSpan F
  have c_lesser : Cal P w K mg base 2 "lesser" p_lesser (spA K G w_lesser) := S.t_lesser.cal (fun _ _ _ _ _ _ us hl => match us, hl with | [_, _], _ => rfl) fun f fd F => ok_lesser T c_is_less F
  have c_greater : Cal P w K mg base 2 "greater" p_greater (spA K G w_greater) := S.t_greater.cal (fun _ _ _ _ _ _ us hl => match us, hl with | [_, _], _ => rfl) fun f fd F => ok_greater T c_is_less F
  have c_with_span : Cal P w K mg base 3 "with_span" p_with_span (spA K G w_with_span) := S.t_with_span.cal (fun _ _ _ _ _ _ us hl => match us, hl with | [_, _, _], _ => rfl) fun f fd F => ok_with_span T c_is_less c_lesser c_greater F
  have c_told_spans : Cal P w K mg base 4 "told_spans" p_told_spans (spA K G w_told_spans) := S.t_told_spans.cal (fun _ _ _ _ _ _ us hl => match us, hl with | [_], _ => rfl) fun f fd F => ok_told_spans T c_check_span c_is_less c_with_span F
  have mk_Share : Mak P w K mg base 5 "Share" (G "Share") p_Share_init (spA K G w_Share_init) := S.m_Share_init.mak S.x_Share.mks S.x_Share.kc S.x_Share.nm (fun _ _ _ _ _ _ us hl => match us, hl with | [_, _], _ => rfl) fun f fd F => ok_Share_init T c_told_spans F
  have c_fraction_text : Cal P w K mg base 1 "fraction_text" p_fraction_text (spA K G w_fraction_text) := S.t_fraction_text.cal (fun _ _ _ _ _ _ us hl => match us, hl with | [_], _ => rfl) fun f fd F => ok_fraction_text T F
  have e_Share_str : Met P w K mg base 2 (G "Share") "__str__" p_Share_str (spA K G w_Share_str) := S.m_Share_str.met S.x_Share.cl (fun _ _ _ _ _ _ us hl => match us, hl with | [_], _ => rfl) fun f fd F => ok_Share_str T c_fraction_text F
  have c_law_number : Cal P w K mg base 1 "_law_number" p_law_number (spA K G w_law_text_d5f7) := S.t_law_number.cal (fun _ _ _ _ _ _ us hl => match us, hl with | [_], _ => rfl) fun f fd F => ok_law_number T F
  have c_law_text : Cal P w K mg base 2 "_law_text" p_law_text (spA K G w_law_text_53b6) := S.t_law_text.cal (fun _ _ _ _ _ _ us hl => match us, hl with | [_], _ => rfl) fun f fd F => ok_law_text T c_law_number F
  have c_is_number : Cal P w K mg base 1 "is_number" p_is_number (spA K G w_is_number) := S.t_is_number.cal (fun _ _ _ _ _ _ us hl => match us, hl with | [_], _ => rfl) fun f fd F => ok_is_number T F
  have c_greatest_divisor : Cal P w K mg base 1 "greatest_divisor" p_greatest_divisor (spA K G w_greatest_divisor) := S.t_greatest_divisor.cal (fun _ _ _ _ _ _ us hl => match us, hl with | [_, _], _ => rfl) fun f fd F => ok_greatest_divisor T F
  have c_fraction_of : Cal P w K mg base 2 "fraction_of" p_fraction_of (spA K G w_fraction_of) := S.t_fraction_of.cal fun dV f fd F => ok_fraction_of T c_greatest_divisor O_NoFraction F
  have c_read_fraction : Cal P w K mg base 3 "read_fraction" p_read_fraction (spA K G w_read_fraction) := S.t_read_fraction.cal (fun _ _ _ _ _ _ us hl => match us, hl with | [_], _ => rfl) fun f fd F => ok_read_fraction T c_is_number c_fraction_of c_fraction_text O_NoText F
  have c_read_span : Cal P w K mg base 4 "read_span" p_read_span (spA K G w_read_span) := S.t_read_span.cal (fun _ _ _ _ _ _ us hl => match us, hl with | [_], _ => rfl) fun f fd F => ok_read_span T c_read_fraction F
  have ck1_read_share : CalK P w K mg base 7 "read_share" p_read_share ["text"] gk1V (spA K G w_read_share) := S.t_read_share.calK1 (fun _ _ _ _ _ _ _ => rfl) (by decide) fun f fd F => ok_read_share T c_read_span mk_Share (fun X h1 h2 h3 h4 h5 => by obtain rfl := h1; obtain rfl := h2; obtain rfl := h3; obtain rfl := h4; obtain rfl := h5; exact mfam1 e_Share_str) O_NoText F
  have c_read_share : Cal P w K mg base 7 "read_share" p_read_share (spA K G w_read_share) := S.t_read_share.cal (fun _ _ _ _ _ _ us hl => match us, hl with | [_], _ => rfl) fun f fd F => ok_read_share T c_read_span mk_Share (fun X h1 h2 h3 h4 h5 => by obtain rfl := h1; obtain rfl := h2; obtain rfl := h3; obtain rfl := h4; obtain rfl := h5; exact mfam1 e_Share_str) O_NoText F
  have e_Share_spans : Met P w K mg base 1 (G "Share") "spans" p_Share_spans (spA K G w_Share_spans) := S.m_Share_spans.met S.x_Share.cl (fun _ _ _ _ _ _ us hl => match us, hl with | [_], _ => rfl) fun f fd F => ok_Share_spans T F
  have c_law_plain : Cal P w K mg base 1 "_law_plain" p_law_plain (spA K G w_law_plain_6e75) := S.t_law_plain.cal (fun _ _ _ _ _ _ us hl => match us, hl with | [_], _ => rfl) fun f fd F => ok_law_plain T F
  have e_Share_eq : Met P w K mg base 1 (G "Share") "__eq__" p_Share_eq (spA K G w_Share_eq) := S.m_Share_eq.met S.x_Share.cl (fun _ _ _ _ _ _ us hl => match us, hl with | [_, _], _ => rfl) fun f fd F => ok_Share_eq T F
  exact (ok_law T c_law_box c_law_take c_law_pairs c_law_told c_law_joined c_law_text c_read_share c_law_plain mk_Share ck1_read_share (fun X h1 h2 h3 h4 h5 => by obtain rfl := h1; obtain rfl := h2; obtain rfl := h3; obtain rfl := h4; obtain rfl := h5; exact mfam1 e_Share_str) (fun X h1 h2 h3 h4 h5 => by obtain rfl := h1; obtain rfl := h2; obtain rfl := h3; obtain rfl := h4; obtain rfl := h5; exact mfam1 e_Share_spans) (fun X h1 h2 h3 h4 h5 => by obtain rfl := h1; obtain rfl := h2; obtain rfl := h3; obtain rfl := h4; obtain rfl := h5; exact mfam1 e_Share_eq) F).law rfl fun h sc ns hs hl => t_law13 hs (by omega) fun h => rfl
theorem law_mk {l : PySem.W.OpenLaw} {w : World} {K : PySem.W.Frag} {h : Heap} {mg : Str → Option Value} {G : Str → Addr} {fa f4 : Addr} (X : K.In h) (N : h.Ns mainGlobals mg) (hfa : mg "law" = some (.ref fa)) {od4 an4 : Option Addr} {sl4 : Array (Option Value)} {oc4 kV4 dc4 pm4 cd4 ct4 : Value}
    (a4 : PySem.W.nsIn K mainGlobals "law" = some (some (.ref f4))) (l4 : K.lookup f4 = some ⟨oc4, od4, .func (PySem.W.fnOf "law" "law" (defArgs s_law) (defBody s_law) (defScope s_law) .none kV4 dc4 pm4 an4 cd4 ct4), sl4⟩) (c4 : PySem.W.codeIn K cd4 "law" = true) (k4 : PySem.W.keepIn K (.ref f4) = true) (S : All K mg G) :
    ∃ fd : FuncData, (∀ (s : Shared) (v : Value), BindsTo s fd ⟨[v], []⟩ [("_law_script", v)]) ∧ ∀ base : Heap, K.In base → base.Ns mainGlobals mg → FnOk l.prog w K mg base (CXR l.prog w) 8 fa fd ["_law_script"] (spL K) := by
  have e := hfa.symm.trans (PySem.W.mg_of X N a4)
  cases e
  exact ⟨PySem.W.fnOf "law" "law" (defArgs s_law) (defBody s_law) (defScope s_law) .none kV4 dc4 pm4 an4 cd4 ct4, fun s v => .of_eq rfl, fun base kb nb => law_ok S kb nb (funD_mk l4 c4 k4)⟩
theorem exG (c0 c1 c2 c3 : Addr) : ∃ G : Str → Addr, G "Share" = c0 ∧ G "NoSpan" = c1 ∧ G "NoText" = c2 ∧ G "NoFraction" = c3 := ⟨fun x => if x = "Share" then c0 else if x = "NoSpan" then c1 else if x = "NoText" then c2 else if x = "NoFraction" then c3 else 0, if_pos rfl, (if_neg (by decide)).trans (if_pos rfl), (if_neg (by decide)).trans ((if_neg (by decide)).trans (if_pos rfl)), (if_neg (by decide)).trans ((if_neg (by decide)).trans ((if_neg (by decide)).trans (if_pos rfl)))⟩
theorem cls_Share {K : PySem.W.Frag} {mg : Str → Option Value} {C : Addr} (z0 : ClsX K mg "Share" C) (z1 : KitB K (.ref C)) (z2 : InsT K C) (z3 : PySem.W.kitOne K (.ref C) (.ref C) = some true) (z4 : PySem.W.findIn K (.ref C) "__ne__" = some (some (.builtin "object.__ne__"))) (z5 : PySem.W.findIn K (.ref C) "held" = some none) (z6 : TopM K C "__init__" "Share.__init__" s_Share_init) (z7 : TopM K C "__str__" "Share.__str__" s_Share_str) (z8 : TopM K C "spans" "Share.spans" s_Share_spans) (z9 : TopM K C "__eq__" "Share.__eq__" s_Share_eq) : ∃ C, ClsX K mg "Share" C ∧ KitB K (.ref C) ∧ InsT K C ∧ PySem.W.kitOne K (.ref C) (.ref C) = some true ∧ PySem.W.findIn K (.ref C) "__ne__" = some (some (.builtin "object.__ne__")) ∧ PySem.W.findIn K (.ref C) "held" = some none ∧ TopM K C "__init__" "Share.__init__" s_Share_init ∧ TopM K C "__str__" "Share.__str__" s_Share_str ∧ TopM K C "spans" "Share.spans" s_Share_spans ∧ TopM K C "__eq__" "Share.__eq__" s_Share_eq := ⟨C, z0, z1, z2, z3, z4, z5, z6, z7, z8, z9⟩
theorem excs_all {K : PySem.W.Frag} {mg : Str → Option Value} {h : Heap} {C_NoSpan C_NoText C_NoFraction : Addr} (X : K.In h) (N : h.Ns mainGlobals mg) (e_NoSpan : PySem.W.nsIn K mainGlobals "NoSpan" = some (some (.ref C_NoSpan))) (e_NoText : PySem.W.nsIn K mainGlobals "NoText" = some (some (.ref C_NoText))) (e_NoFraction : PySem.W.nsIn K mainGlobals "NoFraction" = some (some (.ref C_NoFraction))) (i_x_NoSpan : PySem.W.excIn K C_NoSpan EXCB "ValueError.__new__" = true) (i_x_NoText : PySem.W.excIn K C_NoText EXCB "ValueError.__new__" = true) (i_x_NoFraction : PySem.W.excIn K C_NoFraction EXCB "ValueError.__new__" = true) (i_xm_NoFraction_NoSpan : PySem.W.exmOne K (.ref C_NoFraction) (.ref C_NoSpan) = some false) (i_xm_NoText_NoSpan : PySem.W.exmOne K (.ref C_NoText) (.ref C_NoSpan) = some false) (i_xm_NoSpan_NoSpan : PySem.W.exmOne K (.ref C_NoSpan) (.ref C_NoSpan) = some true) : ∃ C_NoSpan C_NoText C_NoFraction, (PySem.W.excIn K C_NoSpan EXCB "ValueError.__new__" = true ∧ PySem.W.nsIn K mainGlobals "NoSpan" = some (some (.ref C_NoSpan))) ∧ (PySem.W.excIn K C_NoText EXCB "ValueError.__new__" = true ∧ PySem.W.nsIn K mainGlobals "NoText" = some (some (.ref C_NoText))) ∧ (PySem.W.excIn K C_NoFraction EXCB "ValueError.__new__" = true ∧ PySem.W.nsIn K mainGlobals "NoFraction" = some (some (.ref C_NoFraction))) ∧ (PySem.W.exmOne K (.ref C_NoFraction) (.ref C_NoSpan) = some false) ∧ (PySem.W.exmOne K (.ref C_NoText) (.ref C_NoSpan) = some false) ∧ (PySem.W.exmOne K (.ref C_NoSpan) (.ref C_NoSpan) = some true) ∧ (mg "NoSpan" = some (.ref C_NoSpan)) := ⟨C_NoSpan, C_NoText, C_NoFraction, ⟨i_x_NoSpan, e_NoSpan⟩, ⟨i_x_NoText, e_NoText⟩, ⟨i_x_NoFraction, e_NoFraction⟩, i_xm_NoFraction_NoSpan, i_xm_NoText_NoSpan, i_xm_NoSpan_NoSpan, PySem.W.mg_of X N e_NoSpan⟩

end K
open PySem PySem.W PyProof.Rows
set_option maxRecDepth 100000 in
set_option maxHeartbeats 0 in
theorem PySem.Challenge.cw_halfcrumb_k13_share_texts_holds : PySem.Challenge.rw_halfcrumb_k13_share_texts.Holds := by
  w_on; o_law; k_head; (case hw => w_witness2)
  k_fill
  refine L2.walkL (l := PySem.Challenge.rw_halfcrumb_k13_share_texts) (k := 8) rfl rfl ⟨rfl, by decide, by decide⟩ (fun w h Y => PySem.W.kIn_of Y) ?F
  case F =>
    intro w mg fa h KX N hmg
    have h_Share : ∃ C, L2.ClsX (L2.KOf KX) mg "Share" C ∧ L2.KitB (L2.KOf KX) (.ref C) ∧ L2.InsT (L2.KOf KX) C ∧ PySem.W.kitOne (L2.KOf KX) (.ref C) (.ref C) = some true ∧ PySem.W.findIn (L2.KOf KX) (.ref C) "__ne__" = some (some (.builtin "object.__ne__")) ∧ PySem.W.findIn (L2.KOf KX) (.ref C) "held" = some none ∧ L2.TopM (L2.KOf KX) C "__init__" "Share.__init__" K.s_Share_init ∧ L2.TopM (L2.KOf KX) C "__str__" "Share.__str__" K.s_Share_str ∧ L2.TopM (L2.KOf KX) C "spans" "Share.spans" K.s_Share_spans ∧ L2.TopM (L2.KOf KX) C "__eq__" "Share.__eq__" K.s_Share_eq := by
      dsimp only [L2.KOf]
      refine' K.cls_Share (L2.clsX_mk KX N ?aC ?pg ?hd ?po ?sa ?mk ?kc) ⟨?kb1, ?kb2, ?kb3, ?kb4, ?kb5, ?kb6⟩ ⟨⟨?pg2, ?hd2, ?po2, ?sa2⟩, ?ca, ?cg, ?ct, ?co⟩ ?kk ?ne ?n0 (L2.topM ?a0 ?i0 ?l0 ?c0 ?k0) (L2.topM ?a1 ?i1 ?l1 ?c1 ?k1) (L2.topM ?a2 ?i2 ?l2 ?c2 ?k2) (L2.topM ?a3 ?i3 ?l3 ?c3 ?k3)
      (case aC => k_is); (case pg => k_is); (case hd => k_is); (case po => k_is); (case sa => k_is); (case mk => k_is); (case kc => k_is); (case kb1 => kit_is); (case kb2 => kit_is); (case kb3 => kit_is); (case kb4 => kit_is); (case kb5 => kit_is); (case kb6 => kit_is); (case pg2 => k_is); (case hd2 => k_is); (case po2 => k_is); (case sa2 => k_is); (case ca => k_is); (case cg => k_is); (case ct => k_is); (case co => k_is); (case kk => kit_is); (case ne => k_is); (case n0 => k_is); (case a0 => k_is); (case i0 => k_is); (case l0 => k_is); (case c0 => k_is); (case k0 => k_is); (case a1 => k_is); (case i1 => k_is); (case l1 => k_is); (case c1 => k_is); (case k1 => k_is); (case a2 => k_is); (case i2 => k_is); (case l2 => k_is); (case c2 => k_is); (case k2 => k_is); (case a3 => k_is); (case i3 => k_is); (case l3 => k_is); (case c3 => k_is); (case k3 => k_is)
    have h_excs : ∃ C_NoSpan C_NoText C_NoFraction, (PySem.W.excIn (L2.KOf KX) C_NoSpan L2.EXCB "ValueError.__new__" = true ∧ PySem.W.nsIn (L2.KOf KX) mainGlobals "NoSpan" = some (some (.ref C_NoSpan))) ∧ (PySem.W.excIn (L2.KOf KX) C_NoText L2.EXCB "ValueError.__new__" = true ∧ PySem.W.nsIn (L2.KOf KX) mainGlobals "NoText" = some (some (.ref C_NoText))) ∧ (PySem.W.excIn (L2.KOf KX) C_NoFraction L2.EXCB "ValueError.__new__" = true ∧ PySem.W.nsIn (L2.KOf KX) mainGlobals "NoFraction" = some (some (.ref C_NoFraction))) ∧ (PySem.W.exmOne (L2.KOf KX) (.ref C_NoFraction) (.ref C_NoSpan) = some false) ∧ (PySem.W.exmOne (L2.KOf KX) (.ref C_NoText) (.ref C_NoSpan) = some false) ∧ (PySem.W.exmOne (L2.KOf KX) (.ref C_NoSpan) (.ref C_NoSpan) = some true) ∧ (mg "NoSpan" = some (.ref C_NoSpan)) := by
      dsimp only [L2.KOf]
      refine' K.excs_all KX N ?e_NoSpan ?e_NoText ?e_NoFraction ?i_x_NoSpan ?i_x_NoText ?i_x_NoFraction ?i_xm_NoFraction_NoSpan ?i_xm_NoText_NoSpan ?i_xm_NoSpan_NoSpan
      (case e_NoSpan => k_is); (case e_NoText => k_is); (case e_NoFraction => k_is); (case i_x_NoSpan => k_exc); (case i_x_NoText => k_exc); (case i_x_NoFraction => k_exc); (case i_xm_NoFraction_NoSpan => kts_exm); (case i_xm_NoText_NoSpan => kts_exm); (case i_xm_NoSpan_NoSpan => kts_exm)
    have b_len : mg "len" = none := by
      refine' PySem.W.mg_none_of KX N ?z
      (case z => k_is)
    have b_range : mg "range" = none := by
      refine' PySem.W.mg_none_of KX N ?z
      (case z => k_is)
    have b_max : mg "max" = none := by
      refine' PySem.W.mg_none_of KX N ?z
      (case z => k_is)
    have b_min : mg "min" = none := by
      refine' PySem.W.mg_none_of KX N ?z
      (case z => k_is)
    have b_abs : mg "abs" = none := by
      refine' PySem.W.mg_none_of KX N ?z
      (case z => k_is)
    have b_sorted : mg "sorted" = none := by
      refine' PySem.W.mg_none_of KX N ?z
      (case z => k_is)
    have t_BEGIN : ∃ a, mg "BEGIN" = some (.ref a) ∧ ∀ H φ, L2.RU (L2.KOf KX) H φ (.tup [.int 0, .int 1]) (.ref a) := by
      dsimp only [L2.KOf]
      refine' L2.tup2_mk KX N ?z ?t ?c ?d
      (case z => k_is); (case t => k_is); (case c => rfl); (case d => rfl)
    have t_END : ∃ a, mg "END" = some (.ref a) ∧ ∀ H φ, L2.RU (L2.KOf KX) H φ (.tup [.int 1, .int 1]) (.ref a) := by
      dsimp only [L2.KOf]
      refine' L2.tup2_mk KX N ?z ?t ?c ?d
      (case z => k_is); (case t => k_is); (case c => rfl); (case d => rfl)
    have b_str : mg "str" = none := by
      refine' PySem.W.mg_none_of KX N ?z
      (case z => k_is)
    have b_isinstance : mg "isinstance" = none := by
      refine' PySem.W.mg_none_of KX N ?z
      (case z => k_is)
    have i_MOST_FIGURES : ∃ tk, mg "MOST_FIGURES" = some (.int 40 tk) := by
      refine' L2.int_mk KX N ?z
      (case z => k_is)
    have s_FIGURES : ∃ tk, mg "FIGURES" = some (.str "0123456789" tk) := by
      refine' L2.str_mk KX N ?z
      (case z => k_is)
    have b_all : mg "all" = none := by
      refine' PySem.W.mg_none_of KX N ?z
      (case z => k_is)
    have b_int : mg "int" = none := by
      refine' PySem.W.mg_none_of KX N ?z
      (case z => k_is)
    have b_list : mg "list" = none := by
      refine' PySem.W.mg_none_of KX N ?z
      (case z => k_is)
    have b_tuple : mg "tuple" = none := by
      refine' PySem.W.mg_none_of KX N ?z
      (case z => k_is)
    have b_bool : mg "bool" = none := by
      refine' PySem.W.mg_none_of KX N ?z
      (case z => k_is)
    have t_law_box : L2.Top1 (L2.KOf KX) mg "_law_box" K.s_law_box .none := by
      dsimp only [L2.KOf]
      refine' L2.top1 KX N ?a ?l ?c ?k
      (case a => k_is); (case l => k_is); (case c => k_is); (case k => k_is)
    have t_law_mixed : L2.Top1 (L2.KOf KX) mg "_law_mixed" K.s_law_mixed .none := by
      dsimp only [L2.KOf]
      refine' L2.top1 KX N ?a ?l ?c ?k
      (case a => k_is); (case l => k_is); (case c => k_is); (case k => k_is)
    have t_law_take : L2.Top1 (L2.KOf KX) mg "_law_take" K.s_law_take .none := by
      dsimp only [L2.KOf]
      refine' L2.top1 KX N ?a ?l ?c ?k
      (case a => k_is); (case l => k_is); (case c => k_is); (case k => k_is)
    have t_law_pairs : L2.Top1 (L2.KOf KX) mg "_law_pairs" K.s_law_pairs .none := by
      dsimp only [L2.KOf]
      refine' L2.top1 KX N ?a ?l ?c ?k
      (case a => k_is); (case l => k_is); (case c => k_is); (case k => k_is)
    have t_law_low : L2.Top1 (L2.KOf KX) mg "_law_low" K.s_law_low .none := by
      dsimp only [L2.KOf]
      refine' L2.top1 KX N ?a ?l ?c ?k
      (case a => k_is); (case l => k_is); (case c => k_is); (case k => k_is)
    have t_law_told : L2.Top1 (L2.KOf KX) mg "_law_told" K.s_law_told .none := by
      dsimp only [L2.KOf]
      refine' L2.top1 KX N ?a ?l ?c ?k
      (case a => k_is); (case l => k_is); (case c => k_is); (case k => k_is)
    have t_law_joined : L2.Top1 (L2.KOf KX) mg "_law_joined" K.s_law_joined .none := by
      dsimp only [L2.KOf]
      refine' L2.top1 KX N ?a ?l ?c ?k
      (case a => k_is); (case l => k_is); (case c => k_is); (case k => k_is)
    have t_is_less : L2.Top1 (L2.KOf KX) mg "is_less" K.s_is_less .none := by
      dsimp only [L2.KOf]
      refine' L2.top1 KX N ?a ?l ?c ?k
      (case a => k_is); (case l => k_is); (case c => k_is); (case k => k_is)
    have t_is_span : L2.Top1 (L2.KOf KX) mg "is_span" K.s_is_span .none := by
      dsimp only [L2.KOf]
      refine' L2.top1 KX N ?a ?l ?c ?k
      (case a => k_is); (case l => k_is); (case c => k_is); (case k => k_is)
    have t_check_span : L2.Top1 (L2.KOf KX) mg "check_span" K.s_check_span .none := by
      dsimp only [L2.KOf]
      refine' L2.top1 KX N ?a ?l ?c ?k
      (case a => k_is); (case l => k_is); (case c => k_is); (case k => k_is)
    have t_lesser : L2.Top1 (L2.KOf KX) mg "lesser" K.s_lesser .none := by
      dsimp only [L2.KOf]
      refine' L2.top1 KX N ?a ?l ?c ?k
      (case a => k_is); (case l => k_is); (case c => k_is); (case k => k_is)
    have t_greater : L2.Top1 (L2.KOf KX) mg "greater" K.s_greater .none := by
      dsimp only [L2.KOf]
      refine' L2.top1 KX N ?a ?l ?c ?k
      (case a => k_is); (case l => k_is); (case c => k_is); (case k => k_is)
    have t_with_span : L2.Top1 (L2.KOf KX) mg "with_span" K.s_with_span .none := by
      dsimp only [L2.KOf]
      refine' L2.top1 KX N ?a ?l ?c ?k
      (case a => k_is); (case l => k_is); (case c => k_is); (case k => k_is)
    have t_told_spans : L2.Top1 (L2.KOf KX) mg "told_spans" K.s_told_spans .none := by
      dsimp only [L2.KOf]
      refine' L2.top1 KX N ?a ?l ?c ?k
      (case a => k_is); (case l => k_is); (case c => k_is); (case k => k_is)
    have t_fraction_text : L2.Top1 (L2.KOf KX) mg "fraction_text" K.s_fraction_text .none := by
      dsimp only [L2.KOf]
      refine' L2.top1 KX N ?a ?l ?c ?k
      (case a => k_is); (case l => k_is); (case c => k_is); (case k => k_is)
    have t_law_number : L2.Top1 (L2.KOf KX) mg "_law_number" K.s_law_number .none := by
      dsimp only [L2.KOf]
      refine' L2.top1 KX N ?a ?l ?c ?k
      (case a => k_is); (case l => k_is); (case c => k_is); (case k => k_is)
    have t_law_text : L2.Top1 (L2.KOf KX) mg "_law_text" K.s_law_text .none := by
      dsimp only [L2.KOf]
      refine' L2.top1 KX N ?a ?l ?c ?k
      (case a => k_is); (case l => k_is); (case c => k_is); (case k => k_is)
    have t_is_number : L2.Top1 (L2.KOf KX) mg "is_number" K.s_is_number .none := by
      dsimp only [L2.KOf]
      refine' L2.top1 KX N ?a ?l ?c ?k
      (case a => k_is); (case l => k_is); (case c => k_is); (case k => k_is)
    have t_greatest_divisor : L2.Top1 (L2.KOf KX) mg "greatest_divisor" K.s_greatest_divisor .none := by
      dsimp only [L2.KOf]
      refine' L2.top1 KX N ?a ?l ?c ?k
      (case a => k_is); (case l => k_is); (case c => k_is); (case k => k_is)
    have t_fraction_of : K.TopF_fraction_of (L2.KOf KX) mg := by
      dsimp only [L2.KOf]
      refine' K.topF_fraction_of KX N ?a ?l ?c ?k ?t ?d
      (case a => k_is); (case l => k_is); (case c => k_is); (case k => k_is); (case t => k_is); (case d => rfl)
    have t_read_fraction : L2.Top1 (L2.KOf KX) mg "read_fraction" K.s_read_fraction .none := by
      dsimp only [L2.KOf]
      refine' L2.top1 KX N ?a ?l ?c ?k
      (case a => k_is); (case l => k_is); (case c => k_is); (case k => k_is)
    have t_read_span : L2.Top1 (L2.KOf KX) mg "read_span" K.s_read_span .none := by
      dsimp only [L2.KOf]
      refine' L2.top1 KX N ?a ?l ?c ?k
      (case a => k_is); (case l => k_is); (case c => k_is); (case k => k_is)
    have t_read_share : L2.Top1 (L2.KOf KX) mg "read_share" K.s_read_share .none := by
      dsimp only [L2.KOf]
      refine' L2.top1 KX N ?a ?l ?c ?k
      (case a => k_is); (case l => k_is); (case c => k_is); (case k => k_is)
    have t_law_plain : L2.Top1 (L2.KOf KX) mg "_law_plain" K.s_law_plain .none := by
      dsimp only [L2.KOf]
      refine' L2.top1 KX N ?a ?l ?c ?k
      (case a => k_is); (case l => k_is); (case c => k_is); (case k => k_is)
    obtain ⟨C_Share, x_Share, kb_Share, it_Share, ok_Share_Share, ne_Share, n_Share_held, m_Share_init, m_Share_str, m_Share_spans, m_Share_eq⟩ := h_Share
    obtain ⟨C_NoSpan, C_NoText, C_NoFraction, x_NoSpan, x_NoText, x_NoFraction, xm_NoFraction_NoSpan, xm_NoText_NoSpan, xm_NoSpan_NoSpan, xn_NoSpan⟩ := h_excs
    obtain ⟨G, g0, g1, g2, g3⟩ := K.exG C_Share C_NoSpan C_NoText C_NoFraction
    subst g0 g1 g2 g3
    have k_str : L2.KitT (L2.KOf KX) G (.type "str") L2.is_str := by
      dsimp only [L2.KOf]
      refine' L2.kit_str ?h1 ?h2 ?h3 ?h4 ?h5 ?h6
      (case h1 => kit_is); (case h2 => kit_is); (case h3 => kit_is); (case h4 => kit_is); (case h5 => kit_is); (case h6 => kit_is)
    have k_list : L2.KitT (L2.KOf KX) G (.type "list") L2.is_list := by
      dsimp only [L2.KOf]
      refine' L2.kit_list ?h1 ?h2 ?h3 ?h4 ?h5 ?h6
      (case h1 => kit_is); (case h2 => kit_is); (case h3 => kit_is); (case h4 => kit_is); (case h5 => kit_is); (case h6 => kit_is)
    have k_tuple : L2.KitT (L2.KOf KX) G (.type "tuple") L2.is_tuple := by
      dsimp only [L2.KOf]
      refine' L2.kit_tuple ?h1 ?h2 ?h3 ?h4 ?h5 ?h6
      (case h1 => kit_is); (case h2 => kit_is); (case h3 => kit_is); (case h4 => kit_is); (case h5 => kit_is); (case h6 => kit_is)
    have k_int : L2.KitT (L2.KOf KX) G (.type "int") L2.is_int := by
      dsimp only [L2.KOf]
      refine' L2.kit_int ?h1 ?h2 ?h3 ?h4 ?h5 ?h6
      (case h1 => kit_is); (case h2 => kit_is); (case h3 => kit_is); (case h4 => kit_is); (case h5 => kit_is); (case h6 => kit_is)
    have k_bool : L2.KitT (L2.KOf KX) G (.type "bool") L2.is_bool := by
      dsimp only [L2.KOf]
      refine' L2.kit_bool ?h1 ?h2 ?h3 ?h4 ?h5 ?h6
      (case h1 => kit_is); (case h2 => kit_is); (case h3 => kit_is); (case h4 => kit_is); (case h5 => kit_is); (case h6 => kit_is)
    have T : K.Tops (L2.KOf KX) mg G := ⟨b_len, b_range, b_max, b_min, b_abs, b_sorted, t_BEGIN, t_END, x_NoSpan, (L2.fld1 x_Share.cl n_Share_held), b_str, k_str, b_isinstance, i_MOST_FIGURES, s_FIGURES, b_all, x_NoText, b_int, x_NoFraction, xm_NoFraction_NoSpan, xm_NoText_NoSpan, xm_NoSpan_NoSpan, xn_NoSpan, b_list, k_list, b_tuple, k_tuple, k_int, b_bool, k_bool, x_Share.nm, kb_Share, it_Share, ok_Share_Share, ne_Share⟩
    have S : K.All (L2.KOf KX) mg G := ⟨T, t_law_box, t_law_mixed, t_law_take, t_law_pairs, t_law_low, t_law_told, t_law_joined, t_is_less, t_is_span, t_check_span, t_lesser, t_greater, t_with_span, t_told_spans, t_fraction_text, t_law_number, t_law_text, t_is_number, t_greatest_divisor, t_fraction_of, t_read_fraction, t_read_span, t_read_share, t_law_plain, x_Share, m_Share_init, m_Share_str, m_Share_spans, m_Share_eq⟩
    dsimp only [L2.KOf] at S
    refine' K.law_mk KX N hmg ?a4 ?l4 ?c4 ?k4 S
    (case a4 => k_is); (case l4 => k_is); (case c4 => k_is); (case k4 => k_is)
#print axioms PySem.Challenge.cw_halfcrumb_k13_share_texts_holds


