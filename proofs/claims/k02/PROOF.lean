import PyProof.Rows.All
import OpenK.KRaise
import OpenK.KOwn
import KE.RegKTryMore
import KE.KTurns
import KE.KTryMore
import KE.KStateDown
import KE.KLam
import KE.KNestM
import PyProof.EqAt
import PyProof.EqKinds
import PyProof.TupleCall
import KE.BitLaws
import KE.KSortTup
import PySem.Challenge.RW_layerink_k02_webs_refused_at_every_door
set_option Elab.async false
set_option linter.all false
set_option maxRecDepth 100000
/-! THE HAND LAYER, for ints, bools, texts, own classes, lists, tuples, dicts, comprehensions, walks over dicts, enumerate, zip, reversed, texts, calls, loops. Paste it whole ahead of your own text; what your proof does not reach may be deleted. -/
namespace L2
open PySem PySem.Spec PyProof.Rows

/-- a key: an int or a str -/
abbrev Key := Sum Int Str
def keyIs : Key → Value → Bool
  | .inl k, v => Value.isInt k v
  | .inr x, v => Value.isStrOf x v
def keyH (w : World) : Key → Int
  | .inl k => hashInt k
  | .inr x => hashStr w x
theorem keyIs_shape : ∀ {k : Key} {v : Value}, keyIs k v = true → (∃ i t, k = Sum.inl i ∧ v = Value.int i t) ∨ (∃ x t, k = Sum.inr x ∧ v = Value.str x t)
  | .inl i, v, h => by
    obtain ⟨t, e⟩ := Value.isInt_shape (k := i) (v := v) h
    exact .inl ⟨i, t, rfl, e⟩
  | .inr x, v, h => by
    obtain ⟨t, e⟩ := Value.isStrOf_shape (x := x) (v := v) h
    exact .inr ⟨x, t, rfl, e⟩
theorem keyIs_int (i : Int) (t : Tok) : keyIs (.inl i) (.int i t) = true := by simp [keyIs, Value.isInt]
theorem keyIs_str (x : Str) (t : Tok) : keyIs (.inr x) (.str x t) = true := by simp [keyIs, Value.isStrOf]
theorem key_ll (a b : Int) : decide ((Sum.inl a : Key) = Sum.inl b) = (a == b) := by
  by_cases e : a = b
  · subst e; simp
  · have h : ¬ (Sum.inl a : Key) = Sum.inl b := fun q => e (Sum.inl.inj q)
    rw [decide_eq_false h]
    exact (beq_eq_false_iff_ne.mpr e).symm
theorem key_rr (a b : Str) : decide ((Sum.inr a : Key) = Sum.inr b) = decide (a = b) := by
  by_cases e : a = b
  · subst e; simp
  · have h : ¬ (Sum.inr a : Key) = Sum.inr b := fun q => e (Sum.inr.inj q)
    rw [decide_eq_false h, decide_eq_false e]
theorem key_lr (a : Int) (b : Str) : decide ((Sum.inl a : Key) = Sum.inr b) = false := decide_eq_false (fun q => nomatch q)
theorem key_rl (a : Str) (b : Int) : decide ((Sum.inr a : Key) = Sum.inl b) = false := decide_eq_false (fun q => nomatch q)

def mixKind (prog : Program) (w : World) : PySem.KeyKind prog w Key where
  is := keyIs
  hash := keyH w
  inj := fun v a b ha hb => by
    rcases keyIs_shape ha with ⟨i, t, rfl, rfl⟩ | ⟨x, t, rfl, rfl⟩
    · rcases keyIs_shape hb with ⟨j, u, rfl, e⟩ | ⟨y, u, rfl, e⟩
      · injection e with e1 _; rw [e1]
      · exact nomatch e
    · rcases keyIs_shape hb with ⟨j, u, rfl, e⟩ | ⟨y, u, rfl, e⟩
      · exact nomatch e
      · injection e with e1 _; rw [e1]
  byValue := fun k v h => by
    rcases keyIs_shape h with ⟨i, t, rfl, rfl⟩ | ⟨x, t, rfl, rfl⟩ <;> rfl
  pyHash := fun hv h => by
    rcases keyIs_shape hv with ⟨i, t, rfl, rfl⟩ | ⟨x, t, rfl, rfl⟩
    · exact wpAny_pyHash_int h
    · exact wpAny_pyHash_str h
  eqBool := fun hu hv h => by
    rcases keyIs_shape hu with ⟨i, t, rfl, rfl⟩ | ⟨x, t, rfl, rfl⟩
    · rcases keyIs_shape hv with ⟨j, u, rfl, rfl⟩ | ⟨y, u, rfl, rfl⟩
      · rw [key_ll] at h; exact wpAny_eqBool_int h
      · rw [key_lr] at h; exact SeqAt.EqAt.int_str i t y u _ _ _ _ h
    · rcases keyIs_shape hv with ⟨j, u, rfl, rfl⟩ | ⟨y, u, rfl, rfl⟩
      · rw [key_rl] at h; exact SeqAt.EqAt.str_int x t j u _ _ _ _ h
      · rw [key_rr] at h; exact wpAny_eqBool_str h
  «strs» := fun k x t v h => by
    rcases keyIs_shape h with ⟨i, u, rfl, e⟩ | ⟨y, u, rfl, e⟩
    · exact nomatch e
    · injection e with e1 _
      subst e1
      cases v <;> rfl

end L2

namespace L2
open PySem PySem.Spec PyProof.Rows

/-- a value, without the heap -/
inductive V where
  | non | bl (b : Bool) | int (i : Int) | str (x : Str) | byt (b : Array UInt8) | flt (b : UInt64) | ref (a : Addr) | ty (n : String)
  deriving DecidableEq

def RelV : V → Value → Prop
  | .non, u => u = Value.none
  | .bl b, u => u = Value.bool b
  | .int i, u => ∃ t, u = Value.int i t
  | .str x, u => ∃ t, u = Value.str x t
  | .byt b, u => ∃ t, u = Value.bytes b t
  | .flt b, u => ∃ t, u = Value.float b t
  | .ref a, u => u = Value.ref a
  | .ty n, u => u = Value.type n

abbrev Vals : List V → List Value → Prop := Paired RelV
theorem Vals.length {xs : List V} {us : List Value} (r : Vals xs us) : xs.length = us.length := Paired.length r
theorem Vals.get : ∀ {xs : List V} {us : List Value} {i : Nat} {x : V}, Vals xs us → xs[i]? = some x → ∃ u, us[i]? = some u ∧ RelV x u
  | _, _, _, _, .nil, e => by simp at e
  | _, _, 0, _, .cons r _, e => by simp at e; subst e; exact ⟨_, rfl, r⟩
  | _, _, i + 1, x, .cons _ t, e => by
    obtain ⟨u, h1, h2⟩ := Vals.get (i := i) (x := x) t (by simpa using e)
    exact ⟨u, by simpa using h1, h2⟩
theorem Vals.set {x : V} {u : Value} (r : RelV x u) : ∀ {xs : List V} {us : List Value} (i : Nat), Vals xs us → Vals (xs.set i x) (us.set i u)
  | _, _, _, .nil => .nil
  | _, _, 0, .cons _ t => .cons r t
  | _, _, i + 1, .cons q t => .cons q (Vals.set r i t)
theorem Vals.append : ∀ {xs ys : List V} {us ws : List Value}, Vals xs us → Vals ys ws → Vals (xs ++ ys) (us ++ ws)
  | _, _, _, _, .nil, s => s
  | _, _, _, _, .cons r t, s => .cons r (Vals.append t s)
theorem Vals.take : ∀ {xs : List V} {us : List Value} (n : Nat), Vals xs us → Vals (xs.take n) (us.take n)
  | _, _, 0, _ => .nil
  | _, _, _ + 1, .nil => .nil
  | _, _, n + 1, .cons r t => .cons r (Vals.take n t)
theorem Vals.drop : ∀ {xs : List V} {us : List Value} (n : Nat), Vals xs us → Vals (xs.drop n) (us.drop n)
  | _, _, 0, r => r
  | _, _, _ + 1, .nil => .nil
  | _, _, n + 1, .cons _ t => Vals.drop n t
theorem Vals.none_of : ∀ {xs : List V} {us : List Value} {i : Nat}, Vals xs us → xs[i]? = none → us[i]? = none := fun {xs us i} r e => by
  have h1 := r.length
  have h2 : xs.length ≤ i := List.getElem?_eq_none_iff.mp e
  exact List.getElem?_eq_none_iff.mpr (by omega)

def RelO : Option V → Option Value → Prop
  | some v, some u => RelV v u
  | none, none => True
  | _, _ => False
def KV {κ : Type} : List (κ × V) → List (κ × Value) → Prop := Paired fun (p : κ × V) (q : κ × Value) => p.1 = q.1 ∧ RelV p.2 q.2

/-- a key of a dict (00_mix): an int or a text -/
def kV : Key → V
  | .inl i => .int i
  | .inr x => .str x

/-- what stands at a tracked address -/
inductive HO where
  /-- a list -/
  | lst (xs : List V)
  /-- a tuple (never changes) -/
  | tup (xs : List V)
  /-- a dict whose keys are ints and texts; one whose keys are tuples of ints and texts (the empty one is both) -/
  | dK (kvs : List (Key × V)) | dT (kvs : List (List Key × V))
  /-- a set of ints: its members, its size -/
  | set (S : Int → Bool) (n : Nat)
  /-- an instance of the class at C, its dict at dx, its attributes -/
  | ins (C dx : Addr) (fs : List (Str × V))
  /-- the dict of the instance at x -/
  | own (x : Addr)
  /-- the dict of an exception -/
  | xd (fs : List (Str × V))
  /-- a bound method, f of x -/
  | met (f x : Addr)
  /-- a range object lo, lo + 1, .. below hi -/
  | rng (lo hi : Int)
  /-- a thing that is known to the object (the script; a dict while a loop walks it): read, never written while it is so -/
  | frz (o : Obj) (u : HO)
  /-- a code object's table -/
  | tbl (ps : Array Value)
  /-- any other thing, by what is true of its one object (a def of one's own: SetO a S n := HO.ext fun h => ..) -/
  | ext (φ : Heap → Prop)

abbrev Hp := Addr → Option HO
def upd (H : Hp) (a : Addr) (o : HO) : Hp := fun b => if b = a then some o else H b
theorem upd_same {H : Hp} {a : Addr} {o : HO} : upd H a o a = some o := by unfold upd; rw [if_pos rfl]
theorem upd_ne {H : Hp} {a b : Addr} {o : HO} (h : b ≠ a) : upd H a o b = H b := by unfold upd; rw [if_neg h]
/-- two objects of different content stand apart -/
theorem ne_of {H : Hp} {a b : Addr} {o u : HO} (h : H a = some o) (h' : H b = some u) (d : o ≠ u) : a ≠ b := by
  intro e; subst e; rw [h] at h'; exact d (Option.some.inj h')
theorem ne_of_none {H : Hp} {a b : Addr} {o : HO} (h : H a = some o) (h' : H b = none) : a ≠ b := by
  intro e; subst e; rw [h] at h'; cases h'

section
variable (P : Program) (w : World)
def ObjOk (H : Hp) (h : Heap) (a : Addr) : HO → Prop
  | .lst xs => xs.length ≤ sizeLine ∧ ∃ (its : List Value) (n : Nat), Vals xs its ∧ h.get? a = some { cls := .type "list", data := .seq its.toArray n }
  | .tup xs => xs.length ≤ sizeLine ∧ ∃ its : List Value, Vals xs its ∧ IsTup h a its.toArray
  | .dK kvs => kvs.length ≤ sizeLine ∧ (a == sysModules) = false ∧ ∃ vs, KV kvs vs ∧ h.DictOf (mixKind P w) a vs
  | .dT kvs => kvs.length ≤ sizeLine ∧ (a == sysModules) = false ∧ ∃ xs : List (List Key × Addr × Value),
      Paired (fun (p : List Key × V) (q : List Key × Addr × Value) => p.1 = q.1 ∧ H q.2.1 = some (.tup (p.1.map kV)) ∧ RelV p.2 q.2.2) kvs xs ∧
      ∃ o es ep, h.get? a = some o ∧ o.ExactDict ∧ o.data = .dict es ep ∧ es.toList = xs.map (entryOfKey (tupleKind (mixKind P w))) ∧ (xs.map (·.1)).Nodup
  | .set S n => h.SetOf (intKind P w) a S n
  | .ins C dx fs => H dx = some (.own a) ∧ fs.length ≤ 1000 ∧ dx ≠ a ∧ h.get? a = some (PySem.W.instObj C dx) ∧
      ∃ mA, h.Ns1 dx mA ∧ (∀ f, RelO (fs.lookup f) (mA f)) ∧ PySem.Within mA (fs.map (·.1))
  | .own _ => ∃ o, h.get? a = some o
  | .xd fs => ∃ mA, h.Ns1 a mA ∧ ∀ f, RelO (fs.lookup f) (mA f)
  | .rng lo hi => ∃ t u v, h.get? a = some { cls := .type "range", data := .fields #[.int lo t, .int hi u, .int 1 v] }
  | .frz o u => h.get? a = some o ∧ ObjOk H h a u
  | .tbl ps => h.get? a = some { cls := .none, data := .fields ps }
  | .met f x => h.get? a = some (PySem.W.methodObj (.ref f) (.ref x))
  | .ext φ => φ h ∧ (∃ o, h.get? a = some o) ∧ ∀ h1 h2 : Heap, φ h1 → (∀ o, h1.get? a = some o → h2.get? a = some o) → φ h2
/-- the abstract heap is held -/
def HOk (H : Hp) (h : Heap) : Prop := ∀ a o, H a = some o → ObjOk P w H h a o
end

section
variable {P : Program} {w : World} {H H' : Hp} {h h' : Heap} {a : Addr} {o : HO}
theorem ObjOk.lt (x : ObjOk P w H h a o) : a < h.objs.size := by
  cases o with
  | lst xs => obtain ⟨_, _, _, _, e⟩ := x; exact Heap.lt_size e
  | tup xs => obtain ⟨_, _, _, p⟩ := x; exact p.lt
  | dK kvs => obtain ⟨_, _, _, _, o, _, _, e, _⟩ := x; exact Heap.lt_size e
  | dT kvs => obtain ⟨_, _, _, _, o, _, _, e, _⟩ := x; exact Heap.lt_size e
  | set S n => obtain ⟨o, _, _, _, e, _⟩ := x; exact Heap.lt_size e
  | ins C dx fs => obtain ⟨_, _, _, e, _⟩ := x; exact Heap.lt_size e
  | own y => obtain ⟨_, e⟩ := x; exact Heap.lt_size e
  | xd fs => obtain ⟨_, ⟨_, _, _, e, _⟩, _⟩ := x; exact Heap.lt_size e
  | rng lo hi => obtain ⟨_, _, _, e⟩ := x; exact Heap.lt_size e
  | frz ob u => obtain ⟨e, _⟩ := x; exact Heap.lt_size e
  | tbl ps => exact Heap.lt_size (show h.get? a = some _ from x)
  | met f y => exact Heap.lt_size (show h.get? a = some _ from x)
  | ext φ => obtain ⟨_, ⟨_, e⟩, _⟩ := x; exact Heap.lt_size e
theorem Paired.mapP {α β : Type} {F G : α → β → Prop} : ∀ {l₁ : List α} {l₂ : List β}, Paired F l₁ l₂ → (∀ a b, F a b → G a b) → Paired G l₁ l₂
  | _, _, .nil, _ => .nil
  | _, _, .cons r t, f => .cons (f _ _ r) (Paired.mapP t f)
/-- what an object's description leans on: its own object, its own dict, the tuples -/
theorem ObjOk.stay (x : ObjOk P w H h a o) (k : ∀ b u, (b = a ∨ H b = some (.own a)) → h.get? b = some u → h'.get? b = some u)
    (ho : ∀ b, H b = some (.own a) → H' b = some (.own a)) (ht : ∀ b xs, H b = some (.tup xs) → H' b = some (.tup xs)) : ObjOk P w H' h' a o := by
  induction o with
  | lst xs => obtain ⟨z, its, n, r, e⟩ := x; exact ⟨z, its, n, r, k _ _ (.inl rfl) e⟩
  | tup xs => obtain ⟨z, its, r, ob, e, c⟩ := x; exact ⟨z, its, r, ob, k _ _ (.inl rfl) e, c⟩
  | dK kvs => obtain ⟨z, y, vs, r, ob, es, ep, e, c⟩ := x; exact ⟨z, y, vs, r, ob, es, ep, k _ _ (.inl rfl) e, c⟩
  | dT kvs =>
    obtain ⟨z, y, xs, r, ob, es, ep, e, c⟩ := x
    exact ⟨z, y, xs, Paired.mapP r fun p q z => ⟨z.1, ht _ _ z.2.1, z.2.2⟩, ob, es, ep, k _ _ (.inl rfl) e, c⟩
  | set S n => obtain ⟨ob, es, ep, t, e, c⟩ := x; exact ⟨ob, es, ep, t, k _ _ (.inl rfl) e, c⟩
  | ins C dx fs =>
    obtain ⟨d, z, ne, e, mA, ⟨od, es, ep, e2, c⟩, r⟩ := x
    exact ⟨ho _ d, z, ne, k _ _ (.inl rfl) e, mA, ⟨od, es, ep, k _ _ (.inr d) e2, c⟩, r⟩
  | own y => obtain ⟨ob, e⟩ := x; exact ⟨ob, k _ _ (.inl rfl) e⟩
  | xd fs => obtain ⟨mA, ⟨od, es, ep, e, c⟩, r⟩ := x; exact ⟨mA, ⟨od, es, ep, k _ _ (.inl rfl) e, c⟩, r⟩
  | rng lo hi => obtain ⟨t, u, v, e⟩ := x; exact ⟨t, u, v, k _ _ (.inl rfl) e⟩
  | frz ob u ih => obtain ⟨e, q⟩ := x; exact ⟨k _ _ (.inl rfl) e, ih q⟩
  | tbl ps =>
    have e : h.get? a = some { cls := .none, data := .fields ps } := x
    show h'.get? a = some { cls := .none, data := .fields ps }
    exact k a _ (.inl rfl) e
  | met f y =>
    have e : h.get? a = some (PySem.W.methodObj (.ref f) (.ref y)) := x
    show h'.get? a = some (PySem.W.methodObj (.ref f) (.ref y))
    exact k a _ (.inl rfl) e
  | ext φ => obtain ⟨p, ⟨o, e⟩, st⟩ := x; exact ⟨st _ _ p fun o q => k _ _ (.inl rfl) q, ⟨o, k _ _ (.inl rfl) e⟩, st⟩
theorem HOk.lt (x : HOk P w H h) (e : H a = some o) : a < h.objs.size := (x a o e).lt
theorem HOk.fresh (x : HOk P w H h) (e : h.objs.size ≤ a) : H a = none := by
  cases q : H a with
  | none => rfl
  | some u => exact absurd (Nat.lt_of_lt_of_le (x.lt q) e) (Nat.lt_irrefl _)
/-- every object of the heap is kept -/
theorem HOk.kept (x : HOk P w H h) (k : ∀ b u, h.get? b = some u → h'.get? b = some u) : HOk P w H h' := fun a o e =>
  (x a o e).stay (fun b u _ q => k b u q) (fun _ q => q) fun _ _ q => q
/-- a new object is laid and tracked -/
theorem HOk.laid (x : HOk P w H h) (k : ∀ b u, h.get? b = some u → h'.get? b = some u) (hp : h.objs.size ≤ a) (new : ObjOk P w (upd H a o) h' a o) : HOk P w (upd H a o) h' := fun b u e => by
  have hn := x.fresh hp
  by_cases hb : b = a
  · subst hb; rw [upd_same] at e; cases e; exact new
  · rw [upd_ne hb] at e
    exact (x b u e).stay (fun c v _ q => k c v q) (fun c q => by rw [upd_ne (ne_of_none q hn)]; exact q) fun c xs q => by rw [upd_ne (ne_of_none q hn)]; exact q
end

/-- what may be read as u: it is u, or a known u -/
def Rd (H : Hp) (a : Addr) (u : HO) : Prop := H a = some u ∨ ∃ o, H a = some (.frz o u)
theorem Rd.of {H : Hp} {a : Addr} {u : HO} (h : H a = some u) : Rd H a u := .inl h
theorem Rd.ok {P : Program} {w : World} {H : Hp} {h : Heap} {a : Addr} {u : HO} (r : Rd H a u) (x : HOk P w H h) : ObjOk P w H h a u := by
  rcases r with r | ⟨o, r⟩
  · exact x a u r
  · obtain ⟨_, q⟩ := x a _ r
    exact q
/-- what may be written -/
def Mut : Option HO → Prop
  | some (.lst _) => True
  | some (.dK _) => True
  | some (.dT _) => True
  | some (.set _ _) => True
  | some (.ins _ _ _) => True
  | some (.ext _) => True
  | _ => False
section
variable {P : Program} {w : World} {H : Hp} {h h' : Heap} {x e : Addr} {o' : HO}
/-- the object at e is changed: x itself, or the dict of the instance x -/
theorem HOk.write (ok : HOk P w H h) (mu : Mut (H x)) (he : e = x ∨ H e = some (.own x)) (k : ∀ b u, b ≠ e → h.get? b = some u → h'.get? b = some u) (heo : ∃ u, h'.get? e = some u)
    (new : ObjOk P w (upd H x o') h' x o') : HOk P w (upd H x o') h' := fun b u q => by
  have nown : ∀ c y, H c = some (.own y) → c ≠ x := fun c y r z => by subst z; rw [r] at mu; exact mu
  have ntup : ∀ c xs, H c = some (.tup xs) → c ≠ x := fun c xs r z => by subst z; rw [r] at mu; exact mu
  by_cases hb : b = x
  · subst hb; rw [upd_same] at q; cases q; exact new
  · rw [upd_ne hb] at q
    by_cases hbe : b = e
    · have q' : H b = some (.own x) := by
        rcases he with z | z
        · exact absurd (hbe.trans z) hb
        · rw [hbe]; exact z
      rw [q] at q'; cases q'
      obtain ⟨v, hv⟩ := heo
      exact ⟨v, by rw [hbe]; exact hv⟩
    · refine (ok b u q).stay (fun c v hc r => k c v ?_ r) (fun c r => by rw [upd_ne (nown c b r)]; exact r) fun c xs r => by rw [upd_ne (ntup c xs r)]; exact r
      rcases hc with rfl | hc
      · exact hbe
      · rintro rfl
        rcases he with z | z
        · exact nown c b hc z
        · rw [hc] at z; cases z; exact hb rfl
end

/-! ### kept unless tracked; of the frames at fs (the callers') the slots may change (an exception that passes writes there); of the records at ex (iterators) nothing is said -/
structure Un (fs ex : List Addr) (H H' : Hp) (h h' : Heap) : Prop where
  keep : ∀ b o, h.get? b = some o → H b = none → b ∉ fs → b ∉ ex → h'.get? b = some o
  slot : ∀ b o, h.get? b = some o → H b = none → b ∈ fs → b ∉ ex → ∃ sl, h'.get? b = some { o with slots := sl }
  free : ∀ b o, h.get? b = some o → H b = none → b ∉ ex → H' b = none
  there : ∀ b o, h.get? b = some o → b ∉ ex → ∃ o', h'.get? b = some o'
  tups : ∀ b xs, H b = some (.tup xs) → H' b = some (.tup xs)
  frzs : ∀ b o u, H b = some (.frz o u) → H' b = some (.frz o u)
  tbls : ∀ b ps, H b = some (.tbl ps) → ∃ more, H' b = some (.tbl (ps ++ more))
section
variable {fs fs' ex ex' : List Addr} {H H1 H2 : Hp} {h h1 h2 h' : Heap} {a x e : Addr} {o : HO}
theorem Un.any (u : Un fs ex H H1 h h1) {b : Addr} {ob : Obj} (q : h.get? b = some ob) (n : H b = none) (hx : b ∉ ex) : ∃ sl, h1.get? b = some { ob with slots := sl } := by
  by_cases hb : b ∈ fs
  · exact u.slot b ob q n hb hx
  · exact ⟨ob.slots, u.keep b ob q n hb hx⟩
theorem Un.trans (a : Un fs ex H H1 h h1) (b : Un fs ex H1 H2 h1 h2) : Un fs ex H H2 h h2 where
  keep := fun c ob q n hc hx => b.keep c ob (a.keep c ob q n hc hx) (a.free c ob q n hx) hc hx
  slot := fun c ob q n hc hx => by
    obtain ⟨sl, e1⟩ := a.slot c ob q n hc hx
    obtain ⟨sl', e2⟩ := b.slot c _ e1 (a.free c ob q n hx) hc hx
    exact ⟨sl', e2⟩
  free := fun c ob q n hx => by
    obtain ⟨o', e1⟩ := a.there c ob q hx
    exact b.free c o' e1 (a.free c ob q n hx) hx
  there := fun c ob q hx => by
    obtain ⟨o', e1⟩ := a.there c ob q hx
    exact b.there c o' e1 hx
  tups := fun c xs q => b.tups c xs (a.tups c xs q)
  frzs := fun c ob xs q => b.frzs c ob xs (a.frzs c ob xs q)
  tbls := fun c ps q => by
    obtain ⟨m1, e1⟩ := a.tbls c ps q
    obtain ⟨m2, e2⟩ := b.tbls c _ e1
    exact ⟨m1 ++ m2, by rw [e2, Array.append_assoc]⟩
theorem Un.kept (k : ∀ b u, h.get? b = some u → h'.get? b = some u) : Un fs ex H H h h' :=
  ⟨fun b ob q _ _ _ => k b ob q, fun b ob q _ _ _ => ⟨ob.slots, k b ob q⟩, fun _ _ _ n _ => n, fun b ob q _ => ⟨ob, k b ob q⟩, fun _ _ q => q, fun _ _ _ q => q, fun _ ps q => ⟨#[], by rw [q]; simp⟩⟩
theorem Un.refl : Un fs ex H H h h := Un.kept fun _ _ q => q
theorem Un.laid (k : ∀ b u, h.get? b = some u → h'.get? b = some u) (hp : h.objs.size ≤ a) (hn : H a = none) : Un fs ex H (upd H a o) h h' where
  keep := fun b u q _ _ _ => k b u q
  slot := fun b u q _ _ _ => ⟨u.slots, k b u q⟩
  free := fun b u q n _ => by rw [upd_ne (Nat.ne_of_lt (Nat.lt_of_lt_of_le (Heap.lt_size q) hp))]; exact n
  there := fun b u q _ => ⟨u, k b u q⟩
  tups := fun b xs q => by rw [upd_ne (ne_of_none q hn)]; exact q
  frzs := fun b u xs q => by rw [upd_ne (ne_of_none q hn)]; exact q
  tbls := fun b ps q => ⟨#[], by rw [upd_ne (ne_of_none q hn), q]; simp⟩
theorem Un.write (mu : Mut (H x)) (he : e = x ∨ H e = some (.own x)) (k : ∀ b u, b ≠ e → h.get? b = some u → h'.get? b = some u) (heo : ∃ u, h'.get? e = some u) : Un fs ex H (upd H x o) h h' := by
  have hx : ∀ b, H b = none → b ≠ x := fun b n z => by subst z; rw [n] at mu; exact mu
  have hb : ∀ b, H b = none → b ≠ e := fun b n z => by
    subst z
    rcases he with r | r
    · exact hx b n r
    · rw [n] at r; cases r
  have hm : ∀ b u, H b = some u → ¬ Mut (some u) → b ≠ x := fun b u q nm z => by subst z; rw [q] at mu; exact nm mu
  refine ⟨fun b u q n _ _ => k b u (hb b n) q, fun b u q n _ _ => ⟨u.slots, k b u (hb b n) q⟩, fun b u q n _ => by rw [upd_ne (hx b n)]; exact n, fun b u q _ => ?_,
    fun b xs q => by rw [upd_ne (hm b _ q fun z => z)]; exact q, fun b u xs q => by rw [upd_ne (hm b _ q fun z => z)]; exact q, fun b ps q => ⟨#[], by rw [upd_ne (hm b _ q fun z => z), q]; simp⟩⟩
  by_cases hbe : b = e
  · subst hbe; exact heo
  · exact ⟨u, k b u hbe q⟩
theorem Un.mono (u : Un fs ex H H1 h h1) (hs : ∀ b ∈ fs, b ∈ fs') (hx : ∀ b ∈ ex, b ∈ ex') : Un fs' ex' H H1 h h1 :=
  ⟨fun b ob q n hb he => u.keep b ob q n (fun z => hb (hs b z)) fun z => he (hx b z), fun _ _ q n _ he => u.any q n fun z => he (hx _ z), fun b ob q n he => u.free b ob q n fun z => he (hx b z), fun b ob q he => u.there b ob q fun z => he (hx b z), u.tups, u.frzs, u.tbls⟩
end

/-! ### the heap without what is tracked -/
def trk (h : Heap) (H : Hp) : List Addr := (List.range h.objs.size).filter fun a => (H a).isSome
def hidT (h : Heap) (H : Hp) : Heap := PySem.W.hideAll h (trk h H)
theorem hidT_size (h : Heap) (H : Hp) : (hidT h H).objs.size = h.objs.size := PySem.W.hideAll_size _ _
theorem hidT_get {h : Heap} {H : Hp} {b : Addr} {o : Obj} (e : h.get? b = some o) (n : H b = none) : (hidT h H).get? b = some o :=
  PySem.W.hideAll_get _ e fun hm => by
    have q : (H b).isSome = true := (List.mem_filter.mp hm).2
    rw [n] at q; simp at q
theorem of_hidT {h : Heap} {H : Hp} {b : Addr} {o : Obj} (e : (hidT h H).get? b = some o) : h.get? b = some o ∧ H b = none := by
  have e' : h.get? b = some o := PySem.W.of_hideAll (trk h H) e
  refine ⟨e', ?_⟩
  cases q : H b with
  | none => rfl
  | some x =>
    have hm : b ∈ trk h H := List.mem_filter.mpr ⟨List.mem_range.mpr (Heap.lt_size e'), by simp [q]⟩
    have z : (hidT h H).get? b = none := PySem.W.hideAll_none (trk h H) hm
    rw [z] at e; cases e

/-! ### OpenK's ledger, filled with every new object but one -/
def allNews (g h : Heap) (L : Addr) : List (Addr × Obj) := (List.range h.objs.size).filterMap fun a => if a = L ∨ (g.get? a).isSome = true then none else (h.get? a).map fun o => (a, o)
def rest (g h : Heap) (L d : Addr) : List (Addr × Obj) := (allNews g h L).filter fun p => decide (p.1 ≠ d)
end L2

namespace L2
open PySem PySem.Spec PyProof.Rows

/-- the module's facts, over the base: the heap at the law's entry without what is tracked there -/
structure Mod (K : PySem.W.Frag) (mg : Str → Option Value) (base : Heap) : Prop where
  kin : K.In base
  glob : base.Ns mainGlobals mg
  blt : ∃ mb, base.Ns builtinsNs mb ∧ ∀ x : Str, x ≠ "__name__" → mb x = bootBuiltins x
  nolimit : base.NoLimit

/-- the context: a def's body (or a comprehension's block) running. base: fixed through the whole law; s₀, H₀: the entry; outer: the frames whose slots others may change (a def's callers); stack: all frames that run;
   ex: iterators that were made ahead of the entry and are walked here (a comprehension's); fn: the names whose cells were made at the entry (a def: all; a comprehension's block: its own); calm: not within an except suite; pn: pins that every state bears; xe: what is wanted of an exception that leaves the code -/
structure Cx where
  prog : Program
  w : World
  K : PySem.W.Frag
  mg : Str → Option Value
  base : Heap
  A : Around
  N : List Str
  s_0 : Shared
  H_0 : Hp
  env : Env
  outer : List Env
  stack : List Env
  ex : List Addr
  fn : Str → Bool
  calm : Bool
  pn : List (Addr × Obj)
  xe : Value → Shared → Prop
/-- the callers' frames -/
def frs (l : List Env) : List Addr := l.filterMap (·.frame)
abbrev Cx.fs (X : Cx) : List Addr := frs X.outer

def Vis (sc : Scope) (x : Str) : Prop := sc.names.lookup x = some .local ∨ sc.names.lookup x = some .cell ∨ sc.names.lookup x = some .free
def Loc (sc : Scope) (x : Str) : Prop := sc.names.lookup x = some .local ∨ sc.names.lookup x = some .cell
def Look (env : Env) (h : Heap) (m : Str → Option Value) (x : Str) (u : Value) : Prop :=
  (env.kindOf x = some .local ∧ m x = some u) ∨ ((env.kindOf x = some .cell ∨ env.kindOf x = some .free) ∧ ∃ c, env.cells.lookup x = some c ∧ h.IsCell c (some u))

structure Cx.Ok (X : Cx) : Prop where
  mod : Mod X.K X.mg X.base
  kind : X.env.scope.kind = .function
  glob : X.env.globals = mainGlobals
  blt : X.env.builtins = builtinsNs
  above : X.s_0.heap.objs.size ≤ X.env.locals
  inj : ∀ x y c, X.env.cells.lookup x = some c → X.env.cells.lookup y = some c → x = y
  has : ∀ x, (X.env.kindOf x = some .cell ∨ X.env.kindOf x = some .free) → ∃ c, X.env.cells.lookup x = some c
  cab : ∀ x c, X.fn x = true → X.env.cells.lookup x = some c → X.s_0.heap.objs.size ≤ c
  hd : X.calm = true → X.A.handled = none
  frames : X.A.frames = some X.stack
  stk : X.stack = X.outer ∨ (X.stack = X.env :: X.outer ∧ X.env.frame = some X.env.locals)
  exf : ∀ b ∈ X.ex, b ≠ X.env.locals ∧ ∀ x c, X.env.cells.lookup x = some c → c ≠ b
  bs : ∀ b o, X.base.get? b = some o → X.s_0.heap.get? b = some o ∧ X.H_0 b = none
  bsz : X.base.objs.size ≤ X.s_0.heap.objs.size
  noex : ∀ b o, X.base.get? b = some o → b ∉ X.ex
  exfs : ∀ b ∈ X.ex, b ∉ X.fs
  funs : X.s_0.heap.FunFrames X.base X.outer
  frf : ∀ b ∈ X.fs, X.H_0 b = none

structure Inv (X : Cx) (pins : List (Addr × Obj)) (σ : List (Option V)) (H : Hp) (s : Shared) : Prop where
  ok : X.Ok
  os : s.os = X.s_0.os
  bare : AllBare s.gens
  base : Un X.fs X.ex X.H_0 H X.s_0.heap s.heap
  loc : ∃ m, s.heap.Ns X.env.locals m ∧ ∀ (i : Nat) (x : Str) (v : V), X.N[i]? = some x → σ[i]? = some (some v) → Vis X.env.scope x → ∃ u, RelV v u ∧ Look X.env s.heap m x u
  cell : ∀ x c, X.env.cells.lookup x = some c → ∃ v, s.heap.IsCell c v
  free : H X.env.locals = none
  freeC : ∀ x c, X.env.cells.lookup x = some c → H c = none
  pin : ∀ p ∈ X.pn ++ pins, s.heap.get? p.1 = some p.2 ∧ H p.1 = none ∧ p.1 ≠ X.env.locals ∧ p.1 ∉ X.fs ∧ ∀ v, p.2.data ≠ .cell v
  hok : HOk X.prog X.w H s.heap
  len : σ.length = X.N.length

section
variable {X : Cx} {pins : List (Addr × Obj)} {σ : List (Option V)} {H H' : Hp} {s : Shared} {h' : Heap}

theorem Cx.Ok.nofr (ok : X.Ok) {b : Addr} {o : Obj} (e : X.base.get? b = some o) : b ∉ X.fs := fun hb => by
  have := (ok.funs.mem hb).1
  rw [e] at this; cases this
theorem Inv.bs (I : Inv X pins σ H s) : ∀ b o, X.base.get? b = some o → s.heap.get? b = some o ∧ H b = none := fun b o e =>
  ⟨I.base.keep b o (I.ok.bs b o e).1 (I.ok.bs b o e).2 (I.ok.nofr e) (I.ok.noex b o e), I.base.free b o (I.ok.bs b o e).1 (I.ok.bs b o e).2 (I.ok.noex b o e)⟩
theorem Inv.bk (I : Inv X pins σ H s) : ∀ b o, X.base.get? b = some o → s.heap.get? b = some o := fun b o e => (I.bs b o e).1
theorem Inv.mod (I : Inv X pins σ H s) : Mod X.K X.mg X.base := I.ok.mod
theorem Inv.kIn (I : Inv X pins σ H s) : X.K.In s.heap := I.ok.mod.kin.keeps I.bk
theorem Inv.nolimit (I : Inv X pins σ H s) : s.heap.NoLimit := I.ok.mod.nolimit.keeps I.bk
/-- the frame over the base: for OpenK's rules (K.In X.base is I.mod.kin) -/
theorem Inv.fr (I : Inv X pins σ H s) : ∃ m, Fr X.base X.env.locals s.heap m :=
  let ⟨m, hn, _⟩ := I.loc
  ⟨m, hn, I.bk, Nat.le_trans I.ok.bsz I.ok.above⟩
theorem Inv.lt (I : Inv X pins σ H s) : X.env.locals < s.heap.objs.size := let ⟨_, hn, _⟩ := I.loc; hn.lt
theorem Inv.sz (I : Inv X pins σ H s) : X.s_0.heap.objs.size ≤ s.heap.objs.size := Nat.le_trans I.ok.above (Nat.le_of_lt I.lt)
theorem Inv.nofs (I : Inv X pins σ H s) {a : Addr} (h : s.heap.objs.size ≤ a) : a ∉ X.fs := fun hb => by
  obtain ⟨_, o, ho, _⟩ := I.ok.funs.mem hb
  exact absurd (Nat.lt_of_lt_of_le (Heap.lt_size ho) (Nat.le_trans I.sz h)) (Nat.lt_irrefl _)
theorem Inv.cne (I : Inv X pins σ H s) : ∀ x c, X.env.cells.lookup x = some c → c ≠ X.env.locals := fun x c e z => by
  obtain ⟨v, o, ho, hd⟩ := I.cell x c e
  obtain ⟨m, ⟨o', es, ep, ho', hd', _⟩, _⟩ := I.loc
  rw [z, ho'] at ho; cases ho; rw [hd'] at hd; cases hd
theorem Inv.funs (I : Inv X pins σ H s) : s.heap.FunFrames X.base X.outer := by
  have all : ∀ (l : List Env), (∀ b ∈ frs l, b ∈ X.fs) → X.s_0.heap.FunFrames X.base l → s.heap.FunFrames X.base l := by
    intro l
    induction l with
    | nil => intro _ _; trivial
    | cons env r ih =>
      intro hs hl
      obtain ⟨hk, ⟨L, o, hf, hn, ho, hd⟩, hr⟩ := hl
      have hL : L ∈ X.fs := hs L (by unfold frs; rw [List.filterMap_cons, hf]; exact List.mem_cons_self)
      obtain ⟨sl, e⟩ := I.base.slot L o ho (I.ok.frf L hL) hL fun z => I.ok.exfs L z hL
      exact ⟨hk, ⟨L, _, hf, hn, e, hd⟩, ih (fun b hb => hs b (by unfold frs; rw [List.filterMap_cons, hf]; exact List.mem_cons_of_mem _ hb)) hr⟩
  exact all X.outer (fun _ hb => hb) I.ok.funs

/-- the frames that run, for a call -/
theorem Inv.stack (I : Inv X pins σ H s) : s.heap.FunFrames X.base X.stack := by
  rcases I.ok.stk with e | ⟨e, hf⟩
  · rw [e]; exact I.funs
  · rw [e]
    obtain ⟨m, hn, _⟩ := I.loc
    refine .cons (by rw [I.ok.kind]; decide) hf hn ?_ I.funs
    exact Heap.get?_none_of_le (Nat.le_trans I.ok.bsz I.ok.above)
theorem Inv.stkSub (I : Inv X pins σ H s) : ∀ b ∈ frs X.stack, b ∈ X.env.locals :: X.fs := fun b hb => by
  rcases I.ok.stk with e | ⟨e, hf⟩
  · rw [e] at hb; exact List.mem_cons_of_mem _ hb
  · rw [e] at hb
    unfold frs at hb
    rw [List.filterMap_cons, hf] at hb
    exact hb
theorem Inv.stkFree (I : Inv X pins σ H s) : ∀ b ∈ frs X.stack, H b = none := fun b hb => by
  rcases List.mem_cons.mp (I.stkSub b hb) with e | hb
  · rw [e]; exact I.free
  · obtain ⟨_, o, ho, _⟩ := I.ok.funs.mem hb
    exact I.base.free b o ho (I.ok.frf b hb) fun z => I.ok.exfs b z hb

/-- THE STEP: the untracked objects but the frame and the records at ch are kept (the callers' frames up to slots), the frame's map is kept, the new abstract heap is held -/
theorem Inv.step {g' : Array GenState} {t' : Nat} {d' : Drawn} {ch : List Addr} (I : Inv X pins σ H s)
    (hch : ∀ b ∈ ch, (b ∈ X.ex ∨ X.s_0.heap.objs.size ≤ b) ∧ b ≠ X.env.locals ∧ (∀ x c, X.env.cells.lookup x = some c → c ≠ b) ∧ ∀ p ∈ X.pn ++ pins, p.1 ≠ b)
    (keep : ∀ b o, b ≠ X.env.locals → b ∉ X.fs → b ∉ ch → s.heap.get? b = some o → H b = none → h'.get? b = some o)
    (slot : ∀ b o, b ≠ X.env.locals → b ∈ X.fs → b ∉ ch → s.heap.get? b = some o → H b = none → ∃ sl, h'.get? b = some { o with slots := sl }) (free : ∀ b o, b ∉ ch → s.heap.get? b = some o → H b = none → H' b = none)
    (there : ∀ b o, b ∉ ch → s.heap.get? b = some o → ∃ o', h'.get? b = some o')
    (tups : ∀ b xs, H b = some (.tup xs) → H' b = some (.tup xs)) (frzs : ∀ b o u, H b = some (.frz o u) → H' b = some (.frz o u)) (tbls : ∀ b ps, H b = some (.tbl ps) → ∃ more, H' b = some (.tbl (ps ++ more)))
    (ns : ∀ m, s.heap.Ns X.env.locals m → h'.Ns X.env.locals m) (hok : HOk X.prog X.w H' h') (hg : AllBare g') :
    Inv X pins σ H' { s with heap := h', gens := g', drawn := d', toks := t' } := by
  have neL : ∀ b o, X.s_0.heap.get? b = some o → b ≠ X.env.locals := fun b o e => Nat.ne_of_lt (Nat.lt_of_lt_of_le (Heap.lt_size e) I.ok.above)
  have neC : ∀ b o, X.s_0.heap.get? b = some o → b ∉ X.ex → b ∉ ch := fun b o e hx hb => by
    rcases (hch b hb).1 with z | z
    · exact hx z
    · exact absurd (Nat.lt_of_lt_of_le (Heap.lt_size e) z) (Nat.lt_irrefl _)
  have cellK : ∀ x c, X.env.cells.lookup x = some c → ∀ v, s.heap.IsCell c v → h'.IsCell c v := fun x c e v ⟨o, ho, hd⟩ => by
    have nch : c ∉ ch := fun z => (hch c z).2.2.1 x c e rfl
    by_cases hc : c ∈ X.fs
    · obtain ⟨sl, q⟩ := slot c o (I.cne x c e) hc nch ho (I.freeC x c e)
      exact ⟨_, q, hd⟩
    · exact ⟨o, keep c o (I.cne x c e) hc nch ho (I.freeC x c e), hd⟩
  refine ⟨I.ok, I.os, hg, ⟨fun b o e n hb hx => ?_, fun b o e n hb hx => ?_, fun b o e n hx => ?_, fun b o e hx => ?_, fun b xs e => tups b xs (I.base.tups b xs e), fun b o xs e => frzs b o xs (I.base.frzs b o xs e), fun b ps e => ?_⟩, ?_, fun x c e => ?_, ?_, fun x c e => ?_, fun p hp => ?_, hok, I.len⟩
  · exact keep b o (neL b o e) hb (neC b o e hx) (I.base.keep b o e n hb hx) (I.base.free b o e n hx)
  · obtain ⟨sl, e1⟩ := I.base.slot b o e n hb hx
    obtain ⟨sl', e2⟩ := slot b _ (neL b o e) hb (neC b o e hx) e1 (I.base.free b o e n hx)
    exact ⟨sl', e2⟩
  · obtain ⟨o', e1⟩ := I.base.there b o e hx
    exact free b o' (neC b o e hx) e1 (I.base.free b o e n hx)
  · obtain ⟨o', e1⟩ := I.base.there b o e hx
    exact there b o' (neC b o e hx) e1
  · obtain ⟨m1, e1⟩ := I.base.tbls b ps e
    obtain ⟨m2, e2⟩ := tbls b _ e1
    exact ⟨m1 ++ m2, by rw [e2, Array.append_assoc]⟩
  · obtain ⟨m, hn, hl⟩ := I.loc
    refine ⟨m, ns m hn, fun i x v e1 e2 e3 => ?_⟩
    obtain ⟨u, r, l⟩ := hl i x v e1 e2 e3
    refine ⟨u, r, ?_⟩
    rcases l with l | ⟨k, c, e, z⟩
    · exact .inl l
    · exact .inr ⟨k, c, e, cellK x c e _ z⟩
  · obtain ⟨v, z⟩ := I.cell x c e
    exact ⟨v, cellK x c e v z⟩
  · obtain ⟨m, ⟨o, _, _, ho, _⟩, _⟩ := I.loc
    exact free _ o (fun z => (hch _ z).2.1 rfl) ho I.free
  · obtain ⟨v, o, ho, hd⟩ := I.cell x c e
    exact free c o (fun z => (hch c z).2.2.1 x c e rfl) ho (I.freeC x c e)
  · obtain ⟨e, n, ne, nf, d⟩ := I.pin p hp
    have nch : p.1 ∉ ch := fun z => (hch p.1 z).2.2.2 p hp rfl
    exact ⟨keep p.1 p.2 ne nf nch e n, free p.1 p.2 nch e n, ne, nf, d⟩
/-- .. where the frame's own object is kept too -/
theorem Inv.un {t' : Nat} (I : Inv X pins σ H s) (u : Un X.fs [] H H' s.heap h') (hok : HOk X.prog X.w H' h') : Inv X pins σ H' { s with heap := h', toks := t' } := by
  obtain ⟨m, ⟨o, es, ep, ho, r⟩, _⟩ := id I.loc
  obtain ⟨sl, hL⟩ := u.any ho I.free (by simp)
  exact I.step (g' := s.gens) (d' := s.drawn) (ch := []) (fun _ z => nomatch z) (fun b o _ hb _ e n => u.keep b o e n hb (by simp)) (fun b o _ hb _ e n => u.slot b o e n hb (by simp)) (fun b o _ e n => u.free b o e n (by simp)) (fun b o _ e => u.there b o e (by simp)) u.tups u.frzs u.tbls (fun m' hm => by
    obtain ⟨o', es', ep', ho', r'⟩ := hm
    rw [ho] at ho'; cases ho'
    exact ⟨_, es', ep', hL, r'⟩) hok I.bare
/-- behind a call (or a comprehension's block): the slots of this frame may have changed too, the records at ch may have turned -/
theorem Inv.call {g' : Array GenState} {t' : Nat} {d' : Drawn} {ch : List Addr} (I : Inv X pins σ H s) (u : Un (frs X.stack) ch H H' s.heap h') (hok : HOk X.prog X.w H' h') (hg : AllBare g')
    (hch : ∀ b ∈ ch, (b ∈ X.ex ∨ X.s_0.heap.objs.size ≤ b) ∧ b ≠ X.env.locals ∧ (∀ x c, X.env.cells.lookup x = some c → c ≠ b) ∧ ∀ p ∈ X.pn ++ pins, p.1 ≠ b) :
    Inv X pins σ H' { s with heap := h', gens := g', drawn := d', toks := t' } := by
  obtain ⟨m, ⟨o, es, ep, ho, r⟩, _⟩ := id I.loc
  obtain ⟨sl, hL⟩ := u.any ho I.free fun z => (hch _ z).2.1 rfl
  exact I.step (ch := ch) hch (fun b o hL hb hc e n => u.keep b o e n (fun z => (List.mem_cons.mp (I.stkSub b z)).elim hL hb) hc) (fun b o _ _ hc e n => u.any e n hc) (fun b o hc e n => u.free b o e n hc) (fun b o hc e => u.there b o e hc) u.tups u.frzs u.tbls (fun m' hm => by
    obtain ⟨o', es', ep', ho', r'⟩ := hm
    rw [ho] at ho'; cases ho'
    exact ⟨_, es', ep', hL, r'⟩) hok hg
/-- an untracked record of ours (an iterator) has turned -/
theorem Inv.turned {t' : Nat} {it : Addr} (I : Inv X pins σ H s) (k : ∀ b o, b ≠ it → s.heap.get? b = some o → h'.get? b = some o) (hn : H it = none) (hL : it ≠ X.env.locals)
    (h1 : it ∈ X.ex ∨ X.s_0.heap.objs.size ≤ it) (h2 : ∀ x c, X.env.cells.lookup x = some c → c ≠ it) (h3 : ∀ p ∈ X.pn ++ pins, p.1 ≠ it) : Inv X pins σ H { s with heap := h', toks := t' } := by
  have nit : ∀ b u, H b = some u → b ≠ it := fun b u e z => by rw [z, hn] at e; cases e
  refine I.step (g' := s.gens) (d' := s.drawn) (ch := [it]) (fun b hb => ?_) (fun b o _ _ hc e _ => k b o (fun z => hc (by simp [z])) e) (fun b o _ _ hc e _ => ⟨o.slots, k b o (fun z => hc (by simp [z])) e⟩) (fun _ _ _ _ n => n)
    (fun b o hc e => ⟨o, k b o (fun z => hc (by simp [z])) e⟩) (fun _ _ e => e) (fun _ _ _ e => e) (fun b ps e => ⟨#[], by rw [e]; simp⟩) (fun m hm => ?_) (fun b u e => ?_) I.bare
  · have e : b = it := by simpa using hb
    subst e
    exact ⟨h1, hL, h2, h3⟩
  · obtain ⟨o, es, ep, ho, r⟩ := hm
    exact ⟨o, es, ep, k _ o (Ne.symm hL) ho, r⟩
  · refine (I.hok b u e).stay (fun c v hc q => k c v ?_ q) (fun _ q => q) fun _ _ q => q
    rcases hc with z | z
    · rw [z]; exact nit b u e
    · exact nit c _ z
theorem Inv.tok (I : Inv X pins σ H s) (t : Nat) : Inv X pins σ H { s with toks := t } := I.un (h' := s.heap) (t' := t) Un.refl I.hok
/-- all objects kept -/
theorem Inv.kept {t' : Nat} (I : Inv X pins σ H s) (k : ∀ b u, s.heap.get? b = some u → h'.get? b = some u) : Inv X pins σ H { s with heap := h', toks := t' } := I.un (Un.kept k) (I.hok.kept k)
/-- a new object laid and tracked -/
theorem Inv.laid {a : Addr} {o : HO} {t' : Nat} (I : Inv X pins σ H s) (k : ∀ b u, s.heap.get? b = some u → h'.get? b = some u) (hp : s.heap.objs.size ≤ a) (new : ObjOk X.prog X.w (upd H a o) h' a o) :
    Inv X pins σ (upd H a o) { s with heap := h', toks := t' } := I.un (Un.laid k hp (I.hok.fresh hp)) (I.hok.laid k hp new)
/-- an object written -/
theorem Inv.write {x e : Addr} {o : HO} {t' : Nat} (I : Inv X pins σ H s) (mu : Mut (H x)) (he : e = x ∨ H e = some (.own x)) (k : ∀ b u, b ≠ e → s.heap.get? b = some u → h'.get? b = some u) (heo : ∃ u, h'.get? e = some u)
    (new : ObjOk X.prog X.w (upd H x o) h' x o) : Inv X pins σ (upd H x o) { s with heap := h', toks := t' } := I.un (Un.write mu he k heo) (I.hok.write mu he k heo new)
/-- forgetting slots, pins -/
theorem Inv.weak {σ' : List (Option V)} (I : Inv X pins σ H s) (hl : σ'.length = σ.length) (w : ∀ (i : Nat) v, σ'[i]? = some (some v) → σ[i]? = some (some v)) : Inv X pins σ' H s :=
  ⟨I.ok, I.os, I.bare, I.base, let ⟨m, hn, hl'⟩ := I.loc; ⟨m, hn, fun i x v e1 e2 e3 => hl' i x v e1 (w i v e2) e3⟩, I.cell, I.free, I.freeC, I.pin, I.hok, hl.trans I.len⟩
theorem Inv.pins_of {pins' : List (Addr × Obj)} (I : Inv X pins σ H s) (h : ∀ p ∈ pins', s.heap.get? p.1 = some p.2 ∧ H p.1 = none ∧ p.1 ≠ X.env.locals ∧ p.1 ∉ X.fs ∧ ∀ v, p.2.data ≠ .cell v) : Inv X pins' σ H s :=
  ⟨I.ok, I.os, I.bare, I.base, I.loc, I.cell, I.free, I.freeC, fun p hp => (List.mem_append.mp hp).elim (fun z => I.pin p (List.mem_append_left _ z)) (h p), I.hok, I.len⟩

theorem nodup_ix {N : List Str} (hN : N.Nodup) {i j : Nat} {x : Str} (a : N[i]? = some x) (b : N[j]? = some x) : i = j := by
  obtain ⟨h1, e1⟩ := List.getElem?_eq_some_iff.mp a
  obtain ⟨h2, e2⟩ := List.getElem?_eq_some_iff.mp b
  exact (List.getElem_inj hN).mp (e1.trans e2.symm)

/-- a name is stored; what changed -/
theorem store_ok2 {M : Model} {A : Around} {E : Value → Shared → Prop} {i : Nat} {x : Str} {v : V} {u : Value} {Q : Unit → Shared → Prop} (I : Inv X pins σ H s) (hN : X.N.Nodup) (hi : X.N[i]? = some x) (hx : Loc X.env.scope x) (r : RelV v u)
    (h : ∀ s', Inv X pins (σ.set i (some v)) H s' → (∃ a, Heap.SameBut a s.heap s'.heap ∧ (a = X.env.locals ∨ X.env.cells.lookup x = some a)) → Q () s') (hf : X.fn x = true ∨ X.env.scope.names.lookup x = some .local := by first | exact .inl rfl | exact .inr rfl | assumption) : wpAny M A (storeName X.env x u) Q E s := by
  obtain ⟨m, hn, hl⟩ := id I.loc
  have hcls : (X.env.scope.kind == .class || (X.env.scope.kind == .module && X.env.locals != X.env.globals)) = false := by rw [I.ok.kind]; rfl
  have hiσ : i < σ.length := by rw [I.len]; exact (List.getElem?_eq_some_iff.mp hi).1
  have cne := I.cne
  have tracked : ∀ {a : Addr} {h' : Heap}, (∃ o, s.heap.get? a = some o ∧ H a = none) → Heap.SameBut a s.heap h' → HOk X.prog X.w H h' := fun {a h'} ha hs b ob e => by
    obtain ⟨_, _, hfree⟩ := ha
    refine (I.hok b ob e).stay (fun c w' hc q => (hs.2 c ?_).trans q) (fun _ q => q) fun _ _ q => q
    rintro rfl
    rcases hc with rfl | hc
    · rw [hfree] at e; cases e
    · rw [hfree] at hc; cases hc
  rcases hx with hk | hk
  · refine wpAny_storeName_local hk hn (fun h' hn' hs => ?_) hcls
    obtain ⟨oL, _, _, hoL, _⟩ := id hn
    refine h _ ⟨I.ok, I.os, I.bare, ⟨fun b o e n hb hx => ?_, fun b o e n hb hx => ?_, I.base.free, fun b o e hx => ?_, I.base.tups, I.base.frzs, I.base.tbls⟩, ⟨_, hn', fun j y v' e1 e2 e3 => ?_⟩, fun y c e => ?_, I.free, I.freeC, fun p hp => ?_, tracked ⟨oL, hoL, I.free⟩ hs, by simpa using I.len⟩ ⟨_, hs, .inl rfl⟩
    · exact (hs.2 b (Nat.ne_of_lt (Nat.lt_of_lt_of_le (Heap.lt_size e) I.ok.above))).trans (I.base.keep b o e n hb hx)
    · obtain ⟨sl, e1⟩ := I.base.slot b o e n hb hx
      exact ⟨sl, (hs.2 b (Nat.ne_of_lt (Nat.lt_of_lt_of_le (Heap.lt_size e) I.ok.above))).trans e1⟩
    · obtain ⟨o', e1⟩ := I.base.there b o e hx
      exact ⟨o', (hs.2 b (Nat.ne_of_lt (Nat.lt_of_lt_of_le (Heap.lt_size e) I.ok.above))).trans e1⟩
    · by_cases hj : j = i
      · subst hj
        rw [hi] at e1; cases e1
        rw [List.getElem?_set_self hiσ] at e2
        cases e2
        exact ⟨u, r, .inl ⟨hk, by simp⟩⟩
      · rw [List.getElem?_set_ne (Ne.symm hj)] at e2
        obtain ⟨u', r', q⟩ := hl j y v' e1 e2 e3
        refine ⟨u', r', ?_⟩
        rcases q with ⟨k, e⟩ | ⟨k, c, e, z⟩
        · refine .inl ⟨k, ?_⟩
          have : y ≠ x := fun e => hj (nodup_ix hN e1 (e ▸ hi))
          simp [this, e]
        · exact .inr ⟨k, c, e, z.sameBut hs (cne y c e)⟩
    · obtain ⟨w', z⟩ := I.cell y c e
      exact ⟨w', z.sameBut hs (cne y c e)⟩
    · obtain ⟨e, n, ne, nf, d⟩ := I.pin p hp
      exact ⟨(hs.2 p.1 ne).trans e, n, ne, nf, d⟩
  · have hfn : X.fn x = true := by
      rcases hf with z | z
      · exact z
      · rw [z] at hk; cases hk
    obtain ⟨c, hc⟩ := I.ok.has x (.inl hk)
    obtain ⟨w', z⟩ := I.cell x c hc
    refine wpAny_storeName_cell I.ok.kind hk hc z (fun h' hc' hs => ?_)
    obtain ⟨oc, hoc, hocd⟩ := id z
    refine h { s with heap := h' } ⟨I.ok, I.os, I.bare, ⟨fun b o e n hb hx => ?_, fun b o e n hb hx => ?_, I.base.free, fun b o e hx => ?_, I.base.tups, I.base.frzs, I.base.tbls⟩, ⟨m, hn.sameBut hs (Ne.symm (cne x c hc)), fun j y v' e1 e2 e3 => ?_⟩, fun y c' e => ?_, I.free, I.freeC, fun p hp => ?_, tracked ⟨oc, hoc, I.freeC x c hc⟩ hs, by simpa using I.len⟩ ⟨c, hs, .inr hc⟩
    · exact (hs.2 b (Nat.ne_of_lt (Nat.lt_of_lt_of_le (Heap.lt_size e) (I.ok.cab x c hfn hc)))).trans (I.base.keep b o e n hb hx)
    · obtain ⟨sl, e1⟩ := I.base.slot b o e n hb hx
      exact ⟨sl, (hs.2 b (Nat.ne_of_lt (Nat.lt_of_lt_of_le (Heap.lt_size e) (I.ok.cab x c hfn hc)))).trans e1⟩
    · obtain ⟨o', e1⟩ := I.base.there b o e hx
      exact ⟨o', (hs.2 b (Nat.ne_of_lt (Nat.lt_of_lt_of_le (Heap.lt_size e) (I.ok.cab x c hfn hc)))).trans e1⟩
    · by_cases hj : j = i
      · subst hj
        rw [hi] at e1; cases e1
        rw [List.getElem?_set_self hiσ] at e2
        cases e2
        exact ⟨u, r, .inr ⟨.inl hk, c, hc, hc'⟩⟩
      · rw [List.getElem?_set_ne (Ne.symm hj)] at e2
        obtain ⟨u', r', q⟩ := hl j y v' e1 e2 e3
        refine ⟨u', r', ?_⟩
        rcases q with q | ⟨k, c', e, z'⟩
        · exact .inl q
        · refine .inr ⟨k, c', e, z'.sameBut hs ?_⟩
          rintro rfl
          exact hj (nodup_ix hN e1 (I.ok.inj _ _ _ e hc ▸ hi))
    · by_cases hcc : c' = c
      · subst hcc; exact ⟨_, hc'⟩
      · obtain ⟨w2, z2⟩ := I.cell y c' e
        exact ⟨w2, z2.sameBut hs hcc⟩
    · obtain ⟨e, n, ne, nf, d⟩ := I.pin p hp
      refine ⟨(hs.2 p.1 ?_).trans e, n, ne, nf, d⟩
      intro q
      rw [q, hoc] at e
      have q' : oc = p.2 := Option.some.inj e
      exact d w' (by rw [← q']; exact hocd)
theorem store_ok {M : Model} {A : Around} {E : Value → Shared → Prop} {i : Nat} {x : Str} {v : V} {u : Value} {Q : Unit → Shared → Prop} (I : Inv X pins σ H s) (hN : X.N.Nodup) (hi : X.N[i]? = some x) (hx : Loc X.env.scope x) (r : RelV v u)
    (h : ∀ s', Inv X pins (σ.set i (some v)) H s' → Q () s') (hf : X.fn x = true ∨ X.env.scope.names.lookup x = some .local := by first | exact .inl rfl | exact .inr rfl | assumption) : wpAny M A (storeName X.env x u) Q E s :=
  store_ok2 I hN hi hx r (fun s' I' _ => h s' I') hf
/-- behind a call or a block, the state as it is -/
theorem Inv.call' {s' : Shared} {ch : List Addr} (I : Inv X pins σ H s) (ho : s'.os = s.os) (u : Un (frs X.stack) ch H H' s.heap s'.heap) (hok : HOk X.prog X.w H' s'.heap) (hg : AllBare s'.gens)
    (hch : ∀ b ∈ ch, (b ∈ X.ex ∨ X.s_0.heap.objs.size ≤ b) ∧ b ≠ X.env.locals ∧ (∀ x c, X.env.cells.lookup x = some c → c ≠ b) ∧ ∀ p ∈ X.pn ++ pins, p.1 ≠ b) : Inv X pins σ H' s' := by
  obtain ⟨h', g', d', t', o'⟩ := s'
  have e : o' = s.os := ho
  subst e
  exact I.call (g' := g') (t' := t') (d' := d') u hok hg hch
end

/-! ### the judgements -/
/-- an exception: its class, its own dict's address (where it has one), the abstract heap behind it -/
abbrev XK := Value → Option Addr → Hp → Prop
abbrev St := List (Option V)
abbrev VK := V → Hp → Prop
/-- an expression's reading; a test's; an argument list's -/
abbrev TE := St → Hp → VK → Prop
abbrev TT := St → Hp → (Bool → Hp → Prop) → Prop
abbrev TA := St → Hp → (List V → Hp → Prop) → Prop
/-- what is wanted behind a statement -/
structure Ends where
  nx : St → Hp → Prop
  rt : VK
  bk : St → Hp → Prop := fun _ _ => False
  ct : St → Hp → Prop := fun _ _ => False
abbrev TS := Ends → St → Hp → Prop

def EP (X : Cx) (pins : List (Addr × Obj)) (σ : St) (Q : VK) (u : Value) (s' : Shared) : Prop := ∃ v H', Inv X pins σ H' s' ∧ RelV v u ∧ Q v H'
def TP (X : Cx) (pins : List (Addr × Obj)) (σ : St) (Q : Bool → Hp → Prop) (b : Bool) (s' : Shared) : Prop := ∃ H', Inv X pins σ H' s' ∧ Q b H'
def AP (X : Cx) (pins : List (Addr × Obj)) (σ : St) (Q : List V → Hp → Prop) (us : List Value) (s' : Shared) : Prop := ∃ vs H', Inv X pins σ H' s' ∧ Vals vs us ∧ Q vs H'
def SP (X : Cx) (pins : List (Addr × Obj)) (D : Ends) (f : Flow) (s' : Shared) : Prop :=
  match f with
  | .next => ∃ σ' H', Inv X pins σ' H' s' ∧ D.nx σ' H'
  | .brk => ∃ σ' H', Inv X pins σ' H' s' ∧ D.bk σ' H'
  | .cont => ∃ σ' H', Inv X pins σ' H' s' ∧ D.ct σ' H'
  | .ret u => ∃ v σ' H', Inv X pins σ' H' s' ∧ RelV v u ∧ D.rt v H'

def PE (X : Cx) (e : Expr) (t : TE) : Prop :=
  ∀ (pins : List (Addr × Obj)) (s : Shared) (σ : St) (H : Hp) (Q : VK), Inv X pins σ H s → t σ H Q → wpAny (model X.prog X.w) X.A (eval e X.env) (EP X pins σ Q) X.xe s
def PT (X : Cx) (e : Expr) (t : TT) : Prop :=
  ∀ (pins : List (Addr × Obj)) (s : Shared) (σ : St) (H : Hp) (Q : Bool → Hp → Prop), Inv X pins σ H s → t σ H Q → wpAny (model X.prog X.w) X.A (isTrue e X.env (eval e X.env)) (TP X pins σ Q) X.xe s
/-- a test whatever its 'whole' is (and, or) -/
def PW (X : Cx) (e : Expr) (t : TT) : Prop :=
  ∀ (whole : Sem Value) (pins : List (Addr × Obj)) (s : Shared) (σ : St) (H : Hp) (Q : Bool → Hp → Prop), Inv X pins σ H s → t σ H Q → wpAny (model X.prog X.w) X.A (isTrue e X.env whole) (TP X pins σ Q) X.xe s
theorem PW.pt {X : Cx} {e : Expr} {t : TT} (h : PW X e t) : PT X e t := h _
/-- an argument list (no star), from the left -/
def PA (X : Cx) (es : List Expr) (t : TA) : Prop :=
  ∀ (pos : Pos) (pins : List (Addr × Obj)) (s : Shared) (σ : St) (H : Hp) (Q : List V → Hp → Prop), Inv X pins σ H s → t σ H Q → wpAny (model X.prog X.w) X.A (spliced (backTo pos (starEach es X.env))) (AP X pins σ Q) X.xe s
def PS (X : Cx) (st : Stmt) (t : TS) : Prop :=
  ∀ (pins : List (Addr × Obj)) (s : Shared) (σ : St) (H : Hp) (D : Ends), Inv X pins σ H s → t D σ H → wpAny (model X.prog X.w) X.A (exec st X.env) (SP X pins D) X.xe s
def PSs (X : Cx) (st : List Stmt) (t : TS) : Prop :=
  ∀ (pins : List (Addr × Obj)) (s : Shared) (σ : St) (H : Hp) (D : Ends), Inv X pins σ H s → t D σ H → wpAny (model X.prog X.w) X.A (execs st X.env) (SP X pins D) X.xe s
/-- weaken the end -/
theorem thn {α : Type} {t : Sem α} {Q Q' : α → Shared → Prop} {M : Model} {A : Around} {E : Value → Shared → Prop} {s : Shared} (h : wpAny M A t Q E s) (hQ : ∀ a s, Q a s → Q' a s) : wpAny M A t Q' E s := wpAny_mono h hQ fun _ _ x => x
end L2

namespace L2
open PySem PySem.Spec PyProof.Rows
section
variable {X : Cx}

/-! ### names and constants -/
def tVar (i : Nat) : TE := fun σ H Q => ∃ v, σ[i]? = some (some v) ∧ Q v H
def tC (v : V) : TE := fun _ H Q => Q v H
theorem pe_var {i : Nat} {x : Str} {pos : Pos} (hN : X.N[i]? = some x) (hv : Vis X.env.scope x) (hd : (x == ("__debug__" : Str)) = false := by decide) (hcd : (x == ("__classdict__" : Str)) = false := by decide) : PE X (.Name x pos) (tVar i) := by
  intro pins s σ H Q I h
  obtain ⟨v, e, h⟩ := h
  obtain ⟨m, hn, hl⟩ := I.loc
  obtain ⟨u, r, l⟩ := hl i x v hN e hv
  have fin : EP X pins σ Q u s := ⟨v, H, I, r, h⟩
  rcases l with ⟨hk, hm⟩ | ⟨hk, c, hc, hcell⟩
  · exact wpAny_Name (wpAny_loadName_local I.ok.kind hk hn hm fin) hd
  · rcases hk with hk | hk
    · exact wpAny_Name (wpAny_loadName_cell I.ok.kind hk hc hcell fin) hd
    · exact wpAny_Name (wpAny_loadName_free I.ok.kind hk hc hcell fin hcd) hd
theorem pe_int {i j pos} : PE X (.Constant (.int i) j pos) (tC (.int i)) := fun _ _ _ H _ I h => wpAny_Constant_int ⟨.int i, H, I.tok _, ⟨_, rfl⟩, h⟩
theorem pe_bl {b j pos} : PE X (.Constant (.bool b) j pos) (tC (.bl b)) := fun _ _ _ H _ I h => Constant_bool ⟨.bl b, H, I, rfl, h⟩
theorem pe_str {x j pos} : PE X (.Constant (.str x) j pos) (tC (.str x)) := fun _ _ _ H _ I h => Calls.Constant_str ⟨.str x, H, I.tok _, ⟨_, rfl⟩, h⟩

/-- a global name of the def -/
def Gl (X : Cx) (x : Str) : Prop := X.env.kindOf x = some .globalImplicit
theorem ld_glob {E : Value → Shared → Prop} {pins : List (Addr × Obj)} {s : Shared} {σ : St} {H : Hp} {x : Str} {u : Value} {pos : Pos} {Q : Value → Shared → Prop} (I : Inv X pins σ H s) (hg : Gl X x) (hm : X.mg x = some u) (h : Q u s)
    (hd : (x == ("__debug__" : Str)) = false := by decide) : wpAny (model X.prog X.w) X.A (eval (.Name x pos) X.env) Q E s :=
  Calls.Name_function_global I.ok.kind hg (Calls.loadGlobal_global (by rw [I.ok.glob]; exact I.mod.glob.keeps I.bk) hm h) hd
theorem ld_blt {E : Value → Shared → Prop} {pins : List (Addr × Obj)} {s : Shared} {σ : St} {H : Hp} {x : Str} {u : Value} {pos : Pos} {Q : Value → Shared → Prop} (I : Inv X pins σ H s) (hg : Gl X x) (hm : X.mg x = none) (hv : bootBuiltins x = some u) (h : Q u s)
    (hn : x ≠ "__name__" := by decide) (hd : (x == ("__debug__" : Str)) = false := by decide) : wpAny (model X.prog X.w) X.A (eval (.Name x pos) X.env) Q E s := by
  obtain ⟨mb, h1, h2⟩ := I.mod.blt
  exact Calls.Name_function_global I.ok.kind hg (Calls.loadGlobal_builtin (by rw [I.ok.glob]; exact I.mod.glob.keeps I.bk) hm (by rw [I.ok.blt]; exact h1.keeps I.bk) ((h2 x hn).trans hv) h) hd
/-- a module's constant, a class, a function, as a value -/
theorem pe_glob {x : Str} {v : V} {u : Value} {pos : Pos} (hg : Gl X x) (hm : X.mg x = some u) (r : RelV v u) (hd : (x == ("__debug__" : Str)) = false := by decide) : PE X (.Name x pos) (tC v) :=
  fun _ _ _ H _ I h => ld_glob I hg hm ⟨v, H, I, r, h⟩ hd
/-! ### arithmetic -/
variable {a b : Expr} {ta tb : TE} {pos : Pos}
/-! ### comparisons -/
/-- a comparison as a value, as a test -/
def tB (t : TE) : TT := fun σ H Q => t σ H fun x H1 => ∃ c, x = .bl c ∧ Q c H1
/-- an expression whose value is a bool, as a test -/
theorem pt_val {e : Expr} {t : TE} (h : PE X e t) (he : ∀ whole, isTrue e X.env whole = (do let v ← whole; standAt e.pos; holding [v] (truthy v)) := by intro _; rfl) : PT X e (tB t) := by
  intro pins s σ H Q I hw
  refine isTrue_plain (thn (h pins s σ H _ I hw) fun v s1 ⟨x, H1, I1, r1, q1⟩ => ?_) (he _)
  obtain ⟨d, rfl, q⟩ := q1
  cases r1
  exact wpAny_truthy_bool ⟨H1, I1, q⟩

/-! ### and, or, not -/
variable {tA tB' : TT} {rest : List Expr}
def tAnd (t u : TT) : TT := fun σ H Q => t σ H fun c H1 => if c = true then u σ H1 Q else Q false H1
def tOr (t u : TT) : TT := fun σ H Q => t σ H fun c H1 => if c = true then Q true H1 else u σ H1 Q
def tNot (t : TT) : TT := fun σ H Q => t σ H fun c H1 => Q (!c) H1
theorem pw_and1 (ha : PT X a tA) : PW X (.BoolOp .And [a] pos) tA := by
  intro wh pins s σ H Q I h
  refine isTrue_and (thn (ha pins s σ H Q I h) fun c s1 e => ?_)
  cases c with
  | true => exact isTrue_and_nil e
  | false => exact e
theorem pw_or1 (ha : PT X a tA) : PW X (.BoolOp .Or [a] pos) tA := by
  intro wh pins s σ H Q I h
  refine isTrue_or (thn (ha pins s σ H Q I h) fun c s1 e => ?_)
  cases c with
  | false => exact isTrue_or_nil e
  | true => exact e
theorem pw_and (ha : PT X a tA) (hb : PW X (.BoolOp .And (b :: rest) pos) tB') : PW X (.BoolOp .And (a :: b :: rest) pos) (tAnd tA tB') := by
  intro wh pins s σ H Q I h
  refine isTrue_and (thn (ha pins s σ H _ I h) fun c s1 ⟨H1, I1, q1⟩ => ?_)
  cases c with
  | true => exact hb wh pins s1 σ H1 Q I1 q1
  | false => exact ⟨H1, I1, q1⟩
theorem pw_or (ha : PT X a tA) (hb : PW X (.BoolOp .Or (b :: rest) pos) tB') : PW X (.BoolOp .Or (a :: b :: rest) pos) (tOr tA tB') := by
  intro wh pins s σ H Q I h
  refine isTrue_or (thn (ha pins s σ H _ I h) fun c s1 ⟨H1, I1, q1⟩ => ?_)
  cases c with
  | true => exact ⟨H1, I1, q1⟩
  | false => exact hb wh pins s1 σ H1 Q I1 q1
theorem pt_not (ha : PT X a tA) : PT X (.UnaryOp .Not a pos) (tNot tA) := by
  intro pins s σ H Q I h
  exact isTrue_not (ha pins s σ H (fun c H1 => Q (!c) H1) I h)
/-- .. as values (bools) -/
def tAndV (ta tb : TE) : TE := fun σ H Q => ta σ H fun x H1 => ∃ c, x = .bl c ∧ if c = true then tb σ H1 Q else Q (.bl false) H1
theorem pe_one {op} {t : TE} (h : PE X a t) : PE X (.BoolOp op [a] pos) t := fun pins s σ H Q I hw => BoolOp_one (h pins s σ H Q I hw)
theorem pe_and (ha : PE X a ta) (hb : PE X (.BoolOp .And (b :: rest) pos) tb) : PE X (.BoolOp .And (a :: b :: rest) pos) (tAndV ta tb) := by
  intro pins s σ H Q I h
  refine BoolOp_and (thn (ha pins s σ H _ I h) fun v s1 ⟨x, H1, I1, r1, q1⟩ => ?_)
  obtain ⟨c, rfl, q1⟩ := q1
  cases r1
  refine wpAny_truthy_bool ?_
  cases c with
  | true => exact hb pins s1 σ H1 Q I1 q1
  | false => exact ⟨.bl false, H1, I1, rfl, q1⟩
end
end L2

namespace L2
open PySem PySem.Spec PyProof.Rows

/-! ### a list, a tuple that is read: tracked, frozen, or an object of the module -/
def SqL (K : PySem.W.Frag) (H : Hp) (a : Addr) (xs : List V) : Prop :=
  Rd H a (.lst xs) ∨
    ∃ (o : Obj) (its : Array Value) (n : Nat), K.lookup a = some o ∧ o.cls = .type "list" ∧ o.dict = none ∧ o.data = .seq its n ∧ its.size ≤ sizeLine ∧ Vals xs its.toList
def SqT (K : PySem.W.Frag) (H : Hp) (a : Addr) (xs : List V) : Prop :=
  Rd H a (.tup xs) ∨
    ∃ (o : Obj) (its : Array Value) (n : Nat), K.lookup a = some o ∧ o.cls = .type "tuple" ∧ o.data = .seq its n ∧ its.size ≤ sizeLine ∧ Vals xs its.toList
def absV : Value → Option V
  | .none => some .non
  | .bool b => some (.bl b)
  | .int i _ => some (.int i)
  | .str x _ => some (.str x)
  | .bytes b _ => some (.byt b)
  | .float b _ => some (.flt b)
  | .ref a => some (.ref a)
  | .type n => some (.ty n)
  | _ => none
theorem RelV.abs {x : V} {u : Value} (r : RelV x u) : absV u = some x := by
  cases x with
  | non => cases r; rfl
  | bl _ => cases r; rfl
  | int _ => obtain ⟨t, rfl⟩ := r; rfl
  | str _ => obtain ⟨t, rfl⟩ := r; rfl
  | byt _ => obtain ⟨t, rfl⟩ := r; rfl
  | flt _ => obtain ⟨t, rfl⟩ := r; rfl
  | ref _ => cases r; rfl
  | ty _ => cases r; rfl
theorem RelV.inj {x y : V} {u : Value} (r : RelV x u) (q : RelV y u) : x = y := Option.some.inj (r.abs.symm.trans q.abs)
theorem Vals.inj : ∀ {xs ys : List V} {us : List Value}, Vals xs us → Vals ys us → xs = ys
  | _, _, _, .nil, .nil => rfl
  | _, _, _, .cons r t, .cons r' t' => by rw [r.inj r', Vals.inj t t']
section
variable {X : Cx} {pins : List (Addr × Obj)} {σ : St} {H : Hp} {s : Shared} {a : Addr} {xs ys : List V}
theorem SqL.of {K : PySem.W.Frag} (h : H a = some (.lst xs)) : SqL K H a xs := .inl (.inl h)
theorem SqT.of {K : PySem.W.Frag} (h : H a = some (.tup xs)) : SqT K H a xs := .inl (.inl h)
theorem Inv.list (I : Inv X pins σ H s) (h : SqL X.K H a xs) : ∃ its : List Value, Vals xs its ∧ PlainL s.heap a its.toArray ∧ xs.length ≤ sizeLine := by
  rcases h with h | ⟨o, its, n, hk, hc, hd, hs, hz, r⟩
  · obtain ⟨z, its, n, r, e⟩ := h.ok I.hok
    exact ⟨its, r, ⟨_, n, e, rfl, rfl, rfl⟩, z⟩
  · refine ⟨its.toList, r, ⟨o, n, I.kIn a o hk, hc, hd, by simpa using hs⟩, ?_⟩
    have e := r.length
    simp only [Array.length_toList] at e
    omega
theorem Inv.tuple (I : Inv X pins σ H s) (h : SqT X.K H a xs) : ∃ its : List Value, Vals xs its ∧ IsTup s.heap a its.toArray ∧ xs.length ≤ sizeLine := by
  rcases h with h | ⟨o, its, n, hk, hc, hs, hz, r⟩
  · obtain ⟨z, its, r, p⟩ := h.ok I.hok
    exact ⟨its, r, p, z⟩
  · refine ⟨its.toList, r, ⟨o, I.kIn a o hk, hc, n, by simpa using hs⟩, ?_⟩
    have e := r.length
    simp only [Array.length_toList] at e
    omega
theorem Inv.list_inj (I : Inv X pins σ H s) (h : SqL X.K H a xs) (h' : SqL X.K H a ys) : xs = ys := by
  obtain ⟨its, r, ⟨o, n, e, _, _, d⟩, _⟩ := I.list h
  obtain ⟨its', r', ⟨o', n', e', _, _, d'⟩, _⟩ := I.list h'
  rw [e] at e'; cases e'
  rw [d] at d'
  injection d' with d1 _
  have : its = its' := by simpa using congrArg Array.toList d1
  subst this
  exact r.inj r'
theorem Inv.tuple_inj (I : Inv X pins σ H s) (h : SqT X.K H a xs) (h' : SqT X.K H a ys) : xs = ys := by
  obtain ⟨its, r, ⟨o, e, _, n, d⟩, _⟩ := I.tuple h
  obtain ⟨its', r', ⟨o', e', _, n', d'⟩, _⟩ := I.tuple h'
  rw [e] at e'; cases e'
  rw [d] at d'
  injection d' with d1 _
  have : its = its' := by simpa using congrArg Array.toList d1
  subst this
  exact r.inj r'
end

/-! ### another wish about exceptions -/
abbrev Cx.wish (X : Cx) (E : Value → Shared → Prop) : Cx := { X with xe := E }
/-- no exception leaves -/
abbrev Cx.nox (X : Cx) : Cx := X.wish fun _ _ => False
theorem Cx.Ok.wish {X : Cx} (ok : X.Ok) (E : Value → Shared → Prop) : (X.wish E).Ok :=
  ⟨ok.mod, ok.kind, ok.glob, ok.blt, ok.above, ok.inj, ok.has, ok.cab, ok.hd, ok.frames, ok.stk, ok.exf, ok.bs, ok.bsz, ok.noex, ok.exfs, ok.funs, ok.frf⟩
theorem Cx.Ok.unwish {X : Cx} {E : Value → Shared → Prop} (ok : (X.wish E).Ok) : X.Ok :=
  ⟨ok.mod, ok.kind, ok.glob, ok.blt, ok.above, ok.inj, ok.has, ok.cab, ok.hd, ok.frames, ok.stk, ok.exf, ok.bs, ok.bsz, ok.noex, ok.exfs, ok.funs, ok.frf⟩
section
variable {X : Cx} {pins : List (Addr × Obj)} {σ : St} {H : Hp} {s : Shared} {E : Value → Shared → Prop}
theorem Inv.wish (I : Inv X pins σ H s) (E : Value → Shared → Prop) : Inv (X.wish E) pins σ H s := ⟨I.ok.wish E, I.os, I.bare, I.base, I.loc, I.cell, I.free, I.freeC, I.pin, I.hok, I.len⟩
theorem Inv.unwish (I : Inv (X.wish E) pins σ H s) : Inv X pins σ H s := ⟨I.ok.unwish, I.os, I.bare, I.base, I.loc, I.cell, I.free, I.freeC, I.pin, I.hok, I.len⟩
theorem SP.unwish {D : Ends} {f : PySem.Flow} {s' : Shared} (h : SP (X.wish E) pins D f s') : SP X pins D f s' := by
  cases f with
  | next => obtain ⟨σ', H', I, q⟩ := h; exact ⟨σ', H', I.unwish, q⟩
  | brk => obtain ⟨σ', H', I, q⟩ := h; exact ⟨σ', H', I.unwish, q⟩
  | cont => obtain ⟨σ', H', I, q⟩ := h; exact ⟨σ', H', I.unwish, q⟩
  | ret u => obtain ⟨v, σ', H', I, r, q⟩ := h; exact ⟨v, σ', H', I.unwish, r, q⟩
theorem PE.nox {e : Expr} {t : TE} (h : PE X.nox e t) : PE X e t := fun pins s σ H Q I hw =>
  wpAny_mono (h pins s σ H Q (I.wish _) hw) (fun _ _ ⟨v, H', I', r, q⟩ => ⟨v, H', I'.unwish, r, q⟩) fun _ _ z => False.elim z
theorem PT.nox {e : Expr} {t : TT} (h : PT X.nox e t) : PT X e t := fun pins s σ H Q I hw =>
  wpAny_mono (h pins s σ H Q (I.wish _) hw) (fun _ _ ⟨H', I', q⟩ => ⟨H', I'.unwish, q⟩) fun _ _ z => False.elim z
theorem PSs.nox {st : List Stmt} {t : TS} (h : PSs X.nox st t) : PSs X st t := fun pins s σ H D I hw =>
  wpAny_mono (h pins s σ H D (I.wish _) hw) (fun _ _ q => q.unwish) fun _ _ z => False.elim z
end

/-! ### blocks and small statements -/
section
variable {X : Cx} {st : Stmt} {rest : List Stmt} {t u : TS} {e : Expr} {te : TE} {pos : Pos}
def tNext : TS := fun D σ H => D.nx σ H
def tSeq (t u : TS) : TS := fun D σ H => t { D with nx := u D } σ H
theorem pss_nil : PSs X [] tNext := fun _ _ σ H _ I h => wpAny_execs_nil ⟨σ, H, I, h⟩
theorem pss_cons (h1 : PS X st t) (h2 : PSs X rest u) : PSs X (st :: rest) (tSeq t u) := by
  intro pins s σ H D I h
  refine wpAny_execs_cons (thn (h1 pins s σ H { D with nx := u D } I h) fun f s1 q => ?_)
  cases f with
  | next =>
    obtain ⟨σ', H', I', q⟩ := q
    exact h2 pins s1 σ' H' D I' q
  | ret v => exact q
  | brk => exact q
  | cont => exact q
theorem pss_one (h1 : PS X st t) : PSs X [st] t := by
  intro pins s σ H D I h
  refine wpAny_execs_cons (thn (h1 pins s σ H D I h) fun f s1 q => ?_)
  cases f with
  | next => exact wpAny_execs_nil q
  | ret v => exact q
  | brk => exact q
  | cont => exact q
/-- in a def's body nothing is shown -/
theorem Inv.quiet {pins : List (Addr × Obj)} {σ : St} {H : Hp} {s : Shared} (I : Inv X pins σ H s) : interactive X.env = false := by simp [interactive, I.ok.kind]
/-- an expression whose value is dropped -/
def tDrop (te : TE) : TS := fun D σ H => te σ H fun _ H1 => D.nx σ H1
theorem ps_expr (he : PE X e te) (hs : swapsWith e none pos.line X.env = pure false := by rfl) : PS X (.Expr e pos) (tDrop te) := by
  intro pins s σ H D I h
  exact wpAny_Expr_any (thn (he pins s σ H _ I h) fun v s1 ⟨x, H1, I1, r1, q1⟩ => ⟨σ, H1, I1, q1⟩) I.quiet hs
def tRet (te : TE) : TS := fun D σ H => te σ H D.rt
theorem ps_ret (he : PE X e te) : PS X (.Return (some e) pos) (tRet te) := by
  intro pins s σ H D I h
  exact wpAny_Return_some (thn (he pins s σ H _ I h) fun v s1 ⟨x, H1, I1, r1, q1⟩ => ⟨x, σ, H1, I1, r1, q1⟩)
def tIfS (c : TT) (t u : TS) : TS := fun D σ H => c σ H fun b H1 => if b = true then t D σ H1 else u D σ H1
theorem ps_if {c : Expr} {a b : List Stmt} {tc : TT} (hc : PT X c tc) (ha : PSs X a t) (hb : PSs X b u) : PS X (.If c a b pos) (tIfS tc t u) := by
  intro pins s σ H D I h
  refine wpAny_If (thn (hc pins s σ H _ I h) fun d s1 ⟨H1, I1, q1⟩ => ?_)
  cases d with
  | true => exact ha pins s1 σ H1 D I1 q1
  | false => exact hb pins s1 σ H1 D I1 q1
end

/-! ### targets -/
abbrev TG := V → St → Hp → (St → Hp → Prop) → Prop
abbrev TGs := List V → St → Hp → (St → Hp → Prop) → Prop
def PG (X : Cx) (target : Expr) (t : TG) : Prop :=
  ∀ (pins : List (Addr × Obj)) (s : Shared) (σ : St) (H : Hp) (v : V) (u : Value) (Q : St → Hp → Prop), Inv X pins σ H s → RelV v u → t v σ H Q →
    wpAny (model X.prog X.w) X.A (assign target X.env u) (fun _ s' => ∃ σ' H', Inv X pins σ' H' s' ∧ Q σ' H') X.xe s
/-- several targets, one after another -/
def PGs (X : Cx) (ts : List Expr) (t : TGs) : Prop :=
  ∀ (pins : List (Addr × Obj)) (s : Shared) (σ : St) (H : Hp) (vs : List V) (us : List Value) (Q : St → Hp → Prop), Inv X pins σ H s → Vals vs us → t vs σ H Q →
    wpAny (model X.prog X.w) X.A (assignInOrder ((assignEach ts X.env).map (·.2)) us) (fun _ s' => ∃ σ' H', Inv X pins σ' H' s' ∧ Q σ' H') X.xe s
/-- o[i] = v, by values -/
abbrev TSet := V → V → V → Hp → (Hp → Prop) → Prop
def PSet (X : Cx) (t : TSet) : Prop :=
  ∀ (pins : List (Addr × Obj)) (s : Shared) (σ : St) (H : Hp) (o i v : V) (ov iv u : Value) (Q : Hp → Prop), Inv X pins σ H s → RelV o ov → RelV i iv → RelV v u → t o i v H Q →
    wpAny (model X.prog X.w) X.A (setItem ov iv u) (fun _ s' => ∃ H', Inv X pins σ H' s' ∧ Q H') X.xe s
/-- a op= b, by values -/
abbrev TIp := V → V → Hp → VK → Prop
def PIp (X : Cx) (op : Operator) (t : TIp) : Prop :=
  ∀ (pins : List (Addr × Obj)) (s : Shared) (σ : St) (H : Hp) (x y : V) (v u : Value) (Q : VK), Inv X pins σ H s → RelV x v → RelV y u → t x y H Q →
    wpAny (model X.prog X.w) X.A (inplaceOp op v u) (EP X pins σ Q) X.xe s
section
variable {X : Cx} {pos : Pos}
def gName (i : Nat) : TG := fun v σ H Q => Q (σ.set i (some v)) H
theorem pg_name {i : Nat} {x : Str} (hN : X.N.Nodup) (hi : X.N[i]? = some x) (hx : Loc X.env.scope x) (hf : X.fn x = true ∨ X.env.scope.names.lookup x = some .local := by first | exact .inl rfl | exact .inr rfl | assumption) : PG X (.Name x pos) (gName i) := by
  intro pins s σ H v u Q I r h
  exact wpAny_assign_Name (store_ok I hN hi hx r (fun s' I' => ⟨_, H, I', h⟩) hf)
def gNil : TGs := fun vs σ H Q => vs = [] ∧ Q σ H
def gCons (t : TG) (u : TGs) : TGs := fun vs σ H Q => ∃ v r, vs = v :: r ∧ t v σ H fun σ' H' => u r σ' H' Q
theorem pgs_nil : PGs X [] gNil := by
  intro pins s σ H vs us Q I r h
  obtain ⟨e, h⟩ := h
  subst e
  cases r
  exact assignInOrder_nil ⟨σ, H, I, h⟩
theorem pgs_cons {e : Expr} {es : List Expr} {t : TG} {u : TGs} (h1 : PG X e t) (h2 : PGs X es u)
    (hs : (assignEach (e :: es) X.env).map (·.2) = assign e X.env :: (assignEach es X.env).map (·.2) := by rfl) : PGs X (e :: es) (gCons t u) := by
  intro pins s σ H vs us Q I r h
  obtain ⟨v, vr, e1, h⟩ := h
  subst e1
  cases r with
  | cons r rr =>
    rw [hs]
    refine assignInOrder_cons (thn (h1 pins s σ H _ _ _ I r h) fun _ s1 ⟨σ1, H1, I1, q1⟩ => ?_)
    exact h2 pins s1 σ1 H1 _ _ Q I1 rr q1
/-- (a, b, ..) = a tuple of that length -/
def gTup (K : PySem.W.Frag) (n : Nat) (t : TGs) : TG := fun v σ H Q => ∃ a xs, v = .ref a ∧ SqT K H a xs ∧ xs.length = n ∧ t xs σ H Q
theorem pg_tup {es : List Expr} {k : Nat} {t : TGs} {n : Nat} (hc : X.calm = true) (h : PGs X es t)
    (hn : (assignEach es X.env).length = n := by rfl) (hst : (assignEach es X.env).findIdx? (·.1) = none := by rfl) : PG X (.Tuple es k pos) (gTup X.K n t) := by
  intro pins s σ H v u Q I r hw
  obtain ⟨a, xs, e1, hq, hl, hw⟩ := hw
  subst e1
  cases r
  obtain ⟨its, rv, ht, hz⟩ := I.tuple hq
  refine assign_Tuple_tuple (I.ok.hd hc) ht (by simp [hn, ← hl, rv.length]) hst fun h' hx => ?_
  have I1 : Inv X pins σ H { s with heap := h' } := I.kept (t' := s.toks) fun b o e => hx b o (Nat.ne_of_lt (Heap.lt_size e)) e
  exact h pins _ σ H xs _ Q I1 (by simpa using rv) hw
/-- o[i] = .. -/
def gSub (to ti : TE) (t : TSet) : TG := fun v σ H Q => to σ H fun o H1 => ti σ H1 fun i H2 => t o i v H2 fun H3 => Q σ H3
theorem pg_sub {o i : Expr} {to ti : TE} {t : TSet} (ho : PE X o to) (hi : PE X i ti) (hs : PSet X t)
    (ha : ∀ v, assign (.Subscript o i pos) X.env v = (do
      let ov ← holding [v] (eval o X.env)
      let iv ← holding [v, ov] (eval i X.env)
      standAt pos
      holding [v, ov, iv] (setItem ov iv v)
      release [v, ov, iv] []) := by intro _; rfl) : PG X (.Subscript o i pos) (gSub to ti t) := by
  intro pins s σ H v u Q I r h
  rw [ha]
  refine wpAny_bind (wpAny_holding (thn (ho pins s σ H _ I h) fun ov s1 ⟨x, H1, I1, r1, q1⟩ => ?_))
  refine wpAny_bind (wpAny_holding (thn (hi pins s1 σ H1 _ I1 q1) fun iv s2 ⟨y, H2, I2, r2, q2⟩ => ?_))
  refine wpAny_bind (wpAny_standAt (wpAny_bind (wpAny_holding (thn (hs pins s2 σ H2 x y v ov iv u _ I2 r1 r2 r q2) fun _ s3 ⟨H3, I3, q3⟩ => ?_))))
  exact wpAny_release ⟨σ, H3, I3, q3⟩
/-- target = value -/
def tAsg (te : TE) (g : TG) : TS := fun D σ H => te σ H fun x H1 => g x σ H1 D.nx
theorem ps_asg {tg e : Expr} {te : TE} {g : TG} (he : PE X e te) (hg : PG X tg g) (hs : swapsWithSole [tg] e pos.line X.env = pure false := by rfl) (hw : swappedStores [tg] e X.env = pure none := by rfl)
    (h1 : (assignEach [tg] X.env).map (·.2) = [assign tg X.env] := by rfl) : PS X (.Assign [tg] e pos) (tAsg te g) := by
  intro pins s σ H D I h
  refine wpAny_Assign_stores (thn (he pins s σ H _ I h) fun v s1 ⟨x, H1, I1, r1, q1⟩ => ?_) hs hw
  rw [h1]
  exact thn (hg pins s1 σ H1 x v _ I1 r1 q1) fun _ s2 q => q
/-- name = value -/
theorem ps_set {i : Nat} {x : Str} {e : Expr} {te : TE} {pos' : Pos} (hN : X.N.Nodup) (hi : X.N[i]? = some x) (hx : Loc X.env.scope x) (he : PE X e te) (hs : swapsWith e (some (.Name x pos')) pos.line X.env = pure false := by rfl) (hf : X.fn x = true ∨ X.env.scope.names.lookup x = some .local := by first | exact .inl rfl | exact .inr rfl | assumption) :
    PS X (.Assign [.Name x pos'] e pos) (tAsg te (gName i)) := by
  intro pins s σ H D I h
  refine wpAny_Assign_Name (thn (he pins s σ H _ I h) fun v s1 ⟨y, H1, I1, r1, q1⟩ => ?_) hs
  exact store_ok I1 hN hi hx r1 (fun s2 I2 => ⟨_, H1, I2, q1⟩) hf
/-- a, b = x, y with plain local names: stored from the right; the pair itself is not tracked (the opening rows as in PyProof/Rows/TupAssign.lean:23) -/
def tPar (i j : Nat) (ta : TA) : TS := fun D σ H => ta σ H fun vs H1 => ∃ v w, vs = [v, w] ∧ D.nx ((σ.set i (some v)).set j (some w)) H1
theorem ps_par {i j : Nat} {x y : Str} {a b : Expr} {ta : TA} {px py pt : Pos} {kt k2 pt2} (hc : X.calm = true) (hN : X.N.Nodup) (hi : X.N[i]? = some x) (hj : X.N[j]? = some y) (hij : i ≠ j)
    (hx : X.env.scope.names.lookup x = some .local) (hy : X.env.scope.names.lookup y = some .local) (ha : PA X [a, b] ta)
    (hw : swappedStores [.Tuple [.Name x px, .Name y py] kt pt] (.Tuple [a, b] k2 pt2) X.env = pure (some [x, y]))
    (hs : swapsWithSole [.Tuple [.Name x px, .Name y py] kt pt] (.Tuple [a, b] k2 pt2) pos.line X.env = pure false := by rfl) :
    PS X (.Assign [.Tuple [.Name x px, .Name y py] kt pt] (.Tuple [a, b] k2 pt2) pos) (tPar i j ta) := by
  intro pins s σ H D I h
  rw [exec_Assign_arm]
  refine wpAny_bind (wpAny_standAt ?_)
  rw [hs]
  refine wpAny_bind (wpAny_pure ?_)
  rw [if_neg (by decide)]
  refine wpAny_bind (Tuple_ (thn (ha _ pins s σ H _ I h) fun us s1 ⟨vs, H1, I1, r1, q1⟩ => ?_))
  obtain ⟨v, w, e1, q1⟩ := q1
  subst e1
  obtain ⟨u1, u2, rfl, rv, rw'⟩ : ∃ u1 u2, us = [u1, u2] ∧ RelV v u1 ∧ RelV w u2 := by
    cases r1 with
    | cons p q =>
      cases q with
      | cons p' q' =>
        cases q'
        exact ⟨_, _, rfl, p, p'⟩
  refine wpAny_newObj_type ?_ (by show 2 ≤ sizeLine; decide)
  have I2 : Inv X pins σ H1 { s1 with heap := s1.heap.push { cls := .type "tuple", data := .seq [u1, u2].toArray } } := I1.kept (t' := s1.toks) fun b o e => Heap.get?_push_of_some _ e
  rw [hw]
  refine wpAny_bind (wpAny_pure ?_)
  show wpAny (model X.prog X.w) X.A (do rule "assign.swapped-stores"; let items ← unpackItems (.ref s1.heap.objs.size) 2 none; assignInOrder [fun v => bindName X.env y v, fun v => bindName X.env x v] items.reverse; pure Flow.next) _ _ _
  refine wpAny_bind (wpAny_rule (wpAny_bind (unpackItems_tuple (items := #[u1, u2]) (I.ok.hd hc) (IsTup.new s1.heap _) fun h' hx' => ?_)))
  have I3 := I2.kept (h' := h') (t' := s1.toks) fun b o e => hx' b o (Nat.ne_of_lt (Heap.lt_size e)) e
  show wpAny _ _ (assignInOrder [fun v => bindName X.env y v, fun v => bindName X.env x v] [u2, u1] >>= fun _ => pure Flow.next) _ _ _
  refine wpAny_bind (assignInOrder_cons (wpAny_bindName (store_ok I3 hN hj (.inl hy) rw' (fun s2 I4 => ?_) (.inr hy))))
  refine assignInOrder_cons (wpAny_bindName (store_ok I4 hN hi (.inl hx) rv (fun s3 I5 => assignInOrder_nil (wpAny_pure ?_)) (.inr hx)))
  rw [List.set_comm _ _ (Ne.symm hij)] at I5
  exact ⟨_, H1, I5, q1⟩
/-- o[i] op= e -/
def tAugS (to ti te : TE) (tget : V → V → Hp → VK → Prop) (tip : TIp) (tset : TSet) : TS := fun D σ H => to σ H fun o H1 => ti σ H1 fun i H2 => tget o i H2 fun x H3 => te σ H3 fun y H4 => tip x y H4 fun z H5 => tset o i z H5 fun H6 => D.nx σ H6
/-- o[i], by values -/
def PGet (X : Cx) (t : V → V → Hp → VK → Prop) : Prop :=
  ∀ (pins : List (Addr × Obj)) (s : Shared) (σ : St) (H : Hp) (o i : V) (ov iv : Value) (Q : VK), Inv X pins σ H s → RelV o ov → RelV i iv → t o i H Q →
    wpAny (model X.prog X.w) X.A (getItem ov iv) (EP X pins σ Q) X.xe s
theorem ps_augS {o i e : Expr} {to ti te : TE} {tget : V → V → Hp → VK → Prop} {tip : TIp} {tset : TSet} {op : Operator} {tpos : Pos} (ho : PE X o to) (hi : PE X i ti) (hg : PGet X tget) (he : PE X e te) (hp : PIp X op tip) (hs : PSet X tset)
    (ha : ∀ ov iv new, augStore i ov iv new = (do holding [new, ov, iv] (setItem ov iv new); release [new, ov, iv] []; pure .next) := by intros; rfl) : PS X (.AugAssign (.Subscript o i tpos) op e pos) (tAugS to ti te tget tip tset) := by
  intro pins s σ H D I h
  refine wpAny_AugAssign_SubscriptAny (thn (ho pins s σ H _ I h) fun ov s1 ⟨x1, H1, I1, r1, q1⟩ => ?_) ha
  refine thn (hi pins s1 σ H1 _ I1 q1) fun iv s2 ⟨x2, H2, I2, r2, q2⟩ => ?_
  refine thn (hg pins s2 σ H2 x1 x2 ov iv _ I2 r1 r2 q2) fun old s3 ⟨x3, H3, I3, r3, q3⟩ => ?_
  refine thn (he pins s3 σ H3 _ I3 q3) fun v s4 ⟨x4, H4, I4, r4, q4⟩ => ?_
  refine thn (hp pins s4 σ H4 x3 x4 old v _ I4 r3 r4 q4) fun new s5 ⟨x5, H5, I5, r5, q5⟩ => ?_
  exact thn (hs pins s5 σ H5 x1 x2 x5 ov iv new _ I5 r1 r2 r5 q5) fun _ s6 ⟨H6, I6, q6⟩ => ⟨σ, H6, I6, q6⟩
/-- ints -/
def ipI (f : Int → Int → Int) : TIp := fun x y H Q => ∃ i j, x = .int i ∧ y = .int j ∧ Q (.int (f i j)) H
theorem ip_add : PIp X .Add (ipI fun i j => i + j) := by
  intro pins s σ H x y v u Q I r1 r2 h
  obtain ⟨i, j, e1, e2, q⟩ := h
  subst e1; subst e2
  obtain ⟨t, rfl⟩ := r1
  obtain ⟨t', rfl⟩ := r2
  exact iadd_int ⟨.int _, H, I.tok _, ⟨_, rfl⟩, q⟩
end

/-! ### while -/
section
variable {X : Cx} {pos : Pos}
end

/-! ### what a loop or a comprehension walks -/
/-- at turn i: it yields x (the heap may grow), or it stops -/
structure It where
  go : Nat → Hp → Prop
  yld : Nat → Hp → V → Hp → Prop
  stop : Nat → Hp → Prop
/-- the iterator's own objects may turn: they are not the frame's, not pinned, younger than the entry (or a comprehension's own) -/
def FpOk (X : Cx) (pins : List (Addr × Obj)) (H : Hp) (b : Addr) : Prop :=
  H b = none ∧ b ≠ X.env.locals ∧ b ∉ X.fs ∧ (b ∈ X.ex ∨ X.s_0.heap.objs.size ≤ b) ∧ (∀ x c, X.env.cells.lookup x = some c → c ≠ b) ∧ ∀ p ∈ X.pn ++ pins, p.1 ≠ b
theorem Inv.fpOk {X : Cx} {pins : List (Addr × Obj)} {σ : St} {H H' : Hp} {s : Shared} {b : Addr} (I : Inv X pins σ H s) (hb : s.heap.objs.size ≤ b) (hn : H' b = none) : FpOk X pins H' b := by
  refine ⟨hn, Nat.ne_of_gt (Nat.lt_of_lt_of_le I.lt hb), I.nofs hb, .inr (Nat.le_trans I.sz hb), fun x c e z => ?_, fun p hp z => ?_⟩
  · obtain ⟨v, q⟩ := I.cell x c e
    exact absurd (Nat.lt_of_lt_of_le q.lt (by rw [z]; exact hb)) (Nat.lt_irrefl _)
  · exact absurd (Nat.lt_of_lt_of_le (Heap.lt_size (I.pin p hp).1) (by rw [z]; exact hb)) (Nat.lt_irrefl _)
structure Turn (P : Program) (w : World) (K : PySem.W.Frag) (tg : Expr) (J : It) (fp : List Addr) (it : Addr) (tn : Nat → Heap → Prop) : Prop where
  mem : it ∈ fp
  obj : ∀ i h, tn i h → ∀ b ∈ fp, ∃ o, h.get? b = some o ∧ ∀ v, o.data ≠ .cell v
  keep : ∀ i h h', tn i h → (∀ b ∈ fp, ∀ o, h.get? b = some o → h'.get? b = some o) → tn i h'
  item : ∀ (X : Cx), X.prog = P → X.w = w → X.K = K → X.calm = true → ∀ (i : Nat) (pins : List (Addr × Obj)) (s : Shared) (σ : St) (H : Hp) (E : Value → Shared → Prop), Inv X pins σ H s → (∀ b ∈ fp, FpOk X pins H b) → tn i s.heap → J.go i H →
    wpAny (model P w) X.A (pyNext (.ref it)) (fun r s1 => ∃ u, r = some u ∧
      wpAny (model P w) X.A (letOwnedTupleGo tg (.ref it) u) (fun _ s2 => ∃ x H', Inv X pins σ H' s2 ∧ RelV x u ∧ J.yld i H x H' ∧ tn (i + 1) s2.heap ∧ ∀ b ∈ fp, H' b = none) E s1) E s
  done : ∀ (X : Cx), X.prog = P → X.w = w → X.K = K → X.calm = true → ∀ (i : Nat) (pins : List (Addr × Obj)) (s : Shared) (σ : St) (H : Hp) (E : Value → Shared → Prop), Inv X pins σ H s → (∀ b ∈ fp, FpOk X pins H b) → tn i s.heap → J.stop i H →
    wpAny (model P w) X.A (pyNext (.ref it)) (fun r s1 => r = none ∧ Inv X pins σ H s1) E s
  self : ∀ (A : Around) (i : Nat) (s : Shared) (Q : Value → Shared → Prop) (E : Value → Shared → Prop), tn i s.heap → Q (.ref it) s → wpAny (model P w) A (pyIter (.ref it)) Q E s
abbrev TI := St → Hp → (It → Hp → Prop) → Prop
/-- an iterator has come -/
def PIE (X : Cx) (pins : List (Addr × Obj)) (σ : St) (tg : Expr) (R : It → Hp → Prop) (itv : Value) (s2 : Shared) : Prop :=
  ∃ (it : Addr) (fp : List Addr) (tn : Nat → Heap → Prop) (J : It) (H' : Hp), itv = .ref it ∧ Inv X pins σ H' s2 ∧ Turn X.prog X.w X.K tg J fp it tn ∧ tn 0 s2.heap ∧ (∀ b ∈ fp, FpOk X pins H' b) ∧ R J H'
def PI (X : Cx) (tg iter : Expr) (wi : TI) : Prop :=
  ∀ (pins : List (Addr × Obj)) (s : Shared) (σ : St) (H : Hp) (R : It → Hp → Prop), Inv X pins σ H s → wi σ H R →
    wpAny (model X.prog X.w) X.A (eval iter X.env) (fun v s1 => wpAny (model X.prog X.w) X.A (pyIter v) (PIE X pins σ tg R) X.xe s1) X.xe s

/-- the step ahead of the store is nothing for an iterator that keeps no tuple -/
theorem go_of {M : Model} {A : Around} {E : Value → Shared → Prop} {s : Shared} {tg : Expr} {it : Addr} {u : Value} {o : Obj} {n : String} {vs : Array Value} {Q : Unit → Shared → Prop} (ho : s.heap.get? it = some o) (hc : o.cls = .type n) (hd : o.data = .fields vs)
    (hn : ["enumerate", "zip", "dict_itemiterator", "dict_reverseitemiterator", "odict_iterator", "itertools.zip_longest", "itertools.pairwise"].contains n = false) (hQ : Q () s) : wpAny M A (letOwnedTupleGo tg (.ref it) u) Q E s := by
  unfold letOwnedTupleGo
  cases tg <;> first
    | exact wpAny_pure hQ
    | (cases u <;> first
        | exact wpAny_pure hQ
        | (refine wpAny_bind (wpAny_load ho ?_)
           rw [hc, hd]
           show wpAny M A (if (["enumerate", "zip", "dict_itemiterator", "dict_reverseitemiterator", "odict_iterator", "itertools.zip_longest", "itertools.pairwise"].contains n && vs[0]? == some (rawInt _)) = true then _ else _) Q E s
           rw [if_neg (by intro h; rw [hn, Bool.false_and] at h; cases h)]
           exact wpAny_pure hQ))

/-- the list at a, as it stands at each turn (a loop may append to it) -/
def Itl (K : PySem.W.Frag) (a : Addr) : It :=
  ⟨fun i H => ∃ xs x, SqL K H a xs ∧ xs[i]? = some x, fun i H x H' => H' = H ∧ ∀ xs, SqL K H a xs → xs[i]? = some x, fun i H => ∃ xs, SqL K H a xs ∧ xs.length ≤ i⟩
def Itt (K : PySem.W.Frag) (a : Addr) : It :=
  ⟨fun i H => ∃ xs x, SqT K H a xs ∧ xs[i]? = some x, fun i H x H' => H' = H ∧ ∀ xs, SqT K H a xs → xs[i]? = some x, fun i H => ∃ xs, SqT K H a xs ∧ xs.length ≤ i⟩
/-- lo, lo + 1, .. (n of them) -/
def Itr (lo : Int) (n : Nat) : It := ⟨fun i _ => i < n, fun i H x H' => H' = H ∧ x = .int (lo + i), fun i _ => n ≤ i⟩
theorem turn_list {P : Program} {w : World} {K : PySem.W.Frag} {tg : Expr} (a it : Addr) : Turn P w K tg (Itl K a) [it] it (fun i h => h.IsListIter it a i) where
  mem := by simp
  obj := fun i h st b hb => by
    have e : b = it := by simpa using hb
    subst e
    obtain ⟨o, e, c, d⟩ := st
    exact ⟨o, e, fun v z => by rw [d] at z; cases z⟩
  keep := fun i h h' st k => st.at fun o e => k it (by simp) o e
  item := by
    intro X hP hw hK hc i pins s σ H E I hf st hg
    subst hP hw hK
    obtain ⟨xs, x, hq, hx⟩ := hg
    obtain ⟨its, rv, p, hz⟩ := I.list hq
    obtain ⟨u, hu, ru⟩ := rv.get hx
    obtain ⟨f0, f1, f2, f3, f4, f5⟩ := hf it (by simp)
    refine wpAny_pyNext_list_item st p.isList (x := u) (by simpa using hu) fun h' st' sb => ?_
    have I1 : Inv X pins σ H { s with heap := h' } := I.turned (t' := s.toks) (fun b o hb e => (sb.2 b hb).trans e) f0 f1 f3 f4 f5
    obtain ⟨o, e, c, d⟩ := id st'
    exact ⟨u, rfl, go_of (s := { s with heap := h' }) e c d (by decide) ⟨x, H, I1, ru, ⟨rfl, fun ys hy => by rw [I.list_inj hy hq]; exact hx⟩, st', fun b hb => (hf b hb).1⟩⟩
  done := by
    intro X hP hw hK hc i pins s σ H E I hf st hg
    subst hP hw hK
    obtain ⟨xs, hq, hx⟩ := hg
    obtain ⟨its, rv, p, hz⟩ := I.list hq
    obtain ⟨f0, f1, f2, f3, f4, f5⟩ := hf it (by simp)
    have hl := rv.length
    exact wpAny_pyNext_list_end (I.ok.hd hc) st p.isList (by simp; omega) fun h' eb => ⟨rfl, I.turned (t' := s.toks) (fun b o hb e => eb b o hb e) f0 f1 f3 f4 f5⟩
  self := fun _ _ _ _ _ st h => wpAny_pyIter_listiter st h
theorem turn_tuple {P : Program} {w : World} {K : PySem.W.Frag} {tg : Expr} (a it : Addr) : Turn P w K tg (Itt K a) [it] it (fun i h => h.IsTupleIter it a i) where
  mem := by simp
  obj := fun i h st b hb => by
    have e : b = it := by simpa using hb
    subst e
    obtain ⟨o, e, c, d⟩ := st
    exact ⟨o, e, fun v z => by rw [d] at z; cases z⟩
  keep := fun i h h' st k => st.at fun o e => k it (by simp) o e
  item := by
    intro X hP hw hK hc i pins s σ H E I hf st hg
    subst hP hw hK
    obtain ⟨xs, x, hq, hx⟩ := hg
    obtain ⟨its, rv, p, hz⟩ := I.tuple hq
    obtain ⟨u, hu, ru⟩ := rv.get hx
    obtain ⟨f0, f1, f2, f3, f4, f5⟩ := hf it (by simp)
    refine wpAny_pyNext_tuple_item st (show s.heap.IsTuple a its.toArray from p) (x := u) (by simpa using hu) fun h' st' sb => ?_
    have I1 : Inv X pins σ H { s with heap := h' } := I.turned (t' := s.toks) (fun b o hb e => (sb.2 b hb).trans e) f0 f1 f3 f4 f5
    obtain ⟨o, e, c, d⟩ := id st'
    exact ⟨u, rfl, go_of (s := { s with heap := h' }) e c d (by decide) ⟨x, H, I1, ru, ⟨rfl, fun ys hy => by rw [I.tuple_inj hy hq]; exact hx⟩, st', fun b hb => (hf b hb).1⟩⟩
  done := by
    intro X hP hw hK hc i pins s σ H E I hf st hg
    subst hP hw hK
    obtain ⟨xs, hq, hx⟩ := hg
    obtain ⟨its, rv, p, hz⟩ := I.tuple hq
    obtain ⟨f0, f1, f2, f3, f4, f5⟩ := hf it (by simp)
    have hl := rv.length
    exact wpAny_pyNext_tuple_end (I.ok.hd hc) st (show s.heap.IsTuple a its.toArray from p) (by simp; omega) fun h' eb => ⟨rfl, I.turned (t' := s.toks) (fun b o hb e => eb b o hb e) f0 f1 f3 f4 f5⟩
  self := fun _ _ _ _ _ st h => wpAny_pyIter_tupleiter st h
theorem turn_range {P : Program} {w : World} {K : PySem.W.Frag} {tg : Expr} (it : Addr) (lo : Int) (n : Nat) : Turn P w K tg (Itr lo n) [it] it (fun i h => IsRangeIter h it (lo + (i : Nat) * 1) ((n : Int) - (i : Nat)) 1) where
  mem := by simp
  obj := fun i h st b hb => by
    have e : b = it := by simpa using hb
    subst e
    exact ⟨_, st, fun v z => by
      have z' : Data.fields _ = Data.cell v := z
      cases z'⟩
  keep := fun i h h' st k => k it (by simp) _ st
  item := by
    intro X hP hw hK hc i pins s σ H E I hf st hg
    subst hP hw hK
    obtain ⟨f0, f1, f2, f3, f4, f5⟩ := hf it (by simp)
    have W := Walks.range (prog := X.prog) (w := X.w) (I.ok.hd hc) it lo 1 n
    refine W.item i s _ _ hg st fun v h' tk hv st' kk => ?_
    obtain ⟨t, rfl⟩ := hv
    have I1 : Inv X pins σ H { s with heap := h', toks := tk } := I.turned (fun b o hb e => kk b o (by simpa using hb) e) f0 f1 f3 f4 f5
    refine ⟨_, rfl, go_of (s := { s with heap := h', toks := tk }) (n := "range_iterator") st' rfl rfl (by decide) ⟨.int (lo + i), H, I1, ⟨t, ?_⟩, ⟨rfl, rfl⟩, st', fun b hb => (hf b hb).1⟩⟩
    rw [Int.mul_one]
  done := by
    intro X hP hw hK hc i pins s σ H E I hf st hg
    subst hP hw hK
    obtain ⟨f0, f1, f2, f3, f4, f5⟩ := hf it (by simp)
    exact wpAny_pyNext_range_end (I.ok.hd hc) st (by have : n ≤ i := hg; omega) fun h' eb => ⟨rfl, I.turned (t' := s.toks) (fun b o hb e => eb b o hb e) f0 f1 f3 f4 f5⟩
  self := fun _ _ _ _ _ st h => wpAny_pyIter_rangeiter st h
end L2

namespace L2
open PySem PySem.Spec PyProof.Rows
section
variable {X : Cx} {tg : Expr}
def iList (K : PySem.W.Frag) (tl : TE) : TI := fun σ H R => tl σ H fun x H1 => ∃ a, x = .ref a ∧ (∃ xs, SqL K H1 a xs) ∧ R (Itl K a) H1
def iTup (K : PySem.W.Frag) (tl : TE) : TI := fun σ H R => tl σ H fun x H1 => ∃ a, x = .ref a ∧ (∃ xs, SqT K H1 a xs) ∧ R (Itt K a) H1
theorem pi_list {l : Expr} {tl : TE} (hl : PE X l tl) : PI X tg l (iList X.K tl) := by
  intro pins s σ H R I h
  refine thn (hl pins s σ H _ I h) fun v s1 ⟨x, H1, I1, r1, q1⟩ => ?_
  obtain ⟨a, e, ⟨xs, hq⟩, q⟩ := q1
  subst e
  cases r1
  obtain ⟨its, rv, p, hz⟩ := I1.list hq
  refine wpAny_pyIter_list p.isList ?_
  refine ⟨s1.heap.objs.size, [s1.heap.objs.size], _, _, H1, rfl, I1.kept (t' := s1.toks) fun b o e => Heap.get?_push_of_some _ e, turn_list a _, ⟨_, Heap.get?_push_size _ rfl, rfl, rfl⟩, fun b hb => ?_, q⟩
  have e : b = s1.heap.objs.size := by simpa using hb
  subst e
  exact I1.fpOk (Nat.le_refl _) (I1.hok.fresh (Nat.le_refl _))
theorem pi_tup {l : Expr} {tl : TE} (hl : PE X l tl) : PI X tg l (iTup X.K tl) := by
  intro pins s σ H R I h
  refine thn (hl pins s σ H _ I h) fun v s1 ⟨x, H1, I1, r1, q1⟩ => ?_
  obtain ⟨a, e, ⟨xs, hq⟩, q⟩ := q1
  subst e
  cases r1
  obtain ⟨its, rv, p, hz⟩ := I1.tuple hq
  refine wpAny_pyIter_tuple (show s1.heap.IsTuple a its.toArray from p) ?_
  refine ⟨s1.heap.objs.size, [s1.heap.objs.size], _, _, H1, rfl, I1.kept (t' := s1.toks) fun b o e => Heap.get?_push_of_some _ e, turn_tuple a _, ⟨_, Heap.get?_push_size _ rfl, rfl, rfl⟩, fun b hb => ?_, q⟩
  have e : b = s1.heap.objs.size := by simpa using hb
  subst e
  exact I1.fpOk (Nat.le_refl _) (I1.hok.fresh (Nat.le_refl _))
/-- a range object just made, walked -/
theorem range_it {pins : List (Addr × Obj)} {σ : St} {H : Hp} {s : Shared} {R : It → Hp → Prop} {E : Value → Shared → Prop} {lo hi : Int} {t u v : Tok} {tk : Nat} (I : Inv X pins σ H s) (h1 : -(2 ^ 62) ≤ lo) (h2 : lo < 2 ^ 62) (h3 : -(2 ^ 62) ≤ hi) (h4 : hi < 2 ^ 62)
    (q : R (Itr lo (hi - lo).toNat) H) : wpAny (model X.prog X.w) X.A (pyIter (.ref s.heap.objs.size)) (PIE X pins σ tg R) E { s with heap := s.heap.push { cls := .type "range", data := .fields #[.int lo t, .int hi u, .int 1 v] }, toks := tk } := by
  refine wpAny_pyIter_range (IsRange.new ..) (small_one h1 h2 h3 h4) ?_
  have I1 : Inv X pins σ H { s with heap := s.heap.push { cls := .type "range", data := .fields #[.int lo t, .int hi u, .int 1 v] }, toks := tk } := I.kept fun b o e => Heap.get?_push_of_some _ e
  refine ⟨(s.heap.push { cls := .type "range", data := .fields #[.int lo t, .int hi u, .int 1 v] }).objs.size, [(s.heap.push { cls := .type "range", data := .fields #[.int lo t, .int hi u, .int 1 v] }).objs.size], _, _, H, rfl,
    I1.kept (t' := tk) fun b o e => Heap.get?_push_of_some _ e, turn_range _ lo (hi - lo).toNat, ?_, fun b hb => ?_, q⟩
  · have e1 : lo + ((0 : Nat) : Int) * 1 = lo := by simp
    have e2 : (((hi - lo).toNat : Nat) : Int) - ((0 : Nat) : Int) = Builtin.Range.rangeSize lo hi 1 := by rw [rangeSize_one]; split <;> omega
    show IsRangeIter _ _ (lo + ((0 : Nat) : Int) * 1) ((((hi - lo).toNat : Nat) : Int) - ((0 : Nat) : Int)) 1
    rw [e1, e2]
    exact Heap.get?_push_size _ rfl
  · have e : b = (s.heap.push { cls := .type "range", data := .fields #[.int lo t, .int hi u, .int 1 v] }).objs.size := by simpa using hb
    subst e
    exact I1.fpOk (Nat.le_refl _) (I1.hok.fresh (Nat.le_refl _))
def iRng1 (ta : TA) : TI := fun σ H R => ta σ H fun vs H1 => ∃ j : Int, vs = [.int j] ∧ -(2 ^ 62) ≤ j ∧ j < 2 ^ 62 ∧ R (Itr 0 j.toNat) H1
theorem pi_range1 {a : Expr} {ta : TA} {p pos : Pos} (hg : Gl X "range") (hm : X.mg "range" = none) (ha : PA X [a] ta) (hs : starEach [a] X.env = [(false, eval a X.env)] := by rfl) : PI X tg (.Call (.Name "range" p) [a] [] pos) (iRng1 ta) := by
  intro pins s σ H R I h
  refine Call_ (ld_blt I hg hm boot_range (PyProof.Rows.callWith_type1 (thn (ha pos pins s σ H _ I h) fun us s1 ⟨vs, H1, I1, r1, q1⟩ => ?_) hs rfl))
  obtain ⟨j, e, q1, q2, q⟩ := q1
  subst e
  cases r1 with
  | cons r rr =>
    cases rr
    obtain ⟨t, rfl⟩ := r
    exact call_range_1 (range_it I1 (by omega) (by omega) q1 q2 (by simpa using q))
/-! ### for -/
/-- W: the invariant by the turn and a measure; N: what the body is to reach -/
def tFor (wi : TI) (g : TG) (tb : TS) : TS := fun D σ H => wi σ H fun J H1 => ∃ W : Nat → Nat → St → Hp → Prop, (∃ m, W 0 m σ H1) ∧ ∀ i m σ H, W i m σ H →
  (J.stop i H ∧ D.nx σ H) ∨ (J.go i H ∧ ∃ N : St → Hp → Prop, (∀ σ' H', N σ' H' → ∃ m', m' < m ∧ W (i + 1) m' σ' H') ∧ ∀ x H', J.yld i H x H' → g x σ H' fun σ2 H2 => tb { D with nx := N, ct := N, bk := D.nx } σ2 H2)
/-- the records at fp as they stand -/
def pinsAt (fp : List Addr) (h : Heap) : List (Addr × Obj) := fp.filterMap fun b => (h.get? b).map fun o => (b, o)
theorem mem_pinsAt {fp : List Addr} {h : Heap} {b : Addr} {o : Obj} (hb : b ∈ fp) (e : h.get? b = some o) : (b, o) ∈ pinsAt fp h := List.mem_filterMap.mpr ⟨b, hb, by rw [e]; rfl⟩
theorem of_pinsAt {fp : List Addr} {h : Heap} {p : Addr × Obj} (hp : p ∈ pinsAt fp h) : p.1 ∈ fp ∧ h.get? p.1 = some p.2 := by
  obtain ⟨b, hb, e⟩ := List.mem_filterMap.mp hp
  cases q : h.get? b with
  | none => rw [q] at e; cases e
  | some o =>
    rw [q] at e
    have e' : (b, o) = p := Option.some.inj e
    subst e'
    exact ⟨hb, q⟩
theorem Inv.pinned {pins : List (Addr × Obj)} {σ : St} {H : Hp} {s : Shared} {fp : List Addr} (I : Inv X pins σ H s) (hf : ∀ b ∈ fp, FpOk X pins H b) (ho : ∀ b ∈ fp, ∃ o, s.heap.get? b = some o ∧ ∀ v, o.data ≠ .cell v) : Inv X (pins ++ pinsAt fp s.heap) σ H s :=
  I.pins_of fun p hp => (List.mem_append.mp hp).elim (fun z => I.pin p (List.mem_append_right _ z)) fun z => by
    obtain ⟨hb, e⟩ := of_pinsAt z
    obtain ⟨f0, f1, f2, _⟩ := hf p.1 hb
    obtain ⟨o, e', d⟩ := ho p.1 hb
    rw [e] at e'; cases e'
    exact ⟨e, f0, f1, f2, d⟩
theorem Inv.unpinned {pins pl : List (Addr × Obj)} {σ : St} {H : Hp} {s : Shared} (I : Inv X (pins ++ pl) σ H s) : Inv X pins σ H s := I.pins_of fun p hp => I.pin p (List.mem_append_right _ (List.mem_append_left _ hp))
theorem ps_for {iter : Expr} {body : List Stmt} {wi : TI} {g : TG} {tb : TS} {pos : Pos} (hp : PassesOwn (model X.prog X.w) X.A X.env X.xe) (hc : X.calm = true) (hi : PI X tg iter wi) (hg : PG X tg g) (hb : PSs X body tb)
    (hs : ∀ x, foldedSetIterable iter X.env x = pure x := by intro _; rfl) : PS X (.For tg iter body [] pos) (tFor wi g tb) := by
  intro pins s σ H D I h
  refine wpAny_For (thn (hi pins s σ H _ I h) fun v s1 h1 => thn h1 fun itv s2 h2 => ?_) hs
  obtain ⟨it, fp, tn, J, H2, e, I2, T, st2, f2, W, ⟨m0, w0⟩, turn⟩ := h2
  subst e
  -- what stays true of the iterator's objects through the loop
  have stat : ∀ {H' : Hp}, (∀ b ∈ fp, H' b = none) → ∀ b ∈ fp, FpOk X pins H' b := fun hn b hb => ⟨hn b hb, (f2 b hb).2⟩
  refine codeAny_forLoop_any (fun n s' => ∃ i σ' H', Inv X pins σ' H' s' ∧ tn i s'.heap ∧ (∀ b ∈ fp, H' b = none) ∧ W i n σ' H') ?_ m0 ⟨0, σ, H2, I2, st2, fun b hb => (f2 b hb).1, w0⟩
  rintro n s3 ⟨i, σ3, H3, I3, st3, fr3, w3⟩
  rcases turn i n σ3 H3 w3 with ⟨stop, qn⟩ | ⟨go, N, hN, step⟩
  · refine wpAny_passesOwn hp (thn (T.done X rfl rfl rfl hc i pins s3 σ3 H3 X.xe I3 (stat fr3) st3 stop) fun r s4 ⟨hr, I4⟩ => ?_)
    subst hr
    exact wpAny_execs_nil ⟨σ3, H3, I4, qn⟩
  · refine wpAny_passesOwn hp (thn (T.item X rfl rfl rfl hc i pins s3 σ3 H3 X.xe I3 (stat fr3) st3 go) fun r s4 ⟨u, hr, h4⟩ => ?_)
    subst hr
    refine wpAny_passesOwn hp (thn h4 fun _ s5 ⟨x, H5, I5, r5, y5, st5, fr5⟩ => ?_)
    have I5' := I5.pinned (stat fr5) (T.obj _ _ st5)
    refine wpAny_passesOwn hp (thn (hg _ s5 σ3 H5 x u _ I5' r5 (step x H5 y5)) fun _ s6 ⟨σ6, H6, I6, q6⟩ => ?_)
    refine wpAny_passesOwn hp (thn (hb _ s6 σ6 H6 _ I6 q6) fun f s7 q7 => ?_)
    have again : ∀ {σ7 : St} {H7 : Hp}, Inv X (pins ++ pinsAt fp s5.heap) σ7 H7 s7 → N σ7 H7 → ∃ m, m < n ∧ ∃ i σ' H', Inv X pins σ' H' s7 ∧ tn i s7.heap ∧ (∀ b ∈ fp, H' b = none) ∧ W i m σ' H' := fun {σ7 H7} I7 n7 => by
      obtain ⟨m', hm, w7⟩ := hN σ7 H7 n7
      refine ⟨m', hm, i + 1, σ7, H7, I7.unpinned, T.keep _ _ _ st5 fun b hb o e => (I7.pin (b, o) (List.mem_append_right _ (List.mem_append_right _ (mem_pinsAt hb e)))).1, fun b hb => ?_, w7⟩
      obtain ⟨o, e, d⟩ := T.obj _ _ st5 b hb
      exact (I7.pin (b, o) (List.mem_append_right _ (List.mem_append_right _ (mem_pinsAt hb e)))).2.1
    cases f with
    | next => obtain ⟨σ7, H7, I7, n7⟩ := q7; exact again I7 n7
    | cont => obtain ⟨σ7, H7, I7, n7⟩ := q7; exact again I7 n7
    | brk => obtain ⟨σ7, H7, I7, q7⟩ := q7; exact ⟨σ7, H7, I7.unpinned, q7⟩
    | ret v => obtain ⟨x7, σ7, H7, I7, r7, q7⟩ := q7; exact ⟨x7, σ7, H7, I7.unpinned, r7, q7⟩
end

/-! ### the forms one uses -/
/-- over a list that the body leaves as it is -/
theorem for_list {K : PySem.W.Frag} {a : Addr} {xs : List V} {g : TG} {tb : TS} {D : Ends} {σ : St} {H : Hp} (Pv : Nat → St → Hp → Prop) (h0 : Pv 0 σ H) (hl : ∀ i σ H, i ≤ xs.length → Pv i σ H → SqL K H a xs)
    (hs : ∀ i x σ H, xs[i]? = some x → Pv i σ H → g x σ H fun σ2 H2 => tb { D with nx := Pv (i + 1), ct := Pv (i + 1), bk := D.nx } σ2 H2) (hd : ∀ σ H, Pv xs.length σ H → D.nx σ H) :
    ∃ W : Nat → Nat → St → Hp → Prop, (∃ m, W 0 m σ H) ∧ ∀ i m σ H, W i m σ H →
      ((Itl K a).stop i H ∧ D.nx σ H) ∨ ((Itl K a).go i H ∧ ∃ N : St → Hp → Prop, (∀ σ' H', N σ' H' → ∃ m', m' < m ∧ W (i + 1) m' σ' H') ∧ ∀ x H', (Itl K a).yld i H x H' → g x σ H' fun σ2 H2 => tb { D with nx := N, ct := N, bk := D.nx } σ2 H2) := by
  refine ⟨fun i m σ H => m = xs.length - i ∧ i ≤ xs.length ∧ Pv i σ H, ⟨xs.length, by simp, Nat.zero_le _, h0⟩, ?_⟩
  rintro i m σ H ⟨rfl, hi, p⟩
  have q := hl i σ H hi p
  by_cases hlt : i < xs.length
  · refine .inr ⟨⟨xs, xs[i], q, by simp [hlt]⟩, Pv (i + 1), fun σ' H' p' => ⟨xs.length - (i + 1), by omega, rfl, hlt, p'⟩, fun x H' y => ?_⟩
    obtain ⟨e, y⟩ := y
    subst e
    exact hs i x σ _ (y xs q) p
  · have e : i = xs.length := by omega
    subst e
    exact .inl ⟨⟨xs, q, Nat.le_refl _⟩, hd σ H p⟩
theorem for_tup {K : PySem.W.Frag} {a : Addr} {xs : List V} {g : TG} {tb : TS} {D : Ends} {σ : St} {H : Hp} (Pv : Nat → St → Hp → Prop) (h0 : Pv 0 σ H) (hl : ∀ i σ H, i ≤ xs.length → Pv i σ H → SqT K H a xs)
    (hs : ∀ i x σ H, xs[i]? = some x → Pv i σ H → g x σ H fun σ2 H2 => tb { D with nx := Pv (i + 1), ct := Pv (i + 1), bk := D.nx } σ2 H2) (hd : ∀ σ H, Pv xs.length σ H → D.nx σ H) :
    ∃ W : Nat → Nat → St → Hp → Prop, (∃ m, W 0 m σ H) ∧ ∀ i m σ H, W i m σ H →
      ((Itt K a).stop i H ∧ D.nx σ H) ∨ ((Itt K a).go i H ∧ ∃ N : St → Hp → Prop, (∀ σ' H', N σ' H' → ∃ m', m' < m ∧ W (i + 1) m' σ' H') ∧ ∀ x H', (Itt K a).yld i H x H' → g x σ H' fun σ2 H2 => tb { D with nx := N, ct := N, bk := D.nx } σ2 H2) := by
  refine ⟨fun i m σ H => m = xs.length - i ∧ i ≤ xs.length ∧ Pv i σ H, ⟨xs.length, by simp, Nat.zero_le _, h0⟩, ?_⟩
  rintro i m σ H ⟨rfl, hi, p⟩
  have q := hl i σ H hi p
  by_cases hlt : i < xs.length
  · refine .inr ⟨⟨xs, xs[i], q, by simp [hlt]⟩, Pv (i + 1), fun σ' H' p' => ⟨xs.length - (i + 1), by omega, rfl, hlt, p'⟩, fun x H' y => ?_⟩
    obtain ⟨e, y⟩ := y
    subst e
    exact hs i x σ _ (y xs q) p
  · have e : i = xs.length := by omega
    subst e
    exact .inl ⟨⟨xs, q, Nat.le_refl _⟩, hd σ H p⟩
theorem for_range {lo : Int} {n : Nat} {g : TG} {tb : TS} {D : Ends} {σ : St} {H : Hp} (Pv : Nat → St → Hp → Prop) (h0 : Pv 0 σ H)
    (hs : ∀ i σ H, i < n → Pv i σ H → g (.int (lo + i)) σ H fun σ2 H2 => tb { D with nx := Pv (i + 1), ct := Pv (i + 1), bk := D.nx } σ2 H2) (hd : ∀ σ H, Pv n σ H → D.nx σ H) :
    ∃ W : Nat → Nat → St → Hp → Prop, (∃ m, W 0 m σ H) ∧ ∀ i m σ H, W i m σ H →
      ((Itr lo n).stop i H ∧ D.nx σ H) ∨ ((Itr lo n).go i H ∧ ∃ N : St → Hp → Prop, (∀ σ' H', N σ' H' → ∃ m', m' < m ∧ W (i + 1) m' σ' H') ∧ ∀ x H', (Itr lo n).yld i H x H' → g x σ H' fun σ2 H2 => tb { D with nx := N, ct := N, bk := D.nx } σ2 H2) := by
  refine ⟨fun i m σ H => m = n - i ∧ i ≤ n ∧ Pv i σ H, ⟨n, by simp, Nat.zero_le _, h0⟩, ?_⟩
  rintro i m σ H ⟨rfl, hi, p⟩
  by_cases hlt : i < n
  · refine .inr ⟨hlt, Pv (i + 1), fun σ' H' p' => ⟨n - (i + 1), by omega, rfl, hlt, p'⟩, fun x H' y => ?_⟩
    obtain ⟨e, y⟩ := y
    subst e y
    exact hs i σ _ hlt p
  · have e : i = n := by omega
    subst e
    exact .inl ⟨Nat.le_refl _, hd σ H p⟩
end L2

namespace L2
open PySem PySem.Spec PyProof.Rows

abbrev R2 := V → V → Hp → VK → Prop
/-- a two-place operation on values: f is binaryOp op, inplaceOp op or compareOp op -/
def OpR (X : Cx) (f : Value → Value → Sem Value) (r : R2) : Prop :=
  ∀ (pins : List (Addr × Obj)) (s : Shared) (σ : St) (H : Hp) (x y : V) (v u : Value) (Q : VK), Inv X pins σ H s → RelV x v → RelV y u → r x y H Q →
    wpAny (model X.prog X.w) X.A (f v u) (EP X pins σ Q) X.xe s
/-- a one-place operation -/
def UnR (X : Cx) (f : Value → Sem Value) (r : V → Hp → VK → Prop) : Prop :=
  ∀ (pins : List (Addr × Obj)) (s : Shared) (σ : St) (H : Hp) (x : V) (v : Value) (Q : VK), Inv X pins σ H s → RelV x v → r x H Q →
    wpAny (model X.prog X.w) X.A (f v) (EP X pins σ Q) X.xe s
/-- a call of a value that is known (a builtin, a type) with values -/
def CallR (X : Cx) (f : Value) (r : List V → Hp → VK → Prop) : Prop :=
  ∀ (pins : List (Addr × Obj)) (s : Shared) (σ : St) (H : Hp) (xs : List V) (us : List Value) (Q : VK), Inv X pins σ H s → Vals xs us → r xs H Q →
    wpAny (model X.prog X.w) X.A (call f us) (EP X pins σ Q) X.xe s
def tOp (r : R2) (ta tb : TE) : TE := fun σ H Q => ta σ H fun x H1 => tb σ H1 fun y H2 => r x y H2 Q
def tUn (r : V → Hp → VK → Prop) (ta : TE) : TE := fun σ H Q => ta σ H fun x H1 => r x H1 Q
/-- ints in, under C, and a value out -/
def rI (C : Int → Int → Prop) (g : Int → Int → V) : R2 := fun x y H Q => ∃ i j, x = .int i ∧ y = .int j ∧ C i j ∧ Q (g i j) H
def rI0 (g : Int → Int → V) : R2 := fun x y H Q => ∃ i j, x = .int i ∧ y = .int j ∧ Q (g i j) H
def rU (g : Int → V) : V → Hp → VK → Prop := fun x H Q => ∃ i, x = .int i ∧ Q (g i) H

section
variable {X : Cx} {a b c : Expr} {ta tb tc : TE} {pos : Pos}

theorem binT (ha : PE X a ta) (hb : PE X b tb) {pins : List (Addr × Obj)} {s : Shared} {σ : St} {H : Hp} {R : V → V → Hp → Prop} (I : Inv X pins σ H s)
    (h : ta σ H fun x H1 => tb σ H1 fun y H2 => R x y H2) {Q : Value → Shared → Prop} {f : Value → Value → Sem Value}
    (hf : ∀ v u s2 x y H2, Inv X pins σ H2 s2 → RelV x v → RelV y u → R x y H2 → wpAny (model X.prog X.w) X.A (f v u) Q X.xe s2) :
    wpAny (model X.prog X.w) X.A (eval a X.env) (fun v s₁ => wpAny (model X.prog X.w) X.A (eval b X.env) (fun u s₂ => wpAny (model X.prog X.w) X.A (f v u) Q X.xe s₂) X.xe s₁) X.xe s := by
  refine thn (ha pins s σ H _ I h) fun v s1 ⟨x, H1, I1, r1, q1⟩ => ?_
  refine thn (hb pins s1 σ H1 _ I1 q1) fun u s2 ⟨y, H2, I2, r2, q2⟩ => ?_
  exact hf v u s2 x y H2 I2 r1 r2 q2

theorem pe_op {op : Operator} {r : R2} (ho : OpR X (binaryOp op) r) (ha : PE X a ta) (hb : PE X b tb) : PE X (.BinOp a op b pos) (tOp r ta tb) := by
  intro pins s σ H Q I h
  exact wpAny_BinOp (binT ha hb I h fun v u s2 x y H2 I2 rx ry q => ho pins s2 σ H2 x y v u Q I2 rx ry q)
theorem pe_un {op : UnaryOp} {r : V → Hp → VK → Prop} (ho : UnR X (unaryOp op) r) (ha : PE X a ta) : PE X (.UnaryOp op a pos) (tUn r ta) := by
  intro pins s σ H Q I h
  exact UnaryOp_ (thn (ha pins s σ H _ I h) fun v s1 ⟨x, H1, I1, r1, q1⟩ => ho pins s1 σ H1 x v Q I1 r1 q1)
/-! ### ints -/
theorem opI {f : Value → Value → Sem Value} {C : Int → Int → Prop} {g : Int → Int → Int}
    (rule : ∀ (i j : Int) (t u : Tok) (s : Shared) (Q : Value → Shared → Prop) (E : Value → Shared → Prop), C i j → Q (.int (g i j) s.toks) { s with toks := s.toks + 1 } → wpAny (model X.prog X.w) X.A (f (.int i t) (.int j u)) Q E s) :
    OpR X f (rI C fun i j => .int (g i j)) := by
  intro pins s σ H x y v u Q I rx ry h
  obtain ⟨i, j, rfl, rfl, hc, q⟩ := h
  obtain ⟨t, rfl⟩ := rx
  obtain ⟨t', rfl⟩ := ry
  exact rule i j t t' s _ _ hc ⟨.int (g i j), H, I.tok _, ⟨_, rfl⟩, q⟩
theorem opI0 {f : Value → Value → Sem Value} {g : Int → Int → Int}
    (rule : ∀ (i j : Int) (t u : Tok) (s : Shared) (Q : Value → Shared → Prop) (E : Value → Shared → Prop), Q (.int (g i j) s.toks) { s with toks := s.toks + 1 } → wpAny (model X.prog X.w) X.A (f (.int i t) (.int j u)) Q E s) :
    OpR X f (rI0 fun i j => .int (g i j)) := by
  intro pins s σ H x y v u Q I rx ry h
  obtain ⟨i, j, rfl, rfl, q⟩ := h
  obtain ⟨t, rfl⟩ := rx
  obtain ⟨t', rfl⟩ := ry
  exact rule i j t t' s _ _ ⟨.int (g i j), H, I.tok _, ⟨_, rfl⟩, q⟩
theorem opB0 {f : Value → Value → Sem Value} {g : Int → Int → Bool}
    (rule : ∀ (i j : Int) (t u : Tok) (s : Shared) (Q : Value → Shared → Prop) (E : Value → Shared → Prop), Q (.bool (g i j)) s → wpAny (model X.prog X.w) X.A (f (.int i t) (.int j u)) Q E s) :
    OpR X f (rI0 fun i j => .bl (g i j)) := by
  intro pins s σ H x y v u Q I rx ry h
  obtain ⟨i, j, rfl, rfl, q⟩ := h
  obtain ⟨t, rfl⟩ := rx
  obtain ⟨t', rfl⟩ := ry
  exact rule i j t t' s _ _ ⟨.bl (g i j), H, I, rfl, q⟩

def CDiv (i j : Int) : Prop := 0 < j ∧ j < 1073741824
def CPow (i j : Int) : Prop := 0 ≤ j ∧ j ≤ 1000000 ∧ i.natAbs < 2 ^ 64
def CMul (i j : Int) : Prop := (-(2 ^ 64) < i ∧ i < 2 ^ 64) ∨ (-(2 ^ 64) < j ∧ j < 2 ^ 64)
theorem CMul.ok {i j : Int} (h : CMul i j) : IntMulOk i j := by
  rcases h with ⟨h1, h2⟩ | ⟨h1, h2⟩
  · exact .of_left (intBits_le_64 h1 h2)
  · exact .of_right (intBits_le_64 h1 h2)
theorem op_add : OpR X (binaryOp .Add) (rI0 fun i j => .int (i + j)) := opI0 fun _ _ _ _ _ _ _ q => add_int q
theorem op_sub : OpR X (binaryOp .Sub) (rI0 fun i j => .int (i - j)) := opI0 fun _ _ _ _ _ _ _ q => sub_int q
theorem op_mul : OpR X (binaryOp .Mult) (rI CMul fun i j => .int (i * j)) := opI fun _ _ _ _ _ _ _ hc q => mul_int q hc.ok
/-- // by a positive divisor -/
theorem op_fdiv : OpR X (binaryOp .FloorDiv) (rI CDiv fun i j => .int (i / j)) := opI fun i j _ _ _ _ _ hc q => by
  have h1 : (0 : Int) < j := hc.1
  have h2 : j < 1073741824 := hc.2
  exact floordiv_int (by omega) (by rw [Int.fdiv_eq_ediv_of_nonneg i (by omega)]; exact q) (.inl (PyProof.noPylong_small (by omega)))
/-- % by a positive divisor of any size -/
theorem op_mod : OpR X (binaryOp .Mod) (rI (fun _ j => 0 < j) fun i j => .int (i % j)) := opI fun i j _ _ _ _ _ hc q => by
  have h1 : (0 : Int) < j := hc
  exact mod_int' (by omega) (by rw [Int.fmod_eq_emod_of_nonneg i (by omega)]; exact q)
theorem op_pow : OpR X (binaryOp .Pow) (rI CPow fun i j => .int (i ^ j.toNat)) := opI fun _ _ _ _ _ _ _ hc q => pow_int_small hc.1 hc.2.1 hc.2.2 q
theorem unI {f : Value → Sem Value} {g : Int → Int}
    (rule : ∀ (i : Int) (t : Tok) (s : Shared) (Q : Value → Shared → Prop) (E : Value → Shared → Prop), Q (.int (g i) s.toks) { s with toks := s.toks + 1 } → wpAny (model X.prog X.w) X.A (f (.int i t)) Q E s) :
    UnR X f (rU fun i => .int (g i)) := by
  intro pins s σ H x v Q I rx h
  obtain ⟨i, rfl, q⟩ := h
  obtain ⟨t, rfl⟩ := rx
  exact rule i t s _ _ ⟨.int (g i), H, I.tok _, ⟨_, rfl⟩, q⟩
theorem un_neg : UnR X (unaryOp .USub) (rU fun i => .int (-i)) := unI fun _ _ _ _ _ q => neg_int q
/-! ### bools among ints: n += (a < b) -/
end

/-! ### comparisons -/
/-- the scalars that == tells apart as data does -/
def scal : V → V → Bool
  | .non, .non => true | .non, .int _ => true | .int _, .non => true | .non, .bl _ => true | .bl _, .non => true | .non, .str _ => true | .str _, .non => true
  | .int _, .int _ => true | .bl _, .bl _ => true | .str _, .str _ => true | .byt _, .byt _ => true
  | .int _, .str _ => true | .str _, .int _ => true | .bl _, .str _ => true | .str _, .bl _ => true
  | _, _ => false
def rEq : R2 := fun x y H Q => scal x y = true ∧ Q (.bl (decide (x = y))) H
def rNe : R2 := fun x y H Q => scal x y = true ∧ Q (.bl (!decide (x = y))) H

theorem dec_int {i j : Int} : decide (V.int i = V.int j) = (i == j) := by
  rw [Bool.eq_iff_iff]
  simp
theorem dec_bl {i j : Bool} : decide (V.bl i = V.bl j) = (i == j) := by
  rw [Bool.eq_iff_iff]
  simp
theorem dec_str {i j : Str} : decide (V.str i = V.str j) = (i == j) := by
  rw [Bool.eq_iff_iff]
  simp
theorem dec_byt {i j : Array UInt8} : decide (V.byt i = V.byt j) = (i.toList == j.toList) := by
  rw [Bool.eq_iff_iff]
  cases i
  cases j
  simp

section
variable {X : Cx} {a b c : Expr} {ta tb tc : TE} {pos : Pos}
theorem fin_bl {pins : List (Addr × Obj)} {σ : St} {H : Hp} {s : Shared} {Q : VK} {k k' : Bool} (I : Inv X pins σ H s) (q : Q (.bl k) H) (e : k = k') : EP X pins σ Q (.bool k') s := by
  subst e
  exact ⟨.bl k, H, I, rfl, q⟩
theorem op_eq : OpR X (compareOp .Eq) rEq := by
  intro pins s σ H x y v u Q I rx ry h
  obtain ⟨hs, q⟩ := h
  cases x with
  | non =>
    cases rx
    cases y with
    | non => cases ry; exact PySem.EqNone.eq_none_none (fin_bl I q (by simp))
    | bl j => cases ry; exact PySem.EqNone.eq_none_bool (fin_bl I q (by simp))
    | int j => obtain ⟨t', rfl⟩ := ry; exact PySem.EqNone.eq_none_int (fin_bl I q (by simp))
    | str j => obtain ⟨t', rfl⟩ := ry; exact PySem.EqNone.eq_none_str (fin_bl I q (by simp))
    | _ => exact absurd (show false = true from hs) Bool.false_ne_true
  | bl i =>
    cases rx
    cases y with
    | non => cases ry; exact PySem.EqNone.eq_bool_none (fin_bl I q (by simp))
    | bl j => cases ry; exact eq_bool (fin_bl I q dec_bl)
    | str j => obtain ⟨t', rfl⟩ := ry; exact PySem.EqMixed.eq_bool_str (fin_bl I q (by simp))
    | _ => exact absurd (show false = true from hs) Bool.false_ne_true
  | int i =>
    obtain ⟨t, rfl⟩ := rx
    cases y with
    | non => cases ry; exact PySem.EqNone.eq_int_none (fin_bl I q (by simp))
    | int j => obtain ⟨t', rfl⟩ := ry; exact eq_int (fin_bl I q dec_int)
    | str j => obtain ⟨t', rfl⟩ := ry; exact PySem.EqMixed.eq_int_str (fin_bl I q (by simp))
    | _ => exact absurd (show false = true from hs) Bool.false_ne_true
  | str i =>
    obtain ⟨t, rfl⟩ := rx
    cases y with
    | non => cases ry; exact PySem.EqNone.eq_str_none (fin_bl I q (by simp))
    | bl j => cases ry; exact PySem.EqMixed.eq_str_bool (fin_bl I q (by simp))
    | int j => obtain ⟨t', rfl⟩ := ry; exact PySem.EqMixed.eq_str_int (fin_bl I q (by simp))
    | str j => obtain ⟨t', rfl⟩ := ry; exact eq_str (fin_bl I q dec_str)
    | _ => exact absurd (show false = true from hs) Bool.false_ne_true
  | byt i =>
    obtain ⟨t, rfl⟩ := rx
    cases y with
    | byt j => obtain ⟨t', rfl⟩ := ry; exact PySem.W.eq_bytes (fin_bl I q dec_byt)
    | _ => exact absurd (show false = true from hs) Bool.false_ne_true
  | _ => cases y <;> exact absurd (show false = true from hs) Bool.false_ne_true
theorem op_ne : OpR X (compareOp .NotEq) rNe := by
  intro pins s σ H x y v u Q I rx ry h
  obtain ⟨hs, q⟩ := h
  cases x with
  | non =>
    cases rx
    cases y with
    | non => cases ry; exact PySem.EqNone.ne_none_none (fin_bl I q (by simp))
    | bl j => cases ry; exact PySem.EqNone.ne_none_bool (fin_bl I q (by simp))
    | int j => obtain ⟨t', rfl⟩ := ry; exact PySem.EqNone.ne_none_int (fin_bl I q (by simp))
    | str j => obtain ⟨t', rfl⟩ := ry; exact PySem.EqNone.ne_none_str (fin_bl I q (by simp))
    | _ => exact absurd (show false = true from hs) Bool.false_ne_true
  | bl i =>
    cases rx
    cases y with
    | non => cases ry; exact PySem.EqNone.ne_bool_none (fin_bl I q (by simp))
    | bl j => cases ry; exact ne_bool (fin_bl I q (congrArg not dec_bl))
    | str j => obtain ⟨t', rfl⟩ := ry; exact PySem.EqMixed.ne_bool_str (fin_bl I q (by simp))
    | _ => exact absurd (show false = true from hs) Bool.false_ne_true
  | int i =>
    obtain ⟨t, rfl⟩ := rx
    cases y with
    | non => cases ry; exact PySem.EqNone.ne_int_none (fin_bl I q (by simp))
    | int j => obtain ⟨t', rfl⟩ := ry; exact ne_int (fin_bl I q (congrArg not dec_int))
    | str j => obtain ⟨t', rfl⟩ := ry; exact PySem.EqMixed.ne_int_str (fin_bl I q (by simp))
    | _ => exact absurd (show false = true from hs) Bool.false_ne_true
  | str i =>
    obtain ⟨t, rfl⟩ := rx
    cases y with
    | non => cases ry; exact PySem.EqNone.ne_str_none (fin_bl I q (by simp))
    | bl j => cases ry; exact PySem.EqMixed.ne_str_bool (fin_bl I q (by simp))
    | int j => obtain ⟨t', rfl⟩ := ry; exact PySem.EqMixed.ne_str_int (fin_bl I q (by simp))
    | str j => obtain ⟨t', rfl⟩ := ry; exact ne_str (fin_bl I q (congrArg not dec_str))
    | _ => exact absurd (show false = true from hs) Bool.false_ne_true
  | byt i =>
    obtain ⟨t, rfl⟩ := rx
    cases y with
    | byt j => obtain ⟨t', rfl⟩ := ry; exact PySem.W.ne_bytes (fin_bl I q (congrArg not dec_byt))
    | _ => exact absurd (show false = true from hs) Bool.false_ne_true
  | _ => cases y <;> exact absurd (show false = true from hs) Bool.false_ne_true

theorem op_lt : OpR X (compareOp .Lt) (rI0 fun i j => .bl (decide (i < j))) := opB0 fun _ _ _ _ _ _ _ q => lt_int q
theorem op_le : OpR X (compareOp .LtE) (rI0 fun i j => .bl (decide (i ≤ j))) := opB0 fun _ _ _ _ _ _ _ q => le_int q
theorem op_gt : OpR X (compareOp .Gt) (rI0 fun i j => .bl (decide (j < i))) := opB0 fun _ _ _ _ _ _ _ q => gt_int q
theorem op_ge : OpR X (compareOp .GtE) (rI0 fun i j => .bl (decide (j ≤ i))) := opB0 fun _ _ _ _ _ _ _ q => ge_int q
/-- two rules for one operation: by cases -/
theorem OpR.or {f : Value → Value → Sem Value} {r r' : R2} (h : OpR X f r) (h' : OpR X f r') : OpR X f (fun x y H Q => r x y H Q ∨ r' x y H Q) := by
  intro pins s σ H x y v u Q I rx ry q
  rcases q with q | q
  · exact h pins s σ H x y v u Q I rx ry q
  · exact h' pins s σ H x y v u Q I rx ry q

theorem nomark (b : Expr) {op : CmpOp} (h : op ≠ .In := by decide) (h2 : op ≠ .NotIn := by decide) : behindInMarks op b = false := by
  have e1 : (op == CmpOp.In) = false := by cases op <;> first | rfl | exact absurd rfl h
  have e2 : (op == CmpOp.NotIn) = false := by cases op <;> first | rfl | exact absurd rfl h2
  cases b <;> simp [behindInMarks, e1, e2]
/-- a comparison as a value; hm: nomark b, or (for in, not in) by with_unfolding_all rfl -/
theorem pe_cmpR {op : CmpOp} {r : R2} (ho : OpR X (compareOp op) r) (ha : PE X a ta) (hb : PE X b tb) (hm : behindInMarks op b = false) : PE X (.Compare a [op] [b] pos) (tOp r ta tb) := by
  intro pins s σ H Q I h
  exact wpAny_Compare1 (binT ha hb I h fun v u s2 x y H2 I2 rx ry q => ho pins s2 σ H2 x y v u Q I2 rx ry q) hm
/-- a reading of a value as a test -/
def tTest (t : TE) : TT := fun σ H Q => t σ H fun x H' => ∃ k, x = .bl k ∧ Q k H'
theorem pt_cmpR {op : CmpOp} {r : R2} (ho : OpR X (compareOp op) r) (ha : PE X a ta) (hb : PE X b tb) (hm : behindInMarks op b = false) : PT X (.Compare a [op] [b] pos) (tTest (tOp r ta tb)) := by
  intro pins s σ H Q I h
  refine wpAny_isTrue_Compare1 (thn (ha pins s σ H _ I h) fun v s1 ⟨x, H1, I1, r1, q1⟩ => thn (hb pins s1 σ H1 _ I1 q1) fun u s2 ⟨y, H2, I2, r2, q2⟩ =>
    thn (ho pins s2 σ H2 x y v u _ I2 r1 r2 q2) fun c s3 ⟨z, H3, I3, r3, k, e, q3⟩ => ?_) hm
  subst e
  cases r3
  exact wpAny_truthy_bool ⟨H3, I3, q3⟩
/-- a op1 b op2 c -/
def tChain (r r' : R2) (ta tb tc : TE) : TE := fun σ H Q => ta σ H fun x H1 => tb σ H1 fun y H2 => r x y H2 fun z H3 => ∃ k, z = .bl k ∧
  (if k = true then tc σ H3 fun w' H4 => r' y w' H4 Q else Q (.bl false) H3)
theorem pe_chain {op op' : CmpOp} {r r' : R2} (ho : OpR X (compareOp op) r) (ho' : OpR X (compareOp op') r') (ha : PE X a ta) (hb : PE X b tb) (hc : PE X c tc)
    (hm : lastMarks [op, op'] [b, c] = false := by with_unfolding_all rfl) : PE X (.Compare a [op, op'] [b, c] pos) (tChain r r' ta tb tc) := by
  intro pins s σ H Q I h
  refine Compare_chain (thn (ha pins s σ H _ I h) fun v s1 ⟨x, H1, I1, r1, q1⟩ => chain_link (thn (hb pins s1 σ H1 _ I1 q1) fun u s2 ⟨y, H2, I2, r2, q2⟩ =>
    thn (ho pins s2 σ H2 x y v u _ I2 r1 r2 q2) fun d s3 ⟨z, H3, I3, r3, k, e, q3⟩ => ?_)) hm
  subst e
  cases r3
  refine wpAny_truthy_bool ?_
  cases k with
  | false => exact ite_ff ⟨.bl false, H3, I3, rfl, q3⟩
  | true => exact ite_tt (chain_last (thn (hc pins s3 σ H3 _ I3 q3) fun w' s4 ⟨z', H4, I4, r4, q4⟩ => ho' pins s4 σ H4 y z' u w' Q I4 r2 r4 q4))
theorem pt_chain {op op' : CmpOp} {r r' : R2} (ho : OpR X (compareOp op) r) (ho' : OpR X (compareOp op') r') (ha : PE X a ta) (hb : PE X b tb) (hc : PE X c tc)
    (hm : lastMarks [op, op'] [b, c] = false := by with_unfolding_all rfl) : PT X (.Compare a [op, op'] [b, c] pos) (tTest (tChain r r' ta tb tc)) := by
  intro pins s σ H Q I h
  refine isTrue_chain (thn (ha pins s σ H _ I h) fun v s1 ⟨x, H1, I1, r1, q1⟩ => test_link (thn (hb pins s1 σ H1 _ I1 q1) fun u s2 ⟨y, H2, I2, r2, q2⟩ =>
    thn (ho pins s2 σ H2 x y v u _ I2 r1 r2 q2) fun d s3 ⟨z, H3, I3, r3, k, e, q3⟩ => ?_)) hm
  subst e
  cases r3
  refine wpAny_truthy_bool ?_
  cases k with
  | false =>
    obtain ⟨k', e', q'⟩ := q3
    cases e'
    exact ite_ff ⟨H3, I3, q'⟩
  | true =>
    refine ite_tt (test_last (thn (hc pins s3 σ H3 _ I3 q3) fun w' s4 ⟨z', H4, I4, r4, q4⟩ => thn (ho' pins s4 σ H4 y z' u w' _ I4 r2 r4 q4) fun d' s5 ⟨z2, H5, I5, r5, k2, e2, q5⟩ => ?_))
    subst e2
    cases r5
    exact wpAny_truthy_bool ⟨H5, I5, q5⟩

/-! ### truth -/
theorem line63 : (sizeLine : Nat) < 2 ^ 63 := by rw [sizeLine_eq]; decide
/-! ### strs and bytes -/
theorem op_add_str : OpR X (binaryOp .Add) (fun x y H Q => ∃ i j, x = .str i ∧ y = .str j ∧ i.length + j.length ≤ sizeLine ∧ Q (.str (i ++ j)) H) := by
  intro pins s σ H x y v u Q I rx ry h
  obtain ⟨i, j, rfl, rfl, hz, q⟩ := h
  obtain ⟨t, rfl⟩ := rx
  obtain ⟨t', rfl⟩ := ry
  exact add_str (fun t' tk => ⟨.str (i ++ j), H, I.tok _, ⟨_, rfl⟩, q⟩) hz
/-! ### scalar builtins, by CallR -/
theorem vals1 {x : V} {us : List Value} (r : Vals [x] us) : ∃ u, us = [u] ∧ RelV x u := by
  cases r with
  | cons r1 r2 => cases r2; exact ⟨_, rfl, r1⟩
theorem vals2 {x y : V} {us : List Value} (r : Vals [x, y] us) : ∃ u w', us = [u, w'] ∧ RelV x u ∧ RelV y w' := by
  cases r with
  | cons r1 r2 =>
    cases r2 with
    | cons r3 r4 => cases r4; exact ⟨_, _, rfl, r1, r3⟩
theorem call_abs : CallR X (.builtin "abs") (fun xs H Q => ∃ i, xs = [.int i] ∧ Q (.int (if i < 0 then -i else i)) H) := by
  intro pins s σ H xs us Q I r h
  obtain ⟨i, rfl, q⟩ := h
  obtain ⟨u, rfl, t, rfl⟩ := vals1 r
  exact call_abs_int fun u tk => ⟨.int (if i < 0 then -i else i), H, I.tok _, ⟨_, rfl⟩, q⟩
theorem call_max2 (hc : X.calm = true) : CallR X (.builtin "max") (fun xs H Q => ∃ i j, xs = [.int i, .int j] ∧ Q (.int (if j > i then j else i)) H) := by
  intro pins s σ H xs us Q I r h
  obtain ⟨i, j, rfl, q⟩ := h
  obtain ⟨u, w', rfl, ⟨t, rfl⟩, ⟨t', rfl⟩⟩ := vals2 r
  refine max_two_ints (I.ok.hd hc) fun h' tk k => ⟨_, H, I.kept k, ?_, q⟩
  by_cases hj : j > i
  · rw [if_pos hj, if_pos hj]; exact ⟨_, rfl⟩
  · rw [if_neg hj, if_neg hj]; exact ⟨_, rfl⟩
theorem call_min2 (hc : X.calm = true) : CallR X (.builtin "min") (fun xs H Q => ∃ i j, xs = [.int i, .int j] ∧ Q (.int (if j < i then j else i)) H) := by
  intro pins s σ H xs us Q I r h
  obtain ⟨i, j, rfl, q⟩ := h
  obtain ⟨u, w', rfl, ⟨t, rfl⟩, ⟨t', rfl⟩⟩ := vals2 r
  refine min_two_ints (I.ok.hd hc) fun h' tk k => ⟨_, H, I.kept k, ?_, q⟩
  by_cases hj : j < i
  · rw [if_pos hj, if_pos hj]; exact ⟨_, rfl⟩
  · rw [if_neg hj, if_neg hj]; exact ⟨_, rfl⟩
theorem call_int1 : CallR X (.type "int") (fun xs H Q => (∃ i, xs = [.int i] ∧ Q (.int i) H) ∨ ∃ k, xs = [.bl k] ∧ Q (.int (if k then 1 else 0)) H) := by
  intro pins s σ H xs us Q I r h
  rcases h with ⟨i, rfl, q⟩ | ⟨k, rfl, q⟩
  · obtain ⟨u, rfl, t, rfl⟩ := vals1 r
    exact call_int_int ⟨.int i, H, I, ⟨_, rfl⟩, q⟩
  · obtain ⟨u, rfl, r1⟩ := vals1 r
    cases r1
    exact call_int_bool ⟨.int (if k then 1 else 0), H, I.tok _, ⟨_, rfl⟩, q⟩
end
end L2

namespace L2
open PySem PySem.Spec PyProof.Rows

/-! ### an instance, its attributes a map -/
structure ObjM (h : Heap) (x dx C : Addr) (mA : Str → Option Value) : Prop where
  obj : h.get? x = some (PySem.W.instObj C dx)
  ns : h.Ns1 dx mA
  ne : dx ≠ x

theorem lookIn_ns {h : Heap} {dx : Addr} {mA : Str → Option Value} (n : h.Ns1 dx mA) : ∃ od, h.get? dx = some od ∧ ∀ name, PySem.W.lookIn name od = some (mA name) := by
  obtain ⟨o, es, ep, ho, hd, hk, _, hm⟩ := n
  refine ⟨o, ho, fun name => ?_⟩
  have e := hm name
  unfold nsFind findBy at e
  rw [← Array.find?_toList] at e
  unfold PySem.W.lookIn
  rw [hd]
  dsimp only
  split
  · rename_i y q
    rw [q] at e
    exact congrArg some e
  · rename_i q
    rw [q] at e
    have a : es.toList.any (·.refKey) = false := by
      rw [List.any_eq_false]
      intro y hy
      obtain ⟨z, t, hkey⟩ := hk y (Array.mem_toList_iff.mp hy)
      simp [DictEntry.refKey, hkey]
    have a' : ¬ es.toList.any (·.refKey) = true := by rw [a]; exact Bool.false_ne_true
    rw [if_neg a']
    exact congrArg some e

theorem ObjM.look {h : Heap} {x dx C : Addr} {mA : Str → Option Value} (I : ObjM h x dx C mA) : ∃ od, PySem.W.InstAt h x (PySem.W.instObj C dx) C (some od) ∧ ∀ name, PySem.W.lookIn name od = some (mA name) :=
  let ⟨od, ho, hl⟩ := lookIn_ns I.ns
  ⟨od, ⟨I.obj, rfl, rfl, ho⟩, hl⟩

section
variable {prog : Program} {w : World} {A : Around} {E : Value → Shared → Prop} {s : Shared} {K : PySem.W.Frag} {x dx C f : Addr} {mA : Str → Option Value} {name : Str} {v : Value}

theorem set_map {ns : List Str} {Q : Unit → Shared → Prop} (X : K.In s.heap) (I : ObjM s.heap x dx C mA)
    (hs : PySem.W.findIn K (.ref C) "__setattr__" = some (some (.builtin "object.__setattr__"))) (hp : PySem.W.plainOver K C = true) (ht : PySem.W.takerIn K C name = some none) (hh : PySem.W.hasDictIn K C = true)
    (hw : PySem.Within mA ns) (hsz : ns.length ≤ sizeLine)
    (h : ∀ h', ObjM h' x dx C (fun y => if y = name then some v else mA y) → Heap.SameBut dx s.heap h' → Q () { s with heap := h', toks := s.toks + 2 }) :
    wpAny (model prog w) A (setAttr (.ref x) name v) Q E s := by
  obtain ⟨od, J, hl⟩ := I.look
  refine PySem.W.set_plain X J hs (PySem.W.osa_open (s := { s with toks := s.toks + 1 }) (r := none) X J hp ht fun b => ?_)
  obtain ⟨cd, hc, hd'⟩ := PySem.W.any_some hh
  have hx : s.heap.get? x = some ⟨.ref C, some dx, .plain, #[]⟩ := I.obj
  refine wpAny_bind (wpAny_pure (wpAny_bind (wpAny_bind (wpAny_loadPart hx (wpAny_bind (PySem.W.Looks.here (s := { s with toks := s.toks + 1 }) (PySem.W.looks_clsIn X hc) ?_))))))
  rw [hd']
  refine wpAny_pure (a := some dx) (wpAny_bind (wpAny_pure (wpAny_bind ?_)))
  refine wpAny_nsSet1 (s := { s with toks := s.toks + 1 }) I.ns fun h' hn2 hs2 => ?_
  obtain ⟨oD, esD, epD, hoD, hdD, hcD⟩ := hn2.count (PySem.Within.cons name v hw)
  refine wpAny_bind (wpAny_lookBehind hoD (by rw [hdD]; exact pastItsLine_dict (Nat.le_trans hcD (by rw [List.length_cons]; omega))) ?_)
  exact wpAny_pure (h _ ⟨(hs2.2 _ (Ne.symm I.ne)).trans I.obj, hn2, I.ne⟩ hs2)

/-- C(..): the dict at the heap's end, the instance behind it; then its __init__ -/
theorem make_map {R : Result → Shared → Prop} {vs : List Value} {kw : List (Str × Value)} (X : K.In s.heap) (hm : PySem.W.makesIn K C = true)
    (hi : PySem.W.findIn K (.ref C) "__init__" = some (some (.ref f))) (hf : PySem.W.typeIn K (.ref f) = some (.type "function"))
    (h : codeAny (model prog w) (A.under (.builtin "type.__call__" ⟨.ref C :: vs, kw⟩)) (.call (.ref f) ⟨.ref (s.heap.objs.size + 1) :: vs, kw⟩) (PySem.W.InitBack (s.heap.objs.size + 1) R)
      { s with heap := (s.heap.push PySem.W.emptyDict).push (PySem.W.instObj C s.heap.objs.size) }) :
    codeAny (model prog w) A (.call (.ref C) ⟨vs, kw⟩) R s := by
  obtain ⟨hh, g, d, t, os⟩ := s
  exact PySem.W.make_core (PySem.W.makes_of X hm) (PySem.W.looks_findIn X hi) (fun self => PySem.W.bind_fn X self hf) (.inl rfl) h
end

/-! ### the attributes as a list of pairs -/
def putF (f : Str) (v : V) : List (Str × V) → List (Str × V)
  | [] => [(f, v)]
  | (g, x) :: r => if g = f then (g, v) :: r else (g, x) :: putF f v r
theorem lookup_putF (f g : Str) (v : V) : ∀ fs : List (Str × V), (putF f v fs).lookup g = if g = f then some v else fs.lookup g
  | [] => by
    show List.lookup g [(f, v)] = _
    by_cases h : g = f
    · have hb : (g == f) = true := beq_iff_eq.mpr h
      simp only [List.lookup, hb, if_pos h]
    · have hb : (g == f) = false := beq_eq_false_iff_ne.mpr h
      simp only [List.lookup, hb, if_neg h]
  | (k, x) :: r => by
    have ih := lookup_putF f g v r
    rw [show putF f v ((k, x) :: r) = (if k = f then (k, v) :: r else (k, x) :: putF f v r) from rfl]
    by_cases hk : k = f
    · rw [if_pos hk]
      by_cases h : g = k
      · have hb : (g == k) = true := beq_iff_eq.mpr h
        simp only [List.lookup, hb, if_pos (h.trans hk)]
      · have hb : (g == k) = false := beq_eq_false_iff_ne.mpr h
        simp only [List.lookup, hb, if_neg (fun e : g = f => h (e.trans hk.symm))]
    · rw [if_neg hk]
      by_cases h : g = k
      · have hb : (g == k) = true := beq_iff_eq.mpr h
        simp only [List.lookup, hb, if_neg (fun e : g = f => hk (h.symm.trans e))]
      · have hb : (g == k) = false := beq_eq_false_iff_ne.mpr h
        simp only [List.lookup, hb]
        exact ih
theorem keys_putF (f : Str) (v : V) : ∀ fs : List (Str × V), f ∈ (putF f v fs).map (·.1) ∧ ∀ g, g ∈ fs.map (·.1) → g ∈ (putF f v fs).map (·.1)
  | [] => ⟨by simp [putF], fun g h => by simp at h⟩
  | (k, x) :: r => by
    obtain ⟨i1, i2⟩ := keys_putF f v r
    rw [show putF f v ((k, x) :: r) = (if k = f then (k, v) :: r else (k, x) :: putF f v r) from rfl]
    by_cases hk : k = f
    · rw [if_pos hk]
      subst hk
      exact ⟨by simp, fun g h => by simpa using h⟩
    · rw [if_neg hk]
      refine ⟨?_, fun g h => ?_⟩
      · rw [List.map_cons]
        exact List.mem_cons_of_mem _ i1
      · rw [List.map_cons] at h ⊢
        rcases List.mem_cons.mp h with e | e
        · exact List.mem_cons.mpr (.inl e)
        · exact List.mem_cons_of_mem _ (i2 g e)
theorem length_putF (f : Str) (v : V) : ∀ fs : List (Str × V), (putF f v fs).length ≤ fs.length + 1
  | [] => by simp [putF]
  | (k, x) :: r => by
    have ih := length_putF f v r
    rw [show putF f v ((k, x) :: r) = (if k = f then (k, v) :: r else (k, x) :: putF f v r) from rfl]
    by_cases hk : k = f
    · rw [if_pos hk, List.length_cons, List.length_cons]; omega
    · rw [if_neg hk, List.length_cons, List.length_cons]; omega

theorem RelO.none_of {o : Option Value} (r : RelO none o) : o = none := by
  cases o with
  | none => rfl
  | some u => exact (show False from r).elim
section
variable {P : Program} {w : World} {H H' : Hp} {h h' : Heap} {a C dx : Addr} {fs fs' : List (Str × V)}
theorem ins_get (hok : HOk P w H h) (e : H a = some (.ins C dx fs)) : ∃ mA, ObjM h a dx C mA ∧ (∀ f, RelO (fs.lookup f) (mA f)) ∧ PySem.Within mA (fs.map (·.1)) ∧ fs.length ≤ 1000 ∧ H dx = some (.own a) := by
  obtain ⟨d, z, ne, ob, mA, n, r, q⟩ := (show ObjOk P w H h a (.ins C dx fs) from hok a _ e)
  exact ⟨mA, ⟨ob, n, ne⟩, r, q, z, d⟩
end

/-! ### what of the text a class must have -/
structure Cls (K : PySem.W.Frag) (C : Addr) : Prop where
  pg : PySem.W.plainGet K C Str.empty = true
  hd : PySem.W.hasDictIn K C = true
  po : PySem.W.plainOver K C = true
  sa : PySem.W.findIn K (.ref C) "__setattr__" = some (some (.builtin "object.__setattr__"))
theorem Cls.get {K : PySem.W.Frag} {C : Addr} (c : Cls K C) (f : Str) : PySem.W.plainGet K C f = true := c.pg
/-- no class of it has the name -/
def NoAttr (K : PySem.W.Frag) (C : Addr) (f : Str) : Prop := PySem.W.findIn K (.ref C) f = some none
theorem NoAttr.taker {K : PySem.W.Frag} {C : Addr} {f : Str} (n : NoAttr K C f) : PySem.W.takerIn K C f = some none := by
  unfold PySem.W.takerIn
  rw [show PySem.W.findIn K (.ref C) f = some none from n]
  rfl
/-- a constant of the class -/
structure Con (K : PySem.W.Frag) (C : Addr) (f : Str) (v : V) (u : Value) : Prop where
  at_ : PySem.W.findIn K (.ref C) f = some (some u)
  rel : RelV v u
  get : PySem.W.specialIn K u "__get__" = some none
  cp : PySem.W.copiedNames.contains f = false
/-- a method: a plain def of the class or of one above it -/
structure Meth (K : PySem.W.Frag) (C : Addr) (m : Str) (f : Addr) : Prop where
  at_ : PySem.W.findIn K (.ref C) m = some (some (.ref f))
  fn : PySem.W.isFn K (.ref f) = true
  kp : PySem.W.keepIn K (.ref f) = true

section
variable {X : Cx} {pins : List (Addr × Obj)} {σ : St} {H : Hp} {s : Shared} {a C dx : Addr} {fs : List (Str × V)} {f : Str} {v : V} {A : Around} {E : Value → Shared → Prop}

theorem setattr_ok {y : V} {u : Value} {Q : Unit → Shared → Prop} (I : Inv X pins σ H s) (e : H a = some (.ins C dx fs)) (c : Cls X.K C) (n : NoAttr X.K C f) (hl : fs.length < 1000) (ry : RelV y u)
    (h : ∀ s', Inv X pins σ (upd H a (.ins C dx (putF f y fs))) s' → Q () s') : wpAny (model X.prog X.w) A (setAttr (.ref a) f u) Q E s := by
  obtain ⟨mA, O, r, wi, _, ho⟩ := ins_get I.hok e
  have hz : (fs.map (·.1)).length ≤ sizeLine := by rw [List.length_map, sizeLine_eq]; omega
  refine set_map I.kIn O c.sa c.po n.taker c.hd wi hz fun h' O' sb => h _ ?_
  have hd : ∃ o, h'.get? dx = some o := let ⟨o, _, _, e', _⟩ := O'.ns; ⟨o, e'⟩
  refine I.write (x := a) (e := dx) (by rw [e]; exact True.intro) (.inr ho) (fun b q hb z => (sb.2 b hb).trans z) hd ?_
  refine ⟨by rw [upd_ne O.ne]; exact ho, ?_, O.ne, O'.obj, _, O'.ns, fun g => ?_, fun g hg => ?_⟩
  · have := length_putF f y fs; omega
  · show RelO ((putF f y fs).lookup g) (if g = f then some u else mA g)
    rw [lookup_putF]
    by_cases q : g = f
    · rw [if_pos q, if_pos q]; exact ry
    · rw [if_neg q, if_neg q]; exact r g
  · by_cases q : g = f
    · rw [q]; exact (keys_putF f y fs).1
    · refine (keys_putF f y fs).2 g (wi g fun z => hg ?_)
      show (if g = f then some u else mA g) = none
      rw [if_neg q]; exact z

/-- a new instance, tracked, without attributes -/
theorem Inv.made (I : Inv X pins σ H s) : Inv X pins σ (upd (upd H s.heap.objs.size (.own (s.heap.objs.size + 1))) (s.heap.objs.size + 1) (.ins C s.heap.objs.size []))
    { s with heap := (s.heap.push PySem.W.emptyDict).push (PySem.W.instObj C s.heap.objs.size) } := by
  have e1 : (s.heap.push PySem.W.emptyDict).get? s.heap.objs.size = some PySem.W.emptyDict := Heap.get?_push_size s.heap rfl
  have e2 : ((s.heap.push PySem.W.emptyDict).push (PySem.W.instObj C s.heap.objs.size)).get? (s.heap.objs.size + 1) = some (PySem.W.instObj C s.heap.objs.size) := by
    have := Heap.get?_push_size (s.heap.push PySem.W.emptyDict) (o := PySem.W.instObj C s.heap.objs.size) rfl
    rwa [Heap.size_push] at this
  have e3 : (s.heap.push PySem.W.emptyDict).Ns s.heap.objs.size (fun _ => none) := ⟨PySem.W.emptyDict, #[], _, e1, rfl, (fun e he => absurd he (by simp)), fun _ => rfl⟩
  have I1 := I.laid (a := s.heap.objs.size) (o := .own (s.heap.objs.size + 1)) (h' := s.heap.push PySem.W.emptyDict) (t' := s.toks) (fun b u q => Heap.get?_push_of_some _ q) (Nat.le_refl _) ⟨_, e1⟩
  refine I1.laid (a := s.heap.objs.size + 1) (o := .ins C s.heap.objs.size []) (t' := s.toks) (fun b u q => Heap.get?_push_of_some _ q) (Nat.le_of_eq (Heap.size_push _ _)) ?_
  have ne : s.heap.objs.size ≠ s.heap.objs.size + 1 := Nat.ne_of_lt (Nat.lt_succ_self _)
  refine ⟨by rw [upd_ne ne, upd_same], Nat.zero_le _, ne, e2, fun _ => none, (Heap.Ns1.of_empty e3).at fun o q => Heap.get?_push_of_some _ q, fun _ => True.intro, fun y hy => absurd rfl hy⟩

end

/-! ### readings and rules -/
/-- e.f = value -/
def sFld (K : PySem.W.Frag) (ta tv : TE) (f : Str) : TS := fun D σ H => tv σ H fun y H1 => ta σ H1 fun x H2 => ∃ a C dx fs, x = .ref a ∧ H2 a = some (.ins C dx fs) ∧ Cls K C ∧ NoAttr K C f ∧ fs.length < 1000 ∧
  D.nx σ (upd H2 a (.ins C dx (putF f y fs)))
section
variable {X : Cx} {o e value : Expr} {f : Str} {pos pos' tpos : Pos} {ta tv : TE}
theorem ps_fld (ha : PE X o ta) (hv : PE X value tv) (hs : swapsWith value (some (.Attribute o f pos')) pos.line X.env = pure false) : PS X (.Assign [.Attribute o f pos'] value pos) (sFld X.K ta tv f) := by
  intro pins s σ H D I h
  refine plainObj_wpAny_Assign_Attribute (thn (hv pins s σ H _ I h) fun u s1 ⟨y, H1, I1, ry, q⟩ => thn (ha pins s1 σ H1 _ I1 q) fun ov s2 ⟨x, H2, I2, rx, a, C, dx, fs, ex, ea, c, n, l, q2⟩ => ?_) hs
  subst ex
  obtain rfl : ov = Value.ref a := rx
  exact setattr_ok I2 ea c n l ry fun s3 I3 => ⟨σ, _, I3, q2⟩
end

/-! ### isinstance -/
section
variable {X : Cx} {pins : List (Addr × Obj)} {σ : St} {H : Hp} {s : Shared} {A : Around} {E : Value → Shared → Prop} {Q : Value → Shared → Prop} {c : Value} {b : Bool}
/-- the type of a value, as the fragment's deciders take it; for an instance its class -/
inductive TyOf (K : PySem.W.Frag) (H : Hp) : V → Value → Prop where
  | non : TyOf K H .non (.type "NoneType")
  | bl (x : Bool) : TyOf K H (.bl x) (.type "bool")
  | int (i : Int) : TyOf K H (.int i) (.type "int")
  | str (x : Str) : TyOf K H (.str x) (.type "str")
  | flt (x : UInt64) : TyOf K H (.flt x) (.type "float")
  | lst {a : Addr} {xs : List V} (e : H a = some (.lst xs)) : TyOf K H (.ref a) (.type "list")
  | frz {a : Addr} {o : Obj} {xs : List V} (e : H a = some (.frz o (.lst xs))) : TyOf K H (.ref a) (.type "list")
  | tup {a : Addr} {xs : List V} (e : H a = some (.tup xs)) : TyOf K H (.ref a) (.type "tuple")
  | dK {a : Addr} {kvs : List (Key × V)} (e : H a = some (.dK kvs)) : TyOf K H (.ref a) (.type "dict")
  | dT {a : Addr} {kvs : List (List Key × V)} (e : H a = some (.dT kvs)) : TyOf K H (.ref a) (.type "dict")
  | ins {a C dx : Addr} {fs : List (Str × V)} (e : H a = some (.ins C dx fs)) (cl : Cls K C) (ha : PySem.W.findIn K (.ref C) "__class__" = some (some (.builtin "object.__class__")))
      (hn : PySem.W.specialIn K (.builtin "object.__class__") "__get__" = some (some (.builtin "getset_descriptor.__get__"))) (htk : PySem.W.takesIn K (.builtin "object.__class__") = some true)
      (hm : PySem.W.mroIn K C (.type "object") = some true) : TyOf K H (.ref a) (.ref C)
end
end L2

namespace L2
open PySem PySem.Spec PyProof.Rows

/-! ### room -/
structure Room (k : Nat) (A : Around) : Prop where
  hd : A.handled = none
  dp : A.depth + 3 * k + 5 < recursionLimit
  un : A.units + 16 * k + 200 < cLine
  gd : A.guards = some []
theorem Room.mono {j k : Nat} {A : Around} (r : Room k A) (h : j ≤ k) : Room j A := ⟨r.hd, by have := r.dp; omega, by have := r.un; omega, r.gd⟩
theorem Room.deeper {k : Nat} {A : Around} (r : Room (k + 1) A) (env : Env) : Room k (A.deeper env) :=
  ⟨r.hd, by have := r.dp; show A.depth + 1 + 3 * k + 5 < _; omega, by have := r.un; show A.units + 3 + 16 * k + 200 < _; omega, r.gd⟩
theorem Room.in1 {k : Nat} {A : Around} (r : Room (k + 1) A) : Room k A.in1 :=
  ⟨r.hd, by have := r.dp; show A.depth + 3 * k + 5 < _; omega, by have := r.un; show A.units + 1 + 16 * k + 200 < _; omega, r.gd⟩
theorem make_depth {A : Around} {C : Addr} {us : List Value} {kw : List (Str × Value)} : (A.under (.builtin "type.__call__" ⟨.ref C :: us, kw⟩)).depth = A.depth + 1 := by
  first | rfl | simp [Around.under, Code.weight, Code.isCreation, Code.isGuard, Code.isCaller, Code.frames, Code.isFrame, guardIds]
theorem make_units {A : Around} {C : Addr} {us : List Value} {kw : List (Str × Value)} : (A.under (.builtin "type.__call__" ⟨.ref C :: us, kw⟩)).units = A.units + 1 := by
  first | rfl | simp [Around.under, Code.cUnits, Code.frames, Code.isFrame]
theorem Room.make {k : Nat} {A : Around} (r : Room (k + 1) A) (C : Addr) (us : List Value) (kw : List (Str × Value)) : Room k (A.under (.builtin "type.__call__" ⟨.ref C :: us, kw⟩)) :=
  ⟨r.hd, by have := r.dp; rw [make_depth]; omega, by have := r.un; rw [make_units]; omega, by first | exact r.gd | (rw [show (A.under (.builtin "type.__call__" ⟨.ref C :: us, kw⟩)).guards = A.guards from by first | rfl | simp [Around.under, Code.isGuard, guardIds]]; exact r.gd)⟩
theorem Room.depth {k : Nat} {A : Around} (r : Room k A) : A.depth < recursionLimit := by have := r.dp; omega
theorem Room.units {k : Nat} {A : Around} (r : Room k A) : A.units + 64 < cLine := by have := r.un; omega
/-! ### argument lists and displays -/
def tNil : TA := fun _ H Q => Q [] H
def tCons (ta : TE) (tr : TA) : TA := fun σ H Q => ta σ H fun x H1 => tr σ H1 fun xs H2 => Q (x :: xs) H2
section
variable {X : Cx} {e : Expr} {es : List Expr} {te : TE} {t : TA} {pos : Pos}
theorem pa_nil : PA X [] tNil := fun _ _ _ _ H Q I h => Calls.spliced_nil ⟨[], H, I, .nil, h⟩
theorem pa_cons (ha : PE X e te) (hr : PA X es t) (hs : starEach (e :: es) X.env = (false, eval e X.env) :: starEach es X.env := by rfl) : PA X (e :: es) (tCons te t) := by
  intro pos pins s σ H Q I h
  rw [hs]
  show wpAny _ _ (spliced ((false, eval e X.env) :: backTo pos (starEach es X.env))) _ _ s
  refine Calls.spliced_cons (thn (ha pins s σ H _ I h) fun u s1 ⟨x, H1, I1, r1, q1⟩ => ?_)
  exact thn (hr pos pins s1 σ H1 _ I1 q1) fun us s2 ⟨xs, H2, I2, r2, q2⟩ => ⟨x :: xs, H2, I2, .cons r1 r2, q2⟩

/-- a tuple, a list of written items -/
def tTup (t : TA) : TE := fun σ H Q => t σ H fun xs H1 => xs.length ≤ sizeLine ∧ ∀ p, H1 p = none → Q (.ref p) (upd H1 p (.tup xs))
def tLst (t : TA) : TE := fun σ H Q => t σ H fun xs H1 => xs.length ≤ sizeLine ∧ ∀ p, H1 p = none → Q (.ref p) (upd H1 p (.lst xs))
theorem pe_tup {x1} (h : PA X es t) : PE X (.Tuple es x1 pos) (tTup t) := by
  intro pins s σ H Q I hq
  refine wpAny_Tuple_spliced (thn (h pos pins s σ H _ I hq) fun us s1 ⟨xs, H1, I1, r, z, q⟩ => ⟨by rw [← r.length]; exact z, ?_⟩)
  have hf : H1 s1.heap.objs.size = none := I1.hok.fresh (Nat.le_refl _)
  refine ⟨.ref s1.heap.objs.size, upd H1 s1.heap.objs.size (.tup xs), I1.laid (t' := s1.toks) (fun b u e => Heap.get?_push_of_some _ e) (Nat.le_refl _) ?_, rfl, q _ hf⟩
  exact ⟨z, us, r, ⟨_, Heap.get?_push_size _ rfl, rfl, _, rfl⟩⟩
theorem pe_lst (h : PA X es t) : PE X (.List es pos) (tLst t) := by
  intro pins s σ H Q I hq
  refine wpAny_List_spliced (thn (h pos pins s σ H _ I hq) fun us s1 ⟨xs, H1, I1, r, z, q⟩ => ⟨by rw [← r.length]; exact z, ?_⟩)
  have hf : H1 s1.heap.objs.size = none := I1.hok.fresh (Nat.le_refl _)
  refine ⟨.ref s1.heap.objs.size, upd H1 s1.heap.objs.size (.lst xs), I1.laid (t' := s1.toks) (fun b u e => Heap.get?_push_of_some _ e) (Nat.le_refl _) ?_, rfl, q _ hf⟩
  exact ⟨z, us, 0, r, Heap.get?_push_size _ rfl⟩
end

/-! ### what a def promises -/
/-- a def's promise: the bound arguments in the parameters' order, the heap, the wanted end, the wanted exception -/
abbrev Sp := List V → Hp → VK → XK → Prop
/-- how an exception lies behind a call (file 08 gives it): the callers' frames, abstract heap and state ahead of the call, the wish, the exception, the state -/
abbrev CXT := List Env → Hp → Shared → XK → Value → Shared → Prop

/-- the state at a call -/
structure Env0 (P : Program) (w : World) (K : PySem.W.Frag) (mg : Str → Option Value) (base : Heap) (A : Around) (outer : List Env) (s : Shared) (H : Hp) : Prop where
  frames : A.frames = some outer
  mod : Mod K mg base
  bs : ∀ b o, base.get? b = some o → s.heap.get? b = some o ∧ H b = none
  bsz : base.objs.size ≤ s.heap.objs.size
  funs : s.heap.FunFrames base outer
  frf : ∀ b ∈ frs outer, H b = none
  hok : HOk P w H s.heap
  bare : AllBare s.gens
/-- a call's end -/
def CE (outer : List Env) (P : Program) (w : World) (H : Hp) (s : Shared) (Q : VK) (u : Value) (s' : Shared) : Prop :=
  ∃ v H', s'.os = s.os ∧ AllBare s'.gens ∧ Un (frs outer) [] H H' s.heap s'.heap ∧ HOk P w H' s'.heap ∧ RelV v u ∧ Q v H'
def CR (CX : CXT) (outer : List Env) (P : Program) (w : World) (H : Hp) (s : Shared) (Q : VK) (E : XK) (r : Result) (s' : Shared) : Prop :=
  match r with
  | .ok (.ret u) => CE outer P w H s Q u s'
  | .ok _ => False
  | .error e => CX outer H s E e s'
structure FnOk (P : Program) (w : World) (K : PySem.W.Frag) (mg : Str → Option Value) (base : Heap) (CX : CXT) (k : Nat) (f : Addr) (fd : FuncData) (ps : List Str) (sp : Sp) : Prop where
  len : ∀ vs H Q E, sp vs H Q E → vs.length = ps.length
  run : ∀ (A : Around) (outer : List Env) (s : Shared) (H : Hp) (args : Args) (us : List Value) (vs : List V) (Q : VK) (E : XK), Room k A → Env0 P w K mg base A outer s H → BindsTo s fd args (ps.zip us) → Vals vs us → sp vs H Q E →
    codeAny (model P w) A (.call (.ref f) args) (CR CX outer P w H s Q E) s
theorem FnOk.mono {P : Program} {w : World} {K : PySem.W.Frag} {mg : Str → Option Value} {base : Heap} {CX : CXT} {j k : Nat} {f : Addr} {fd : FuncData} {ps : List Str} {sp : Sp} (F : FnOk P w K mg base CX j f fd ps sp) (h : j ≤ k) :
    FnOk P w K mg base CX k f fd ps sp := ⟨F.len, fun A outer s H args us vs Q E hr => F.run A outer s H args us vs Q E (hr.mono h)⟩
/-- a weaker promise -/
theorem FnOk.imp {P : Program} {w : World} {K : PySem.W.Frag} {mg : Str → Option Value} {base : Heap} {CX : CXT} {k : Nat} {f : Addr} {fd : FuncData} {ps : List Str} {sp sp' : Sp} (F : FnOk P w K mg base CX k f fd ps sp)
    (h : ∀ vs H Q E, sp' vs H Q E → sp vs H Q E) : FnOk P w K mg base CX k f fd ps sp' :=
  ⟨fun vs H Q E q => F.len vs H Q E (h _ _ _ _ q), fun A outer s H args us vs Q E hr he hb hv hs => F.run A outer s H args us vs Q E hr he hb hv (h _ _ _ _ hs)⟩

theorem Env0.make {P : Program} {w : World} {K : PySem.W.Frag} {mg : Str → Option Value} {base : Heap} {A : Around} {outer : List Env} {s : Shared} {H : Hp} (e : Env0 P w K mg base A outer s H) (C : Addr) (us : List Value) (kw : List (Str × Value)) :
    Env0 P w K mg base (A.under (.builtin "type.__call__" ⟨.ref C :: us, kw⟩)) outer s H := ⟨by first | exact e.frames | (simpa [Around.under, Code.envs, Code.isFrame, pushEnvs] using e.frames), e.mod, e.bs, e.bsz, e.funs, e.frf, e.hok, e.bare⟩
theorem Env0.in1 {P : Program} {w : World} {K : PySem.W.Frag} {mg : Str → Option Value} {base : Heap} {A : Around} {outer : List Env} {s : Shared} {H : Hp} (e : Env0 P w K mg base A outer s H) :
    Env0 P w K mg base A.in1 outer s H := ⟨e.frames, e.mod, e.bs, e.bsz, e.funs, e.frf, e.hok, e.bare⟩

section
variable {X : Cx} {pins : List (Addr × Obj)} {σ : St} {H : Hp} {s s' : Shared}
/-- from a body: what a callee wants -/
theorem Inv.env0 (I : Inv X pins σ H s) : Env0 X.prog X.w X.K X.mg X.base X.A X.stack s H :=
  ⟨I.ok.frames, I.ok.mod, I.bs, Nat.le_trans I.ok.bsz I.sz, I.stack, I.stkFree, I.hok, I.bare⟩
/-- behind a call -/
theorem Inv.after {Q : VK} {u : Value} (I : Inv X pins σ H s) (h : CE X.stack X.prog X.w H s Q u s') : EP X pins σ Q u s' := by
  obtain ⟨v, H', os, bare, un, hok, r, q⟩ := h
  obtain ⟨hh, g, d, t, os'⟩ := s'
  obtain rfl : os' = s.os := os
  exact ⟨v, H', I.call (h' := hh) (g' := g) (d' := d) (t' := t) (ch := []) un hok bare (fun b z => absurd z (by simp)), r, q⟩
end

/-! ### calls -/
/-- f(..): the written arguments, then the defaults dvs; E: what is wanted of an exception -/
def tCall (sp : Sp) (dvs : List V) (E : XK) (t : TA) : TE := fun σ H Q => t σ H fun vs H1 => sp (vs ++ dvs) H1 Q E
/-- C(..): a new instance and its dict, then __init__ -/
def tMake (C : Addr) (sp : Sp) (dvs : List V) (E : XK) (t : TA) : TE := fun σ H Q => t σ H fun vs H1 => ∀ x dx, H1 x = none → H1 dx = none → dx ≠ x →
  sp (.ref x :: (vs ++ dvs)) (upd (upd H1 dx (.own x)) x (.ins C dx [])) (fun v H2 => v = .non ∧ Q (.ref x) H2) E

/-- how the parameters are bound: us the positional arguments, kw the keywords' values by name, ds the defaults that fill up -/
def Binds (K : PySem.W.Frag) (fd : FuncData) (ps : List Str) (ds : List Value) : Prop :=
  ∀ (s : Shared) (us : List Value), K.In s.heap → (us ++ ds).length = ps.length → BindsTo s fd ⟨us, []⟩ (ps.zip (us ++ ds))
/-- every parameter is given -/
theorem Binds.all {K : PySem.W.Frag} {fd : FuncData} {ps : List Str} (h : ∀ us : List Value, us.length = ps.length → bindArgs fd ⟨us, []⟩ = pure (ps.zip us)) : Binds K fd ps [] := fun s us _ hl => by
  rw [List.append_nil] at hl ⊢
  exact .of_eq (h us hl)

/-- an exception of a callee reaches what this body wants of exceptions -/
def Passes (CX : CXT) (X : Cx) (E : XK) : Prop := ∀ (pins : List (Addr × Obj)) (σ : St) (H : Hp) (s : Shared) (e : Value) (s' : Shared), Inv X pins σ H s → CX X.stack H s E e s' → X.xe e s'

section
variable {X : Cx} {CX : CXT} {k : Nat} {f C : Addr} {fd : FuncData} {ps : List Str} {sp : Sp} {dvs : List V} {ds : List Value} {E : XK} {x m : Str} {p pos apos : Pos} {e o : Expr} {es : List Expr} {ta : TE} {t : TA}

/-- the callee runs -/
theorem run_fn {pins : List (Addr × Obj)} {σ : St} {H : Hp} {s : Shared} {Q : VK} {us : List Value} {vs : List V} (F : FnOk X.prog X.w X.K X.mg X.base CX k f fd ps sp) (hr : Room k X.A) (hb : Binds X.K fd ps ds) (hd : Vals dvs ds) (hx : Passes CX X E)
    (I : Inv X pins σ H s) (r : Vals vs us) (h : sp (vs ++ dvs) H Q E) : wpAny (model X.prog X.w) X.A (call (.ref f) us) (EP X pins σ Q) X.xe s := by
  have r2 : Vals (vs ++ dvs) (us ++ ds) := r.append hd
  have hl : (us ++ ds).length = ps.length := by rw [← r2.length]; exact F.len _ _ _ _ h
  refine wpAny_call (codeAny_mono (F.run X.A X.stack s H ⟨us, []⟩ (us ++ ds) (vs ++ dvs) Q E hr I.env0 (hb s us I.kIn hl) r2 h) fun r s' hq => ?_)
  cases r with
  | error e => exact hx pins σ H s e s' I hq
  | ok fl =>
    cases fl with
    | ret u => exact I.after hq
    | next => exact False.elim hq
    | brk => exact False.elim hq
    | cont => exact False.elim hq

theorem pe_call (F : FnOk X.prog X.w X.K X.mg X.base CX k f fd ps sp) (hr : Room k X.A) (hg : Gl X x) (hm : X.mg x = some (.ref f)) (hk : PySem.W.keepIn X.K (.ref f) = true) (hb : Binds X.K fd ps ds) (hd : Vals dvs ds) (hx : Passes CX X E)
    (ha : PA X (e :: es) t) (hdb : (x == ("__debug__" : Str)) = false := by decide) (he : starEach (e :: es) X.env = (false, eval e X.env) :: starEach es X.env := by rfl) (hpl : (backTo pos (starEach es X.env)).any (·.1) = false := by rfl) :
    PE X (.Call (.Name x p) (e :: es) [] pos) (tCall sp dvs E t) := by
  intro pins s σ H Q I h
  refine wpAny_Call_Name_kw (ld_glob I hg hm ?_ hdb)
  refine PySem.W.callWith_K (h₀ := X.base) I.ok.mod.kin hk (thn (ha pos pins s σ H _ I h) fun us s1 ⟨vs, H1, I1, r, q⟩ => ⟨I1.kIn, ?_⟩) he hpl
  exact run_fn F hr hb hd hx I1 r q
/-- what a class must have to be made -/
structure Mk (K : PySem.W.Frag) (C f : Addr) : Prop where
  makes : PySem.W.makesIn K C = true
  init : PySem.W.findIn K (.ref C) "__init__" = some (some (.ref f))
  fn : PySem.W.isFn K (.ref f) = true
  kp : PySem.W.keepIn K (.ref C) = true

theorem run_make {pins : List (Addr × Obj)} {σ : St} {H : Hp} {s : Shared} {Q : VK} {us : List Value} {vs : List V} (M : Mk X.K C f) (F : FnOk X.prog X.w X.K X.mg X.base CX k f fd ps sp) (hr : Room (k + 1) X.A) (hb : Binds X.K fd ps ds) (hd : Vals dvs ds)
    (hx : Passes CX X E) (I : Inv X pins σ H s) (r : Vals vs us)
    (h : ∀ x dx, H x = none → H dx = none → dx ≠ x → sp (.ref x :: (vs ++ dvs)) (upd (upd H dx (.own x)) x (.ins C dx [])) (fun v H2 => v = .non ∧ Q (.ref x) H2) E) :
    wpAny (model X.prog X.w) X.A (call (.ref C) us) (EP X pins σ Q) X.xe s := by
  have hq := h (s.heap.objs.size + 1) s.heap.objs.size (I.hok.fresh (Nat.le_succ _)) (I.hok.fresh (Nat.le_refl _)) (Nat.ne_of_lt (Nat.lt_succ_self _))
  have I2 := Inv.made (C := C) I
  have r2 : Vals (V.ref (s.heap.objs.size + 1) :: (vs ++ dvs)) (Value.ref (s.heap.objs.size + 1) :: (us ++ ds)) := .cons rfl (r.append hd)
  have hl : (Value.ref (s.heap.objs.size + 1) :: us ++ ds).length = ps.length := by
    have e := r2.length
    rw [F.len _ _ _ _ hq] at e
    exact e.symm
  refine wpAny_call (make_map (f := f) I.kIn M.makes M.init (beq_iff_eq.mp M.fn) (codeAny_mono (F.run _ X.stack _ _ ⟨Value.ref (s.heap.objs.size + 1) :: us, []⟩ (Value.ref (s.heap.objs.size + 1) :: (us ++ ds)) _ _ E (hr.make C us [])
    (I2.env0.make C us []) (hb _ (Value.ref (s.heap.objs.size + 1) :: us) I2.kIn hl) r2 hq) fun r s' hq' => ?_))
  cases r with
  | error e => exact hx pins σ _ _ e s' I2 hq'
  | ok fl =>
    cases fl with
    | ret u =>
      obtain ⟨v, H', I3, rv, ev, q3⟩ := I2.after hq'
      subst ev
      exact ⟨rv, ⟨V.ref (s.heap.objs.size + 1), H', I3, rfl, q3⟩⟩
    | next => exact False.elim hq'
    | brk => exact False.elim hq'
    | cont => exact False.elim hq'
theorem pe_make0 (M : Mk X.K C f) (F : FnOk X.prog X.w X.K X.mg X.base CX k f fd ps sp) (hr : Room (k + 1) X.A) (hg : Gl X x) (hm : X.mg x = some (.ref C)) (hb : Binds X.K fd ps ds) (hd : Vals dvs ds) (hx : Passes CX X E)
    (hdb : (x == ("__debug__" : Str)) = false := by decide) : PE X (.Call (.Name x p) [] [] pos) (tMake C sp dvs E tNil) := by
  intro pins s σ H Q I h
  refine wpAny_Call_Name_kw (ld_glob I hg hm ?_ hdb)
  exact PySem.W.callWith_K0 I.kIn M.kp (run_make (us := []) M F hr hb hd hx I .nil h)
end

/-! ### keywords -/
/-- the values of the keywords, from the left -/
def PK (X : Cx) (kws : List Keyword) (t : TA) : Prop :=
  ∀ (pos : Pos) (pins : List (Addr × Obj)) (s : Shared) (σ : St) (H : Hp) (Q : List V → Hp → Prop), Inv X pins σ H s → t σ H Q → wpAny (model X.prog X.w) X.A (evalAll ((backToKw pos (keywordEach kws X.env)).map (·.2))) (AP X pins σ Q) X.xe s
section
variable {X : Cx} {CX : CXT} {k : Nat} {f C : Addr} {fd : FuncData} {ps ks : List Str} {sp : Sp} {E : XK} {x m : Str} {p pos apos kpos : Pos} {e o : Expr} {es : List Expr} {kws : List Keyword} {te ta : TE} {t tk : TA} {nm : Option Str}
theorem pk_nil : PK X [] tNil := fun _ _ _ _ H Q I h => wpAny_evalAll_nil ⟨[], H, I, .nil, h⟩
theorem pk_cons (ha : PE X e te) (hr : PK X kws t) : PK X (⟨nm, e, kpos⟩ :: kws) (tCons te t) := by
  intro pos pins s σ H Q I h
  show wpAny _ _ (evalAll ((do let v ← eval e X.env; standAt pos; pure v) :: (backToKw pos (keywordEach kws X.env)).map (·.2))) _ _ s
  refine wpAny_evalAll_cons (wpAny_bind (thn (ha pins s σ H _ I h) fun u s1 ⟨x, H1, I1, r1, q1⟩ => wpAny_bind (wpAny_standAt (wpAny_pure ?_))))
  exact thn (hr pos pins s1 σ H1 _ I1 q1) fun us s2 ⟨xs, H2, I2, r2, q2⟩ => ⟨x :: xs, H2, I2, .cons r1 r2, q2⟩

/-- how a call with keywords binds: g puts the positional values us and the keywords' values ws (names ks) in the parameters' order, defaults among them -/
structure KBinds (K : PySem.W.Frag) (fd : FuncData) (ps ks : List Str) (g : List Value → List Value → List Value) (gV : List V → List V → List V) : Prop where
  to : ∀ (s : Shared) (us ws : List Value), K.In s.heap → (g us ws).length = ps.length → BindsTo s fd ⟨us, ks.zip ws⟩ (ps.zip (g us ws))
  rel : ∀ {vs : List V} {us : List Value} {zs : List V} {ws : List Value}, Vals vs us → Vals zs ws → Vals (gV vs zs) (g us ws)
def tCallK (sp : Sp) (gV : List V → List V → List V) (E : XK) (t tk : TA) : TE := fun σ H Q => t σ H fun vs H1 => tk σ H1 fun zs H2 => sp (gV vs zs) H2 Q E
variable {g : List Value → List Value → List Value} {gV : List V → List V → List V}
theorem run_fnk {pins : List (Addr × Obj)} {σ : St} {H : Hp} {s : Shared} {Q : VK} {us ws : List Value} {vs zs : List V} (F : FnOk X.prog X.w X.K X.mg X.base CX k f fd ps sp) (hr : Room k X.A) (hb : KBinds X.K fd ps ks g gV) (hx : Passes CX X E)
    (I : Inv X pins σ H s) (r : Vals vs us) (rz : Vals zs ws) (h : sp (gV vs zs) H Q E) : wpAny (model X.prog X.w) X.A (call (.ref f) us (ks.zip ws)) (EP X pins σ Q) X.xe s := by
  have r2 := hb.rel r rz
  have hl : (g us ws).length = ps.length := by rw [← r2.length]; exact F.len _ _ _ _ h
  refine wpAny_call (codeAny_mono (F.run X.A X.stack s H ⟨us, ks.zip ws⟩ (g us ws) (gV vs zs) Q E hr I.env0 (hb.to s us ws I.kIn hl) r2 h) fun r s' hq => ?_)
  cases r with
  | error e => exact hx pins σ H s e s' I hq
  | ok fl =>
    cases fl with
    | ret u => exact I.after hq
    | next => exact False.elim hq
    | brk => exact False.elim hq
    | cont => exact False.elim hq
/-- f(e, .., k = v, ..) -/
theorem pe_callK (F : FnOk X.prog X.w X.K X.mg X.base CX k f fd ps sp) (hr : Room k X.A) (hg : Gl X x) (hm : X.mg x = some (.ref f)) (hk : PySem.W.keepIn X.K (.ref f) = true) (hb : KBinds X.K fd ps ks g gV) (hx : Passes CX X E)
    (ha : PA X (e :: es) t) (hkw : PK X kws tk) (hall : (backToKw pos (keywordEach kws X.env)).all (·.1.isSome) = true := by rfl) (hks : (backToKw pos (keywordEach kws X.env)).filterMap (·.1) = ks := by rfl)
    (hdb : (x == ("__debug__" : Str)) = false := by decide) (he : starEach (e :: es) X.env = (false, eval e X.env) :: starEach es X.env := by rfl)
    (hpl : ((backTo pos (starEach (e :: es) X.env)).any (·.1) || (backToKw pos (keywordEach kws X.env)).any (·.1.isNone)) = false := by rfl) :
    PE X (.Call (.Name x p) (e :: es) kws pos) (tCallK sp gV E t tk) := by
  intro pins s σ H Q I h
  refine wpAny_Call_Name_kw (ld_glob I hg hm ?_ hdb)
  refine PySem.W.callWith_KW (h₀ := X.base) I.ok.mod.kin hk hall (thn (ha pos pins s σ H _ I h) fun us s1 ⟨vs, H1, I1, r, q⟩ => ?_) hpl he
  refine thn (hkw pos pins s1 σ H1 _ I1 q) fun ws s2 ⟨zs, H2, I2, rz, q2⟩ => ⟨I2.kIn, ?_⟩
  rw [hks]
  exact run_fnk F hr hb hx I2 r rz q2
end

/-! ### a def's body keeps its promise -/
/-- names: the parameters first -/
structure FnScope (N P : List Str) (sc : Scope) : Prop where
  kind : sc.kind = .function
  co : sc.isCoroutine = false
  gen : sc.isGenerator = false
  nd : N.Nodup
  pre : N.take P.length = P
  par : ∀ x ∈ P, sc.names.lookup x = some .local ∨ sc.names.lookup x = some .cell
  nofree : ∀ y ∈ sc.names, y.2 ≠ .free

theorem bindL_out {kindOf : Str → Option NameKind} {x : Str} : ∀ {binds : List (Str × Value)} {m : Str → Option Value}, (∀ v, (x, v) ∉ binds) → bindL kindOf binds m x = m x
  | [], _, _ => rfl
  | (n, v) :: r, m, h => by
    unfold bindL
    rw [bindL_out fun w hw => h w (List.mem_cons_of_mem _ hw)]
    split
    · have : x ≠ n := by rintro rfl; exact h v List.mem_cons_self
      simp [this]
    · rfl
theorem bindC_out {kindOf : Str → Option NameKind} {x : Str} : ∀ {binds : List (Str × Value)} {m : Str → Option Value}, (∀ v, (x, v) ∉ binds) → bindC kindOf binds m x = m x
  | [], _, _ => rfl
  | (n, v) :: r, m, h => by
    unfold bindC
    rw [bindC_out fun w hw => h w (List.mem_cons_of_mem _ hw)]
    split
    · rfl
    · have : x ≠ n := by rintro rfl; exact h v List.mem_cons_self
      simp [this]
theorem bindL_get {kindOf : Str → Option NameKind} {x : Str} {v : Value} : ∀ {P : List Str} {vs : List Value} {i : Nat} {m : Str → Option Value}, P.Nodup → P[i]? = some x → vs[i]? = some v → kindOf x = some .local →
    bindL kindOf (P.zip vs) m x = some v
  | [], _, _, _, _, h, _, _ => by simp at h
  | _ :: _, [], _, _, _, _, h, _ => by simp at h
  | p :: P, w :: vs, 0, m, nd, h1, h2, hk => by
    simp at h1 h2; subst h1; subst h2
    show bindL kindOf ((p, w) :: P.zip vs) m p = _
    unfold bindL
    rw [bindL_out fun v hv => (List.nodup_cons.mp nd).1 (List.of_mem_zip hv).1, if_pos hk]
    simp
  | p :: P, w :: vs, i + 1, m, nd, h1, h2, hk => by
    show bindL kindOf ((p, w) :: P.zip vs) m x = _
    unfold bindL
    exact bindL_get (i := i) (List.nodup_cons.mp nd).2 (by simpa using h1) (by simpa using h2) hk
theorem bindC_get {kindOf : Str → Option NameKind} {x : Str} {v : Value} : ∀ {P : List Str} {vs : List Value} {i : Nat} {m : Str → Option Value}, P.Nodup → P[i]? = some x → vs[i]? = some v → kindOf x ≠ some .local →
    bindC kindOf (P.zip vs) m x = some v
  | [], _, _, _, _, h, _, _ => by simp at h
  | _ :: _, [], _, _, _, _, h, _ => by simp at h
  | p :: P, w :: vs, 0, m, nd, h1, h2, hk => by
    simp at h1 h2; subst h1; subst h2
    show bindC kindOf ((p, w) :: P.zip vs) m p = _
    unfold bindC
    rw [bindC_out fun v hv => (List.nodup_cons.mp nd).1 (List.of_mem_zip hv).1, if_neg hk]
    simp
  | p :: P, w :: vs, i + 1, m, nd, h1, h2, hk => by
    show bindC kindOf ((p, w) :: P.zip vs) m x = _
    unfold bindC
    exact bindC_get (i := i) (List.nodup_cons.mp nd).2 (by simpa using h1) (by simpa using h2) hk

/-- the names' values at the entry -/
def start (N : List Str) (vs : List V) : St := vs.map some ++ List.replicate (N.length - vs.length) none

/-- the context of a def's body, at its entry; an exception leaves the frame, then lies as CX says -/
def cxOf (CX : CXT) (P : Program) (w : World) (K : PySem.W.Frag) (mg : Str → Option Value) (base : Heap) (N : List Str) (qual : Str) (scope : Scope) (f : Addr) (cd : Value) (A : Around) (outer : List Env) (s : Shared) (H : Hp) (E : XK) : Cx where
  prog := P
  w := w
  K := K
  mg := mg
  base := base
  A := A.deeper (envOfC qual scope s.heap.objs.size f cd)
  N := N
  s_0 := s
  H_0 := H
  env := envOfC qual scope s.heap.objs.size f cd
  outer := outer
  stack := envOfC qual scope s.heap.objs.size f cd :: outer
  ex := []
  calm := true
  fn := fun _ => true
  pn := []
  xe := fun e s' => wpAny (model P w) (A.deeper (envOfC qual scope s.heap.objs.size f cd)) (leaving (envOfC qual scope s.heap.objs.size f cd) e) (fun _ s'' => CX outer H s E e s'') (fun e' s'' => CX outer H s E e' s'') s'

theorem cell_has {sc : Scope} {n : Nat} {x : Str} (h : sc.names.lookup x = some .cell) : ∃ c, (cellsFrom n sc.names []).lookup x = some c := by
  have q := PySem.W.cellsFrom_some sc.names n [] (.inl h)
  exact Option.isSome_iff_exists.mp q

theorem inv_start {CX : CXT} {P : Program} {w : World} {K : PySem.W.Frag} {mg : Str → Option Value} {base : Heap} {N ps : List Str} {qual : Str} {scope : Scope} {f : Addr} {cd : Value} {A : Around} {outer : List Env} {s s1 : Shared} {H : Hp} {E : XK} {us : List Value} {vs : List V}
    (S : FnScope N ps scope) (hd : A.handled = none) (e0 : Env0 P w K mg base A outer s H) (hl : vs.length = ps.length) (r : Vals vs us)
    (x : InCallC s s.heap.objs.size (bindL (envOfC qual scope s.heap.objs.size f cd).kindOf (ps.zip us) fun _ => none) (cellsFrom (s.heap.objs.size + 1) scope.names []) (bindC (envOfC qual scope s.heap.objs.size f cd).kindOf (ps.zip us) fun _ => none) s1) :
    Inv (cxOf CX P w K mg base N qual scope f cd A outer s H E) [] (start N vs) H s1 := by
  have hpl : ps.length ≤ N.length := by have := congrArg List.length S.pre; rw [List.length_take] at this; omega
  obtain ⟨h1, tk, rfl, hk⟩ := x.done
  have noA : ∀ b : Addr, b ∉ (cxOf CX P w K mg base N qual scope f cd A outer s H E).ex := fun b z => absurd (show b ∈ ([] : List Addr) from z) (by simp)
  refine ⟨⟨e0.mod, S.kind, rfl, rfl, Nat.le_refl _, fun y z c h1 h2 => ?_, fun y hy => ?_, fun y c _ h => ?_, fun _ => hd, Around.frames_deeper e0.frames, .inr ⟨rfl, rfl⟩, fun b z => absurd z (noA b), e0.bs, e0.bsz, fun b _ _ => noA b, fun b z => absurd z (noA b), e0.funs, e0.frf⟩,
    rfl, e0.bare, Un.kept hk, ⟨_, x.toInCall.ns, fun i y v h1 h2 h3 => ?_⟩, fun y c h => ⟨_, x.cell y c h⟩, e0.hok.fresh (Nat.le_refl _), fun y c h => ?_, fun p hp => absurd (show p ∈ ([] : List (Addr × Obj)) from hp) (by simp), e0.hok.kept hk, ?_⟩
  · exact name_of_addr x.apart (PySem.mem_of_lookup h1) (PySem.mem_of_lookup h2)
  · have hy : scope.names.lookup y = some .cell ∨ scope.names.lookup y = some .free := hy
    rcases hy with hy | hy
    · exact cell_has hy
    · exact absurd rfl (S.nofree _ (PySem.mem_of_lookup hy))
  · exact Nat.le_of_lt (x.above y c (PySem.mem_of_lookup h))
  · have hi : i < vs.length := by
      unfold start at h2
      by_cases hi : i < vs.length
      · exact hi
      · rw [List.getElem?_append_right (by simpa using hi)] at h2
        rw [List.getElem?_replicate] at h2
        split at h2 <;> cases h2
    have ha : vs[i]? = some v := by
      unfold start at h2
      rw [List.getElem?_append_left (by simpa using hi), List.getElem?_map] at h2
      cases e : vs[i]? with
      | none => rw [e] at h2; cases h2
      | some a => rw [e] at h2; cases h2; rfl
    obtain ⟨u, hu, rv⟩ := r.get ha
    have hp : ps[i]? = some y := by
      rw [← S.pre, List.getElem?_take_of_lt (by omega)]; exact h1
    have ndP : ps.Nodup := by rw [← S.pre]; exact S.nd.sublist (List.take_sublist _ _)
    refine ⟨u, rv, ?_⟩
    rcases S.par y (List.mem_of_getElem? hp) with k | k
    · exact .inl ⟨k, bindL_get ndP hp hu k⟩
    · obtain ⟨c, e⟩ := cell_has (n := s.heap.objs.size + 1) k
      refine .inr ⟨.inl k, c, e, ?_⟩
      have q := x.cell y c e
      rw [bindC_get ndP hp hu (by show scope.names.lookup y ≠ _; rw [k]; decide)] at q
      exact q
  · exact e0.hok.fresh (Nat.le_of_lt (x.above y c (PySem.mem_of_lookup h)))
  · unfold start
    show _ = N.length
    rw [List.length_append, List.length_map, List.length_replicate]
    omega

/-- THE RULE: a def (or a method) of the text, by its body. The body's reading t is chosen for each entry; it is run at the parameters' values -/
theorem fn_of {CX : CXT} {P : Program} {w : World} {K : PySem.W.Frag} {mg : Str → Option Value} {base : Heap} {k : Nat} {f : Addr} {name qual : Str} {params : Arguments} {body : List Stmt} {scope : Scope} {dV kV doc pm cdv ct oc : Value} {an od : Option Addr}
    {osl : Array (Option Value)} {N ps : List Str} {sp : Sp} (lk : K.lookup f = some ⟨oc, od, .func (PySem.W.fnOf name qual params body scope dV kV doc pm an cdv ct), osl⟩) (hcd : PySem.W.codeIn K cdv qual = true) (S : FnScope N ps scope)
    (len : ∀ vs H Q E, sp vs H Q E → vs.length = ps.length)
    (hbody : ∀ (A : Around) (outer : List Env) (s : Shared) (H : Hp) (vs : List V) (Q : VK) (E : XK), Room k (A.deeper (envOfC qual scope s.heap.objs.size f cdv)) → sp vs H Q E →
      ∃ t, PSs (cxOf CX P w K mg base N qual scope f cdv A outer s H E) body t ∧ t { nx := fun _ H' => Q .non H', rt := Q } (start N vs) H) :
    FnOk P w K mg base CX (k + 1) f (PySem.W.fnOf name qual params body scope dV kV doc pm an cdv ct) ps sp := by
  refine ⟨len, fun A outer s H args us vs Q E hr e0 hb r hsp => ?_⟩
  have hl := len _ _ _ _ hsp
  have KX : K.In s.heap := e0.mod.kin.keeps fun b o e => (e0.bs b o e).1
  have lim : s.heap.NoLimit := e0.mod.nolimit.keeps fun b o e => (e0.bs b o e).1
  have hkind : ∀ y ∈ ps.zip us, scope.names.lookup y.1 = some .local ∨ (scope.names.lookup y.1 = some .cell ∧ ((cellsFrom (s.heap.objs.size + 1) scope.names []).lookup y.1).isSome = true) := fun ⟨n, v⟩ hy => by
    rcases S.par n (List.of_mem_zip hy).1 with q | q
    · exact .inl q
    · exact .inr ⟨q, PySem.W.cellsFrom_some _ _ _ (.inl q)⟩
  refine codeAny_call_function hr.depth (KX _ _ lk) rfl S.co S.gen rfl (PySem.W.codeRec_of KX hcd) (hb _ _ _ _ ?_)
  refine wpAny_newFunctionEnv_cells S.kind hkind fun env he s1 x => ?_
  subst he
  refine ⟨lim.keeps x.toInCall.keep, codeAny_func ?_⟩
  obtain ⟨t, ht, hq⟩ := hbody A outer s H vs Q E (hr.deeper _) hsp
  have I : Inv (cxOf CX P w K mg base N qual scope f cdv A outer s H E) [] (start N vs) H s1 := inv_start S hr.hd e0 hl r x
  refine wpAny_mono (ht [] s1 (start N vs) H _ I hq) (fun fl s' hs => ?_) fun e s' hs => hs
  have fin : ∀ {σ' : St} {H' : Hp} {v : V} {u : Value}, Inv (cxOf CX P w K mg base N qual scope f cdv A outer s H E) [] σ' H' s' → RelV v u → Q v H' → CE outer P w H s Q u s' :=
    fun {σ' H' v u} J rv q => ⟨v, H', J.os, J.bare, J.base, J.hok, rv, q⟩
  cases fl with
  | ret u =>
    obtain ⟨v, σ', H', J, rv, q⟩ := hs
    exact fin J rv q
  | next =>
    obtain ⟨σ', H', J, q⟩ := hs
    exact fin (v := V.non) (u := Value.none) J rfl q
  | brk =>
    obtain ⟨_, _, _, q⟩ := hs
    exact False.elim q
  | cont =>
    obtain ⟨_, _, _, q⟩ := hs
    exact False.elim q
end L2

namespace L2
open PySem PySem.Spec PyProof.Rows
section
variable {X : Cx} {x : Str} {p pos : Pos} {e : Expr} {es : List Expr} {t : TA} {id T : String} {r : List V → Hp → VK → Prop}

def tCB (r : List V → Hp → VK → Prop) (t : TA) : TE := fun σ H Q => t σ H fun vs H1 => r vs H1 Q
/-- f(e, ..), f a built-in function -/
theorem pe_callB (hc : CallR X (.builtin id) r) (hg : Gl X x) (hm : X.mg x = none) (hv : bootBuiltins x = some (.builtin id)) (ha : PA X (e :: es) t) (hn : x ≠ "__name__" := by decide) (hdb : (x == ("__debug__" : Str)) = false := by decide)
    (he : starEach (e :: es) X.env = (false, eval e X.env) :: starEach es X.env := by rfl) (hpl : (backTo pos (starEach es X.env)).any (·.1) = false := by rfl) : PE X (.Call (.Name x p) (e :: es) [] pos) (tCB r t) := by
  intro pins s σ H Q I h
  refine wpAny_Call_Name_kw (ld_blt I hg hm hv ?_ hn hdb)
  exact PyProof.Rows.callWith_builtin1 (thn (ha pos pins s σ H _ I h) fun us s1 ⟨vs, H1, I1, r1, q1⟩ => hc pins s1 σ H1 vs us Q I1 r1 q1) he hpl
/-- T(e, ..), T a built-in type -/
theorem pe_callTy (hc : CallR X (.type T) r) (hg : Gl X x) (hm : X.mg x = none) (hv : bootBuiltins x = some (.type T)) (ha : PA X (e :: es) t) (hn : x ≠ "__name__" := by decide) (hdb : (x == ("__debug__" : Str)) = false := by decide)
    (he : starEach (e :: es) X.env = (false, eval e X.env) :: starEach es X.env := by rfl) (hpl : (backTo pos (starEach es X.env)).any (·.1) = false := by rfl) : PE X (.Call (.Name x p) (e :: es) [] pos) (tCB r t) := by
  intro pins s σ H Q I h
  refine wpAny_Call_Name_kw (ld_blt I hg hm hv ?_ hn hdb)
  exact PyProof.Rows.callWith_type1 (thn (ha pos pins s σ H _ I h) fun us s1 ⟨vs, H1, I1, r1, q1⟩ => hc pins s1 σ H1 vs us Q I1 r1 q1) he hpl
end
end L2

namespace HT
open PySem PyProof.Rows

section
open PySem.SeqAt
open PySem.AutoSeq1 (wpAny_loadPart')
open PySem.MeetsSeq PySem.MeetsSeq2 PySem.MeetsSeq3

end

section
variable {prog : Program} {w : World} {A : Around} {E : Value → Shared → Prop} {s : Shared}

/-- t + u, t not empty -/
theorem cat_tup {t b : Addr} {vs ws : List Value} {Q : Value → Shared → Prop} (ht : IsTup s.heap t vs.toArray) (hb : IsTup s.heap b ws.toArray) (hv : vs ≠ [])
    (h1 : ws = [] → Q (.ref t) s) (h2 : ws ≠ [] → Q (.ref s.heap.objs.size) { s with heap := s.heap.push { cls := .type "tuple", data := .seq (vs ++ ws).toArray } })
    (hsz : vs.length + ws.length ≤ sizeLine) : wpAny (model prog w) A (binaryOp .Add (.ref t) (.ref b)) Q E s := by
  obtain ⟨⟨cls, dd, data, sl⟩, ho, hc, n, hd⟩ := id ht
  obtain ⟨⟨cls2, dd2, data2, sl2⟩, ho2, hc2, n2, hd2⟩ := id hb
  simp only at hc hd hc2 hd2
  subst hc hd hc2 hd2
  have e : vs.toArray ++ ws.toArray = (vs ++ ws).toArray := by simp
  by_cases hw : ws = []
  · exact concat_meets ⟨_, ho, rfl⟩ ⟨_, ho2, rfl⟩ noFill_tuple_add seq_tuple_add PySem.F.slot_tuple_add PySem.F.entry_tuple_add (PySem.F.args_tuple_add_2 _ _)
      (tuple_addW1 t b vs.toArray ws.toArray n n2 dd dd2 sl sl2 (by simpa using hv) (by simp [hw])) ⟨ho, ho2, h1 hw⟩
  · refine concat_meets ⟨_, ho, rfl⟩ ⟨_, ho2, rfl⟩ noFill_tuple_add seq_tuple_add PySem.F.slot_tuple_add PySem.F.entry_tuple_add (PySem.F.args_tuple_add_2 _ _)
      (tuple_addW2 t b vs.toArray ws.toArray n n2 dd dd2 sl sl2 (by simpa using hv) (by simpa using hw) (by rw [List.size_toArray, List.size_toArray]; exact hsz)) ⟨ho, ho2, ?_⟩
    rw [e]
    exact h2 hw

/-! ### t[a:b], not the whole -/
/-- a slice's bound as a place among n (d where it is left out) -/
def sIx (n d : Nat) : Option Int → Nat
  | none => d
  | some v => if v < 0 then (v + (n : Int)).toNat else min v.toNat n
theorem sIx_le (n d : Nat) (hd : d ≤ n) (o : Option Int) : sIx n d o ≤ n := by
  cases o with
  | none => exact hd
  | some v =>
    show (if v < 0 then (v + (n : Int)).toNat else min v.toNat n) ≤ n
    by_cases hv : v < 0
    · rw [if_pos hv]; omega
    · rw [if_neg hv]; exact Nat.min_le_right _ _
theorem clip_eq (v : Int) (n d : Nat) : (if v < 0 then max (v + (n : Int)) 0 else min v (n : Int)) = ((sIx n d (some v) : Nat) : Int) := by
  show (if v < 0 then max (v + (n : Int)) 0 else min v (n : Int)) = (((if v < 0 then (v + (n : Int)).toNat else min v.toNat n) : Nat) : Int)
  by_cases hv : v < 0
  · simp only [if_pos hv]; omega
  · simp only [if_neg hv]; omega
theorem adjust_gen (lo hi : Option Int) (n : Nat) : Builtin.Slice.sliceAdjust lo hi 1 (n : Int) = (((sIx n 0 lo : Nat) : Int), ((sIx n n hi : Nat) : Int)) := by
  have h1 : ¬ ((1 : Int) < 0) := by omega
  unfold Builtin.Slice.sliceAdjust
  simp only [h1, if_false]
  refine Prod.ext ?_ ?_
  · cases lo with
    | none => rfl
    | some v => exact clip_eq v n 0
  · cases hi with
    | none => rfl
    | some v => exact clip_eq v n n
theorem places_gen (i j : Nat) : Builtin.Slice.slicePlaces (i : Int) (j : Int) 1 = j - i := by
  unfold Builtin.Slice.slicePlaces
  have h1 : (1 : Int) > 0 := by omega
  simp only [h1, if_true, Int.ediv_one]
  split <;> omega
theorem slicePart_ {v : Value} {o : Option Int} {Q : Option Int → Shared → Prop} (p : IsPart v o) (h : Q o s) : wpAny (model prog w) A (Builtin.Slice.slicePartIndex v) Q E s := by
  cases p with
  | none => exact slicePart_none h
  | int i t => exact slicePart_int h
theorem sliceApplied_gen {sl : Addr} {vl vu : Value} {lo hi : Option Int} {n : Nat} {Q : Int × Int × Nat → Shared → Prop} (hs : s.heap.IsSliceOf sl vl vu .none) (pl : IsPart vl lo) (pu : IsPart vu hi)
    (h : Q (((sIx n 0 lo : Nat) : Int), 1, sIx n n hi - sIx n 0 lo) s) : wpAny (model prog w) A (Builtin.Slice.sliceApplied (.ref sl) (pure (n : Int))) Q E s := by
  obtain ⟨os, hos, hcs, hds⟩ := id hs
  unfold Builtin.Slice.sliceApplied Builtin.Slice.sliceFields
  refine wpAny_bind (wpAny_bind (wpAny_field hos hds (x := vl) rfl (wpAny_bind (wpAny_field hos hds (x := vu) rfl (wpAny_bind (wpAny_field hos hds (x := .none) rfl (wpAny_pure ?_)))))))
  refine wpAny_bind (slicePart_none ?_)
  show wpAny _ _ (if ((1 : Int) == 0) = true then _ else _) _ _ s
  rw [if_neg (by decide)]
  refine wpAny_bind (slicePart_ pl (wpAny_bind (slicePart_ pu (wpAny_bind (wpAny_pure ?_)))))
  show wpAny _ _ (match Builtin.Slice.sliceAdjust lo hi 1 (n : Int) with | (lo, hi) => pure (lo, (1 : Int), Builtin.Slice.slicePlaces lo hi 1)) _ _ s
  rw [adjust_gen lo hi n]
  show wpAny _ _ (pure (((sIx n 0 lo : Nat) : Int), (1 : Int), Builtin.Slice.slicePlaces ((sIx n 0 lo : Nat) : Int) ((sIx n n hi : Nat) : Int) 1)) _ _ s
  rw [places_gen]
  exact wpAny_pure h
theorem pick_gen (xs : Array Value) (i k : Nat) : ((List.range k).filterMap fun (m : Nat) => xs[((i : Int) + (m : Int) * 1).toNat]?).toArray = ((xs.toList.drop i).take k).toArray := by
  have e : (fun (m : Nat) => xs[((i : Int) + (m : Int) * 1).toNat]?) = fun m => xs[i + m]? := by
    funext m
    have : ((i : Int) + (m : Int) * 1).toNat = i + m := by omega
    rw [this]
  rw [e]
  have := pick_run xs i k
  rw [List.filterMap_map] at this
  have e2 : ((fun x => xs[x]?) ∘ fun x => i + x) = fun m => xs[i + m]? := rfl
  rw [e2] at this
  rw [this]

theorem getItem_tuple_cut {t sl : Addr} {items : Array Value} {vl vu : Value} {lo hi : Option Int} {Q : Value → Shared → Prop} (ht : IsTup s.heap t items) (hs : s.heap.IsSliceOf sl vl vu .none) (pl : IsPart vl lo) (pu : IsPart vu hi)
    (hw : ¬ (sIx items.size 0 lo = 0 ∧ sIx items.size items.size hi = items.size))
    (h : Q (.ref s.heap.objs.size) { s with heap := s.heap.push { cls := .type "tuple", data := .seq ((items.toList.drop (sIx items.size 0 lo)).take (sIx items.size items.size hi - sIx items.size 0 lo)).toArray } })
    (hsz : items.size ≤ sizeLine) : wpAny (model prog w) A (getItem (.ref t) (.ref sl)) Q E s := by
  have htake : sizeOk (.seq ((items.toList.drop (sIx items.size 0 lo)).take (sIx items.size items.size hi - sIx items.size 0 lo)).toArray) := by
    show ((items.toList.drop (sIx items.size 0 lo)).take (sIx items.size items.size hi - sIx items.size 0 lo)).toArray.size ≤ sizeLine
    rw [List.size_toArray, List.length_take, List.length_drop, Array.length_toList]
    omega
  have hj : sIx items.size items.size hi ≤ items.size := sIx_le _ _ (Nat.le_refl _) hi
  obtain ⟨os, hos, hcs, hds⟩ := id hs
  have hTs : s.TypeIs (.ref sl) "slice" := ⟨os, hos, hcs⟩
  unfold getItem
  try with_reducible refine wpAny_holding ?_
  first | refine wpAny_bind (wpAny_pure ?_) | skip
  refine wpAny_bind (wpAny_sequenceKey ht.typeIs (by decide) ?_)
  refine wpAny_bind (wpAny_callSpecial?_slot (name := Str.ofString "__getitem__") ht.typeIs PyProof.Rows.slot_tuple_getitem
    (wpAny_call_entry PyProof.Rows.slot_tuple_getitem ht.typeIs entry_tuple_getitem ?_ (args_tuple_getitem _ _)))
  show wpAny _ _ (Builtin.Tuple.tupleItemsOf (.ref t) >>= _) _ _ s
  refine wpAny_bind (tupleItemsOf_ ht ?_)
  refine wpAny_bind (wpAny_typeOf hTs ?_)
  rw [if_pos (by decide)]
  refine wpAny_bind (sliceApplied_gen hs pl pu ?_)
  have hno : ¬ ((((sIx items.size 0 lo : Nat) : Int) == 0 && (1 : Int) == 1 && (sIx items.size items.size hi - sIx items.size 0 lo) == items.size) = true) := by
    intro q
    rw [Bool.and_eq_true, Bool.and_eq_true] at q
    have q1 : ((sIx items.size 0 lo : Nat) : Int) = 0 := eq_of_beq q.1.1
    have q2 : sIx items.size items.size hi - sIx items.size 0 lo = items.size := eq_of_beq q.2
    exact hw ⟨by omega, by omega⟩
  show wpAny _ _ (if (((sIx items.size 0 lo : Nat) : Int) == 0 && (1 : Int) == 1 && (sIx items.size items.size hi - sIx items.size 0 lo) == items.size) = true then _ else _) _ _ s
  rw [if_neg hno, pick_gen]
  first
    | exact wpAny_bind (m := Builtin.Tuple.tupleExact _) (wpAny_newObj_type (wpAny_pure ⟨_, rfl, wpAny_pure h⟩) htake)
    | exact wpAny_bind (m := Builtin.Tuple.tupleExact _) (wpAny_newObj_type (wpAny_bind (wpAny_pure (wpAny_pure ⟨_, rfl, wpAny_pure h⟩))) htake)
    | exact wpAny_bind (wpAny_bind (m := Builtin.Tuple.tupleExact _) (wpAny_newObj_type (wpAny_pure (wpAny_pure ⟨_, rfl, wpAny_pure h⟩)) htake))
    | exact wpAny_bind (wpAny_bind (m := Builtin.Tuple.tupleExact _) (wpAny_newObj_type (wpAny_pure ⟨_, rfl, wpAny_pure h⟩) htake))
end
end HT

namespace L2
open PySem PySem.Spec PyProof.Rows

/-! ### the parts of a slice -/
abbrev TO := St → Hp → (Option Int → Hp → Prop) → Prop
/-- a slice's part (left out, or an int) -/
def PO (X : Cx) (e : Option Expr) (t : TO) : Prop :=
  ∀ (pins : List (Addr × Obj)) (s : Shared) (σ : St) (H : Hp) (Q : Option Int → Hp → Prop), Inv X pins σ H s → t σ H Q →
    wpAny (model X.prog X.w) X.A (evalPart e X.env) (fun u s' => ∃ o H', Inv X pins σ H' s' ∧ IsPart u o ∧ Q o H') X.xe s
def tNoPart : TO := fun _ H Q => Q none H
def tPart (t : TE) : TO := fun σ H Q => t σ H fun x H1 => ∃ i, x = .int i ∧ Q (some i) H1

section
variable {X : Cx} {e : Expr} {te : TE} {lo hi : Option Expr} {tl th : TO} {pos p2 : Pos}

theorem po_none : PO X none tNoPart := by
  intro pins s σ H Q I h
  rw [evalPart_none]
  exact wpAny_pure ⟨none, H, I, .none, h⟩
theorem po_some (h : PE X e te) : PO X (some e) (tPart te) := by
  intro pins s σ H Q I hw
  rw [evalPart_some]
  refine thn (h pins s σ H _ I hw) fun u s1 ⟨x, H1, I1, r1, q1⟩ => ?_
  obtain ⟨i, rfl, q⟩ := q1
  obtain ⟨t, rfl⟩ := r1
  exact ⟨some i, H1, I1, .int i t, q⟩

/-- what a slice of a value is, by values: the slice object stands at sl -/
def SlR (X : Cx) (r : V → Option Int → Option Int → Hp → VK → Prop) : Prop :=
  ∀ (pins : List (Addr × Obj)) (s : Shared) (σ : St) (H : Hp) (x : V) (v vl vu : Value) (lo hi : Option Int) (sl : Addr) (Q : VK), Inv X pins σ H s → RelV x v → s.heap.IsSliceOf sl vl vu .none → IsPart vl lo → IsPart vu hi → r x lo hi H Q →
    ∃ T id, typeLookup (.type T) "__getitem__" = pure (some (.builtin id)) ∧ s.TypeIs v T ∧ wpAny (model X.prog X.w) X.A (getItem v (.ref sl)) (EP X pins σ Q) X.xe s
theorem SlR.or {r r' : V → Option Int → Option Int → Hp → VK → Prop} (h : SlR X r) (h' : SlR X r') : SlR X (fun x lo hi H Q => r x lo hi H Q ∨ r' x lo hi H Q) := by
  intro pins s σ H x v vl vu lo hi sl Q I rx hs pl pu q
  rcases q with q | q
  · exact h pins s σ H x v vl vu lo hi sl Q I rx hs pl pu q
  · exact h' pins s σ H x v vl vu lo hi sl Q I rx hs pl pu q
def tSl (r : V → Option Int → Option Int → Hp → VK → Prop) (te : TE) (tl th : TO) : TE := fun σ H Q => te σ H fun x H1 => tl σ H1 fun l H2 => th σ H2 fun u H3 => r x l u H3 Q
/-- a[lo:hi], any a -/
theorem pe_slice {r : V → Option Int → Option Int → Hp → VK → Prop} (hr : SlR X r) (he : PE X e te) (hl : PO X lo tl) (hu : PO X hi th) : PE X (.Subscript e (.Slice lo hi none p2) pos) (tSl r te tl th) := by
  intro pins s σ H Q I h
  refine Subscript_ (thn (he pins s σ H _ I h) fun v s1 ⟨x, H1, I1, r1, q1⟩ => ?_)
  refine wpAny_Slice (thn (hl pins s1 σ H1 _ I1 q1) fun vl s2 ⟨l, H2, I2, pl, q2⟩ => thn (hu pins s2 σ H2 _ I2 q2) fun vu s3 ⟨u, H3, I3, pu, q3⟩ => ?_)
  rw [evalPart_none]
  refine wpAny_pure ?_
  have I4 : Inv X pins σ H3 { s3 with heap := s3.heap.push { cls := .type "slice", data := .fields #[vl, vu, .none] } } := I3.kept (t' := s3.toks) fun b ob q => Heap.get?_push_of_some _ q
  obtain ⟨T, id, hT, ht, hg⟩ := hr pins { s3 with heap := s3.heap.push { cls := .type "slice", data := .fields #[vl, vu, .none] } } σ H3 x v vl vu l u s3.heap.objs.size Q I4 r1 (Heap.IsSliceOf.new ..) pl pu q3
  show wpAny (model X.prog X.w) X.A (subscriptTail e (.Slice lo hi none p2) v (.ref s3.heap.objs.size)) (EP X pins σ Q) X.xe { s3 with heap := s3.heap.push { cls := .type "slice", data := .fields #[vl, vu, .none] } }
  exact tail_any (ops := [.ref s3.heap.objs.size, v]) ht hT hg (by with_unfolding_all rfl)

/-- the items of xs[lo:hi] -/
def cutV (xs : List V) (lo hi : Option Int) : List V := (xs.drop (HT.sIx xs.length 0 lo)).take (HT.sIx xs.length xs.length hi - HT.sIx xs.length 0 lo)
theorem cutV_length (xs : List V) (lo hi : Option Int) : (cutV xs lo hi).length ≤ xs.length := by
  unfold cutV
  rw [List.length_take, List.length_drop]
  omega
/-- t[lo:hi], not the whole of it (the whole would be t itself) -/
def rSlT (K : PySem.W.Frag) : V → Option Int → Option Int → Hp → VK → Prop := fun x lo hi H Q => ∃ a xs, x = .ref a ∧ SqT K H a xs ∧
  ¬ (HT.sIx xs.length 0 lo = 0 ∧ HT.sIx xs.length xs.length hi = xs.length) ∧ ∀ p, H p = none → Q (.ref p) (upd H p (.tup (cutV xs lo hi)))
theorem sl_tup : SlR X (rSlT X.K) := by
  intro pins s σ H x v vl vu lo hi sl Q I rx hs pl pu h
  obtain ⟨a, xs, rfl, hx, hw, q⟩ := h
  cases rx
  obtain ⟨its, r, ht, hz⟩ := I.tuple hx
  have hlen : its.toArray.size = xs.length := by rw [List.size_toArray]; exact r.length.symm
  refine ⟨"tuple", _, PyProof.Rows.slot_tuple_getitem.lookup, ht.typeIs, ?_⟩
  refine HT.getItem_tuple_cut ht hs pl pu (by rw [hlen]; exact hw) ?_ (by rw [hlen]; exact hz)
  rw [hlen]
  refine ⟨.ref s.heap.objs.size, _, I.laid (t' := s.toks) (o := .tup (cutV xs lo hi)) (fun b ob q => Heap.get?_push_of_some _ q) (Nat.le_refl _) ?_, rfl, q _ (I.hok.fresh (Nat.le_refl _))⟩
  exact ⟨Nat.le_trans (cutV_length xs lo hi) hz, _, (r.drop (HT.sIx xs.length 0 lo)).take (HT.sIx xs.length xs.length hi - HT.sIx xs.length 0 lo), IsTup.new _ _⟩

/-! ### t < u, t + u -/
/-- t + u, t not empty: u empty gives t itself -/
def rCatT (K : PySem.W.Frag) : R2 := fun x y H Q => ∃ a b xs ys, x = .ref a ∧ y = .ref b ∧ SqT K H a xs ∧ SqT K H b ys ∧ xs ≠ [] ∧ xs.length + ys.length ≤ sizeLine ∧
  (ys = [] → Q (.ref a) H) ∧ (ys ≠ [] → ∀ p, H p = none → Q (.ref p) (upd H p (.tup (xs ++ ys))))
theorem Vals.nil_iff {xs : List V} {us : List Value} (r : Vals xs us) : us = [] ↔ xs = [] := by
  cases r with
  | nil => simp
  | cons _ _ => simp
theorem op_catT : OpR X (binaryOp .Add) (rCatT X.K) := by
  intro pins s σ H x y v u Q I rx ry h
  obtain ⟨a, b, xs, ys, rfl, rfl, ha, hb, hx, hz, q1, q2⟩ := h
  cases rx
  cases ry
  obtain ⟨its, r1, p1, _⟩ := I.tuple ha
  obtain ⟨its2, r2, p2, _⟩ := I.tuple hb
  refine HT.cat_tup p1 p2 (fun z => hx (r1.nil_iff.mp z)) (fun z => ⟨.ref a, H, I, rfl, q1 (r2.nil_iff.mp z)⟩) (fun z => ?_) (by rw [← r1.length, ← r2.length]; exact hz)
  refine ⟨.ref s.heap.objs.size, _, I.laid (t' := s.toks) (o := .tup (xs ++ ys)) (fun b ob q => Heap.get?_push_of_some _ q) (Nat.le_refl _) ?_, rfl, q2 (fun w => z (r2.nil_iff.mpr w)) _ (I.hok.fresh (Nat.le_refl _))⟩
  exact ⟨by rw [List.length_append]; exact hz, _, r1.append r2, IsTup.new _ _⟩
end
end L2

namespace L2
open PySem PySem.Spec PyProof.Rows

/-! ### places -/
/-- the place that an index of any sign means -/
def ixN (n : Nat) (i : Int) : Option Nat := if 0 ≤ i then (if i < n then some i.toNat else none) else if -(n : Int) ≤ i then some (i + n).toNat else none
def atI {α : Type} (xs : List α) (i : Int) : Option α := (ixN xs.length i).bind fun j => xs[j]?
theorem ixN_seq {n : Nat} {i : Int} {j : Nat} (h : ixN n i = some j) : seqIndex? i n = some j ∧ j < n ∧ -(n : Int) ≤ i ∧ i < n := by
  unfold ixN at h
  by_cases h0 : 0 ≤ i
  · rw [if_pos h0] at h
    by_cases h1 : i < n
    · rw [if_pos h1] at h
      have e : i.toNat = j := Option.some.inj h
      exact ⟨by rw [seqIndex_of h0 h1, e], by omega, by omega, h1⟩
    · rw [if_neg h1] at h; cases h
  · rw [if_neg h0] at h
    by_cases h1 : -(n : Int) ≤ i
    · rw [if_pos h1] at h
      have e : (i + n).toNat = j := Option.some.inj h
      exact ⟨by rw [seqIndex_neg (by omega) h1, e], by omega, h1, by omega⟩
    · rw [if_neg h1] at h; cases h
theorem atI_get {α : Type} {xs : List α} {i : Int} {v : α} (h : atI xs i = some v) : ∃ j, seqIndex? i xs.length = some j ∧ xs[j]? = some v ∧ j < xs.length ∧ -(xs.length : Int) ≤ i ∧ i < xs.length := by
  unfold atI at h
  cases e : ixN xs.length i with
  | none => rw [e] at h; cases h
  | some j =>
    rw [e] at h
    obtain ⟨h1, h2, h3, h4⟩ := ixN_seq e
    exact ⟨j, h1, h, h2, h3, h4⟩
theorem atI_nat {α : Type} {xs : List α} {j : Nat} {v : α} (h : xs[j]? = some v) : atI xs (j : Int) = some v := by
  have hj : j < xs.length := (List.getElem?_eq_some_iff.mp h).1
  have e : ixN xs.length (j : Int) = some j := by
    unfold ixN
    rw [if_pos (by omega), if_pos (by omega)]; simp
  unfold atI; rw [e]; exact h
/-! ### what may be subscripted -/
/-- what stands as an index of a plain subscript -/
def PlainIx (b : Expr) : Prop := ∀ o i, subscripted b false o i = operate [o, i] (getItem o i)
/-- a subscript by values -/
def IxR (X : Cx) (r : R2) : Prop :=
  ∀ (value slice : Expr) (pins : List (Addr × Obj)) (s : Shared) (σ : St) (H : Hp) (x y : V) (v u : Value) (Q : VK), Inv X pins σ H s → RelV x v → RelV y u → r x y H Q →
    subscripted slice false v u = operate [v, u] (getItem v u) → wpAny (model X.prog X.w) X.A (subscriptTail value slice v u) (EP X pins σ Q) X.xe s
/-- a call of a builtin's method by values: the receiver, the arguments -/
def MtR (X : Cx) (id : String) (r : V → List V → Hp → VK → Prop) : Prop :=
  ∀ (pins : List (Addr × Obj)) (s : Shared) (σ : St) (H : Hp) (x : V) (xs : List V) (v : Value) (us : List Value) (Q : VK), Inv X pins σ H s → RelV x v → Vals xs us → r x xs H Q →
    wpAny (model X.prog X.w) X.A (call (.builtin id) (v :: us)) (EP X pins σ Q) X.xe s
section
variable {X : Cx} {a b : Expr} {ta tb : TE} {pos : Pos}
theorem IxR.or {r r' : R2} (h : IxR X r) (h' : IxR X r') : IxR X (fun x y H Q => r x y H Q ∨ r' x y H Q) := by
  intro value slice pins s σ H x y v u Q I rx ry q hs
  rcases q with q | q
  · exact h value slice pins s σ H x y v u Q I rx ry q hs
  · exact h' value slice pins s σ H x y v u Q I rx ry q hs
theorem MtR.or {id : String} {r r' : V → List V → Hp → VK → Prop} (h : MtR X id r) (h' : MtR X id r') : MtR X id (fun x xs H Q => r x xs H Q ∨ r' x xs H Q) := by
  intro pins s σ H x xs v us Q I rx rs q
  rcases q with q | q
  · exact h pins s σ H x xs v us Q I rx rs q
  · exact h' pins s σ H x xs v us Q I rx rs q
/-- a[b] -/
theorem pe_ix {r : R2} (hr : IxR X r) (ha : PE X a ta) (hb : PE X b tb) (hs : PlainIx b) : PE X (.Subscript a b pos) (tOp r ta tb) := by
  intro pins s σ H Q I h
  exact Subscript_ (binT ha hb I h fun v u s2 x y H2 I2 rx ry q => hr a b pins s2 σ H2 x y v u Q I2 rx ry q (hs _ _))

def rIxL (K : PySem.W.Frag) : R2 := fun x y H Q => ∃ p xs i v, x = .ref p ∧ y = .int i ∧ SqL K H p xs ∧ atI xs i = some v ∧ Q v H
def rIxT (K : PySem.W.Frag) : R2 := fun x y H Q => ∃ p xs i v, x = .ref p ∧ y = .int i ∧ SqT K H p xs ∧ atI xs i = some v ∧ Q v H
def rIxS : R2 := fun x y H Q => ∃ z i c, x = .str z ∧ y = .int i ∧ z.length ≤ sizeLine ∧ atI z.cps.toList i = some c ∧ Q (.str ⟨#[c]⟩) H
theorem ix_list : IxR X (rIxL X.K) := by
  intro value slice pins s σ H x y v u Q I rx ry h hs
  obtain ⟨p, xs, i, z, rfl, rfl, hq, he, q⟩ := h
  cases rx
  obtain ⟨t, rfl⟩ := ry
  obtain ⟨its, r, pl, hz⟩ := I.list hq
  obtain ⟨j, h1, h2, h3, h4, h5⟩ := atI_get he
  obtain ⟨w, ew, rw'⟩ := r.get h2
  have hl := r.length
  have hn := line63
  have fin : EP X pins σ Q w s := ⟨z, H, I, rw', q⟩
  by_cases h0 : 0 ≤ i
  · have hj : i.toNat = j := by
      rw [seqIndex_of h0 h5] at h1
      exact Option.some.inj h1
    exact item_listR pl.isList h0 (by omega) (by rw [hj]; simpa using ew) fin hs
  · have hj : (i + (its.toArray.size : Int)).toNat = j := by
      rw [seqIndex_neg (by omega) h4] at h1
      rw [List.size_toArray, ← hl]
      exact Option.some.inj h1
    exact subscriptTail_builtinR (x := w) pl.isList.typeIs slot_list_getitem.lookup
      (wpAny_getItem_list_neg (Q := fun r s' => r = w ∧ EP X pins σ Q r s') pl.isList (by omega) (by rw [List.size_toArray] <;> omega) (by omega) (by rw [hj]; simpa using ew) ⟨rfl, fin⟩) hs
theorem ix_tup : IxR X (rIxT X.K) := by
  intro value slice pins s σ H x y v u Q I rx ry h hs
  obtain ⟨p, xs, i, z, rfl, rfl, hq, he, q⟩ := h
  cases rx
  obtain ⟨t, rfl⟩ := ry
  obtain ⟨its, r, pl, hz⟩ := I.tuple hq
  obtain ⟨j, h1, h2, h3, h4, h5⟩ := atI_get he
  obtain ⟨w, ew, rw'⟩ := r.get h2
  have hl := r.length
  have hn := line63
  have fin : EP X pins σ Q w s := ⟨z, H, I, rw', q⟩
  exact subscriptTail_builtinR (x := w) pl.typeIs slot_tuple_getitem.lookup
    (getItem_tuple (j := j) (Q := fun r s' => r = w ∧ EP X pins σ Q r s') pl (by omega) (by omega) (by rw [List.size_toArray, ← hl]; exact h1) (by simpa using ew) ⟨rfl, fin⟩) hs
theorem ix_str : IxR X rIxS := by
  intro value slice pins s σ H x y v u Q I rx ry h hs
  obtain ⟨z, i, c, rfl, rfl, hz, he, q⟩ := h
  obtain ⟨t, rfl⟩ := rx
  obtain ⟨t', rfl⟩ := ry
  obtain ⟨j, h1, h2, h3, h4, h5⟩ := atI_get he
  have hl : z.cps.toList.length = z.length := by simp [Str.length]
  rw [hl] at h1 h4 h5
  have hn := line63
  exact tail_any (typeIs_str s z t) slot_str_getitem.lookup (getItem_str (c := c) (by
    have e1 : decide (i < -(2 ^ 63 : Int)) = false := decide_eq_false (by omega)
    have e2 : decide (i ≥ 2 ^ 63) = false := decide_eq_false (by omega)
    rw [e1, e2, Bool.or_false]) (by rw [h1]; simpa using h2) ⟨.str ⟨#[c]⟩, H, I.tok _, ⟨_, rfl⟩, q⟩) hs
/-! ### xs[i] = v, any sign -/
/-- the list's object behind a store -/
theorem mapSeq_set (its : List Value) (n j : Nat) (u : Value) : Obj.mapSeq (·.setIfInBounds j u) { cls := .type "list", data := .seq its.toArray n } = { cls := .type "list", data := .seq (its.set j u).toArray n } := by
  simp [Obj.mapSeq]
theorem Inv.lst {pins : List (Addr × Obj)} {σ : St} {H : Hp} {s : Shared} {p : Addr} {xs : List V} (I : Inv X pins σ H s) (h : H p = some (.lst xs)) :
    ∃ (its : List Value) (n : Nat), Vals xs its ∧ s.heap.get? p = some { cls := .type "list", data := .seq its.toArray n } ∧ xs.length ≤ sizeLine := by
  obtain ⟨z, its, n, r, e⟩ := I.hok p _ h
  exact ⟨its, n, r, e, z⟩
/-- the list at p is written by an update of its object -/
theorem Inv.lstUpd {pins : List (Addr × Obj)} {σ : St} {H : Hp} {s : Shared} {p : Addr} {xs ys : List V} {its its' : List Value} {n n' : Nat} {f : Obj → Obj} (I : Inv X pins σ H s) (h : H p = some (.lst xs))
    (ho : s.heap.get? p = some { cls := .type "list", data := .seq its.toArray n }) (hf : f { cls := .type "list", data := .seq its.toArray n } = { cls := .type "list", data := .seq its'.toArray n' }) (r : Vals ys its') (hz : ys.length ≤ sizeLine) (t : Nat) :
    Inv X pins σ (upd H p (.lst ys)) { s with heap := s.heap.update p f, toks := t } := by
  have e : (s.heap.update p f).get? p = some { cls := .type "list", data := .seq its'.toArray n' } := by
    rw [Heap.get?_update_self f ho (by rw [hf] <;> rfl), hf]
  refine I.write (x := p) (e := p) (by rw [h]; trivial) (.inl rfl) (fun b u hb q => (Heap.get?_update_other _ _ (Ne.symm hb)).trans q) ⟨_, e⟩ ?_
  exact ⟨hz, its', n', r, e⟩
def rSetL : V → V → V → Hp → (Hp → Prop) → Prop := fun o i v H Q => ∃ p xs k j, o = .ref p ∧ i = .int k ∧ H p = some (.lst xs) ∧ ixN xs.length k = some j ∧ Q (upd H p (.lst (xs.set j v)))
theorem set_list : PSet X rSetL := by
  intro pins s σ H o i v ov iv u Q I ro ri rv h
  obtain ⟨p, xs, k, j, rfl, rfl, hp, hj, q⟩ := h
  cases ro
  obtain ⟨t, rfl⟩ := ri
  obtain ⟨its, n, r, ho, hz⟩ := I.lst hp
  obtain ⟨h1, h2, h3, h4⟩ := ixN_seq hj
  have hl := r.length
  have hn := line63
  have I' : Inv X pins σ (upd H p (.lst (xs.set j v))) { s with heap := s.heap.update p (Obj.mapSeq (·.setIfInBounds j u)) } :=
    I.lstUpd hp ho (mapSeq_set its n j u) (r.set rv j) (by rw [List.length_set]; exact hz) s.toks
  by_cases h0 : 0 ≤ k
  · have hk : k.toNat = j := by
      rw [seqIndex_of h0 h4] at h1
      exact Option.some.inj h1
    exact PySem.W.ki_setAt ho h0 (by omega) (by rw [List.size_toArray, ← hl]; exact h4) (by rw [hk]; exact ⟨_, I', q⟩)
  · have hk : (k + (its.toArray.size : Int)).toNat = j := by
      rw [seqIndex_neg (by omega) h3] at h1
      rw [List.size_toArray, ← hl]
      exact Option.some.inj h1
    exact PySem.W.ki_setBack ho (by omega) (by rw [List.size_toArray, ← hl]; exact h3) (by omega) (by rw [hk]; exact ⟨_, I', q⟩)

/-! ### slices -/
theorem slice_bounds (lo hi : Option Int) (n : Nat) : (sliceBounds lo hi none n).1 = ((HT.sIx n 0 lo : Nat) : Int) ∧ (sliceBounds lo hi none n).2.1 = ((HT.sIx n n hi : Nat) : Int) ∧ (sliceBounds lo hi none n).2.2 = 1 := by
  refine ⟨?_, ?_, rfl⟩
  · cases lo with
    | none => simp [sliceBounds, HT.sIx]
    | some i =>
      simp only [sliceBounds, HT.sIx, Option.getD_none, show (1 : Int) > 0 by decide, if_true]
      by_cases h : i < 0
      · simp only [h, if_true] <;> omega
      · simp only [h, if_false] <;> omega
  · cases hi with
    | none => simp [sliceBounds, HT.sIx]
    | some i =>
      simp only [sliceBounds, HT.sIx, Option.getD_none, show (1 : Int) > 0 by decide, if_true]
      by_cases h : i < 0
      · simp only [h, if_true] <;> omega
      · simp only [h, if_false] <;> omega
theorem slicePick_cut (its : List Value) (lo hi : Option Int) : slicePick its.toArray lo hi none = ((its.drop (HT.sIx its.length 0 lo)).take (HT.sIx its.length its.length hi - HT.sIx its.length 0 lo)).toArray := by
  obtain ⟨h1, h2, h3⟩ := slice_bounds lo hi its.toArray.size
  unfold slicePick
  rw [h1, h2, h3]
  simp only [sliceRange_one, pick_run, List.size_toArray] <;> rfl
/-- xs[lo:hi] of a list: a new list -/
def rSlL (K : PySem.W.Frag) : V → Option Int → Option Int → Hp → VK → Prop := fun x lo hi H Q => ∃ a xs, x = .ref a ∧ SqL K H a xs ∧ ∀ p, H p = none → Q (.ref p) (upd H p (.lst (cutV xs lo hi)))
theorem sl_list : SlR X (rSlL X.K) := by
  intro pins s σ H x v vl vu lo hi sl Q I rx hs pl pu h
  obtain ⟨a, xs, rfl, hx, q⟩ := h
  cases rx
  obtain ⟨its, r, ht, hz⟩ := I.list hx
  have hlen := r.length
  refine ⟨"list", _, slot_list_getitem.lookup, ht.isList.typeIs, ?_⟩
  refine wpAny_getItem_list_slice ht.isList hs pl pu .none (by simp) ?_ (by rw [List.size_toArray] <;> omega)
  rw [slicePick_cut, ← hlen]
  refine ⟨.ref s.heap.objs.size, _, I.laid (t' := s.toks) (o := .lst (cutV xs lo hi)) (fun b ob q => Heap.get?_push_of_some _ q) (Nat.le_refl _) ?_, rfl, q _ (I.hok.fresh (Nat.le_refl _))⟩
  exact ⟨Nat.le_trans (cutV_length xs lo hi) hz, _, 0, (r.drop (HT.sIx xs.length 0 lo)).take (HT.sIx xs.length xs.length hi - HT.sIx xs.length 0 lo), Heap.get?_push_size _ rfl⟩

/-! ### in, not in: flat items -/
def flatV : V → Bool
  | .non => true
  | .bl _ => true
  | .int _ => true
  | .str _ => true
  | _ => false
/-- == of flat values -/
def eqV : V → V → Bool
  | .non, .non => true
  | .bl a, .bl b => a == b
  | .bl a, .int b => (if a then 1 else 0) == b
  | .int a, .bl b => a == (if b then 1 else 0)
  | .int a, .int b => a == b
  | .str a, .str b => a == b
  | _, _ => false
theorem eqAt_V {A : Around} {s : Shared} {y x : V} {u v : Value} (ry : RelV y u) (rx : RelV x v) (fy : flatV y = true) (fx : flatV x = true) : SeqAt.EqAt A s u v (eqV y x) := by
  cases y with
  | non =>
    cases ry
    cases x with
    | non => cases rx; exact SeqAt.EqAt.same _
    | bl b => cases rx; exact SeqAt.EqAt.none_bool b
    | int b => obtain ⟨t, rfl⟩ := rx; exact SeqAt.EqAt.none_int b t
    | str b => obtain ⟨t, rfl⟩ := rx; exact SeqAt.EqAt.none_str b t
    | _ => exact absurd (show false = true from fx) Bool.false_ne_true
  | bl a =>
    cases ry
    cases x with
    | non => cases rx; exact SeqAt.EqAt.bool_none a
    | bl b => cases rx; exact SeqAt.EqAt.bool_bool a b
    | int b => obtain ⟨t, rfl⟩ := rx; exact SeqAt.EqAt.bool_int a b t
    | str b => obtain ⟨t, rfl⟩ := rx; exact SeqAt.EqAt.bool_str a b t
    | _ => exact absurd (show false = true from fx) Bool.false_ne_true
  | int a =>
    obtain ⟨t', rfl⟩ := ry
    cases x with
    | non => cases rx; exact SeqAt.EqAt.int_none a t'
    | bl b => cases rx; exact SeqAt.EqAt.int_bool a t' b
    | int b => obtain ⟨t, rfl⟩ := rx; exact SeqAt.EqAt.int_int a t' b t
    | str b => obtain ⟨t, rfl⟩ := rx; exact SeqAt.EqAt.int_str a t' b t
    | _ => exact absurd (show false = true from fx) Bool.false_ne_true
  | str a =>
    obtain ⟨t', rfl⟩ := ry
    cases x with
    | non => cases rx; exact SeqAt.EqAt.str_none a t'
    | bl b => cases rx; exact SeqAt.EqAt.str_bool a t' b
    | int b => obtain ⟨t, rfl⟩ := rx; exact SeqAt.EqAt.str_int a t' b t
    | str b => obtain ⟨t, rfl⟩ := rx; exact SeqAt.EqAt.str_str a t' b t
    | _ => exact absurd (show false = true from fx) Bool.false_ne_true
  | _ => exact absurd (show false = true from fy) Bool.false_ne_true
/-- the items' answers, read off the values (a value's own answer does not lean on its token) -/
def eqU (x : V) (u : Value) : Bool := match u with
  | .none => eqV .non x
  | .bool b => eqV (.bl b) x
  | .int i _ => eqV (.int i) x
  | .str z _ => eqV (.str z) x
  | _ => false
theorem eqU_of {x y : V} {u : Value} (r : RelV y u) (f : flatV y = true) : eqU x u = eqV y x := by
  cases y with
  | non => cases r; rfl
  | bl b => cases r; rfl
  | int i => obtain ⟨t, rfl⟩ := r; rfl
  | str z => obtain ⟨t, rfl⟩ := r; rfl
  | _ => exact absurd (show false = true from f) Bool.false_ne_true
theorem any_eqU {x : V} : ∀ {xs : List V} {us : List Value}, Vals xs us → xs.all flatV = true → us.any (eqU x) = xs.any fun y => eqV y x
  | _, _, .nil, _ => rfl
  | y :: xs, u :: us, .cons r t, f => by
    rw [List.all_cons, Bool.and_eq_true] at f
    rw [List.any_cons, List.any_cons, eqU_of r f.1, any_eqU t f.2]
theorem mem_eqAt {A : Around} {s : Shared} {x : V} {v : Value} (rx : RelV x v) (fx : flatV x = true) : ∀ {xs : List V} {us : List Value}, Vals xs us → xs.all flatV = true → ∀ u ∈ us, SeqAt.EqAt A s u v (eqU x u)
  | _, _, .nil, _ => fun u hu => by cases hu
  | y :: xs, u :: us, .cons r t, f => fun u' hu => by
    rw [List.all_cons, Bool.and_eq_true] at f
    rcases List.mem_cons.mp hu with rfl | hu
    · rw [eqU_of r f.1]; exact eqAt_V r rx f.1 fx
    · exact mem_eqAt rx fx t f.2 u' hu
def inV (x : V) (xs : List V) : Bool := xs.any fun y => eqV y x
/-- x in a list or tuple of flat items -/
def rIn (K : PySem.W.Frag) (neg : Bool) : R2 := fun x y H Q => ∃ p xs, y = .ref p ∧ (SqL K H p xs ∨ SqT K H p xs) ∧ flatV x = true ∧ xs.all flatV = true ∧ Q (.bl (if neg then !inV x xs else inV x xs)) H
theorem op_in_seq : OpR X (compareOp .In) (rIn X.K false) := by
  intro pins s σ H x y v u Q I rx ry h
  obtain ⟨p, xs, rfl, hq, fx, fs, q⟩ := h
  cases ry
  rcases hq with hq | hq
  · obtain ⟨its, r, pl, hz⟩ := I.list hq
    refine SeqAt.in_listAt (eqU x) pl.isList (fun w hw => mem_eqAt rx fx r fs w (by simpa using hw)) ⟨.bl _, H, I, rfl, ?_⟩
    rw [show its.toArray.any (eqU x) = its.any (eqU x) by simp, any_eqU r fs]
    exact q
  · obtain ⟨its, r, pl, hz⟩ := I.tuple hq
    refine SeqAt.in_tupleAt (eqU x) pl (fun w hw => mem_eqAt rx fx r fs w (by simpa using hw)) ⟨.bl _, H, I, rfl, ?_⟩
    rw [show its.toArray.any (eqU x) = its.any (eqU x) by simp, any_eqU r fs]
    exact q
/-! ### len, list(x), tuple(x) of any list or tuple that is read -/
theorem call_len_seq : CallR X (.builtin "len") (fun xs H Q => ∃ p ys, xs = [.ref p] ∧ (SqL X.K H p ys ∨ SqT X.K H p ys) ∧ Q (.int ys.length) H) := by
  intro pins s σ H xs us Q I r h
  obtain ⟨p, ys, rfl, hq, q⟩ := h
  obtain ⟨u, rfl, rx⟩ := vals1 r
  cases rx
  have hn := line63
  rcases hq with hq | hq
  · obtain ⟨its, r', pl, hz⟩ := I.list hq
    have hlen := r'.length
    exact Calls.call_len_list pl.isList (by simp only [List.size_toArray] <;> omega) ⟨.int ys.length, H, I.tok _, ⟨s.toks + 1, by rw [List.size_toArray, hlen]⟩, q⟩
  · obtain ⟨its, r', pl, hz⟩ := I.tuple hq
    have hlen := r'.length
    exact len_tuple pl (by simp only [List.size_toArray] <;> omega) ⟨.int ys.length, H, I.tok _, ⟨s.toks + 1, by rw [List.size_toArray, hlen]⟩, q⟩
theorem call_len_str : CallR X (.builtin "len") (fun xs H Q => ∃ z, xs = [.str z] ∧ z.length ≤ sizeLine ∧ Q (.int z.length) H) := by
  intro pins s σ H xs us Q I r h
  obtain ⟨z, rfl, hz, q⟩ := h
  obtain ⟨u, rfl, t, rfl⟩ := vals1 r
  have hn := line63
  exact len_str (by omega) ⟨.int z.length, H, I.tok _, ⟨_, rfl⟩, q⟩
theorem CallR.or {f : Value} {r r' : List V → Hp → VK → Prop} (h : CallR X f r) (h' : CallR X f r') : CallR X f (fun xs H Q => r xs H Q ∨ r' xs H Q) := by
  intro pins s σ H xs us Q I rs q
  rcases q with q | q
  · exact h pins s σ H xs us Q I rs q
  · exact h' pins s σ H xs us Q I rs q
theorem call_list_of : CallR X (.type "list") (fun xs H Q => ∃ p ys, xs = [.ref p] ∧ (SqL X.K H p ys ∨ SqT X.K H p ys) ∧ ∀ l, H l = none → Q (.ref l) (upd H l (.lst ys))) := by
  intro pins s σ H xs us Q I r h
  obtain ⟨p, ys, rfl, hq, q⟩ := h
  obtain ⟨u, rfl, rx⟩ := vals1 r
  cases rx
  have fin : ∀ (its : List Value), Vals ys its → ys.length ≤ sizeLine → ∀ (h' : Heap) (c' : Nat), (∀ b o', s.heap.get? b = some o' → h'.get? b = some o') →
      h'.get? s.heap.objs.size = some { cls := .type "list", dict := none, data := .seq its.toArray c', slots := #[] } → EP X pins σ Q (.ref s.heap.objs.size) { s with heap := h' } := fun its r' hz h' c' kp e =>
    ⟨.ref s.heap.objs.size, _, I.laid (t' := s.toks) kp (Nat.le_refl _) (show ObjOk X.prog X.w _ h' _ (.lst ys) from ⟨hz, its, c', r', e⟩), rfl, q _ (I.hok.fresh (Nat.le_refl _))⟩
  rcases hq with hq | hq
  · obtain ⟨its, r', pl, hz⟩ := I.list hq
    have hlen := r'.length
    obtain ⟨o, ho, hc, n, hd⟩ := pl.isList
    exact call_list_seq p (.inl rfl) ho hc hd (fun h' c' kp e => fin its r' hz h' c' kp e) (by simp only [List.size_toArray] <;> omega)
  · obtain ⟨its, r', pl, hz⟩ := I.tuple hq
    have hlen := r'.length
    obtain ⟨o, ho, hc, n, hd⟩ := pl
    exact call_list_seq p (.inr rfl) ho hc hd (fun h' c' kp e => fin its r' hz h' c' kp e) (by simp only [List.size_toArray] <;> omega)
theorem call_tuple_of : CallR X (.type "tuple") (fun xs H Q => ∃ p ys, xs = [.ref p] ∧ ((SqL X.K H p ys ∧ ∀ l, H l = none → Q (.ref l) (upd H l (.tup ys))) ∨ (SqT X.K H p ys ∧ Q (.ref p) H))) := by
  intro pins s σ H xs us Q I r h
  obtain ⟨p, ys, rfl, h⟩ := h
  obtain ⟨u, rfl, rx⟩ := vals1 r
  cases rx
  rcases h with ⟨hq, q⟩ | ⟨hq, q⟩
  · obtain ⟨its, r', pl, hz⟩ := I.list hq
    have hlen := r'.length
    refine call_tuple_list pl.isList (fun h' kp => ?_) (by simp only [List.size_toArray] <;> omega)
    have I1 : Inv X pins σ H { s with heap := h' } := I.kept (t' := s.toks) kp
    have I2 : Inv X pins σ (upd H h'.objs.size (.tup ys)) { s with heap := h'.push { cls := .type "tuple", data := .seq its.toArray } } :=
      I1.laid (t' := s.toks) (fun b o e => Heap.get?_push_of_some _ e) (Nat.le_refl _) (show ObjOk X.prog X.w _ _ _ (.tup ys) from ⟨hz, its, r', IsTup.new _ _⟩)
    exact ⟨.ref h'.objs.size, _, I2, rfl, q _ (I1.hok.fresh (Nat.le_refl _))⟩
  · obtain ⟨its, r', pl, hz⟩ := I.tuple hq
    exact call_tuple_same pl ⟨.ref p, H, I, rfl, q⟩

/-! ### the call of a builtin's method: o.m(..) -/
/-- the value is of that builtin type -/
def tyV (K : PySem.W.Frag) (T : String) (x : V) (H : Hp) : Prop := match x with
  | .str _ => T = "str"
  | .int _ => T = "int"
  | .ref p => (T = "list" ∧ ∃ xs, SqL K H p xs) ∨ (T = "tuple" ∧ ∃ o, K.lookup p = some o ∧ o.cls = .type "tuple" ∧ o.dict = none) ∨
      (T = "dict" ∧ ((∃ kvs, H p = some (.dK kvs)) ∨ ∃ kvs, H p = some (.dT kvs))) ∨ (T = "set" ∧ ∃ S n, H p = some (.set S n))
  | _ => False
theorem tyV_is {pins : List (Addr × Obj)} {σ : St} {H : Hp} {s : Shared} {T : String} {x : V} {v : Value} (I : Inv X pins σ H s) (r : RelV x v) (ty : tyV X.K T x H) :
    s.TypeIs v T ∧ ∀ a, v = .ref a → ∃ ob, s.heap.get? a = some ob ∧ ob.dict = none := by
  cases x with
  | str z =>
    obtain ⟨t, rfl⟩ := r
    cases (show T = "str" from ty)
    exact ⟨typeIs_str s z t, fun _ e => nomatch e⟩
  | int i =>
    obtain ⟨t, rfl⟩ := r
    cases (show T = "int" from ty)
    exact ⟨typeIs_int s i t, fun _ e => nomatch e⟩
  | ref p =>
    cases r
    rcases ty with ⟨rfl, xs, hq⟩ | ⟨rfl, o, hk, hc, hd⟩ | ⟨rfl, hk⟩ | ⟨rfl, S, n, hk⟩
    · obtain ⟨its, _, pl, _⟩ := I.list hq
      refine ⟨pl.isList.typeIs, fun a e => ?_⟩
      cases e
      obtain ⟨o, n, e, c, hd, _⟩ := pl
      exact ⟨o, e, hd⟩
    · refine ⟨⟨o, I.kIn p o hk, hc⟩, fun a e => ?_⟩
      cases e
      exact ⟨o, I.kIn _ o hk, hd⟩
    · have z : ∃ o, s.heap.get? p = some o ∧ o.ExactDict := by
        rcases hk with ⟨kvs, hk⟩ | ⟨kvs, hk⟩
        · obtain ⟨_, _, _, _, o, _, _, e, ex, _⟩ := I.hok p _ hk
          exact ⟨o, e, ex⟩
        · obtain ⟨_, _, _, _, o, _, _, e, ex, _⟩ := I.hok p _ hk
          exact ⟨o, e, ex⟩
      obtain ⟨o, e, ex⟩ := z
      refine ⟨⟨o, e, ex.1⟩, fun a e2 => ?_⟩
      cases e2
      exact ⟨o, e, ex.2.1⟩
    · obtain ⟨o, _, _, _, e, ex, _⟩ := I.hok p _ hk
      refine ⟨⟨o, e, ex.1⟩, fun a e2 => ?_⟩
      cases e2
      exact ⟨o, e, ex.2.1⟩
  | _ => exact False.elim ty
def tBM (K : PySem.W.Frag) (T : String) (r : V → List V → Hp → VK → Prop) (to : TE) (t : TA) : TE := fun σ H Q => to σ H fun x H1 => tyV K T x H1 ∧ t σ H1 fun xs H2 => r x xs H2 Q
variable {o e : Expr} {es : List Expr} {to : TE} {t : TA} {name : Str} {apos cpos : Pos} {T id : String} {r : V → List V → Hp → VK → Prop}
theorem pe_bm (pa : PlainAttrs T) (slot : Slot T name id) (hty : typeOf (.builtin id) = pure (.type "method_descriptor")) (hm : MtR X id r) (ho : PE X o to) (ha : PA X (e :: es) t)
    (hbase : attributeBase o name X.env (eval o X.env) = eval o X.env := by rfl)
    (hfew : ((backTo cpos (starEach (e :: es) X.env)).all (fun x => !x.1) && (backToKw cpos (keywordEach [] X.env)).all (fun x => x.1.isSome)
      && decide ((e :: es).length + ([] : List Keyword).length + (if ([] : List Keyword).isEmpty then 0 else 1) < 30)) = true := by rfl)
    (hline : (apos.endLine == cpos.line) = true := by rfl) (hs : starEach (e :: es) X.env = (false, eval e X.env) :: starEach es X.env := by rfl) (hplain : (backTo cpos (starEach es X.env)).any (·.1) = false := by rfl) :
    PE X (.Call (.Attribute o name apos) (e :: es) [] cpos) (tBM X.K T r to t) := by
  intro pins s σ H Q I h
  refine wpAny_Call_method_late hbase hfew hline rfl (thn (ho pins s σ H _ I h) fun v s1 ⟨x, H1, I1, r1, ty, q1⟩ => ?_)
  obtain ⟨h1, h2⟩ := tyV_is I1 r1 ty
  refine ⟨T, id, pa, slot, hty, h1, h2, ?_⟩
  have hA := ha cpos pins s1 σ H1 _ I1 q1
  rw [hs] at hA ⊢
  refine Calls.callWith_builtin (by show (false || (backTo cpos (starEach es X.env)).any (·.1)) = false; rw [hplain] <;> rfl) (Calls.evalArgs_plain ?_)
  exact thn hA fun us s2 ⟨vs, H2, I2, r2, q2⟩ => hm pins s2 σ H2 x vs v us Q I2 r1 r2 q2
/- xs.append(e), list.index on a module's tuple .. are MtR facts of 06m -/
end
end L2

namespace L2
open PySem PySem.Spec PyProof.Rows

def MtM (X : Cx) (id : String) (r : V → List V → Hp → VK → Prop) : Prop :=
  ∀ (pins : List (Addr × Obj)) (s : Shared) (σ : St) (H : Hp) (x : V) (xs : List V) (v : Value) (us : List Value) (Q : VK), Inv X pins σ H s → RelV x v → Vals xs us → r x xs H Q →
    wpAny (model X.prog X.w) X.A (call (.builtin id) (v :: us)) (EP X pins σ Q) X.xe s

/-! ### lists of values -/
theorem Vals.one : ∀ {x : V} {us : List Value}, Vals [x] us → ∃ u, us = [u] ∧ RelV x u
  | _, _, .cons r .nil => ⟨_, rfl, r⟩
theorem Vals.two : ∀ {x y : V} {us : List Value}, Vals [x, y] us → ∃ u v, us = [u, v] ∧ RelV x u ∧ RelV y v
  | _, _, _, .cons r (.cons q .nil) => ⟨_, _, rfl, r, q⟩
theorem Vals.zero : ∀ {us : List Value}, Vals [] us → us = []
  | _, .nil => rfl
theorem Vals.dropLast {xs : List V} {us : List Value} (h : Vals xs us) : Vals xs.dropLast us.dropLast := by
  induction h with
  | nil => exact .nil
  | cons r t ih =>
    cases t with
    | nil => exact .nil
    | cons q t' => exact .cons r ih
theorem Vals.eraseIdx : ∀ {xs : List V} {us : List Value} (i : Nat), Vals xs us → Vals (xs.eraseIdx i) (us.eraseIdx i)
  | _, _, _, .nil => .nil
  | _, _, 0, .cons _ t => t
  | _, _, i + 1, .cons r t => .cons r (Vals.eraseIdx i t)
theorem Vals.reverse {xs : List V} {us : List Value} (h : Vals xs us) : Vals xs.reverse us.reverse := by
  induction h with
  | nil => exact .nil
  | cons r t ih => rw [List.reverse_cons, List.reverse_cons]; exact Vals.append ih (.cons r .nil)
theorem Vals.rep {xs : List V} {us : List Value} (h : Vals xs us) : ∀ k : Nat, Vals (List.replicate k xs).flatten (List.replicate k us).flatten
  | 0 => .nil
  | k + 1 => by
    rw [List.replicate_succ, List.replicate_succ, List.flatten_cons, List.flatten_cons]
    exact Vals.append h (Vals.rep h k)
theorem foldl_rep (its : List Value) : ∀ (k : Nat) (acc : List Value),
    List.foldl (fun x1 x2 => x1 ++ x2) acc.toArray (List.replicate k its.toArray) = (acc ++ (List.replicate k its).flatten).toArray
  | 0, acc => by simp
  | k + 1, acc => by
    have e : acc.toArray ++ its.toArray = (acc ++ its).toArray := by simp
    have e2 : (acc ++ its) ++ (List.replicate k its).flatten = acc ++ (List.replicate (k + 1) its).flatten := by
      rw [List.replicate_succ, List.flatten_cons, List.append_assoc]
    rw [← e2, ← foldl_rep its k (acc ++ its), ← e, List.replicate_succ, List.foldl_cons]

section
variable {X : Cx} {pins : List (Addr × Obj)} {σ : St} {H : Hp} {s : Shared} {l b : Addr} {xs ys zs : List V}

/-! ### the two steps: a tracked list is rewritten, a new list is laid -/
theorem Inv.lset {its its' : List Value} {n : Nat} {f : Array Value → Array Value} {t' : Nat} (I : Inv X pins σ H s) (hH : H l = some (.lst xs))
    (e : s.heap.get? l = some { cls := .type "list", data := .seq its.toArray n }) (hf : f its.toArray = its'.toArray) (hv : Vals ys its') (hz : ys.length ≤ sizeLine) :
    Inv X pins σ (upd H l (.lst ys)) { s with heap := s.heap.update l (Obj.mapSeq f), toks := t' } := by
  have q := PySem.IsL.update e f
  rw [hf] at q
  refine I.write (x := l) (e := l) (by rw [hH]; exact trivial) (.inl rfl) (fun b' u hb hu => (Heap.get?_update_other s.heap (Obj.mapSeq f) (Ne.symm hb)).trans hu) ⟨_, q⟩ ?_
  exact ⟨hz, its', _, hv, q⟩
theorem Inv.lnew {its : List Value} {t' : Nat} (I : Inv X pins σ H s) (hv : Vals ys its) (hz : ys.length ≤ sizeLine) :
    Inv X pins σ (upd H s.heap.objs.size (.lst ys)) { s with heap := s.heap.push { cls := .type "list", data := .seq its.toArray }, toks := t' } :=
  I.laid (fun _ _ q => Heap.get?_push_of_some _ q) (Nat.le_refl _) ⟨hz, its, 0, hv, Heap.get?_push_size _ rfl⟩
theorem Inv.fresh (I : Inv X pins σ H s) : H s.heap.objs.size = none := I.hok.fresh (Nat.le_refl _)
theorem Inv.lstM (I : Inv X pins σ H s) (hH : H l = some (.lst xs)) : xs.length ≤ sizeLine ∧ ∃ (its : List Value) (n : Nat), Vals xs its ∧ xs.length = its.length ∧ s.heap.get? l = some { cls := .type "list", data := .seq its.toArray n } := by
  obtain ⟨z, its, n, r, e⟩ := I.hok l _ hH
  exact ⟨z, its, n, r, r.length, e⟩

end

section
variable {X : Cx}

/-! ### methods -/
def rAppend : V → List V → Hp → VK → Prop := fun x vs H Q => ∃ l xs y, x = .ref l ∧ vs = [y] ∧ H l = some (.lst xs) ∧ xs.length < sizeLine ∧ Q .non (upd H l (.lst (xs ++ [y])))
theorem mt_append : MtM X "list.append" rAppend := by
  intro pins s σ H x vs v us Q I rx rv h
  obtain ⟨l, xs, y, rfl, rfl, hH, hz, q⟩ := h
  cases rx
  obtain ⟨u, rfl, ru⟩ := rv.one
  obtain ⟨z, its, n, r, hl, e⟩ := I.lstM hH
  refine call_meets F.slot_list_append ⟨_, e, rfl⟩ F.entry_list_append (F.args_list_append_2 _ _) (PySem.list_append l its.toArray n u (by rw [List.size_toArray]; omega)) ⟨e, ?_⟩
  refine ⟨.non, _, I.lset (its' := its ++ [u]) hH e (by simp) (r.append (.cons ru .nil)) ?_, rfl, q⟩
  rw [List.length_append, List.length_singleton]
  omega

/-! ### list + list, list += list, list * int -/
def rCat : R2 := fun x y H Q => ∃ l b xs zs, x = .ref l ∧ y = .ref b ∧ H l = some (.lst xs) ∧ H b = some (.lst zs) ∧ xs.length + zs.length ≤ sizeLine ∧ ∀ p, H p = none → Q (.ref p) (upd H p (.lst (xs ++ zs)))
theorem op_cat : OpR X (binaryOp .Add) rCat := by
  intro pins s σ H x y v u Q I rx ry h
  obtain ⟨l, b, xs, zs, rfl, rfl, hH, hB, hz, q⟩ := h
  cases rx
  cases ry
  obtain ⟨z, its, n, r, hl, e⟩ := I.lstM hH
  obtain ⟨z2, its2, n2, r2, hl2, e2⟩ := I.lstM hB
  refine PySem.P.add_list e e2 ?_ (by rw [List.size_toArray, List.size_toArray]; omega)
  have ea : its.toArray ++ its2.toArray = (its ++ its2).toArray := by simp
  rw [ea]
  exact ⟨.ref _, _, I.lnew (t' := s.toks) (r.append r2) (by rw [List.length_append]; omega), rfl, q _ I.fresh⟩
/-! ### del xs[i] -/
end

/-! ### xs[a:b] = ys -/
section
variable {prog : Program} {w : World} {A : Around} {E : Value → Shared → Prop} {s : Shared}
set_option maxRecDepth 100000 in
end

section
variable {X : Cx}
end
end L2

namespace L2
open PySem PySem.Spec PyProof.Rows

theorem Vals.ints : ∀ {ns : List Int} {us : List Value}, Vals (ns.map V.int) us → IntsAre us ns
  | [], us, h => by
    rw [List.map_nil] at h
    cases h
    exact IntsAre.nil
  | n :: ns, us, h => by
    rw [List.map_cons] at h
    cases h with
    | cons r t =>
      obtain ⟨k, rfl⟩ := r
      exact IntsAre.cons n k (Vals.ints t)
theorem Vals.strs : ∀ {xs : List Str} {us : List Value}, Vals (xs.map V.str) us → StrsAre us xs
  | [], us, h => by
    rw [List.map_nil] at h
    cases h
    exact StrsAre.nil
  | x :: xs, us, h => by
    rw [List.map_cons] at h
    cases h with
    | cons r t =>
      obtain ⟨k, rfl⟩ := r
      exact StrsAre.cons x k (Vals.strs t)
theorem Vals.bls : ∀ {bs : List Bool} {us : List Value}, Vals (bs.map V.bl) us → us = bs.map Value.bool
  | [], us, h => by
    rw [List.map_nil] at h
    cases h
    rfl
  | b :: bs, us, h => by
    rw [List.map_cons] at h
    cases h with
    | cons r t =>
      cases r
      rw [Vals.bls t, List.map_cons]
theorem Vals.ref1 {a : Addr} {us : List Value} (r : Vals [V.ref a] us) : us = [Value.ref a] := by
  cases r with
  | cons r t =>
    cases t
    cases r
    rfl
/-! ### the library's walks over a list of ints, kept objects alone -/
section
variable {prog : Program} {w : World} {A : Around} {E : Value → Shared → Prop} {s : Shared} {l : Addr} {its : List Value} {ns : List Int} {Q : Value → Shared → Prop}
theorem sum_raw (hh : A.handled = none) (hl : s.heap.IsList l its.toArray) (hi : IntsAre its ns)
    (h : ∀ h' tk t', (∀ b o, s.heap.get? b = some o → h'.get? b = some o) → Q (.int ns.sum t') { s with heap := h', toks := tk }) : wpAny (model prog w) A (call (.builtin "sum") [.ref l]) Q E s := by
  obtain ⟨xs, e⟩ := hi.allInts.items
  have hn : numsOf (intItems xs).toList = ns := by rw [← e]; exact hi.numsOf
  rw [nums_intItems] at hn
  rw [e] at hl
  refine PySem.sum_intListG hh hl fun h' tk t' hk => ?_
  have := h h' tk t' hk
  rw [preSum_eq, List.take_of_length_le (by simp), hn]; exact this
end

/-! ### the calls, by values (CallR of 03t; MtR of 06l) -/
section
variable {X : Cx}
/-- sum(xs) of a list of ints -/
def rSum (K : PySem.W.Frag) : List V → Hp → VK → Prop := fun vs H Q => ∃ (a : Addr) (ns : List Int), vs = [V.ref a] ∧ SqL K H a (ns.map V.int) ∧ Q (.int ns.sum) H
theorem cr_sum (hc : X.calm = true) : CallR X (.builtin "sum") (rSum X.K) := by
  intro pins s σ H vs us Q I r h
  obtain ⟨a, ns, rfl, hs, q⟩ := h
  obtain ⟨its, rv, hl, _⟩ := I.list hs
  rw [Vals.ref1 r]
  exact sum_raw (I.ok.hd hc) hl.isList rv.ints fun h' tk t' hk => ⟨.int _, H, I.kept hk, ⟨_, rfl⟩, q⟩
/-! sorted, sort (fewer than 64 items: the library's own bound) -/
end

/-! ### list.index, flat items -/
section
variable {X : Cx}
end

/-! ### type(x) of an own instance; is, is not of a module's class -/
section
variable {X : Cx}
end

/-! ### any(xs), all(xs) of a list of bools -/
theorem iter_any {prog : Program} {w : World} {A : Around} {E : Value → Shared → Prop} {s : Shared} {l : Addr} {items : Array Value} {Q : Value → Shared → Prop} (hl : s.heap.IsList l items)
    (h : ∀ s₂ : Shared, s₂ = { s with heap := s.heap.push { cls := .type "list_iterator", data := .fields #[.ref l, .int 0 0] } } →
      (s₂.heap.IsListIter s.heap.objs.size l 0 ∧ s₂.heap.IsList l items) → l ≠ s.heap.objs.size → Q (.ref s.heap.objs.size) s₂) : wpAny (model prog w) A (pyIter (.ref l)) Q E s := by
  have hlt : l < s.heap.objs.size := by obtain ⟨_, e, _⟩ := hl; exact Heap.lt_size e
  exact wpAny_pyIter_list hl (h _ rfl ⟨⟨_, Heap.get?_push_size _ rfl, rfl, rfl⟩, hl.push _⟩ (Nat.ne_of_lt hlt))
theorem truth_bools {prog : Program} {w : World} {A : Around} {bs : List Bool} {its : List Value} (e : its = bs.map Value.bool) :
    TruthOf prog w A (fun i v => its.toArray[i]? = some v) (fun i => bs.getD i false) := fun i v s Q E hv hq => by
  have hv' : its[i]? = some v := by simpa using hv
  rw [e, List.getElem?_map] at hv'
  obtain ⟨b, hb, rfl⟩ := Option.map_eq_some_iff.mp hv'
  have hg : bs.getD i false = b := by rw [List.getD_eq_getElem?_getD, hb] <;> rfl
  have hq' : Q (bs.getD i false) s := hq
  rw [hg] at hq'
  exact wpAny_truthy_bool hq'
theorem all_range : ∀ bs : List Bool, (List.range bs.length).all (fun i => bs.getD i false) = bs.all id
  | [] => rfl
  | b :: bs => by
    rw [List.length_cons, List.range_succ_eq_map, List.all_cons, List.all_map, List.all_cons, ← all_range bs]
    all_goals rfl
section
variable {X : Cx}
def rAll (K : PySem.W.Frag) : List V → Hp → VK → Prop := fun vs H Q => ∃ (a : Addr) (bs : List Bool), vs = [V.ref a] ∧ SqL K H a (bs.map V.bl) ∧ Q (.bl (bs.all id)) H
theorem cr_all (hc : X.calm = true) : CallR X (.builtin "all") (rAll X.K) := by
  intro pins s σ H vs us Q I r h
  obtain ⟨a, bs, rfl, hs, q⟩ := h
  obtain ⟨its, rv, hl, _⟩ := I.list hs
  rw [Vals.ref1 r]
  have hb := rv.bls
  refine call_all_walk (iter_any hl.isList fun s₂ e2 st hne => ?_)
  subst e2
  refine ⟨_, _, _, _, _, _, _, rfl, Walks.list (A := X.A.in1) (I.ok.hd hc) _ a hne its.toArray, st, truth_bools hb, fun h' tk hk => ?_⟩
  refine ⟨.bl _, H, I.kept fun b o eo => hk b o (fun hmem => ?_) (Heap.get?_push_of_some _ eo), ?_, q⟩
  · rcases List.mem_cons.mp hmem with e1 | hmem
    · exact absurd (e1 ▸ Heap.lt_size eo) (Nat.lt_irrefl _)
    · cases hmem
  · show Value.bool _ = Value.bool _
    rw [← all_range, hb, List.size_toArray, List.length_map]
end

/-! ### == and != of data at any depth: none, bools, ints, texts, lists, tuples -/
mutual
inductive Dp (K : PySem.W.Frag) (H : Hp) : V → PyData → Prop
  | non : Dp K H .non .none
  | bl (b : Bool) : Dp K H (.bl b) (.bool b)
  | int (i : Int) : Dp K H (.int i) (.int i)
  | str (x : Str) : Dp K H (.str x) (.str x)
  | lst {a : Addr} {xs : List V} {ds : List PyData} : SqL K H a xs → DpAll K H xs ds → Dp K H (.ref a) (.list ds)
  | tup {a : Addr} {xs : List V} {ds : List PyData} : SqT K H a xs → DpAll K H xs ds → Dp K H (.ref a) (.tuple ds)
inductive DpAll (K : PySem.W.Frag) (H : Hp) : List V → List PyData → Prop
  | nil : DpAll K H [] []
  | cons {v : V} {vs : List V} {d : PyData} {ds : List PyData} : Dp K H v d → DpAll K H vs ds → DpAll K H (v :: vs) (d :: ds)
end
section
variable {X : Cx} {pins : List (Addr × Obj)} {σ : St} {H : Hp} {s : Shared}
mutual
theorem Dp.reads (I : Inv X pins σ H s) : ∀ (d : PyData) (v : V) (u : Value), Dp X.K H v d → RelV v u → ∃ as, Reads s.heap u d as
  | .none, _, _, h, r => by
    cases h
    cases r
    exact ⟨_, Reads.none⟩
  | .bool b, _, _, h, r => by
    cases h
    cases r
    exact ⟨_, Reads.bool b⟩
  | .int i, _, _, h, r => by
    cases h
    obtain ⟨t, rfl⟩ := r
    exact ⟨_, Reads.int i t⟩
  | .str x, _, _, h, r => by
    cases h
    obtain ⟨t, rfl⟩ := r
    exact ⟨_, Reads.str x t⟩
  | .list ds, _, _, h, r => by
    cases h with
    | lst hs ha =>
      cases r
      obtain ⟨its, rv, ⟨o, n, ho, hc, _, hd⟩, _⟩ := I.list hs
      obtain ⟨as, hr⟩ := Dp.readsAll I ds _ its ha rv
      exact ⟨_, Reads.list ho hc hd hr⟩
  | .tuple ds, _, _, h, r => by
    cases h with
    | tup hs ha =>
      cases r
      obtain ⟨its, rv, ⟨o, ho, hc, n, hd⟩, _⟩ := I.tuple hs
      obtain ⟨as, hr⟩ := Dp.readsAll I ds _ its ha rv
      exact ⟨_, Reads.tuple ho hc hd hr⟩
  | .dict _, _, _, h, _ => by cases h
theorem Dp.readsAll (I : Inv X pins σ H s) : ∀ (ds : List PyData) (vs : List V) (us : List Value), DpAll X.K H vs ds → Vals vs us → ∃ as, ReadsAll s.heap us ds as
  | [], _, _, h, r => by
    cases h
    cases r
    exact ⟨_, ReadsAll.nil⟩
  | d :: ds, _, _, h, r => by
    cases h with
    | cons h1 h2 =>
      cases r with
      | cons r1 r2 =>
        obtain ⟨as, q1⟩ := Dp.reads I d _ _ h1 r1
        obtain ⟨bs, q2⟩ := Dp.readsAll I ds _ _ h2 r2
        exact ⟨_, ReadsAll.cons q1 q2⟩
end
end
section
variable {X : Cx}
def rNeD (K : PySem.W.Frag) : R2 := fun x y H Q => ∃ d e, Dp K H x d ∧ Dp K H y e ∧ SeqAt.shaped d = true ∧ SeqAt.shaped e = true ∧ Q (.bl (!PyData.eqv d e)) H
theorem op_neD (hu : X.A.units + 64 < cLine) : OpR X (compareOp .NotEq) (rNeD X.K) := by
  intro pins s σ H x y v u Q I rx ry h
  obtain ⟨d, e, hd, he, sd, se, q⟩ := h
  obtain ⟨as, r1⟩ := Dp.reads I d x v hd rx
  obtain ⟨bs, r2⟩ := Dp.reads I e y u he ry
  exact SeqAt.compareNe_shaped r1 r2 sd se hu ⟨.bl _, H, I, rfl, q⟩
end
end L2

namespace L2
open PySem PySem.Spec PyProof.Rows
abbrev CellAt (h : Heap) (c : Addr) (v : Option Value) : Prop := h.IsCell c v
def relS (scope sc : Scope) : Scope :=
  { scope with names := scope.names.map fun (n, k) => if (k == .free && sc.kind == .function && sc.names.lookup n == some .cell) then (n, .cell) else (n, k) }

def cloFrom (cells : List (Str × Addr)) : List (Str × NameKind) → List (Str × Addr) → List (Str × Addr)
  | [], acc => acc
  | (n, k) :: r, acc => if k == .free then cloFrom cells r ((n, (cells.lookup n).getD 0) :: acc) else cloFrom cells r acc

theorem closure_loop (env : Env) (f : Str × NameKind → List (Str × Addr) → Sem (ForInStep (List (Str × Addr))))
    (hf : ∀ n k c, f (n, k) c = if k == .free then (do let a ← cellOf env n; pure (.yield ((n, a) :: c))) else pure (.yield c)) :
    ∀ (names : List (Str × NameKind)) (acc : List (Str × Addr)), (∀ y ∈ names, y.2 = .free → ∃ c, env.cells.lookup y.1 = some c) → forIn names acc f = pure (cloFrom env.cells names acc)
  | [], acc, _ => by rw [List.forIn_nil]; rfl
  | (n, k) :: r, acc, h => by
    rw [List.forIn_cons, hf]
    have ih := fun acc => closure_loop env f hf r acc fun y hy => h y (List.mem_cons_of_mem _ hy)
    unfold cloFrom
    by_cases hk : (k == NameKind.free) = true
    · rw [if_pos hk, if_pos hk]
      obtain ⟨c, hc⟩ := h (n, k) List.mem_cons_self (by simpa using hk)
      have e : cellOf env n = pure c := by unfold cellOf; rw [hc]
      rw [e]
      have e2 : (env.cells.lookup n).getD 0 = c := by rw [hc]; rfl
      rw [e2]
      exact ih _
    · rw [if_neg hk, if_neg hk]
      exact ih _
theorem closure_ok {scope : Scope} {env : Env} (h : ∀ y ∈ scope.names, y.2 = .free → ∃ c, env.cells.lookup y.1 = some c) : closureFor scope env = pure (cloFrom env.cells scope.names []) := by
  simp only [closureFor]
  rw [closure_loop env _ (fun n k c => rfl) scope.names [] h]
  rfl

theorem mem_lookup {α : Type} : ∀ {l : List (Str × α)} {n : Str} {c : α}, (n, c) ∈ l → ∃ c', l.lookup n = some c'
  | (k, v) :: r, n, c, h => by
    rw [List.lookup_cons]
    cases hb : n == k with
    | true => exact ⟨_, rfl⟩
    | false =>
      rcases List.mem_cons.mp h with e | h
      · cases e; simp at hb
      · exact mem_lookup h

theorem cloFrom_mem {cells : List (Str × Addr)} : ∀ {names : List (Str × NameKind)} {acc : List (Str × Addr)} {n : Str} {c : Addr}, (n, c) ∈ cloFrom cells names acc → (n, c) ∈ acc ∨ ((n, .free) ∈ names ∧ c = (cells.lookup n).getD 0)
  | [], _, _, _, h => .inl h
  | (m, k) :: r, acc, n, c, h => by
    unfold cloFrom at h
    split at h
    · rename_i hk
      have hk : k = .free := by simpa using hk
      rcases cloFrom_mem h with h | ⟨h1, h2⟩
      · rcases List.mem_cons.mp h with e | h
        · cases e; exact .inr ⟨hk ▸ List.mem_cons_self, rfl⟩
        · exact .inl h
      · exact .inr ⟨List.mem_cons_of_mem _ h1, h2⟩
    · rcases cloFrom_mem h with h | ⟨h1, h2⟩
      · exact .inl h
      · exact .inr ⟨List.mem_cons_of_mem _ h1, h2⟩
theorem cloFrom_acc {cells : List (Str × Addr)} : ∀ {names : List (Str × NameKind)} {acc : List (Str × Addr)} {p : Str × Addr}, p ∈ acc → p ∈ cloFrom cells names acc
  | [], _, _, h => h
  | (m, k) :: r, acc, p, h => by
    unfold cloFrom
    split
    · exact cloFrom_acc (List.mem_cons_of_mem _ h)
    · exact cloFrom_acc h
theorem cloFrom_has {cells : List (Str × Addr)} : ∀ {names : List (Str × NameKind)} {acc : List (Str × Addr)} {n : Str}, (n, .free) ∈ names → (n, (cells.lookup n).getD 0) ∈ cloFrom cells names acc
  | (m, k) :: r, acc, n, h => by
    unfold cloFrom
    rcases List.mem_cons.mp h with e | h
    · cases e
      exact cloFrom_acc List.mem_cons_self
    · split
      · exact cloFrom_has h
      · exact cloFrom_has h

theorem cells_mem : ∀ {names : List (Str × NameKind)} {h : Heap} {acc : List (Str × Addr)} {x : Str} {c : Addr}, (x, c) ∈ cellsFrom h.objs.size names acc →
    (x, c) ∈ acc ∨ ((x, .cell) ∈ names ∧ h.objs.size ≤ c ∧ CellAt (pushCells h names) c none)
  | [], _, _, _, _, h => .inl h
  | (n, k) :: r, h, acc, x, c, hm => by
    unfold cellsFrom at hm
    unfold pushCells
    split at hm
    · rename_i hk
      rw [if_pos hk]
      have hk : k = .cell := by simpa using hk
      rw [← Heap.size_push h { cls := .type "cell", data := .cell none }] at hm
      rcases cells_mem hm with hm | ⟨h1, h2, h3⟩
      · rcases List.mem_cons.mp hm with e | hm
        · cases e
          exact .inr ⟨hk ▸ List.mem_cons_self, Nat.le_refl _, _, pushCells_keeps r _ _ _ (Heap.get?_push_size _ rfl), rfl⟩
        · exact .inl hm
      · rw [Heap.size_push] at h2
        exact .inr ⟨List.mem_cons_of_mem _ h1, Nat.le_of_succ_le h2, h3⟩
    · rename_i hk
      rw [if_neg hk]
      rcases cells_mem hm with hm | ⟨h1, h2, h3⟩
      · exact .inl hm
      · exact .inr ⟨List.mem_cons_of_mem _ h1, h2, h3⟩
theorem cells_acc : ∀ {names : List (Str × NameKind)} {n : Nat} {acc : List (Str × Addr)} {p : Str × Addr}, p ∈ acc → p ∈ cellsFrom n names acc
  | [], _, _, _, h => h
  | (m, k) :: r, n, acc, p, h => by
    unfold cellsFrom
    split
    · exact cells_acc (List.mem_cons_of_mem _ h)
    · exact cells_acc h
theorem cells_has : ∀ {names : List (Str × NameKind)} {n : Nat} {acc : List (Str × Addr)} {x : Str}, (x, .cell) ∈ names → ∃ c, (x, c) ∈ cellsFrom n names acc
  | (m, k) :: r, n, acc, x, h => by
    unfold cellsFrom
    rcases List.mem_cons.mp h with e | h
    · cases e
      exact ⟨n, cells_acc List.mem_cons_self⟩
    · split
      · exact cells_has h
      · exact cells_has h
theorem cells_inj : ∀ {names : List (Str × NameKind)} {h : Heap} {acc : List (Str × Addr)} {x y : Str} {c : Addr}, (∀ p ∈ acc, p.2 < h.objs.size) → (∀ x y c, (x, c) ∈ acc → (y, c) ∈ acc → x = y) →
    (x, c) ∈ cellsFrom h.objs.size names acc → (y, c) ∈ cellsFrom h.objs.size names acc → x = y
  | [], _, _, _, _, _, _, hi, h1, h2 => hi _ _ _ h1 h2
  | (n, k) :: r, h, acc, x, y, c, hl, hi, h1, h2 => by
    unfold cellsFrom at h1 h2
    split at h1
    · rename_i hk
      rw [if_pos hk] at h2
      rw [← Heap.size_push h { cls := .type "cell", data := .cell none }] at h1 h2
      refine cells_inj (h := h.push _) (fun p hp => ?_) (fun x y c a b => ?_) h1 h2
      · rw [Heap.size_push]
        rcases List.mem_cons.mp hp with rfl | hp
        · exact Nat.lt_succ_self _
        · exact Nat.lt_succ_of_lt (hl p hp)
      · rcases List.mem_cons.mp a with e | a <;> rcases List.mem_cons.mp b with e' | b
        · cases e; cases e'; rfl
        · cases e; exact absurd (hl _ b) (Nat.lt_irrefl _)
        · cases e'; exact absurd (hl _ a) (Nat.lt_irrefl _)
        · exact hi _ _ _ a b
    · rename_i hk
      rw [if_neg hk] at h2
      exact cells_inj hl hi h1 h2

theorem newEnv_comp {M : Model} {A : Around} {E : Value → Shared → Prop} {s : Shared} {scope : Scope} {globals : Addr} {closure : List (Str × Addr)} {qual : Str} {func : Option Addr} {code : Value} {around : Env} {builtins : Addr} {Q : Env → Shared → Prop}
    (h : Q (newEnv scope s.heap.objs.size globals (cellsFrom (s.heap.objs.size + 1) scope.names closure) qual func code (some around) builtins)
      { s with heap := pushCells (s.heap.push { cls := .type "dict", data := .dict #[] }) scope.names }) :
    wpAny M A (newFunctionEnv scope globals closure [] qual func code (some around) builtins) Q E s := by
  simp only [newFunctionEnv, Option.isSome_some, if_true]
  refine wpAny_bind (wpAny_alloc ?_)
  refine wpAny_bind (wpAny_layCells _ (fun n k c => rfl) scope.names closure _ _ ?_)
  rw [show ({ s with heap := s.heap.push { cls := .type "dict", data := .dict #[] } } : Shared).heap.objs.size = s.heap.objs.size + 1 from Heap.size_push ..]
  rw [List.forIn_nil]
  exact wpAny_bind (wpAny_pure (wpAny_pure h))

/-- every name of the written scope, in the scope that runs -/
theorem lookup_relS {sc : Scope} : ∀ {names : List (Str × NameKind)} {x : Str} {k : NameKind},
    (names.map fun (n, k) => if (k == NameKind.free && sc.kind == .function && sc.names.lookup n == some .cell) then (n, NameKind.cell) else (n, k)).lookup x = some k →
    ∃ k', names.lookup x = some k' ∧ (k = k' ∨ (k' = .free ∧ k = .cell))
  | [], _, _, h => by simp at h
  | (n, k₀) :: r, x, k, h => by
    have ih := @lookup_relS sc r x k
    have h' : List.lookup x ((if (k₀ == NameKind.free && sc.kind == .function && sc.names.lookup n == some .cell) = true then (n, NameKind.cell) else (n, k₀)) :: (r.map _)) = some k := h
    cases hx : x == n with
    | true =>
      simp only [List.lookup_cons, hx]
      by_cases hc : (k₀ == NameKind.free && sc.kind == .function && sc.names.lookup n == some .cell) = true
      · rw [if_pos hc] at h'
        simp only [List.lookup_cons, hx] at h'
        cases h'
        simp only [Bool.and_eq_true, beq_iff_eq] at hc
        exact ⟨k₀, rfl, .inr ⟨hc.1.1, rfl⟩⟩
      · rw [if_neg hc] at h'
        simp only [List.lookup_cons, hx] at h'
        cases h'
        exact ⟨_, rfl, .inl rfl⟩
    | false =>
      simp only [List.lookup_cons, hx]
      by_cases hc : (k₀ == NameKind.free && sc.kind == .function && sc.names.lookup n == some .cell) = true
      · rw [if_pos hc] at h'
        simp only [List.lookup_cons, hx] at h'
        exact ih h'
      · rw [if_neg hc] at h'
        simp only [List.lookup_cons, hx] at h'
        exact ih h'
/-- the names of a comprehension's block: its own (with their places in N), or captured -/
structure BlkOk (N : List Str) (sc scope : Scope) (own : List (Str × Nat)) : Prop where
  kind : scope.kind = .function
  uniq : ∀ y ∈ scope.names, scope.names.lookup y.1 = some y.2
  ix : ∀ p ∈ own, N[p.2]? = some p.1
  free : ∀ y ∈ scope.names, y.2 = .free → sc.names.lookup y.1 = some .cell ∨ sc.names.lookup y.1 = some .free
  own : ∀ y ∈ scope.names, y.2 = .local ∨ y.2 = .cell → y.1 ∈ own.map (·.1) ∨ y.1 ∉ N
/-- the slots of the block's own names forgotten -/
def wipe (σ : St) : List Nat → St
  | [] => σ
  | v :: vs => (wipe σ vs).set v none
theorem wipe_length (σ : St) : ∀ vs : List Nat, (wipe σ vs).length = σ.length
  | [] => rfl
  | v :: vs => by unfold wipe; rw [List.length_set, wipe_length σ vs]
theorem wipe_some {σ : St} {i : Nat} {x : V} : ∀ {vs : List Nat}, (wipe σ vs)[i]? = some (some x) → σ[i]? = some (some x) ∧ i ∉ vs
  | [], h => ⟨h, by simp⟩
  | v :: vs, h => by
    unfold wipe at h
    by_cases hi : v = i
    · subst hi
      by_cases hv : v < (wipe σ vs).length
      · rw [List.getElem?_set_self hv] at h; cases h
      · rw [List.getElem?_eq_none (by simpa using hv)] at h; cases h
    · rw [List.getElem?_set_ne hi] at h
      obtain ⟨h1, h2⟩ := wipe_some h
      exact ⟨h1, by simp only [List.mem_cons, not_or]; exact ⟨fun e => hi e.symm, h2⟩⟩

/-- the context of a block that starts at s, its iterator's objects at fp -/
abbrev Cx.blk (X : Cx) (s : Shared) (H : Hp) (scope : Scope) (cenv : Env) (fp : List Addr) : Cx := { X with s_0 := s, H_0 := H, env := cenv, outer := X.stack, ex := fp, fn := fun x => scope.names.lookup x == some .cell, pn := [], xe := fun _ _ => False }
section
variable {X : Cx} {pins : List (Addr × Obj)} {σ : St} {H : Hp} {s : Shared}
theorem block_start {scope : Scope} {own : List (Str × Nat)} {fp : List Addr} (I : Inv X pins σ H s) (ok : BlkOk X.N X.env.scope scope own) (hN : X.N.Nodup) (hfp : ∀ b ∈ fp, FpOk X pins H b ∧ b < s.heap.objs.size) :
    Inv (X.blk s H scope (compEnvC scope (cellsFrom (s.heap.objs.size + 1) scope.names (cloFrom X.env.cells scope.names [])) s.heap.objs.size X.env) fp) [] (wipe σ (own.map (·.2))) H { s with heap := pushCells (s.heap.push { cls := .type "dict", data := .dict #[] }) scope.names } := by
  have hfree : ∀ y ∈ scope.names, y.2 = .free → ∃ c, X.env.cells.lookup y.1 = some c := fun y hy e => by
    rcases ok.free y hy e with k | k
    · exact I.ok.has _ (.inl k)
    · exact I.ok.has _ (.inr k)
  generalize hcenv : compEnvC scope (cellsFrom (s.heap.objs.size + 1) scope.names (cloFrom X.env.cells scope.names [])) s.heap.objs.size X.env = cenv
  have kp : ∀ b o, s.heap.get? b = some o → (pushCells (s.heap.push { cls := .type "dict", data := .dict #[] }) scope.names).get? b = some o := fun b o e => pushCells_keeps _ _ _ _ (Heap.get?_push_of_some _ e)
  have hL : cenv.locals = s.heap.objs.size := by rw [← hcenv]; rfl
  have hcl : cenv.cells = cellsFrom (s.heap.objs.size + 1) scope.names (cloFrom X.env.cells scope.names []) := by rw [← hcenv]; rfl
  have hsc : cenv.scope = relS scope X.env.scope := by rw [← hcenv]; rfl
  rw [← Heap.size_push s.heap { cls := .type "dict", data := .dict #[] }] at hcl
  have cm : ∀ {y c}, (y, c) ∈ cloFrom X.env.cells scope.names [] → X.env.cells.lookup y = some c ∧ c < s.heap.objs.size := fun {y c} hm => by
    rcases cloFrom_mem hm with hm | ⟨h1, rfl⟩
    · cases hm
    · obtain ⟨c, hc⟩ := hfree _ h1 rfl
      rw [hc]
      obtain ⟨w, z⟩ := I.cell _ _ hc
      exact ⟨rfl, z.lt⟩
  have mem : ∀ {y c}, cenv.cells.lookup y = some c → (X.env.cells.lookup y = some c ∧ c < s.heap.objs.size) ∨ (s.heap.objs.size + 1 ≤ c ∧ CellAt (pushCells (s.heap.push { cls := .type "dict", data := .dict #[] }) scope.names) c none) := fun {y c} e => by
    rw [hcl] at e
    rcases cells_mem (PySem.mem_of_lookup e) with hm | ⟨_, h2, h3⟩
    · exact .inl (cm hm)
    · rw [Heap.size_push] at h2; exact .inr ⟨h2, h3⟩
  have look : ∀ {y}, scope.names.lookup y = some .free → ∃ c, cenv.cells.lookup y = some c ∧ X.env.cells.lookup y = some c := fun {y} hl => by
    have hy : (y, NameKind.free) ∈ scope.names := PySem.mem_of_lookup hl
    obtain ⟨c', e'⟩ := mem_lookup (cells_acc (names := scope.names) (n := (s.heap.push { cls := .type "dict", data := .dict #[] }).objs.size) (cloFrom_has (cells := X.env.cells) (acc := []) hy))
    rw [← hcl] at e'
    refine ⟨c', e', ?_⟩
    rw [hcl] at e'
    rcases cells_mem (PySem.mem_of_lookup e') with hm | ⟨h1, _, _⟩
    · exact (cm hm).1
    · have := ok.uniq _ h1
      rw [hl] at this; cases this
  have okB : (X.blk s H scope cenv fp).Ok := by
    refine ⟨I.ok.mod, by show cenv.scope.kind = _; rw [hsc]; exact ok.kind, by show cenv.globals = _; rw [← hcenv]; exact I.ok.glob, by show cenv.builtins = _; rw [← hcenv]; exact I.ok.blt, by show s.heap.objs.size ≤ cenv.locals; rw [hL]; exact Nat.le_refl _,
      fun y z c e1 e2 => ?_, fun y hy => ?_, fun y c z e => ?_, I.ok.hd, I.ok.frames, .inl rfl, fun b hb => ⟨?_, fun y c e z => ?_⟩, I.bs, Nat.le_trans I.ok.bsz I.sz, fun b o e hb => ?_, fun b hb z => ?_, I.stack, I.stkFree⟩
    · have e1 : cenv.cells.lookup y = some c := e1
      have e2 : cenv.cells.lookup z = some c := e2
      rw [hcl] at e1 e2
      refine cells_inj (fun p hp => ?_) (fun y z c a b => I.ok.inj y z c (cm a).1 (cm b).1) (PySem.mem_of_lookup e1) (PySem.mem_of_lookup e2)
      rw [Heap.size_push]
      exact Nat.lt_succ_of_lt (cm (y := p.1) (c := p.2) hp).2
    · show ∃ c, cenv.cells.lookup y = some c
      have key : ∀ k, cenv.kindOf y = some k → (k = .cell ∨ k = .free) → ∃ c, cenv.cells.lookup y = some c := fun k hk hk' => by
        unfold Env.kindOf at hk
        rw [hsc] at hk
        obtain ⟨k', e, r⟩ := lookup_relS hk
        have : k' = .cell ∨ k' = .free := by
          rcases r with rfl | ⟨rfl, _⟩
          · exact hk'
          · exact .inr rfl
        rcases this with rfl | rfl
        · obtain ⟨c, hm⟩ := cells_has (n := (s.heap.push { cls := .type "dict", data := .dict #[] }).objs.size) (acc := cloFrom X.env.cells scope.names []) (PySem.mem_of_lookup e)
          obtain ⟨c', e'⟩ := mem_lookup hm
          exact ⟨c', by rw [hcl]; exact e'⟩
        · obtain ⟨c, h1, _⟩ := look e
          exact ⟨c, h1⟩
      rcases hy with hy | hy
      · exact key _ hy (.inl rfl)
      · exact key _ hy (.inr rfl)
    · have z : (scope.names.lookup y == some NameKind.cell) = true := z
      have z : scope.names.lookup y = some .cell := by simpa using z
      have e : cenv.cells.lookup y = some c := e
      rw [hcl] at e
      rcases cells_mem (PySem.mem_of_lookup e) with hm | ⟨_, h2, _⟩
      · rcases cloFrom_mem hm with hm | ⟨h1, _⟩
        · cases hm
        · have q := ok.uniq _ h1
          rw [z] at q; cases q
      · rw [Heap.size_push] at h2
        exact Nat.le_of_succ_le h2
    · show b ≠ cenv.locals
      rw [hL]; exact Nat.ne_of_lt (hfp b hb).2
    · have e : cenv.cells.lookup y = some c := e
      rcases mem e with ⟨h1, _⟩ | ⟨h1, _⟩
      · exact (hfp b hb).1.2.2.2.2.1 y c h1 z
      · have h2 : s.heap.objs.size + 1 ≤ b := by rw [← z]; exact h1
        exact absurd (Nat.lt_of_lt_of_le (hfp b hb).2 (Nat.le_of_succ_le h2)) (Nat.lt_irrefl _)
    · rcases (hfp b hb).1.2.2.2.1 with z | z
      · exact I.ok.noex b o e z
      · exact absurd (Nat.lt_of_lt_of_le (Heap.lt_size e) (Nat.le_trans I.ok.bsz z)) (Nat.lt_irrefl _)
    · rcases List.mem_cons.mp (I.stkSub b z) with z | z
      · exact (hfp b hb).1.2.1 z
      · exact (hfp b hb).1.2.2.1 z
  refine ⟨okB, rfl, I.bare, Un.kept kp, ⟨fun _ => none, ?_, fun i y av e1 e2 e3 => ?_⟩, fun y c e => ?_, ?_, fun y c e => ?_, fun p hp => ?_, I.hok.kept kp, by rw [wipe_length]; exact I.len⟩
  · show Heap.Ns _ cenv.locals _
    rw [hL]
    exact Heap.Ns.keeps (Heap.Ns.new ..) fun b o e => pushCells_keeps _ _ _ _ e
  · obtain ⟨e2, hne⟩ := wipe_some e2
    have hfr : scope.names.lookup y = some .free ∧ (cenv.kindOf y = some .cell ∨ cenv.kindOf y = some .free) := by
      have key : ∀ k, cenv.scope.names.lookup y = some k → k = .local ∨ k = .cell ∨ k = .free → scope.names.lookup y = some .free ∧ (cenv.kindOf y = some .cell ∨ cenv.kindOf y = some .free) := fun k hk hk' => by
        have hk0 := hk
        rw [hsc] at hk
        obtain ⟨k', e, r⟩ := lookup_relS hk
        have no : ¬ (k' = .local ∨ k' = .cell) := fun hh => by
          rcases ok.own _ (PySem.mem_of_lookup e) hh with e' | e'
          · obtain ⟨p, hp, hpy⟩ := List.mem_map.mp e'
            have e3 := ok.ix p hp
            have : p.1 = y := hpy
            rw [this] at e3
            exact hne (List.mem_map.mpr ⟨p, hp, nodup_ix hN e3 e1⟩)
          · exact e' (List.mem_of_getElem? e1)
        rcases r with rfl | ⟨rfl, rfl⟩
        · rcases hk' with rfl | rfl | rfl
          · exact absurd (.inl rfl) no
          · exact absurd (.inr rfl) no
          · exact ⟨e, .inr hk0⟩
        · exact ⟨e, .inl hk0⟩
      have e3 : Vis cenv.scope y := e3
      rcases e3 with e3 | e3 | e3
      · exact key _ e3 (.inl rfl)
      · exact key _ e3 (.inr (.inl rfl))
      · exact key _ e3 (.inr (.inr rfl))
    obtain ⟨m, hn, hl⟩ := I.loc
    have hvis : Vis X.env.scope y := (ok.free _ (PySem.mem_of_lookup hfr.1) rfl).elim (fun k => .inr (.inl k)) (fun k => .inr (.inr k))
    obtain ⟨w, r, q⟩ := hl i y av e1 e2 hvis
    refine ⟨w, r, .inr ⟨hfr.2, ?_⟩⟩
    obtain ⟨c, h1, h2⟩ := look hfr.1
    rcases q with ⟨k, _⟩ | ⟨_, c', e', z⟩
    · have k : X.env.scope.names.lookup y = some .local := k
      rcases ok.free _ (PySem.mem_of_lookup hfr.1) rfl with k' | k' <;> rw [show X.env.scope.names.lookup y = _ from k'] at k <;> cases k
    · rw [h2] at e'; cases e'
      exact ⟨c, h1, z.keeps kp⟩
  · have e : cenv.cells.lookup y = some c := e
    rcases mem e with ⟨h1, _⟩ | ⟨_, z⟩
    · obtain ⟨w, z⟩ := I.cell y c h1
      exact ⟨w, z.keeps kp⟩
    · exact ⟨_, z⟩
  · show H cenv.locals = none
    rw [hL]; exact I.hok.fresh (Nat.le_refl _)
  · have e : cenv.cells.lookup y = some c := e
    rcases mem e with ⟨h1, _⟩ | ⟨h1, _⟩
    · exact I.freeC y c h1
    · exact I.hok.fresh (Nat.le_of_succ_le h1)
  · exact absurd (show p ∈ ([] : List (Addr × Obj)) ++ [] from hp) (by simp)

/-- an item appended to a tracked list -/
theorem app_ok {E : Value → Shared → Prop} {D : Addr} {xs : List V} {y : V} {v : Value} {Q : Value → Shared → Prop} (I : Inv X pins σ H s) (hD : H D = some (.lst xs)) (hz : xs.length < sizeLine) (r : RelV y v)
    (h : ∀ s', Inv X pins σ (upd H D (.lst (xs ++ [y]))) s' → Q .none s') : wpAny (model X.prog X.w) X.A (call (.builtin "list.append") [.ref D, v]) Q E s := by
  obtain ⟨hz', its, n, ri, e⟩ := I.hok D _ hD
  have hl := ri.length
  refine append_at (hsz := by rw [List.size_toArray]; omega) e fun h' sb ho' => ?_
  refine h { s with heap := h' } (I.write (t' := s.toks) (by rw [hD]; trivial) (.inl rfl) (fun b u hb q => (sb.2 b hb).trans q) ⟨_, ho'⟩ ⟨by rw [List.length_append]; exact hz, its ++ [v], n + 1, ri.append (.cons r .nil), ?_⟩)
  rw [ho']
  simp

/-- a clause's tests -/
def PTs (X : Cx) (ifs : List Expr) (t : TT) : Prop :=
  ∀ (pins : List (Addr × Obj)) (s : Shared) (σ : St) (H : Hp) (Q : Bool → Hp → Prop), Inv X pins σ H s → t σ H Q →
    wpAny (model X.prog X.w) X.A (forIn ifs true fun c r => if r = true then do let ok ← isTrue c X.env (eval c X.env); pure (ForInStep.yield ok) else pure (ForInStep.yield r)) (TP X pins σ Q) X.xe s
def tYes : TT := fun _ H Q => Q true H
theorem pts_nil : PTs X [] tYes := fun _ _ _ H _ I h => wpAny_tests_nil ⟨H, I, h⟩
end

theorem thnF {α : Type} {t : Sem α} {Q Q' : α → Shared → Prop} {M : Model} {A : Around} {E : Value → Shared → Prop} {s : Shared} (h : wpAny M A t Q (fun _ _ => False) s) (hQ : ∀ a s, Q a s → Q' a s) : wpAny M A t Q' E s := wpAny_mono h hQ fun _ _ z => False.elim z

/-- the loop of a list comprehension's block, the target of any form (codeAny_compLoop_tests asks a target that no tuple goes to; statement and proof follow it, PyProof/CompMap.lean:41-61, with the step letOwnedTupleGo kept) -/
theorem compLoop_any {prog : Program} {w : World} {A : Around} {R : Result → Shared → Prop} {s : Shared} {elt target iter : Expr} {ifs : List Expr} {scope : Scope} {pos : Pos} {it acc : Value} {env : Env} (I : Nat → Shared → Prop)
    (turn : ∀ n s, I n s → wpAny (model prog w) A (pyNext it) (fun r s₁ => match r with
      | none => R (.ok .next) s₁
      | some v => wpAny (model prog w) A (letOwnedTupleGo target it v) (fun _ s₁' => wpAny (model prog w) A (assign target env v) (fun _ s₂ =>
          wpAny (model prog w) A (forIn ifs true fun c r => if r = true then do let ok ← isTrue c env (eval c env); pure (ForInStep.yield ok) else pure (ForInStep.yield r)) (fun ok s₃ =>
            if ok = true then wpAny (model prog w) A (eval elt env) (fun x s₄ =>
              wpAny (model prog w) A (call (.builtin "list.append") [acc, x]) (fun _ s₅ => ∃ m, m < n ∧ I m s₅) (notedBy (model prog w) A env fun e s' => R (.error e) s') s₄) (notedBy (model prog w) A env fun e s' => R (.error e) s') s₃
            else ∃ m, m < n ∧ I m s₃) (notedBy (model prog w) A env fun e s' => R (.error e) s') s₂) (notedBy (model prog w) A env fun e s' => R (.error e) s') s₁') (notedBy (model prog w) A env fun e s' => R (.error e) s') s₁) (notedBy (model prog w) A env fun e s' => R (.error e) s') s)
    (n : Nat) (h : I n s) :
    codeAny (model prog w) A (.compLoop (.ListComp elt [⟨target, iter, ifs, 0⟩] scope pos) 0 it acc env) R s := by
  refine codeAny_loop rfl I (fun n s hI => ?_) n h
  show wpAny _ A ((compTurn (.ListComp elt [⟨target, iter, ifs, 0⟩] scope pos) 0 it acc env).onRaise (fun x => do noteFrame x env; theTreesLotGoes x)) _ _ s
  refine wpAny_noted ?_
  rw [compTurn_list]
  refine wpAny_bind (wpAny_standAt (wpAny_bind (wpAny_mono (turn n s hI) (fun r s₁ h₁ => ?_) fun _ _ h' => h')))
  cases r with
  | none => exact wpAny_pure h₁
  | some v =>
    refine wpAny_bind (wpAny_mono h₁ (fun _ s₁' h₁' => ?_) fun _ _ h' => h')
    refine wpAny_bind (wpAny_mono h₁' (fun _ s₂ h₂ => wpAny_bind (wpAny_mono h₂ (fun ok s₃ h₃ => ?_) fun _ _ h' => h')) fun _ _ h' => h')
    cases ok with
    | false => exact wpAny_pure ⟨rfl, h₃⟩
    | true =>
      exact wpAny_bind (wpAny_bind (wpAny_mono h₃ (fun x s₄ h₄ => wpAny_bind (wpAny_mono h₄ (fun _ s₅ h₅ => wpAny_pure (wpAny_pure ⟨rfl, h₅⟩)) fun _ _ h' => h')) fun _ _ h' => h'))

section
variable {X : Cx}
/-- [elt for target in iter if ..]: D the new list; W by the turn and a measure, Nx what a turn is to reach -/
def tLc (wi : TI) (g : TG) (tt : TT) (te : TE) (vs : List Nat) : TE := fun σ H Q => wi σ H fun J H1 => ∀ D, H1 D = none → ∃ W : Nat → Nat → Hp → Prop, (∃ m, W 0 m (upd H1 D (.lst []))) ∧ ∀ i m H, W i m H →
  (J.stop i H ∧ Q (.ref D) H) ∨ (J.go i H ∧ ∃ Nx : Hp → Prop, (∀ H', Nx H' → ∃ m', m' < m ∧ W (i + 1) m' H') ∧ ∀ x H', J.yld i H x H' → g x (wipe σ vs) H' fun σ2 H2 => wipe σ2 vs = wipe σ vs ∧ tt σ2 H2 fun b H3 =>
    if b = true then te σ2 H3 fun y H4 => ∃ acc, H4 D = some (.lst acc) ∧ acc.length < sizeLine ∧ Nx (upd H4 D (.lst (acc ++ [y]))) else Nx H3)
theorem lc_core {pins : List (Addr × Obj)} {s : Shared} {σ : St} {H : Hp} {Q : VK} {elt tg iter : Expr} {ifs : List Expr} {scope : Scope} {own : List (Str × Nat)} {pos pos' : Pos} {wi : TI} {g : TG} {tt : TT} {te : TE} {use : Option (Value → Sem Unit)} {Qf : Value → Shared → Prop}
    (hc : X.calm = true) (hN : X.N.Nodup) (I : Inv X pins σ H s) (hi : PI X tg iter wi) (ok : BlkOk X.N X.env.scope scope own)
    (hg : ∀ (s : Shared) (H : Hp) (C : Addr) (cl : List (Str × Addr)) (fp : List Addr), PG (X.blk s H scope (compEnvC scope cl C X.env) fp) tg g) (ht : ∀ (s : Shared) (H : Hp) (C : Addr) (cl : List (Str × Addr)) (fp : List Addr), PTs (X.blk s H scope (compEnvC scope cl C X.env) fp) ifs tt)
    (he : ∀ (s : Shared) (H : Hp) (C : Addr) (cl : List (Str × Addr)) (fp : List Addr), PE (X.blk s H scope (compEnvC scope cl C X.env) fp) elt te) (hs : ∀ x, foldedSetIterable iter X.env x = pure x)
    (h : tLc wi g tt te (own.map (·.2)) σ H Q)
    (hRR : ∀ D C s' m H', Inv X pins σ H' s' → Q (.ref D) H' → s'.heap.Ns C m → FpOk X pins H' C → compPost (model X.prog X.w) X.A X.xe use Qf (.ref D) C (.ok .next) s') :
    wpAny (model X.prog X.w) X.A (comprehension (.ListComp elt [⟨tg, iter, ifs, 0⟩] scope pos) scope X.env pos' (newList []) false (eval iter X.env) use) Qf X.xe s := by
  have hfree : ∀ y ∈ scope.names, y.2 = .free → ∃ c, X.env.cells.lookup y.1 = some c := fun y hy e => by
    rcases ok.free y hy e with k | k
    · exact I.ok.has _ (.inl k)
    · exact I.ok.has _ (.inr k)
  refine wpAny_comprehension_free (use := use) rfl hs (closure_ok hfree) ok.kind (fun y hy e => by rw [ok.uniq y hy, e])
    (thn (hi pins s σ H _ I h) fun xv s1 hx => thn hx fun itv s2 h2 => ?_)
  obtain ⟨it, fp, tn, J, H2, e, I2, T, st2, f2, q⟩ := h2
  subst e
  refine wpAny_newObj_type (newEnv_comp ?_) (by show 0 ≤ sizeLine; decide)
  generalize hD : s2.heap.objs.size = D
  have hDn : H2 D = none := I2.hok.fresh (Nat.le_of_eq hD)
  obtain ⟨W, ⟨m0, w0⟩, turn⟩ := q D hDn
  -- the new list
  generalize hs3 : ({ s2 with heap := s2.heap.push { cls := .type "list", data := .seq ([] : List Value).toArray } } : Shared) = s3
  have I3 : Inv X pins σ (upd H2 D (.lst [])) s3 := by
    rw [← hs3]
    refine I2.laid (t' := s2.toks) (fun b o e => Heap.get?_push_of_some _ e) (Nat.le_of_eq hD) ⟨Nat.zero_le _, [], 0, .nil, ?_⟩
    rw [← hD]
    exact Heap.get?_push_size _ rfl
  have h3 : s3.heap = s2.heap.push { cls := .type "list", data := .seq ([] : List Value).toArray } := by rw [← hs3]
  have sz : ∀ b ∈ fp, b < s2.heap.objs.size := fun b hb => by
    obtain ⟨o, e, _⟩ := T.obj _ _ st2 b hb
    exact Heap.lt_size e
  have f3 : ∀ b ∈ fp, FpOk X pins (upd H2 D (.lst [])) b ∧ b < s3.heap.objs.size := fun b hb => by
    have hlt := sz b hb
    refine ⟨⟨?_, (f2 b hb).2⟩, by rw [h3, Heap.size_push]; exact Nat.lt_succ_of_lt hlt⟩
    rw [upd_ne (by rw [← hD]; exact Nat.ne_of_lt hlt)]
    exact (f2 b hb).1
  have st3 : tn 0 s3.heap := T.keep _ _ _ st2 fun b _ o e => by rw [h3]; exact Heap.get?_push_of_some _ e
  have I4 := block_start I3 ok hN f3
  have pg := hg s3 (upd H2 D (.lst [])) s3.heap.objs.size (cellsFrom (s3.heap.objs.size + 1) scope.names (cloFrom X.env.cells scope.names [])) fp
  have pt := ht s3 (upd H2 D (.lst [])) s3.heap.objs.size (cellsFrom (s3.heap.objs.size + 1) scope.names (cloFrom X.env.cells scope.names [])) fp
  have pe := he s3 (upd H2 D (.lst [])) s3.heap.objs.size (cellsFrom (s3.heap.objs.size + 1) scope.names (cloFrom X.env.cells scope.names [])) fp
  show codeAny _ _ (.compStart (.ListComp elt [⟨tg, iter, ifs, 0⟩] scope pos) 0 (.ref it) (.ref D) (compEnvC scope (cellsFrom (s3.heap.objs.size + 1) scope.names (cloFrom X.env.cells scope.names [])) s3.heap.objs.size X.env)) (compPost (model X.prog X.w) X.A X.xe use Qf (.ref D) s3.heap.objs.size) { s3 with heap := pushCells (s3.heap.push { cls := .type "dict", data := .dict #[] }) scope.names }
  have nfp : ∀ b ∈ fp, (upd H2 D (.lst [])) b = none := fun b hb => (f3 b hb).1.1
  generalize hce : compEnvC scope (cellsFrom (s3.heap.objs.size + 1) scope.names (cloFrom X.env.cells scope.names [])) s3.heap.objs.size X.env = ce at I4 pg pt pe ⊢
  have cL : ce.locals = s3.heap.objs.size := by subst hce; rfl
  generalize hH3 : upd H2 D (.lst []) = H3 at I3 I4 pg pt pe w0 nfp f3
  generalize hs4 : ({ s3 with heap := pushCells (s3.heap.push { cls := .type "dict", data := .dict #[] }) scope.names } : Shared) = s4 at I4 ⊢
  have st4 : tn 0 s4.heap := T.keep _ _ _ st3 fun b _ o e => by rw [← hs4]; exact pushCells_keeps _ _ _ _ (Heap.get?_push_of_some _ e)
  have stat : ∀ {σ' : St} {H' : Hp} {s' : Shared}, Inv (X.blk s3 H3 scope ce fp) [] σ' H' s' → (∀ b ∈ fp, H' b = none) → ∀ b ∈ fp, FpOk (X.blk s3 H3 scope ce fp) [] H' b := fun {σ' H' s'} I' hn b hb =>
    ⟨hn b hb, (I'.ok.exf b hb).1, I'.ok.exfs b hb, .inl hb, fun x c e => (I'.ok.exf b hb).2 x c e, fun p hp => absurd (show p ∈ ([] : List (Addr × Obj)) ++ [] from hp) (by simp)⟩
  have loop : codeAny (model X.prog X.w) X.A (.compLoop (.ListComp elt [⟨tg, iter, ifs, 0⟩] scope pos) 0 (.ref it) (.ref D) ce) (compPost (model X.prog X.w) X.A X.xe use Qf (.ref D) s3.heap.objs.size) s4 := by
    refine compLoop_any (fun n s' => ∃ i H', Inv (X.blk s3 H3 scope ce fp) [] (wipe σ (own.map (·.2))) H' s' ∧ tn i s'.heap ∧ (∀ b ∈ fp, H' b = none) ∧ W i n H') ?_ m0 ⟨0, H3, I4, st4, nfp, w0⟩
    rintro n s5 ⟨i, H5, I5, st5, n5, w5⟩
    rcases turn i n H5 w5 with ⟨stop, qq⟩ | ⟨go, Nx, hNx, step⟩
    · have td := T.done (X.blk s3 H3 scope ce fp) rfl rfl rfl hc i [] s5 _ H5 (fun _ _ => False) I5 (stat I5 n5) st5 stop
      refine thnF td fun r s6 ⟨hr, I6⟩ => ?_
      subst hr
      -- back in the def's context
      have I7 : Inv X pins σ H5 s6 := I3.call' (ch := fp) I6.os I6.base I6.hok I6.bare fun b hb => ⟨(f3 b hb).1.2.2.2.1, (f3 b hb).1.2.1, (f3 b hb).1.2.2.2.2.1, (f3 b hb).1.2.2.2.2.2⟩
      have nC : H5 s3.heap.objs.size = none := by
        have z : H5 ce.locals = none := I6.free
        rw [cL] at z
        exact z
      obtain ⟨m, hn, _⟩ := I6.loc
      have hn : s6.heap.Ns ce.locals m := hn
      rw [cL] at hn
      exact hRR D s3.heap.objs.size s6 m H5 I7 qq hn (I3.fpOk (Nat.le_refl _) nC)
    · have ti := T.item (X.blk s3 H3 scope ce fp) rfl rfl rfl hc i [] s5 _ H5 (fun _ _ => False) I5 (stat I5 n5) st5 go
      refine thnF ti fun r s6 ⟨u, hr, h6⟩ => ?_
      subst hr
      refine thnF h6 fun _ s7 ⟨x, H7, I7, r7, y7, st7, n7⟩ => ?_
      have I7' := I7.pinned (stat I7 n7) (T.obj _ _ st7)
      refine thnF (pg _ s7 _ H7 x u _ I7' r7 (step x H7 y7)) fun _ s8 ⟨σ8, H8, I8, hw8, q8⟩ => ?_
      refine thnF (pt _ s8 σ8 H8 _ I8 q8) fun b s9 ⟨H9, I9, q9⟩ => ?_
      -- the turn's end
      have fin : ∀ {s' : Shared} {H' : Hp}, Inv (X.blk s3 H3 scope ce fp) ([] ++ pinsAt fp s7.heap) σ8 H' s' → Nx H' → ∃ m, m < n ∧ ∃ i H', Inv (X.blk s3 H3 scope ce fp) [] (wipe σ (own.map (·.2))) H' s' ∧ tn i s'.heap ∧ (∀ b ∈ fp, H' b = none) ∧ W i m H' := fun {s' H'} I' nx => by
        obtain ⟨m', hm, w'⟩ := hNx H' nx
        have pin' : ∀ b ∈ fp, ∀ o, s7.heap.get? b = some o → s'.heap.get? b = some o ∧ H' b = none := fun b hb o e =>
          let z := I'.pin (b, o) (List.mem_append_right _ (List.mem_append_right _ (mem_pinsAt hb e)))
          ⟨z.1, z.2.1⟩
        have hl : (wipe σ (own.map (·.2))).length = σ8.length := by rw [← hw8, wipe_length]
        refine ⟨m', hm, i + 1, H', (I'.unpinned (pins := [])).weak hl (fun j v e => ?_), T.keep _ _ _ st7 fun b hb o e => (pin' b hb o e).1, fun b hb => ?_, w'⟩
        · rw [← hw8] at e
          exact (wipe_some e).1
        · obtain ⟨o, e, _⟩ := T.obj _ _ st7 b hb
          exact (pin' b hb o e).2
      cases b with
      | false =>
        simp only [Bool.false_eq_true, if_false] at q9 ⊢
        exact fin I9 q9
      | true =>
        simp only [if_true] at q9 ⊢
        refine thnF (pe _ s9 σ8 H9 _ I9 q9) fun z s10 ⟨yv, H10, I10, r10, acc, hD10, hz10, nx⟩ => ?_
        exact app_ok (X := X.blk s3 H3 scope ce fp) I10 hD10 hz10 r10 fun s11 I11 => fin I11 nx
  exact codeAny_compStart_list loop (T.self X.A 0 _ _ _ st4 loop)
/-- as a value -/
theorem pe_lc {elt tg iter : Expr} {ifs : List Expr} {scope : Scope} {own : List (Str × Nat)} {pos : Pos} {wi : TI} {g : TG} {tt : TT} {te : TE} (hc : X.calm = true) (hN : X.N.Nodup) (hi : PI X tg iter wi) (ok : BlkOk X.N X.env.scope scope own)
    (hg : ∀ (s : Shared) (H : Hp) (C : Addr) (cl : List (Str × Addr)) (fp : List Addr), PG (X.blk s H scope (compEnvC scope cl C X.env) fp) tg g) (ht : ∀ (s : Shared) (H : Hp) (C : Addr) (cl : List (Str × Addr)) (fp : List Addr), PTs (X.blk s H scope (compEnvC scope cl C X.env) fp) ifs tt)
    (he : ∀ (s : Shared) (H : Hp) (C : Addr) (cl : List (Str × Addr)) (fp : List Addr), PE (X.blk s H scope (compEnvC scope cl C X.env) fp) elt te) (hs : ∀ x, foldedSetIterable iter X.env x = pure x := by intro _; rfl) :
    PE X (.ListComp elt [⟨tg, iter, ifs, 0⟩] scope pos) (tLc wi g tt te (own.map (·.2))) := by
  intro pins s σ H Q I h
  rw [eval_ListComp]
  refine lc_core hc hN I hi ok hg ht he hs h fun D C s' m H' I' q hn f => ⟨m, hn, fun h'' sb => ?_⟩
  obtain ⟨f0, f1, f2, f3, f4, f5⟩ := f
  exact ⟨.ref D, H', I'.turned (t' := s'.toks) (fun b o hb e => (sb.2 b hb).trans e) f0 f1 f3 f4 f5, rfl, q⟩
/-- name = [..] on one line, the name a local -/
theorem ps_setLc {i : Nat} {y : Str} {py : Pos} {elt tg iter : Expr} {ifs : List Expr} {scope : Scope} {own : List (Str × Nat)} {pos spos : Pos} {wi : TI} {g : TG} {tt : TT} {te : TE} (hc : X.calm = true) (hN : X.N.Nodup) (hy : X.N[i]? = some y) (hyl : X.env.scope.names.lookup y = some .local)
    (hsw : swapsWith (.ListComp elt [⟨tg, iter, ifs, 0⟩] scope pos) (some (.Name y py)) spos.line X.env = pure true) (hi : PI X tg iter wi) (ok : BlkOk X.N X.env.scope scope own)
    (hg : ∀ (s : Shared) (H : Hp) (C : Addr) (cl : List (Str × Addr)) (fp : List Addr), PG (X.blk s H scope (compEnvC scope cl C X.env) fp) tg g) (ht : ∀ (s : Shared) (H : Hp) (C : Addr) (cl : List (Str × Addr)) (fp : List Addr), PTs (X.blk s H scope (compEnvC scope cl C X.env) fp) ifs tt)
    (he : ∀ (s : Shared) (H : Hp) (C : Addr) (cl : List (Str × Addr)) (fp : List Addr), PE (X.blk s H scope (compEnvC scope cl C X.env) fp) elt te) (hs : ∀ x, foldedSetIterable iter X.env x = pure x := by intro _; rfl) :
    PS X (.Assign [.Name y py] (.ListComp elt [⟨tg, iter, ifs, 0⟩] scope pos) spos) (tAsg (tLc wi g tt te (own.map (·.2))) (gName i)) := by
  intro pins s σ H D I h
  rw [exec_Assign_Name_used _ _ _ _ hsw]
  refine wpAny_bind (wpAny_standAt (wpAny_bind ?_))
  show wpAny _ X.A (do let _ ← comprehension (.ListComp elt [⟨tg, iter, ifs, 0⟩] scope pos) scope X.env (firstIterPos [⟨tg, iter, ifs, 0⟩] pos) (newList []) false (eval iter X.env) (some (assign (.Name y py) X.env))) _ _ s
  have h : tLc wi g tt te (own.map (·.2)) σ H (fun x H1 => gName i x σ H1 D.nx) := h
  refine wpAny_bind (thn (lc_core (Qf := fun _ s' => SP X pins D .next s') hc hN I hi ok hg ht he hs h fun L C s' m H' I' q hn f => ?_) fun _ s' hq => wpAny_pure (wpAny_pure hq))
  show wpAny _ _ (assign (.Name y py) X.env (.ref L)) _ _ _
  refine wpAny_assign_Name (store_ok2 (v := V.ref L) I' hN hy (.inl hyl) rfl (fun s2 I2 ⟨a, sb, ha⟩ => ?_) (.inr hyl))
  obtain ⟨f0, f1, f2, f3, f4, f5⟩ := f
  have haC : C ≠ a := by
    rcases ha with z | z
    · rw [z]; exact f1
    · exact fun e => f4 y a z e.symm
  refine ⟨m, hn.sameBut sb haC, fun h3 sb3 => ?_⟩
  exact ⟨_, H', I2.turned (t' := s2.toks) (fun b o hb e => (sb3.2 b hb).trans e) f0 f1 f3 f4 f5, q⟩
theorem sw_true {elt : Expr} {gs : List Comprehension} {scope : Scope} {pos py : Pos} {y : Str} {l : Nat} {env : Env} (hk : env.scope.kind = .function) (hy : env.scope.names.lookup y = some .local) (hl : (py.line == pos.line) = true)
    (ha : (scope.names.any fun (n, k) => n == y && (k == .local || k == .cell)) = false) : swapsWith (.ListComp elt gs scope pos) (some (.Name y py)) l env = pure true := by
  have ky : env.kindOf y = some .local := hy
  have hb : env.blockKind = .function := by unfold Env.blockKind; rw [hk]; rfl
  unfold swapsWith
  simp only [hb, ky, ha, Expr.pos, hl]
  rfl
end

/-! ### the forms one uses -/
/-- over a range: Pv by the turn and the heap (the new list at D within) -/
theorem lc_range {lo : Int} {n : Nat} {g : TG} {tt : TT} {te : TE} {vs : List Nat} {σ : St} {H1 : Hp} {D : Addr} {Qd : Hp → Prop} (Pv : Nat → Hp → Prop) (h0 : Pv 0 (upd H1 D (.lst [])))
    (hs : ∀ i H, i < n → Pv i H → g (.int (lo + i)) (wipe σ vs) H fun σ2 H2 => wipe σ2 vs = wipe σ vs ∧ tt σ2 H2 fun b H3 =>
      if b = true then te σ2 H3 fun y H4 => ∃ acc, H4 D = some (.lst acc) ∧ acc.length < sizeLine ∧ Pv (i + 1) (upd H4 D (.lst (acc ++ [y]))) else Pv (i + 1) H3) (hd : ∀ H, Pv n H → Qd H) :
    ∃ W : Nat → Nat → Hp → Prop, (∃ m, W 0 m (upd H1 D (.lst []))) ∧ ∀ i m H, W i m H →
      ((Itr lo n).stop i H ∧ Qd H) ∨ ((Itr lo n).go i H ∧ ∃ Nx : Hp → Prop, (∀ H', Nx H' → ∃ m', m' < m ∧ W (i + 1) m' H') ∧ ∀ x H', (Itr lo n).yld i H x H' → g x (wipe σ vs) H' fun σ2 H2 => wipe σ2 vs = wipe σ vs ∧ tt σ2 H2 fun b H3 =>
        if b = true then te σ2 H3 fun y H4 => ∃ acc, H4 D = some (.lst acc) ∧ acc.length < sizeLine ∧ Nx (upd H4 D (.lst (acc ++ [y]))) else Nx H3) := by
  refine ⟨fun i m H => m = n - i ∧ i ≤ n ∧ Pv i H, ⟨n, by simp, Nat.zero_le _, h0⟩, ?_⟩
  rintro i m H ⟨rfl, hi, p⟩
  by_cases hlt : i < n
  · refine .inr ⟨hlt, Pv (i + 1), fun H' p' => ⟨n - (i + 1), by omega, rfl, hlt, p'⟩, fun x H' y => ?_⟩
    obtain ⟨e, y⟩ := y
    subst e y
    exact hs i _ hlt p
  · have e : i = n := by omega
    subst e
    exact .inl ⟨Nat.le_refl _, hd H p⟩
/-- over a list that the block leaves as it is -/
theorem lc_list {K : PySem.W.Frag} {a : Addr} {xs : List V} {g : TG} {tt : TT} {te : TE} {vs : List Nat} {σ : St} {H1 : Hp} {D : Addr} {Qd : Hp → Prop} (Pv : Nat → Hp → Prop) (h0 : Pv 0 (upd H1 D (.lst []))) (hl : ∀ i H, i ≤ xs.length → Pv i H → SqL K H a xs)
    (hs : ∀ i x H, xs[i]? = some x → Pv i H → g x (wipe σ vs) H fun σ2 H2 => wipe σ2 vs = wipe σ vs ∧ tt σ2 H2 fun b H3 =>
      if b = true then te σ2 H3 fun y H4 => ∃ acc, H4 D = some (.lst acc) ∧ acc.length < sizeLine ∧ Pv (i + 1) (upd H4 D (.lst (acc ++ [y]))) else Pv (i + 1) H3) (hd : ∀ H, Pv xs.length H → Qd H) :
    ∃ W : Nat → Nat → Hp → Prop, (∃ m, W 0 m (upd H1 D (.lst []))) ∧ ∀ i m H, W i m H →
      ((Itl K a).stop i H ∧ Qd H) ∨ ((Itl K a).go i H ∧ ∃ Nx : Hp → Prop, (∀ H', Nx H' → ∃ m', m' < m ∧ W (i + 1) m' H') ∧ ∀ x H', (Itl K a).yld i H x H' → g x (wipe σ vs) H' fun σ2 H2 => wipe σ2 vs = wipe σ vs ∧ tt σ2 H2 fun b H3 =>
        if b = true then te σ2 H3 fun y H4 => ∃ acc, H4 D = some (.lst acc) ∧ acc.length < sizeLine ∧ Nx (upd H4 D (.lst (acc ++ [y]))) else Nx H3) := by
  refine ⟨fun i m H => m = xs.length - i ∧ i ≤ xs.length ∧ Pv i H, ⟨xs.length, by simp, Nat.zero_le _, h0⟩, ?_⟩
  rintro i m H ⟨rfl, hi, p⟩
  have q := hl i H hi p
  by_cases hlt : i < xs.length
  · refine .inr ⟨⟨xs, xs[i], q, by simp [hlt]⟩, Pv (i + 1), fun H' p' => ⟨xs.length - (i + 1), by omega, rfl, hlt, p'⟩, fun x H' y => ?_⟩
    obtain ⟨e, y⟩ := y
    subst e
    exact hs i x _ (y xs q) p
  · have e : i = xs.length := by omega
    subst e
    exact .inl ⟨⟨xs, q, Nat.le_refl _⟩, hd H p⟩
/-- over a tuple -/
theorem lc_tup {K : PySem.W.Frag} {a : Addr} {xs : List V} {g : TG} {tt : TT} {te : TE} {vs : List Nat} {σ : St} {H1 : Hp} {D : Addr} {Qd : Hp → Prop} (Pv : Nat → Hp → Prop) (h0 : Pv 0 (upd H1 D (.lst []))) (hl : ∀ i H, i ≤ xs.length → Pv i H → SqT K H a xs)
    (hs : ∀ i x H, xs[i]? = some x → Pv i H → g x (wipe σ vs) H fun σ2 H2 => wipe σ2 vs = wipe σ vs ∧ tt σ2 H2 fun b H3 =>
      if b = true then te σ2 H3 fun y H4 => ∃ acc, H4 D = some (.lst acc) ∧ acc.length < sizeLine ∧ Pv (i + 1) (upd H4 D (.lst (acc ++ [y]))) else Pv (i + 1) H3) (hd : ∀ H, Pv xs.length H → Qd H) :
    ∃ W : Nat → Nat → Hp → Prop, (∃ m, W 0 m (upd H1 D (.lst []))) ∧ ∀ i m H, W i m H →
      ((Itt K a).stop i H ∧ Qd H) ∨ ((Itt K a).go i H ∧ ∃ Nx : Hp → Prop, (∀ H', Nx H' → ∃ m', m' < m ∧ W (i + 1) m' H') ∧ ∀ x H', (Itt K a).yld i H x H' → g x (wipe σ vs) H' fun σ2 H2 => wipe σ2 vs = wipe σ vs ∧ tt σ2 H2 fun b H3 =>
        if b = true then te σ2 H3 fun y H4 => ∃ acc, H4 D = some (.lst acc) ∧ acc.length < sizeLine ∧ Nx (upd H4 D (.lst (acc ++ [y]))) else Nx H3) := by
  refine ⟨fun i m H => m = xs.length - i ∧ i ≤ xs.length ∧ Pv i H, ⟨xs.length, by simp, Nat.zero_le _, h0⟩, ?_⟩
  rintro i m H ⟨rfl, hi, p⟩
  have q := hl i H hi p
  by_cases hlt : i < xs.length
  · refine .inr ⟨⟨xs, xs[i], q, by simp [hlt]⟩, Pv (i + 1), fun H' p' => ⟨xs.length - (i + 1), by omega, rfl, hlt, p'⟩, fun x H' y => ?_⟩
    obtain ⟨e, y⟩ := y
    subst e
    exact hs i x _ (y xs q) p
  · have e : i = xs.length := by omega
    subst e
    exact .inl ⟨⟨xs, q, Nat.le_refl _⟩, hd H p⟩
def blkC (N : List Str) (sc scope : Scope) (own : List (Str × Nat)) : Bool :=
  (match scope.kind with | .function => true | _ => false) && (scope.names.all fun y => decide (scope.names.lookup y.1 = some y.2)) && (own.all fun p => decide (N[p.2]? = some p.1)) &&
    (scope.names.all fun y => match y.2 with
      | .free => (match sc.names.lookup y.1 with | some .cell => true | some .free => true | _ => false)
      | .local => decide (y.1 ∈ own.map (·.1)) || decide (y.1 ∉ N)
      | .cell => decide (y.1 ∈ own.map (·.1)) || decide (y.1 ∉ N)
      | _ => true)
theorem blkOk_by {N : List Str} {sc scope : Scope} {own : List (Str × Nat)} (h : blkC N sc scope own = true) : BlkOk N sc scope own := by
  unfold blkC at h
  simp only [Bool.and_eq_true, List.all_eq_true, decide_eq_true_eq] at h
  obtain ⟨⟨⟨h1, h2⟩, h3⟩, h4⟩ := h
  refine ⟨?_, h2, h3, fun y hy e => ?_, fun y hy e => ?_⟩
  · split at h1
    · assumption
    · cases h1
  · have q := h4 y hy
    simp only [e] at q
    split at q <;> first | exact .inl (by assumption) | exact .inr (by assumption) | cases q
  · have q := h4 y hy
    rcases e with e | e <;> (simp only [e, Bool.or_eq_true, decide_eq_true_eq] at q; exact q)
end L2

namespace L2
open PySem PySem.Spec PyProof.Rows

section
variable {prog : Program} {w : World} {A : Around} {R : Result → Shared → Prop} {s : Shared} {elt t0 i0 t1 i1 : Expr} {ifs0 ifs1 : List Expr} {scope : Scope} {pos : Pos} {it acc : Value} {env : Env}
end

section
variable {X : Cx}
end
end L2

namespace L2
open PySem PySem.Spec PyProof.Rows

/-! ### lists of pairs as tables -/
section
variable {κ : Type} [DecidableEq κ]
def valV (kvs : List (κ × V)) (k : κ) : Option V := (kvs.find? fun kv => decide (kv.1 = k)).map (·.2)
/-- in its place, or at the end -/
def putK (kvs : List (κ × V)) (k : κ) (v : V) : List (κ × V) :=
  if (kvs.any fun kv => decide (kv.1 = k)) = true then kvs.map (fun kv => if kv.1 = k then (kv.1, v) else kv) else kvs ++ [(k, v)]
def dropK (kvs : List (κ × V)) (k : κ) : List (κ × V) := kvs.filter fun kv => decide (kv.1 ≠ k)

theorem valV_pos {p : κ × V} {r : List (κ × V)} {k : κ} (e : p.1 = k) : valV (p :: r) k = some p.2 := by simp [valV, List.find?_cons, e]
theorem valV_neg {p : κ × V} {r : List (κ × V)} {k : κ} (e : ¬ p.1 = k) : valV (p :: r) k = valV r k := by simp [valV, List.find?_cons, e]
theorem valV_any (k : κ) : ∀ kvs : List (κ × V), (kvs.any fun kv => decide (kv.1 = k)) = (valV kvs k).isSome
  | [] => rfl
  | p :: r => by
    rw [List.any_cons]
    by_cases e : p.1 = k
    · simp only [valV_pos e, decide_eq_true e, Bool.true_or, Option.isSome_some]
    · rw [valV_neg e, decide_eq_false e, Bool.false_or]; exact valV_any k r
theorem valV_map (k j : κ) (y : V) : ∀ kvs : List (κ × V), valV (kvs.map fun kv => if kv.1 = k then (kv.1, y) else kv) j = (valV kvs j).map fun x => if j = k then y else x
  | [] => rfl
  | p :: r => by
    have ih := valV_map k j y r
    rw [List.map_cons]
    by_cases h : p.1 = k
    · rw [if_pos h]
      by_cases e : p.1 = j
      · rw [valV_pos (p := (p.1, y)) e, valV_pos e, Option.map_some, if_pos (e.symm.trans h)]
      · rw [valV_neg (p := (p.1, y)) e, valV_neg e, ih]
    · rw [if_neg h]
      by_cases e : p.1 = j
      · rw [valV_pos (p := p) e, valV_pos e, Option.map_some, if_neg (fun z => h (e.trans z))]
      · rw [valV_neg (p := p) e, valV_neg e, ih]
theorem valV_snoc (k j : κ) (y : V) : ∀ kvs : List (κ × V), valV kvs k = none → valV (kvs ++ [(k, y)]) j = if j = k then some y else valV kvs j
  | [], _ => by
    by_cases e : k = j
    · rw [if_pos e.symm]; exact valV_pos (p := (k, y)) e
    · rw [if_neg (fun z => e z.symm)]; exact valV_neg (p := (k, y)) e
  | p :: r, hn => by
    rw [List.cons_append]
    have hk : ¬ p.1 = k := fun z => by rw [valV_pos z] at hn; cases hn
    rw [valV_neg hk] at hn
    have ih := valV_snoc k j y r hn
    by_cases e : p.1 = j
    · rw [valV_pos e, valV_pos e, if_neg (fun z => hk (e.trans z))]
    · rw [valV_neg e, valV_neg e, ih]
theorem valV_put (kvs : List (κ × V)) (k j : κ) (y : V) : valV (putK kvs k y) j = if j = k then some y else valV kvs j := by
  unfold putK
  by_cases a : (kvs.any fun kv => decide (kv.1 = k)) = true
  · rw [if_pos a, valV_map]
    rw [valV_any] at a
    by_cases e : j = k
    · obtain ⟨x, hx⟩ := Option.isSome_iff_exists.mp a
      rw [if_pos e, e, hx, Option.map_some, if_pos rfl]
    · rw [if_neg e]
      cases valV kvs j with
      | none => rfl
      | some x => rw [Option.map_some, if_neg e]
  · rw [if_neg a]
    refine valV_snoc k j y kvs ?_
    rw [valV_any] at a
    cases q : valV kvs k with
    | none => rfl
    | some x => rw [q] at a; exact (a rfl).elim
theorem length_putK (kvs : List (κ × V)) (k : κ) (v : V) : (putK kvs k v).length ≤ kvs.length + 1 := by
  unfold putK
  split
  · rw [List.length_map]; omega
  · rw [List.length_append, List.length_cons, List.length_nil]; omega
theorem RelO.isSome_eq {o : Option V} {u : Option Value} (r : RelO o u) : o.isSome = u.isSome := by
  cases o with
  | none => cases u with
    | none => rfl
    | some _ => exact (show False from r).elim
  | some _ => cases u with
    | none => exact (show False from r).elim
    | some _ => rfl
theorem RelO.getD {o : Option V} {u : Option Value} {d : V} {d' : Value} (r : RelO o u) (rd : RelV d d') : RelV (o.getD d) (u.getD d') := by
  cases o with
  | none => cases u with
    | none => exact rd
    | some _ => exact (show False from r).elim
  | some _ => cases u with
    | none => exact (show False from r).elim
    | some _ => exact r

/-- raw tables of the same keys -/
theorem KV.val {kvs : List (κ × V)} {vs : List (κ × Value)} (r : KV kvs vs) (k : κ) : RelO (valV kvs k) (valueAt vs k) := by
  unfold KV at r
  induction r with
  | nil => exact True.intro
  | @cons p q ps qs h t ih =>
    obtain ⟨h1, h2⟩ := h
    by_cases e : p.1 = k
    · have e' : q.1 = k := h1.symm.trans e
      have b : valueAt (q :: qs) k = some q.2 := by simp [valueAt, List.find?_cons, e']
      rw [valV_pos e, b]; exact h2
    · have e' : ¬ q.1 = k := fun z => e (h1.trans z)
      have b : valueAt (q :: qs) k = valueAt qs k := by simp [valueAt, List.find?_cons, e']
      rw [valV_neg e, b]; exact ih
theorem KV.any {kvs : List (κ × V)} {vs : List (κ × Value)} (r : KV kvs vs) (k : κ) : (kvs.any fun kv => decide (kv.1 = k)) = vs.any fun kv => decide (kv.1 = k) := by
  unfold KV at r
  induction r with
  | nil => rfl
  | cons h t ih => rw [List.any_cons, List.any_cons, ih, h.1]
theorem KV.repl {kvs : List (κ × V)} {vs : List (κ × Value)} (r : KV kvs vs) (k : κ) {y : V} {u : Value} (ry : RelV y u) :
    KV (kvs.map fun kv => if kv.1 = k then (kv.1, y) else kv) (vs.map fun kv => if kv.1 = k then (kv.1, u) else kv) := by
  unfold KV at r ⊢
  induction r with
  | nil => exact .nil
  | @cons p q ps qs h t ih =>
    rw [List.map_cons, List.map_cons]
    refine .cons ?_ ih
    obtain ⟨h1, h2⟩ := h
    by_cases e : p.1 = k
    · rw [if_pos e, if_pos (h1.symm.trans e)]; exact ⟨h1, ry⟩
    · rw [if_neg e, if_neg (fun z => e (h1.trans z))]; exact ⟨h1, h2⟩
theorem KV.put {kvs : List (κ × V)} {vs : List (κ × Value)} (r : KV kvs vs) (k : κ) {y : V} {u : Value} (ry : RelV y u) : KV (putK kvs k y) (stored vs k u) := by
  unfold putK stored
  rw [r.any k]
  by_cases e : (vs.any fun kv => decide (kv.1 = k)) = true
  · rw [if_pos e, if_pos e]; exact r.repl k ry
  · rw [if_neg e, if_neg e]; exact Paired.snoc r ⟨rfl, ry⟩
theorem KV.drop {kvs : List (κ × V)} {vs : List (κ × Value)} (r : KV kvs vs) (k : κ) : KV (dropK kvs k) (without vs k) := by
  unfold KV at r ⊢
  unfold dropK without
  induction r with
  | nil => exact .nil
  | @cons p q ps qs h t ih =>
    obtain ⟨h1, h2⟩ := h
    rw [List.filter_cons, List.filter_cons]
    by_cases e : p.1 = k
    · have a : ¬ decide (p.1 ≠ k) = true := by simp [e]
      have b : ¬ decide (q.1 ≠ k) = true := by simp [h1.symm.trans e]
      rw [if_neg a, if_neg b]; exact ih
    · have e' : ¬ q.1 = k := fun z => e (h1.trans z)
      have a : decide (p.1 ≠ k) = true := by simp [e]
      have b : decide (q.1 ≠ k) = true := by simp [e']
      rw [if_pos a, if_pos b]; exact .cons ⟨h1, h2⟩ ih
theorem KV.keys {kvs : List (κ × V)} {vs : List (κ × Value)} (r : KV kvs vs) : kvs.map (·.1) = vs.map (·.1) := by
  unfold KV at r
  induction r with
  | nil => rfl
  | cons h t ih => rw [List.map_cons, List.map_cons, ih, h.1]
theorem KV.length {kvs : List (κ × V)} {vs : List (κ × Value)} (r : KV kvs vs) : kvs.length = vs.length := Paired.length r
end


/-! ### a tracked dict, its keys ints and texts or tuples of these -/
/-- raw entries of a dict with tuple keys -/
abbrev KT (H : Hp) : List (List Key × V) → List (List Key × Addr × Value) → Prop := Paired fun p q => p.1 = q.1 ∧ H q.2.1 = some (.tup (p.1.map kV)) ∧ RelV p.2 q.2.2
theorem KT.val {H : Hp} {kvs : List (List Key × V)} {xs : List (List Key × Addr × Value)} (r : KT H kvs xs) (k : List Key) : RelO (valV kvs k) ((atKey xs k).map (·.2)) := by
  induction r with
  | nil => exact True.intro
  | @cons p q ps qs h t ih =>
    obtain ⟨h1, _, h2⟩ := h
    by_cases e : p.1 = k
    · have e' : q.1 = k := h1.symm.trans e
      have b : atKey (q :: qs) k = some q.2 := by simp [atKey, List.find?_cons, e']
      rw [valV_pos e, b]; exact h2
    · have e' : ¬ q.1 = k := fun z => e (h1.trans z)
      have b : atKey (q :: qs) k = atKey qs k := by simp [atKey, List.find?_cons, e']
      rw [valV_neg e, b]; exact ih
theorem KT.repl {H : Hp} {kvs : List (List Key × V)} {xs : List (List Key × Addr × Value)} (r : KT H kvs xs) (k : List Key) {y : V} {u : Value} (ry : RelV y u) :
    KT H (kvs.map fun kv => if kv.1 = k then (kv.1, y) else kv) (xs.map (putAt k u)) := by
  induction r with
  | nil => exact .nil
  | @cons p q ps qs h t ih =>
    rw [List.map_cons, List.map_cons]
    refine .cons ?_ ih
    obtain ⟨h1, h2, h3⟩ := h
    unfold putAt
    by_cases e : p.1 = k
    · rw [if_pos e, if_pos (h1.symm.trans e)]; exact ⟨h1, h2, ry⟩
    · rw [if_neg e, if_neg (fun z => e (h1.trans z))]; exact ⟨h1, h2, h3⟩
theorem KT.put {H : Hp} {kvs : List (List Key × V)} {xs : List (List Key × Addr × Value)} (r : KT H kvs xs) (k : List Key) {b : Addr} {y : V} {u : Value} (hb : H b = some (.tup (k.map kV))) (ry : RelV y u) :
    KT H (putK kvs k y) (storedH xs k b u) := by
  have e : (kvs.any fun kv => decide (kv.1 = k)) = (atKey xs k).isSome := by
    rw [valV_any, (r.val k).isSome_eq, Option.isSome_map]
  unfold putK storedH
  rw [e]
  by_cases q : (atKey xs k).isSome = true
  · rw [if_pos q, if_pos q]; exact r.repl k ry
  · rw [if_neg q, if_neg q]; exact Paired.snoc r ⟨rfl, hb, ry⟩
theorem KT.keeps {H H' : Hp} {kvs : List (List Key × V)} {xs : List (List Key × Addr × Value)} (r : KT H kvs xs) (ht : ∀ b ys, H b = some (.tup ys) → H' b = some (.tup ys)) : KT H' kvs xs :=
  Paired.mapP r fun _ _ z => ⟨z.1, ht _ _ z.2.1, z.2.2⟩

section
variable {P : Program} {w : World} {H : Hp} {h : Heap} {a : Addr}
end

/-- what the dict at a holds at the key y -/
def DGet (H : Hp) (a : Addr) (y : V) (r : Option V) : Prop :=
  (∃ kvs k, Rd H a (.dK kvs) ∧ y = kV k ∧ r = valV kvs k) ∨ ∃ kvs k b, Rd H a (.dT kvs) ∧ y = .ref b ∧ H b = some (.tup (k.map kV)) ∧ r = valV kvs k
/-- the heap behind a[y] = v -/
def DPut (H : Hp) (a : Addr) (y v : V) (H' : Hp) : Prop :=
  (∃ kvs k, H a = some (.dK kvs) ∧ y = kV k ∧ kvs.length < sizeLine ∧ H' = upd H a (.dK (putK kvs k v))) ∨
  ∃ kvs k b, H a = some (.dT kvs) ∧ y = .ref b ∧ H b = some (.tup (k.map kV)) ∧ kvs.length < sizeLine ∧ H' = upd H a (.dT (putK kvs k v))
theorem DGet.k {H : Hp} {a : Addr} {kvs : List (Key × V)} {k : Key} (e : H a = some (.dK kvs)) : DGet H a (kV k) (valV kvs k) := .inl ⟨kvs, k, .inl e, rfl, rfl⟩
theorem DGet.t {H : Hp} {a b : Addr} {kvs : List (List Key × V)} {k : List Key} (e : H a = some (.dT kvs)) (eb : H b = some (.tup (k.map kV))) : DGet H a (.ref b) (valV kvs k) := .inr ⟨kvs, k, b, .inl e, rfl, eb, rfl⟩
theorem DPut.k {H : Hp} {a : Addr} {kvs : List (Key × V)} {k : Key} {v : V} (e : H a = some (.dK kvs)) (hl : kvs.length < sizeLine) : DPut H a (kV k) v (upd H a (.dK (putK kvs k v))) := .inl ⟨kvs, k, e, rfl, hl, rfl⟩
theorem DPut.t {H : Hp} {a b : Addr} {kvs : List (List Key × V)} {k : List Key} {v : V} (e : H a = some (.dT kvs)) (eb : H b = some (.tup (k.map kV))) (hl : kvs.length < sizeLine) :
    DPut H a (.ref b) v (upd H a (.dT (putK kvs k v))) := .inr ⟨kvs, k, b, e, rfl, eb, hl, rfl⟩


section
variable {X : Cx} {pins : List (Addr × Obj)} {σ : St} {H : Hp} {s : Shared} {a : Addr} {y v : V} {u r : Value} {o : Option V} {A : Around} {E : Value → Shared → Prop}

end

section
variable {X : Cx} {pins : List (Addr × Obj)} {σ : St} {H : Hp} {s : Shared} {a : Addr} {kvs : List (Key × V)} {k : Key} {u : Value} {A : Around} {E : Value → Shared → Prop}
end


/-! ### readings and rules -/
section
variable {X : Cx} {o i e value : Expr} {pos pos' tpos : Pos} {td ty tv : TE}
end


/-! ### displays -/
section
variable {X : Cx} {pos : Pos}
end

/-! ### methods -/
/-- a method call o.m(e) of a built-in, with one argument: what must be seen of the text -/
structure M1 (X : Cx) (o : Expr) (m : Str) (apos : Pos) (e : Expr) (cpos : Pos) : Prop where
  base : attributeBase o m X.env (eval o X.env) = eval o X.env
  few : ((backTo cpos (starEach [e] X.env)).all (fun x => !x.1) && (backToKw cpos (keywordEach [] X.env)).all (fun x => x.1.isSome)
    && decide (([e] : List Expr).length + ([] : List Keyword).length + (if ([] : List Keyword).isEmpty then 0 else 1) < 30)) = true
  line : (apos.endLine == cpos.line) = true
  trees : backTo cpos (starEach [e] X.env) = [(false, eval e X.env)]
structure M2 (X : Cx) (o : Expr) (m : Str) (apos : Pos) (e f : Expr) (cpos : Pos) : Prop where
  base : attributeBase o m X.env (eval o X.env) = eval o X.env
  few : ((backTo cpos (starEach [e, f] X.env)).all (fun x => !x.1) && (backToKw cpos (keywordEach [] X.env)).all (fun x => x.1.isSome)
    && decide (([e, f] : List Expr).length + ([] : List Keyword).length + (if ([] : List Keyword).isEmpty then 0 else 1) < 30)) = true
  line : (apos.endLine == cpos.line) = true
  trees : backTo cpos (starEach [e, f] X.env) = [(false, eval e X.env), (false, eval f X.env)]

section
variable {X : Cx} {pins : List (Addr × Obj)} {σ : St} {H : Hp} {s : Shared} {a : Addr} {y d : V} {u r : Value} {o : Option V} {A : Around} {E : Value → Shared → Prop}
end

section
variable {X : Cx} {o e f : Expr} {apos cpos : Pos} {td ty tx : TE}
end

/-! ### dict(d): a copy -/
section
variable {X : Cx} {pins : List (Addr × Obj)} {σ : St} {H : Hp} {s : Shared} {a : Addr} {kvs : List (Key × V)} {A : Around} {E : Value → Shared → Prop}
end


section
variable {X : Cx} {pins : List (Addr × Obj)} {σ : St} {H : Hp} {s : Shared} {a : Addr} {y : V} {u : Value} {A : Around} {E : Value → Shared → Prop}
end
end L2

namespace L2
open PySem PySem.Spec PyProof.Rows

section
variable {prog : Program} {w : World} {A : Around} {E : Value → Shared → Prop}
end

section
variable {X : Cx}
end
end L2

namespace L2
open PySem PySem.Spec PyProof.Rows

section
variable {X : Cx} {pins : List (Addr × Obj)} {σ : St} {H : Hp} {s : Shared} {h' : Heap}
/-- several records of ours have turned -/
theorem Inv.turnedL {t' : Nat} {ch : List Addr} (I : Inv X pins σ H s) (k : ∀ b o, b ∉ ch → s.heap.get? b = some o → h'.get? b = some o) (hf : ∀ b ∈ ch, FpOk X pins H b) : Inv X pins σ H { s with heap := h', toks := t' } := by
  have nit : ∀ b u, H b = some u → b ∉ ch := fun b u e z => by
    have q := (hf b z).1
    rw [q] at e; cases e
  refine I.step (g' := s.gens) (d' := s.drawn) (ch := ch) (fun b hb => ⟨(hf b hb).2.2.2.1, (hf b hb).2.1, (hf b hb).2.2.2.2.1, (hf b hb).2.2.2.2.2⟩) (fun b o _ _ hc e _ => k b o hc e) (fun b o _ _ hc e _ => ⟨o.slots, k b o hc e⟩)
    (fun _ _ _ _ n => n) (fun b o hc e => ⟨o, k b o hc e⟩) (fun _ _ e => e) (fun _ _ _ e => e) (fun b ps e => ⟨#[], by rw [e]; simp⟩) (fun m hm => ?_) (fun b u e => ?_) I.bare
  · obtain ⟨o, es, ep, ho, r⟩ := hm
    exact ⟨o, es, ep, k _ o (fun z => (hf _ z).2.1 rfl) ho, r⟩
  · refine (I.hok b u e).stay (fun c v hc q => k c v ?_ q) (fun _ q => q) fun _ _ q => q
    rcases hc with z | z
    · rw [z]; exact nit b u e
    · exact nit c _ z
/-- .. and one new object is laid -/
theorem Inv.turnedNew {t' : Nat} {ch : List Addr} {T : Addr} {ob : HO} (I : Inv X pins σ H s) (k : ∀ b o, b ∉ ch → s.heap.get? b = some o → h'.get? b = some o) (hf : ∀ b ∈ ch, FpOk X pins H b) (hT : s.heap.objs.size ≤ T)
    (new : ObjOk X.prog X.w (upd H T ob) h' T ob) : Inv X pins σ (upd H T ob) { s with heap := h', toks := t' } := by
  have hn : H T = none := I.hok.fresh hT
  have nit : ∀ b u, H b = some u → b ∉ ch := fun b u e z => by
    have q := (hf b z).1
    rw [q] at e; cases e
  refine I.step (g' := s.gens) (d' := s.drawn) (ch := ch) (fun b hb => ⟨(hf b hb).2.2.2.1, (hf b hb).2.1, (hf b hb).2.2.2.2.1, (hf b hb).2.2.2.2.2⟩) (fun b o _ _ hc e _ => k b o hc e) (fun b o _ _ hc e _ => ⟨o.slots, k b o hc e⟩)
    (fun b o _ e n => ?_) (fun b o hc e => ⟨o, k b o hc e⟩) (fun b xs e => ?_) (fun b o u e => ?_) (fun b ps e => ⟨#[], ?_⟩) (fun m hm => ?_) (fun b u e => ?_) I.bare
  · rw [upd_ne (Nat.ne_of_lt (Nat.lt_of_lt_of_le (Heap.lt_size e) hT))]; exact n
  · rw [upd_ne (ne_of_none e hn)]; exact e
  · rw [upd_ne (ne_of_none e hn)]; exact e
  · rw [upd_ne (ne_of_none e hn), e]; simp
  · obtain ⟨o, es, ep, ho, r⟩ := hm
    exact ⟨o, es, ep, k _ o (fun z => (hf _ z).2.1 rfl) ho, r⟩
  · by_cases hb : b = T
    · subst hb
      rw [upd_same] at e
      cases e
      exact new
    · rw [upd_ne hb] at e
      refine (I.hok b u e).stay (fun c v hc q => k c v ?_ q) (fun c q => by rw [upd_ne (ne_of_none q hn)]; exact q) fun c xs q => by rw [upd_ne (ne_of_none q hn)]; exact q
      rcases hc with z | z
      · rw [z]; exact nit b u e
      · exact nit c _ z

/-! ### locking a thing while a statement runs -/
end
section
variable {X : Cx}
/-! ### one iterator just laid -/
theorem pi_one {tg : Expr} {pins : List (Addr × Obj)} {σ : St} {H : Hp} {s : Shared} {R : It → Hp → Prop} {J : It} {tn : Nat → Heap → Prop} {tk : Nat} (I : Inv X pins σ H s) (o : Obj)
    (T : Turn X.prog X.w X.K tg J [s.heap.objs.size] s.heap.objs.size tn) (st : tn 0 (s.heap.push o)) (q : R J H) : PIE X pins σ tg R (.ref s.heap.objs.size) { s with heap := s.heap.push o, toks := tk } := by
  refine ⟨s.heap.objs.size, [s.heap.objs.size], tn, J, H, rfl, I.kept fun b ob e => Heap.get?_push_of_some _ e, T, st, fun b hb => ?_, q⟩
  have e : b = s.heap.objs.size := by simpa using hb
  subst e
  exact I.fpOk (Nat.le_refl _) (I.hok.fresh (Nat.le_refl _))
end

/-! ### range with a step -/
/-- range(i, j, c): small bounds, n items -/
def RgC (i j c : Int) (n : Nat) : Prop := c ≠ 0 ∧ c.natAbs < 1073741824 ∧ Builtin.Range.small i j c = true ∧ Builtin.Range.rangeSize i j c = n
theorem RgC.neg {i j : Int} (ha : -(2 ^ 62) ≤ i) (ha' : i < 2 ^ 62) (hb : -(2 ^ 62) ≤ j) (hb' : j < 2 ^ 62) : RgC i j (-1) (i - j).toNat :=
  ⟨by decide, by decide, PySem.W.small_down ha ha' hb hb', PySem.W.rangeSize_downNat i j⟩
section
variable {X : Cx} {tg : Expr}
end
/-! ### reversed(list) -/
section
variable {X : Cx} {tg : Expr}
end

/-! ### a str -/
def Its (x : Str) : It := ⟨fun i _ => i < x.cps.size, fun i H v H' => H' = H ∧ ∃ c, x.cps[i]? = some c ∧ v = .str ⟨#[c]⟩, fun i _ => x.cps.size ≤ i⟩
theorem turn_str {P : Program} {w : World} {K : PySem.W.Frag} {tg : Expr} (it : Addr) (x : Str) (t : Tok) (ty : String) (hty : ty = "str_ascii_iterator" ∨ ty = "str_iterator") :
    Turn P w K tg (Its x) [it] it (fun i h => h.IsStrIter it ty x t i) where
  mem := by simp
  obj := fun i h st b hb => by
    have e : b = it := by simpa using hb
    subst e
    obtain ⟨o, e, c, d⟩ := st
    exact ⟨o, e, fun v z => by rw [d] at z; cases z⟩
  keep := fun i h h' st k => let ⟨o, ho, r⟩ := st; ⟨o, k it (by simp) o ho, r⟩
  item := by
    intro X hP hw hK hc i pins s σ H E I hf st hg
    subst hP hw hK
    obtain ⟨f0, f1, f2, f3, f4, f5⟩ := hf it (by simp)
    have W : Walks X.prog X.w X.A it [it] [it] x.cps.size (SignAt x) (fun i h => h.IsStrIter it ty x t i) := by
      rcases hty with e | e
      · rw [e]; exact Walks.strAscii (I.ok.hd hc) it x t
      · rw [e]; exact Walks.strWide (I.ok.hd hc) it x t
    have hno : ["enumerate", "zip", "dict_itemiterator", "dict_reverseitemiterator", "odict_iterator", "itertools.zip_longest", "itertools.pairwise"].contains ty = false := by
      rcases hty with e | e
      · rw [e]; decide
      · rw [e]; decide
    refine W.item i s _ _ hg st fun v h' tk hv st' kk => ?_
    obtain ⟨c, u, hcx, rfl⟩ := hv
    have I1 : Inv X pins σ H { s with heap := h', toks := tk } := I.turned (fun b o hb e => kk b o (by simpa using hb) e) f0 f1 f3 f4 f5
    obtain ⟨oi, e, cc, dd⟩ := id st'
    exact ⟨_, rfl, go_of (s := { s with heap := h', toks := tk }) e cc dd hno ⟨.str ⟨#[c]⟩, H, I1, ⟨u, rfl⟩, ⟨rfl, c, hcx, rfl⟩, st', fun b hb => (hf b hb).1⟩⟩
  done := by
    intro X hP hw hK hc i pins s σ H E I hf st hg
    subst hP hw hK
    obtain ⟨f0, f1, f2, f3, f4, f5⟩ := hf it (by simp)
    have hx : x.cps[i]? = none := Array.getElem?_eq_none hg
    rcases hty with e | e
    · rw [e] at st
      exact wpAny_pyNext_ascii_end (I.ok.hd hc) st hx fun h' eb => ⟨rfl, I.turned (t' := s.toks) (fun b o hb e => eb b o hb e) f0 f1 f3 f4 f5⟩
    · rw [e] at st
      exact wpAny_pyNext_wide_end (I.ok.hd hc) st hx fun h' eb => ⟨rfl, I.turned (t' := s.toks) (fun b o hb e => eb b o hb e) f0 f1 f3 f4 f5⟩
  self := fun A i s Q E st h => by
    rcases hty with e | e
    · rw [e] at st; exact wpAny_pyIter_striter_ascii st h
    · rw [e] at st; exact wpAny_pyIter_striter_wide st h
def iStr (te : TE) : TI := fun σ H R => te σ H fun v H1 => ∃ x, v = .str x ∧ R (Its x) H1
theorem pi_str {X : Cx} {tg e : Expr} {te : TE} (he : PE X e te) : PI X tg e (iStr te) := by
  intro pins s σ H R I h
  refine thn (he pins s σ H _ I h) fun v s1 ⟨y, H1, I1, r1, x, ex, q⟩ => ?_
  subst ex
  obtain ⟨t, rfl⟩ := r1
  cases ha : x.cps.all (· < 128)
  · exact wpAny_pyIter_wide ha (pi_one (tk := s1.toks) I1 _ (turn_str _ x t "str_iterator" (.inr rfl)) ⟨_, Heap.get?_push_size _ rfl, rfl, rfl⟩ q)
  · exact wpAny_pyIter_ascii ha (pi_one (tk := s1.toks) I1 _ (turn_str _ x t "str_ascii_iterator" (.inl rfl)) ⟨_, Heap.get?_push_size _ rfl, rfl, rfl⟩ q)

/-! ### a dict's keys: any dict's entries -/
section
variable {prog : Program} {w : World} {A : Around} {E : Value → Shared → Prop} {s : Shared}
end

/-! ### a locked dict -/
theorem paired_get {α β : Type} {G : α → β → Prop} {l₁ : List α} {l₂ : List β} (h : Paired G l₁ l₂) : ∀ {i : Nat} {a : α}, l₁[i]? = some a → ∃ b, l₂[i]? = some b ∧ G a b := by
  induction h with
  | nil => intro i a e; simp at e
  | @cons a b l₁ l₂ r t ih =>
    intro i a' e
    cases i with
    | zero =>
      simp only [List.getElem?_cons_zero, Option.some.injEq] at e
      subst e
      exact ⟨b, rfl, r⟩
    | succ j =>
      simp only [List.getElem?_cons_succ] at e ⊢
      exact ih e
section
variable {X : Cx} {pins : List (Addr × Obj)} {σ : St} {H : Hp} {s : Shared} {d : Addr} {o : Obj}
end

section
variable {P : Program} {w : World} {K : PySem.W.Frag} {tg : Expr} {d : Addr} {o : Obj} {es : Array DictEntry} {ep : Nat}
end

/-! ### for k in d, d.keys(), d.values(), d.items() -/
section
variable {X : Cx} {tg e : Expr} {td : TE} {apos cpos : Pos}
end

/-! ### enumerate(list) -/
/-! ### zip(list, list) -/
theorem boot_zip5 : bootBuiltins "zip" = some (.type "zip") := by decide +kernel
/-- the lists at a and b as they stand at each turn, the items in new pairs -/
def Itz (K : PySem.W.Frag) (a b : Addr) : It :=
  ⟨fun i H => ∃ (xs ys : List V) (x y : V), SqL K H a xs ∧ SqL K H b ys ∧ xs[i]? = some x ∧ ys[i]? = some y,
    fun i H v H' => ∃ T x y, v = .ref T ∧ H T = none ∧ H' = upd H T (.tup [x, y]) ∧ (∀ xs, SqL K H a xs → xs[i]? = some x) ∧ ∀ ys, SqL K H b ys → ys[i]? = some y,
    fun i H => ∃ xs ys : List V, SqL K H a xs ∧ SqL K H b ys ∧ (xs.length ≤ i ∨ ys.length ≤ i)⟩
theorem turn_zip {P : Program} {w : World} {K : PySem.W.Frag} {elts : List Expr} {kk : Nat} {tpos : Pos} {a b z TI TO i1 i2 : Addr} (D : ZipApart z TI TO i1 i2 a b) :
    Turn P w K (.Tuple elts kk tpos) (Itz K a b) [z, TI, TO, i1, i2] z (fun i h => IsZip h z TI TO .none ∧ IsPair h TI (.ref i1) (.ref i2) ∧ (∃ x y, IsPair h TO x y) ∧ h.IsListIter i1 a i ∧ h.IsListIter i2 b i) where
  mem := by simp
  obj := fun i h st c hc => by
    obtain ⟨hz, hTI, ⟨x, y, hTO⟩, ⟨o1, e1, _, d1⟩, ⟨o2, e2, _, d2⟩⟩ := st
    have e' : c = z ∨ c = TI ∨ c = TO ∨ c = i1 ∨ c = i2 := by simpa using hc
    rcases e' with q | q | q | q | q
    · rw [q]; exact ⟨_, hz, fun v q => nomatch q⟩
    · rw [q]; exact ⟨_, hTI, fun v q => nomatch q⟩
    · rw [q]; exact ⟨_, hTO, fun v q => nomatch q⟩
    · rw [q]; exact ⟨o1, e1, fun v q => by rw [d1] at q; cases q⟩
    · rw [q]; exact ⟨o2, e2, fun v q => by rw [d2] at q; cases q⟩
  keep := fun i h h' st k => by
    obtain ⟨hz, hTI, ⟨x, y, hTO⟩, h1, h2⟩ := st
    exact ⟨k z (by simp) _ hz, k TI (by simp) _ hTI, ⟨x, y, k TO (by simp) _ hTO⟩, h1.at fun o q => k i1 (by simp) o q, h2.at fun o q => k i2 (by simp) o q⟩
  item := by
    intro X hP hw hK hc i pins s σ H E I hf st hg
    subst hP hw hK
    obtain ⟨hz, hTI, ⟨x0, y0, hTO⟩, h1, h2⟩ := st
    obtain ⟨xs, ys, x, y, hqx, hqy, hx, hy⟩ := hg
    obtain ⟨its, rv, p, _⟩ := I.list hqx
    obtain ⟨its2, rv2, p2, _⟩ := I.list hqy
    obtain ⟨u, hu, ru⟩ := rv.get hx
    obtain ⟨u2, hu2, ru2⟩ := rv2.get hy
    have hzl : z < s.heap.objs.size := Heap.lt_size hz
    refine wpAny_pyNext_zip_item D hz hTI hTO h1 h2 p.isList p2.isList (x := u) (y := u2) (by simpa using hu) (by simpa using hu2) fun h' z' TO' h1' h2' hT hsz hk => ?_
    refine ⟨_, rfl, wpAny_letOwnedTupleGo_zip (s := { s with heap := h' }) z' fun h'' z'' sb => ?_⟩
    have hT2 : h''.get? s.heap.objs.size = some { cls := .type "tuple", data := .seq #[u, u2] } := (sb.2 _ (Nat.ne_of_gt hzl)).trans hT
    have new : ObjOk X.prog X.w (upd H s.heap.objs.size (.tup [x, y])) h'' s.heap.objs.size (.tup [x, y]) :=
      ⟨by show 2 ≤ sizeLine; decide, [u, u2], .cons ru (.cons ru2 .nil), ⟨_, hT2, rfl, _, rfl⟩⟩
    have I1 : Inv X pins σ (upd H s.heap.objs.size (.tup [x, y])) { s with heap := h'' } :=
      I.turnedNew (t' := s.toks) (ch := [z, TI, TO, i1, i2]) (fun c o hb q => (sb.2 c (fun q' => hb (by simp [q']))).trans (hk c o (fun q' => hb (by simp [q'])) (fun q' => hb (by simp [q'])) (fun q' => hb (by simp [q'])) (fun q' => hb (by simp [q'])) q)) hf (Nat.le_refl _) new
    refine ⟨.ref s.heap.objs.size, _, I1, rfl, ⟨_, x, y, rfl, I.hok.fresh (Nat.le_refl _), rfl, fun l hl => by rw [I.list_inj hl hqx]; exact hx, fun l hl => by rw [I.list_inj hl hqy]; exact hy⟩, ⟨z'', ?_, ⟨u, u2, ?_⟩, ?_, ?_⟩, fun c hcm => ?_⟩
    · exact (sb.2 _ D.TIz).trans (hk _ _ D.TIz D.TITO D.TIi1 D.TIi2 hTI)
    · exact (sb.2 _ D.TOz).trans TO'
    · exact h1'.at fun o q => (sb.2 _ D.i1z).trans q
    · exact h2'.at fun o q => (sb.2 _ D.i2z).trans q
    · have hlt : c < s.heap.objs.size := by
        have e' : c = z ∨ c = TI ∨ c = TO ∨ c = i1 ∨ c = i2 := by simpa using hcm
        rcases e' with q | q | q | q | q
        · rw [q]; exact hzl
        · rw [q]; exact Heap.lt_size hTI
        · rw [q]; exact Heap.lt_size hTO
        · rw [q]; obtain ⟨_, e1, _⟩ := h1; exact Heap.lt_size e1
        · rw [q]; obtain ⟨_, e2, _⟩ := h2; exact Heap.lt_size e2
      rw [upd_ne (Nat.ne_of_lt hlt)]
      exact (hf c hcm).1
  done := by
    intro X hP hw hK hc i pins s σ H E I hf st hg
    subst hP hw hK
    obtain ⟨hz, hTI, ⟨x0, y0, hTO⟩, h1, h2⟩ := st
    obtain ⟨xs, ys, hqx, hqy, hend⟩ := hg
    obtain ⟨its, rv, p, _⟩ := I.list hqx
    obtain ⟨its2, rv2, p2, _⟩ := I.list hqy
    have l1 := rv.length
    have l2 := rv2.length
    have he : its.toArray[i]? = none ∨ its2.toArray[i]? = none := by
      rcases hend with q | q
      · exact .inl (by simp; omega)
      · exact .inr (by simp; omega)
    exact wpAny_pyNext_zip_end (I.ok.hd hc) D hz hTI hTO h1 h2 p.isList p2.isList he fun h' hk => ⟨rfl, I.turnedL (t' := s.toks) (ch := [z, TI, TO, i1, i2]) (fun c o hb q =>
      hk c o (fun q' => hb (by simp [q'])) (fun q' => hb (by simp [q'])) (fun q' => hb (by simp [q'])) (fun q' => hb (by simp [q'])) q) hf⟩
  self := fun A i s Q E st h => wpAny_pyIter_zip st.1 h
def iZip (K : PySem.W.Frag) (ta : TA) : TI := fun σ H R => ta σ H fun vs H1 => ∃ a b xs ys, vs = [.ref a, .ref b] ∧ SqL K H1 a xs ∧ SqL K H1 b ys ∧ R (Itz K a b) H1
theorem pi_zip {X : Cx} {e e2 : Expr} {ta : TA} {p pos tpos : Pos} {elts : List Expr} {kk : Nat} (hg : Gl X "zip") (hm : X.mg "zip" = none) (ha : PA X [e, e2] ta)
    (hs : starEach [e, e2] X.env = (false, eval e X.env) :: starEach [e2] X.env := by rfl) (hpl : (backTo pos (starEach [e2] X.env)).any (·.1) = false := by rfl) :
    PI X (.Tuple elts kk tpos) (.Call (.Name "zip" p) [e, e2] [] pos) (iZip X.K ta) := by
  intro pins s σ H R I h
  refine Call_ (ld_blt I hg hm boot_zip5 (PyProof.Rows.callWith_type1 (thn (ha pos pins s σ H _ I h) fun us s1 ⟨vs, H1, I1, r1, q1⟩ => ?_) hs hpl))
  obtain ⟨a, b, xs, ys, ex, hqx, hqy, q⟩ := q1
  subst ex
  cases r1 with
  | cons r rr =>
    cases rr with
    | cons r' rr =>
      cases rr
      cases r
      cases r'
      obtain ⟨its, rv, p1, _⟩ := I1.list hqx
      obtain ⟨its2, rv2, p2, _⟩ := I1.list hqy
      have la : a < s1.heap.objs.size := p1.lt
      have lb : b < s1.heap.objs.size := p2.lt
      refine call_zip_2 p1.isList p2.isList fun h' hz hTI hTO h1 h2 hsz hk => wpAny_pyIter_zip hz ?_
      have I2 : Inv X pins σ H1 { s1 with heap := h' } := I1.kept (t' := s1.toks) hk
      refine ⟨s1.heap.objs.size + 4, [s1.heap.objs.size + 4, s1.heap.objs.size + 2, s1.heap.objs.size + 3, s1.heap.objs.size, s1.heap.objs.size + 1], _, _, H1, rfl, I2, turn_zip (PySem.W.ktu_apart s1.heap.objs.size a b la lb), ⟨hz, hTI, ⟨_, _, hTO⟩, h1, h2⟩, fun c hcm => ?_, q⟩
      have e' : c = s1.heap.objs.size + 4 ∨ c = s1.heap.objs.size + 2 ∨ c = s1.heap.objs.size + 3 ∨ c = s1.heap.objs.size ∨ c = s1.heap.objs.size + 1 := by simpa using hcm
      have hle : s1.heap.objs.size ≤ c := by
        rcases e' with z | z | z | z | z
        · rw [z]; exact Nat.le_add_right _ _
        · rw [z]; exact Nat.le_add_right _ _
        · rw [z]; exact Nat.le_add_right _ _
        · rw [z]; exact Nat.le_refl _
        · rw [z]; exact Nat.le_add_right _ _
      exact I1.fpOk hle (I1.hok.fresh hle)
end L2

section 
namespace Bits
open PySem PyProof.Rows

end Bits
end 

section 
namespace TL
open PySem PySem.Builtin PySem.Builtin.Str PySem.StrLaws

abbrev tl (x : Str) : List Nat := x.cps.toList
/-! ### the list functions -/
/-- S stands at the head of l -/
def pre (S l : List Nat) : Bool := l.take S.length == S
/-- l cut at each S from the left; k signs are still to be passed over -/
def spl (S : List Nat) : Nat → List Nat → List Nat → List (List Nat)
  | _, acc, [] => [acc]
  | 0, acc, c :: r => if pre S (c :: r) = true then acc :: spl S (S.length - 1) [] r else spl S 0 (acc ++ [c]) r
  | k + 1, acc, _ :: r => spl S k acc r
/-- what stands before the first S, and behind it -/
def par (S : List Nat) : List Nat → List Nat → Option (List Nat × List Nat)
  | _, [] => none
  | acc, c :: r => if pre S (c :: r) = true then some (acc, (c :: r).drop S.length) else par S (acc ++ [c]) r

/-! ### the model's split and partition are these -/
/-! ### computing spl and par -/
/-! ### digits -/
/-! ### words: x.split() -/
end TL
end 

namespace L2
open PySem PySem.Spec PyProof.Rows

section
variable {X : Cx} {pins : List (Addr × Obj)} {σ : St} {H : Hp} {s : Shared} {Q : VK}
end

section
variable {X : Cx}

/-! ### of a text alone -/
/-! ### of a text and a text -/
theorem mt1 {id : String} {g : Str → Str → V} (rule : ∀ (a b : Str) (t u : Tok) (s : Shared) (Q : Value → Shared → Prop), (∀ (v : Value) (k : Nat), RelV (g a b) v → Q v { s with toks := k }) →
    wpAny (model X.prog X.w) X.A (call (.builtin id) [.str a t, .str b u]) Q X.xe s) : MtR X id (fun x xs H Q => ∃ a b, x = .str a ∧ xs = [.str b] ∧ Q (g a b) H) := by
  intro pins s σ H x xs v us Q I rx rs h
  obtain ⟨a, b, rfl, rfl, h⟩ := h
  obtain ⟨t, rfl⟩ := rx
  cases rs with
  | cons r1 rs =>
    cases rs
    obtain ⟨u, rfl⟩ := r1
    exact rule a b t u s _ fun v k r => ⟨g a b, H, I.tok k, r, h⟩
end

section
variable {X : Cx} {o e : Expr} {to te : TE}
end
end L2

namespace L2
open PySem PySem.Spec PyProof.Rows

section
variable {X : Cx}
/-- one sign in a text -/
theorem op_in_sign : OpR X (compareOp .In) (fun x y H Q => ∃ (c : Nat) (z : Str), x = .str ⟨#[c]⟩ ∧ y = .str z ∧ Q (.bl (decide (c ∈ z.cps.toList))) H) := by
  intro pins s σ H x y v u Q I rx ry h
  obtain ⟨c, z, rfl, rfl, q⟩ := h
  obtain ⟨t, rfl⟩ := rx
  obtain ⟨t', rfl⟩ := ry
  exact PyProof.Rows.in_str (fin_bl I q (PySem.StrLaws.found_one z c).symm)
end

/-! ### slices of a text -/
theorem IsPart.raw {v : Value} {o : Option Int} (p : IsPart v o) : ∃ l : Option (Int × Tok), v = partValue l ∧ l.map (·.1) = o := by
  cases p with
  | none => exact ⟨none, rfl, rfl⟩
  | int i t => exact ⟨some (i, t), rfl, rfl⟩

/-- a part, clipped, as the text's slice reckons it -/
def clipS (n d : Nat) : Option Int → Int
  | none => (d : Int)
  | some i => max 0 (min (if i < 0 then i + (n : Int) else i) (n : Int))
theorem clipS_eq (n d : Nat) (o : Option Int) : clipS n d o = ((HT.sIx n d o : Nat) : Int) := by
  cases o with
  | none => rfl
  | some v =>
    show max (0 : Int) (min (if v < 0 then v + (n : Int) else v) (n : Int)) = (((if v < 0 then (v + (n : Int)).toNat else min v.toNat n) : Nat) : Int)
    by_cases hv : v < 0
    · simp only [if_pos hv]
      omega
    · simp only [if_neg hv]
      omega
theorem sidx_clip (a b : Option Int) (n : Nat) : Builtin.Str.strSliceIndices a b 1 n = sliceRange (clipS n 0 a) (clipS n n b) 1 := by
  have h1 : ((1 : Int) > 0) = True := by simp
  cases a <;> cases b <;> first
    | rfl
    | (simp only [Builtin.Str.strSliceIndices, clipS, h1, if_true]; rfl)
    | simp [Builtin.Str.strSliceIndices, clipS]
theorem sidx (a b : Option Int) (n : Nat) : Builtin.Str.strSliceIndices a b 1 n = (List.range (HT.sIx n n b - HT.sIx n 0 a)).map (fun k => HT.sIx n 0 a + k) := by
  rw [sidx_clip, clipS_eq, clipS_eq]
  generalize HT.sIx n 0 a = p
  generalize HT.sIx n n b = q
  simp only [sliceRange, show ((1 : Int) > 0) = True from by simp, if_true]
  by_cases hlt : (p : Int) < q
  · have e3 : (((q : Int) - p + 1 - 1) / 1).toNat = q - p := by first | omega | (simp; done) | (simp; omega)
    simp only [hlt, if_true, e3]
    refine List.map_congr_left fun k _ => ?_
    omega
  · have : q - p = 0 := by omega
    simp [hlt, this]

/-- z[lo:hi] -/
def cutS (z : Str) (lo hi : Option Int) : Str :=
  ⟨((z.cps.toList.drop (HT.sIx z.length 0 lo)).take (HT.sIx z.length z.length hi - HT.sIx z.length 0 lo)).toArray⟩
theorem sliceText_cut (z : Str) (lo hi : Option Int) : PySem.StrLaws.sliceText z lo hi = cutS z lo hi := by
  have h1 : HT.sIx z.length 0 lo ≤ z.length := HT.sIx_le _ _ (Nat.zero_le _) _
  have h2 : HT.sIx z.length z.length hi ≤ z.length := HT.sIx_le _ _ (Nat.le_refl _) _
  have hp : HT.sIx z.length 0 lo ≤ max (HT.sIx z.length 0 lo) (HT.sIx z.length z.length hi) := Nat.le_max_left _ _
  have hq : max (HT.sIx z.length 0 lo) (HT.sIx z.length z.length hi) ≤ z.length := Nat.max_le.mpr ⟨h1, h2⟩
  have hd : max (HT.sIx z.length 0 lo) (HT.sIx z.length z.length hi) - HT.sIx z.length 0 lo = HT.sIx z.length z.length hi - HT.sIx z.length 0 lo := by omega
  have e : Builtin.Str.strSliceIndices lo hi 1 z.length =
      Builtin.Str.strSliceIndices (some ((HT.sIx z.length 0 lo : Nat) : Int)) (some ((max (HT.sIx z.length 0 lo) (HT.sIx z.length z.length hi) : Nat) : Int)) 1 z.length := by
    rw [PySem.StrLaws.strSliceIndices_plain hp hq, hd, sidx]
  have e2 : PySem.StrLaws.sliceText z lo hi =
      PySem.StrLaws.sliceText z (some ((HT.sIx z.length 0 lo : Nat) : Int)) (some ((max (HT.sIx z.length 0 lo) (HT.sIx z.length z.length hi) : Nat) : Int)) := by
    unfold PySem.StrLaws.sliceText
    rw [e]
  rw [e2, PySem.StrLaws.sliceText_nat z hp hq, hd]
  rfl
theorem cutS_length (z : Str) (lo hi : Option Int) : (cutS z lo hi).length ≤ z.length := by
  show (((z.cps.toList.drop (HT.sIx z.length 0 lo)).take (HT.sIx z.length z.length hi - HT.sIx z.length 0 lo)).toArray).size ≤ z.cps.size
  rw [List.size_toArray, List.length_take, List.length_drop, Array.length_toList]
  omega
def rSlS : V → Option Int → Option Int → Hp → VK → Prop := fun x lo hi H Q => ∃ z, x = .str z ∧ z.length ≤ sizeLine ∧ Q (.str (cutS z lo hi)) H
theorem sl_str {X : Cx} : SlR X rSlS := by
  intro pins s σ H x v vl vu lo hi sl Q I rx hs pl pu h
  obtain ⟨z, rfl, hz, q⟩ := h
  obtain ⟨t, rfl⟩ := rx
  obtain ⟨os, hos, hcs, hds⟩ := hs
  obtain ⟨l, rfl, rfl⟩ := IsPart.raw pl
  obtain ⟨u, rfl, rfl⟩ := IsPart.raw pu
  refine ⟨"str", _, F.slot_str_getitem.lookup, typeIs_str _ _ _, ?_⟩
  refine wpAny_getItem_str_slice (l := l) (u := u) (st := none) ⟨os, hos, hcs, hds⟩ rfl ?_
  have hl : (PySem.StrLaws.sliceText z (l.map (·.1)) (u.map (·.1))).length ≤ sizeLine := by
    rw [sliceText_cut]
    exact Nat.le_trans (cutS_length z _ _) hz
  rw [← sliceText_cut] at q
  unfold PySem.StrLaws.sliceText at q hl
  show Made.post (if ((1 : Int) == 1 && (Builtin.Str.strSliceIndices (l.map (·.1)) (u.map (·.1)) 1 z.length).length == z.length) = true then Made.val (.str z t)
    else Made.str ⟨((Builtin.Str.strSliceIndices (l.map (·.1)) (u.map (·.1)) 1 z.length).filterMap (z.cps[·]?)).toArray⟩) (EP X pins σ Q) s
  by_cases c : ((1 : Int) == 1 && (Builtin.Str.strSliceIndices (l.map (·.1)) (u.map (·.1)) 1 z.length).length == z.length) = true
  · rw [if_pos c] at q ⊢
    exact ⟨.str z, H, I, ⟨t, rfl⟩, q⟩
  · rw [if_neg c] at q hl ⊢
    exact ⟨hl, .str _, H, I.tok _, ⟨_, rfl⟩, q⟩
end L2

namespace Att
open PySem PySem.W PySem.Calls PyProof.Rows

/-! ### the script -/
theorem ints_of_wellAll {P : Params} {h : Heap} : ∀ (ns : List Int) (vs : List Value), WellAll P h vs (ns.map WData.int) → IntsAre vs ns := by
  intro ns
  induction ns with
  | nil =>
    intro vs w
    rw [List.map_nil] at w
    cases w
    exact .nil
  | cons n ns ih =>
    intro vs w
    rw [List.map_cons] at w
    cases w with
    | cons a b =>
      cases a
      exact .cons _ _ (ih _ b)

theorem script_of {l : OpenLaw} {n : Nat} (hn : l.most = some n) {P : Params} {h : Heap} {args : List WData} {vals : List Value}
    (hpre : l.row.toRowW.claim.pre args = true) (hwl : WellAll P h vals args) :
    ∃ a vs ns, vals = [Value.ref a] ∧ args = [WData.list (ns.map WData.int)] ∧ h.get? a = some { cls := .type "list", data := .seq vs.toArray } ∧ IntsAre vs ns ∧ ns.length ≤ n := by
  have hsh : WShape.hasAll [] args [.list .int] = true := (pre_splitW hpre).1
  have hc : l.pre.holds [] { args := args } = true := (pre_splitW hpre).2
  obtain ⟨d, r, rfl, h1, h2⟩ := hasAllW_cons hsh
  obtain rfl := hasAllW_nil h2
  obtain ⟨xs, rfl, h3⟩ := hasW_list h1
  obtain ⟨ns, rfl⟩ := items_int h3
  have hlen : ns.length ≤ n := by
    unfold OpenLaw.pre at hc
    have h4 : (WTm.not (.lt (.lit (.int (n : Int))) (.len (.arg 0)))).holds [] { args := [.list (ns.map .int)] } = true := by
      have h4 := (holds_andW hc).1
      rw [hn] at h4
      exact h4
    have h5 := condW_of h4 (w_not (w_lt w_lit (w_len_list (w_arg rfl))))
    rw [List.length_map] at h5
    refine Nat.le_of_not_lt fun q => ?_
    have q' : (n : Int) < ((ns.length : Nat) : Int) := by omega
    first
      | (rw [decide_eq_true q'] at h5; exact absurd h5 (by decide))
      | (simp at h5; omega)
  cases hwl with
  | cons w1 w2 =>
    cases w2
    cases w1 with
    | list ho hall => exact ⟨_, _, ns, rfl, rfl, ho, ints_of_wellAll ns _ hall, hlen⟩

theorem post_true (l : OpenLaw) (args : List WData) : l.row.toRowW.claim.post args (.bool true) args = true :=
  postW_of (r := l.row.toRowW) (X := (true == true))
    (show WShape.has [] (.bool true) .bool = true by first | rfl | decide | simp [WShape.has, WShape.arms, WShape.armsAll])
    (show (WTm.eq .res (.lit (.bool true))).value [] { args := args, res := some (.bool true), after := args } = some (.bool (true == true)) from w_eq_bool (w_res rfl) w_lit) rfl

/-! ### the attachment: holds_open's last premise (the goal 'hc' behind k_head) from a wpAny of the law's body -/
/-- the same from a codeAny of the CALL (for a layer whose function contracts speak of calls) -/
theorem attach_call {l : OpenLaw} {n : Nat} {q : Program} {loose : List Str} {XP : (Str → Option Value) → Heap → Prop} {YP : World → Heap → Prop} {d : DefRec}
    (hn : l.most = some n) (hdf : d.params.defaults = [])
    (call : ∀ (w : World) (s₀ s₁ : Shared) (mg mb : Str → Option Value) (fa : Addr) (o : Obj) (pm cd doc : Value) (a : Addr) (vs : List Value) (ns : List Int),
      Ground q loose [] XP w s₀ mg mb s₁.heap → YP w s₁.heap →
      s₁.heap.get? fa = some o → o.data = .func (docDef d.name d.params d.body d.scope pm cd doc) → s₁.heap.CodeRec cd d.name → mg d.name = some (.ref fa) →
      s₁.heap.get? a = some { cls := .type "list", data := .seq vs.toArray } → IntsAre vs ns → ns.length ≤ n → s₁.gens = #[] →
      codeAny (model l.prog w) callerA (.call (.ref fa) ⟨[.ref a], []⟩) (fun r s' => r = .ok (.ret (.bool true)) ∧ OldK s₁.heap s'.heap ∧ s'.os = s₁.os ∧ AllBare s'.gens) s₁) :
    WalkO q loose XP YP l.row.toRowW d [] (fun f vs => PySem.call f vs) := by
  intro w s₀ s₁ mg mb G Y fa o pm cd doc dV kV ho hd hcd hD hmg hg args vals as hpre hlay hrd hwl hlo
  obtain rfl : dV = .none := Dflts.none hD hdf
  obtain rfl : kV = .none := Dflts.noKw hD
  obtain ⟨a, vs, ns, rfl, rfl, hobj, hints, hlen⟩ := script_of hn hpre hwl
  refine enter_call (codeAny_mono (call w s₀ s₁ mg mb fa o pm cd doc a vs ns G Y ho (fd_plain hd) hcd hmg hobj hints hlen hg) fun r s' hq => ?_)
  obtain ⟨rfl, h2, h3, h4⟩ := hq
  exact ⟨.inl ⟨.bool true, .bool true, [], rfl, fun _ => rfl, .bool true, post_true l _, fun _ => ⟨List.Pairwise.nil, fun _ hm => (nomatch hm)⟩⟩, h2, h3, h4⟩

/-! ### rules over ANY heap (no ledger) from facts about the written part K: the library's own take a ledger (News) for what they write -/
section
variable {prog : Program} {w : World} {A : Around} {E : Value → Shared → Prop} {s : Shared} {K : Frag}

/-! the whole heap as the ledger: makes every rule that writes through a ledger a rule over any heap -/
def ledger (h : Heap) (L d : Addr) : List (Addr × Obj) := (List.range h.objs.size).filterMap fun a => if a = L ∨ a = d then none else (h.get? a).map fun o => (a, o)
end
end Att

namespace L2
open PySem PySem.Spec PyProof.Rows

theorem vals_ints : ∀ {vs : List Value} {ns : List Int}, IntsAre vs ns → Vals (ns.map V.int) vs
  | _, _, .nil => .nil
  | _, _, .cons n t h => .cons ⟨t, rfl⟩ (vals_ints h)

end L2

namespace L2
open PySem PySem.Spec PyProof.Rows

end L2



/-! SHORT WORDS over the layer: a def of the text, its body, what a loop and a test want. -/
namespace L2
open PySem PySem.Spec PyProof.Rows

/-! ### the text by places -/
/-- the j-th statement of a class's body -/
def inClass (s : Stmt) (j : Nat) : Stmt := match s with
  | .ClassDef _ _ _ body _ _ _ _ _ _ _ => body.getD j (.Pass ⟨0, 0, 0, 0⟩)
  | _ => .Pass ⟨0, 0, 0, 0⟩
def defArgs (s : Stmt) : Arguments := match s with
  | .FunctionDef _ a _ _ _ _ _ _ _ _ => a
  | _ => { posonlyargs := [], args := [], vararg := none, kwonlyargs := [], kw_defaults := [], kwarg := none, defaults := [] }
def defBody (s : Stmt) : List Stmt := match s with
  | .FunctionDef _ _ b _ _ _ _ _ _ _ => b
  | _ => []
def defScope (s : Stmt) : Scope := match s with
  | .FunctionDef _ _ _ _ _ _ sc _ _ _ => sc
  | _ => { kind := .function, names := [], isGenerator := false, isCoroutine := false }

/-! ### no exception leaves a def -/
abbrev CX0 : CXT := fun _ _ _ _ _ _ => False
abbrev E0 : XK := fun _ _ _ => False
theorem pass0 {X : Cx} : Passes CX0 X E0 := fun _ _ _ _ _ _ _ h => h.elim

/-! ### a def (or method) of the text as it stands behind the top -/
structure Fun (K : PySem.W.Frag) (x qual : Str) (st : Stmt) (f : Addr) (fd : FuncData) : Prop where
  ex : ∃ (oc : Value) (od : Option Addr) (kV doc pm : Value) (an : Option Addr) (cdv ct : Value) (osl : Array (Option Value)),
    fd = PySem.W.fnOf x qual (defArgs st) (defBody st) (defScope st) .none kV doc pm an cdv ct ∧ K.lookup f = some ⟨oc, od, .func fd, osl⟩ ∧ PySem.W.codeIn K cdv qual = true
  kp : PySem.W.keepIn K (.ref f) = true
section
variable {P : Program} {w : World} {K : PySem.W.Frag} {mg : Str → Option Value} {base : Heap}
/-- THE RULE for a def: its body as a term of rules, and the reading of that term -/
theorem Fun.ok {x qual : Str} {st : Stmt} {f : Addr} {fd : FuncData} {N ps : List Str} {k : Nat} {sp : Sp} (F : Fun K x qual st f fd) (S : FnScope N ps (defScope st)) (len : ∀ vs H Q E, sp vs H Q E → vs.length = ps.length)
    (hbody : ∀ (cdv : Value) (A : Around) (outer : List Env) (s : Shared) (H : Hp) (vs : List V) (Q : VK) (E : XK), Room k (A.deeper (envOfC qual (defScope st) s.heap.objs.size f cdv)) → sp vs H Q E →
      ∃ t, PSs (cxOf CX0 P w K mg base N qual (defScope st) f cdv A outer s H E).nox (defBody st) t ∧ t { nx := fun _ H' => Q .non H', rt := Q } (start N vs) H) : FnOk P w K mg base CX0 (k + 1) f fd ps sp := by
  obtain ⟨oc, od, kV, doc, pm, an, cdv, ct, osl, rfl, lk, hcd⟩ := F.ex
  refine fn_of lk hcd S len fun A outer s H vs Q E hr hsp => ?_
  obtain ⟨t, h, q⟩ := hbody cdv A outer s H vs Q E hr hsp
  exact ⟨t, h.nox, q⟩
/-- how its arguments bind (no defaults): h is «fun _ _ _ _ _ _ us hl => match us, hl with | [_, _], _ => rfl», one _ a parameter -/
theorem Fun.binds {x qual : Str} {st : Stmt} {f : Addr} {fd : FuncData} {ps : List Str} (F : Fun K x qual st f fd)
    (h : ∀ (kV doc pm : Value) (an : Option Addr) (cdv ct : Value) (us : List Value), us.length = ps.length → bindArgs (PySem.W.fnOf x qual (defArgs st) (defBody st) (defScope st) .none kV doc pm an cdv ct) ⟨us, []⟩ = pure (ps.zip us)) : Binds K fd ps [] := by
  obtain ⟨oc, od, kV, doc, pm, an, cdv, ct, osl, rfl, lk, hcd⟩ := F.ex
  exact .all (h kV doc pm an cdv ct)
theorem fun_mk {x qual : Str} {st : Stmt} {f : Addr} {oc : Value} {od an : Option Addr} {osl : Array (Option Value)} {kV doc pm cdv ct : Value} (l : K.lookup f = some ⟨oc, od, .func (PySem.W.fnOf x qual (defArgs st) (defBody st) (defScope st) .none kV doc pm an cdv ct), osl⟩)
    (c : PySem.W.codeIn K cdv qual = true) (k : PySem.W.keepIn K (.ref f) = true) : Fun K x qual st f (PySem.W.fnOf x qual (defArgs st) (defBody st) (defScope st) .none kV doc pm an cdv ct) := ⟨⟨oc, od, kV, doc, pm, an, cdv, ct, osl, rfl, l, c⟩, k⟩
end
/-! ### expressions in short: the name that stands in the i-th slot -/
section
variable {X : Cx}
theorem pv (i : Nat) {x : Str} {pos : Pos} (hN : X.N[i]? = some x := by rfl) (hv : Vis X.env.scope x := by first | exact Or.inl rfl | exact Or.inr (Or.inl rfl) | exact Or.inr (Or.inr rfl)) (hd : (x == ("__debug__" : Str)) = false := by decide)
    (hcd : (x == ("__classdict__" : Str)) = false := by decide) : PE X (.Name x pos) (tVar i) := pe_var hN hv hd hcd
end

/-! ### tests -/
theorem iteF {A B : Prop} (h : B) : if false = true then A else B := by
  rw [if_neg Bool.false_ne_true]
  exact h
theorem iteT {A B : Prop} (h : A) : if true = true then A else B := by
  rw [if_pos rfl]
  exact h
theorem ite2 {c A B : Prop} [Decidable c] (h1 : c → A) (h2 : ¬ c → B) : if c then A else B := by
  by_cases h : c
  · rw [if_pos h]
    exact h1 h
  · rw [if_neg h]
    exact h2 h
/-! ### heaps -/
/-- all that was tracked is as it was -/
def Same (H H' : Hp) : Prop := ∀ b o, H b = some o → H' b = some o
theorem Same.refl (H : Hp) : Same H H := fun _ _ h => h
theorem Same.trans {H H1 H2 : Hp} (a : Same H H1) (b : Same H1 H2) : Same H H2 := fun c o h => b c o (a c o h)
theorem Same.free {H H' : Hp} (e : Same H H') {l : Addr} (h : H' l = Option.none) : H l = Option.none := by
  cases q : H l with
  | none => rfl
  | some o =>
    rw [e l o q] at h
    cases h
theorem Same.seq {K : PySem.W.Frag} {H H' : Hp} {a : Addr} {xs : List V} (e : Same H H') (h : SqL K H a xs) : SqL K H' a xs := by
  rcases h with (h | ⟨o, h⟩) | h
  · exact .inl (.inl (e _ _ h))
  · exact .inl (.inr ⟨o, e _ _ h⟩)
  · exact .inr h

/-! ### a dict's pairs: keys that differ -/
section
variable {κ : Type} [DecidableEq κ]
theorem nd_snoc : ∀ {l : List κ} {k : κ}, l.Nodup → ¬ k ∈ l → (l ++ [k]).Nodup
  | [], k, _, _ => by simp
  | a :: r, k, h, hk => by
    obtain ⟨h1, h2⟩ := List.nodup_cons.mp h
    show (a :: (r ++ [k])).Nodup
    refine List.nodup_cons.mpr ⟨fun m => ?_, nd_snoc h2 fun m => hk (List.mem_cons.mpr (Or.inr m))⟩
    rcases List.mem_append.mp m with q | q
    · exact h1 q
    · exact hk (List.mem_cons.mpr (Or.inl (List.mem_singleton.mp q).symm))
end
/-! ### lists -/
theorem at_of {xs : List V} {z : Int} {j : Nat} {v : V} (e : z = (j : Int)) (h : xs[j]? = some v) : atI xs z = some v := by
  rw [e]
  exact atI_nat h
theorem nd_ix {α : Type} {l : List α} (hN : l.Nodup) {i j : Nat} {x : α} (a : l[i]? = some x) (b : l[j]? = some x) : i = j := by
  obtain ⟨h1, e1⟩ := List.getElem?_eq_some_iff.mp a
  obtain ⟨h2, e2⟩ := List.getElem?_eq_some_iff.mp b
  exact (List.getElem_inj hN).mp (e1.trans e2.symm)
/-- a new instance and its __init__ leave all that was tracked as it was -/
theorem Same.made {H H1 : Hp} {x dx C : Addr} (nx : H x = Option.none) (nd : H dx = Option.none) (k : ∀ b o, (upd (upd H dx (.own x)) x (.ins C dx [])) b = some o → b ≠ x → H1 b = some o) : Same H H1 := fun b o e =>
  k b o (by rw [upd_ne (ne_of_none e nx), upd_ne (ne_of_none e nd)]; exact e) (ne_of_none e nx)
end L2

set_option Elab.async false
set_option linter.all false
set_option maxRecDepth 100000
namespace HT
open PySem PyProof.Rows
section
variable {prog : Program} {w : World} {A : Around} {E : Value → Shared → Prop} {s : Shared}
/-- the whole tuple's slice is the tuple -/
theorem getItem_tuple_whole {t sl : Addr} {items : Array Value} {vl vu : Value} {lo hi : Option Int} {Q : Value → Shared → Prop} (ht : IsTup s.heap t items) (hs : s.heap.IsSliceOf sl vl vu .none) (pl : IsPart vl lo) (pu : IsPart vu hi)
    (hw : sIx items.size 0 lo = 0 ∧ sIx items.size items.size hi = items.size) (h : Q (.ref t) s) : wpAny (model prog w) A (getItem (.ref t) (.ref sl)) Q E s := by
  obtain ⟨os, hos, hcs, hds⟩ := id hs
  have hTs : s.TypeIs (.ref sl) "slice" := ⟨os, hos, hcs⟩
  unfold getItem
  try with_reducible refine wpAny_holding ?_
  first | refine wpAny_bind (wpAny_pure ?_) | skip
  refine wpAny_bind (wpAny_sequenceKey ht.typeIs (by decide) ?_)
  refine wpAny_bind (wpAny_callSpecial?_slot (name := Str.ofString "__getitem__") ht.typeIs PyProof.Rows.slot_tuple_getitem
    (wpAny_call_entry PyProof.Rows.slot_tuple_getitem ht.typeIs entry_tuple_getitem ?_ (args_tuple_getitem _ _)))
  show wpAny _ _ (Builtin.Tuple.tupleItemsOf (.ref t) >>= _) _ _ s
  refine wpAny_bind (tupleItemsOf_ ht ?_)
  refine wpAny_bind (wpAny_typeOf hTs ?_)
  rw [if_pos (by decide)]
  refine wpAny_bind (sliceApplied_gen hs pl pu ?_)
  have hyes : (((sIx items.size 0 lo : Nat) : Int) == 0 && (1 : Int) == 1 && (sIx items.size items.size hi - sIx items.size 0 lo) == items.size) = true := by
    rw [hw.1, hw.2]; simp
  show wpAny _ _ (if (((sIx items.size 0 lo : Nat) : Int) == 0 && (1 : Int) == 1 && (sIx items.size items.size hi - sIx items.size 0 lo) == items.size) = true then _ else _) _ _ s
  rw [if_pos hyes]
  unfold Builtin.Tuple.tupleIsExact
  refine wpAny_bind (wpAny_bind (wpAny_typeOf ht.typeIs (wpAny_pure ?_)))
  rw [if_pos (by decide)]
  refine wpAny_bind (wpAny_rule ?_)
  first
    | exact wpAny_pure ⟨_, rfl, wpAny_pure h⟩
    | exact wpAny_bind (wpAny_pure (wpAny_pure ⟨_, rfl, wpAny_pure h⟩))
    | exact wpAny_bind (wpAny_pure (wpAny_pure (wpAny_pure ⟨_, rfl, wpAny_pure h⟩)))
/-- t + u, t empty -/
theorem cat_tup0 {t b : Addr} {vs ws : List Value} {Q : Value → Shared → Prop} (ht : IsTup s.heap t vs.toArray) (hb : IsTup s.heap b ws.toArray) (hv : vs = [])
    (h1 : Q (.ref b) s) : wpAny (model prog w) A (binaryOp .Add (.ref t) (.ref b)) Q E s := by
  obtain ⟨⟨cls, dd, data, sl⟩, ho, hc, n, hd⟩ := id ht
  obtain ⟨⟨cls2, dd2, data2, sl2⟩, ho2, hc2, n2, hd2⟩ := id hb
  simp only at hc hd hc2 hd2
  subst hc hd hc2 hd2
  exact concat_meets ⟨_, ho, rfl⟩ ⟨_, ho2, rfl⟩ noFill_tuple_add seq_tuple_add PySem.F.slot_tuple_add PySem.F.entry_tuple_add (PySem.F.args_tuple_add_2 _ _)
      (tuple_addW0 t b vs.toArray ws.toArray n n2 dd dd2 sl sl2 (by simp [hv])) ⟨ho, ho2, h1⟩
end
end HT
namespace L2
open PySem PySem.Spec PyProof.Rows
section
variable {X : Cx}
/-- o[i] of a list, by values -/
theorem get_list : PGet X (rIxL X.K) := by
  intro pins s σ H o i ov iv Q I ro ri h
  obtain ⟨p, xs, k, z, rfl, rfl, hq, he, q⟩ := h
  cases ro
  obtain ⟨t, rfl⟩ := ri
  obtain ⟨its, r, pl, hz⟩ := I.list hq
  obtain ⟨j, h1, h2, h3, h4, h5⟩ := atI_get he
  obtain ⟨w, ew, rw'⟩ := r.get h2
  have hl := r.length
  have hn := line63
  have fin : EP X pins σ Q w s := ⟨z, H, I, rw', q⟩
  by_cases h0 : 0 ≤ k
  · have hj : k.toNat = j := by
      rw [seqIndex_of h0 h5] at h1
      exact Option.some.inj h1
    exact wpAny_getItem_list pl.isList h0 (by omega) (by rw [hj]; simpa using ew) fin
  · have hj : (k + (its.toArray.size : Int)).toNat = j := by
      rw [seqIndex_neg (by omega) h4] at h1
      rw [List.size_toArray, ← hl]
      exact Option.some.inj h1
    exact wpAny_getItem_list_neg pl.isList (by omega) (by rw [List.size_toArray] <;> omega) (by omega) (by rw [hj]; simpa using ew) fin
/-- t[lo:hi], whole or not -/
def rSlTA (K : PySem.W.Frag) : V → Option Int → Option Int → Hp → VK → Prop := fun x lo hi H Q => ∃ a xs, x = .ref a ∧ SqT K H a xs ∧
  ((HT.sIx xs.length 0 lo = 0 ∧ HT.sIx xs.length xs.length hi = xs.length) → Q (.ref a) H) ∧ ∀ p, H p = none → Q (.ref p) (upd H p (.tup (cutV xs lo hi)))
theorem sl_tupA : SlR X (rSlTA X.K) := by
  intro pins s σ H x v vl vu lo hi sl Q I rx hs pl pu h
  obtain ⟨a, xs, rfl, hx, q1, q2⟩ := h
  by_cases hw : HT.sIx xs.length 0 lo = 0 ∧ HT.sIx xs.length xs.length hi = xs.length
  · cases rx
    obtain ⟨its, r, ht, hz⟩ := I.tuple hx
    have hlen : its.toArray.size = xs.length := by rw [List.size_toArray]; exact r.length.symm
    refine ⟨"tuple", _, PyProof.Rows.slot_tuple_getitem.lookup, ht.typeIs, ?_⟩
    exact HT.getItem_tuple_whole ht hs pl pu (by rw [hlen]; exact hw) ⟨.ref a, H, I, rfl, q1 hw⟩
  · exact sl_tup pins s σ H (.ref a) v vl vu lo hi sl Q I rx hs pl pu ⟨a, xs, rfl, hx, hw, q2⟩
/-- t + u of any tuples; what is told stands for xs ++ ys -/
def rCatTA (K : PySem.W.Frag) : R2 := fun x y H Q => ∃ a b xs ys, x = .ref a ∧ y = .ref b ∧ SqT K H a xs ∧ SqT K H b ys ∧ xs.length + ys.length ≤ sizeLine ∧
  (ys = [] → Q (.ref a) H) ∧ (xs = [] → Q (.ref b) H) ∧ (∀ p, H p = none → Q (.ref p) (upd H p (.tup (xs ++ ys))))
theorem op_catTA : OpR X (binaryOp .Add) (rCatTA X.K) := by
  intro pins s σ H x y v u Q I rx ry h
  obtain ⟨a, b, xs, ys, rfl, rfl, ha, hb, hz, q1, q0, q2⟩ := h
  by_cases hx : xs = []
  · cases rx
    cases ry
    obtain ⟨its, r1, p1, _⟩ := I.tuple ha
    obtain ⟨its2, r2, p2, _⟩ := I.tuple hb
    exact HT.cat_tup0 p1 p2 (r1.nil_iff.mpr hx) ⟨.ref b, H, I, rfl, q0 hx⟩
  · exact op_catT pins s σ H _ _ v u Q I rx ry ⟨a, b, xs, ys, rfl, rfl, ha, hb, hx, hz, q1, fun _ => q2⟩
/-- a text times an int -/
def repS (x : Str) (n : Int) : Str := ⟨(List.replicate n.toNat x.cps.toList).flatten.toArray⟩
theorem rep_fold (l : Array Nat) : ∀ (m : Nat) (acc : Array Nat), (List.replicate m l).foldl (· ++ ·) acc = acc ++ ((List.replicate m l.toList).flatten).toArray
  | 0, acc => by simp
  | m + 1, acc => by
    rw [List.replicate_succ, List.foldl_cons, rep_fold l m, List.replicate_succ, List.flatten_cons, Array.append_assoc]
    congr 1
    apply Array.toList_inj.mp
    simp
theorem op_repS : OpR X (binaryOp .Mult) (fun x y H Q => ∃ z n, x = .str z ∧ y = .int n ∧ -(2 ^ 63) ≤ n ∧ n < 2 ^ 63 ∧ z.length ≤ sizeLine ∧ z.length * n.toNat ≤ sizeLine ∧ Q (.str (repS z n)) H) := by
  intro pins s σ H x y v u Q I rx ry h
  obtain ⟨z, n, rfl, rfl, h1, h2, hz0, hz, q⟩ := h
  obtain ⟨t, rfl⟩ := rx
  obtain ⟨t', rfl⟩ := ry
  refine PySem.P.mul_str ?_ (fun hn hc => ?_) (fun hn hc => ?_) ?_
  · have e1 : ¬ n < -(2 ^ 63 : Int) := by omega
    have e2 : ¬ n ≥ 2 ^ 63 := by omega
    rw [decide_eq_false e1, decide_eq_false e2]; rfl
  · intro hgt
    have h3 : (z.length : Int) * n ≤ sizeLine := by
      have : ((z.length * n.toNat : Nat) : Int) ≤ sizeLine := by exact_mod_cast hz
      have e : ((n.toNat : Nat) : Int) = n := by omega
      rw [Int.natCast_mul, e] at this
      exact this
    have h4 : (sizeLine : Int) ≤ 2 ^ 63 - 1 := by decide
    have h5 : (z.length : Int) * n ≤ 2 ^ 63 - 1 := by omega
    have h6 : (z.length : Int) ≤ (2 ^ 63 - 1) / n := (Int.le_ediv_iff_mul_le (by omega)).mpr h5
    omega
  · unfold Builtin.Str.tooLong
    exact decide_eq_false (by omega)
  · by_cases c1 : n < 1
    · rw [if_pos c1]
      have e : n.toNat = 0 := by omega
      refine ⟨by decide, .str (repS z n), H, I.tok _, ⟨s.toks, ?_⟩, q⟩
      unfold repS
      rw [e]
      rfl
    · rw [if_neg c1]
      by_cases c2 : (n == 1 || z.length == 0) = true
      · rw [if_pos c2]
        have e : repS z n = z := by
          unfold repS
          rcases Bool.or_eq_true _ _ ▸ c2 with c | c
          · have : n = 1 := by simpa using c
            subst this
            show Str.mk (List.replicate 1 z.cps.toList).flatten.toArray = z
            simp
          · have hl : z.cps.toList = [] := by
              have : z.cps.size = 0 := by simpa [Str.length] using c
              simpa using this
            obtain ⟨cps⟩ := z
            simp only at hl
            have : cps = #[] := by simpa using hl
            subst this
            simp
        exact ⟨.str (repS z n), H, I, ⟨t, by rw [e]⟩, q⟩
      · rw [if_neg c2]
        have e : (⟨(List.replicate n.toNat z.cps).foldl (· ++ ·) #[]⟩ : Str) = repS z n := by
          unfold repS
          rw [rep_fold]
          simp
        have hl : (repS z n).length ≤ sizeLine := by
          unfold repS
          show ((List.replicate n.toNat z.cps.toList).flatten.toArray).size ≤ sizeLine
          rw [List.size_toArray, List.length_flatten, List.map_replicate, List.sum_replicate_nat, Array.length_toList]
          rw [Nat.mul_comm]; exact hz
        rw [e]
        exact ⟨hl, .str _, H, I.tok _, ⟨_, rfl⟩, q⟩
end
end L2

set_option Elab.async false
set_option linter.all false
set_option maxRecDepth 100000
namespace PySem
open Sem (wp)
open Builtin
theorem noFill_tuple_mul : fillsNumberSlot (.type "tuple") "mul" = pure false :=
  fillsNumberSlot_seq (id := "tuple.__mul__") (r := some (.builtin "tuple.__rmul__")) F.slot_tuple_mul.lookup (by decide +kernel) F.slot_tuple_rmul.lookup (by decide +kernel)
theorem repeat_tuple : seqRepeat? (.type "tuple") = pure (some (.builtin "tuple.__mul__")) := by
  unfold seqRepeat?
  rw [seqSlot_of (T := "tuple") (name := "__mul__") (id := "tuple.__mul__") F.slot_tuple_mul.lookup (by decide +kernel), seqSlot_of (T := "tuple") (name := "__rmul__") (id := "tuple.__rmul__") F.slot_tuple_rmul.lookup (by decide +kernel)]
  rfl
theorem int_rmul_tuple (a : Int) (t : Tok) (l : Addr) (items : Array Value) (n : Nat) (dd : Option Addr) (sl : Array (Option Value)) :
    Meets (Builtin.«int.__rmul__» ⟨[.int a t, .ref l], []⟩) (fun _ R s => s.heap.get? l = some { cls := .type "tuple", dict := dd, data := .seq items n, slots := sl } ∧ R (.ok (.ret Value.notImplemented)) s) :=
  .of_wp fun prog w A R s h => by obtain ⟨hp, g, d, tk, os⟩ := s; obtain ⟨hl, h⟩ := h; wp_walk; exact ⟨_, rfl, h⟩
theorem tuple_mul_same (l : Addr) (items : Array Value) (n : Nat) (dd : Option Addr) (sl : Array (Option Value)) (x : Int) (u : Tok) (h0 : (decide (x < -(2 ^ 63)) || decide (x ≥ 2 ^ 63)) = false) (hc : (items.isEmpty || x == 1) = true) :
    Meets (Builtin.«tuple.__mul__» ⟨[.ref l, .int x u], []⟩) (fun _ R s => s.heap.get? l = some { cls := .type "tuple", dict := dd, data := .seq items n, slots := sl } ∧ R (.ok (.ret (Value.ref l))) s) :=
  .of_wp fun prog w A R s h => by
    obtain ⟨hp, g, d, tk, os⟩ := s; obtain ⟨hl, h⟩ := h
    have f1 := AutoSeq1.idx_int
    have f2 := AutoSeq1.sub_tuple_tuple
    have h0' : ¬ ((decide (x < -(2 ^ 63)) || decide (x ≥ 2 ^ 63)) = true) := by rw [h0]; exact Bool.false_ne_true
    wp_walk using wpAny_loadPart' hl
    rw [if_neg h0']
    wp_walk using wpAny_loadPart' hl
    exact ⟨_, rfl, h⟩
theorem tuple_mul_new (l : Addr) (items : Array Value) (n : Nat) (dd : Option Addr) (sl : Array (Option Value)) (x : Int) (u : Tok) (h0 : (decide (x < -(2 ^ 63)) || decide (x ≥ 2 ^ 63)) = false) (hc : (items.isEmpty || x == 1) = false)
    (hx : ¬ x ≤ 0) (hsz : items.size * x ≤ sizeLine) :
    Meets (Builtin.«tuple.__mul__» ⟨[.ref l, .int x u], []⟩) (fun _ R s => s.heap.get? l = some { cls := .type "tuple", dict := dd, data := .seq items n, slots := sl } ∧ R (.ok (.ret (Value.ref s.heap.objs.size))) { s with heap := s.heap.push { cls := Value.type "tuple", data := Data.seq (List.foldl (fun x1 x2 => x1 ++ x2) #[] (List.replicate x.toNat items)) } }) :=
  .of_wp fun prog w A R s h => by
    obtain ⟨hp, g, d, tk, os⟩ := s; obtain ⟨hl, h⟩ := h
    have f1 := AutoSeq1.idx_int
    have f2 := AutoSeq1.sub_tuple_tuple
    have h0' : ¬ ((decide (x < -(2 ^ 63)) || decide (x ≥ 2 ^ 63)) = true) := by rw [h0]; exact Bool.false_ne_true
    have hc' : ¬ ((items.isEmpty || x == 1) = true) := by rw [hc]; exact Bool.false_ne_true
    have he : items.isEmpty = false := by
      cases q : items.isEmpty
      · rfl
      · rw [q] at hc; cases hc
    have hx' : ¬ ((decide (x ≤ 0) || items.isEmpty) = true) := by rw [decide_eq_false hx, he]; exact Bool.false_ne_true
    have hcap : ¬ ((items.size : Int) * x > (2 ^ 63 - 1) / 8) := by
      have : (sizeLine : Int) ≤ (2 ^ 63 - 1) / 8 := by decide
      omega
    have hmany : ¬ (Builtin.Tuple.tupleTooMany ((items.size : Int) * x) = true) := by
      unfold Builtin.Tuple.tupleTooMany
      rw [decide_eq_false (by omega)]
      exact Bool.false_ne_true
    have hjoin : (List.foldl (fun x1 x2 => x1 ++ x2) #[] (List.replicate x.toNat items)).size ≤ sizeLine := by
      rw [AutoListH.size_joined]
      have e : ((x.toNat : Nat) : Int) = x := by omega
      have : (((x.toNat * items.size : Nat)) : Int) ≤ sizeLine := by
        rw [Int.natCast_mul, e, Int.mul_comm]; exact hsz
      simp only [Array.size_empty, Nat.zero_add]
      exact_mod_cast this
    wp_walk using wpAny_loadPart' hl
    rw [if_neg h0']
    wp_walk using wpAny_loadPart' hl
    rw [if_neg hc']
    wp_walk using wpAny_loadPart' hl
    rw [if_neg hcap]
    wp_walk using wpAny_loadPart' hl
    first
      | exact ⟨_, rfl, h⟩
      | (refine wpAny_ite_false (decide_eq_false (Nat.not_lt.mpr hjoin)) ?_; wp_walk; exact ⟨_, rfl, h⟩)
      | trace_state
end PySem
namespace L2
open PySem PySem.Spec PyProof.Rows
section
variable {X : Cx}
/-- a tuple times an int above 0; what is told stands for so many copies -/
def rRepT (K : PySem.W.Frag) : R2 := fun x y H Q => ∃ a xs n, x = .ref a ∧ y = .int n ∧ SqT K H a xs ∧ 1 < n ∧ n < 2 ^ 63 ∧ (xs.length : Int) * n ≤ sizeLine ∧
  (xs = [] → Q (.ref a) H) ∧ ∀ p, H p = none → Q (.ref p) (upd H p (.tup (List.replicate n.toNat xs).flatten))
theorem Vals.repT {xs : List V} {us : List Value} (r : Vals xs us) : ∀ n : Nat, Vals (List.replicate n xs).flatten (List.replicate n us).flatten
  | 0 => .nil
  | n + 1 => by
    rw [List.replicate_succ, List.replicate_succ, List.flatten_cons, List.flatten_cons]
    exact r.append (Vals.repT r n)
theorem op_repT : OpR X (binaryOp .Mult) (rRepT X.K) := by
  intro pins s σ H x y v u Q I rx ry h
  obtain ⟨a, xs, n, rfl, rfl, ha, h1, h2, hz, q0, q⟩ := h
  cases rx
  obtain ⟨t, rfl⟩ := ry
  obtain ⟨its, r, p, _⟩ := I.tuple ha
  have hlen : its.toArray.size = xs.length := by rw [List.size_toArray]; exact r.length.symm
  obtain ⟨⟨cls, dd, data, sl⟩, ho, hc, m, hd⟩ := id p
  simp only at hc hd
  subst hc hd
  have h0 : (decide (n < -(2 ^ 63)) || decide (n ≥ 2 ^ 63)) = false := by
    rw [decide_eq_false (by omega), decide_eq_false (by omega)]; rfl
  refine wpAny_binaryOp_repeat_ref (T := "tuple") (U := "int") (by decide) ⟨_, ho, rfl⟩ (fun s' => typeIs_int s' n t) noFill_tuple_mul F.fills_int_mul F.slot_int_rmul repeat_tuple F.slot_int_index.lookup
    (call_meets F.slot_int_rmul (typeIs_int s n t) F.entry_int_rmul (F.args_int_rmul_2 _ _) (int_rmul_tuple n t a its.toArray m dd sl) ⟨ho, rfl, ⟨_, ho, rfl⟩, ?_⟩)
  by_cases he : its.toArray.isEmpty = true
  · refine call_meets F.slot_tuple_mul ⟨_, ho, rfl⟩ F.entry_tuple_mul (F.args_tuple_mul_2 _ _) (tuple_mul_same a its.toArray m dd sl n t h0 (by rw [he]; rfl)) ⟨ho, ?_⟩
    exact ⟨.ref a, H, I, rfl, q0 (r.nil_iff.mp (by simpa using he))⟩
  · refine call_meets F.slot_tuple_mul ⟨_, ho, rfl⟩ F.entry_tuple_mul (F.args_tuple_mul_2 _ _) (tuple_mul_new a its.toArray m dd sl n t h0 (by
        rw [Bool.eq_false_iff.mpr he]
        have : ¬ n = 1 := by omega
        simpa using this) (by omega) (by rw [hlen]; exact hz)) ⟨ho, ?_⟩
    have e : List.foldl (fun x1 x2 => x1 ++ x2) #[] (List.replicate n.toNat its.toArray) = ((List.replicate n.toNat its).flatten).toArray := by
      have := foldl_rep its n.toNat []
      rw [List.nil_append] at this
      exact this
    rw [e]
    refine ⟨.ref s.heap.objs.size, _, I.laid (t' := s.toks) (o := .tup (List.replicate n.toNat xs).flatten) (fun b ob q => Heap.get?_push_of_some _ q) (Nat.le_refl _) ?_, rfl, q _ (I.hok.fresh (Nat.le_refl _))⟩
    refine ⟨?_, _, r.repT n.toNat, IsTup.new _ _⟩
    rw [List.length_flatten, List.map_replicate, List.sum_replicate_nat]
    have e : ((n.toNat : Nat) : Int) = n := by omega
    have : (((n.toNat * xs.length : Nat)) : Int) ≤ sizeLine := by
      rw [Int.natCast_mul, e, Int.mul_comm]; exact hz
    exact_mod_cast this
end
end L2

set_option Elab.async false
set_option linter.all false
set_option maxRecDepth 100000
namespace L2
open PySem PySem.Spec PyProof.Rows
instance (priority := 5000) beqKey : BEq Key := ⟨fun a b => decide (a = b)⟩
instance (priority := 5000) lawKey : LawfulBEq Key where
  eq_of_beq := fun h => of_decide_eq_true h
  rfl := decide_eq_true rfl
/-- what a set of these keys holds, in the order in which they were met -/
def ddStep (σ : List Key) (k : Key) : List Key := if k ∈ σ then σ else σ ++ [k]
def dd (l : List Key) : List Key := l.foldl ddStep []
theorem dd_snoc (l : List Key) (k : Key) : dd (l ++ [k]) = ddStep (dd l) k := by unfold dd; rw [List.foldl_append]; rfl
theorem ddStep_len (σ : List Key) (k : Key) : (ddStep σ k).length = if k ∈ σ then σ.length else σ.length + 1 := by unfold ddStep; split <;> simp
theorem ddStep_mem (σ : List Key) (k x : Key) : x ∈ ddStep σ k ↔ x ∈ σ ∨ x = k := by
  unfold ddStep
  split
  · constructor
    · exact .inl
    · rintro (h | rfl) <;> assumption
  · simp
theorem dd_mem (l : List Key) (x : Key) : x ∈ dd l ↔ x ∈ l := by
  have key : ∀ (l σ : List Key), x ∈ l.foldl ddStep σ ↔ x ∈ σ ∨ x ∈ l := by
    intro l
    induction l with
    | nil => intro σ; simp
    | cons a r ih => intro σ; rw [List.foldl_cons, ih, ddStep_mem]; simp [or_assoc]
  rw [dd, key]; simp
theorem dd_le (l : List Key) : (dd l).length ≤ l.length := by
  have key : ∀ (l σ : List Key), (l.foldl ddStep σ).length ≤ σ.length + l.length := by
    intro l
    induction l with
    | nil => intro σ; simp
    | cons a r ih =>
      intro σ
      rw [List.foldl_cons]
      have h1 := ih (ddStep σ a)
      have h2 := ddStep_len σ a
      rw [List.length_cons]
      split at h2 <;> omega
  have := key l []
  simpa [dd] using this
theorem dd_nodup {l : List Key} (h : l.Nodup) : dd l = l := by
  have key : ∀ (l σ : List Key), (σ ++ l).Nodup → l.foldl ddStep σ = σ ++ l := by
    intro l
    induction l with
    | nil => intro σ _; simp
    | cons a r ih =>
      intro σ hn
      have ha : a ∉ σ := by
        intro hm
        rw [List.nodup_append] at hn
        exact hn.2.2 a hm a List.mem_cons_self rfl
      rw [List.foldl_cons]
      have e : ddStep σ a = σ ++ [a] := by unfold ddStep; rw [if_neg ha]
      rw [e, ih (σ ++ [a]) (by simpa using hn)]
      simp
  simpa [dd] using key l [] (by simpa using h)
theorem dd_lt {l : List Key} (h : ¬ l.Nodup) : (dd l).length < l.length := by
  have key : ∀ (l : List Key), ¬ l.Nodup → (dd l).length < l.length := by
    intro l hl
    obtain ⟨n, hn⟩ : ∃ n, n = l.length := ⟨_, rfl⟩
    induction n generalizing l with
    | zero => exact absurd (by rw [List.length_eq_zero_iff.mp hn.symm]; exact List.nodup_nil) hl
    | succ n ih =>
      have hne : l ≠ [] := by rintro rfl; simp at hn
      have e : l = l.dropLast ++ [l.getLast hne] := (List.dropLast_concat_getLast hne).symm
      generalize l.dropLast = r at e
      generalize l.getLast hne = a at e
      subst e
      rw [dd_snoc, ddStep_len]
      have h1 := dd_le r
      simp only [List.length_append, List.length_singleton] at hn ⊢
      by_cases hr : r.Nodup
      · have hm : a ∈ r := by
          by_cases hm : a ∈ r
          · exact hm
          · exact absurd (nd_snoc hr hm) hl
        rw [if_pos ((dd_mem r a).mpr hm)]
        omega
      · have := ih r hr (by omega)
        split <;> omega
  exact key l h
section
variable {prog : Program} {w : World} {A : Around} {R : Result → Shared → Prop} {I : Addr} {fp wr : List Addr} {G : Array GenState → Array GenState → Prop} {n : Nat} {P : Nat → Value → Prop} {St : Nat → Shared → Prop}
theorem scan_key {k : Key} {v : Value} (h : keyIs k v = true) : v.scannable = true := by
  rcases keyIs_shape h with ⟨i, t, _, rfl⟩ | ⟨x, t, _, rfl⟩ <;> rfl
theorem set_loop (W : WalksS prog w A.in1 I fp wr G n P St) (S : Addr) (hSf : S ∉ fp)
    (ks : List Key) (hn : ks.length = n) (hval : ∀ i v, P i v → ∃ k, ks[i]? = some k ∧ keyIs k v = true) (hb : n + 1 < scanBound) :
    ∀ (k i : Nat) (s : Shared), n - i = k → i ≤ n → St i s →
      s.heap.SetOf (mixKind prog w) S (fun k' => decide (k' ∈ dd (ks.take i))) (dd (ks.take i)).length →
      (∀ s', Moved (S :: wr) G s s' → s'.heap.SetOf (mixKind prog w) S (fun k' => decide (k' ∈ dd ks)) (dd ks).length → R (.ok (.ret .none)) s') →
      codeAny (model prog w) A (.builtin "set.update.loop" ⟨[.ref S, .ref I], []⟩) R s := by
  have hSw : S ∉ wr := fun h => hSf (W.sub _ h)
  have hsub : ∀ b ∈ wr, b ∈ S :: wr := fun b hb => List.mem_cons_of_mem _ hb
  intro k
  induction k with
  | zero =>
    intro i s hk hi hst hS hR
    have hin : i = n := by omega
    subst hin
    have et : ks.take i = ks := List.take_of_length_le (by omega)
    rw [et] at hS
    refine codeAny_builtin F.entry_set_update_loop ?_
    rw [Around.under_plainId F.plain_set_update_loop _]
    show wpAny _ A.in1 (pyNext (.ref I) >>= _) _ _ s
    refine wpAny_bind (W.done s _ _ hst fun s' hm => ?_)
    show wpAny _ A.in1 (ret Value.none) _ _ s'
    exact wpAny_pure (hR s' (hm.mono hsub) (by
      obtain ⟨o, es, ep, t, ho, rest⟩ := hS
      exact ⟨o, es, ep, t, hm.heap S _ hSw ho, rest⟩))
  | succ k ih =>
    intro i s hk hi hst hS hR
    have hlt : i < n := by omega
    refine codeAny_builtin F.entry_set_update_loop ?_
    rw [Around.under_plainId F.plain_set_update_loop _]
    show wpAny _ A.in1 (pyNext (.ref I) >>= _) _ _ s
    refine wpAny_bind (W.item i s _ _ hlt hst fun v s' hP hst' hm => ?_)
    obtain ⟨c, hc, hcv⟩ := hval i v hP
    have hS' : s'.heap.SetOf (mixKind prog w) S (fun k' => decide (k' ∈ dd (ks.take i))) (dd (ks.take i)).length := by
      obtain ⟨o, es, ep, tb, ho, rest⟩ := hS
      exact ⟨o, es, ep, tb, hm.heap S _ hSw ho, rest⟩
    show wpAny _ A.in1 (holding [v] (setAdd S v) >>= _) _ _ s'
    refine wpAny_bind (wpAny_holding ?_)
    unfold setAdd
    refine wpAny_holding ?_
    refine wpAny_bind ((mixKind prog w).pyHash (k := c) hcv ?_)
    have hroom : (dd (ks.take i)).length + 1 < scanBound := by
      have h1 := dd_le (ks.take i)
      have h2 : (ks.take i).length ≤ i := List.length_take_le _ _
      omega
    refine wpAny_setAddHashed_of (knd := mixKind prog w) (s := { s' with toks := s'.toks + 1 }) hcv (scan_key hcv) hS' hroom fun h' hsb hS2 => ?_
    have et : ks.take (i + 1) = ks.take i ++ [c] := by rw [List.take_succ, hc]; rfl
    have hSi : h'.SetOf (mixKind prog w) S (fun k' => decide (k' ∈ dd (ks.take (i + 1)))) (dd (ks.take (i + 1))).length := by
      rw [et, dd_snoc]
      have e1 : (fun k' => decide (k' ∈ ddStep (dd (ks.take i)) c)) = (fun k' => (decide (k' ∈ dd (ks.take i)) || decide (k' = c))) := by
        funext k'
        rw [← Bool.decide_or]
        exact decide_eq_decide.mpr (ddStep_mem _ _ _)
      rw [e1, ddStep_len]
      simpa using hS2
    refine wpAny_pure ⟨plainId_quiet F.plain_set_update_loop _, ih (i + 1) _ (by omega) hlt (W.frame _ s' _ _ hst' (Nat.le_succ _) fun b hb o e => ?_) hSi fun s'' hm'' hS'' => ?_⟩
    · rw [hsb.2 b (fun h : b = S => hSf (by rw [← h]; exact hb))]; exact e
    · refine hR s'' (Moved.trans W.gtrans ((hm.mono hsub).then_heap (Nat.le_succ _) fun b o hb e => ?_) hm'') hS''
      rw [hsb.2 b (fun h : b = S => hb (by rw [h]; exact List.mem_cons_self))]; exact e
end
section
variable {prog : Program} {w : World} {A : Around} {E : Value → Shared → Prop} {s : Shared}
theorem paired_at {α β : Type} {F : α → β → Prop} : ∀ {xs : List α} {ys : List β} {i : Nat} {y : β}, Paired F xs ys → ys[i]? = some y → ∃ x, xs[i]? = some x ∧ F x y
  | _, _, i, _, .nil, e => by simp at e
  | _, _, 0, _, .cons r _, e => by simp at e; subst e; exact ⟨_, rfl, r⟩
  | _, _, i + 1, y, .cons _ t, e => by
    obtain ⟨u, h1, h2⟩ := paired_at (i := i) (y := y) t (by simpa using e)
    exact ⟨u, by simpa using h1, h2⟩
set_option maxHeartbeats 3200000 in
theorem call_set_T {l : Addr} {items : Array Value} {ks : List Key} {Q : Value → Shared → Prop}
    (hh : A.handled = none) (hl : s.heap.IsTuple l items) (hi : Paired (fun (k : Key) (v : Value) => keyIs k v = true) ks items.toList) (hb : items.size + 1 < scanBound)
    (h : ∀ (h' : Heap) (tk : Nat), h'.SetOf (mixKind prog w) s.heap.objs.size (fun k' => decide (k' ∈ dd ks)) (dd ks).length →
      (∀ b o, b < s.heap.objs.size → s.heap.get? b = some o → h'.get? b = some o) → Q (.ref s.heap.objs.size) { s with heap := h', toks := tk }) :
    wpAny (model prog w) A (call (.type "set") [.ref l]) Q E s := by
  obtain ⟨c, tl, hmro⟩ := F.called_set.mro
  have hmade := F.called_set.made
  have hsub := F.called_set.sub
  refine wpAny_call (codeAny_of_tree ?_)
  show wpAny _ _ (callAny (.type "set") _) _ _ _
  refine wpAny_pure ⟨Code.quiet_builtin _ (by decide +kernel), codeAny_builtin F.entry_type_call ?_⟩
  rw [Around.under_plain (weight_type_call_type "set" [.ref l] []) rfl]
  have h1 := F.called_set.notType
  have h2 := F.called_set.canCreate
  have hct := F.typeCall_set_1 (.ref l)
  repeat (any_goals (first | assumption | wp_step))
  refine codeAny_mono (code_set_new_1 (.ref l) (E := E) (Q₁ := fun obj s₁ => ∃ led : Bool, obj = .ref s.heap.objs.size ∧ s₁ = { s with heap := s.heap.push { cls := .type "set", dict := none, data := .set #[] 0 (.fresh 0 0 led) } }) fun led => ⟨led, rfl, rfl⟩) fun r s₁ hr => ?_
  cases r with
  | error e => exact hr
  | ok fl =>
    cases fl with
    | ret obj =>
      obtain ⟨led, rfl, rfl⟩ := hr
      have hS : (s.heap.push { cls := .type "set", dict := none, data := .set #[] 0 (.fresh 0 0 led) }).get? s.heap.objs.size = some { cls := .type "set", dict := none, data := .set #[] 0 (.fresh 0 0 led) } := Heap.get?_push_size _ rfl
      have hT : Shared.TypeIs { s with heap := s.heap.push { cls := .type "set", dict := none, data := .set #[] 0 (.fresh 0 0 led) } } (.ref s.heap.objs.size) "set" := ⟨_, hS, rfl⟩
      have hli := F.called_set.init.lookup
      have hbi := F.called_set.init.bind (.ref s.heap.objs.size)
      repeat (any_goals (first | assumption | wp_step))
      refine codeAny_mono (codeAny_call_builtin (R := wants (fun r s₂ => r = .none ∧ ∃ h' tk, s₂ = { s with heap := h', toks := tk } ∧
          h'.SetOf (mixKind prog w) s.heap.objs.size (fun k' => decide (k' ∈ dd ks)) (dd ks).length ∧
          (∀ b o, b < s.heap.objs.size → s.heap.get? b = some o → h'.get? b = some o)) E) F.called_set.init.plain F.entry_set_init (check_set_init_1 hT ?_)) fun r₂ s₂ hr₂ => ?_
      · obtain ⟨ol, hol, hcl, nl, hdl⟩ := hl
        obtain ⟨ocls, odict, odata, oslots⟩ := ol
        simp only at hcl hdl
        subst hcl; subst hdl
        have hol' : (s.heap.push { cls := .type "set", dict := none, data := .set #[] 0 (.fresh 0 0 led) }).get? l = some { cls := .type "tuple", dict := odict, data := .seq items nl, slots := oslots } := Heap.get?_push_of_some _ hol
        have hsls := F.sub_tuple_set
        have hslf := F.sub_tuple_frozenset
        have hne : (Value.type "tuple" == Value.type "dict") = false := by decide
        have hl1 : (s.heap.push { cls := .type "set", dict := none, data := .set #[] 0 (.fresh 0 0 led) }).IsTuple l items := ⟨_, hol', rfl, nl, rfl⟩
        unfold Builtin.«set.__init__» noKeywords Builtin.Frozenset.updateFrom
        generalize hPI : pyIter = PI
        wp_walk
        subst hPI
        refine wpAny_pyIter_tuple hl1 ?_
        refine wpAny_bind (wpAny_runValue ?_)
        have hlS : l < s.heap.objs.size := Heap.lt_size hol
        have hh3 : A.in1.in1.in1.handled = none := by simp [hh]
        have hneI : l ≠ (s.heap.push { cls := .type "set", dict := none, data := .set #[] 0 (.fresh 0 0 led) }).objs.size := by
          rw [Heap.size_push]; exact Nat.ne_of_lt (Nat.lt_succ_of_lt hlS)
        have hSf : s.heap.objs.size ∉ [(s.heap.push { cls := .type "set", dict := none, data := .set #[] 0 (.fresh 0 0 led) }).objs.size, l] := by
          rw [Heap.size_push]; simp only [List.mem_cons, List.mem_singleton, List.not_mem_nil, or_false, not_or]
          exact ⟨Nat.ne_of_lt (Nat.lt_succ_self _), Nat.ne_of_gt hlS⟩
        have hlen : ks.length = items.size := by rw [Paired.length hi, Array.length_toList]
        have hval : ∀ (i : Nat) (v : Value), items[i]? = some v → ∃ k, ks[i]? = some k ∧ keyIs k v = true := fun i v hv => by
          have hv' : items.toList[i]? = some v := by rw [Array.getElem?_toList]; exact hv
          exact paired_at (F := fun (k : Key) (v : Value) => keyIs k v = true) hi hv'
        refine set_loop ((Walks.tuple hh3 _ l hneI items).toS) s.heap.objs.size
          hSf ks hlen hval hb (items.size - 0) 0 _ (by omega) (Nat.zero_le _)
          ⟨⟨_, Heap.get?_push_size _ rfl, rfl, rfl⟩, (hl1.push _)⟩ ?hS0 ?hR
        case hS0 =>
          have hget : ((s.heap.push { cls := .type "set", dict := none, data := .set #[] 0 (.fresh 0 0 led) }).push { cls := .type "tuple_iterator", data := .fields #[.ref l, .int 0 0] }).get? s.heap.objs.size
              = some { cls := .type "set", dict := none, data := .set #[] 0 (.fresh 0 0 led) } := Heap.get?_push_of_some _ hS
          exact PyProof.Rows.SetOf_congr ((PyProof.Rows.setObjOf_fresh (knd := mixKind prog w) led).setOf hget (by unfold scanBound; omega)) (fun _ => by simp [dd]) rfl
        case hR =>
          intro s' hm hS'
          obtain ⟨h', g', d', tk', os'⟩ := s'
          have eg : g' = s.gens := hm.gens
          have ed : d' = s.drawn := hm.drawn
          have eo : os' = s.os := hm.os
          subst eg; subst ed; subst eo
          show wpAny _ _ _ _ _ _
          refine wpAny_pure ?_
          show wpAny _ _ (ret Value.none) _ _ _
          refine wpAny_pure ⟨rfl, h', tk', rfl, hS', fun b o hb e => ?_⟩
          have hb1 : b ≠ s.heap.objs.size := Nat.ne_of_lt hb
          have hb2 : b ≠ (s.heap.push { cls := .type "set", dict := none, data := .set #[] 0 (.fresh 0 0 led) }).objs.size := by
            rw [Heap.size_push]; exact Nat.ne_of_lt (Nat.lt_succ_of_lt hb)
          exact hm.heap b o (by simp only [List.mem_cons, List.mem_singleton, List.not_mem_nil, or_false, not_or]; exact ⟨hb1, hb2⟩) (Heap.get?_push_of_some _ (Heap.get?_push_of_some _ e))
      · cases r₂ with
        | error e => exact hr₂
        | ok fl₂ =>
          cases fl₂ with
          | ret r =>
            obtain ⟨rfl, h', tk, rfl, hS', hk'⟩ := hr₂
            repeat (any_goals (first | assumption | wp_step))
            exact h _ _ hS' hk'
          | _ => exact hr₂.elim
    | _ => exact hr.elim
set_option maxHeartbeats 3200000 in
theorem call_set_L {l : Addr} {items : Array Value} {ks : List Key} {Q : Value → Shared → Prop}
    (hh : A.handled = none) (hl : s.heap.IsList l items) (hi : Paired (fun (k : Key) (v : Value) => keyIs k v = true) ks items.toList) (hb : items.size + 1 < scanBound)
    (h : ∀ (h' : Heap) (tk : Nat), h'.SetOf (mixKind prog w) s.heap.objs.size (fun k' => decide (k' ∈ dd ks)) (dd ks).length →
      (∀ b o, b < s.heap.objs.size → s.heap.get? b = some o → h'.get? b = some o) → Q (.ref s.heap.objs.size) { s with heap := h', toks := tk }) :
    wpAny (model prog w) A (call (.type "set") [.ref l]) Q E s := by
  obtain ⟨c, tl, hmro⟩ := F.called_set.mro
  have hmade := F.called_set.made
  have hsub := F.called_set.sub
  refine wpAny_call (codeAny_of_tree ?_)
  show wpAny _ _ (callAny (.type "set") _) _ _ _
  refine wpAny_pure ⟨Code.quiet_builtin _ (by decide +kernel), codeAny_builtin F.entry_type_call ?_⟩
  rw [Around.under_plain (weight_type_call_type "set" [.ref l] []) rfl]
  have h1 := F.called_set.notType
  have h2 := F.called_set.canCreate
  have hct := F.typeCall_set_1 (.ref l)
  repeat (any_goals (first | assumption | wp_step))
  refine codeAny_mono (code_set_new_1 (.ref l) (E := E) (Q₁ := fun obj s₁ => ∃ led : Bool, obj = .ref s.heap.objs.size ∧ s₁ = { s with heap := s.heap.push { cls := .type "set", dict := none, data := .set #[] 0 (.fresh 0 0 led) } }) fun led => ⟨led, rfl, rfl⟩) fun r s₁ hr => ?_
  cases r with
  | error e => exact hr
  | ok fl =>
    cases fl with
    | ret obj =>
      obtain ⟨led, rfl, rfl⟩ := hr
      have hS : (s.heap.push { cls := .type "set", dict := none, data := .set #[] 0 (.fresh 0 0 led) }).get? s.heap.objs.size = some { cls := .type "set", dict := none, data := .set #[] 0 (.fresh 0 0 led) } := Heap.get?_push_size _ rfl
      have hT : Shared.TypeIs { s with heap := s.heap.push { cls := .type "set", dict := none, data := .set #[] 0 (.fresh 0 0 led) } } (.ref s.heap.objs.size) "set" := ⟨_, hS, rfl⟩
      have hli := F.called_set.init.lookup
      have hbi := F.called_set.init.bind (.ref s.heap.objs.size)
      repeat (any_goals (first | assumption | wp_step))
      refine codeAny_mono (codeAny_call_builtin (R := wants (fun r s₂ => r = .none ∧ ∃ h' tk, s₂ = { s with heap := h', toks := tk } ∧
          h'.SetOf (mixKind prog w) s.heap.objs.size (fun k' => decide (k' ∈ dd ks)) (dd ks).length ∧
          (∀ b o, b < s.heap.objs.size → s.heap.get? b = some o → h'.get? b = some o)) E) F.called_set.init.plain F.entry_set_init (check_set_init_1 hT ?_)) fun r₂ s₂ hr₂ => ?_
      · obtain ⟨ol, hol, hcl, nl, hdl⟩ := hl
        obtain ⟨ocls, odict, odata, oslots⟩ := ol
        simp only at hcl hdl
        subst hcl; subst hdl
        have hol' : (s.heap.push { cls := .type "set", dict := none, data := .set #[] 0 (.fresh 0 0 led) }).get? l = some { cls := .type "list", dict := odict, data := .seq items nl, slots := oslots } := Heap.get?_push_of_some _ hol
        have hsls := F.sub_list_set
        have hslf := F.sub_list_frozenset
        have hne : (Value.type "list" == Value.type "dict") = false := by decide
        have hl1 : (s.heap.push { cls := .type "set", dict := none, data := .set #[] 0 (.fresh 0 0 led) }).IsList l items := ⟨_, hol', rfl, nl, rfl⟩
        unfold Builtin.«set.__init__» noKeywords Builtin.Frozenset.updateFrom
        generalize hPI : pyIter = PI
        wp_walk
        subst hPI
        refine wpAny_pyIter_list hl1 ?_
        refine wpAny_bind (wpAny_runValue ?_)
        have hlS : l < s.heap.objs.size := Heap.lt_size hol
        have hh3 : A.in1.in1.in1.handled = none := by simp [hh]
        have hneI : l ≠ (s.heap.push { cls := .type "set", dict := none, data := .set #[] 0 (.fresh 0 0 led) }).objs.size := by
          rw [Heap.size_push]; exact Nat.ne_of_lt (Nat.lt_succ_of_lt hlS)
        have hSf : s.heap.objs.size ∉ [(s.heap.push { cls := .type "set", dict := none, data := .set #[] 0 (.fresh 0 0 led) }).objs.size, l] := by
          rw [Heap.size_push]; simp only [List.mem_cons, List.mem_singleton, List.not_mem_nil, or_false, not_or]
          exact ⟨Nat.ne_of_lt (Nat.lt_succ_self _), Nat.ne_of_gt hlS⟩
        have hlen : ks.length = items.size := by rw [Paired.length hi, Array.length_toList]
        have hval : ∀ (i : Nat) (v : Value), items[i]? = some v → ∃ k, ks[i]? = some k ∧ keyIs k v = true := fun i v hv => by
          have hv' : items.toList[i]? = some v := by rw [Array.getElem?_toList]; exact hv
          exact paired_at (F := fun (k : Key) (v : Value) => keyIs k v = true) hi hv'
        refine set_loop ((Walks.list hh3 _ l hneI items).toS) s.heap.objs.size
          hSf ks hlen hval hb (items.size - 0) 0 _ (by omega) (Nat.zero_le _)
          ⟨⟨_, Heap.get?_push_size _ rfl, rfl, rfl⟩, (hl1.push _)⟩ ?hS0 ?hR
        case hS0 =>
          have hget : ((s.heap.push { cls := .type "set", dict := none, data := .set #[] 0 (.fresh 0 0 led) }).push { cls := .type "list_iterator", data := .fields #[.ref l, .int 0 0] }).get? s.heap.objs.size
              = some { cls := .type "set", dict := none, data := .set #[] 0 (.fresh 0 0 led) } := Heap.get?_push_of_some _ hS
          exact PyProof.Rows.SetOf_congr ((PyProof.Rows.setObjOf_fresh (knd := mixKind prog w) led).setOf hget (by unfold scanBound; omega)) (fun _ => by simp [dd]) rfl
        case hR =>
          intro s' hm hS'
          obtain ⟨h', g', d', tk', os'⟩ := s'
          have eg : g' = s.gens := hm.gens
          have ed : d' = s.drawn := hm.drawn
          have eo : os' = s.os := hm.os
          subst eg; subst ed; subst eo
          show wpAny _ _ _ _ _ _
          refine wpAny_pure ?_
          show wpAny _ _ (ret Value.none) _ _ _
          refine wpAny_pure ⟨rfl, h', tk', rfl, hS', fun b o hb e => ?_⟩
          have hb1 : b ≠ s.heap.objs.size := Nat.ne_of_lt hb
          have hb2 : b ≠ (s.heap.push { cls := .type "set", dict := none, data := .set #[] 0 (.fresh 0 0 led) }).objs.size := by
            rw [Heap.size_push]; exact Nat.ne_of_lt (Nat.lt_succ_of_lt hb)
          exact hm.heap b o (by simp only [List.mem_cons, List.mem_singleton, List.not_mem_nil, or_false, not_or]; exact ⟨hb1, hb2⟩) (Heap.get?_push_of_some _ (Heap.get?_push_of_some _ e))
      · cases r₂ with
        | error e => exact hr₂
        | ok fl₂ =>
          cases fl₂ with
          | ret r =>
            obtain ⟨rfl, h', tk, rfl, hS', hk'⟩ := hr₂
            repeat (any_goals (first | assumption | wp_step))
            exact h _ _ hS' hk'
          | _ => exact hr₂.elim
    | _ => exact hr.elim
end
/-- a set of so many things -/
def setObj (a : Addr) (n : Nat) : HO := .ext fun h => ∃ (o : Obj) (es : Array (Int × Value)) (ep : Nat) (t : SetTable), h.get? a = some o ∧ o.ExactSet ∧ o.data = .set es ep t ∧ t.fits es.size = true ∧ es.size = n ∧ n < scanBound
section
variable {X : Cx}
theorem keys_paired : ∀ {ks : List Key} {us : List Value}, Vals (ks.map kV) us → Paired (fun (k : Key) (v : Value) => keyIs k v = true) ks us
  | [], _, .nil => .nil
  | k :: r, _, .cons h t => by
    refine .cons ?_ (keys_paired t)
    cases k with
    | inl i => obtain ⟨t, rfl⟩ := h; exact keyIs_int i t
    | inr x => obtain ⟨t, rfl⟩ := h; exact keyIs_str x t
/-- set(xs) of a list or tuple of ints and texts, fewer than 4,095: what is told is how many unlike ones there are -/
theorem call_set_of (hc : X.calm = true) : CallR X (.type "set") (fun xs H Q => ∃ p ks, xs = [.ref p] ∧ (SqL X.K H p (ks.map kV) ∨ SqT X.K H p (ks.map kV)) ∧ ks.length + 1 < scanBound ∧ ∀ l, H l = none → Q (.ref l) (upd H l (setObj l (dd ks).length))) := by
  intro pins s σ H xs us Q I r h
  obtain ⟨p, ks, rfl, hq, hb, q⟩ := h
  obtain ⟨u, rfl, rx⟩ := vals1 r
  cases rx
  have fin : ∀ (h' : Heap) (tk : Nat), h'.SetOf (mixKind X.prog X.w) s.heap.objs.size (fun k' => decide (k' ∈ dd ks)) (dd ks).length →
      (∀ b o, b < s.heap.objs.size → s.heap.get? b = some o → h'.get? b = some o) → EP X pins σ Q (.ref s.heap.objs.size) { s with heap := h', toks := tk } := fun h' tk hS kp => by
    obtain ⟨o, es, ep, t, ho, hex, hd, _, _, hbn, hf, hn⟩ := hS
    refine ⟨.ref s.heap.objs.size, _, I.laid (t' := tk) (fun b ob e => kp b ob (Heap.lt_size e) e) (Nat.le_refl _) (o := setObj s.heap.objs.size (dd ks).length) ?_, rfl, q _ (I.hok.fresh (Nat.le_refl _))⟩
    refine ⟨⟨o, es, ep, t, ho, hex, hd, hf, hn, by omega⟩, ⟨o, ho⟩, ?_⟩
    rintro h1 h2 ⟨o, es, ep, t, ho, r⟩ k
    exact ⟨o, es, ep, t, k o ho, r⟩
  rcases hq with hq | hq
  · obtain ⟨its, r', pl, hz⟩ := I.list hq
    have hlen := r'.length
    rw [List.length_map] at hlen
    exact call_set_L (I.ok.hd hc) pl.isList (by simpa using keys_paired r') (by rw [List.size_toArray]; omega) fin
  · obtain ⟨its, r', pl, hz⟩ := I.tuple hq
    have hlen := r'.length
    rw [List.length_map] at hlen
    exact call_set_T (I.ok.hd hc) pl (by simpa using keys_paired r') (by rw [List.size_toArray]; omega) fin
/-- len of such a set -/
theorem call_len_setO : CallR X (.builtin "len") (fun xs H Q => ∃ p n, xs = [.ref p] ∧ H p = some (setObj p n) ∧ Q (.int (n : Nat)) H) := by
  intro pins s σ H xs us Q I r h
  obtain ⟨p, n, rfl, hp, q⟩ := h
  obtain ⟨u, rfl, rx⟩ := vals1 r
  cases rx
  obtain ⟨⟨o, es, ep, t, ho, hex, hd, hf, hn, hb⟩, _⟩ := (show ObjOk X.prog X.w H s.heap p (setObj p n) from I.hok p _ hp)
  exact call_len_set ho hex hd hf (by unfold scanBound at hb; omega) ⟨.int (n : Nat), H, I.tok _, ⟨_, by rw [hn]⟩, q⟩
end
end L2

set_option Elab.async false
set_option linter.all false
set_option maxRecDepth 100000
namespace L2
open PySem PySem.Spec PyProof.Rows
section
variable {X : Cx}
end
end L2

set_option Elab.async false
set_option linter.all false
set_option maxRecDepth 100000
namespace PySem
open Sem (wp)
open AutoSeq1 (wpAny_loadPart')
section
variable {prog : Program} {w : World} {A : Around} {E : Value → Shared → Prop} {s : Shared}
theorem nextOf_tuple_item {it t : Addr} {i : Nat} {items : Array Value} {x : Value} {Q : Value → Shared → Prop} (hit : s.heap.IsTupleIter it t i)
    (hl : s.heap.IsTuple t items) (hx : items[i]? = some x)
    (hQ : ∀ h', h'.IsTupleIter it t (i + 1) → Heap.SameBut it s.heap h' → Q x { s with heap := h' }) :
    wpAny (model prog w) A (Builtin.SmallTypes.nextOf (.ref it)) Q E s := by
  obtain ⟨o, ho, hc, hd⟩ := id hit
  obtain ⟨ol, hol, _, nl, hdl⟩ := hl
  unfold Builtin.SmallTypes.nextOf
  refine wpAny_bind (wpAny_callSpecial?_slot (name := Str.ofString "__next__") hit.typeIs F.slot_tuple_iterator_next
    (wpAny_call_entry F.slot_tuple_iterator_next hit.typeIs F.entry_tuple_iterator_next ?_ (F.args_tuple_iterator_next_1 _)))
  show wpAny _ _ (field (.ref it) 0 >>= _) _ _ s
  refine wpAny_bind (wpAny_field ho hd (x := .ref t) rfl ?_)
  show wpAny _ _ (if (Value.ref t == Value.none) = true then _ else _) _ _ s
  rw [if_neg (show ¬ ((Value.ref t == Value.none) = true) from Bool.false_ne_true)]
  show wpAny _ _ (field (.ref it) 1 >>= _) _ _ s
  refine wpAny_bind (wpAny_field ho hd (x := .int i 0) rfl ?_)
  show wpAny _ _ (seqItems? (.ref t) >>= _) _ _ s
  refine wpAny_bind (wpAny_seqItems hol hdl ?_)
  simp only [Int.toNat_natCast, hx]
  refine wpAny_bind (wpAny_setField ho hd (by simp) (wpAny_pure ⟨x, rfl, wpAny_pure (hQ _ ?_ (Heap.SameBut.update ..))⟩))
  exact ⟨_, Heap.get?_update_self _ ho (Obj.isFreed_of_fields (Obj.data_mapFields hd _)), (Obj.cls_mapFields ..).trans hc, by
    rw [Obj.data_mapFields hd]; simp [rawInt]⟩
theorem nextOf_tuple_end {it t : Addr} {i : Nat} {items : Array Value} {Q : Value → Shared → Prop} (hh : A.handled = none)
    (hit : s.heap.IsTupleIter it t i) (hl : s.heap.IsTuple t items) (hx : items[i]? = none)
    (hE : ∀ h' e, Heap.ExtBut it s.heap h' → (∃ o, h'.get? e = some o ∧ o.cls = .type "StopIteration") → E (.ref e) { s with heap := h' }) :
    wpAny (model prog w) A (Builtin.SmallTypes.nextOf (.ref it)) Q E s := by
  obtain ⟨o, ho, hc, hd⟩ := id hit
  obtain ⟨ol, hol, _, nl, hdl⟩ := hl
  unfold Builtin.SmallTypes.nextOf
  refine wpAny_bind (wpAny_callSpecial?_slot (name := Str.ofString "__next__") hit.typeIs F.slot_tuple_iterator_next
    (wpAny_call_entry F.slot_tuple_iterator_next hit.typeIs F.entry_tuple_iterator_next ?_ (F.args_tuple_iterator_next_1 _)))
  show wpAny _ _ (field (.ref it) 0 >>= _) _ _ s
  refine wpAny_bind (wpAny_field ho hd (x := .ref t) rfl ?_)
  show wpAny _ _ (if (Value.ref t == Value.none) = true then _ else _) _ _ s
  rw [if_neg (show ¬ ((Value.ref t == Value.none) = true) from Bool.false_ne_true)]
  show wpAny _ _ (field (.ref it) 1 >>= _) _ _ s
  refine wpAny_bind (wpAny_field ho hd (x := .int i 0) rfl ?_)
  show wpAny _ _ (seqItems? (.ref t) >>= _) _ _ s
  refine wpAny_bind (wpAny_seqItems hol hdl ?_)
  simp only [Int.toNat_natCast, hx]
  refine wpAny_bind (wpAny_rule (wpAny_bind (wpAny_setField ho hd (by simp) ?_)))
  show wpAny _ _ (newExc (.type "StopIteration") [] >>= _) _ _ _
  refine wpAny_bind ?_
  simp only [newExc, newTuple]
  refine wpAny_bind (wpAny_newObj_type ?_ (by size_fits))
  refine wpAny_bind (m := firstArgMember _ _) (wpAny_of_eq (a := Value.none) (by first | rfl | (simp only [firstArgMember]; rfl)) ?_)
  refine wpAny_newObj_type ?_ (by size_fits)
  simp only [raiseNew]
  refine wpAny_bind (wpAny_handled ?_)
  first | rw [show A.in1.handled = none from hh] | rw [hh]
  refine wpAny_bind (wpAny_pure (wpAny_throw ?_))
  exact hE _ _ (((Heap.SameBut.update ..).extBut.push _).push _) ⟨_, Heap.get?_push_size _ rfl, rfl⟩
end
theorem Draws.tupleD {prog : Program} {w : World} {A : Around} (hh : A.handled = none) (it l : Addr) (hne : l ≠ it) (items : Array Value) :
    Draws prog w A it [it, l] items.size (fun i v => items[i]? = some v) (fun i h => h.IsTupleIter it l i ∧ h.IsTuple l items) where
  live := fun _ _ st => let ⟨o, ho, _⟩ := st.1; ⟨o, ho⟩
  frame := fun _ _ _ st hk => ⟨st.1.at fun o e => hk it (by simp) o e, st.2.at fun o e => hk l (by simp) o e⟩
  item := fun i s Q E hi st hQ => by
    refine nextOf_tuple_item st.1 st.2 (x := items[i]) (by simp [hi]) fun h' hit' hs' => ?_
    exact hQ _ h' s.toks (by simp [hi]) ⟨hit', st.2.extBut hs'.extBut hne⟩ hs'
  done := fun s Q E st hE => nextOf_tuple_end hh st.1 st.2 (by simp) hE
theorem meets_enumerate_newT (l : Addr) (items : Array Value) (n : Nat) (dct : Option Addr) (sl : Array (Option Value)) :
    Meets (Builtin.«enumerate.__new__» ⟨[.type "enumerate", .ref l], []⟩) (fun _ R s => s.heap.get? l = some { cls := .type "tuple", dict := dct, data := .seq items n, slots := sl } ∧
      R (.ok (.ret (.ref (s.heap.push { cls := .type "tuple_iterator", data := .fields #[.ref l, .int 0 0] }).objs.size)))
        { s with heap := (s.heap.push { cls := .type "tuple_iterator", data := .fields #[.ref l, .int 0 0] }).push { cls := .type "enumerate", data := .fields #[.none, .bool false, .ref s.heap.objs.size, rawInt 0, .none, .none] } }) :=
  .of_wp fun prog w A R s h => by
    obtain ⟨hp, g, d, tk, os⟩ := s; obtain ⟨hl, h⟩ := h
    have hsub := sub_enumerate
    have hL : Heap.IsTuple (Shared.heap ⟨hp, g, d, tk, os⟩) l items := ⟨_, hl, rfl, n, rfl⟩
    wp_walk using wpAny_loadPart' hl
    refine wpAny_stack_any fun st => wpAny_pure ?_
    split
    · rename_i c _ _ _ _ _
      cases (c == Value.type "enumerate")
      · wp_walk using wpAny_loadPart' hl, wpAny_pyIter_tuple hL
        exact ⟨_, rfl, h⟩
      · wp_walk using wpAny_loadPart' hl, wpAny_pyIter_tuple hL
        exact ⟨_, rfl, h⟩
    · wp_walk using wpAny_loadPart' hl, wpAny_pyIter_tuple hL
      exact ⟨_, rfl, h⟩
section
variable {prog : Program} {w : World} {A : Around} {E : Value → Shared → Prop} {s : Shared}
theorem call_enumerate_tuple {l : Addr} {items : Array Value} {Q : Value → Shared → Prop} (hL : s.heap.IsTuple l items)
    (h : ∀ h', IsEnum h' (s.heap.objs.size + 1) s.heap.objs.size 0 .none → h'.IsTupleIter s.heap.objs.size l 0 → h'.objs.size = s.heap.objs.size + 2 →
      (∀ b o, s.heap.get? b = some o → h'.get? b = some o) → Q (.ref (s.heap.objs.size + 1)) { s with heap := h' }) :
    wpAny (model prog w) A (call (.type "enumerate") [.ref l]) Q E s := by
  obtain ⟨⟨c, dct, dt, sl⟩, hl, hc, n, hd⟩ := hL
  replace hc : c = .type "tuple" := hc
  replace hd : dt = .seq items n := hd
  subst hc hd
  refine callType_new F.called_enumerate (by decide) (F.typeCall_enumerate_1 _) (F.newCall_enumerate_1 _) (fun obj => F.args_object_init_2 obj _) F.entry_enumerate_new
    (meets_enumerate_newT l items n dct sl) ⟨hl, ?_⟩
  have hz : (s.heap.push { cls := .type "tuple_iterator", data := .fields #[.ref l, .int 0 0] }).objs.size = s.heap.objs.size + 1 := Heap.size_push ..
  show _ ∧ _
  rw [hz]
  have he : IsEnum ((s.heap.push { cls := .type "tuple_iterator", data := .fields #[.ref l, .int 0 0] }).push
      { cls := .type "enumerate", data := .fields #[.none, .bool false, .ref s.heap.objs.size, rawInt 0, .none, .none] }) (s.heap.objs.size + 1) s.heap.objs.size 0 .none := by
    have := Heap.get?_push_size (s.heap.push { cls := .type "tuple_iterator", data := .fields #[.ref l, .int 0 0] })
      (o := { cls := .type "enumerate", data := .fields #[.none, .bool false, .ref s.heap.objs.size, rawInt 0, .none, .none] }) rfl
    rw [hz] at this; exact this
  refine ⟨⟨_, he, rfl⟩, h _ he ⟨_, Heap.get?_push_of_some _ (Heap.get?_push_size _ rfl), rfl, rfl⟩ (by rw [Heap.size_push, hz]) fun b o x => Heap.get?_push_of_some _ (Heap.get?_push_of_some _ x)⟩
end
end PySem
namespace L2
open PySem PySem.Spec PyProof.Rows
theorem _root_.L2.isTuple_of {h : Heap} {a : Addr} {its : Array Value} (p : IsTup h a its) : h.IsTuple a its := p
/-- the tuple at a, each item in a new pair -/
def IteT (K : PySem.W.Frag) (a : Addr) : It :=
  ⟨fun i H => ∃ (xs : List V) (x : V), SqT K H a xs ∧ xs[i]? = some x, fun i H v H' => ∃ T x, v = .ref T ∧ H T = none ∧ H' = upd H T (.tup [.int (i : Nat), x]) ∧ ∀ xs, SqT K H a xs → xs[i]? = some x, fun i H => ∃ xs : List V, SqT K H a xs ∧ xs.length = i⟩
theorem turn_enumT {P : Program} {w : World} {K : PySem.W.Frag} {elts : List Expr} {kk : Nat} {tpos : Pos} (a e it : Addr) (hne : e ≠ it) (hai : a ≠ it) (hae : a ≠ e) :
    Turn P w K (.Tuple elts kk tpos) (IteT K a) [e, it] e (fun i h => (∃ old, IsEnum h e it ((i : Nat) : Int) old) ∧ h.IsTupleIter it a i) where
  mem := by simp
  obj := fun i h st b hb => by
    obtain ⟨⟨old, he⟩, ⟨o, ho, hc, hd⟩⟩ := st
    have e' : b = e ∨ b = it := by simpa using hb
    rcases e' with z | z
    · rw [z]; exact ⟨_, he, fun v q => nomatch q⟩
    · rw [z]; exact ⟨o, ho, fun v q => by rw [hd] at q; cases q⟩
  keep := fun i h h' st k => let ⟨⟨old, he⟩, hi⟩ := st; ⟨⟨old, k e (by simp) _ he⟩, hi.at fun o q => k it (by simp) o q⟩
  item := by
    intro X hP hw hK hc i pins s σ H E I hf st hg
    subst hP hw hK
    obtain ⟨⟨old, he⟩, hit⟩ := st
    obtain ⟨xs, x, hq, hx⟩ := hg
    obtain ⟨its, rv, p, hz⟩ := I.tuple hq
    obtain ⟨u, hu, ru⟩ := rv.get hx
    have hel : e < s.heap.objs.size := Heap.lt_size he
    have hil : it < s.heap.objs.size := by obtain ⟨_, q, _⟩ := hit; exact Heap.lt_size q
    have hh : X.A.in1.handled = none := I.ok.hd hc
    have hlt : i < its.toArray.size := by
      rw [List.size_toArray]
      exact (List.getElem?_eq_some_iff.mp hu).1
    refine wpAny_pyNext_enum_itemD (Draws.tupleD hh it a hai its.toArray) he ⟨hit, p⟩ hlt hne (by
      intro z
      have z' : e = it ∨ e = a := by simpa using z
      rcases z' with z | z
      · exact hne z
      · exact hae z.symm) fun y h' tk hy ho hit' hT hsz hk => ?_
    have ey : y = u := by
      have h1 : its.toArray[i]? = some y := hy
      have h2 : its.toArray[i]? = some u := by simpa using hu
      rw [h1] at h2
      exact Option.some.inj h2
    subst ey
    refine ⟨_, rfl, wpAny_letOwnedTupleGo_enum (s := { s with heap := h', toks := tk + 1 }) ho fun h'' he' sb => ?_⟩
    have hT2 : h''.get? s.heap.objs.size = some { cls := .type "tuple", data := .seq #[.int i tk, y] } := (sb.2 _ (Nat.ne_of_gt hel)).trans hT
    have new : ObjOk X.prog X.w (upd H s.heap.objs.size (.tup [.int (i : Nat), x])) h'' s.heap.objs.size (.tup [.int (i : Nat), x]) :=
      ⟨by show 2 ≤ sizeLine; decide, [.int i tk, y], .cons ⟨_, rfl⟩ (.cons ru .nil), ⟨_, hT2, rfl, _, rfl⟩⟩
    have I1 : Inv X pins σ (upd H s.heap.objs.size (.tup [.int (i : Nat), x])) { s with heap := h'', toks := tk + 1 } :=
      I.turnedNew (ch := [e, it]) (fun b ob hb q => (sb.2 b (fun z => hb (by simp [z]))).trans (hk b ob (fun z => hb (by simp [z])) (fun z => hb (by simp [z])) q)) hf (Nat.le_refl _) new
    refine ⟨.ref s.heap.objs.size, _, I1, rfl, ⟨_, x, rfl, I.hok.fresh (Nat.le_refl _), rfl, fun ys hy => by rw [I.tuple_inj hy hq]; exact hx⟩, ⟨⟨y, ?_⟩, hit'.1.at fun o q => (sb.2 it (Ne.symm hne)).trans q⟩, fun b hb => ?_⟩
    · have e1 : ((i + 1 : Nat) : Int) = (i : Int) + 1 := by omega
      rw [e1]; exact he'
    · have hb' : b < s.heap.objs.size := by
        have e' : b = e ∨ b = it := by simpa using hb
        rcases e' with z | z
        · rw [z]; exact hel
        · rw [z]; exact hil
      rw [upd_ne (Nat.ne_of_lt hb')]
      exact (hf b hb).1
  done := by
    intro X hP hw hK hc i pins s σ H E I hf st hg
    subst hP hw hK
    obtain ⟨⟨old, he⟩, hit⟩ := st
    obtain ⟨xs, hq, hx⟩ := hg
    obtain ⟨its, rv, p, hz⟩ := I.tuple hq
    obtain ⟨f0, f1, f2, f3, f4, f5⟩ := hf it (by simp)
    have hl := rv.length
    have hh : X.A.in1.handled = none := I.ok.hd hc
    have ei : its.toArray.size = i := by rw [List.size_toArray]; omega
    exact wpAny_pyNext_enum_endD (Draws.tupleD hh it a hai its.toArray) he ⟨by rw [ei]; exact hit, p⟩ fun h' eb => ⟨rfl, I.turned (t' := s.toks) (fun b o hb q => eb b o hb q) f0 f1 f3 f4 f5⟩
  self := fun A i s Q E st h => let ⟨⟨_, he⟩, _⟩ := st; wpAny_pyIter_enum he h
def iEnumT (K : PySem.W.Frag) (ta : TA) : TI := fun σ H R => ta σ H fun vs H1 => ∃ a xs, vs = [.ref a] ∧ SqT K H1 a xs ∧ R (IteT K a) H1
theorem pi_enumT {X : Cx} {e : Expr} {ta : TA} {p pos tpos : Pos} {elts : List Expr} {kk : Nat} (hg : Gl X "enumerate") (hm : X.mg "enumerate" = none) (ha : PA X [e] ta) (hs : starEach [e] X.env = [(false, eval e X.env)] := by rfl) :
    PI X (.Tuple elts kk tpos) (.Call (.Name "enumerate" p) [e] [] pos) (iEnumT X.K ta) := by
  intro pins s σ H R I h
  refine Call_ (ld_blt I hg hm boot_enumerate (PyProof.Rows.callWith_type1 (thn (ha pos pins s σ H _ I h) fun us s1 ⟨vs, H1, I1, r1, q1⟩ => ?_) hs rfl))
  obtain ⟨a, xs, ex, hq, q⟩ := q1
  subst ex
  cases r1 with
  | cons r rr =>
    cases rr
    cases r
    obtain ⟨its, rv, p', hz⟩ := I1.tuple hq
    have hal : a < s1.heap.objs.size := p'.lt
    refine call_enumerate_tuple (isTuple_of p') fun h' he hit hsz hk => wpAny_pyIter_enum he ?_
    have I2 : Inv X pins σ H1 { s1 with heap := h' } := I1.kept (t' := s1.toks) hk
    refine ⟨s1.heap.objs.size + 1, [s1.heap.objs.size + 1, s1.heap.objs.size], _, _, H1, rfl, I2, turn_enumT a (s1.heap.objs.size + 1) s1.heap.objs.size (Nat.succ_ne_self _) (Nat.ne_of_lt hal) (Nat.ne_of_lt (Nat.lt_succ_of_lt hal)), ⟨⟨.none, he⟩, hit⟩, fun b hb => ?_, q⟩
    have e' : b = s1.heap.objs.size + 1 ∨ b = s1.heap.objs.size := by simpa using hb
    have hle : s1.heap.objs.size ≤ b := by
      rcases e' with z | z
      · rw [z]; exact Nat.le_add_right _ _
      · rw [z]; exact Nat.le_refl _
    exact I1.fpOk hle (I1.hok.fresh hle)
/-- for i, x in enumerate(tuple) -/
theorem for_enumT {K : PySem.W.Frag} {a : Addr} {xs : List V} {g : TG} {tb : TS} {D : Ends} {σ : St} {H : Hp} (Pv : Nat → St → Hp → Prop) (h0 : Pv 0 σ H) (hl : ∀ i σ H, i ≤ xs.length → Pv i σ H → SqT K H a xs)
    (hs : ∀ i x σ H T, xs[i]? = some x → Pv i σ H → H T = none → g (.ref T) σ (upd H T (.tup [.int (i : Nat), x])) fun σ2 H2 => tb { D with nx := Pv (i + 1), ct := Pv (i + 1), bk := D.nx } σ2 H2) (hd : ∀ σ H, Pv xs.length σ H → D.nx σ H) :
    ∃ W : Nat → Nat → St → Hp → Prop, (∃ m, W 0 m σ H) ∧ ∀ i m σ H, W i m σ H →
      ((IteT K a).stop i H ∧ D.nx σ H) ∨ ((IteT K a).go i H ∧ ∃ N : St → Hp → Prop, (∀ σ' H', N σ' H' → ∃ m', m' < m ∧ W (i + 1) m' σ' H') ∧ ∀ x H', (IteT K a).yld i H x H' → g x σ H' fun σ2 H2 => tb { D with nx := N, ct := N, bk := D.nx } σ2 H2) := by
  refine ⟨fun i m σ H => m = xs.length - i ∧ i ≤ xs.length ∧ Pv i σ H, ⟨xs.length, by simp, Nat.zero_le _, h0⟩, ?_⟩
  rintro i m σ H ⟨rfl, hi, p⟩
  have q := hl i σ H hi p
  by_cases hlt : i < xs.length
  · refine .inr ⟨⟨xs, xs[i], q, by simp [hlt]⟩, Pv (i + 1), fun σ' H' p' => ⟨xs.length - (i + 1), by omega, rfl, hlt, p'⟩, fun x H' y => ?_⟩
    obtain ⟨T, z, rfl, hT, rfl, y⟩ := y
    exact hs i z σ H T (y xs q) p hT
  · have e : i = xs.length := by omega
    subst e
    exact .inl ⟨⟨xs, q, rfl⟩, hd σ H p⟩
/-- [.. for c in text] -/
theorem lc_str {x : Str} {g : TG} {tt : TT} {te : TE} {vs : List Nat} {σ : St} {H1 : Hp} {D : Addr} {Qd : Hp → Prop} (Pv : Nat → Hp → Prop) (h0 : Pv 0 (upd H1 D (.lst [])))
    (hs : ∀ i c H, x.cps.toList[i]? = some c → Pv i H → g (.str ⟨#[c]⟩) (wipe σ vs) H fun σ2 H2 => wipe σ2 vs = wipe σ vs ∧ tt σ2 H2 fun b H3 =>
      if b = true then te σ2 H3 fun y H4 => ∃ acc, H4 D = some (.lst acc) ∧ acc.length < sizeLine ∧ Pv (i + 1) (upd H4 D (.lst (acc ++ [y]))) else Pv (i + 1) H3) (hd : ∀ H, Pv x.cps.size H → Qd H) :
    ∃ W : Nat → Nat → Hp → Prop, (∃ m, W 0 m (upd H1 D (.lst []))) ∧ ∀ i m H, W i m H →
      ((Its x).stop i H ∧ Qd H) ∨ ((Its x).go i H ∧ ∃ Nx : Hp → Prop, (∀ H', Nx H' → ∃ m', m' < m ∧ W (i + 1) m' H') ∧ ∀ v H', (Its x).yld i H v H' → g v (wipe σ vs) H' fun σ2 H2 => wipe σ2 vs = wipe σ vs ∧ tt σ2 H2 fun b H3 =>
        if b = true then te σ2 H3 fun y H4 => ∃ acc, H4 D = some (.lst acc) ∧ acc.length < sizeLine ∧ Nx (upd H4 D (.lst (acc ++ [y]))) else Nx H3) := by
  refine ⟨fun i m H => m = x.cps.size - i ∧ i ≤ x.cps.size ∧ Pv i H, ⟨x.cps.size, by simp, Nat.zero_le _, h0⟩, ?_⟩
  rintro i m H ⟨rfl, hi, p⟩
  by_cases hlt : i < x.cps.size
  · refine .inr ⟨hlt, Pv (i + 1), fun H' p' => ⟨x.cps.size - (i + 1), by omega, rfl, hlt, p'⟩, fun v H' y => ?_⟩
    obtain ⟨e, c, hc, rfl⟩ := y
    subst e
    exact hs i c _ (by simpa using hc) p
  · have e : i = x.cps.size := by omega
    subst e
    exact .inl ⟨Nat.le_refl _, hd H p⟩
end L2

set_option Elab.async false
set_option linter.all false
set_option maxRecDepth 100000
namespace L2
open PySem PySem.Spec PyProof.Rows
theorem Same.seqT {K : PySem.W.Frag} {H H' : Hp} {a : Addr} {xs : List V} (e : Same H H') (h : SqT K H a xs) : SqT K H' a xs := by
  rcases h with (h | ⟨o, h⟩) | h
  · exact .inl (.inl (e _ _ h))
  · exact .inl (.inr ⟨o, e _ _ h⟩)
  · exact .inr h
theorem Same.new {H : Hp} {a : Addr} {o : HO} (h : H a = none) : Same H (upd H a o) := fun b u e => by rw [upd_ne (ne_of_none e h)]; exact e
theorem Same.updNew {H H' : Hp} {a : Addr} {o : HO} (s : Same H H') (h : H a = none) : Same H (upd H' a o) := fun b u e => by rw [upd_ne (ne_of_none e h)]; exact s b u e
/-- all but the thing at d is as it was -/
def SameB (d : Addr) (H H' : Hp) : Prop := ∀ b o, H b = some o → b ≠ d → H' b = some o
theorem SameB.refl (d : Addr) (H : Hp) : SameB d H H := fun _ _ h _ => h
theorem SameB.trans {d : Addr} {H H1 H2 : Hp} (a : SameB d H H1) (b : SameB d H1 H2) : SameB d H H2 := fun c o h n => b c o (a c o h n) n
theorem Same.but {d : Addr} {H H' : Hp} (a : Same H H') : SameB d H H' := fun c o h _ => a c o h
theorem SameB.same {d : Addr} {H H1 H2 : Hp} (a : SameB d H H1) (b : Same H1 H2) : SameB d H H2 := a.trans b.but
theorem SameB.upd {d : Addr} {H H' : Hp} {o : HO} (s : SameB d H H') : SameB d H (upd H' d o) := fun b u e n => by rw [upd_ne n]; exact s b u e n
theorem SameB.updNew {d a : Addr} {H H' : Hp} {o : HO} (s : SameB d H H') (h : H a = none) : SameB d H (L2.upd H' a o) := fun b u e n => by rw [upd_ne (ne_of_none e h)]; exact s b u e n
theorem SameB.free {d : Addr} {H H' : Hp} (e : SameB d H H') {l : Addr} (n : l ≠ d) (h : H' l = none) : H l = none := by
  cases q : H l with
  | none => rfl
  | some o => rw [e l o q n] at h; cases h
theorem SameB.seqT {K : PySem.W.Frag} {d : Addr} {H H' : Hp} {a : Addr} {xs ys : List V} (e : SameB d H H') (hd : H d = some (.lst ys)) (h : SqT K H a xs) : SqT K H' a xs := by
  rcases h with (h | ⟨o, h⟩) | h
  · exact .inl (.inl (e _ _ h (ne_of h hd (by intro z; cases z))))
  · exact .inl (.inr ⟨o, e _ _ h (ne_of h hd (by intro z; cases z))⟩)
  · exact .inr h
theorem Qb {Q : VK} {b c : Bool} {H : Hp} (h : Q (.bl b) H) (e : b = c) : Q (.bl c) H := e ▸ h
/-- the drawing bag at b, its cells at c -/
def Bag (H : Hp) (b c : Addr) : Prop := ∃ (i j z : Int) (cells : List Int), H b = some (.lst [.ref c, .int i, .int j, .int z]) ∧ H c = some (.lst (cells.map V.int)) ∧ c ≠ b ∧ 0 ≤ i
theorem Bag.lst {H : Hp} {b c : Addr} (B : Bag H b c) : ∃ ys, H b = some (.lst ys) := let ⟨_, _, _, _, h, _⟩ := B; ⟨_, h⟩
theorem Bag.same {H H' : Hp} {b c : Addr} (B : Bag H b c) (s : Same H H') : Bag H' b c := let ⟨i, j, z, cells, h, h2, h3, h4⟩ := B; ⟨i, j, z, cells, s _ _ h, s _ _ h2, h3, h4⟩
theorem Bag.ne {H : Hp} {b c l : Addr} (B : Bag H b c) (h : H l = none) : l ≠ b := fun e => by
  obtain ⟨_, _, _, _, hb, _⟩ := B
  rw [e, hb] at h; cases h
theorem Bag.neC {H : Hp} {b c l : Addr} (B : Bag H b c) (h : H l = none) : l ≠ c := fun e => by
  obtain ⟨_, _, _, _, _, hc, _⟩ := B
  rw [e, hc] at h; cases h
theorem Bag.new {H : Hp} {b c l : Addr} {o : HO} (B : Bag H b c) (h : H l = none) : Bag (upd H l o) b c := B.same (Same.new h)
theorem Bag.put {H : Hp} {b c l : Addr} {o : HO} (B : Bag H b c) (h1 : l ≠ b) (h2 : l ≠ c) : Bag (upd H l o) b c := let ⟨i, j, z, cells, g, g2, g3, g4⟩ := B; ⟨i, j, z, cells, by rw [upd_ne h1.symm]; exact g, by rw [upd_ne h2.symm]; exact g2, g3, g4⟩
/-- pull's promise: a number below n, the bag a bag again, all else as it was -/
def spPull : Sp := fun vs H Q _ => ∃ (b c : Addr) (n : Int), vs = [.ref b, .int n] ∧ Bag H b c ∧ 0 < n ∧ n < 1073741824 ∧ ∀ (r : Int) (H' : Hp), 0 ≤ r → r < n → Bag H' b c → SameB b H H' → Q (.int r) H'
theorem mod_lo {x m : Int} (h : 0 < m) : 0 ≤ x % m := Int.emod_nonneg _ (by omega)
theorem mod_hi {x m : Int} (h : 0 < m) : x % m < m := Int.emod_lt_of_pos _ h
/-- t * t of a rest by a number below 2^64 -/
theorem cmul_mod {x m y : Int} (h : 0 < m) (h' : m < 2 ^ 64) : CMul (x % m) y := .inl ⟨by have := mod_lo (x := x) h; omega, by have := mod_hi (x := x) h; omega⟩
end L2

set_option Elab.async false
set_option linter.all false
set_option maxRecDepth 100000
namespace L2
open PySem PySem.Spec PyProof.Rows
/-- an expression that is worth v and changes nothing; a test -/
def Is (t : TE) (σ : St) (H : Hp) (v : V) : Prop := ∀ Q : VK, Q v H → t σ H Q
def IsT (t : TT) (σ : St) (H : Hp) (b : Bool) : Prop := ∀ Q : Bool → Hp → Prop, Q b H → t σ H Q
section
variable {σ : St} {H : Hp} {ta tb tc : TE} {x y z : Int}
theorem Is.var {i : Nat} {v : V} (h : σ[i]? = some (some v)) : Is (tVar i) σ H v := fun _ q => ⟨v, h, q⟩
theorem Is.const {v : V} : Is (tC v) σ H v := fun _ q => q
theorem Is.un {g : Int → V} (a : Is ta σ H (.int x)) : Is (tUn (rU g) ta) σ H (g x) := fun _ q => a _ ⟨x, rfl, q⟩
theorem Is.chain {p q : Int → Int → Bool} (a : Is ta σ H (.int x)) (b : Is tb σ H (.int y)) (c : Is tc σ H (.int z)) :
    Is (tChain (rI0 fun i j => .bl (p i j)) (rI0 fun i j => .bl (q i j)) ta tb tc) σ H (.bl (p x y && q y z)) := fun Q h => by
  refine a _ (b _ ⟨x, y, rfl, rfl, _, rfl, ?_⟩)
  cases e : p x y with
  | true => rw [e, Bool.true_and] at h; exact iteT (c _ ⟨y, z, rfl, rfl, h⟩)
  | false => rw [e, Bool.false_and] at h; exact iteF h
theorem Is.eqI (a : Is ta σ H (.int x)) (b : Is tb σ H (.int y)) : Is (tOp rEq ta tb) σ H (.bl (decide (x = y))) := fun Q h => by
  refine a _ (b _ ⟨rfl, ?_⟩)
  have e : decide (V.int x = V.int y) = decide (x = y) := decide_eq_decide.mpr ⟨fun z => V.int.inj z, fun z => by rw [z]⟩
  rw [e]; exact h
theorem Is.neI (a : Is ta σ H (.int x)) (b : Is tb σ H (.int y)) : Is (tOp rNe ta tb) σ H (.bl (!decide (x = y))) := fun Q h => by
  refine a _ (b _ ⟨rfl, ?_⟩)
  have e : decide (V.int x = V.int y) = decide (x = y) := decide_eq_decide.mpr ⟨fun z => V.int.inj z, fun z => by rw [z]⟩
  rw [e]; exact h
theorem Is.andV {a b : Bool} (ha : Is ta σ H (.bl a)) (hb : a = true → Is tb σ H (.bl b)) : Is (tAndV ta tb) σ H (.bl (a && b)) := fun Q h => by
  refine ha _ ⟨_, rfl, ?_⟩
  cases a with
  | true => exact iteT (hb rfl _ h)
  | false => exact iteF h
theorem IsT.test {b : Bool} (h : Is ta σ H (.bl b)) : IsT (tTest ta) σ H b := fun Q q => h _ ⟨b, rfl, q⟩
theorem IsT.val {b : Bool} (h : Is ta σ H (.bl b)) : IsT (tB ta) σ H b := fun Q q => h _ ⟨b, rfl, q⟩
theorem IsT.not {t : TT} {b : Bool} (h : IsT t σ H b) : IsT (tNot t) σ H (!b) := fun Q q => h _ q
theorem IsT.and {t u : TT} {a b : Bool} (h : IsT t σ H a) (h' : a = true → IsT u σ H b) : IsT (tAnd t u) σ H (a && b) := fun Q q => by
  refine h _ ?_
  cases a with
  | true => exact iteT (h' rfl _ q)
  | false => exact iteF q
theorem IsT.or {t u : TT} {a b : Bool} (h : IsT t σ H a) (h' : a = false → IsT u σ H b) : IsT (tOr t u) σ H (a || b) := fun Q q => by
  refine h _ ?_
  cases a with
  | true => exact iteT q
  | false => exact iteF (h' rfl _ q)
theorem IsT.cast {t : TT} {a b : Bool} (h : IsT t σ H a) (e : a = b) : IsT t σ H b := e ▸ h
theorem Is.cast {a b : V} (h : Is ta σ H a) (e : a = b) : Is ta σ H b := e ▸ h
theorem Is.lenT {K : PySem.W.Frag} {p : Addr} {ys : List V} (a : Is ta σ H (.ref p)) (h : SqT K H p ys) :
    Is (tCB (fun xs H Q => ∃ p ys, xs = [.ref p] ∧ (SqL K H p ys ∨ SqT K H p ys) ∧ Q (.int ys.length) H) (tCons ta tNil)) σ H (.int ys.length) := fun _ q => a _ ⟨p, ys, rfl, .inr h, q⟩
theorem Is.lenS {s : Str} (a : Is ta σ H (.str s)) (h : s.length ≤ sizeLine) :
    Is (tCB (fun xs H Q => ∃ z, xs = [.str z] ∧ z.length ≤ sizeLine ∧ Q (.int z.length) H) (tCons ta tNil)) σ H (.int s.length) := fun _ q => a _ ⟨s, rfl, h, q⟩
theorem Is.ixT {K : PySem.W.Frag} {p : Addr} {ys : List V} {v : V} (a : Is ta σ H (.ref p)) (b : Is tb σ H (.int x)) (h : SqT K H p ys) (e : atI ys x = some v) : Is (tOp (rIxT K) ta tb) σ H v := fun _ q => a _ (b _ ⟨p, ys, x, v, rfl, rfl, h, e, q⟩)
/-- an if by its test's worth -/
theorem rd_if {c : TT} {t u : TS} {D : Ends} {b : Bool} (h : IsT c σ H b) (h1 : b = true → t D σ H) (h2 : b = false → u D σ H) : tIfS c t u D σ H := by
  refine h _ ?_
  cases b with
  | true => exact iteT (h1 rfl)
  | false => exact iteF (h2 rfl)
end
theorem acc_step {α : Type} {l : List α} {f : α → Bool} {i : Nat} {x : α} (h : l[i]? = some x) : ((l.take i).map f).map V.bl ++ [V.bl (f x)] = ((l.take (i + 1)).map f).map V.bl := by
  rw [List.take_succ, h]; simp
theorem acc_len {α : Type} {l : List α} {f : α → Bool} {i : Nat} {x : α} (h : l[i]? = some x) (hl : l.length ≤ sizeLine) : (((l.take i).map f).map V.bl).length < sizeLine := by
  have := (List.getElem?_eq_some_iff.mp h).1
  rw [List.length_map, List.length_map, List.length_take]; omega
theorem all_map {α : Type} (l : List α) (f : α → Bool) : (l.map f).all id = l.all f := by rw [List.all_map]; rfl
/-- the letters -/
def az : Str := "abcdefghijklmnopqrstuvwxyz"
def nameB (z : Str) : Bool := (decide ((1 : Int) ≤ (z.length : Int)) && decide ((z.length : Int) ≤ 6)) && z.cps.toList.all fun c => decide (c ∈ az.cps.toList)
def namesB (ns : List Str) : Bool := decide (ns.length ≤ 40) && (decide ns.Nodup && ns.all nameB)
def arrowB (n : Nat) : List Int → Bool
  | [a, b, l, w] => ((decide (0 ≤ a) && decide (a < n)) && (decide (0 ≤ b) && decide (b < n))) && ((decide (1 ≤ l) && decide (l ≤ 3)) && (decide (1 ≤ w) && decide (w ≤ 9)))
  | _ => false
def sayingB (n : Nat) : List Int → Bool
  | [a, b, l] => ((decide (0 ≤ a) && decide (a < n)) && (decide (0 ≤ b) && decide (b < n))) && ((!decide (a = b)) && (decide (-9 ≤ l) && decide (l ≤ 9)))
  | _ => false
theorem arrowB_mk (n : Nat) (a b l w : Int) : arrowB n [a, b, l, w] = (((decide (0 ≤ a) && decide (a < n)) && (decide (0 ≤ b) && decide (b < n))) && ((decide (1 ≤ l) && decide (l ≤ 3)) && (decide (1 ≤ w) && decide (w ≤ 9)))) := rfl
theorem sayingB_mk (n : Nat) (a b l : Int) : sayingB n [a, b, l] = (((decide (0 ≤ a) && decide (a < n)) && (decide (0 ≤ b) && decide (b < n))) && ((!decide (a = b)) && (decide (-9 ≤ l) && decide (l ≤ 9)))) := rfl
theorem sl_big : 1000000 ≤ sizeLine := by decide
theorem not_t {b : Bool} (h : (!b) = true) : b = false := by cases b <;> simp_all
theorem not_f {b : Bool} (h : (!b) = false) : b = true := by cases b <;> simp_all
structure Web where
  names : List Str
  arrows : List (List Int)
  sayings : List (List Int)
def webB (W : Web) : Bool := decide (W.arrows.length ≤ 80) && (decide (W.sayings.length ≤ 20) && (namesB W.names && (W.arrows.all (arrowB W.names.length) && W.sayings.all (sayingB W.names.length))))
def RowAt (K : PySem.W.Frag) (H : Hp) (p : Addr) (row : List Int) : Prop := SqT K H p (row.map V.int)
def RowsAt (K : PySem.W.Frag) (H : Hp) : List Addr → List (List Int) → Prop := Paired (RowAt K H)
/-- a tuple of rows stands at r -/
def RTup (K : PySem.W.Frag) (H : Hp) (r : Addr) (rows : List (List Int)) : Prop := ∃ ra : List Addr, SqT K H r (ra.map V.ref) ∧ RowsAt K H ra rows
/-- a web stands at a -/
def WebAt (K : PySem.W.Frag) (H : Hp) (a : Addr) (W : Web) : Prop := ∃ n r s : Addr, SqT K H a [.ref n, .ref r, .ref s] ∧ SqT K H n (W.names.map V.str) ∧ RTup K H r W.arrows ∧ RTup K H s W.sayings
section
variable {K : PySem.W.Frag} {H H' : Hp} {a d : Addr} {ys : List V}
theorem RTup.imp {r : Addr} {rows : List (List Int)} (f : ∀ a xs, SqT K H a xs → SqT K H' a xs) (h : RTup K H r rows) : RTup K H' r rows := let ⟨ra, h1, h2⟩ := h; ⟨ra, f _ _ h1, Paired.mapP h2 fun p row q => f _ _ q⟩
theorem WebAt.imp {W : Web} (f : ∀ a xs, SqT K H a xs → SqT K H' a xs) (h : WebAt K H a W) : WebAt K H' a W := let ⟨n, r, s, h1, h2, h3, h4⟩ := h; ⟨n, r, s, f _ _ h1, f _ _ h2, h3.imp f, h4.imp f⟩
theorem WebAt.same {W : Web} (h : WebAt K H a W) (e : Same H H') : WebAt K H' a W := h.imp fun _ _ => e.seqT
theorem WebAt.sameB {W : Web} (h : WebAt K H a W) (e : SameB d H H') (hd : H d = some (.lst ys)) : WebAt K H' a W := h.imp fun _ _ => e.seqT hd
theorem RTup.same {r : Addr} {rows : List (List Int)} (h : RTup K H r rows) (e : Same H H') : RTup K H' r rows := h.imp fun _ _ => e.seqT
theorem RTup.sameB {r : Addr} {rows : List (List Int)} (h : RTup K H r rows) (e : SameB d H H') (hd : H d = some (.lst ys)) : RTup K H' r rows := h.imp fun _ _ => e.seqT hd
end
/-! the promises of what judges webs -/
def spName : Sp := fun vs H Q _ => ∃ z : Str, vs = [.str z] ∧ z.length ≤ sizeLine ∧ ∀ H', Same H H' → Q (.bl (nameB z)) H'
def spNames (K : PySem.W.Frag) : Sp := fun vs H Q _ => ∃ (a : Addr) (ns : List Str), vs = [.ref a] ∧ SqT K H a (ns.map V.str) ∧ ns.length ≤ 4000 ∧ (∀ z ∈ ns, z.length ≤ sizeLine) ∧ ∀ H', Same H H' → Q (.bl (namesB ns)) H'
def spRow (K : PySem.W.Frag) (f : Nat → List Int → Bool) : Sp := fun vs H Q _ => ∃ (a : Addr) (row : List Int) (n : Nat), vs = [.ref a, .int n] ∧ RowAt K H a row ∧ ∀ H', Same H H' → Q (.bl (f n row)) H'
def WebOk (W : Web) : Prop := W.names.length ≤ 4000 ∧ (∀ z ∈ W.names, z.length ≤ sizeLine)
def spWeb (K : PySem.W.Frag) : Sp := fun vs H Q _ => ∃ (a : Addr) (W : Web), vs = [.ref a] ∧ WebAt K H a W ∧ WebOk W ∧ ∀ H', Same H H' → Q (.bl (webB W)) H'
end L2

set_option Elab.async false
set_option linter.all false
set_option maxRecDepth 100000
namespace L2
open PySem PySem.Spec PyProof.Rows
theorem Same.new2 {H H' : Hp} {p : Addr} {o : HO} (s : Same H H') (hp : H' p = none) : Same H (upd H' p o) := fun c u e => by rw [upd_ne (ne_of_none (s c u e) hp)]; exact s c u e
theorem SameB.new {d : Addr} {H H' : Hp} {p : Addr} {o : HO} (s : SameB d H H') (hp : H' p = none) : SameB d H (L2.upd H' p o) := fun c u e n => by rw [upd_ne (ne_of_none (s c u e n) hp)]; exact s c u e n
/-- tuples stay -/
def Tu (H H' : Hp) : Prop := ∀ a xs, H a = some (.tup xs) → H' a = some (.tup xs)
theorem Tu.refl (H : Hp) : Tu H H := fun _ _ h => h
theorem Tu.trans {H H1 H2 : Hp} (a : Tu H H1) (b : Tu H1 H2) : Tu H H2 := fun c x h => b c x (a c x h)
theorem Same.tu {H H' : Hp} (s : Same H H') : Tu H H' := fun a xs h => s a _ h
theorem SameB.tu {d : Addr} {H H' : Hp} {ys : List V} (s : SameB d H H') (hd : H d = some (.lst ys)) : Tu H H' := fun a xs h => s a _ h (ne_of h hd (by intro z; cases z))
theorem Bag.tu {b c : Addr} {H H' : Hp} (B : Bag H b c) (s : SameB b H H') : Tu H H' := let ⟨_, h⟩ := B.lst; s.tu h
theorem Tu.put {H : Hp} {l : Addr} {xs : List V} {o : HO} (hl : H l = some (.lst xs)) : Tu H (upd H l o) := (SameB.refl l H).upd.tu hl
/-! rows and webs, straight -/
def RowH (H : Hp) (p : Addr) (row : List Int) : Prop := H p = some (.tup (row.map V.int))
def RowsH (H : Hp) : List Addr → List (List Int) → Prop := Paired (RowH H)
def RTupH (H : Hp) (r : Addr) (rows : List (List Int)) : Prop := ∃ ra : List Addr, H r = some (.tup (ra.map V.ref)) ∧ RowsH H ra rows
structure WebH (H : Hp) (a : Addr) (W : Web) (n r s : Addr) : Prop where
  tup : H a = some (.tup [.ref n, .ref r, .ref s])
  nam : H n = some (.tup (W.names.map V.str))
  arr : RTupH H r W.arrows
  say : RTupH H s W.sayings
theorem RowsH.tu {H H' : Hp} {ra : List Addr} {rows : List (List Int)} (h : RowsH H ra rows) (s : Tu H H') : RowsH H' ra rows := Paired.mapP h fun p row q => s _ _ q
theorem RTupH.tu {H H' : Hp} {r : Addr} {rows : List (List Int)} (h : RTupH H r rows) (s : Tu H H') : RTupH H' r rows := let ⟨ra, h1, h2⟩ := h; ⟨ra, s _ _ h1, h2.tu s⟩
theorem WebH.tu {H H' : Hp} {a n r s : Addr} {W : Web} (h : WebH H a W n r s) (t : Tu H H') : WebH H' a W n r s := ⟨t _ _ h.tup, t _ _ h.nam, h.arr.tu t, h.say.tu t⟩
theorem RTupH.at {K : PySem.W.Frag} {H : Hp} {r : Addr} {rows : List (List Int)} (h : RTupH H r rows) : RTup K H r rows := let ⟨ra, h1, h2⟩ := h; ⟨ra, SqT.of h1, Paired.mapP h2 fun p row q => SqT.of q⟩
theorem WebH.at {K : PySem.W.Frag} {H : Hp} {a n r s : Addr} {W : Web} (h : WebH H a W n r s) : WebAt K H a W := ⟨n, r, s, SqT.of h.tup, SqT.of h.nam, h.arr.at, h.say.at⟩
theorem RowsH.snoc {H : Hp} {ra : List Addr} {rows : List (List Int)} {p : Addr} {row : List Int} (h : RowsH H ra rows) (q : RowH H p row) : RowsH H (ra ++ [p]) (rows ++ [row]) := by
  induction h with
  | nil => exact .cons q .nil
  | cons a b ih => exact .cons a ih
/-! slices of lists -/
theorem cutV_from {xs : List V} {a : Int} (h : 0 ≤ a) : cutV xs (some a) none = xs.drop (min a.toNat xs.length) := by
  unfold cutV HT.sIx
  simp only [if_neg (show ¬ a < 0 by omega)]
  rw [List.take_of_length_le]
  rw [List.length_drop]; omega
theorem cutV_to {xs : List V} {a : Int} (h : 0 ≤ a) : cutV xs none (some a) = xs.take (min a.toNat xs.length) := by
  unfold cutV HT.sIx
  simp only [if_neg (show ¬ a < 0 by omega), List.drop_zero, Nat.sub_zero]
theorem take_min {α : Type} (xs : List α) (n : Nat) : xs.take (min n xs.length) = xs.take n := by
  rcases Nat.le_total n xs.length with h | h
  · rw [Nat.min_eq_left h]
  · rw [Nat.min_eq_right h, List.take_of_length_le (Nat.le_refl _), List.take_of_length_le h]
theorem drop_min {α : Type} (xs : List α) (n : Nat) : xs.drop (min n xs.length) = xs.drop n := by
  rcases Nat.le_total n xs.length with h | h
  · rw [Nat.min_eq_left h]
  · rw [Nat.min_eq_right h, List.drop_of_length_le (Nat.le_refl _), List.drop_of_length_le h]
/-! the names that are drawn -/
def tails : List Str := ["", "", "x", "box", "zzzzz", "a"]
def fst (k : Nat) : Str := (⟨#[az.cps.toList.getD (k % 26) 0]⟩ : Str) ++ repS "q" ((0 + (k : Int)) / 26)
def nm (k r : Nat) : Str := cutS (fst k ++ tails.getD r "") none (some 6)
def keyOf (s : Str) : Nat := (az.cps.toList.idxOf (s.cps.toList.getD 0 0)) + (if s.cps.toList.getD 1 0 = 113 then 26 else 0)
theorem nm_facts : ∀ k, k < 40 → ∀ r, r < 6 → ((fst k).length + (tails.getD r "").length ≤ 100 ∧ (fst k ++ tails.getD r "").length ≤ 100) ∧ keyOf (nm k r) = k ∧ nameB (nm k r) = true ∧ (nm k r).length ≤ 6 := by decide +kernel
theorem fst_facts : ∀ k : Nat, k < 40 → (repS "q" ((0 + (k : Int)) / 26)).length ≤ 10 := by decide +kernel
theorem tails_at {r : Int} (h0 : 0 ≤ r) (h1 : r < 6) : atI (tails.map V.str) r = some (.str (tails.getD r.toNat "")) := by
  have : r = 0 ∨ r = 1 ∨ r = 2 ∨ r = 3 ∨ r = 4 ∨ r = 5 := by omega
  rcases this with e | e | e | e | e | e <;> (subst e; rfl)
theorem nodup_by_key {l : List Str} (h : ∀ j s, l[j]? = some s → keyOf s = j) : l.Nodup := by
  refine List.pairwise_iff_getElem.mpr fun i j hi hj hij e => ?_
  have k1 := h i _ (by simp [hi] : l[i]? = some l[i])
  have k2 := h j _ (by simp [hj] : l[j]? = some l[j])
  rw [e] at k1
  omega
def spLNames : Sp := fun vs H Q _ => ∃ (b c : Addr) (m : Nat), vs = [.ref b, .int m] ∧ Bag H b c ∧ m ≤ 40 ∧ ∀ (p : Addr) (H' : Hp) (ns : List Str), H' p = some (.tup (ns.map V.str)) → H p = none → namesB ns = true → ns.length = m → (∀ z ∈ ns, z.length ≤ 6) → Bag H' b c → SameB b H H' → Q (.ref p) H'
/-- drawn_web's promise -/
def spDrawn : Sp := fun vs H Q _ => ∃ (b c : Addr) (mo ma mt : Int), vs = [.ref b, .int mo, .int ma, .int mt] ∧ Bag H b c ∧ 1 ≤ mo ∧ mo ≤ 40 ∧ 0 ≤ ma ∧ ma ≤ 80 ∧ 0 ≤ mt ∧ mt ≤ 20 ∧
  ∀ (a : Addr) (H' : Hp) (W : Web) (n r s : Addr), WebH H' a W n r s → webB W = true → (∀ z ∈ W.names, z.length ≤ 6) → Bag H' b c → SameB b H H' → Q (.ref a) H'
def spBag (K : PySem.W.Frag) : Sp := fun vs H Q _ => ∃ (a : Addr) (ns : List Int), vs = [.ref a] ∧ SqL K H a (ns.map V.int) ∧ ns.length ≤ 63 ∧ ∀ (b c : Addr) (H' : Hp), Bag H' b c → Same H H' → H b = none → Q (.ref b) H'
/-! what the comparison of answers takes -/
def scl : V → Bool
  | .non => true | .bl _ => true | .int _ => true | .str _ => true | _ => false
def Alk (H : Hp) : Nat → V → V → Prop
  | 0, x, y => x = y ∧ scl x = true
  | n + 1, x, y => (x = y ∧ scl x = true) ∨ ∃ (p q : Addr) (xs ys : List V), x = .ref p ∧ y = .ref q ∧ ((H p = some (.lst xs) ∧ H q = some (.lst ys)) ∨ (H p = some (.tup xs) ∧ H q = some (.tup ys))) ∧ Paired (Alk H n) xs ys ∧ ys.length ≤ 100000
theorem Alk.same {H H' : Hp} (s : Same H H') : ∀ {n : Nat} {x y : V}, Alk H n x y → Alk H' n x y
  | 0, _, _, h => h
  | n + 1, x, y, h => by
    rcases h with h | ⟨p, q, xs, ys, e1, e2, h, pr, hl⟩
    · exact .inl h
    · refine .inr ⟨p, q, xs, ys, e1, e2, ?_, Paired.mapP pr fun a b z => Alk.same s z, hl⟩
      rcases h with ⟨h1, h2⟩ | ⟨h1, h2⟩
      · exact .inl ⟨s _ _ h1, s _ _ h2⟩
      · exact .inr ⟨s _ _ h1, s _ _ h2⟩
end L2

set_option Elab.async false
set_option linter.all false
set_option maxRecDepth 100000
namespace L2
open PySem PySem.Spec PyProof.Rows
section
variable {X : Cx}
/-- t[lo:hi]: some tuple of just these items -/
def rSlTB : V → Option Int → Option Int → Hp → VK → Prop := fun x lo hi H Q => ∃ a xs, x = .ref a ∧ H a = some (.tup xs) ∧ ∀ p H', Same H H' → H' p = some (.tup (cutV xs lo hi)) → Q (.ref p) H'
theorem sl_tupB : SlR X rSlTB := by
  intro pins s σ H x v vl vu lo hi sl Q I rx hs pl pu h
  obtain ⟨a, xs, rfl, hx, q⟩ := h
  refine sl_tupA pins s σ H (.ref a) v vl vu lo hi sl Q I rx hs pl pu ⟨a, xs, rfl, SqT.of hx, fun hw => q a H (Same.refl H) ?_, fun p hp => q p _ (Same.new hp) upd_same⟩
  rw [hx]
  unfold cutV
  rw [hw.1, hw.2, List.drop_zero, Nat.sub_zero, List.take_of_length_le (Nat.le_refl _)]
/-- t + u -/
def rCatTB : R2 := fun x y H Q => ∃ a b xs ys, x = .ref a ∧ y = .ref b ∧ H a = some (.tup xs) ∧ H b = some (.tup ys) ∧ xs.length + ys.length ≤ sizeLine ∧ ∀ p H', Same H H' → H' p = some (.tup (xs ++ ys)) → Q (.ref p) H'
theorem op_catTB : OpR X (binaryOp .Add) rCatTB := by
  intro pins s σ H x y v u Q I rx ry h
  obtain ⟨a, b, xs, ys, rfl, rfl, ha, hb, hz, q⟩ := h
  refine op_catTA pins s σ H _ _ v u Q I rx ry ⟨a, b, xs, ys, rfl, rfl, SqT.of ha, SqT.of hb, hz, fun e => q a H (Same.refl H) ?_, fun e => q b H (Same.refl H) ?_, fun p hp => q p _ (Same.new hp) upd_same⟩
  · rw [ha, e, List.append_nil]
  · rw [hb, e, List.nil_append]
/-- t * n -/
def rRepTB : R2 := fun x y H Q => ∃ a xs n, x = .ref a ∧ y = .int n ∧ H a = some (.tup xs) ∧ 1 < n ∧ n < 2 ^ 63 ∧ (xs.length : Int) * n ≤ sizeLine ∧ ∀ p H', Same H H' → H' p = some (.tup (List.replicate n.toNat xs).flatten) → Q (.ref p) H'
theorem op_repTB : OpR X (binaryOp .Mult) rRepTB := by
  intro pins s σ H x y v u Q I rx ry h
  obtain ⟨a, xs, n, rfl, rfl, ha, h1, h2, hz, q⟩ := h
  refine op_repT pins s σ H _ _ v u Q I rx ry ⟨a, xs, n, rfl, rfl, SqT.of ha, h1, h2, hz, fun e => q a H (Same.refl H) ?_, fun p hp => q p _ (Same.new hp) upd_same⟩
  rw [ha, e]
  congr 2
  induction n.toNat with
  | zero => rfl
  | succ n ih => rw [List.replicate_succ, List.flatten_cons, ← ih]; rfl
/-- tuple(list): a new tuple -/
theorem cutV_map {α : Type} (f : α → V) (l : List α) (lo hi : Option Int) : ∃ l' : List α, cutV (l.map f) lo hi = l'.map f ∧ l'.length ≤ l.length ∧ ∀ z ∈ l', z ∈ l := by
  refine ⟨(l.drop (HT.sIx l.length 0 lo)).take (HT.sIx l.length l.length hi - HT.sIx l.length 0 lo), ?_, ?_, fun z hz => List.mem_of_mem_drop (List.mem_of_mem_take hz)⟩
  · unfold cutV
    rw [List.length_map, List.map_take, List.map_drop]
  · rw [List.length_take, List.length_drop]; omega
theorem Paired.rep {α β : Type} {F : α → β → Prop} {xs : List α} {ys : List β} (h : Paired F xs ys) : ∀ n : Nat, Paired F (List.replicate n xs).flatten (List.replicate n ys).flatten
  | 0 => .nil
  | n + 1 => by
    rw [List.replicate_succ, List.replicate_succ, List.flatten_cons, List.flatten_cons]
    exact Paired.app h (Paired.rep h n)
where Paired.app {α β : Type} {F : α → β → Prop} : ∀ {xs xs' : List α} {ys ys' : List β}, Paired F xs ys → Paired F xs' ys' → Paired F (xs ++ xs') (ys ++ ys')
  | _, _, _, _, .nil, h => h
  | _, _, _, _, .cons a t, h => .cons a (Paired.app t h)
def rowD (row : List Int) : PyData := .tuple (row.map .int)
theorem dp_ints {K : PySem.W.Frag} {H : Hp} : ∀ l : List Int, DpAll K H (l.map V.int) (l.map .int)
  | [] => .nil
  | i :: r => .cons (.int i) (dp_ints r)
theorem dp_rows {K : PySem.W.Frag} {H : Hp} : ∀ {ra : List Addr} {rows : List (List Int)}, RowsH H ra rows → DpAll K H (ra.map V.ref) (rows.map rowD)
  | _, _, .nil => .nil
  | _, _, .cons h t => .cons (.tup (SqT.of h) (dp_ints _)) (dp_rows t)
theorem lay_ints : ∀ l : List Int, PyData.canLayAll0 (l.map .int) = true
  | [] => by simp only [List.map_nil, PyData.canLayAll0]
  | i :: r => by simp only [List.map_cons, PyData.canLayAll0, PyData.canLay0, lay_ints r, Bool.and_self]
theorem lay_rows : ∀ l : List (List Int), PyData.canLayAll0 (l.map rowD) = true
  | [] => by simp only [List.map_nil, PyData.canLayAll0]
  | i :: r => by simp only [List.map_cons, PyData.canLayAll0, rowD, PyData.canLay0, lay_ints i, lay_rows r, Bool.and_self]
theorem depth_ints : ∀ l : List Int, PyData.depthAll (l.map .int) ≤ 1
  | [] => by simp [PyData.depthAll]
  | i :: r => by
    have := depth_ints r
    simp only [List.map_cons, PyData.depthAll, PyData.depth]
    omega
theorem depth_rows : ∀ l : List (List Int), PyData.depthAll (l.map rowD) ≤ 3
  | [] => by simp [PyData.depthAll]
  | i :: r => by
    have h1 := depth_rows r
    have h2 := depth_ints i
    simp only [List.map_cons, PyData.depthAll, rowD, PyData.depth]
    omega
/-- t != (), t a tuple of rows -/
def rNeE : R2 := fun x y H Q => ∃ a b rows, x = .ref a ∧ y = .ref b ∧ RTupH H a rows ∧ H b = some (.tup []) ∧ Q (.bl (!rows.isEmpty)) H
theorem op_neE (hu : X.A.units + 64 < cLine) : OpR X (compareOp .NotEq) rNeE := by
  intro pins s σ H x y v u Q I rx ry h
  obtain ⟨a, b, rows, rfl, rfl, ⟨ra, ha, hr⟩, hb, q⟩ := h
  refine op_neD hu pins s σ H _ _ v u Q I rx ry ⟨.tuple (rows.map rowD), .tuple [], .tup (SqT.of ha) (dp_rows hr), .tup (SqT.of hb) .nil, ?_, ?_, ?_⟩
  · unfold SeqAt.shaped
    rw [Bool.and_eq_true]
    refine ⟨by simp only [PyData.canLay0]; exact lay_rows rows, decide_eq_true ?_⟩
    have := depth_rows rows
    simp only [PyData.depth]
    omega
  · unfold SeqAt.shaped
    rw [Bool.and_eq_true]
    exact ⟨by simp only [PyData.canLay0, PyData.canLayAll0], decide_eq_true (by simp [PyData.depth, PyData.depthAll])⟩
  · have e : PyData.eqv (.tuple (rows.map rowD)) (.tuple []) = rows.isEmpty := by
      cases rows with
      | nil => simp [PyData.eqv, PyData.eqvAll]
      | cons _ _ => simp [PyData.eqv, PyData.eqvAll]
    rw [e]
    exact q
end
end L2

set_option Elab.async false
set_option linter.all false
set_option maxRecDepth 100000
namespace L2
open PySem PySem.Spec PyProof.Rows
/-- one can go from a to the box -/
inductive Rch (E : Int → Int → Prop) (a : Int) : Int → Prop
  | refl : Rch E a a
  | step {b c : Int} : Rch E a b → E b c → Rch E a c
theorem Rch.mono {E F : Int → Int → Prop} (h : ∀ x y, E x y → F x y) {a b : Int} (r : Rch E a b) : Rch F a b := by
  induction r with
  | refl => exact .refl
  | step _ e ih => exact .step ih (h _ _ e)
theorem Rch.trans {E : Int → Int → Prop} {a b c : Int} (h : Rch E a b) (h' : Rch E b c) : Rch E a c := by
  induction h' with
  | refl => exact h
  | step _ e ih => exact .step ih e
/-! a dict by its int keys, in order -/
/-! pairs of numbers at tuples -/
def PairH (H : Hp) (p : Addr) (x : Int × Int) : Prop := H p = some (.tup [.int x.1, .int x.2])
def PairsH (H : Hp) : List Addr → List (Int × Int) → Prop := Paired (PairH H)
/-- a list of such tuples stands at l -/
def LPairs (H : Hp) (l : Addr) (ps : List (Int × Int)) : Prop := ∃ pa : List Addr, H l = some (.lst (pa.map V.ref)) ∧ PairsH H pa ps
theorem PairsH.tu {H H' : Hp} {pa : List Addr} {ps : List (Int × Int)} (h : PairsH H pa ps) (s : Tu H H') : PairsH H' pa ps := Paired.mapP h fun p x q => s _ _ q
theorem PairsH.snoc {H : Hp} {pa : List Addr} {ps : List (Int × Int)} {p : Addr} {x : Int × Int} (h : PairsH H pa ps) (q : PairH H p x) : PairsH H (pa ++ [p]) (ps ++ [x]) := by
  induction h with
  | nil => exact .cons q .nil
  | cons a b ih => exact .cons a ih
theorem LPairs.same {H H' : Hp} {l : Addr} {ps : List (Int × Int)} (h : LPairs H l ps) (s : Same H H') : LPairs H' l ps := let ⟨pa, h1, h2⟩ := h; ⟨pa, s _ _ h1, h2.tu s.tu⟩
/-- the arrows that may be gone along, as a relation -/
def EdP (ps : List (Int × Int)) (a b : Int) : Prop := (a, b) ∈ ps
/-- the lists of steps: for each box the pairs (arrow, next box) -/
def StepsH (H : Hp) (S : Addr) (sa : List Addr) (adj : List (List (Int × Int))) : Prop := H S = some (.lst (sa.map V.ref)) ∧ Paired (LPairs H) sa adj
theorem StepsH.same {H H' : Hp} {S : Addr} {sa : List Addr} {adj : List (List (Int × Int))} (h : StepsH H S sa adj) (s : Same H H') : StepsH H' S sa adj := ⟨s _ _ h.1, Paired.mapP h.2 fun a ps q => q.same s⟩
def EdA (adj : List (List (Int × Int))) (a b : Int) : Prop := 0 ≤ a ∧ ∃ p, (p, b) ∈ adj.getD a.toNat []
/-- where a walk came by, in order: the start first; each other by an arrow from one ahead of it -/
def Came (H : Hp) (adj : List (List (Int × Int))) (start : Int) (ks : List (Int × V)) : Prop :=
  (ks.map (·.1)).Nodup ∧ ks[0]? = some (start, .non) ∧ ∀ i k v, 0 < i → ks[i]? = some (k, v) → ∃ (t : Addr) (ar pr : Int) (j : Nat) (u : V), v = .ref t ∧ H t = some (.tup [.int ar, .int pr]) ∧ j < i ∧ ks[j]? = some (pr, u) ∧ 0 ≤ pr ∧ (ar, k) ∈ adj.getD pr.toNat []
theorem Came.tu {H H' : Hp} {adj : List (List (Int × Int))} {f : Int} {ks : List (Int × V)} (h : Came H adj f ks) (s : Tu H H') : Came H' adj f ks := by
  obtain ⟨h1, h2, h3⟩ := h
  refine ⟨h1, h2, fun i k v hi e => ?_⟩
  obtain ⟨t, ar, pr, j, u, e1, e2, r⟩ := h3 i k v hi e
  exact ⟨t, ar, pr, j, u, e1, s _ _ e2, r⟩
/-- one box more -/
theorem Came.snoc {H : Hp} {adj : List (List (Int × Int))} {f : Int} {ks : List (Int × V)} {k : Int} {t : Addr} {ar pr : Int} (h : Came H adj f ks) (hk : k ∉ ks.map (·.1)) (ht : H t = some (.tup [.int ar, .int pr])) (hp : pr ∈ ks.map (·.1)) (h0 : 0 ≤ pr) (hm : (ar, k) ∈ adj.getD pr.toNat []) : Came H adj f (ks ++ [(k, .ref t)]) := by
  obtain ⟨h1, h2, h3⟩ := h
  have hpos : 0 < ks.length := (List.getElem?_eq_some_iff.mp h2).1
  refine ⟨by rw [List.map_append]; exact nd_snoc h1 hk, by rw [List.getElem?_append_left hpos]; exact h2, fun i k' v hi e => ?_⟩
  by_cases hlt : i < ks.length
  · rw [List.getElem?_append_left hlt] at e
    obtain ⟨t, ar, pr, j, u, e1, e2, e3, e4, r⟩ := h3 i k' v hi e
    exact ⟨t, ar, pr, j, u, e1, e2, e3, by rw [List.getElem?_append_left (by omega)]; exact e4, r⟩
  · have hi0 : i - ks.length = 0 := by
      rw [List.getElem?_append_right (by omega)] at e
      cases q : i - ks.length with
      | zero => rfl
      | succ m => rw [q] at e; simp at e
    rw [List.getElem?_append_right (by omega), hi0] at e
    simp at e
    obtain ⟨e1, e2⟩ := e
    obtain ⟨p, hp, epr⟩ := List.mem_map.mp hp
    obtain ⟨j, hj⟩ := List.getElem?_of_mem hp
    have hjl : j < ks.length := (List.getElem?_eq_some_iff.mp hj).1
    refine ⟨t, ar, pr, j, p.2, e2.symm, ht, by omega, ?_, h0, e1 ▸ hm⟩
    rw [List.getElem?_append_left hjl, hj, ← epr]
end L2

set_option Elab.async false
set_option linter.all false
set_option maxRecDepth 100000
namespace L2
open PySem PySem.Spec PyProof.Rows
theorem paired_ix {α β : Type} {F : α → β → Prop} : ∀ {xs : List α} {ys : List β}, xs.length = ys.length → (∀ (i : Nat) (x : α) (y : β), xs[i]? = some x → ys[i]? = some y → F x y) → Paired F xs ys
  | [], [], _, _ => .nil
  | [], _ :: _, h, _ => by simp at h
  | _ :: _, [], h, _ => by simp at h
  | x :: xs, y :: ys, h, f => .cons (f 0 x y rfl rfl) (paired_ix (by simpa using h) fun i a b ha hb => f (i + 1) a b (by simpa using ha) (by simpa using hb))
/-- one pair more at the end of a list of steps -/
theorem StepsH.push {H : Hp} {S l tp : Addr} {sa pa : List Addr} {adj : List (List (Int × Int))} {ps : List (Int × Int)} {x : Nat} {p y : Int} (h : StepsH H S sa adj) (nd : sa.Nodup) (hS : S ∉ sa) (e : sa[x]? = some l) (hl : H l = some (.lst (pa.map V.ref)))
    (ea : adj[x]? = some ps) (hp : PairsH H pa ps) (ht : H tp = none) : StepsH (upd (upd H tp (.tup [.int p, .int y])) l (.lst (pa.map V.ref ++ [.ref tp]))) S sa (adj.set x (ps ++ [(p, y)])) := by
  have s1 : Same H (upd H tp (.tup [.int p, .int y])) := Same.new ht
  have tu : Tu H (upd (upd H tp (.tup [.int p, .int y])) l (.lst (pa.map V.ref ++ [.ref tp]))) := s1.tu.trans (Tu.put (s1 _ _ hl))
  have ml : l ∈ sa := List.mem_of_getElem? e
  have nlt : tp ≠ l := fun q => by rw [q, hl] at ht; cases ht
  refine ⟨by rw [upd_ne (show S ≠ l from fun q => hS (q.symm ▸ ml))]; exact s1 _ _ h.1, paired_ix (by rw [List.length_set]; exact Paired.length h.2) fun i a qs ha hq => ?_⟩
  by_cases hi : i = x
  · subst hi
    rw [e] at ha
    cases ha
    have hlt : i < adj.length := (List.getElem?_eq_some_iff.mp ea).1
    rw [List.getElem?_set_self hlt] at hq
    cases hq
    refine ⟨pa ++ [tp], by rw [upd_same, List.map_append]; rfl, (hp.tu tu).snoc ?_⟩
    show (upd _ l _) tp = _
    rw [upd_ne nlt]
    exact upd_same
  · rw [List.getElem?_set_ne (Ne.symm hi)] at hq
    obtain ⟨qs', e1, pa', g1, g2⟩ := paired_get h.2 ha
    rw [hq] at e1
    cases e1
    have hal : a ≠ l := fun q => hi (nd_ix nd (q ▸ ha) e)
    exact ⟨pa', by rw [upd_ne hal]; exact s1 _ _ g1, g2.tu tu⟩
/-! knots -/
/-! lists of numbers, lists of such lists -/
def LInts (H : Hp) (p : Addr) (l : List Int) : Prop := H p = some (.lst (l.map V.int))
def LLInts (H : Hp) (ls : List Addr) (kl : List (List Int)) : Prop := Paired (LInts H) ls kl
theorem LLInts.same {H H' : Hp} {ls : List Addr} {kl : List (List Int)} (h : LLInts H ls kl) (s : Same H H') : LLInts H' ls kl := Paired.mapP h fun p l q => s _ _ q
theorem LLInts.snoc {H : Hp} {ls : List Addr} {kl : List (List Int)} {p : Addr} {l : List Int} (h : LLInts H ls kl) (q : LInts H p l) : LLInts H (ls ++ [p]) (kl ++ [l]) := by
  induction h with
  | nil => exact .cons q .nil
  | cons a b ih => exact .cons a ih
/-- the arrows' ends -/
def endsOf (rows : List (List Int)) : List (Int × Int) := rows.map fun row => (row.getD 0 0, row.getD 1 0)
/-- steps that are just these arrows: box, place, other -/
def AdjIs (rows : List (List Int)) (keep : Nat → Bool) (adj : List (List (Int × Int))) : Prop := ∀ (x p y : Int), (0 ≤ x ∧ (p, y) ∈ adj.getD x.toNat []) ↔ ∃ (k : Nat) (row : List Int), rows[k]? = some row ∧ keep k = true ∧ p = k ∧ row.getD 0 0 = x ∧ row.getD 1 0 = y
theorem AdjIs.ed {rows : List (List Int)} {adj : List (List (Int × Int))} (h : AdjIs rows (fun _ => true) adj) (x y : Int) : EdA adj x y ↔ EdP (endsOf rows) x y := by
  constructor
  · rintro ⟨x0, p, hp⟩
    obtain ⟨k, row, e, _, _, e1, e2⟩ := (h x p y).mp ⟨x0, hp⟩
    exact List.mem_map.mpr ⟨row, List.mem_of_getElem? e, by rw [e1, e2]⟩
  · intro hm
    obtain ⟨row, hr, e⟩ := List.mem_map.mp hm
    obtain ⟨k, ek⟩ := List.getElem?_of_mem hr
    obtain ⟨x0, hp⟩ := (h x (k : Int) y).mpr ⟨k, row, ek, rfl, rfl, (Prod.mk.inj e).1, (Prod.mk.inj e).2⟩
    exact ⟨x0, _, hp⟩
end L2

set_option Elab.async false
set_option linter.all false
set_option maxRecDepth 100000
namespace L2
open PySem PySem.Spec PyProof.Rows
section
variable {X : Cx} {e k : Expr} {te : TE} {tk : TO} {pos p2 : Pos}
theorem Vals.rev : ∀ {xs : List V} {us : List Value}, Vals xs us → Vals xs.reverse us.reverse
  | _, _, .nil => .nil
  | _, _, .cons r t => by
    rw [List.reverse_cons, List.reverse_cons]
    exact (Vals.rev t).append (.cons r .nil)
end
/-- a path: the arrows l, one after another from the boxes ns to the end -/
def Path (adj : List (List (Int × Int))) (f e : Int) (l ns : List Int) : Prop :=
  l.length = ns.length ∧ (ns ++ [e]).Nodup ∧ (ns ++ [e])[0]? = some f ∧ ∀ (i : Nat) (p : Int), l[i]? = some p → ∃ x y, (ns ++ [e])[i]? = some x ∧ (ns ++ [e])[i + 1]? = some y ∧ 0 ≤ x ∧ (p, y) ∈ adj.getD x.toNat []
theorem Path.cons {adj : List (List (Int × Int))} {f e pr ar : Int} {l ns : List Int} (h : Path adj f e l ns) (hn : pr ∉ ns ++ [e]) (h0 : 0 ≤ pr) (hm : (ar, f) ∈ adj.getD pr.toNat []) : Path adj pr e (ar :: l) (pr :: ns) := by
  obtain ⟨h1, h2, h3, h4⟩ := h
  refine ⟨by rw [List.length_cons, List.length_cons, h1], by rw [List.cons_append]; exact List.nodup_cons.mpr ⟨hn, h2⟩, rfl, fun i p ep => ?_⟩
  cases i with
  | zero =>
    have : ar = p := by simpa using ep
    subst this
    exact ⟨pr, f, rfl, by rw [List.cons_append, List.getElem?_cons_succ]; exact h3, h0, hm⟩
  | succ i =>
    obtain ⟨x, y, e1, e2, r⟩ := h4 i p (by simpa using ep)
    exact ⟨x, y, by rw [List.cons_append, List.getElem?_cons_succ]; exact e1, by rw [List.cons_append, List.getElem?_cons_succ]; exact e2, r⟩
end L2

set_option Elab.async false
set_option linter.all false
set_option maxRecDepth 100000
namespace L2
open PySem PySem.Spec PyProof.Rows
noncomputable def goesB (E : Int → Int → Prop) (a b : Int) : Bool := @decide (Rch E a b) (Classical.propDecidable _)
/-- the arrows that are not turned, among the first ones -/
noncomputable def keptTo (ends : List (Int × Int)) : Nat → List (Int × Int)
  | 0 => []
  | i + 1 => match ends[i]? with
    | some (a, b) => if a = b then keptTo ends i else if goesB (EdP (keptTo ends i)) b a = true then keptTo ends i else keptTo ends i ++ [(a, b)]
    | none => keptTo ends i
noncomputable def turnB (ends : List (Int × Int)) (i : Nat) : Bool := match ends[i]? with
  | some (a, b) => (!decide (a = b)) && goesB (EdP (keptTo ends i)) b a
  | none => false
section
variable {ends : List (Int × Int)} {i : Nat} {a b : Int}
end
end L2

set_option Elab.async false
set_option linter.all false
set_option maxRecDepth 100000
namespace L2
open PySem PySem.Spec PyProof.Rows
/-! arrows left out -/
/-! homes -/
end L2

set_option Elab.async false
set_option linter.all false
set_option maxRecDepth 100000
namespace L2
open PySem PySem.Spec PyProof.Rows
section
variable {X : Cx}
end
/-! == of lists of ints, and of lists of those -/
end L2

set_option Elab.async false
set_option linter.all false
set_option maxRecDepth 100000
namespace L2
open PySem PySem.Spec PyProof.Rows
end L2

set_option Elab.async false
set_option linter.all false
set_option maxRecDepth 100000
namespace L2
/-! longest walks, as the program finds them -/
structure Step where
  s : Nat
  e : Nat
  g : Int
  t : Nat
  w : Int
def up {α : Type} (f : Nat → α) (v : Nat) (x : α) : Nat → α := fun i => if i = v then x else f i
theorem up_same {α : Type} (f : Nat → α) (v : Nat) (x : α) : up f v x v = x := if_pos rfl
theorem up_ne {α : Type} {f : Nat → α} {v i : Nat} {x : α} (h : i ≠ v) : up f v x i = f i := if_neg h
def gsum (l : List Step) : Int := (l.map Step.g).sum
theorem gsum_cons (p : Step) (l : List Step) : gsum (p :: l) = p.g + gsum l := rfl
theorem gsum_append (a b : List Step) : gsum (a ++ b) = gsum a + gsum b := by
  unfold gsum; rw [List.map_append, List.sum_append_int]
/-- going back from v to u -/
inductive Back (C : Nat → Option Step) : Nat → Nat → List Step → Prop
  | nil {v} : Back C v v []
  | cons {v u p l} : C v = some p → Back C p.s u l → Back C v u (p :: l)
theorem Back.append {C : Nat → Option Step} {v u x : Nat} {a b : List Step} (h : Back C v u a) (h' : Back C u x b) : Back C v x (a ++ b) := by
  induction h with
  | nil => exact h'
  | cons e _ ih => exact .cons e (ih h')
theorem Back.det {C : Nat → Option Step} {v u : Nat} {a : List Step} (h : Back C v u a) : ∀ {x : Nat} {b : List Step}, Back C v x b → a.length ≤ b.length → ∃ c, b = a ++ c ∧ Back C u x c := by
  induction h with
  | nil => intro x b hb _; exact ⟨b, rfl, hb⟩
  | @cons v u p l e _ ih =>
    intro x b hb hl
    cases hb with
    | nil => simp at hl
    | @cons _ _ q m e' hb' =>
      rw [e] at e'
      cases e'
      obtain ⟨c, rfl, hc⟩ := ih hb' (by simpa using hl)
      exact ⟨c, rfl, hc⟩
theorem Back.split {C : Nat → Option Step} {x u v : Nat} {l : List Step} (h : Back C x u l) (hv : v ∈ x :: l.map Step.s) : ∃ a b, l = a ++ b ∧ Back C x v a ∧ Back C v u b := by
  induction h with
  | @nil y =>
    have : v = y := by simpa using hv
    subst this
    exact ⟨[], [], rfl, .nil, .nil⟩
  | @cons y u p l e hb ih =>
    rcases List.mem_cons.mp hv with hv | hv
    · subst hv
      exact ⟨[], p :: l, rfl, .nil, .cons e hb⟩
    · obtain ⟨a, b, rfl, h1, h2⟩ := ih hv
      exact ⟨p :: a, b, rfl, .cons e h1, h2⟩
theorem Back.nodup {C : Nat → Option Step} {v u : Nat} {l : List Step} (h : Back C v u l) : (v :: l.map Step.s).Nodup ∨ ∃ x a b c, l = a ++ (b ++ c) ∧ b ≠ [] ∧ Back C v x a ∧ Back C x x b ∧ Back C x u c := by
  induction h with
  | nil => exact .inl (by simp)
  | @cons y u p l e hb ih =>
    rcases ih with ih | ⟨x, a, b, c, rfl, hne, h1, h2, h3⟩
    · by_cases hy : y ∈ p.s :: l.map Step.s
      · obtain ⟨a, b, rfl, h1, h2⟩ := hb.split hy
        exact .inr ⟨y, [], p :: a, b, rfl, by simp, .nil, .cons e h1, h2⟩
      · exact .inl (List.nodup_cons.mpr ⟨hy, ih⟩)
    · exact .inr ⟨x, p :: a, b, c, rfl, hne, .cons e h1, h2, h3⟩
theorem Back.all {C : Nat → Option Step} {v u : Nat} {l : List Step} (h : Back C v u l) : ∀ p ∈ l, C p.e = some p ∨ ∃ y, C y = some p := by
  induction h with
  | nil => intro p hp; simp at hp
  | cons e _ ih =>
    intro p hp
    rcases List.mem_cons.mp hp with rfl | hp
    · exact .inr ⟨_, e⟩
    · exact ih p hp
/-- so many steps back, or to a beginning -/
theorem Back.far (C : Nat → Option Step) (v : Nat) : ∀ k : Nat, (∃ u l, Back C v u l ∧ l.length = k) ∨ ∃ u l, Back C v u l ∧ C u = none ∧ l.length < k
  | 0 => .inl ⟨v, [], .nil, rfl⟩
  | k + 1 => by
    rcases Back.far C v k with ⟨u, l, h, hl⟩ | ⟨u, l, h, hn, hl⟩
    · cases e : C u with
      | none => exact .inr ⟨u, l, h, e, by omega⟩
      | some p => exact .inl ⟨p.s, l ++ [p], h.append (.cons e .nil), by simp [hl]⟩
    · exact .inr ⟨u, l, h, hn, by omega⟩
theorem Back.up {C : Nat → Option Step} {v : Nat} {p : Step} {x u : Nat} {l : List Step} (h : Back (up C v (some p)) x u l) :
    Back C x u l ∨ ∃ a b, l = a ++ p :: b ∧ Back C x v a ∧ Back (L2.up C v (some p)) p.s u b := by
  induction h with
  | nil => exact .inl .nil
  | @cons y u q l e hb ih =>
    by_cases hy : y = v
    · subst hy
      rw [up_same] at e
      cases e
      exact .inr ⟨[], l, rfl, .nil, hb⟩
    · rw [up_ne hy] at e
      rcases ih with ih | ⟨a, b, rfl, h1, h2⟩
      · exact .inl (.cons e ih)
      · exact .inr ⟨q :: a, b, rfl, .cons e h1, h2⟩
def Ge (o : Option Int) (x : Int) : Prop := ∃ g, o = some g ∧ x ≤ g
theorem Ge.le {o : Option Int} {x y : Int} (h : Ge o x) (l : y ≤ x) : Ge o y := let ⟨g, e, k⟩ := h; ⟨g, e, by omega⟩
/-- what stands at any time -/
structure LInv (S : List Step) (st : Nat → Prop) (G : Nat → Option Int) (C : Nat → Option Step) : Prop where
  c : ∀ v p, C v = some p → p ∈ S ∧ p.e = v ∧ ∃ gu gv, G p.s = some gu ∧ G v = some gv ∧ gv ≤ gu + p.g
  r : ∀ v g, C v = none → G v = some g → st v ∧ g = 0
  s : ∀ v, st v → Ge (G v) 0
  cyc : ∀ v l, Back C v v l → l ≠ [] → 0 < gsum l
theorem LInv.gain {S : List Step} {st : Nat → Prop} {G : Nat → Option Int} {C : Nat → Option Step} (I : LInv S st G C) {v u : Nat} {l : List Step} (h : Back C v u l) : ∀ {gv : Int}, G v = some gv → ∃ gu, G u = some gu ∧ gv ≤ gu + gsum l := by
  induction h with
  | nil => intro gv e; exact ⟨gv, e, by show gv ≤ gv + 0; omega⟩
  | @cons v u p l e _ ih =>
    intro gv ev
    obtain ⟨_, _, gu, gv', e1, e2, k⟩ := I.c _ _ e
    rw [ev] at e2
    cases e2
    obtain ⟨gx, e3, k3⟩ := ih e1
    exact ⟨gx, e3, by rw [gsum_cons]; omega⟩
/-- one step looked at -/
theorem LInv.relax {S : List Step} {st : Nat → Prop} {G : Nat → Option Int} {C : Nat → Option Step} (I : LInv S st G C) {p : Step} (hp : p ∈ S) {gs : Int} (e : G p.s = some gs) (hb : ¬ Ge (G p.e) (gs + p.g)) :
    LInv S st (up G p.e (some (gs + p.g))) (up C p.e (some p)) ∧ (∀ v x, Ge (G v) x → Ge (up G p.e (some (gs + p.g)) v) x) := by
  have mono : ∀ v x, Ge (G v) x → Ge (up G p.e (some (gs + p.g)) v) x := fun v x h => by
    by_cases hv : v = p.e
    · subst hv
      rw [up_same]
      obtain ⟨g, eg, k⟩ := h
      refine ⟨_, rfl, ?_⟩
      have : ¬ (gs + p.g ≤ g) := fun z => hb ⟨g, eg, z⟩
      omega
    · rw [up_ne hv]; exact h
  -- going back from the step's start, along what was, to its end sums up above
  have key : ∀ a, Back C p.s p.e a → 0 < gsum a + p.g := fun a ha => by
    obtain ⟨gu, e2, k⟩ := I.gain ha e
    have : ¬ (gs + p.g ≤ gu) := fun z => hb ⟨gu, e2, z⟩
    omega
  have hself : p.s ≠ p.e ∨ 0 < p.g := by
    by_cases h : p.s = p.e
    · refine .inr ?_
      have : ¬ (gs + p.g ≤ gs) := fun z => hb ⟨gs, h ▸ e, z⟩
      omega
    · exact .inl h
  have key2 : ∀ (k : Nat) (l : List Step), l.length ≤ k → Back (up C p.e (some p)) p.s p.e l → 0 < gsum l + p.g := by
    intro k
    induction k with
    | zero =>
      intro l hl h
      rcases h.up with h | ⟨a, b, rfl, _⟩
      · exact key _ h
      · simp at hl
    | succ k ih =>
      intro l hl h
      rcases h.up with h | ⟨a, b, rfl, h1, h2⟩
      · exact key _ h
      · have := key a h1
        have := ih b (by simp at hl; omega) h2
        rw [gsum_append, gsum_cons]
        omega
  refine ⟨⟨fun v q h => ?_, fun v g h1 h2 => ?_, fun v h => mono v 0 (I.s v h), fun v l h hne => ?_⟩, mono⟩
  · by_cases hv : v = p.e
    · subst hv
      rw [up_same] at h
      cases h
      refine ⟨hp, rfl, ?_⟩
      by_cases hs : p.s = p.e
      · refine ⟨gs + p.g, gs + p.g, by rw [hs, up_same], up_same _ _ _, ?_⟩
        rcases hself with h | h
        · exact absurd hs h
        · omega
      · exact ⟨gs, _, by rw [up_ne hs]; exact e, up_same _ _ _, Int.le_refl _⟩
    · rw [up_ne hv] at h
      obtain ⟨h1, h2, gu, gv, e1, e2, k⟩ := I.c _ _ h
      refine ⟨h1, h2, ?_⟩
      obtain ⟨gu', e1', k'⟩ := mono q.s gu ⟨gu, e1, Int.le_refl _⟩
      exact ⟨gu', gv, e1', by rw [up_ne hv]; exact e2, by omega⟩
  · by_cases hv : v = p.e
    · subst hv
      rw [up_same] at h1
      cases h1
    · rw [up_ne hv] at h1 h2
      exact I.r v g h1 h2
  · rcases h.up with h | ⟨a, b, rfl, h1, h2⟩
    · exact I.cyc v l h hne
    · -- turned about it is a way from the step's end to itself
      have h1' : Back (up C p.e (some p)) v p.e a ∨ ∃ a1 a2, a = a1 ++ a2 := .inr ⟨a, [], by simp⟩
      have lift : ∀ {y z : Nat} {m : List Step}, Back C y z m → z = p.e → ∃ m1 m2, m = m1 ++ m2 ∧ Back (up C p.e (some p)) y p.e m1 ∧ Back C p.e p.e m2 := by
        intro y z m hm
        induction hm with
        | nil => intro hz; subst hz; exact ⟨[], [], rfl, .nil, .nil⟩
        | @cons y z q m e' hb' ih =>
          intro hz
          by_cases hy : y = p.e
          · subst hy
            subst hz
            exact ⟨[], q :: m, rfl, .nil, .cons e' hb'⟩
          · obtain ⟨m1, m2, rfl, g1, g2⟩ := ih hz
            exact ⟨q :: m1, m2, rfl, .cons (by rw [up_ne hy]; exact e') g1, g2⟩
      obtain ⟨a1, a2, rfl, g1, g2⟩ := lift h1 rfl
      have ha2 : 0 ≤ gsum a2 := by
        by_cases hn : a2 = []
        · subst hn; exact Int.le_refl _
        · exact Int.le_of_lt (I.cyc _ _ g2 hn)
      have := key2 _ (b ++ a1) (Nat.le_refl _) (h2.append g1)
      rw [gsum_append] at this
      rw [gsum_append, gsum_append, gsum_cons]
      omega
/-- walks by steps, told backwards -/
inductive Chn (S : List Step) : Nat → Nat → List Step → Prop
  | nil {v} : Chn S v v []
  | cons {p u l} : p ∈ S → Chn S p.s u l → Chn S p.e u (p :: l)
/-- no walk of so many steps gains more -/
def Above (S : List Step) (st : Nat → Prop) (k : Nat) (G : Nat → Option Int) : Prop := ∀ v u l, Chn S v u l → l.length ≤ k → st u → Ge (G v) (gsum l)
def Stable (S : List Step) (G : Nat → Option Int) : Prop := ∀ p ∈ S, ∀ x, Ge (G p.s) x → Ge (G p.e) (x + p.g)
/-- in the midst of a trial: of the steps looked at -/
structure Trial (S : List Step) (st : Nat → Prop) (G0 : Nat → Option Int) (done : List Step) (G : Nat → Option Int) (C : Nat → Option Step) (late : Option Nat) : Prop where
  inv : LInv S st G C
  mono : ∀ v x, Ge (G0 v) x → Ge (G v) x
  seen : ∀ p ∈ done, ∀ x, Ge (G0 p.s) x → Ge (G p.e) (x + p.g)
  calm : late = none → G = G0
  new : ∀ v, late = some v → ∃ x, G v = some x ∧ ¬ Ge (G0 v) x
theorem Trial.skip {S : List Step} {st : Nat → Prop} {G0 G : Nat → Option Int} {C : Nat → Option Step} {done : List Step} {late : Option Nat} (I : Trial S st G0 done G C late) {p : Step} (h : ∀ g, G p.s = some g → Ge (G p.e) (g + p.g)) : Trial S st G0 (done ++ [p]) G C late :=
  ⟨I.inv, I.mono, fun q hq x hx => by
    rcases List.mem_append.mp hq with hq | hq
    · exact I.seen q hq x hx
    · have : q = p := by simpa using hq
      subst this
      obtain ⟨g, e, k⟩ := I.mono _ _ hx
      exact (h g e).le (by omega), I.calm, I.new⟩
theorem Trial.take {S : List Step} {st : Nat → Prop} {G0 G : Nat → Option Int} {C : Nat → Option Step} {done : List Step} {late : Option Nat} (I : Trial S st G0 done G C late) {p : Step} (hp : p ∈ S) {gs : Int} (e : G p.s = some gs) (hb : ¬ Ge (G p.e) (gs + p.g)) :
    Trial S st G0 (done ++ [p]) (up G p.e (some (gs + p.g))) (up C p.e (some p)) (some p.e) := by
  obtain ⟨I', mono⟩ := I.inv.relax hp e hb
  refine ⟨I', fun v x h => mono v x (I.mono v x h), fun q hq x hx => ?_, fun z => (nomatch z), fun v ev => ?_⟩
  · rcases List.mem_append.mp hq with hq | hq
    · exact mono _ _ (I.seen q hq x hx)
    · have : q = p := by simpa using hq
      subst this
      obtain ⟨g, e', k⟩ := I.mono _ _ hx
      rw [e] at e'
      cases e'
      exact ⟨_, up_same _ _ _, by omega⟩
  · cases ev
    exact ⟨_, up_same _ _ _, fun h => hb (I.mono _ _ h)⟩
theorem Trial.above {S : List Step} {st : Nat → Prop} {G0 G : Nat → Option Int} {C : Nat → Option Step} {late : Option Nat} {k : Nat} (I : Trial S st G0 S G C late) (h : Above S st k G0) : Above S st (k + 1) G := by
  intro v u l hc hl hu
  cases hc with
  | nil => exact I.mono _ _ (h v v [] .nil (by simp) hu)
  | @cons p u l hp hc =>
    have := I.seen p hp _ (h _ _ _ hc (by simpa using hl) hu)
    rw [gsum_cons, Int.add_comm]
    exact this
theorem nodup_below : ∀ {n : Nat} {l : List Nat}, l.Nodup → (∀ x ∈ l, x < n) → l.length ≤ n
  | 0, l, h, hb => by
    cases l with
    | nil => exact Nat.le_refl _
    | cons a r => exact absurd (hb a (by simp)) (by omega)
  | n + 1, l, h, hb => by
    have := nodup_below (n := n) (h.erase n) fun x hx => by
      obtain ⟨h1, h2⟩ := h.mem_erase_iff.mp hx
      have := hb x h2
      omega
    rw [List.length_erase] at this
    split at this <;> omega
/-- behind all trials -/
structure Best (n : Nat) (S : List Step) (st : Nat → Prop) (G : Nat → Option Int) (C : Nat → Option Step) (late : Option Nat) : Prop where
  inv : LInv S st G C
  fin : (late = none ∧ Stable S G) ∨ ∃ v, late = some v ∧ v < n ∧ ∀ u l, Back C v u l → C u ≠ none
theorem Back.lt {n : Nat} {S : List Step} {st : Nat → Prop} {G : Nat → Option Int} {C : Nat → Option Step} (I : LInv S st G C) (hS : ∀ p ∈ S, p.s < n ∧ p.e < n) {v u : Nat} {l : List Step} (h : Back C v u l) (hv : v < n) : (∀ x ∈ v :: l.map Step.s, x < n) ∧ u < n := by
  induction h with
  | nil => exact ⟨fun x hx => by simp at hx; omega, hv⟩
  | @cons v u p l e _ ih =>
    have := (hS p (I.c _ _ e).1).1
    obtain ⟨h1, h2⟩ := ih this
    exact ⟨fun x hx => by
      rcases List.mem_cons.mp hx with rfl | hx
      · exact hv
      · exact h1 x hx, h2⟩
/-- a box so many steps back lies on a ring -/
theorem back_ring {n : Nat} {S : List Step} {st : Nat → Prop} {G : Nat → Option Int} {C : Nat → Option Step} (I : LInv S st G C) (hS : ∀ p ∈ S, p.s < n ∧ p.e < n) {v u : Nat} {l : List Step} (hv : v < n) (h : Back C v u l) (hl : l.length = n) : ∃ c, c ≠ [] ∧ Back C u u c := by
  rcases h.nodup with nd | ⟨x, a, b, c, rfl, hne, h1, h2, h3⟩
  · exfalso
    have := nodup_below nd (h.lt I hS hv).1
    simp at this
    omega
  · have hb0 : b.length ≠ 0 := fun z => hne (List.eq_nil_of_length_eq_zero z)
    have wrap : ∀ (k : Nat) (c : List Step), c.length ≤ k → Back C x u c → ∃ m, Back C u x m := by
      intro k
      induction k with
      | zero =>
        intro c hc h
        have : c = [] := List.eq_nil_of_length_eq_zero (by omega)
        subst this
        cases h
        exact ⟨[], .nil⟩
      | succ k ih =>
        intro c hc h
        rcases Nat.le_total c.length b.length with hlt | hlt
        · obtain ⟨m, _, hm⟩ := h.det h2 hlt
          exact ⟨m, hm⟩
        · obtain ⟨m, e, hm⟩ := h2.det h hlt
          refine ih m ?_ hm
          have := congrArg List.length e
          simp at this
          omega
    obtain ⟨m, hm⟩ := wrap _ c (Nat.le_refl _) h3
    refine ⟨m ++ (b ++ c), ?_, hm.append (h2.append h3)⟩
    intro z
    simp at z
    exact hne z.2.1
/-- a paper that lets no ring gain -/
def Pot (S : List Step) (π : Nat → Int) : Prop := ∀ p ∈ S, π p.s + p.g ≤ π p.e
theorem Pot.back {S : List Step} {st : Nat → Prop} {G : Nat → Option Int} {C : Nat → Option Step} (I : LInv S st G C) {π : Nat → Int} (P : Pot S π) {v u : Nat} {l : List Step} (h : Back C v u l) : π u + gsum l ≤ π v := by
  induction h with
  | nil => show _ + 0 ≤ _; omega
  | cons e _ ih =>
    obtain ⟨h1, h2, _⟩ := I.c _ _ e
    have := P _ h1
    rw [h2] at this
    rw [gsum_cons]
    omega
theorem Pot.noring {S : List Step} {st : Nat → Prop} {G : Nat → Option Int} {C : Nat → Option Step} (I : LInv S st G C) {π : Nat → Int} (P : Pot S π) {v : Nat} {l : List Step} (h : Back C v v l) : l = [] := by
  by_cases hn : l = []
  · exact hn
  · have := I.cyc v l h hn
    have := P.back I h
    omega
theorem Pot.root {n : Nat} {S : List Step} {st : Nat → Prop} {G : Nat → Option Int} {C : Nat → Option Step} (I : LInv S st G C) {π : Nat → Int} (P : Pot S π) (hS : ∀ p ∈ S, p.s < n ∧ p.e < n) {v : Nat} (hv : v < n) : ∃ u l, Back C v u l ∧ C u = none ∧ l.length < n ∧ u < n := by
  rcases Back.far C v n with ⟨u, l, h, hl⟩ | ⟨u, l, h, hn, hl⟩
  · obtain ⟨c, hc, hr⟩ := back_ring I hS hv h hl
    exact absurd (P.noring I hr) hc
  · exact ⟨u, l, h, hn, hl, (h.lt I hS hv).2⟩
/-- the steps by which the walks came are just as long as told -/
theorem tight {S : List Step} {st : Nat → Prop} {G : Nat → Option Int} {C : Nat → Option Step} (I : LInv S st G C) (hs : Stable S G) {v : Nat} {p : Step} (e : C v = some p) : ∃ gu, G p.s = some gu ∧ G p.e = some (gu + p.g) := by
  obtain ⟨h1, h2, gu, gv, e1, e2, k⟩ := I.c _ _ e
  obtain ⟨g, e3, k3⟩ := hs p h1 gu ⟨gu, e1, Int.le_refl _⟩
  rw [h2] at e3 ⊢
  rw [e2] at e3
  cases e3
  have : gv = gu + p.g := by omega
  exact ⟨gu, e1, by rw [e2, this]⟩
end L2

set_option Elab.async false
set_option linter.all false
set_option maxRecDepth 100000
namespace L2
structure Tie where
  ar : Bool
  pl : Nat
  i : Nat
  o : Nat
  l : Int
  w : Int
def fwd (k : Nat) (t : Tie) : Step := ⟨t.i, t.o, t.l, k, 1⟩
def bwd (k : Nat) (t : Tie) : Step := ⟨t.o, t.i, -t.l, k, -1⟩
def stepAt (f : List Int) (k : Nat) (t : Tie) : List Step := if 0 < f.getD k 0 then [fwd k t, bwd k t] else [fwd k t]
/-- the steps of the first ties -/
def stepsTo (ts : List Tie) (f : List Int) : Nat → List Step
  | 0 => []
  | k + 1 => stepsTo ts f k ++ (match ts[k]? with | some t => stepAt f k t | none => [])
theorem mem_stepAt {f : List Int} {k : Nat} {t : Tie} {p : Step} : p ∈ stepAt f k t ↔ p = fwd k t ∨ (0 < f.getD k 0 ∧ p = bwd k t) := by
  unfold stepAt
  generalize f.getD k 0 = c
  by_cases h : 0 < c
  · rw [if_pos h]; simp [h]
  · rw [if_neg h]; simp [h]
theorem mem_stepsTo {ts : List Tie} {f : List Int} {p : Step} : ∀ {n : Nat}, p ∈ stepsTo ts f n ↔ ∃ k t, k < n ∧ ts[k]? = some t ∧ (p = fwd k t ∨ (0 < f.getD k 0 ∧ p = bwd k t))
  | 0 => by
    constructor
    · intro h; simp [stepsTo] at h
    · rintro ⟨k, t, hk, _⟩; omega
  | n + 1 => by
    unfold stepsTo
    rw [List.mem_append, mem_stepsTo (n := n)]
    constructor
    · rintro (⟨k, t, hk, h⟩ | h)
      · exact ⟨k, t, by omega, h⟩
      · cases e : ts[n]? with
        | none => rw [e] at h; simp at h
        | some t =>
          rw [e] at h
          exact ⟨n, t, by omega, e, mem_stepAt.mp h⟩
    · rintro ⟨k, t, hk, e, h⟩
      by_cases hn : k = n
      · subst hn
        refine .inr ?_
        rw [e]
        exact mem_stepAt.mpr h
      · exact .inl ⟨k, t, by omega, e, h⟩
def stepsOf (ts : List Tie) (f : List Int) : List Step := stepsTo ts f ts.length
theorem mem_stepsOf {ts : List Tie} {f : List Int} {p : Step} : p ∈ stepsOf ts f ↔ ∃ k t, ts[k]? = some t ∧ (p = fwd k t ∨ (0 < f.getD k 0 ∧ p = bwd k t)) := by
  unfold stepsOf
  rw [mem_stepsTo]
  constructor
  · rintro ⟨k, t, _, h⟩; exact ⟨k, t, h⟩
  · rintro ⟨k, t, e, h⟩; exact ⟨k, t, (List.getElem?_eq_some_iff.mp e).1, e, h⟩
def TiesIn (n : Nat) (ts : List Tie) : Prop := ∀ t ∈ ts, t.i < n ∧ t.o < n ∧ 0 ≤ t.w ∧ t.w ≤ 9 ∧ -9 ≤ t.l ∧ t.l ≤ 9
theorem steps_in {n : Nat} {ts : List Tie} {f : List Int} (h : TiesIn n ts) : ∀ p ∈ stepsOf ts f, p.s < n ∧ p.e < n := fun p hp => by
  obtain ⟨k, t, e, h1⟩ := mem_stepsOf.mp hp
  obtain ⟨a, b, _⟩ := h t (List.mem_of_getElem? e)
  rcases h1 with rfl | ⟨_, rfl⟩
  · exact ⟨a, b⟩
  · exact ⟨b, a⟩
/-- a layering that keeps all ties -/
def Keeps (ts : List Tie) (π : Nat → Int) : Prop := ∀ t ∈ ts, π t.i + t.l ≤ π t.o
/-- … and has just the least where some flow is -/
def Slack (ts : List Tie) (f : List Int) (π : Nat → Int) : Prop := ∀ k t, ts[k]? = some t → 0 < f.getD k 0 → π t.o ≤ π t.i + t.l
theorem pot_iff {ts : List Tie} {f : List Int} {π : Nat → Int} : Pot (stepsOf ts f) π ↔ Keeps ts π ∧ Slack ts f π := by
  constructor
  · intro P
    refine ⟨fun t ht => ?_, fun k t e hf => ?_⟩
    · obtain ⟨k, e⟩ := List.getElem?_of_mem ht
      exact P (fwd k t) (mem_stepsOf.mpr ⟨k, t, e, .inl rfl⟩)
    · have := P (bwd k t) (mem_stepsOf.mpr ⟨k, t, e, .inr ⟨hf, rfl⟩⟩)
      show π t.o ≤ _
      have h : π t.o + -t.l ≤ π t.i := this
      omega
  · rintro ⟨h1, h2⟩ p hp
    obtain ⟨k, t, e, rfl | ⟨hf, rfl⟩⟩ := mem_stepsOf.mp hp
    · exact h1 t (List.mem_of_getElem? e)
    · have := h2 k t e hf
      show π t.o + -t.l ≤ π t.i
      omega
/-! sums -/
/-- over the boxes -/
def dotF (lam : Nat → Int) : Nat → List Int → Int
  | _, [] => 0
  | b, x :: r => lam b * x + dotF lam (b + 1) r
def dot (lam : Nat → Int) (l : List Int) : Int := dotF lam 0 l
theorem dotF_set (lam : Nat → Int) (x : Int) : ∀ (l : List Int) (b k : Nat), k < l.length → dotF lam b (l.set k x) = dotF lam b l + lam (b + k) * (x - l.getD k 0)
  | [], b, k, h => by simp at h
  | y :: r, b, 0, h => by
    simp only [List.set_cons_zero, dotF, List.getD_cons_zero, Nat.add_zero]
    grind
  | y :: r, b, k + 1, h => by
    have := dotF_set lam x r (b + 1) k (by simpa using h)
    simp only [List.set_cons_succ, dotF, List.getD_cons_succ]
    rw [this, show b + 1 + k = b + (k + 1) by omega]
    omega
theorem dot_set {lam : Nat → Int} {x : Int} {l : List Int} {k : Nat} (h : k < l.length) : dot lam (l.set k x) = dot lam l + lam k * (x - l.getD k 0) := by
  have := dotF_set lam x l 0 k h
  rw [Nat.zero_add] at this
  exact this
theorem dotF_zero (lam : Nat → Int) : ∀ (n b : Nat), dotF lam b (List.replicate n 0) = 0
  | 0, b => rfl
  | n + 1, b => by
    rw [List.replicate_succ]
    show lam b * 0 + _ = 0
    rw [dotF_zero lam n]; omega
theorem dotF_nonpos {lam : Nat → Int} : ∀ {l : List Int} {b : Nat}, (∀ k x, l[k]? = some x → lam (b + k) * x ≤ 0) → dotF lam b l ≤ 0 ∧ ((∃ k x, l[k]? = some x ∧ lam (b + k) * x < 0) → dotF lam b l < 0)
  | [], b, h => ⟨Int.le_refl _, fun ⟨k, x, e, _⟩ => by simp at e⟩
  | y :: r, b, h => by
    have h0 := h 0 y rfl
    obtain ⟨h1, h2⟩ := dotF_nonpos (lam := lam) (l := r) (b := b + 1) fun k x e => by
      have := h (k + 1) x (by simpa using e)
      rw [show b + 1 + k = b + (k + 1) by omega]
      exact this
    refine ⟨?_, fun ⟨k, x, e, hk⟩ => ?_⟩
    · show lam b * y + _ ≤ 0
      rw [Nat.add_zero] at h0
      omega
    · show lam b * y + _ < 0
      rw [Nat.add_zero] at h0
      cases k with
      | zero =>
        simp at e
        subst e
        rw [Nat.add_zero] at hk
        omega
      | succ k =>
        have := h2 ⟨k, x, by simpa using e, by rw [show b + 1 + k = b + (k + 1) by omega]; exact hk⟩
        omega
/-- over the ties: what still lacks -/
def lack (lam : Nat → Int) : List Tie → List Int → Int
  | [], _ => 0
  | t :: ts, f => (t.w - f.headD 0) * (lam t.o - lam t.i) + lack lam ts f.tail
theorem lack_set (lam : Nat → Int) (x : Int) : ∀ (ts : List Tie) (f : List Int) (k : Nat) (t : Tie), ts[k]? = some t → k < f.length → lack lam ts (f.set k x) = lack lam ts f - (x - f.getD k 0) * (lam t.o - lam t.i)
  | [], f, k, t, e, h => by simp at e
  | u :: ts, [], k, t, e, h => by simp at h
  | u :: ts, y :: f, 0, t, e, h => by
    simp at e
    subst e
    simp only [List.set_cons_zero, lack, List.headD_cons, List.tail_cons, List.getD_cons_zero]
    grind
  | u :: ts, y :: f, k + 1, t, e, h => by
    have := lack_set lam x ts f k t (by simpa using e) (by simpa using h)
    simp only [List.set_cons_succ, lack, List.headD_cons, List.tail_cons, List.getD_cons_succ]
    rw [this]
    omega
theorem lack_zero (lam : Nat → Int) : ∀ (ts : List Tie) (n : Nat), lack lam ts (List.replicate n 0) = (ts.map fun t => t.w * (lam t.o - lam t.i)).sum
  | [], n => rfl
  | t :: ts, 0 => by
    have := lack_zero lam ts 0
    show (t.w - 0) * _ + _ = t.w * _ + (ts.map _).sum
    rw [← this, Int.sub_zero]
    rfl
  | t :: ts, n + 1 => by
    have := lack_zero lam ts n
    show (t.w - 0) * _ + _ = t.w * _ + (ts.map _).sum
    rw [← this, Int.sub_zero]
    rfl
def lenOf (ts : List Tie) (lam : Nat → Int) : Int := (ts.map fun t => t.w * (lam t.o - lam t.i)).sum
def worthOf : List Tie → List Int → Int
  | [], _ => 0
  | t :: ts, f => f.headD 0 * t.l + worthOf ts f.tail
/-- what a flow is worth, and how long layerings are -/
theorem lack_len {ts : List Tie} : ∀ {f : List Int} {lam : Nat → Int}, (∀ k, 0 ≤ f.getD k 0) → Keeps ts lam → worthOf ts f + lack lam ts f ≤ lenOf ts lam := by
  induction ts with
  | nil => intro f lam _ _; exact Int.le_refl _
  | cons t ts ih =>
    intro f lam h0 hk
    have h1 := ih (f := f.tail) (lam := lam) (fun k => by
      have := h0 (k + 1)
      cases f with
      | nil => exact Int.le_refl _
      | cons y f => simpa using this) (fun u hu => hk u (by simp [hu]))
    have h2 := hk t (by simp)
    have h3 := h0 0
    have e : f.getD 0 0 = f.headD 0 := by cases f <;> rfl
    rw [e] at h3
    show f.headD 0 * t.l + worthOf ts f.tail + ((t.w - f.headD 0) * (lam t.o - lam t.i) + lack lam ts f.tail) ≤ t.w * (lam t.o - lam t.i) + lenOf ts lam
    have h4 : f.headD 0 * t.l ≤ f.headD 0 * (lam t.o - lam t.i) := Int.mul_le_mul_of_nonneg_left (by omega) h3
    have h5 : (t.w - f.headD 0) * (lam t.o - lam t.i) = t.w * (lam t.o - lam t.i) - f.headD 0 * (lam t.o - lam t.i) := by grind
    omega
theorem slack_len {ts : List Tie} : ∀ {f : List Int} {lam : Nat → Int}, (∀ k, 0 ≤ f.getD k 0) → Keeps ts lam → Slack ts f lam → worthOf ts f + lack lam ts f = lenOf ts lam := by
  induction ts with
  | nil => intro f lam _ _ _; rfl
  | cons t ts ih =>
    intro f lam h0 hk hs
    have ht : ∀ k, f.tail.getD k 0 = f.getD (k + 1) 0 := fun k => by cases f <;> simp
    have h1 := ih (f := f.tail) (lam := lam) (fun k => by rw [ht]; exact h0 (k + 1)) (fun u hu => hk u (by simp [hu])) (fun k u e hf => hs (k + 1) u (by simpa using e) (by rw [← ht]; exact hf))
    have h2 := hk t (by simp)
    have h3 := h0 0
    have h6 := hs 0 t rfl
    have e : f.getD 0 0 = f.headD 0 := by cases f <;> rfl
    rw [e] at h3 h6
    show f.headD 0 * t.l + worthOf ts f.tail + ((t.w - f.headD 0) * (lam t.o - lam t.i) + lack lam ts f.tail) = t.w * (lam t.o - lam t.i) + lenOf ts lam
    have h4 : f.headD 0 * t.l = f.headD 0 * (lam t.o - lam t.i) := by
      by_cases hf : f.headD 0 = 0
      · rw [hf]; simp
      · have : lam t.o - lam t.i = t.l := by
          have := h6 (by omega)
          omega
        rw [this]
    have h5 : (t.w - f.headD 0) * (lam t.o - lam t.i) = t.w * (lam t.o - lam t.i) - f.headD 0 * (lam t.o - lam t.i) := by grind
    omega
/-- the told flow: the paper beside it shows that none is better -/
structure Flow (ts : List Tie) (f : List Int) : Prop where
  len : f.length = ts.length
  pos : ∀ k, 0 ≤ f.getD k 0
  bal : ∀ lam, lack lam ts f = 0
  pap : ∃ π, Keeps ts π ∧ Slack ts f π
theorem Flow.le {ts : List Tie} {f : List Int} (F : Flow ts f) {lam : Nat → Int} (h : Keeps ts lam) : worthOf ts f ≤ lenOf ts lam := by
  have := lack_len F.pos h
  rw [F.bal] at this
  omega
theorem Flow.eq {ts : List Tie} {f : List Int} (F : Flow ts f) {lam : Nat → Int} (h : Keeps ts lam) (hs : Slack ts f lam) : worthOf ts f = lenOf ts lam := by
  have := slack_len F.pos h hs
  rw [F.bal] at this
  omega
/-- two told flows are worth the same -/
theorem Flow.same {ts : List Tie} {f g : List Int} (F : Flow ts f) (G : Flow ts g) : worthOf ts f = worthOf ts g := by
  obtain ⟨π, h1, h2⟩ := F.pap
  obtain ⟨ρ, h3, h4⟩ := G.pap
  have := F.eq h1 h2
  have := G.eq h3 h4
  have := F.le h3
  have := G.le h1
  omega
end L2

set_option Elab.async false
set_option linter.all false
set_option maxRecDepth 100000
namespace L2
open Classical in
/-- what stands while flow is sent -/
structure Send (n : Nat) (ts : List Tie) (f needs : List Int) : Prop where
  len : f.length = ts.length
  nlen : needs.length = n
  pos : ∀ k, 0 ≤ f.getD k 0
  bal : ∀ lam, dot lam needs = lack lam ts f
  pap : ∃ π, Pot (stepsOf ts f) π
def mass (l : List Int) : Nat := (l.map Int.natAbs).sum
theorem mass_set (x : Int) : ∀ (l : List Int) (k : Nat), k < l.length → mass (l.set k x) + (l.getD k 0).natAbs = mass l + x.natAbs
  | [], k, h => by simp at h
  | y :: r, 0, h => by
    simp only [List.set_cons_zero, mass, List.map_cons, List.sum_cons, List.getD_cons_zero]
    omega
  | y :: r, k + 1, h => by
    have := mass_set x r k (by simpa using h)
    simp only [List.set_cons_succ, mass, List.map_cons, List.sum_cons, List.getD_cons_succ] at this ⊢
    omega
theorem lack_one (lam : Nat → Int) (hl : ∀ v, lam v = 1) : ∀ (ts : List Tie) (f : List Int), lack lam ts f = 0
  | [], f => rfl
  | t :: ts, f => by
    show (t.w - f.headD 0) * (lam t.o - lam t.i) + _ = 0
    rw [hl, hl, lack_one lam hl ts]
    simp
/-- some box must let flow out -/
theorem Send.low {n : Nat} {ts : List Tie} {f needs : List Int} (I : Send n ts f needs) (h : ∃ x ∈ needs, x ≠ 0) : ∃ (v : Nat) (y : Int), needs[v]? = some y ∧ y < 0 := by
  apply Classical.byContradiction
  intro hn
  have h0 : ∀ (k : Nat) (x : Int), needs[k]? = some x → 0 ≤ x := fun k x e => by
    apply Classical.byContradiction
    intro hx
    exact hn ⟨k, x, e, by omega⟩
  obtain ⟨x, hx, hne⟩ := h
  obtain ⟨k, e⟩ := List.getElem?_of_mem hx
  have hb := I.bal fun _ => 1
  rw [lack_one _ fun _ => rfl] at hb
  have neg : ∀ (l : List Int) (b : Nat), dotF (fun _ => -1) b l = - dotF (fun _ => 1) b l := by
    intro l
    induction l with
    | nil => intro b; rfl
    | cons y r ih =>
      intro b
      show -1 * y + _ = -(1 * y + _)
      rw [ih]; omega
  obtain ⟨_, h2⟩ := dotF_nonpos (lam := fun _ => -1) (l := needs) (b := 0) fun k x e => by
    have := h0 k x e
    show -1 * x ≤ 0
    omega
  have := h2 ⟨k, x, e, by
    have := h0 k x e
    show -1 * x < 0
    omega⟩
  rw [neg] at this
  unfold dot at hb
  omega
open Classical in
/-! sending -/
def sendF (m : Int) (road : List Step) (f : List Int) : List Int := road.foldl (fun f p => f.set p.t (f.getD p.t 0 + p.w * m)) f
theorem sendF_len (m : Int) : ∀ (road : List Step) (f : List Int), (sendF m road f).length = f.length
  | [], f => rfl
  | p :: r, f => by
    show (sendF m r _).length = _
    rw [sendF_len m r, List.length_set]
theorem sendF_ne (m : Int) {k : Nat} : ∀ (road : List Step) (f : List Int), k ∉ road.map Step.t → (sendF m road f).getD k 0 = f.getD k 0
  | [], f, h => rfl
  | p :: r, f, h => by
    have h1 : k ≠ p.t := fun z => h (by simp [z])
    show (sendF m r _).getD k 0 = _
    rw [sendF_ne m r _ (fun z => h (by simp at z ⊢; exact .inr z))]
    rw [List.getD_eq_getElem?_getD, List.getElem?_set_ne (Ne.symm h1), ← List.getD_eq_getElem?_getD]
theorem sendF_at (m : Int) {p : Step} : ∀ (road : List Step) (f : List Int), (road.map Step.t).Nodup → p ∈ road → p.t < f.length → (sendF m road f).getD p.t 0 = f.getD p.t 0 + p.w * m
  | [], f, h, hp, _ => by simp at hp
  | q :: r, f, h, hp, hl => by
    have nd := List.nodup_cons.mp (show (q.t :: r.map Step.t).Nodup from h)
    show (sendF m r _).getD p.t 0 = _
    rcases List.mem_cons.mp hp with rfl | hp
    · rw [sendF_ne m r _ nd.1, List.getD_eq_getElem?_getD, List.getElem?_set_self hl]
      rfl
    · have hne : q.t ≠ p.t := fun z => nd.1 (by rw [z]; exact List.mem_map_of_mem hp)
      rw [sendF_at m r _ nd.2 hp (by rw [List.length_set]; exact hl)]
      rw [List.getD_eq_getElem?_getD, List.getElem?_set_ne hne, ← List.getD_eq_getElem?_getD]
def tele (lam : Nat → Int) (l : List Step) : Int := (l.map fun p => lam p.e - lam p.s).sum
theorem tele_append (lam : Nat → Int) (a b : List Step) : tele lam (a ++ b) = tele lam a + tele lam b := by
  unfold tele; rw [List.map_append, List.sum_append_int]
theorem Back.tele {S : List Step} {st : Nat → Prop} {G : Nat → Option Int} {C : Nat → Option Step} (I : LInv S st G C) (lam : Nat → Int) {v u : Nat} {l : List Step} (h : Back C v u l) : tele lam l.reverse = lam v - lam u := by
  induction h with
  | nil => show (0 : Int) = _; omega
  | @cons v u p l e _ ih =>
    rw [List.reverse_cons, tele_append, ih]
    have := (I.c _ _ e).2.1
    show lam p.s - lam u + (lam p.e - lam p.s + 0) = _
    rw [this]; omega
theorem sendF_lack (lam : Nat → Int) (m : Int) {ts : List Tie} {f0 : List Int} : ∀ (road : List Step) (f : List Int), (∀ p ∈ road, p ∈ stepsOf ts f0) → f.length = ts.length → lack lam ts (sendF m road f) = lack lam ts f - m * tele lam road
  | [], f, h, hl => by
    show lack lam ts f = _ - m * 0
    omega
  | p :: r, f, h, hl => by
    show lack lam ts (sendF m r _) = _
    rw [sendF_lack lam m r _ (fun q hq => h q (by simp [hq])) (by rw [List.length_set]; exact hl)]
    obtain ⟨k, t, e, hp⟩ := mem_stepsOf.mp (h p (by simp))
    have hk := (List.getElem?_eq_some_iff.mp e).1
    have ht : p.t = k := by rcases hp with rfl | ⟨_, rfl⟩ <;> rfl
    show lack lam ts (f.set p.t (f.getD p.t 0 + p.w * m)) - _ = _
    rw [ht, lack_set lam _ ts f k t e (by omega)]
    show _ = _ - m * ((lam p.e - lam p.s) + tele lam r)
    rcases hp with rfl | ⟨_, rfl⟩
    · show _ - (f.getD k 0 + 1 * m - f.getD k 0) * (lam t.o - lam t.i) - _ = _ - m * ((lam t.o - lam t.i) + _)
      grind
    · show _ - (f.getD k 0 + -1 * m - f.getD k 0) * (lam t.o - lam t.i) - _ = _ - m * ((lam t.i - lam t.o) + _)
      grind
theorem sum_ge {l : List Int} (h : ∀ x ∈ l, 0 ≤ x) : 0 ≤ l.sum ∧ ∀ x ∈ l, x ≤ l.sum := by
  induction l with
  | nil => exact ⟨Int.le_refl _, fun x hx => by simp at hx⟩
  | cons y r ih =>
    obtain ⟨h1, h2⟩ := ih fun x hx => h x (by simp [hx])
    have h0 := h y (by simp)
    refine ⟨by rw [List.sum_cons]; omega, fun x hx => ?_⟩
    rw [List.sum_cons]
    rcases List.mem_cons.mp hx with rfl | hx
    · omega
    · have := h2 x hx; omega
/-- the road of the walk -/
structure Road (ts : List Tie) (f : List Int) (G : Nat → Option Int) (C : Nat → Option Step) (v u : Nat) (l : List Step) : Prop where
  back : Back C v u l
  root : C u = none
  inS : ∀ p ∈ l, p ∈ stepsOf ts f ∧ C p.e = some p
  ndt : (l.map Step.t).Nodup
open Classical in
/-- once sent, all stands again -/
theorem Send.next {n : Nat} {ts : List Tie} {f needs : List Int} (I : Send n ts f needs) {st : Nat → Prop} {G : Nat → Option Int} {C : Nat → Option Step} (L : LInv (stepsOf ts f) st G C) (hs : Stable (stepsOf ts f) G) {v u : Nat} {l : List Step} (R : Road ts f G C v u l) {a b m : Int}
    (eu : needs[u]? = some a) (ev : needs[v]? = some b) (ha : a < 0) (hb : 0 < b) (hm : 0 < m) (hma : m ≤ -a) (hmb : m ≤ b) (hmr : ∀ p ∈ l, p.w < 0 → m ≤ f.getD p.t 0) :
    Send n ts (sendF m l.reverse f) ((needs.set u (a + m)).set v (b - m)) ∧ mass ((needs.set u (a + m)).set v (b - m)) < mass needs := by
  have huv : u ≠ v := fun z => by rw [z, ev] at eu; cases eu; omega
  have hul : u < needs.length := (List.getElem?_eq_some_iff.mp eu).1
  have hvl : v < needs.length := (List.getElem?_eq_some_iff.mp ev).1
  have gu : needs.getD u 0 = a := by rw [List.getD_eq_getElem?_getD, eu]; rfl
  have gv : (needs.set u (a + m)).getD v 0 = b := by rw [List.getD_eq_getElem?_getD, List.getElem?_set_ne huv, ev]; rfl
  have gv0 : needs.getD v 0 = b := by rw [List.getD_eq_getElem?_getD, ev]; rfl
  have ndr : (l.reverse.map Step.t).Nodup := by
    rw [List.map_reverse]; exact List.pairwise_reverse.mpr (List.Pairwise.imp (fun h => Ne.symm h) R.ndt)
  have tl : ∀ p ∈ l, p.t < f.length := fun p hp => by
    obtain ⟨k, t, e, h⟩ := mem_stepsOf.mp (R.inS p hp).1
    have := (List.getElem?_eq_some_iff.mp e).1
    rcases h with rfl | ⟨_, rfl⟩ <;> (rw [I.len]; exact this)
  have at' : ∀ k, (k ∉ l.map Step.t ∧ (sendF m l.reverse f).getD k 0 = f.getD k 0) ∨ ∃ p ∈ l, p.t = k ∧ (sendF m l.reverse f).getD k 0 = f.getD k 0 + p.w * m := fun k => by
    by_cases hk : k ∈ l.map Step.t
    · obtain ⟨p, hp, rfl⟩ := List.mem_map.mp hk
      exact .inr ⟨p, hp, rfl, sendF_at m _ _ ndr (by simpa using hp) (tl p hp)⟩
    · exact .inl ⟨hk, sendF_ne m _ _ (by rw [List.map_reverse]; simpa using hk)⟩
  refine ⟨⟨by rw [sendF_len, I.len], by rw [List.length_set, List.length_set, I.nlen], fun k => ?_, fun lam => ?_, ?_⟩, ?_⟩
  · rcases at' k with ⟨_, e⟩ | ⟨p, hp, rfl, e⟩
    · rw [e]; exact I.pos k
    · rw [e]
      have h0 := I.pos p.t
      obtain ⟨k, t, ek, h⟩ := mem_stepsOf.mp (R.inS p hp).1
      rcases h with rfl | ⟨_, rfl⟩
      · show 0 ≤ _ + 1 * m
        omega
      · have := hmr _ hp (by show (-1 : Int) < 0; omega)
        show 0 ≤ _ + -1 * m
        omega
  · rw [dot_set (by rw [List.length_set]; exact hvl), dot_set hul, gu, gv, I.bal, sendF_lack lam m (ts := ts) (f0 := f) _ _ (fun p hp => (R.inS p (by simpa using hp)).1) I.len, R.back.tele L]
    grind
  · obtain ⟨π, P⟩ := I.pap
    obtain ⟨hk, hsl⟩ := pot_iff.mp P
    let g : Nat → Int := fun v => (G v).getD 0
    let M : Int := (ts.map fun t => ((π t.i + t.l - g t.o).natAbs : Int)).sum
    have hM : ∀ t ∈ ts, π t.i + t.l - g t.o ≤ M := fun t ht => by
      have := (sum_ge (l := ts.map fun t => ((π t.i + t.l - g t.o).natAbs : Int)) (fun x hx => by
        obtain ⟨t, _, rfl⟩ := List.mem_map.mp hx
        omega)).2 _ (List.mem_map_of_mem ht)
      show _ ≤ (ts.map fun t => ((π t.i + t.l - g t.o).natAbs : Int)).sum
      omega
    let Rr : Nat → Prop := fun v => ∃ g, G v = some g
    have cl : ∀ p ∈ stepsOf ts f, Rr p.s → Rr p.e ∧ g p.s + p.g ≤ g p.e := fun p hp ⟨x, e⟩ => by
      obtain ⟨y, e', k⟩ := hs p hp x ⟨x, e, Int.le_refl _⟩
      refine ⟨⟨y, e'⟩, ?_⟩
      show (G p.s).getD 0 + _ ≤ (G p.e).getD 0
      rw [e, e']
      exact k
    refine ⟨fun v => if Rr v then g v + M else π v, pot_iff.mpr ⟨fun t ht => ?_, fun k t e hf => ?_⟩⟩
    · obtain ⟨k, e⟩ := List.getElem?_of_mem ht
      have h1 := cl (fwd k t) (mem_stepsOf.mpr ⟨k, t, e, .inl rfl⟩)
      have h2 := hk t ht
      have h3 := hM t ht
      by_cases hi : Rr t.i
      · obtain ⟨ho, hg⟩ := h1 hi
        have ho' : Rr t.o := ho
        have hg' : g t.i + t.l ≤ g t.o := hg
        simp only [if_pos hi, if_pos ho']
        omega
      · by_cases ho : Rr t.o
        · simp only [if_neg hi, if_pos ho]
          omega
        · simp only [if_neg hi, if_neg ho]
          exact h2
    · have h1 := cl (fwd k t) (mem_stepsOf.mpr ⟨k, t, e, .inl rfl⟩)
      have old : 0 < f.getD k 0 → (if Rr t.o then g t.o + M else π t.o) ≤ (if Rr t.i then g t.i + M else π t.i) + t.l := fun hf => by
        have h2 := cl (bwd k t) (mem_stepsOf.mpr ⟨k, t, e, .inr ⟨hf, rfl⟩⟩)
        by_cases ho : Rr t.o
        · obtain ⟨hi, hg⟩ := h2 ho
          have hi' : Rr t.i := hi
          have hg' : g t.o + -t.l ≤ g t.i := hg
          rw [if_pos ho, if_pos hi']
          omega
        · have hi : ¬ Rr t.i := fun hi => ho (h1 hi).1
          rw [if_neg ho, if_neg hi]
          exact hsl k t e hf
      rcases at' k with ⟨_, ek⟩ | ⟨p, hp, rfl, ek⟩
      · rw [ek] at hf
        exact old hf
      · rw [ek] at hf
        obtain ⟨hpS, hC⟩ := R.inS p hp
        obtain ⟨k', t', ek', h⟩ := mem_stepsOf.mp hpS
        have hkt : p.t = k' := by rcases h with rfl | ⟨_, rfl⟩ <;> rfl
        rw [hkt, ek'] at e
        cases e
        rcases h with rfl | ⟨hfk, rfl⟩
        · obtain ⟨x, e1, e2⟩ := tight L hs hC
          have hi : Rr t.i := ⟨_, e1⟩
          have ho : Rr t.o := ⟨_, e2⟩
          have g1 : g t.i = x := by show (G t.i).getD 0 = x; rw [show G t.i = some x from e1]; rfl
          have g2 : g t.o = x + t.l := by show (G t.o).getD 0 = _; rw [show G t.o = some (x + t.l) from e2]; rfl
          show (if Rr t.o then _ else _) ≤ (if Rr t.i then _ else _) + _
          rw [if_pos ho, if_pos hi, g1, g2]
          omega
        · refine old hfk
  · have m1 := mass_set (a + m) needs u hul
    have m2 := mass_set (b - m) (needs.set u (a + m)) v (by rw [List.length_set]; exact hvl)
    rw [gu] at m1
    rw [gv] at m2
    omega
theorem Send.done {n : Nat} {ts : List Tie} {f needs : List Int} (I : Send n ts f needs) (h : ∀ x ∈ needs, x = 0) : Flow ts f := by
  refine ⟨I.len, I.pos, fun lam => ?_, ?_⟩
  · rw [← I.bal]
    have : needs = List.replicate needs.length 0 := List.eq_replicate_iff.mpr ⟨rfl, h⟩
    rw [this]
    exact dotF_zero lam _ _
  · obtain ⟨π, P⟩ := I.pap
    obtain ⟨h1, h2⟩ := pot_iff.mp P
    exact ⟨π, h1, h2⟩
/-! what the boxes need at first -/
def needAdd (needs : List Int) (t : Tie) : List Int := let a := needs.set t.i (needs.getD t.i 0 - t.w); a.set t.o (a.getD t.o 0 + t.w)
def needTo (n : Nat) (ts : List Tie) : List Int := ts.foldl needAdd (List.replicate n 0)
theorem needAdd_len (needs : List Int) (t : Tie) : (needAdd needs t).length = needs.length := by unfold needAdd; simp
theorem needFold (lam : Nat → Int) {n : Nat} : ∀ (ts : List Tie) (x : List Int), x.length = n → TiesIn n ts → dot lam (ts.foldl needAdd x) = dot lam x + lenOf ts lam ∧ (ts.foldl needAdd x).length = n
  | [], x, hx, _ => ⟨by show _ = _ + 0; simp, hx⟩
  | t :: ts, x, hx, h => by
    obtain ⟨hi, ho, _⟩ := h t (by simp)
    obtain ⟨h1, h2⟩ := needFold lam ts (needAdd x t) (by rw [needAdd_len]; exact hx) fun u hu => h u (by simp [hu])
    refine ⟨?_, h2⟩
    show dot lam (ts.foldl needAdd (needAdd x t)) = _
    rw [h1]
    unfold needAdd
    show dot lam ((x.set t.i _).set t.o _) + _ = _
    rw [dot_set (by rw [List.length_set]; omega), dot_set (by omega)]
    show _ = _ + (t.w * (lam t.o - lam t.i) + lenOf ts lam)
    grind
theorem Send.first {n : Nat} {ts : List Tie} (hT : TiesIn n ts) {π : Nat → Int} (hk : Keeps ts π) : Send n ts (List.replicate ts.length 0) (needTo n ts) := by
  have hz : ∀ k, (List.replicate ts.length (0 : Int)).getD k 0 = 0 := fun k => by
    rw [List.getD_eq_getElem?_getD, List.getElem?_replicate]
    split <;> rfl
  refine ⟨by simp, (needFold π ts _ (by simp) hT).2, fun k => by rw [hz]; exact Int.le_refl _, fun lam => ?_, π, pot_iff.mpr ⟨hk, fun k t e hf => ?_⟩⟩
  · rw [lack_zero]
    have := (needFold lam ts (List.replicate n 0) (by simp) hT).1
    unfold needTo
    rw [this]
    unfold dot
    rw [dotF_zero]
    show 0 + lenOf ts lam = lenOf ts lam
    omega
  · rw [hz] at hf
    omega
end L2

set_option Elab.async false
set_option linter.all false
set_option maxRecDepth 100000
namespace L2
open PySem PySem.Spec PyProof.Rows
def kindS (b : Bool) : Str := if b then "arrow" else "saying"
def tieV (t : Tie) : List V := [.str (kindS t.ar), .int t.pl, .int t.i, .int t.o, .int t.l, .int t.w]
def TieH (H : Hp) (p : Addr) (t : Tie) : Prop := H p = some (.tup (tieV t))
def TiesH (H : Hp) : List Addr → List Tie → Prop := Paired (TieH H)
def LTies (H : Hp) (a : Addr) (ts : List Tie) : Prop := ∃ pa : List Addr, H a = some (.lst (pa.map V.ref)) ∧ TiesH H pa ts
theorem TiesH.tu {H H' : Hp} {pa : List Addr} {ts : List Tie} (h : TiesH H pa ts) (s : Tu H H') : TiesH H' pa ts := Paired.mapP h fun p t q => s _ _ q
theorem TiesH.snoc {H : Hp} {pa : List Addr} {ts : List Tie} {p : Addr} {t : Tie} (h : TiesH H pa ts) (q : TieH H p t) : TiesH H (pa ++ [p]) (ts ++ [t]) := by
  induction h with
  | nil => exact .cons q .nil
  | cons a b ih => exact .cons a ih
theorem LTies.same {H H' : Hp} {a : Addr} {ts : List Tie} (h : LTies H a ts) (s : Same H H') : LTies H' a ts := let ⟨pa, h1, h2⟩ := h; ⟨pa, s _ _ h1, h2.tu s.tu⟩
noncomputable def arrTie (ends : List (Int × Int)) (i : Nat) (row : List Int) : List Tie :=
  if row.getD 0 0 = row.getD 1 0 then [] else
  [if turnB ends i = true then ⟨true, i, (row.getD 1 0).toNat, (row.getD 0 0).toNat, row.getD 2 0, row.getD 3 0⟩ else ⟨true, i, (row.getD 0 0).toNat, (row.getD 1 0).toNat, row.getD 2 0, row.getD 3 0⟩]
noncomputable def arrTies (rows : List (List Int)) : Nat → List Tie
  | 0 => []
  | i + 1 => arrTies rows i ++ (match rows[i]? with | some row => arrTie (endsOf rows) i row | none => [])
def sayTie (i : Nat) (row : List Int) : Tie := ⟨false, i, (row.getD 0 0).toNat, (row.getD 1 0).toNat, row.getD 2 0, 0⟩
def sayTies (rows : List (List Int)) : Nat → List Tie
  | 0 => []
  | i + 1 => sayTies rows i ++ (match rows[i]? with | some row => [sayTie i row] | none => [])
noncomputable def tiesOf (W : Web) : List Tie := arrTies W.arrows W.arrows.length ++ sayTies W.sayings W.sayings.length
end L2

set_option Elab.async false
set_option linter.all false
set_option maxRecDepth 100000
namespace L2
open PySem PySem.Spec PyProof.Rows
section
variable {X : Cx}
end
end L2

set_option Elab.async false
set_option linter.all false
set_option maxRecDepth 100000
namespace L2
open PySem PySem.Spec PyProof.Rows
theorem ixN_nat {n j : Nat} (h : j < n) : ixN n (j : Int) = some j := by
  unfold ixN
  rw [if_pos (by omega), if_pos (by omega)]
  rfl
def optV : Option Int → V
  | none => .non
  | some i => .int i
def stepV (p : Step) : List V := [.int p.s, .int p.e, .int p.g, .int p.t, .int p.w]
def StepH (H : Hp) (a : Addr) (p : Step) : Prop := H a = some (.tup (stepV p))
def StepsHs (H : Hp) : List Addr → List Step → Prop := Paired (StepH H)
def LSteps (H : Hp) (a : Addr) (S : List Step) : Prop := ∃ pa : List Addr, H a = some (.lst (pa.map V.ref)) ∧ StepsHs H pa S
theorem StepsHs.tu {H H' : Hp} {pa : List Addr} {S : List Step} (h : StepsHs H pa S) (s : Tu H H') : StepsHs H' pa S := Paired.mapP h fun p t q => s _ _ q
theorem StepsHs.snoc {H : Hp} {pa : List Addr} {S : List Step} {p : Addr} {t : Step} (h : StepsHs H pa S) (q : StepH H p t) : StepsHs H (pa ++ [p]) (S ++ [t]) := by
  induction h with
  | nil => exact .cons q .nil
  | cons a b ih => exact .cons a ih
theorem LSteps.same {H H' : Hp} {a : Addr} {S : List Step} (h : LSteps H a S) (s : Same H H') : LSteps H' a S := let ⟨pa, h1, h2⟩ := h; ⟨pa, s _ _ h1, h2.tu s.tu⟩
def CamV (H : Hp) (v : V) : Option Step → Prop
  | none => v = .non
  | some p => ∃ tp q, v = .ref tp ∧ H tp = some (.tup [.ref q, .int p.s]) ∧ StepH H q p
theorem CamV.tu {H H' : Hp} {v : V} : ∀ {o : Option Step}, CamV H v o → Tu H H' → CamV H' v o
  | none, h, _ => h
  | some p, ⟨tp, q, e, h1, h2⟩, s => ⟨tp, q, e, s _ _ h1, s _ _ h2⟩
def CamH (H : Hp) (n : Nat) (vs : List V) (C : Nat → Option Step) : Prop := vs.length = n ∧ ∀ i v, vs[i]? = some v → CamV H v (C i)
theorem CamH.tu {H H' : Hp} {n : Nat} {vs : List V} {C : Nat → Option Step} (h : CamH H n vs C) (s : Tu H H') : CamH H' n vs C := ⟨h.1, fun i v e => (h.2 i v e).tu s⟩
theorem CamH.set {H : Hp} {n : Nat} {vs : List V} {C : Nat → Option Step} {p : Step} {tp q : Addr} (h : CamH H n vs C) (h1 : H tp = some (.tup [.ref q, .int p.s])) (h2 : StepH H q p) (e : Nat) : CamH H n (vs.set e (.ref tp)) (up C e (some p)) := by
  refine ⟨by rw [List.length_set]; exact h.1, fun i v ei => ?_⟩
  by_cases hi : i = e
  · subst hi
    rw [up_same]
    have hl : i < vs.length := by have := (List.getElem?_eq_some_iff.mp ei).1; rw [List.length_set] at this; exact this
    rw [List.getElem?_set_self hl] at ei
    cases ei
    exact ⟨tp, q, rfl, h1, h2⟩
  · rw [List.getElem?_set_ne (Ne.symm hi)] at ei
    rw [up_ne hi]
    exact h.2 i v ei
def Gf (gl : List (Option Int)) : Nat → Option Int := fun v => gl.getD v none
/-- what stands of the walks -/
structure LongH (H : Hp) (GA CA : Addr) (n : Nat) (gl : List (Option Int)) (C : Nat → Option Step) : Prop where
  g : H GA = some (.lst (gl.map optV))
  len : gl.length = n
  c : ∃ vs, H CA = some (.lst vs) ∧ CamH H n vs C
  ne : GA ≠ CA
theorem LongH.same {H H' : Hp} {GA CA : Addr} {n : Nat} {gl : List (Option Int)} {C : Nat → Option Step} (h : LongH H GA CA n gl C) (s : Same H H') : LongH H' GA CA n gl C := by
  obtain ⟨vs, h1, h2⟩ := h.c
  exact ⟨s _ _ h.g, h.len, ⟨vs, s _ _ h1, h2.tu s.tu⟩, h.ne⟩
end L2

set_option Elab.async false
set_option linter.all false
set_option maxRecDepth 100000
namespace L2
open PySem PySem.Spec PyProof.Rows
/-- boxes hang together by ties -/
inductive Hang (ts : List Tie) : Nat → Nat → Prop
  | refl {v} : Hang ts v v
  | fwd {v t} : t ∈ ts → Hang ts v t.i → Hang ts v t.o
  | bwd {v t} : t ∈ ts → Hang ts v t.o → Hang ts v t.i
theorem Hang.back {ts : List Tie} {f : List Int} {st : Nat → Prop} {G : Nat → Option Int} {C : Nat → Option L2.Step} (I : LInv (stepsOf ts f) st G C) {v u : Nat} {l : List L2.Step} (h : Back C v u l) : ∀ {x}, Hang ts x v → Hang ts x u := by
  induction h with
  | nil => exact fun h => h
  | @cons v u p l e _ ih =>
    intro x hx
    refine ih ?_
    obtain ⟨h1, h2, _⟩ := I.c _ _ e
    obtain ⟨k, t, ek, hp⟩ := mem_stepsOf.mp h1
    have ht := List.mem_of_getElem? ek
    subst h2
    rcases hp with rfl | ⟨_, rfl⟩
    · exact .bwd ht hx
    · exact .fwd ht hx
theorem Chn.mem {S : List L2.Step} {v u : Nat} {l : List L2.Step} (h : Chn S v u l) : ∀ p ∈ l, p ∈ S := by
  induction h with
  | nil => intro p hp; simp at hp
  | cons hp _ ih =>
    intro q hq
    rcases List.mem_cons.mp hq with rfl | hq
    · exact hp
    · exact ih q hq
theorem gsum_le {n : Nat} {ts : List Tie} {f : List Int} (hT : TiesIn n ts) : ∀ {l : List L2.Step}, (∀ p ∈ l, p ∈ stepsOf ts f) → gsum l ≤ 9 * l.length
  | [], _ => by show (0 : Int) ≤ _; simp
  | p :: l, h => by
    have := gsum_le (n := n) hT (l := l) fun q hq => h q (by simp [hq])
    obtain ⟨k, t, e, hp⟩ := mem_stepsOf.mp (h p (by simp))
    obtain ⟨_, _, _, _, h1, h2⟩ := hT t (List.mem_of_getElem? e)
    have hg : p.g ≤ 9 := by
      rcases hp with rfl | ⟨_, rfl⟩
      · exact h2
      · show -t.l ≤ 9; omega
    rw [gsum_cons, List.length_cons]
    omega
/-- the told layering -/
structure Told (n : Nat) (ts : List Tie) (lam : Nat → Int) : Prop where
  keeps : Keeps ts lam
  pap : ∃ f, Flow ts f ∧ Slack ts f lam
  pos : ∀ v, v < n → 0 ≤ lam v
  top : ∀ v, v < n → lam v ≤ 9 * n
  lot : ∀ v, v < n → ∃ u, u < n ∧ lam u = 0 ∧ Hang ts v u
theorem Told.le {n : Nat} {ts : List Tie} {lam mu : Nat → Int} (T : Told n ts lam) (h : Keeps ts mu) : lenOf ts lam ≤ lenOf ts mu := by
  obtain ⟨f, F, S⟩ := T.pap
  have := F.eq T.keeps S
  have := F.le h
  omega
theorem Told.worth {n : Nat} {ts : List Tie} {lam : Nat → Int} {f : List Int} (T : Told n ts lam) (F : Flow ts f) : worthOf ts f = lenOf ts lam := by
  obtain ⟨g, G, S⟩ := T.pap
  have := G.eq T.keeps S
  have := F.same G
  omega
def gains (gl : List (Option Int)) : Nat → Int := fun v => (Gf gl v).getD 0
/-- a ring of ties that gains -/
structure Gain (ts : List Tie) (fl : List L2.Step) : Prop where
  ne : fl ≠ []
  ring : ∃ (C : Nat → Option L2.Step) (b : Nat), Back C b b fl ∧ (∀ v p, C v = some p → p ∈ stepsOf ts (List.replicate ts.length 0) ∧ p.e = v) ∧ (fl.map L2.Step.s).Nodup
  sum : 0 < gsum fl
theorem Gain.clash {ts : List Tie} {fl : List L2.Step} (G : Gain ts fl) (π : Nat → Int) : ¬ Keeps ts π := by
  intro h
  obtain ⟨C, b, hb, hc, _⟩ := G.ring
  have P : Pot (stepsOf ts (List.replicate ts.length 0)) π := pot_iff.mpr ⟨h, fun k t e hf => by
    rw [List.getD_eq_getElem?_getD, List.getElem?_replicate] at hf
    split at hf <;> simp at hf⟩
  have key : ∀ {v u : Nat} {l : List L2.Step}, Back C v u l → π u + gsum l ≤ π v := by
    intro v u l h
    induction h with
    | nil => show _ + 0 ≤ _; omega
    | cons e _ ih =>
      obtain ⟨h1, h2⟩ := hc _ _ e
      have := P _ h1
      rw [h2] at this
      rw [gsum_cons]
      omega
  have := key hb
  have := G.sum
  omega
theorem Back.last {C : Nat → Option L2.Step} {v u : Nat} {l : List L2.Step} (h : Back C v u l) : l ≠ [] → ∃ l' p, l = l' ++ [p] ∧ p.s = u := by
  induction h with
  | nil => intro z; exact absurd rfl z
  | @cons v u p l e hb ih =>
    intro _
    by_cases hl : l = []
    · subst hl
      cases hb
      exact ⟨[], p, rfl, rfl⟩
    · obtain ⟨l', q, rfl, eq⟩ := ih hl
      exact ⟨p :: l', q, rfl, eq⟩
def ClashFree (ts : List Tie) : Prop := ∃ π, Keeps ts π
end L2

set_option Elab.async false
set_option linter.all false
set_option maxRecDepth 100000
namespace L2
open PySem PySem.Spec PyProof.Rows
/-- a def with defaults: they lie in a tuple -/
structure FunD (K : PySem.W.Frag) (x qual : Str) (st : Stmt) (f : Addr) (fd : FuncData) (its : Array Value) : Prop where
  ex : ∃ (oc : Value) (od : Option Addr) (kV doc pm : Value) (an : Option Addr) (cdv ct : Value) (osl : Array (Option Value)) (dt : Addr) (ot : Obj) (nt : Nat),
    fd = PySem.W.fnOf x qual (defArgs st) (defBody st) (defScope st) (.ref dt) kV doc pm an cdv ct ∧ K.lookup f = some ⟨oc, od, .func fd, osl⟩ ∧ PySem.W.codeIn K cdv qual = true ∧ K.lookup dt = some ot ∧ ot.data = .seq its nt
  kp : PySem.W.keepIn K (.ref f) = true
section
variable {P : Program} {w : World} {K : PySem.W.Frag} {mg : Str → Option Value} {base : Heap}
theorem FunD.ok {x qual : Str} {st : Stmt} {f : Addr} {fd : FuncData} {its : Array Value} {N ps : List Str} {k : Nat} {sp : Sp} (F : FunD K x qual st f fd its) (S : FnScope N ps (defScope st)) (len : ∀ vs H Q E, sp vs H Q E → vs.length = ps.length)
    (hbody : ∀ (cdv : Value) (A : Around) (outer : List Env) (s : Shared) (H : Hp) (vs : List V) (Q : VK) (E : XK), Room k (A.deeper (envOfC qual (defScope st) s.heap.objs.size f cdv)) → sp vs H Q E →
      ∃ t, PSs (cxOf CX0 P w K mg base N qual (defScope st) f cdv A outer s H E).nox (defBody st) t ∧ t { nx := fun _ H' => Q .non H', rt := Q } (start N vs) H) : FnOk P w K mg base CX0 (k + 1) f fd ps sp := by
  obtain ⟨oc, od, kV, doc, pm, an, cdv, ct, osl, dt, ot, nt, rfl, lk, hcd, _, _⟩ := F.ex
  refine fn_of lk hcd S len fun A outer s H vs Q E hr hsp => ?_
  obtain ⟨t, h, q⟩ := hbody cdv A outer s H vs Q E hr hsp
  exact ⟨t, h.nox, q⟩
theorem funD_mk {x qual : Str} {st : Stmt} {f dt : Addr} {oc : Value} {od an : Option Addr} {osl : Array (Option Value)} {kV doc pm cdv ct : Value} {ot : Obj} {its : Array Value} {nt : Nat} (l : K.lookup f = some ⟨oc, od, .func (PySem.W.fnOf x qual (defArgs st) (defBody st) (defScope st) (.ref dt) kV doc pm an cdv ct), osl⟩)
    (c : PySem.W.codeIn K cdv qual = true) (k : PySem.W.keepIn K (.ref f) = true) (q : K.lookup dt = some ot) (qd : ot.data = .seq its nt) : FunD K x qual st f (PySem.W.fnOf x qual (defArgs st) (defBody st) (defScope st) (.ref dt) kV doc pm an cdv ct) its := ⟨⟨oc, od, kV, doc, pm, an, cdv, ct, osl, dt, ot, nt, rfl, l, c, q, qd⟩, k⟩
/-- its arguments all told by place -/
theorem FunD.b2 {x qual : Str} {st : Stmt} {f : Addr} {fd : FuncData} {its : Array Value} {a b : Str} (F : FunD K x qual st f fd its)
    (h : ∀ (dt : Addr) (kV doc pm : Value) (an : Option Addr) (cdv ct : Value) (u v : Value), ∃ k, bindArgs (PySem.W.fnOf x qual (defArgs st) (defBody st) (defScope st) (.ref dt) kV doc pm an cdv ct) ⟨[u, v], []⟩ = (seqItems? (.ref dt) >>= k) ∧ k (some its) = pure [(a, u), (b, v)]) : Binds K fd [a, b] [] := fun s us X hl => by
  obtain ⟨oc, od, kV, doc, pm, an, cdv, ct, osl, dt, ot, nt, rfl, lk, hcd, q, qd⟩ := F.ex
  match us, hl with
  | [u, v], _ =>
    obtain ⟨k, h1, h2⟩ := h dt kV doc pm an cdv ct u v
    exact PySem.W.binds_K X rfl q qd h1 h2
theorem FunD.b1 {x qual : Str} {st : Stmt} {f : Addr} {fd : FuncData} {d : Value} {a b : Str} (F : FunD K x qual st f fd #[d])
    (h : ∀ (dt : Addr) (kV doc pm : Value) (an : Option Addr) (cdv ct : Value) (u : Value), ∃ k, bindArgs (PySem.W.fnOf x qual (defArgs st) (defBody st) (defScope st) (.ref dt) kV doc pm an cdv ct) ⟨[u], []⟩ = (seqItems? (.ref dt) >>= k) ∧ k (some #[d]) = pure [(a, u), (b, d)]) : Binds K fd [a, b] [d] := fun s us X hl => by
  obtain ⟨oc, od, kV, doc, pm, an, cdv, ct, osl, dt, ot, nt, rfl, lk, hcd, q, qd⟩ := F.ex
  have hl' : us.length = 1 := by simpa using hl
  match us, hl' with
  | [u], _ =>
    obtain ⟨k, h1, h2⟩ := h dt kV doc pm an cdv ct u
    exact PySem.W.binds_K X rfl q qd h1 h2
def kOne {α : Type} : List α → List α → List α
  | [u], [v] => [u, v]
  | _, _ => []
theorem kOne_vals : ∀ {vs : List V} {us : List Value} {zs : List V} {ws : List Value}, Vals vs us → Vals zs ws → Vals (kOne vs zs) (kOne us ws)
  | [_], [_], [_], [_], .cons a .nil, .cons b .nil => .cons a (.cons b .nil)
  | [], [], _, _, .nil, _ => .nil
  | _ :: _ :: _, _ :: _ :: _, _, _, .cons _ (.cons _ _), _ => .nil
  | [_], [_], [], [], .cons _ .nil, .nil => .nil
  | [_], [_], _ :: _ :: _, _ :: _ :: _, .cons _ .nil, .cons _ (.cons _ _) => .nil
theorem FunD.bk {x qual : Str} {st : Stmt} {f : Addr} {fd : FuncData} {its : Array Value} {a b : Str} (F : FunD K x qual st f fd its)
    (h : ∀ (dt : Addr) (kV doc pm : Value) (an : Option Addr) (cdv ct : Value) (u v : Value), ∃ k, bindArgs (PySem.W.fnOf x qual (defArgs st) (defBody st) (defScope st) (.ref dt) kV doc pm an cdv ct) ⟨[u], [(b, v)]⟩ = (seqItems? (.ref dt) >>= k) ∧ k (some its) = pure [(a, u), (b, v)])
    : KBinds K fd [a, b] [b] kOne kOne := by
  refine ⟨fun s us ws X hl => ?_, kOne_vals⟩
  obtain ⟨oc, od, kV, doc, pm, an, cdv, ct, osl, dt, ot, nt, rfl, lk, hcd, q, qd⟩ := F.ex
  match us, ws, hl with
  | [u], [v], _ =>
    obtain ⟨k, h1, h2⟩ := h dt kV doc pm an cdv ct u v
    exact PySem.W.binds_K X rfl q qd h1 h2
end
end L2

set_option Elab.async false
set_option linter.all false
set_option maxRecDepth 100000
set_option maxHeartbeats 1000000
namespace W1
open PySem PySem.Spec PyProof.Rows L2
def top (i : Nat) : Stmt := PySem.Challenge.pw_layerink_k02_webs_refused_at_every_door.main.body.getD i (.Pass ⟨0, 0, 0, 0⟩)
abbrev s_is_name : Stmt := top 28
abbrev s_are_names : Stmt := top 29
abbrev s_is_arrow : Stmt := top 30
abbrev s_is_saying : Stmt := top 31
abbrev s_is_web : Stmt := top 32
abbrev s_need_web : Stmt := top 33
abbrev s_boxes_of : Stmt := top 34
abbrev s_without : Stmt := top 35
abbrev s_chains : Stmt := top 38
abbrev s_rows : Stmt := top 39
abbrev s_turned : Stmt := top 49
abbrev s_ring : Stmt := top 50
abbrev s_knots : Stmt := top 51
abbrev s_gaining_ring : Stmt := top 55
abbrev s_ties : Stmt := top 61
abbrev s_clash : Stmt := top 62
abbrev s_ties_to_keep : Stmt := top 63
abbrev s_layers : Stmt := top 64
abbrev s_flow : Stmt := top 65
abbrev s_length : Stmt := top 66
abbrev s_worth : Stmt := top 67
abbrev s_widths : Stmt := top 79
abbrev s_picture : Stmt := top 104
abbrev s_state_of : Stmt := top 107
abbrev s_web_text : Stmt := top 138
abbrev s_board_of : Stmt := top 141
abbrev s__law_bag : Stmt := top 143
abbrev s__law_bent_web : Stmt := top 144
abbrev s__law_drawn_web : Stmt := top 145
abbrev s__law_good_web : Stmt := top 146
abbrev s__law_names : Stmt := top 147
abbrev s__law_odd : Stmt := top 148
abbrev s__law_pull : Stmt := top 149
abbrev s__law_web_door : Stmt := top 150
abbrev s__law_word : Stmt := top 151
abbrev s_law : Stmt := top 152
theorem sc_is_name : FnScope ["name", "sign"] ["name"] (defScope s_is_name) := ⟨rfl, rfl, rfl, by decide +kernel, rfl, by decide +kernel, by decide +kernel⟩
theorem sc_are_names : FnScope ["names", "name"] ["names"] (defScope s_are_names) := ⟨rfl, rfl, rfl, by decide +kernel, rfl, by decide +kernel, by decide +kernel⟩
theorem sc_is_arrow : FnScope ["arrow", "boxes", "one", "other", "least", "weight"] ["arrow", "boxes"] (defScope s_is_arrow) := ⟨rfl, rfl, rfl, by decide +kernel, rfl, by decide +kernel, by decide +kernel⟩
theorem sc_is_saying : FnScope ["saying", "boxes", "one", "other", "least"] ["saying", "boxes"] (defScope s_is_saying) := ⟨rfl, rfl, rfl, by decide +kernel, rfl, by decide +kernel, by decide +kernel⟩
theorem sc_is_web : FnScope ["web", "names", "arrows", "sayings", "boxes", "arrow", "saying"] ["web"] (defScope s_is_web) := ⟨rfl, rfl, rfl, by decide +kernel, rfl, by decide +kernel, by decide +kernel⟩
theorem sc_need_web : FnScope ["web"] ["web"] (defScope s_need_web) := ⟨rfl, rfl, rfl, by decide +kernel, rfl, by decide +kernel, by decide +kernel⟩
theorem sc_boxes_of : FnScope ["web", "arrow", "arrows"] ["web", "arrow"] (defScope s_boxes_of) := ⟨rfl, rfl, rfl, by decide +kernel, rfl, by decide +kernel, by decide +kernel⟩
theorem sc_without : FnScope ["web", "arrows", "names", "before", "sayings", "left", "place", "arrow"] ["web", "arrows"] (defScope s_without) := ⟨rfl, rfl, rfl, by decide +kernel, rfl, by decide +kernel, by decide +kernel⟩
theorem sc_chains : FnScope ["web", "layering", "place", "arrow"] ["web", "layering"] (defScope s_chains) := ⟨rfl, rfl, rfl, by decide +kernel, rfl, by decide +kernel, by decide +kernel⟩
theorem sc_rows : FnScope ["web", "layering", "some", "told", "layer", "box", "chain", "bend"] ["web", "layering"] (defScope s_rows) := ⟨rfl, rfl, rfl, by decide +kernel, rfl, by decide +kernel, by decide +kernel⟩
theorem sc_turned : FnScope ["web"] ["web"] (defScope s_turned) := ⟨rfl, rfl, rfl, by decide +kernel, rfl, by decide +kernel, by decide +kernel⟩
theorem sc_ring : FnScope ["web", "arrow", "rings"] ["web", "arrow"] (defScope s_ring) := ⟨rfl, rfl, rfl, by decide +kernel, rfl, by decide +kernel, by decide +kernel⟩
theorem sc_knots : FnScope ["web", "count", "steps", "name", "place", "one", "other", "least", "weight", "reach", "box", "told", "knot", "mate"] ["web"] (defScope s_knots) := ⟨rfl, rfl, rfl, by decide +kernel, rfl, by decide +kernel, by decide +kernel⟩
theorem sc_ties : FnScope ["web", "names", "arrows", "sayings", "rings", "told", "place", "one", "other", "least", "weight"] ["web"] (defScope s_ties) := ⟨rfl, rfl, rfl, by decide +kernel, rfl, by decide +kernel, by decide +kernel⟩
theorem sc_clash : FnScope ["web"] ["web"] (defScope s_clash) := ⟨rfl, rfl, rfl, by decide +kernel, rfl, by decide +kernel, by decide +kernel⟩
theorem sc_ties_to_keep : FnScope ["web", "told", "places"] ["web"] (defScope s_ties_to_keep) := ⟨rfl, rfl, rfl, by decide +kernel, rfl, by decide +kernel, by decide +kernel⟩
theorem sc_layers : FnScope ["web", "some"] ["web"] (defScope s_layers) := ⟨rfl, rfl, rfl, by decide +kernel, rfl, by decide +kernel, by decide +kernel⟩
theorem sc_flow : FnScope ["web", "some"] ["web"] (defScope s_flow) := ⟨rfl, rfl, rfl, by decide +kernel, rfl, by decide +kernel, by decide +kernel⟩
theorem sc_length : FnScope ["web", "layering", "some", "kind", "place", "one", "other", "least", "weight"] ["web", "layering"] (defScope s_length) := ⟨rfl, rfl, rfl, by decide +kernel, rfl, by decide +kernel, by decide +kernel⟩
theorem sc_worth : FnScope ["web", "flow", "much", "tie"] ["web", "flow"] (defScope s_worth) := ⟨rfl, rfl, rfl, by decide +kernel, rfl, by decide +kernel, by decide +kernel⟩
theorem sc_widths : FnScope ["web", "layering", "names", "arrows", "sayings", "signs", "name", "above", "below", "one", "other", "least", "weight", "box"] ["web", "layering"] (defScope s_widths) := ⟨rfl, rfl, rfl, by decide +kernel, rfl, by decide +kernel, by decide +kernel⟩
theorem sc_picture : FnScope ["web", "layering", "rows", "links", "sizes", "columns", "ends", "row", "some", "item", "column", "wide", "gaps", "lines", "number", "line"] ["web", "layering", "rows"] (defScope s_picture) := ⟨rfl, rfl, rfl, by decide +kernel, rfl, by decide +kernel, by decide +kernel⟩
theorem sc_state_of : FnScope ["web", "names", "arrows", "sayings", "numbered_arrows", "place", "one", "other", "least", "weight", "numbered_sayings"] ["web"] (defScope s_state_of) := ⟨rfl, rfl, rfl, by decide +kernel, rfl, by decide +kernel, by decide +kernel⟩
theorem sc_web_text : FnScope ["web", "names", "arrows", "sayings", "parts", "one", "other", "least", "weight"] ["web"] (defScope s_web_text) := ⟨rfl, rfl, rfl, by decide +kernel, rfl, by decide +kernel, by decide +kernel⟩
theorem sc_board_of : FnScope ["web", "board"] ["web"] (defScope s_board_of) := ⟨rfl, rfl, rfl, by decide +kernel, rfl, by decide +kernel, by decide +kernel⟩
theorem sc__law_bag : FnScope ["_law_script", "_law_cells", "_law_one", "_law_salt"] ["_law_script"] (defScope s__law_bag) := ⟨rfl, rfl, rfl, by decide +kernel, rfl, by decide +kernel, by decide +kernel⟩
theorem sc__law_bent_web : FnScope ["_law_bag_here", "_law_web", "_law_names_here", "_law_arrows", "_law_told_now", "_law_side_way", "_law_some", "_law_at", "_law_row"] ["_law_bag_here", "_law_web"] (defScope s__law_bent_web) := ⟨rfl, rfl, rfl, by decide +kernel, rfl, by decide +kernel, by decide +kernel⟩
theorem sc__law_drawn_web : FnScope ["_law_bag_here", "_law_most", "_law_most_arrows", "_law_most_told", "_law_many", "_law_rows_now", "_law_k", "_law_one", "_law_other", "_law_told_now"] ["_law_bag_here", "_law_most", "_law_most_arrows", "_law_most_told"] (defScope s__law_drawn_web) := ⟨rfl, rfl, rfl, by decide +kernel, rfl, by decide +kernel, by decide +kernel⟩
theorem sc__law_good_web : FnScope ["_law_web", "_law_names_here", "_law_arrows", "_law_told_now", "_law_many", "_law_at", "_law_name", "_law_sign", "_law_row"] ["_law_web"] (defScope s__law_good_web) := ⟨rfl, rfl, rfl, by decide +kernel, rfl, by decide +kernel, by decide +kernel⟩
theorem sc__law_names : FnScope ["_law_bag_here", "_law_many", "_law_found", "_law_tail", "_law_k", "_law_first", "_law_at"] ["_law_bag_here", "_law_many"] (defScope s__law_names) := ⟨rfl, rfl, rfl, by decide +kernel, rfl, by decide +kernel, by decide +kernel⟩
theorem sc__law_odd : FnScope ["_law_bag_here", "_law_many"] ["_law_bag_here", "_law_many"] (defScope s__law_odd) := ⟨rfl, rfl, rfl, by decide +kernel, rfl, by decide +kernel, by decide +kernel⟩
theorem sc__law_pull : FnScope ["_law_bag_here", "_law_many", "_law_seed", "_law_blend", "_law_drawn"] ["_law_bag_here", "_law_many"] (defScope s__law_pull) := ⟨rfl, rfl, rfl, by decide +kernel, rfl, by decide +kernel, by decide +kernel⟩
theorem sc__law_web_door : FnScope ["_law_which", "_law_web", "_law_asks", "_law_ask"] ["_law_which", "_law_web"] (defScope s__law_web_door) := ⟨rfl, rfl, rfl, by decide +kernel, rfl, by decide +kernel, by decide +kernel⟩
theorem sc__law_word : FnScope ["_law_ask", "_law_word_here"] ["_law_ask"] (defScope s__law_word) := ⟨rfl, rfl, rfl, by decide +kernel, rfl, by decide +kernel, by decide +kernel⟩
theorem sc_law : FnScope ["_law_script", "_law_bag_here", "_law_web", "_law_bend", "_law_which"] ["_law_script"] (defScope s_law) := ⟨rfl, rfl, rfl, by decide +kernel, rfl, by decide +kernel, by decide +kernel⟩
/-- where the defs stand -/
structure Ad where
  f_is_name : Addr
  d_is_name : FuncData
  f_are_names : Addr
  d_are_names : FuncData
  f_is_arrow : Addr
  d_is_arrow : FuncData
  f_is_saying : Addr
  d_is_saying : FuncData
  f_is_web : Addr
  d_is_web : FuncData
  f_need_web : Addr
  d_need_web : FuncData
  f_boxes_of : Addr
  d_boxes_of : FuncData
  f_without : Addr
  d_without : FuncData
  f_chains : Addr
  d_chains : FuncData
  f_rows : Addr
  d_rows : FuncData
  f_turned : Addr
  d_turned : FuncData
  f_ring : Addr
  d_ring : FuncData
  f_knots : Addr
  d_knots : FuncData
  f_gaining_ring : Addr
  d_gaining_ring : FuncData
  f_ties : Addr
  d_ties : FuncData
  f_clash : Addr
  d_clash : FuncData
  f_ties_to_keep : Addr
  d_ties_to_keep : FuncData
  f_layers : Addr
  d_layers : FuncData
  f_flow : Addr
  d_flow : FuncData
  f_length : Addr
  d_length : FuncData
  f_worth : Addr
  d_worth : FuncData
  f_widths : Addr
  d_widths : FuncData
  f_picture : Addr
  d_picture : FuncData
  f_state_of : Addr
  d_state_of : FuncData
  f_web_text : Addr
  d_web_text : FuncData
  f_board_of : Addr
  d_board_of : FuncData
  f__law_bag : Addr
  d__law_bag : FuncData
  f__law_bent_web : Addr
  d__law_bent_web : FuncData
  f__law_drawn_web : Addr
  d__law_drawn_web : FuncData
  f__law_good_web : Addr
  d__law_good_web : FuncData
  f__law_names : Addr
  d__law_names : FuncData
  f__law_odd : Addr
  d__law_odd : FuncData
  f__law_pull : Addr
  d__law_pull : FuncData
  f__law_web_door : Addr
  d__law_web_door : FuncData
  f__law_word : Addr
  d__law_word : FuncData
  f_law : Addr
  d_law : FuncData
structure Txt (K : PySem.W.Frag) (mg : Str → Option Value) (t : Ad) : Prop where
  F_is_name : Fun K "is_name" "is_name" s_is_name t.f_is_name t.d_is_name
  b_is_name : Binds K t.d_is_name ["name"] []
  m_is_name : mg "is_name" = some (.ref t.f_is_name)
  F_are_names : Fun K "are_names" "are_names" s_are_names t.f_are_names t.d_are_names
  b_are_names : Binds K t.d_are_names ["names"] []
  m_are_names : mg "are_names" = some (.ref t.f_are_names)
  F_is_arrow : Fun K "is_arrow" "is_arrow" s_is_arrow t.f_is_arrow t.d_is_arrow
  b_is_arrow : Binds K t.d_is_arrow ["arrow", "boxes"] []
  m_is_arrow : mg "is_arrow" = some (.ref t.f_is_arrow)
  F_is_saying : Fun K "is_saying" "is_saying" s_is_saying t.f_is_saying t.d_is_saying
  b_is_saying : Binds K t.d_is_saying ["saying", "boxes"] []
  m_is_saying : mg "is_saying" = some (.ref t.f_is_saying)
  F_is_web : Fun K "is_web" "is_web" s_is_web t.f_is_web t.d_is_web
  b_is_web : Binds K t.d_is_web ["web"] []
  m_is_web : mg "is_web" = some (.ref t.f_is_web)
  F_need_web : Fun K "need_web" "need_web" s_need_web t.f_need_web t.d_need_web
  b_need_web : Binds K t.d_need_web ["web"] []
  m_need_web : mg "need_web" = some (.ref t.f_need_web)
  F_boxes_of : Fun K "boxes_of" "boxes_of" s_boxes_of t.f_boxes_of t.d_boxes_of
  b_boxes_of : Binds K t.d_boxes_of ["web", "arrow"] []
  m_boxes_of : mg "boxes_of" = some (.ref t.f_boxes_of)
  F_without : Fun K "without" "without" s_without t.f_without t.d_without
  b_without : Binds K t.d_without ["web", "arrows"] []
  m_without : mg "without" = some (.ref t.f_without)
  F_chains : Fun K "chains" "chains" s_chains t.f_chains t.d_chains
  b_chains : Binds K t.d_chains ["web", "layering"] []
  m_chains : mg "chains" = some (.ref t.f_chains)
  F_rows : Fun K "rows" "rows" s_rows t.f_rows t.d_rows
  b_rows : Binds K t.d_rows ["web", "layering"] []
  m_rows : mg "rows" = some (.ref t.f_rows)
  F_turned : Fun K "turned" "turned" s_turned t.f_turned t.d_turned
  b_turned : Binds K t.d_turned ["web"] []
  m_turned : mg "turned" = some (.ref t.f_turned)
  F_ring : Fun K "ring" "ring" s_ring t.f_ring t.d_ring
  b_ring : Binds K t.d_ring ["web", "arrow"] []
  m_ring : mg "ring" = some (.ref t.f_ring)
  F_knots : Fun K "knots" "knots" s_knots t.f_knots t.d_knots
  b_knots : Binds K t.d_knots ["web"] []
  m_knots : mg "knots" = some (.ref t.f_knots)
  F_gaining_ring : Fun K "gaining_ring" "gaining_ring" s_gaining_ring t.f_gaining_ring t.d_gaining_ring
  b_gaining_ring : Binds K t.d_gaining_ring ["boxes", "ties"] []
  m_gaining_ring : mg "gaining_ring" = some (.ref t.f_gaining_ring)
  F_ties : Fun K "ties" "ties" s_ties t.f_ties t.d_ties
  b_ties : Binds K t.d_ties ["web"] []
  m_ties : mg "ties" = some (.ref t.f_ties)
  F_clash : Fun K "clash" "clash" s_clash t.f_clash t.d_clash
  b_clash : Binds K t.d_clash ["web"] []
  m_clash : mg "clash" = some (.ref t.f_clash)
  F_ties_to_keep : Fun K "ties_to_keep" "ties_to_keep" s_ties_to_keep t.f_ties_to_keep t.d_ties_to_keep
  b_ties_to_keep : Binds K t.d_ties_to_keep ["web"] []
  m_ties_to_keep : mg "ties_to_keep" = some (.ref t.f_ties_to_keep)
  F_layers : Fun K "layers" "layers" s_layers t.f_layers t.d_layers
  b_layers : Binds K t.d_layers ["web"] []
  m_layers : mg "layers" = some (.ref t.f_layers)
  F_flow : Fun K "flow" "flow" s_flow t.f_flow t.d_flow
  b_flow : Binds K t.d_flow ["web"] []
  m_flow : mg "flow" = some (.ref t.f_flow)
  F_length : FunD K "length" "length" s_length t.f_length t.d_length #[.none]
  bd_length : Binds K t.d_length ["web", "layering"] [.none]
  bk_length : KBinds K t.d_length ["web", "layering"] ["layering"] kOne kOne
  b_length : Binds K t.d_length ["web", "layering"] []
  m_length : mg "length" = some (.ref t.f_length)
  F_worth : Fun K "worth" "worth" s_worth t.f_worth t.d_worth
  b_worth : Binds K t.d_worth ["web", "flow"] []
  m_worth : mg "worth" = some (.ref t.f_worth)
  F_widths : Fun K "widths" "widths" s_widths t.f_widths t.d_widths
  b_widths : Binds K t.d_widths ["web", "layering"] []
  m_widths : mg "widths" = some (.ref t.f_widths)
  F_picture : Fun K "picture" "picture" s_picture t.f_picture t.d_picture
  b_picture : Binds K t.d_picture ["web", "layering", "rows"] []
  m_picture : mg "picture" = some (.ref t.f_picture)
  F_state_of : Fun K "state_of" "state_of" s_state_of t.f_state_of t.d_state_of
  b_state_of : Binds K t.d_state_of ["web"] []
  m_state_of : mg "state_of" = some (.ref t.f_state_of)
  F_web_text : Fun K "web_text" "web_text" s_web_text t.f_web_text t.d_web_text
  b_web_text : Binds K t.d_web_text ["web"] []
  m_web_text : mg "web_text" = some (.ref t.f_web_text)
  F_board_of : Fun K "board_of" "board_of" s_board_of t.f_board_of t.d_board_of
  b_board_of : Binds K t.d_board_of ["web"] []
  m_board_of : mg "board_of" = some (.ref t.f_board_of)
  F__law_bag : Fun K "_law_bag" "_law_bag" s__law_bag t.f__law_bag t.d__law_bag
  b__law_bag : Binds K t.d__law_bag ["_law_script"] []
  m__law_bag : mg "_law_bag" = some (.ref t.f__law_bag)
  F__law_bent_web : Fun K "_law_bent_web" "_law_bent_web" s__law_bent_web t.f__law_bent_web t.d__law_bent_web
  b__law_bent_web : Binds K t.d__law_bent_web ["_law_bag_here", "_law_web"] []
  m__law_bent_web : mg "_law_bent_web" = some (.ref t.f__law_bent_web)
  F__law_drawn_web : Fun K "_law_drawn_web" "_law_drawn_web" s__law_drawn_web t.f__law_drawn_web t.d__law_drawn_web
  b__law_drawn_web : Binds K t.d__law_drawn_web ["_law_bag_here", "_law_most", "_law_most_arrows", "_law_most_told"] []
  m__law_drawn_web : mg "_law_drawn_web" = some (.ref t.f__law_drawn_web)
  F__law_good_web : Fun K "_law_good_web" "_law_good_web" s__law_good_web t.f__law_good_web t.d__law_good_web
  b__law_good_web : Binds K t.d__law_good_web ["_law_web"] []
  m__law_good_web : mg "_law_good_web" = some (.ref t.f__law_good_web)
  F__law_names : Fun K "_law_names" "_law_names" s__law_names t.f__law_names t.d__law_names
  b__law_names : Binds K t.d__law_names ["_law_bag_here", "_law_many"] []
  m__law_names : mg "_law_names" = some (.ref t.f__law_names)
  F__law_odd : Fun K "_law_odd" "_law_odd" s__law_odd t.f__law_odd t.d__law_odd
  b__law_odd : Binds K t.d__law_odd ["_law_bag_here", "_law_many"] []
  m__law_odd : mg "_law_odd" = some (.ref t.f__law_odd)
  F__law_pull : Fun K "_law_pull" "_law_pull" s__law_pull t.f__law_pull t.d__law_pull
  b__law_pull : Binds K t.d__law_pull ["_law_bag_here", "_law_many"] []
  m__law_pull : mg "_law_pull" = some (.ref t.f__law_pull)
  F__law_web_door : Fun K "_law_web_door" "_law_web_door" s__law_web_door t.f__law_web_door t.d__law_web_door
  b__law_web_door : Binds K t.d__law_web_door ["_law_which", "_law_web"] []
  m__law_web_door : mg "_law_web_door" = some (.ref t.f__law_web_door)
  F__law_word : Fun K "_law_word" "_law_word" s__law_word t.f__law_word t.d__law_word
  b__law_word : Binds K t.d__law_word ["_law_ask"] []
  m__law_word : mg "_law_word" = some (.ref t.f__law_word)
  F_law : Fun K "law" "law" s_law t.f_law t.d_law
  b_law : Binds K t.d_law ["_law_script"] []
  m_law : mg "law" = some (.ref t.f_law)
  c_LETTERS : ∃ tk, mg "LETTERS" = some (.str "abcdefghijklmnopqrstuvwxyz" tk)
  c_MOST_LETTERS : ∃ tk, mg "MOST_LETTERS" = some (.int 6 tk)
  c_MOST_BOXES : ∃ tk, mg "MOST_BOXES" = some (.int 40 tk)
  c_MOST_ARROWS : ∃ tk, mg "MOST_ARROWS" = some (.int 80 tk)
  c_MOST_SAYINGS : ∃ tk, mg "MOST_SAYINGS" = some (.int 20 tk)
  c_MOST_ARROW_LEAST : ∃ tk, mg "MOST_ARROW_LEAST" = some (.int 3 tk)
  c_MOST_WEIGHT : ∃ tk, mg "MOST_WEIGHT" = some (.int 9 tk)
  c_MOST_SAYING_LEAST : ∃ tk, mg "MOST_SAYING_LEAST" = some (.int 9 tk)
  c_WAYS : ∃ tk, mg "WAYS" = some (.int 4 tk)
  c_BEND_WIDTH : ∃ tk, mg "BEND_WIDTH" = some (.int 2 tk)
  c_GAP : ∃ tk, mg "GAP" = some (.int 2 tk)
  b_abs : mg "abs" = none
  b_all : mg "all" = none
  enumerate : mg "enumerate" = none
  b_int : mg "int" = none
  b_len : mg "len" = none
  b_list : mg "list" = none
  b_max : mg "max" = none
  b_min : mg "min" = none
  range : mg "range" = none
  b_set : mg "set" = none
  b_sum : mg "sum" = none
  b_tuple : mg "tuple" = none
  zip : mg "zip" = none

end W1

set_option Elab.async false
set_option linter.all false
set_option maxRecDepth 100000
set_option maxHeartbeats 1000000
namespace W1
open PySem PySem.Spec PyProof.Rows L2
section
variable {P : Program} {w : World} {K : PySem.W.Frag} {mg : Str → Option Value} {base : Heap} {t : Ad}
theorem ok_name (T : Txt K mg t) : FnOk P w K mg base CX0 1 t.f_is_name t.d_is_name ["name"] spName := by
  obtain ⟨tk1, C_LETTERS⟩ := T.c_LETTERS
  obtain ⟨tk2, C_MOST_LETTERS⟩ := T.c_MOST_LETTERS
  refine T.F_is_name.ok sc_is_name (fun vs H Q E h => ?_) (fun cdv A outer s H vs Q E hr h => ?_)
  · obtain ⟨z, rfl, _⟩ := h
    rfl
  · obtain ⟨z, rfl, hz, k⟩ := h
    have nd := sc_is_name.nd
    refine ⟨_, (pss_one (ps_ret (pe_and (pe_chain op_le op_le pe_int (pe_callB call_len_str (by rfl) T.b_len (by decide +kernel) (pa_cons (pv 0) pa_nil)) (pe_glob (v := V.int 6) (by rfl) C_MOST_LETTERS ⟨_, rfl⟩)) (pe_one (pe_callB (cr_all rfl) (by rfl) T.b_all (by decide +kernel) (pa_cons (pe_lc (own := [("sign", 1)]) (g := (gName 1)) (by rfl) nd (pi_str (pv 0)) (blkOk_by (own := [("sign", 1)]) (N := ["name", "sign"]) (sc := defScope s_is_name) (by decide +kernel)) (fun _ _ _ _ _ => (pg_name (i := 1) nd rfl (Or.inl rfl))) (fun _ _ _ _ _ => pts_nil) (fun _ _ _ _ _ => (pe_cmpR op_in_sign (pv 1) (pe_glob (v := V.str "abcdefghijklmnopqrstuvwxyz") (by rfl) C_LETTERS ⟨_, rfl⟩) (by rfl)))) pa_nil)))))), ?_⟩
    refine Is.chain (x := 1) (y := z.length) (z := 6) Is.const (Is.lenS (Is.var rfl) hz) Is.const _ ⟨_, rfl, ?_⟩
    refine ite2 (fun c1 => ?_) (fun c1 => ?_)
    · refine ⟨_, rfl, z, rfl, fun D hD => ?_⟩
      refine lc_str (x := z) (fun i H' => Same H H' ∧ H' D = some (.lst (((z.cps.toList.take i).map fun c => decide (c ∈ az.cps.toList)).map V.bl))) ⟨Same.new hD, upd_same⟩ ?_ ?_
      · rintro i c H' hc ⟨s1, h1⟩
        refine ⟨rfl, ?_⟩
        refine ⟨_, rfl, c, _, rfl, rfl, _, h1, acc_len hc (by rw [Array.length_toList]; exact hz), s1.updNew hD, ?_⟩
        rw [upd_same]
        exact congrArg (fun l => some (HO.lst l)) (acc_step hc)
      · rintro H' ⟨s1, h1⟩
        refine ⟨D, _, rfl, SqL.of h1, Qb (k H' s1) ?_⟩
        rw [all_map, List.take_of_length_le (by rw [Array.length_toList]; exact Nat.le_refl _)]
        unfold nameB
        rw [c1, Bool.true_and]
    · refine Qb (k H (Same.refl H)) ?_
      unfold nameB
      rw [Bool.eq_false_iff.mpr c1, Bool.false_and]
theorem str_keys (ns : List Str) : ns.map V.str = (ns.map Sum.inr : List Key).map kV := by rw [List.map_map]; rfl
theorem keys_nodup (ns : List Str) : (ns.map Sum.inr : List Key).Nodup ↔ ns.Nodup := by
  constructor
  · intro h
    exact List.Pairwise.imp (fun {a b} n e => n (by rw [e])) (List.pairwise_map.mp h)
  · intro h
    exact List.pairwise_map.mpr (List.Pairwise.imp (fun {a b} n e => n (Sum.inr.inj e)) h)
theorem ok_names (T : Txt K mg t) : FnOk P w K mg base CX0 2 t.f_are_names t.d_are_names ["names"] (spNames K) := by
  obtain ⟨tk1, C_MOST_BOXES⟩ := T.c_MOST_BOXES
  have G_is_name : FnOk P w K mg base CX0 1 t.f_is_name t.d_is_name ["name"] spName := ok_name T
  refine T.F_are_names.ok sc_are_names (fun vs H Q E h => ?_) (fun cdv A outer s H vs Q E hr h => ?_)
  · obtain ⟨a, ns, rfl, _⟩ := h
    rfl
  · obtain ⟨a, ns, rfl, ha, hl, hz, k⟩ := h
    have nd := sc_are_names.nd
    refine ⟨_, (pss_cons (ps_if (PW.pt (pw_or (pt_cmpR op_gt (pe_callB call_len_seq (by rfl) T.b_len (by decide +kernel) (pa_cons (pv 0) pa_nil)) (pe_glob (v := V.int 40) (by rfl) C_MOST_BOXES ⟨_, rfl⟩) (nomark _)) (pw_or1 (pt_cmpR op_lt (pe_callB call_len_setO (by rfl) T.b_len (by decide +kernel) (pa_cons (pe_callTy (call_set_of rfl) (by rfl) T.b_set (by decide +kernel) (pa_cons (pv 0) pa_nil)) pa_nil)) (pe_callB call_len_seq (by rfl) T.b_len (by decide +kernel) (pa_cons (pv 0) pa_nil)) (nomark _))))) (pss_one (ps_ret pe_bl)) pss_nil)
      (pss_one (ps_ret (pe_callB (cr_all rfl) (by rfl) T.b_all (by decide +kernel) (pa_cons (pe_lc (own := [("name", 1)]) (g := (gName 1)) (by rfl) nd (pi_tup (pv 0)) (blkOk_by (own := [("name", 1)]) (N := ["names", "name"]) (sc := defScope s_are_names) (by decide +kernel)) (fun _ _ _ _ _ => (pg_name (i := 1) nd rfl (Or.inl rfl))) (fun _ _ _ _ _ => pts_nil) (fun _ _ _ _ _ => (pe_call G_is_name (hr.mono (by omega)) (by rfl) T.m_is_name T.F_is_name.kp T.b_is_name .nil pass0 (pa_cons (pv 1) pa_nil)))) pa_nil))))), ?_⟩
    refine ⟨_, rfl, a, _, rfl, .inr ha, _, _, rfl, rfl, _, rfl, ?_⟩
    refine ite2 (fun c1 => iteT (Qb (k H (Same.refl H)) ?_)) (fun c1 => ?_)
    · have := of_decide_eq_true c1
      rw [List.length_map] at this
      unfold namesB
      rw [decide_eq_false (by omega), Bool.false_and]
    · have hl40 : ns.length ≤ 40 := by
        have := of_decide_eq_false (Bool.eq_false_iff.mpr c1)
        rw [List.length_map] at this
        omega
      refine ⟨_, rfl, a, ns.map Sum.inr, rfl, .inr (by rw [← str_keys]; exact ha), by rw [List.length_map]; unfold scanBound; omega, fun l hl' => ?_⟩
      refine ⟨l, _, rfl, upd_same, _, rfl, a, _, rfl, .inr ((Same.new hl').seqT ha), _, _, rfl, rfl, _, rfl, ?_⟩
      refine ite2 (fun c2 => ?_) (fun c2 => ?_)
      · refine Qb (k _ (Same.new hl')) ?_
        have hn : ¬ ns.Nodup := fun hn => by
          have := of_decide_eq_true c2
          rw [dd_nodup ((keys_nodup ns).mpr hn), List.length_map, List.length_map] at this
          omega
        unfold namesB
        rw [decide_eq_false hn, Bool.false_and, Bool.and_false]
      · have hn : ns.Nodup := by
          by_cases hn : ns.Nodup
          · exact hn
          · have := dd_lt (fun q => hn ((keys_nodup ns).mp q))
            have c2' := of_decide_eq_false (Bool.eq_false_iff.mpr c2)
            rw [List.length_map] at this c2'
            omega
        refine ⟨_, rfl, a, rfl, ⟨_, (Same.new hl').seqT ha⟩, fun D hD => ?_⟩
        have s0 : Same H (upd H l (setObj l (dd (ns.map Sum.inr)).length)) := Same.new hl'
        refine lc_tup (K := K) (a := a) (xs := ns.map V.str) (fun i H' => Same H H' ∧ H' D = some (.lst (((ns.take i).map nameB).map V.bl))) ⟨s0.updNew (s0.free hD), upd_same⟩ (fun i H' _ ⟨s1, _⟩ => s1.seqT ha) ?_ ?_
        · rintro i x H' hx ⟨s1, h1⟩
          rw [List.getElem?_map] at hx
          cases e : ns[i]? with
          | none => rw [e] at hx; cases hx
          | some z =>
            rw [e] at hx
            cases hx
            refine ⟨rfl, ?_⟩
            refine ⟨_, rfl, z, rfl, hz z (List.mem_of_getElem? e), fun H2 s2 => ⟨_, s2 _ _ h1, acc_len e (by have := sl_big; omega), (s1.trans s2).updNew (s0.free hD), ?_⟩⟩
            rw [upd_same]
            exact congrArg (fun l => some (HO.lst l)) (acc_step e)
        · rintro H' ⟨s1, h1⟩
          rw [List.length_map] at h1
          refine ⟨D, _, rfl, SqL.of h1, Qb (k H' s1) ?_⟩
          rw [all_map, List.take_of_length_le (Nat.le_refl _)]
          unfold namesB
          rw [decide_eq_true hl40, decide_eq_true hn, Bool.true_and, Bool.true_and]
theorem ok_arrow (T : Txt K mg t) : FnOk P w K mg base CX0 1 t.f_is_arrow t.d_is_arrow ["arrow", "boxes"] (spRow K arrowB) := by
  obtain ⟨tk1, C_MOST_ARROW_LEAST⟩ := T.c_MOST_ARROW_LEAST
  obtain ⟨tk2, C_MOST_WEIGHT⟩ := T.c_MOST_WEIGHT
  refine T.F_is_arrow.ok sc_is_arrow (fun vs H Q E h => ?_) (fun cdv A outer s H vs Q E hr h => ?_)
  · obtain ⟨a, row, n, rfl, _⟩ := h
    rfl
  · obtain ⟨a, row, n, rfl, ha, k⟩ := h
    have nd := sc_is_arrow.nd
    refine ⟨_, (pss_cons (ps_if (pt_cmpR op_ne (pe_callB call_len_seq (by rfl) T.b_len (by decide +kernel) (pa_cons (pv 0) pa_nil)) pe_int (nomark _)) (pss_one (ps_ret pe_bl)) pss_nil)
      (pss_cons (ps_asg (pv 0) (pg_tup (by rfl) (pgs_cons (pg_name (i := 2) nd rfl (Or.inl rfl)) (pgs_cons (pg_name (i := 3) nd rfl (Or.inl rfl)) (pgs_cons (pg_name (i := 4) nd rfl (Or.inl rfl)) (pgs_cons (pg_name (i := 5) nd rfl (Or.inl rfl)) pgs_nil))))))
      (pss_cons (ps_if (pt_not (PW.pt (pw_and (pt_chain op_le op_lt pe_int (pv 2) (pv 1)) (pw_and1 (pt_chain op_le op_lt pe_int (pv 3) (pv 1)))))) (pss_one (ps_ret pe_bl)) pss_nil)
      (pss_one (ps_ret (pe_and (pe_chain op_le op_le pe_int (pv 4) (pe_glob (v := V.int 3) (by rfl) C_MOST_ARROW_LEAST ⟨_, rfl⟩)) (pe_one (pe_chain op_le op_le pe_int (pv 5) (pe_glob (v := V.int 9) (by rfl) C_MOST_WEIGHT ⟨_, rfl⟩))))))))), ?_⟩
    refine rd_if (IsT.test (Is.neI (Is.lenT (Is.var rfl) ha) Is.const)) (fun e => ?_) (fun e => ?_)
    · refine Qb (k H (Same.refl H)) ?_
      have hne : row.length ≠ 4 := fun z => by rw [List.length_map, z] at e; exact absurd e (by decide)
      unfold arrowB
      split
      · exact absurd rfl hne
      · rfl
    · have h4 : row.length = 4 := by
        rw [List.length_map] at e
        have := of_decide_eq_true (by simpa using e)
        omega
      match row, h4, ha, k with
      | [x0, x1, x2, x3], _, ha, k =>
        refine ⟨_, rfl, a, _, rfl, ha, rfl, _, _, rfl, _, _, rfl, _, _, rfl, _, _, rfl, rfl, ?_⟩
        refine rd_if (IsT.not (IsT.and (IsT.test (Is.chain Is.const (Is.var rfl) (Is.var rfl))) fun _ => IsT.test (Is.chain Is.const (Is.var rfl) (Is.var rfl)))) (fun e1 => ?_) (fun e1 => ?_)
        · refine Qb (k H (Same.refl H)) ?_
          rw [arrowB_mk, show ((decide (0 ≤ x0) && decide (x0 < n)) && (decide (0 ≤ x1) && decide (x1 < n))) = false from not_t e1, Bool.false_and]
        · refine Is.andV (Is.chain Is.const (Is.var rfl) Is.const) (fun _ => Is.chain Is.const (Is.var rfl) Is.const) _ (Qb (k H (Same.refl H)) ?_)
          rw [arrowB_mk, show ((decide (0 ≤ x0) && decide (x0 < n)) && (decide (0 ≤ x1) && decide (x1 < n))) = true from not_f e1, Bool.true_and]
theorem ok_saying (T : Txt K mg t) : FnOk P w K mg base CX0 1 t.f_is_saying t.d_is_saying ["saying", "boxes"] (spRow K sayingB) := by
  obtain ⟨tk1, C_MOST_SAYING_LEAST⟩ := T.c_MOST_SAYING_LEAST
  refine T.F_is_saying.ok sc_is_saying (fun vs H Q E h => ?_) (fun cdv A outer s H vs Q E hr h => ?_)
  · obtain ⟨a, row, n, rfl, _⟩ := h
    rfl
  · obtain ⟨a, row, n, rfl, ha, k⟩ := h
    have nd := sc_is_saying.nd
    refine ⟨_, (pss_cons (ps_if (pt_cmpR op_ne (pe_callB call_len_seq (by rfl) T.b_len (by decide +kernel) (pa_cons (pv 0) pa_nil)) pe_int (nomark _)) (pss_one (ps_ret pe_bl)) pss_nil)
      (pss_cons (ps_asg (pv 0) (pg_tup (by rfl) (pgs_cons (pg_name (i := 2) nd rfl (Or.inl rfl)) (pgs_cons (pg_name (i := 3) nd rfl (Or.inl rfl)) (pgs_cons (pg_name (i := 4) nd rfl (Or.inl rfl)) pgs_nil)))))
      (pss_cons (ps_if (pt_not (PW.pt (pw_and (pt_chain op_le op_lt pe_int (pv 2) (pv 1)) (pw_and1 (pt_chain op_le op_lt pe_int (pv 3) (pv 1)))))) (pss_one (ps_ret pe_bl)) pss_nil)
      (pss_one (ps_ret (pe_and (pe_cmpR op_ne (pv 2) (pv 3) (nomark _)) (pe_one (pe_chain op_le op_le (pe_un un_neg (pe_glob (v := V.int 9) (by rfl) C_MOST_SAYING_LEAST ⟨_, rfl⟩)) (pv 4) (pe_glob (v := V.int 9) (by rfl) C_MOST_SAYING_LEAST ⟨_, rfl⟩))))))))), ?_⟩
    refine rd_if (IsT.test (Is.neI (Is.lenT (Is.var rfl) ha) Is.const)) (fun e => ?_) (fun e => ?_)
    · refine Qb (k H (Same.refl H)) ?_
      have hne : row.length ≠ 3 := fun z => by rw [List.length_map, z] at e; exact absurd e (by decide)
      unfold sayingB
      split
      · exact absurd rfl hne
      · rfl
    · have h4 : row.length = 3 := by
        rw [List.length_map] at e
        have := of_decide_eq_true (by simpa using e)
        omega
      match row, h4, ha, k with
      | [x0, x1, x2], _, ha, k =>
        refine ⟨_, rfl, a, _, rfl, ha, rfl, _, _, rfl, _, _, rfl, _, _, rfl, rfl, ?_⟩
        refine rd_if (IsT.not (IsT.and (IsT.test (Is.chain Is.const (Is.var rfl) (Is.var rfl))) fun _ => IsT.test (Is.chain Is.const (Is.var rfl) (Is.var rfl)))) (fun e1 => ?_) (fun e1 => ?_)
        · refine Qb (k H (Same.refl H)) ?_
          rw [sayingB_mk, show ((decide (0 ≤ x0) && decide (x0 < n)) && (decide (0 ≤ x1) && decide (x1 < n))) = false from not_t e1, Bool.false_and]
        · refine Is.andV (Is.neI (Is.var rfl) (Is.var rfl)) (fun _ => Is.chain (x := -9) (y := x2) (z := 9) (fun _ q => ⟨9, rfl, q⟩) (Is.var rfl) Is.const) _ (Qb (k H (Same.refl H)) ?_)
          rw [sayingB_mk, show ((decide (0 ≤ x0) && decide (x0 < n)) && (decide (0 ≤ x1) && decide (x1 < n))) = true from not_f e1, Bool.true_and]
theorem ok_web (T : Txt K mg t) : FnOk P w K mg base CX0 3 t.f_is_web t.d_is_web ["web"] (spWeb K) := by
  obtain ⟨tk1, C_MOST_ARROWS⟩ := T.c_MOST_ARROWS
  obtain ⟨tk2, C_MOST_SAYINGS⟩ := T.c_MOST_SAYINGS
  have G_are_names : FnOk P w K mg base CX0 2 t.f_are_names t.d_are_names ["names"] (spNames K) := ok_names T
  have G_is_arrow : FnOk P w K mg base CX0 1 t.f_is_arrow t.d_is_arrow ["arrow", "boxes"] (spRow K arrowB) := ok_arrow T
  have G_is_saying : FnOk P w K mg base CX0 1 t.f_is_saying t.d_is_saying ["saying", "boxes"] (spRow K sayingB) := ok_saying T
  refine T.F_is_web.ok sc_is_web (fun vs H Q E h => ?_) (fun cdv A outer s H vs Q E hr h => ?_)
  · obtain ⟨a, W, rfl, _⟩ := h
    rfl
  · obtain ⟨a, W, rfl, ⟨n, r, sa, ha, hn, ⟨ra, hra, pra⟩, ⟨sb, hsb, psb⟩⟩, ⟨hl, hz⟩, k⟩ := h
    have nd := sc_is_web.nd
    have l1 : (ra.map V.ref).length = W.arrows.length := by rw [List.length_map]; exact Paired.length pra
    have l2 : (sb.map V.ref).length = W.sayings.length := by rw [List.length_map]; exact Paired.length psb
    refine ⟨_, (pss_cons (ps_asg (pv 0) (pg_tup (by rfl) (pgs_cons (pg_name (i := 1) nd rfl (Or.inl rfl)) (pgs_cons (pg_name (i := 2) nd rfl (Or.inl rfl)) (pgs_cons (pg_name (i := 3) nd rfl (Or.inl rfl)) pgs_nil)))))
      (pss_cons (ps_if (PW.pt (pw_or (pt_cmpR op_gt (pe_callB call_len_seq (by rfl) T.b_len (by decide +kernel) (pa_cons (pv 2) pa_nil)) (pe_glob (v := V.int 80) (by rfl) C_MOST_ARROWS ⟨_, rfl⟩) (nomark _)) (pw_or (pt_cmpR op_gt (pe_callB call_len_seq (by rfl) T.b_len (by decide +kernel) (pa_cons (pv 3) pa_nil)) (pe_glob (v := V.int 20) (by rfl) C_MOST_SAYINGS ⟨_, rfl⟩) (nomark _)) (pw_or1 (pt_not (pt_val (pe_call G_are_names (hr.mono (by omega)) (by rfl) T.m_are_names T.F_are_names.kp T.b_are_names .nil pass0 (pa_cons (pv 1) pa_nil)))))))) (pss_one (ps_ret pe_bl)) pss_nil)
      (pss_cons (ps_set (i := 4) nd rfl (Or.inr rfl) (pe_callB call_len_seq (by rfl) T.b_len (by decide +kernel) (pa_cons (pv 1) pa_nil)))
      (pss_cons (ps_if (pt_not (pt_val (pe_callB (cr_all rfl) (by rfl) T.b_all (by decide +kernel) (pa_cons (pe_lc (own := [("arrow", 5)]) (g := (gName 5)) (by rfl) nd (pi_tup (pv 2)) (blkOk_by (own := [("arrow", 5)]) (N := ["web", "names", "arrows", "sayings", "boxes", "arrow", "saying"]) (sc := defScope s_is_web) (by decide +kernel)) (fun _ _ _ _ _ => (pg_name (i := 5) nd rfl (Or.inl rfl))) (fun _ _ _ _ _ => pts_nil) (fun _ _ _ _ _ => (pe_call G_is_arrow (hr.mono (by omega)) (by rfl) T.m_is_arrow T.F_is_arrow.kp T.b_is_arrow .nil pass0 (pa_cons (pv 5) (pa_cons (pv 4) pa_nil))))) pa_nil)))) (pss_one (ps_ret pe_bl)) pss_nil)
      (pss_one (ps_ret (pe_callB (cr_all rfl) (by rfl) T.b_all (by decide +kernel) (pa_cons (pe_lc (own := [("saying", 6)]) (g := (gName 6)) (by rfl) nd (pi_tup (pv 3)) (blkOk_by (own := [("saying", 6)]) (N := ["web", "names", "arrows", "sayings", "boxes", "arrow", "saying"]) (sc := defScope s_is_web) (by decide +kernel)) (fun _ _ _ _ _ => (pg_name (i := 6) nd rfl (Or.inl rfl))) (fun _ _ _ _ _ => pts_nil) (fun _ _ _ _ _ => (pe_call G_is_saying (hr.mono (by omega)) (by rfl) T.m_is_saying T.F_is_saying.kp T.b_is_saying .nil pass0 (pa_cons (pv 6) (pa_cons (pv 4) pa_nil))))) pa_nil)))))))), ?_⟩
    refine ⟨_, rfl, a, _, rfl, ha, rfl, _, _, rfl, _, _, rfl, _, _, rfl, rfl, ?_⟩
    refine ⟨_, rfl, r, _, rfl, .inr hra, _, _, rfl, rfl, _, rfl, ?_⟩
    rw [l1]
    refine ite2 (fun c1 => iteT (Qb (k H (Same.refl H)) ?_)) (fun c1 => ?_)
    · have := of_decide_eq_true c1
      unfold webB
      rw [decide_eq_false (by omega), Bool.false_and]
    · have c1' : W.arrows.length ≤ 80 := by have := of_decide_eq_false (Bool.eq_false_iff.mpr c1); omega
      refine ⟨_, rfl, sa, _, rfl, .inr hsb, _, _, rfl, rfl, _, rfl, ?_⟩
      rw [l2]
      refine ite2 (fun c2 => iteT (Qb (k H (Same.refl H)) ?_)) (fun c2 => ?_)
      · have := of_decide_eq_true c2
        unfold webB
        rw [decide_eq_false (p := W.sayings.length ≤ 20) (by omega), Bool.false_and, Bool.and_false]
      · have c2' : W.sayings.length ≤ 20 := by have := of_decide_eq_false (Bool.eq_false_iff.mpr c2); omega
        have e0 : webB W = (namesB W.names && (W.arrows.all (arrowB W.names.length) && W.sayings.all (sayingB W.names.length))) := by
          unfold webB
          rw [decide_eq_true c1', decide_eq_true c2', Bool.true_and, Bool.true_and]
        rw [e0] at k
        refine ⟨_, rfl, n, W.names, rfl, hn, hl, hz, fun H1 s1 => ⟨_, rfl, ?_⟩⟩
        cases e1 : namesB W.names with
        | false =>
          refine iteT (Qb (k H1 s1) ?_)
          rw [e1, Bool.false_and]
        | true =>
          rw [e1, Bool.true_and] at k
          refine iteF ?_
          refine ⟨_, rfl, n, _, rfl, .inr (s1.seqT hn), ?_⟩
          rw [List.length_map]
          refine ⟨_, rfl, r, rfl, ⟨_, s1.seqT hra⟩, fun D hD => ?_⟩
          have fD : H D = none := s1.free hD
          refine lc_tup (K := K) (a := r) (xs := ra.map V.ref) (fun i H' => Same H H' ∧ H' D = some (.lst (((W.arrows.take i).map (arrowB W.names.length)).map V.bl))) ⟨s1.updNew fD, upd_same⟩ (fun i H' _ ⟨s2, _⟩ => s2.seqT hra) ?_ ?_
          · rintro i x H' hx ⟨s2, h2⟩
            rw [List.getElem?_map] at hx
            cases e : ra[i]? with
            | none => rw [e] at hx; cases hx
            | some p =>
              rw [e] at hx
              cases hx
              obtain ⟨row, er, hrow⟩ := paired_get pra e
              refine ⟨rfl, ?_⟩
              refine ⟨_, rfl, _, rfl, p, row, W.names.length, rfl, s2.seqT hrow, fun H3 s3 => ⟨_, s3 _ _ h2, acc_len er (by have := sl_big; omega), (s2.trans s3).updNew fD, ?_⟩⟩
              rw [upd_same]
              exact congrArg (fun l => some (HO.lst l)) (acc_step er)
          · rintro H2 ⟨s2, h2⟩
            rw [l1] at h2
            refine ⟨D, _, rfl, SqL.of h2, _, rfl, ?_⟩
            rw [all_map, List.take_of_length_le (Nat.le_refl _)]
            cases e2 : W.arrows.all (arrowB W.names.length) with
            | false =>
              refine iteT (Qb (k H2 s2) ?_)
              rw [e2, Bool.false_and]
            | true =>
              rw [e2, Bool.true_and] at k
              refine iteF ?_
              refine ⟨_, rfl, sa, rfl, ⟨_, s2.seqT hsb⟩, fun D2 hD2 => ?_⟩
              have fD2 : H D2 = none := s2.free hD2
              refine lc_tup (K := K) (a := sa) (xs := sb.map V.ref) (fun i H' => Same H H' ∧ H' D2 = some (.lst (((W.sayings.take i).map (sayingB W.names.length)).map V.bl))) ⟨s2.updNew fD2, upd_same⟩ (fun i H' _ ⟨s2, _⟩ => s2.seqT hsb) ?_ ?_
              · rintro i x H' hx ⟨s3, h3⟩
                rw [List.getElem?_map] at hx
                cases e : sb[i]? with
                | none => rw [e] at hx; cases hx
                | some p =>
                  rw [e] at hx
                  cases hx
                  obtain ⟨row, er, hrow⟩ := paired_get psb e
                  refine ⟨rfl, ?_⟩
                  refine ⟨_, rfl, _, rfl, p, row, W.names.length, rfl, s3.seqT hrow, fun H4 s4 => ⟨_, s4 _ _ h3, acc_len er (by have := sl_big; omega), (s3.trans s4).updNew fD2, ?_⟩⟩
                  rw [upd_same]
                  exact congrArg (fun l => some (HO.lst l)) (acc_step er)
              · rintro H3 ⟨s3, h3⟩
                rw [l2] at h3
                refine ⟨D2, _, rfl, SqL.of h3, ?_⟩
                refine Qb (k H3 s3) ?_
                rw [all_map, List.take_of_length_le (Nat.le_refl _)]
end

end W1

set_option Elab.async false
set_option linter.all false
set_option maxRecDepth 100000
namespace L2
open PySem PySem.Spec PyProof.Rows
theorem ObjOk.got {P : Program} {w : World} {H : Hp} {h : Heap} {a : Addr} {o : HO} (x : ObjOk P w H h a o) : ∃ ob, h.get? a = some ob := by
  cases o with
  | lst xs => obtain ⟨_, _, _, _, e⟩ := x; exact ⟨_, e⟩
  | tup xs => obtain ⟨_, _, _, ob, e, _⟩ := x; exact ⟨_, e⟩
  | dK kvs => obtain ⟨_, _, _, _, o, _, _, e, _⟩ := x; exact ⟨_, e⟩
  | dT kvs => obtain ⟨_, _, _, _, o, _, _, e, _⟩ := x; exact ⟨_, e⟩
  | set S n => obtain ⟨o, _, _, _, e, _⟩ := x; exact ⟨_, e⟩
  | ins C dx fs => obtain ⟨_, _, _, e, _⟩ := x; exact ⟨_, e⟩
  | own y => exact x
  | xd fs => obtain ⟨_, ⟨_, _, _, e, _⟩, _⟩ := x; exact ⟨_, e⟩
  | rng lo hi => obtain ⟨_, _, _, e⟩ := x; exact ⟨_, e⟩
  | frz ob u => obtain ⟨e, _⟩ := x; exact ⟨_, e⟩
  | tbl ps => exact ⟨_, (show h.get? a = some _ from x)⟩
  | met f y => exact ⟨_, (show h.get? a = some _ from x)⟩
  | ext φ => obtain ⟨_, e, _⟩ := x; exact e
/-- how an exception of the class at C lies behind a call -/
structure Fly (P : Program) (w : World) (l : List Env) (H H' : Hp) (s s' : Shared) (e C t : Addr) (B : Heap) : Prop where
  os : s'.os = s.os
  bare : AllBare s'.gens
  un : Un (frs l) [] H H' s.heap s'.heap
  hok : HOk P w H' s'.heap
  fly : Heap.FlyingW B l e (.ref C) (.ref t) s'.heap
  inB : ∀ b u, H' b = some u → ∃ o, B.get? b = some o
  old : ∀ b o, s.heap.get? b = some o → b ∉ frs l → ∃ o', B.get? b = some o'
abbrev CXE (P : Program) (w : World) : CXT := fun l H s E e s' => ∃ (ea C t : Addr) (B : Heap) (H' : Hp), e = .ref ea ∧ Fly P w l H H' s s' ea C t B ∧ E (.ref C) none H'
/-- behind a step that keeps B and all but slots -/
theorem Fly.move {P : Program} {w : World} {l : List Env} {H H' : Hp} {s s' : Shared} {e C t : Addr} {B h' : Heap} (F : Fly P w l H H' s s' e C t B) (st : B.StaysIn h') (up : s'.heap.UpToSlots h') :
    Un (frs l) [] H H' s.heap h' ∧ HOk P w H' h' := by
  have same : ∀ b o, s'.heap.get? b = some o → (∃ o', B.get? b = some o') → h'.get? b = some o := fun b o q ⟨o', q'⟩ => by
    have := F.fly.1 b o' q'
    rw [q] at this
    cases this
    exact st b _ q'
  refine ⟨⟨fun b o q n hb hx => same b o (F.un.keep b o q n hb hx) (F.old b o q hb), fun b o q n hb hx => ?_, F.un.free, fun b o q hx => ?_, F.un.tups, F.un.frzs, F.un.tbls⟩, fun a o q => (F.hok a o q).stay (fun b u hb z => same b u z ?_) (fun _ z => z) fun _ _ z => z⟩
  · obtain ⟨sl, e1⟩ := F.un.slot b o q n hb hx
    obtain ⟨_, o', e2, nf⟩ := F.fly.2.2.1.mem hb
    rw [e1] at e2
    cases e2
    obtain ⟨sl', e3⟩ := up b _ e1 nf
    exact ⟨sl', e3⟩
  · by_cases hb : b ∈ frs l
    · obtain ⟨_, o', e2, nf⟩ := F.fly.2.2.1.mem hb
      obtain ⟨sl', e3⟩ := up b _ e2 nf
      exact ⟨_, e3⟩
    · obtain ⟨o', e1⟩ := F.old b o q hb
      exact ⟨o', st b o' e1⟩
  · rcases hb with rfl | hb
    · exact F.inB b _ q
    · exact F.inB b _ hb
section
variable {P : Program} {w : World} {K : PySem.W.Frag} {mg : Str → Option Value} {base : Heap} {N : List Str} {qual : Str} {scope : Scope} {f : Addr} {cd : Value} {A : Around} {outer : List Env} {s : Shared} {H : Hp} {E E' : XK}
theorem not_locals {X : Cx} {pins : List (Addr × Obj)} {σ : St} {H1 : Hp} {s1 : Shared} (I : Inv X pins σ H1 s1) {b : Addr} {o : Obj} (e : X.s_0.heap.get? b = some o) (hb : b ∉ X.fs) : b ∉ frs X.stack := fun hm => by
  rcases List.mem_cons.mp (I.stkSub b hm) with q | q
  · have h1 := I.ok.above
    have h2 := Heap.lt_size e
    rw [q] at h2
    exact absurd (Nat.lt_of_lt_of_le h2 h1) (Nat.lt_irrefl _)
  · exact hb q
/-- an exception of a callee passes this def's frame -/
theorem pass_on (hE : ∀ c d h, E' c d h → E c d h) : Passes (CXE P w) (cxOf (CXE P w) P w K mg base N qual scope f cd A outer s H E) E' := by
  intro pins σ H1 s1 e s' I ⟨ea, C, t, B, H', he, F, hq⟩
  subst he
  refine wpAny_leaves_onW I.ok.frames rfl F.fly fun h' fl up => ?_
  obtain ⟨un, hok⟩ := F.move fl.1 up
  have J := I.call' (s' := { s' with heap := h' }) (ch := []) F.os un hok F.bare (fun b z => absurd z (by simp))
  refine ⟨ea, C, t, B, H', rfl, ⟨J.os, J.bare, J.base, J.hok, fl, F.inB, fun b o q hb => ?_⟩, hE _ _ _ hq⟩
  obtain ⟨o', e1⟩ := I.base.there b o q (by simp [cxOf])
  exact F.old b o' e1 (not_locals I (o := o) q hb)
/-- raise C(text) -/
def sRaise (C : Addr) (E : XK) (t : TA) : TS := fun _ σ H => t σ H fun vs H2 => vs.length ≤ sizeLine ∧ E (.ref C) none H2
theorem ps_raise {x : Str} {C : Addr} {bm : List Value} {Bn newId initId : String} {e0 : Expr} {t : TA} {np cpos pos : Pos}
    (O : OwnCls x C bm newId mg base) (FB : ExcBaseFacts Bn newId initId bm) (hg : Gl (cxOf (CXE P w) P w K mg base N qual scope f cd A outer s H E) x) (ha : PA (cxOf (CXE P w) P w K mg base N qual scope f cd A outer s H E) [e0] t)
    (he : starEach [e0] (cxOf (CXE P w) P w K mg base N qual scope f cd A outer s H E).env = [(false, eval e0 (cxOf (CXE P w) P w K mg base N qual scope f cd A outer s H E).env)] := by rfl) (hd : (x == ("__debug__" : Str)) = false := by decide) :
    PS (cxOf (CXE P w) P w K mg base N qual scope f cd A outer s H E) (.Raise (some (.Call (.Name x np) [e0] [] cpos)) none pos) (sRaise C E t) := by
  intro pins s1 σ H1 D I h
  obtain ⟨tl, Nn, nm, q, bs, hdct, sn, sub, ab, col, dd, k0, k1, k2, k3, k5, mN, hC, hN, hni, TL⟩ := O.obj
  refine wpAny_Raise_call_subT (C := C) (nm := nm) (q := q) (N := Nn) (bs := bs) (bm := tl) (hdct := hdct) (sn := sn) (sub := sub) (ab := ab) (col := col) (dd := dd) (k0 := k0) (k1 := k1) (k2 := k2) (k3 := k3) (k5 := k5)
    FB (mN := mN) (TL.hasType FB.hasBase) (I.ok.hd rfl) (by rw [he]; rfl) hni (ld_glob I hg O.bound ⟨rfl, ?_⟩ hd)
  have h0 := ha cpos pins s1 σ H1 _ I h
  rw [he] at h0 ⊢
  refine Calls.evalArgs_plain (wpAny_mono h0 (fun vs s2 ⟨xs, H2, I2, r, q2⟩ => ⟨rfl, ?_, I2.bk _ _ hC, hN.keeps I2.bk, TL.keeps I2.bk, fun h' e hx => ?_⟩) fun _ _ y => y)
  · rw [← r.length]; exact q2.1
  · have st : (PySem.W.hideAll s2.heap (frs (envOfC qual scope s.heap.objs.size f cd :: outer))).StaysIn s2.heap := fun b o z => PySem.W.of_hideAll _ z
    have inStack : ∀ b o, s2.heap.get? b = some o → b ∉ frs (envOfC qual scope s.heap.objs.size f cd :: outer) → (PySem.W.hideAll s2.heap (frs (envOfC qual scope s.heap.objs.size f cd :: outer))).get? b = some o := fun b o z n => PySem.W.hideAll_get _ z n
    show wpAny _ _ (leaving (envOfC qual scope s.heap.objs.size f cd) (.ref e)) _ _ _
    refine wpAny_leaves_madeW (base := PySem.W.hideAll s2.heap (frs (envOfC qual scope s.heap.objs.size f cd :: outer))) (h := s2.heap) I2.ok.frames rfl st (PySem.W.funFrames_hide I2.stack fun env hm a ha => List.mem_filterMap.mpr ⟨env, hm, ha⟩) hx fun h'' t x1 x2 x3 x4 => ?_
    refine ⟨e, C, t, _, H2, rfl, ⟨I2.os, I2.bare, ⟨fun b o z n hb hx' => ?_, fun b o z n hb hx' => ?_, fun b o z n hx' => I2.base.free b o z n (by simp [cxOf]), fun b o z hx' => ?_, I2.base.tups, I2.base.frzs, I2.base.tbls⟩, fun a o z => (I2.hok a o z).stay (fun b u hb y => ?_) (fun _ y => y) fun _ _ y => y, x1, fun b u z => ?_, fun b o z hb => ?_⟩, q2.2⟩
    · have e1 := I2.base.keep b o z n hb (by simp [cxOf])
      exact x1.1 b o (inStack b o e1 (not_locals I2 (o := o) z hb))
    · obtain ⟨sl, e1⟩ := I2.base.slot b o z n hb (by simp [cxOf])
      obtain ⟨_, o', e2, nf⟩ := I2.stack.mem (show b ∈ frs (envOfC qual scope s.heap.objs.size f cd :: outer) from by
        obtain ⟨env, hm, ha⟩ := List.mem_filterMap.mp hb
        exact List.mem_filterMap.mpr ⟨env, List.mem_cons_of_mem _ hm, ha⟩)
      rw [e1] at e2
      cases e2
      obtain ⟨sl', e3⟩ := x4 b _ (hx.keeps b _ e1) nf
      exact ⟨sl', e3⟩
    · obtain ⟨o', e1⟩ := I2.base.there b o z (by simp [cxOf])
      by_cases hb : b ∈ frs (envOfC qual scope s.heap.objs.size f cd :: outer)
      · obtain ⟨_, o2, e2, nf⟩ := I2.stack.mem hb
        obtain ⟨sl', e3⟩ := x4 b _ (hx.keeps b _ e2) nf
        exact ⟨_, e3⟩
      · exact ⟨o', x1.1 b o' (inStack b o' e1 hb)⟩
    · have ht : ∃ u', H2 b = some u' := by
        rcases hb with rfl | hb
        · exact ⟨_, z⟩
        · exact ⟨_, hb⟩
      obtain ⟨u', hu'⟩ := ht
      exact x1.1 b u (inStack b u y fun hm => by rw [I2.stkFree b hm] at hu'; cases hu')
    · obtain ⟨o, e1⟩ := (I2.hok b u z).got
      exact ⟨o, inStack b o e1 fun hm => by rw [I2.stkFree b hm] at z; cases z⟩
    · obtain ⟨o', e1⟩ := I2.base.there b o z (by simp [cxOf])
      exact ⟨o', inStack b o' e1 (not_locals I2 (o := o) z hb)⟩
end
end L2

set_option Elab.async false
set_option linter.all false
set_option maxRecDepth 100000
namespace L2
open PySem PySem.Spec PyProof.Rows
/-- the frame of a lambda -/
abbrev envL (qual : Str) (scope : Scope) (L lam : Addr) (c' : Addr) (cl : List (Str × Addr)) : Env := newEnv scope L mainGlobals cl (qual ++ ".<locals>.") (some lam) (.ref c') none builtinsNs
/-- the context of a lambda's body -/
def cxLam (CX : CXT) (P : Program) (w : World) (K : PySem.W.Frag) (mg : Str → Option Value) (base : Heap) (N : List Str) (qual : Str) (scope : Scope) (lam c' : Addr) (cl : List (Str × Addr)) (A : Around) (outer : List Env) (s : Shared) (H : Hp) (E : XK) : Cx where
  prog := P
  w := w
  K := K
  mg := mg
  base := base
  A := A.deeper (envL qual scope s.heap.objs.size lam c' cl)
  N := N
  s_0 := s
  H_0 := H
  env := envL qual scope s.heap.objs.size lam c' cl
  outer := outer
  stack := envL qual scope s.heap.objs.size lam c' cl :: outer
  ex := []
  calm := true
  fn := fun _ => false
  pn := []
  xe := fun e s' => wpAny (model P w) (A.deeper (envL qual scope s.heap.objs.size lam c' cl)) (leaving (envL qual scope s.heap.objs.size lam c' cl) e) (fun _ s'' => CX outer H s E e s'') (fun e' s'' => CX outer H s E e' s'') s'
/-- what a lambda that stands in the base is: its object, its code, its cells and their values -/
structure Lam (base : Heap) (lam : Addr) (name qual : Str) (params : Arguments) (body : Expr) (scope : Scope) (cl : List (Str × Addr)) (pm : Value) (c' : Addr) (ctv : Value) (N : List Str) (vals : List V) : Prop where
  obj : base.get? lam = some (PySem.W.kla_obj name qual params body scope cl pm c' ctv)
  code : base.CodeRec (.ref c') qual
  inj : ∀ x y c, cl.lookup x = some c → cl.lookup y = some c → x = y
  cells : ∀ x c, cl.lookup x = some c → ∃ v, base.IsCell c v
  len : vals.length = N.length
  at_ : ∀ (i : Nat) (x : Str) (v : V), N[i]? = some x → vals[i]? = some v → ∃ c u, scope.names.lookup x = some .free ∧ cl.lookup x = some c ∧ base.IsCell c (some u) ∧ RelV v u
structure LamScope (scope : Scope) (cl : List (Str × Addr)) : Prop where
  kind : scope.kind = .function
  co : scope.isCoroutine = false
  gen : scope.isGenerator = false
  nocell : ∀ x ∈ scope.names, x.2 ≠ .cell
  has : ∀ x, (scope.names.lookup x = some .cell ∨ scope.names.lookup x = some .free) → ∃ c, cl.lookup x = some c
theorem isCell_got {h : Heap} {c : Addr} {v : Option Value} (x : h.IsCell c v) : ∃ o, h.get? c = some o := let ⟨o, e, _⟩ := x; ⟨o, e⟩
theorem lam_ok {P : Program} {w : World} {K : PySem.W.Frag} {mg : Str → Option Value} {base : Heap} {lam : Addr} {name qual : Str} {params : Arguments} {body : Expr} {scope : Scope} {cl : List (Str × Addr)} {pm : Value} {c' : Addr} {ctv : Value} {N : List Str} {vals : List V} {k : Nat} {sp : Sp} {CX : CXT}
    (L : Lam base lam name qual params body scope cl pm c' ctv N vals) (S : LamScope scope cl)
    (len : ∀ vs H Q E, sp vs H Q E → vs = [])
    (hbody : ∀ (A : Around) (outer : List Env) (s : Shared) (H : Hp) (Q : VK) (E : XK), Room k (A.deeper (envL qual scope s.heap.objs.size lam c' cl)) → sp [] H Q E →
      ∃ t, PE (cxLam CX P w K mg base N qual scope lam c' cl A outer s H E) body t ∧ t (vals.map some) H Q) :
    FnOk P w K mg base CX (k + 1) lam (PySem.W.kla_fn name qual params body scope cl pm (.ref c') ctv) [] sp := by
  refine ⟨fun vs H Q E h => by rw [len vs H Q E h]; rfl, fun A outer s H args us vs Q E hr e0 hb r hsp => ?_⟩
  have bk : ∀ b o, base.get? b = some o → s.heap.get? b = some o := fun b o e => (e0.bs b o e).1
  have lim : s.heap.NoLimit := e0.mod.nolimit.keeps bk
  have evs := len _ _ _ _ hsp
  subst evs
  cases r
  refine PySem.W.kla_callFunE hr.depth (bk _ _ L.obj) rfl S.co S.gen rfl ?_ (hb _ _ _ _ ?_)
  · exact L.code.keeps bk
  refine wpAny_newFunctionEnv S.nocell (fun x hx => absurd (show x ∈ ([] : List (Str × Value)) from hx) (by simp)) (fun h₁ hns hsb => ⟨lim.fresh _ hsb, ?_⟩) S.kind
  have hk : ∀ b o, s.heap.get? b = some o → h₁.get? b = some o := fun b o e => hsb.extBut b o (Nat.ne_of_lt (Heap.lt_size e)) (Heap.get?_push_of_some _ e)
  obtain ⟨t, ht, hq⟩ := hbody A outer s H Q E (hr.deeper _) hsp
  have noA : ∀ b : Addr, b ∉ (cxLam CX P w K mg base N qual scope lam c' cl A outer s H E).ex := fun b z => absurd (show b ∈ ([] : List Addr) from z) (by simp)
  have I : Inv (cxLam CX P w K mg base N qual scope lam c' cl A outer s H E) [] (vals.map some) H { s with heap := h₁, toks := s.toks + (([] : List Str).zip ([] : List Value)).length } := by
    refine ⟨⟨e0.mod, S.kind, rfl, rfl, Nat.le_refl _, L.inj, S.has, fun y c h _ => absurd (show false = true from h) Bool.false_ne_true, fun _ => hr.hd, Around.frames_deeper e0.frames, .inr ⟨rfl, rfl⟩, fun b z => absurd z (noA b), e0.bs, e0.bsz, fun b _ _ => noA b, fun b z => absurd z (noA b), e0.funs, e0.frf⟩,
      rfl, e0.bare, Un.kept hk, ⟨_, hns, fun i y v h1 h2 h3 => ?_⟩, fun y c h => ?_, e0.hok.fresh (Nat.le_refl _), fun y c h => ?_, fun p hp => absurd (show p ∈ ([] : List (Addr × Obj)) from hp) (by simp), e0.hok.kept hk, ?_⟩
    · rw [List.getElem?_map] at h2
      cases e : vals[i]? with
      | none => rw [e] at h2; cases h2
      | some v' =>
        rw [e] at h2
        cases h2
        obtain ⟨c, u, k1, k2, k3, k4⟩ := L.at_ i y v h1 e
        exact ⟨u, k4, .inr ⟨.inr k1, c, k2, (k3.keeps bk).keeps hk⟩⟩
    · obtain ⟨v, q⟩ := L.cells y c h
      exact ⟨v, (q.keeps bk).keeps hk⟩
    · obtain ⟨v, q⟩ := L.cells y c h
      obtain ⟨o, e⟩ := isCell_got q
      exact (e0.bs c o e).2
    · rw [List.length_map]; exact L.len
  refine PySem.W.kla_codeExpr (wpAny_mono (ht [] _ _ H Q I hq) (fun v s' hs => ?_) fun e s' hs => hs)
  obtain ⟨v', H', J, rv, q⟩ := hs
  exact ⟨v', H', J.os, J.bare, J.base, J.hok, rv, q⟩
/-- an exception of a callee passes the lambda's frame -/
theorem pass_lam {P : Program} {w : World} {K : PySem.W.Frag} {mg : Str → Option Value} {base : Heap} {N : List Str} {qual : Str} {scope : Scope} {lam c' : Addr} {cl : List (Str × Addr)} {A : Around} {outer : List Env} {s : Shared} {H : Hp} {E E' : XK}
    (hE : ∀ c d h, E' c d h → E c d h) : Passes (CXE P w) (cxLam (CXE P w) P w K mg base N qual scope lam c' cl A outer s H E) E' := by
  intro pins σ H1 s1 e s' I ⟨ea, C, t, B, H', he, F, hq⟩
  subst he
  refine wpAny_leaves_onW I.ok.frames rfl F.fly fun h' fl up => ?_
  obtain ⟨un, hok⟩ := F.move fl.1 up
  have J := I.call' (s' := { s' with heap := h' }) (ch := []) F.os un hok F.bare (fun b z => absurd z (by simp))
  refine ⟨ea, C, t, B, H', rfl, ⟨J.os, J.bare, J.base, J.hok, fl, F.inB, fun b o q hb => ?_⟩, hE _ _ _ hq⟩
  obtain ⟨o', e1⟩ := I.base.there b o q (by simp [cxLam])
  exact F.old b o' e1 (not_locals I (o := o) q hb)
end L2

set_option Elab.async false
set_option linter.all false
set_option maxRecDepth 100000
namespace L2
open PySem PySem.Spec PyProof.Rows
theorem Fly.step {P : Program} {w : World} {l : List Env} {H H' : Hp} {s s' : Shared} {e C t : Addr} {B h' : Heap} (F : Fly P w l H H' s s' e C t B) (fl : Heap.FlyingW B l e (.ref C) (.ref t) h') (up : s'.heap.UpToSlots h') :
    Fly P w l H H' s { s' with heap := h' } e C t B := by
  obtain ⟨un, hok⟩ := F.move fl.1 up
  exact ⟨F.os, F.bare, un, hok, fl, F.inB, F.old⟩
/-- within an except suite -/
def Cx.held (Y : Cx) (v : Value) : Cx := { Y with A := Y.A.mark (some v), calm := false }
theorem Inv.held {Y : Cx} {pins : List (Addr × Obj)} {σ : St} {H : Hp} {s : Shared} (I : Inv Y pins σ H s) (v : Value) : Inv (Y.held v) pins σ H s :=
  ⟨⟨I.ok.mod, I.ok.kind, I.ok.glob, I.ok.blt, I.ok.above, I.ok.inj, I.ok.has, I.ok.cab, fun z => absurd (show false = true from z) Bool.false_ne_true, I.ok.frames, I.ok.stk, I.ok.exf, I.ok.bs, I.ok.bsz, I.ok.noex, I.ok.exfs, I.ok.funs, I.ok.frf⟩, I.os, I.bare, I.base, I.loc, I.cell, I.free, I.freeC, I.pin, I.hok, I.len⟩
theorem Inv.unheld {Y : Cx} {pins : List (Addr × Obj)} {σ : St} {H : Hp} {s : Shared} {v : Value} (I : Inv (Y.held v) pins σ H s) (hd : Y.calm = true → Y.A.handled = none) : Inv Y pins σ H s :=
  ⟨⟨I.ok.mod, I.ok.kind, I.ok.glob, I.ok.blt, I.ok.above, I.ok.inj, I.ok.has, I.ok.cab, hd, I.ok.frames, I.ok.stk, I.ok.exf, I.ok.bs, I.ok.bsz, I.ok.noex, I.ok.exfs, I.ok.funs, I.ok.frf⟩, I.os, I.bare, I.base, I.loc, I.cell, I.free, I.freeC, I.pin, I.hok, I.len⟩
theorem SP.unheld {Y : Cx} {pins : List (Addr × Obj)} {D : Ends} {f : PySem.Flow} {s' : Shared} {v : Value} (h : SP (Y.held v) pins D f s') (hd : Y.calm = true → Y.A.handled = none) : SP Y pins D f s' := by
  cases f with
  | next => obtain ⟨σ', H', I, q⟩ := h; exact ⟨σ', H', I.unheld hd, q⟩
  | brk => obtain ⟨σ', H', I, q⟩ := h; exact ⟨σ', H', I.unheld hd, q⟩
  | cont => obtain ⟨σ', H', I, q⟩ := h; exact ⟨σ', H', I.unheld hd, q⟩
  | ret u => obtain ⟨v, σ', H', I, r, q⟩ := h; exact ⟨v, σ', H', I.unheld hd, r, q⟩
section
variable {Y : Cx} {pins : List (Addr × Obj)} {σ : St} {H H' : Hp} {s s' : Shared} {e C t Cn : Addr} {B : Heap} {x : Str} {np pos : Pos} {bd : List Stmt} {rest : List ExceptHandler} {D : Ends}
theorem Fly.inv (I : Inv Y pins σ H s) (F : Fly Y.prog Y.w Y.stack H H' s s' e C t B) : Inv Y pins σ H' s' := I.call' (ch := []) F.os F.un F.hok F.bare (fun b z => absurd z (by simp))
theorem fly_type (F : Fly Y.prog Y.w Y.stack H H' s s' e C t B) {M : Model} : PySem.W.Looks M s'.heap (typeOf (.ref e)) (.ref C) := by
  obtain ⟨ob, h1, h2⟩ := F.fly.there
  rw [← h2]
  exact (PySem.W.Looks.ld h1).andThen .now
theorem hand_hit {b0 : Stmt} {suite : List Stmt} {ts : TS} (hn : Y.xe = fun _ _ => False) (I : Inv Y pins σ H s) (F : Fly Y.prog Y.w Y.stack H H' s s' e C t B) (hg : Gl Y x) (hm : Y.mg x = some (.ref Cn)) (hx : PySem.W.exmOne Y.K (.ref C) (.ref Cn) = some true)
    (hs : PSs (Y.held (.ref e)) (b0 :: suite) ts) (h : ts D σ H') (hd : (x == ("__debug__" : Str)) = false := by decide) :
    wpAny (model Y.prog Y.w) Y.A (handleBy (.ref e) Y.env (.ExceptHandler (some (.Name x np)) none (b0 :: suite) pos :: rest)) (SP Y pins D) Y.xe s' := by
  have J := (Fly.inv I F).held (.ref e)
  refine wpAny_handleBy_cons (codeAny_handlers_test (ld_glob (X := Y.held (.ref e)) J hg hm ?_ hd)) (by intro q; cases q)
  refine (PySem.W.exm_one J.kIn (fly_type F) hx).here ?_
  refine codeAny_handlers_suite ?_
  refine lands_againW F.fly fun h' fl up => ?_
  have F2 := F.step fl up
  have J2 := (Fly.inv I F2).held (.ref e)
  refine wpAny_mono (hs pins _ σ H' D J2 h) (fun f s2 q => q.unheld I.ok.hd) fun x s2 q => ?_
  have : False := by
    have q' : Y.xe x s2 := q
    rw [hn] at q'
    exact q'
  exact this.elim
/-- try: f() except ..: the handlers' run is given by hh -/
theorem ps_try {k : Nat} {lam : Addr} {fd : FuncData} {sp : Sp} {i : Nat} {ob : Obj} {p p2 p3 tpos : Pos} {h0 : ExceptHandler} {hs : List ExceptHandler} {xa : Str} (hn : Y.xe = fun _ _ => False)
    (F : FnOk Y.prog Y.w Y.K Y.mg Y.base (CXE Y.prog Y.w) k lam fd [] sp) (hr : Room k Y.A) (hf : Y.base.get? lam = some ob) (hd : ob.data = .func fd) (hb : Binds Y.K fd [] [])
    (hv : PE Y (.Name xa p) (tVar i)) (hstk : Y.stack = Y.env :: Y.outer) (hfr : Y.env.frame = some Y.env.locals) (hsw : swapsWith (.Call (.Name xa p) [] [] p2) none p3.line Y.env = pure false)
    (Ok : Value → St → Hp → Ends → Prop)
    (hh : ∀ {pins : List (Addr × Obj)} {σ : St} {H H' : Hp} {s s' : Shared} {e C t : Addr} {B : Heap} {D : Ends}, Inv Y pins σ H s → Fly Y.prog Y.w Y.stack H H' s s' e C t B → Ok (.ref C) σ H' D →
      wpAny (model Y.prog Y.w) Y.A (handleBy (.ref e) Y.env (h0 :: hs)) (SP Y pins D) Y.xe s') :
    PS Y (.Try [.Expr (.Call (.Name xa p) [] [] p2) p3] (h0 :: hs) [] [] tpos) (fun D σ H => tVar i σ H fun v H1 => v = .ref lam ∧ H1 = H ∧ sp [] H (fun _ H2 => D.nx σ H2) fun c _ H2 => Ok c σ H2 D) := by
  intro pins s σ H D I h
  refine wpAny_Try_except ?_
  have key : wpAny (model Y.prog Y.w) Y.A (eval (.Call (.Name xa p) [] [] p2) Y.env) (EP Y pins σ fun _ H2 => D.nx σ H2) (fun e s₁ => wpAny (model Y.prog Y.w) Y.A (noteFrame e Y.env) (fun _ s₂ => wpAny (model Y.prog Y.w) Y.A (setFlight e none) (fun _ s₃ => wpAny (model Y.prog Y.w) Y.A (handleBy e Y.env (h0 :: hs)) (SP Y pins D) Y.xe s₃) Y.xe s₂) Y.xe s₁) s := by
    refine wpAny_Call_Name_kw (thn (wpAny_mono (hv pins s σ H _ I h) (fun _ _ z => z) fun _ _ z => ?_) fun u s1 ⟨v, H1, I1, r1, e1, e2, q1⟩ => ?_)
    · rw [hn] at z; exact z.elim
    · subst e1 e2
      obtain rfl : u = Value.ref lam := r1
      have hat : PySem.W.FnAt lam s1.heap := by
        obtain ⟨oc, od, dat, sl⟩ := ob
        have hd' : dat = .func fd := hd
        subst hd'
        exact ⟨_, _, _, _, I1.bk _ _ hf⟩
      refine PySem.W.callWith_F0 hat (wpAny_call (codeAny_mono (F.run Y.A Y.stack s1 H1 ⟨[], []⟩ [] [] _ _ hr I1.env0 (hb s1 [] I1.kIn rfl) .nil q1) fun r s' hq => ?_))
      cases r with
      | error e =>
        obtain ⟨ea, C, t, B, H', rfl, G, hE⟩ := hq
        have hfl := G.fly
        have hfrm := I1.ok.frames
        rw [hstk] at hfl hfrm
        refine wpAny_looks_onW hfrm hfr hfl fun h' hl up => ?_
        refine wpAny_landsW hl fun h2 fl2 up2 => ?_
        rw [← hstk] at fl2
        exact hh I1 (G.step fl2 (up.trans up2)) hE
      | ok fl =>
        cases fl with
        | ret u => exact I1.after hq
        | next => exact False.elim hq
        | brk => exact False.elim hq
        | cont => exact False.elim hq
  refine wpAny_execs_cons (wpAny_Expr_any (thn key fun v s1 ⟨x, H1, I1, r1, q1⟩ => ?_) I.quiet hsw)
  exact wpAny_execs_nil (wpAny_execs_nil ⟨σ, H1, I1, q1⟩)
end
end L2

set_option Elab.async false
set_option linter.all false
set_option maxRecDepth 100000
namespace L2
open PySem PySem.Spec PyProof.Rows
def codeO (c' : Addr) (qual : Str) : HO := .ext fun h => h.CodeRec (.ref c') qual
theorem codeRec_one {h1 h2 : Heap} {c' : Addr} {qual : Str} (x : h1.CodeRec (.ref c') qual) (k : ∀ o, h1.get? c' = some o → h2.get? c' = some o) : h2.CodeRec (.ref c') qual := by
  obtain ⟨c, o, vs, t, e, ho, r⟩ := x
  cases e
  exact ⟨_, o, vs, t, rfl, k o ho, r⟩
theorem codeRec_got {h : Heap} {c' : Addr} {qual : Str} (x : h.CodeRec (.ref c') qual) : ∃ o, h.get? c' = some o := by
  obtain ⟨c, o, vs, t, e, ho, r⟩ := x
  cases e
  exact ⟨o, ho⟩
theorem codeO_ok {P : Program} {w : World} {H : Hp} {h : Heap} {c' : Addr} {qual : Str} (x : h.CodeRec (.ref c') qual) : ObjOk P w H h c' (codeO c' qual) :=
  ⟨x, codeRec_got x, fun h1 h2 y k => codeRec_one y k⟩
/-- the table of the law's code at P: ps, the lambda at lpos there or not -/
def Tab (n0 : Nat) (P : Addr) (lpos : Pos) (qual : Str) (H : Hp) : Prop := ∃ ps : Array Value, H P = some (.tbl ps) ∧ TriplesOk ps.toList ∧ (codeAmong lpos ps.toList = none ∨ ∃ c', codeAmong lpos ps.toList = some (.ref c') ∧ H c' = some (codeO c' qual) ∧ n0 ≤ c')
theorem triples_snoc : ∀ (l : List Value), TriplesOk l → ∀ (i j : Int) (t u : Tok) (c : Value), TriplesOk (l ++ [.int i t, .int j u, c])
  | [], _, _, _, _, _, _ => trivial
  | .int _ _ :: .int _ _ :: _ :: rest, h, i, j, t, u, c => triples_snoc rest h i j t u c
  | .none :: _, h, _, _, _, _, _ => h.elim
/-- all but what lies at p -/
def SameP (p : Addr) (H H' : Hp) : Prop := ∀ b u, b ≠ p → H b = some u → H' b = some u
section
variable {X : Cx} {pins : List (Addr × Obj)} {σ : St} {H : Hp} {s : Shared} {c P : Addr} {params : Arguments} {body : Expr} {scope : Scope} {lpos : Pos} {clos : List (Str × Addr)} {Q : Value → Shared → Prop}
end
end L2

set_option Elab.async false
set_option linter.all false
set_option maxRecDepth 100000
namespace L2
open PySem PySem.Spec PyProof.Rows
/-- the base of a call: all that is neither tracked nor a frame -/
def baseOf (l : List Env) (H : Hp) (h : Heap) : Heap := PySem.W.hideAll h (trk h H ++ frs l)
theorem mem_trk {h : Heap} {H : Hp} {b : Addr} : b ∈ trk h H → ∃ u, H b = some u := fun hb => by
  unfold trk at hb
  exact Option.isSome_iff_exists.mp (List.mem_filter.mp hb).2
section
variable {X : Cx} {pins : List (Addr × Obj)} {σ : St} {H : Hp} {s : Shared}
theorem base_get {l : List Env} {h : Heap} {b : Addr} {o : Obj} (e : h.get? b = some o) (n : H b = none) (hf : b ∉ frs l) : (baseOf l H h).get? b = some o :=
  PySem.W.hideAll_get _ e fun hm => by
    rcases List.mem_append.mp hm with z | z
    · obtain ⟨u, q⟩ := mem_trk z
      rw [n] at q; cases q
    · exact hf z
theorem Inv.rebase (I : Inv X pins σ H s) : Env0 X.prog X.w X.K X.mg (baseOf X.stack H s.heap) X.A X.stack s H := by
  have sub : ∀ b o, X.base.get? b = some o → (baseOf X.stack H s.heap).get? b = some o := fun b o e => base_get (I.bs b o e).1 (I.bs b o e).2 fun hm => by
    have := (I.stack.mem hm).1
    rw [e] at this; cases this
  refine ⟨I.ok.frames, ⟨I.mod.kin.keeps sub, I.mod.glob.keeps sub, ?_, I.mod.nolimit.keeps sub⟩, fun b o e => ?_, Nat.le_of_eq (PySem.W.hideAll_size _ _), PySem.W.funFrames_hide I.stack fun env he a ha => List.mem_append_right _ (List.mem_filterMap.mpr ⟨env, he, ha⟩), I.stkFree, I.hok, I.bare⟩
  · obtain ⟨mb, h1, h2⟩ := I.mod.blt
    exact ⟨mb, h1.keeps sub, h2⟩
  · have e1 := PySem.W.of_hideAll _ e
    refine ⟨e1, ?_⟩
    cases q : H b with
    | none => rfl
    | some u =>
      have hm : b ∈ trk s.heap H := by
        unfold trk
        exact List.mem_filter.mpr ⟨List.mem_range.mpr (Heap.lt_size e1), by rw [q]; rfl⟩
      have := PySem.W.hideAll_none (trk s.heap H ++ frs X.stack) (h := s.heap) (List.mem_append_left _ hm)
      unfold baseOf at e
      rw [this] at e
      cases e
/-- the code at c' is no longer tracked -/
def offH (H : Hp) (c' : Addr) : Hp := fun b => if b = c' then none else H b
theorem offH_ne {H : Hp} {b c' : Addr} (h : b ≠ c') : offH H c' b = H b := if_neg h
theorem offH_same {H : Hp} {c' : Addr} : offH H c' c' = none := if_pos rfl
theorem Inv.untrack {c' : Addr} {qual : Str} (I : Inv X pins σ H s) (hc : H c' = some (codeO c' qual)) : Inv X pins σ (offH H c') s := by
  have ne : ∀ b u, H b = some u → (∀ q, u ≠ codeO b q) → b ≠ c' := fun b u e n q => by
    subst q
    rw [hc] at e
    exact n _ (Option.some.inj e).symm
  refine I.step (h' := s.heap) (g' := s.gens) (d' := s.drawn) (t' := s.toks) (ch := []) (fun _ z => nomatch z) (fun _ _ _ _ _ e _ => e) (fun _ o _ _ _ e _ => ⟨o.slots, e⟩) (fun b o _ e n => ?_) (fun b o _ e => ⟨o, e⟩) (fun b xs e => ?_) (fun b o u e => ?_) (fun b ps e => ?_) (fun _ hm => hm) (fun a o e => ?_) I.bare
  · by_cases q : b = c'
    · rw [q]; exact offH_same
    · rw [offH_ne q]; exact n
  · rw [offH_ne (ne b _ e fun q z => by unfold codeO at z; cases z)]; exact e
  · rw [offH_ne (ne b _ e fun q z => by unfold codeO at z; cases z)]; exact e
  · exact ⟨#[], by rw [offH_ne (ne b _ e fun q z => by unfold codeO at z; cases z), e]; simp⟩
  · by_cases q : a = c'
    · rw [q, offH_same] at e; cases e
    · rw [offH_ne q] at e
      refine (I.hok a o e).stay (fun _ _ _ z => z) (fun b z => ?_) fun b xs z => ?_
      · rw [offH_ne (ne b _ z fun q z => by unfold codeO at z; cases z)]; exact z
      · rw [offH_ne (ne b _ z fun q z => by unfold codeO at z; cases z)]; exact z
/-- the promise of _law_word for a lambda that is refused -/
def spW (word : Str) (Rd : List V → Hp → Prop) (vals : List V) (lam : Addr) : Sp := fun vs H Q _ => vs = [.ref lam] ∧ Rd vals H ∧ ∀ H', Same H H' → Q (.str word) H'
end
end L2

set_option Elab.async false
set_option linter.all false
set_option maxRecDepth 100000
namespace L2
open PySem PySem.Spec PyProof.Rows
/-- no code at a place yet -/
def NoAt (P : Addr) (lp : Pos) (H : Hp) : Prop := ∃ ps : Array Value, H P = some (.tbl ps) ∧ TriplesOk ps.toList ∧ codeAmong lp ps.toList = none
theorem NoAt.tab {n0 : Nat} {P : Addr} {lp : Pos} {qual : Str} {H : Hp} (h : NoAt P lp H) : Tab n0 P lp qual H := let ⟨ps, h1, h2, h3⟩ := h; ⟨ps, h1, h2, .inl h3⟩
section
variable {X : Cx} {pins : List (Addr × Obj)} {σ : St} {H : Hp} {s : Shared} {c P : Addr} {params : Arguments} {body : Expr} {scope : Scope} {lpos : Pos} {clos : List (Str × Addr)} {Q : Value → Shared → Prop}
end
section
variable {X : Cx} {pins : List (Addr × Obj)} {σ : St} {H : Hp} {s : Shared}
end
end L2

set_option Elab.async false
set_option linter.all false
set_option maxRecDepth 100000
namespace L2
open PySem PySem.Spec PyProof.Rows
/-- an own class of errors, by what the written part tells of it -/
theorem own_K {K : PySem.W.Frag} {h : Heap} {mg : Str → Option Value} {x : Str} {C : Addr} {bmB : List Value} {newId : String} (X : K.In h) (G : h.Ns mainGlobals mg) (e : PySem.W.nsIn K mainGlobals x = some (some (.ref C))) (q : PySem.W.excIn K C bmB newId = true) : OwnCls x C bmB newId mg h where
  bound := PySem.W.mg_of X G e
  obj := by
    cases hl : K.lookup C with
    | none => rw [PySem.W.excIn, hl] at q; cases q
    | some ob =>
      have there := X C ob hl
      rw [PySem.W.excIn, hl] at q
      split at q
      · next d9 k9 s9 e9 =>
        cases e9
        split at q
        · next C9 tl a0 a1 a2 a3 i9 a5 m9 l9 =>
          have parts := q
          repeat rw [Bool.and_eq_true] at parts
          obtain ⟨⟨⟨⟨⟨p1, p2⟩, p3⟩, p4⟩, p5⟩, p6⟩ := parts
          rw [beq_iff_eq] at p1 p2 p6
          rw [Bool.not_eq_true'] at p3
          cases k9
          cases s9
          simp only at m9 l9 p3 p5 p6
          subst p1 p2 m9 l9 p3
          exact ⟨_, _, _, _, _, _, _, _, _, _, _, _, _, _, _, _, _, there, Heap.Ns.of_isNs (PySem.W.isNs_of_in X p5), PySem.W.nsMap_none_of_in X p5 p6, PySem.W.tail_of_in X p4⟩
        · cases q
      · cases q
/-- the abstract heap at the entry: the script, perhaps, and the table at P -/
def OnlyT (P : Addr) (H : Hp) : Prop := H P = some (.tbl #[]) ∧ ∀ b, b ≠ P → H b = none ∨ ∃ o xs, H b = some (.frz o (.lst xs))
theorem law_callT {Pr : Program} {w : World} {K : PySem.W.Frag} {mg mb : Str → Option Value} {CX : CXT} {k : Nat} {fa a c P : Addr} {fd : FuncData} {x : Str} {sp : Sp} {s₁ : Shared} {vs : List Value} {ns : List Int}
    (KX : K.In s₁.heap) (hns : s₁.heap.Ns mainGlobals mg) (hb : s₁.heap.Ns builtinsNs mb) (hbb : ∀ x : Str, x ≠ "__name__" → mb x = bootBuiltins x) (hlim : s₁.heap.NoLimit) (hg : s₁.gens = #[])
    (hcd : PySem.W.CodeHd s₁.heap c P) (hP : s₁.heap.get? P = some (PySem.W.tabObj #[])) (hPK : K.lookup P = none) (hbm : s₁.heap.BuiltinsAt mg P)
    (ha : s₁.heap.get? a = some { cls := .type "list", data := .seq vs.toArray }) (hi : IntsAre vs ns) (hl : ns.length ≤ sizeLine) (hr : Room k callerA)
    (F : ∀ base : Heap, K.In base → base.Ns mainGlobals mg → PySem.W.CodeHd base c P → base.BuiltinsAt mg P → FnOk Pr w K mg base CX k fa fd [x] sp) (hbind : ∀ (s : Shared) (u : Value), BindsTo s fd ⟨[u], []⟩ [(x, u)])
    (hsp : ∀ H : Hp, OnlyT P H → SqL K H a (ns.map V.int) → sp [.ref a] H (fun v _ => v = .bl true) fun _ _ _ => False)
    (hCX : ∀ H e s', CX [] H s₁ (fun _ _ _ => False) e s' → False) :
    codeAny (model Pr w) callerA (.call (.ref fa) ⟨[.ref a], []⟩) (fun r s' => r = .ok (.ret (.bool true)) ∧ OldK s₁.heap s'.heap ∧ s'.os = s₁.os ∧ AllBare s'.gens) s₁ := by
  have rv := vals_ints hi
  have lenV := hi.length
  have haP : a ≠ P := fun q => by rw [q, hP] at ha; cases ha
  have run : ∀ H : Hp, OnlyT P H → SqL K H a (ns.map V.int) → HOk Pr w H s₁.heap → (∀ b, H b ≠ none → b = a ∨ b = P) → (H a ≠ none → K.lookup a = none) →
      codeAny (model Pr w) callerA (.call (.ref fa) ⟨[.ref a], []⟩) (fun r s' => r = .ok (.ret (.bool true)) ∧ OldK s₁.heap s'.heap ∧ s'.os = s₁.os ∧ AllBare s'.gens) s₁ := fun H hO hS hok hA hK => by
    have off : ∀ {b : Addr} {o : Obj}, s₁.heap.get? b = some o → b ≠ a → b ≠ P → H b = none := fun {b o} e h1 h2 => by
      cases q : H b with
      | none => rfl
      | some u => rcases hA b (by rw [q]; simp) with z | z
                  · exact (h1 z).elim
                  · exact (h2 z).elim
    have offD : ∀ {b : Addr} {o : Obj} {es : Array DictEntry} {ep : Nat}, s₁.heap.get? b = some o → o.data = .dict es ep → H b = none := fun {b o es ep} e d => by
      refine off e (fun q => ?_) fun q => ?_
      · rw [q, ha] at e; cases e; cases d
      · rw [q, hP] at e; cases e; cases d
    have nsK : ∀ {b : Addr} {m : Str → Option Value}, s₁.heap.Ns b m → (hidT s₁.heap H).Ns b m := fun {b m} ⟨o, es, ep, e, d, r⟩ => ⟨o, es, ep, hidT_get e (offD e d), d, r⟩
    have kb : K.In (hidT s₁.heap H) := fun b o e => hidT_get (KX b o e) (by
      cases q : H b with
      | none => rfl
      | some u => rcases hA b (by rw [q]; simp) with z | z
                  · subst z; rw [hK (by rw [q]; simp)] at e; cases e
                  · subst z; rw [hPK] at e; cases e)
    have cb : PySem.W.CodeHd (hidT s₁.heap H) c P := by
      obtain ⟨o, vs', file, tf, flags, tg, inF, text, tt, e1, e2, e3, r⟩ := hcd
      refine ⟨o, vs', file, tf, flags, tg, inF, text, tt, hidT_get e1 (off e1 (fun q => ?_) r.2.2.2.2.2.2), e2, e3, r⟩
      rw [q, ha] at e1; cases e1; cases e3
    have bb : (hidT s₁.heap H).BuiltinsAt mg P := by
      obtain ⟨bm, o, h1, h2, h3, h4, h5, h6, h7, h8⟩ := hbm
      refine ⟨bm, o, h1, h2, h3, h4, hidT_get h5 (off h5 (fun q => ?_) h4), h6, h7, h8⟩
      rw [q, ha] at h5; cases h5; cases h8
    have e0 : Env0 Pr w K mg (hidT s₁.heap H) callerA [] s₁ H := ⟨rfl, ⟨kb, nsK hns, ⟨mb, nsK hb, hbb⟩, let ⟨mc, h1, h2⟩ := hlim; ⟨mc, nsK h1, h2⟩⟩, fun b o e => of_hidT e, Nat.le_of_eq (hidT_size _ _), trivial, fun b hb => absurd (show b ∈ ([] : List Addr) from hb) (by simp), hok, .of_eq hg⟩
    refine codeAny_mono ((F _ kb (nsK hns) cb bb).run callerA [] s₁ H ⟨[.ref a], []⟩ [.ref a] [.ref a] _ _ hr e0 (hbind s₁ (.ref a)) (.cons rfl .nil) (hsp H hO hS)) fun r s' h => ?_
    cases r with
    | error e => exact (hCX H e s' h).elim
    | ok fl =>
      cases fl with
      | next => exact False.elim h
      | brk => exact False.elim h
      | cont => exact False.elim h
      | ret u =>
        obtain ⟨v, H', os, bare, un, hok', r', q⟩ := h
        have q' : v = .bl true := q
        subst q'
        obtain rfl : u = Value.bool true := r'
        have tabc : isCodeTable s₁.heap P := (hcd.tab hP).isCodeTable
        refine ⟨rfl, ⟨fun b o e => ?_, fun b o e => un.there b o e (by simp)⟩, os, bare⟩
        by_cases qP : b = P
        · subst qP
          rw [hP] at e
          cases e
          obtain ⟨more, e1⟩ := un.tbls b _ hO.1
          exact .inr (.inl ⟨tabc, rfl, #[], more, rfl, hok' b _ e1⟩)
        · cases qb : H b with
          | none => exact .inl (un.keep b o e qb (by intro z; exact absurd (show b ∈ ([] : List Addr) from z) (by simp)) (by simp))
          | some u =>
            rcases hO.2 b qP with z | ⟨ob, xs, z⟩
            · rw [qb] at z; cases z
            · obtain ⟨e1, _⟩ := hok b _ z
              obtain ⟨e2, _⟩ := hok' b _ (un.frzs b ob _ z)
              rw [e] at e1; cases e1
              exact .inl e2
  cases hk : K.lookup a with
  | some o =>
    have e := KX a o hk
    rw [ha] at e
    cases e
    refine run (fun b => if b = P then some (.tbl #[]) else none) ⟨if_pos rfl, fun b q => .inl (if_neg q)⟩ (.inr ⟨_, vs.toArray, _, hk, rfl, rfl, rfl, by rw [List.size_toArray, lenV]; exact hl, by simpa using rv⟩) (fun b u z => ?_) (fun b z => ?_) fun z => absurd (if_neg haP) z
    · by_cases q : b = P
      · subst q
        have z' := (if_pos rfl).symm.trans z
        cases z'
        exact hP
      · have z' := (if_neg q).symm.trans z
        cases z'
    · by_cases q : b = P
      · exact .inr q
      · exact absurd (if_neg q) z
  | none =>
    refine run (fun b => if b = P then some (.tbl #[]) else if b = a then some (.frz { cls := .type "list", data := .seq vs.toArray } (.lst (ns.map V.int))) else none) ⟨if_pos rfl, fun b q => ?_⟩ (.inl (.inr ⟨{ cls := .type "list", data := .seq vs.toArray }, (if_neg haP).trans (if_pos rfl)⟩)) (fun b u z => ?_) (fun b z => ?_) fun _ => hk
    · by_cases q2 : b = a
      · exact .inr ⟨_, _, (if_neg q).trans (if_pos q2)⟩
      · exact .inl ((if_neg q).trans (if_neg q2))
    · by_cases q : b = P
      · subst q
        have z' := (if_pos rfl).symm.trans z
        cases z'
        exact hP
      · by_cases q2 : b = a
        · have z' := ((if_neg q).trans (if_pos q2)).symm.trans z
          cases z'
          subst q2
          exact ⟨ha, by rw [List.length_map]; exact hl, vs, _, rv, ha⟩
        · have z' := ((if_neg q).trans (if_neg q2)).symm.trans z
          cases z'
    · by_cases q : b = P
      · exact .inr q
      · by_cases q2 : b = a
        · exact .inl q2
        · exact absurd ((if_neg q).trans (if_neg q2)) z
end L2

set_option Elab.async false
set_option linter.all false
set_option maxRecDepth 100000
namespace L2
open PySem PySem.Spec PyProof.Rows
section
variable {P : Program} {w : World} {K : PySem.W.Frag} {mg : Str → Option Value} {base : Heap}
theorem Fun.okX {CX : CXT} {x qual : Str} {st : Stmt} {f : Addr} {fd : FuncData} {N ps : List Str} {k : Nat} {sp : Sp} (F : Fun K x qual st f fd) (S : FnScope N ps (defScope st)) (len : ∀ vs H Q E, sp vs H Q E → vs.length = ps.length)
    (hbody : ∀ (cdv : Value) (A : Around) (outer : List Env) (s : Shared) (H : Hp) (vs : List V) (Q : VK) (E : XK), Room k (A.deeper (envOfC qual (defScope st) s.heap.objs.size f cdv)) → sp vs H Q E →
      ∃ t, PSs (cxOf CX P w K mg base N qual (defScope st) f cdv A outer s H E) (defBody st) t ∧ t { nx := fun _ H' => Q .non H', rt := Q } (start N vs) H) : FnOk P w K mg base CX (k + 1) f fd ps sp := by
  obtain ⟨oc, od, kV, doc, pm, an, cdv, ct, osl, rfl, lk, hcd⟩ := F.ex
  exact fn_of lk hcd S len fun A outer s H vs Q E hr hsp => hbody cdv A outer s H vs Q E hr hsp
theorem Fun.okC {c : Addr} {x qual : Str} {st : Stmt} {f : Addr} {fd : FuncData} {N ps : List Str} {k : Nat} {sp : Sp} (F : Fun K x qual st f fd) (hc : fd.code = .ref c) (S : FnScope N ps (defScope st)) (len : ∀ vs H Q E, sp vs H Q E → vs.length = ps.length)
    (hbody : ∀ (A : Around) (outer : List Env) (s : Shared) (H : Hp) (vs : List V) (Q : VK) (E : XK), Room k (A.deeper (envOfC qual (defScope st) s.heap.objs.size f (.ref c))) → sp vs H Q E →
      ∃ t, PSs (cxOf CX0 P w K mg base N qual (defScope st) f (.ref c) A outer s H E).nox (defBody st) t ∧ t { nx := fun _ H' => Q .non H', rt := Q } (start N vs) H) : FnOk P w K mg base CX0 (k + 1) f fd ps sp := by
  obtain ⟨oc, od, kV, doc, pm, an, cdv, ct, osl, rfl, lk, hcd⟩ := F.ex
  have hc' : cdv = .ref c := hc
  subst hc'
  refine fn_of lk hcd S len fun A outer s H vs Q E hr hsp => ?_
  obtain ⟨t, h, q⟩ := hbody A outer s H vs Q E hr hsp
  exact ⟨t, h.nox, q⟩
end
theorem lamScope_of {scope : Scope} {cl : List (Str × Addr)} (h1 : scope.kind = .function) (h2 : scope.isCoroutine = false) (h3 : scope.isGenerator = false) (h4 : (scope.names.all fun p => p.2 != .cell) = true) (h5 : (scope.names.all fun p => (p.2 != .free) || (cl.lookup p.1).isSome) = true) : LamScope scope cl := by
  have nc : ∀ x ∈ scope.names, x.2 ≠ .cell := fun x hx => by
    have := List.all_eq_true.mp h4 x hx
    simpa using this
  refine ⟨h1, h2, h3, nc, fun x h => ?_⟩
  rcases h with h | h
  · exact absurd rfl (nc _ (PySem.mem_of_lookup h))
  · have := List.all_eq_true.mp h5 _ (PySem.mem_of_lookup h)
    have h' : (cl.lookup x).isSome = true := by simpa using this
    exact Option.isSome_iff_exists.mp h'
end L2

set_option Elab.async false
set_option linter.all false
set_option maxRecDepth 100000
namespace L2
open PySem PySem.Spec PyProof.Rows
/-- what comes behind a statement that never ends -/
theorem pss_any {X : Cx} {rest : List Stmt} : PSs X rest (fun _ _ _ => False) := fun _ _ _ _ _ _ h => h.elim
theorem among_keep {lpos lp : Pos} {c : Value} (l : List Value) (h : TriplesOk l) (hne : ¬ (lpos.line = lp.line ∧ lpos.col = lp.col)) : codeAmong lp (l ++ [rawInt lpos.line, rawInt lpos.col, c]) = codeAmong lp l := by
  fun_induction TriplesOk l with
  | case1 =>
    simp only [List.nil_append, codeAmong, rawInt]
    rw [if_neg (by
      intro q
      rw [Bool.and_eq_true] at q
      have q1 := eq_of_beq q.1
      have q2 := eq_of_beq q.2
      exact hne ⟨by omega, by omega⟩)]
  | case2 a t b u x rest ih =>
    simp only [List.cons_append, codeAmong]
    split
    · rfl
    · exact ih h
  | case3 l h1 h2 => exact h.elim
/-- a lambda that is tracked -/
def lamO (lam : Addr) (o : Obj) : HO := .ext fun h => h.get? lam = some o
theorem lamO_ok {P : Program} {w : World} {H : Hp} {h : Heap} {lam : Addr} {o : Obj} (x : h.get? lam = some o) : ObjOk P w H h lam (lamO lam o) := ⟨x, ⟨o, x⟩, fun h1 h2 y k => k _ y⟩
/-- tracked at the entry or made since -/
def Trk (X : Cx) (c' : Addr) : Prop := X.H_0 c' ≠ none ∨ X.s_0.heap.objs.size ≤ c'
/-- the table at P, the lambdas' places among lps -/
def Tabs (T : Addr → Prop) (P : Addr) (lps : List Pos) (qual : Str) (H : Hp) : Prop := ∃ ps : Array Value, H P = some (.tbl ps) ∧ TriplesOk ps.toList ∧ ∀ lp ∈ lps, codeAmong lp ps.toList = none ∨ ∃ c', codeAmong lp ps.toList = some (.ref c') ∧ H c' = some (codeO c' qual) ∧ T c'
/-- the places are apart -/
def Far (lps : List Pos) : Prop := ∀ a ∈ lps, ∀ b ∈ lps, (a.line = b.line ∧ a.col = b.col) → a = b
section
variable {X : Cx} {pins : List (Addr × Obj)} {σ : St} {H : Hp} {s : Shared} {c P : Addr} {params : Arguments} {body : Expr} {scope : Scope} {lpos : Pos} {clos : List (Str × Addr)}
def kob (X : Cx) (params : Arguments) (body : Expr) (scope : Scope) (clos : List (Str × Addr)) (c' : Addr) (ctv : Value) : Obj := PySem.W.kla_obj "<lambda>" (X.env.qual ++ "<lambda>") params body scope clos ((X.mg "__name__").getD .none) c' ctv
theorem pe_lam {lps : List Pos} (hdef : defaultsOf params X.env = ([], [])) (hcl : closureFor scope X.env = pure clos) (hcode : X.env.code = .ref c) (C : PySem.W.CodeHd X.base c P) (hbm : X.base.BuiltinsAt X.mg P) (hin : lpos ∈ lps) (far : Far lps) :
    PE X (.Lambda params body scope lpos) (fun σ H Q => Tabs (Trk X) P lps (X.env.qual ++ "<lambda>") H ∧ ∀ lam c' ctv H1, Tabs (Trk X) P lps (X.env.qual ++ "<lambda>") H1 → SameP P H H1 → H1 lam = some (lamO lam (kob X params body scope clos c' ctv)) → H1 c' = some (codeO c' (X.env.qual ++ "<lambda>")) → Trk X c' → X.s_0.heap.objs.size ≤ lam → lam ≠ c' → Q (.ref lam) H1) := by
  intro pins s σ H Q I ⟨⟨ps, hP, ht, hlp⟩, h⟩
  have hb := hbm.keeps I.bk
  have hPg : s.heap.get? P = some (PySem.W.tabObj ps) := I.hok P _ hP
  have hgs : s.heap.Ns mainGlobals X.mg := I.mod.glob.keeps I.bk
  have hgP : mainGlobals ≠ P := fun q => by
    obtain ⟨o, es, ep, e, hd, _⟩ := hgs
    rw [q, hPg] at e; cases e; cases hd
  have hsz : X.s_0.heap.objs.size ≤ s.heap.objs.size := I.sz
  refine PySem.W.kla_eval hdef ?_
  rcases hlp lpos hin with hn | ⟨c', hf, hc', hc0⟩
  · refine PySem.W.kla_makeFunction (mg := X.mg) hcl I.ok.glob hgs hcode (C.keeps I.bk) hPg ht hn hgP hb fun c' ctv h' tk hx hge hlt hrec htb => ?_
    have hPne : ∀ b o, s.heap.get? b = some o → H b = none → b ≠ P := fun b o e n q => by rw [q, hP] at n; cases n
    have hc0 : H c' = none := I.hok.fresh hge
    have hcP : c' ≠ P := fun q => by rw [q, hP] at hc0; cases hc0
    have kp : ∀ b o, b ≠ P → s.heap.get? b = some o → (h'.push (kob X params body scope clos c' ctv)).get? b = some o := fun b o hb e => Heap.get?_push_of_some _ (hx b o hb e)
    have hlam : ∀ u, H h'.objs.size ≠ some u := fun u q => absurd (Nat.lt_of_lt_of_le (I.hok.lt q) (Nat.le_trans hge (Nat.le_of_lt hlt))) (Nat.lt_irrefl _)
    have hlamN : H h'.objs.size = none := by
      cases q : H h'.objs.size with
      | none => rfl
      | some u => exact absurd q (hlam u)
    have l1 : h'.objs.size ≠ c' := Nat.ne_of_gt hlt
    have l2 : h'.objs.size ≠ P := fun q => hlam _ (by rw [q]; exact hP)
    have neL : ∀ {b u}, H b = some u → b ≠ h'.objs.size := fun {b u} e q => by rw [q, hlamN] at e; cases e
    have neC : ∀ {b u}, H b = some u → b ≠ c' := fun {b u} e q => by rw [q, hc0] at e; cases e
    refine ⟨.ref h'.objs.size, upd (upd (upd H P (.tbl (ps ++ #[rawInt lpos.line, rawInt lpos.col, .ref c']))) c' (codeO c' (X.env.qual ++ "<lambda>"))) h'.objs.size (lamO h'.objs.size (kob X params body scope clos c' ctv)), (I.step (g' := s.gens) (d' := s.drawn) (t' := tk) (ch := []) (fun _ z => nomatch z) (fun b o _ _ _ e n => kp b o (hPne b o e n) e) (fun b o _ _ _ e n => ⟨o.slots, kp b o (hPne b o e n) e⟩) (fun b o _ e n => ?_) (fun b o _ e => ?_) (fun b xs e => ?_) (fun b o u e => ?_) (fun b qs e => ?_) (fun m hm => ?_) ?_ I.bare), rfl, h h'.objs.size c' ctv _ ⟨ps ++ #[rawInt lpos.line, rawInt lpos.col, .ref c'], ?_, ?_, fun lp hm => ?_⟩ (fun b u hb e => ?_) upd_same ?_ (.inr (Nat.le_trans hsz hge)) (Nat.le_trans hsz (Nat.le_trans hge (Nat.le_of_lt hlt))) l1⟩
    · have hlt' : b < s.heap.objs.size := Heap.lt_size e
      rw [upd_ne (Nat.ne_of_lt (Nat.lt_of_lt_of_le hlt' (Nat.le_trans hge (Nat.le_of_lt hlt)))), upd_ne (Nat.ne_of_lt (Nat.lt_of_lt_of_le hlt' hge)), upd_ne (hPne b o e n)]
      exact n
    · by_cases q : b = P
      · exact ⟨_, by rw [q]; exact Heap.get?_push_of_some _ htb⟩
      · exact ⟨o, kp b o q e⟩
    · have h1 : b ≠ P := fun q => by rw [q, hP] at e; cases e
      rw [upd_ne (neL e), upd_ne (neC e), upd_ne h1]
      exact e
    · have h1 : b ≠ P := fun q => by rw [q, hP] at e; cases e
      rw [upd_ne (neL e), upd_ne (neC e), upd_ne h1]
      exact e
    · by_cases q : b = P
      · have e' := e
        rw [q, hP] at e
        cases e
        exact ⟨_, by rw [upd_ne (neL e'), upd_ne (neC e'), q, upd_same]⟩
      · exact ⟨#[], by rw [upd_ne (neL e), upd_ne (neC e), upd_ne q, e]; simp⟩
    · exact (hm.extBut hx (fun q => by have := I.free; rw [q, hP] at this; cases this)).push _
    · intro a o e
      by_cases q0 : a = h'.objs.size
      · subst q0
        rw [upd_same] at e
        cases e
        exact lamO_ok (Heap.get?_push_size _ rfl)
      rw [upd_ne q0] at e
      by_cases q1 : a = c'
      · subst q1
        rw [upd_same] at e
        cases e
        exact codeO_ok (hrec.keeps fun b o e => Heap.get?_push_of_some _ e)
      · rw [upd_ne q1] at e
        by_cases q2 : a = P
        · subst q2
          rw [upd_same] at e
          cases e
          exact Heap.get?_push_of_some _ htb
        · rw [upd_ne q2] at e
          refine (I.hok a o e).stay (fun b u hb z => kp b u ?_ z) (fun b z => ?_) fun b xs z => ?_
          · rcases hb with rfl | hb
            · exact q2
            · exact fun q => by rw [q, hP] at hb; cases hb
          · have h1 : b ≠ P := fun q => by rw [q, hP] at z; cases z
            rw [upd_ne (neL z), upd_ne (neC z), upd_ne h1]
            exact z
          · have h1 : b ≠ P := fun q => by rw [q, hP] at z; cases z
            rw [upd_ne (neL z), upd_ne (neC z), upd_ne h1]
            exact z
    · rw [upd_ne l2.symm, upd_ne hcP.symm, upd_same]
    · rw [Array.toList_append]
      exact triples_snoc _ ht _ _ _ _ _
    · rw [Array.toList_append]
      by_cases q : lpos.line = lp.line ∧ lpos.col = lp.col
      · have := far lpos hin lp hm q
        subst this
        refine .inr ⟨c', codeAmong_snoc _ ht hn, ?_, .inr (Nat.le_trans hsz hge)⟩
        rw [upd_ne l1.symm, upd_same]
      · rw [show (#[rawInt lpos.line, rawInt lpos.col, Value.ref c'] : Array Value).toList = [rawInt lpos.line, rawInt lpos.col, .ref c'] from rfl, among_keep _ ht q]
        rcases hlp lp hm with z | ⟨d, z1, z2, z3⟩
        · exact .inl z
        · refine .inr ⟨d, z1, ?_, z3⟩
          have h1 : d ≠ P := fun q => by rw [q, hP] at z2; unfold codeO at z2; cases z2
          rw [upd_ne (neL z2), upd_ne (neC z2), upd_ne h1]
          exact z2
    · rw [upd_ne (neL e), upd_ne (neC e), upd_ne hb]
      exact e
    · rw [upd_ne l1.symm, upd_same]
  · refine PySem.W.kla_makeFunctionHit (mg := X.mg) hcl I.ok.glob hgs hcode (C.keeps I.bk) hPg ht hf hb fun ctv h' tk hk hsz' => ?_
    have hlamN : H h'.objs.size = none := by
      cases q : H h'.objs.size with
      | none => rfl
      | some u => exact absurd (Nat.lt_of_lt_of_le (I.hok.lt q) hsz') (Nat.lt_irrefl _)
    have neL : ∀ {b u}, H b = some u → b ≠ h'.objs.size := fun {b u} e q => by rw [q, hlamN] at e; cases e
    refine ⟨.ref h'.objs.size, upd H h'.objs.size (lamO h'.objs.size (kob X params body scope clos c' ctv)), I.laid (t' := tk) (fun b o e => Heap.get?_push_of_some _ (hk b o e)) hsz' (lamO_ok (Heap.get?_push_size _ rfl)), rfl, h h'.objs.size c' ctv _ ⟨ps, by rw [upd_ne (neL hP)]; exact hP, ht, fun lp hm => ?_⟩ (fun b u _ e => by rw [upd_ne (neL e)]; exact e) upd_same (by rw [upd_ne (neL hc')]; exact hc') hc0 (Nat.le_trans hsz hsz') (neL hc').symm⟩
    rcases hlp lp hm with z | ⟨d, z1, z2, z3⟩
    · exact .inl z
    · exact .inr ⟨d, z1, by rw [upd_ne (neL z2)]; exact z2, z3⟩
/-- a written lambda -/
structure LamE where
  params : Arguments
  body : Expr
  scope : Scope
  lpos : Pos
def LamE.e (b : LamE) : Expr := .Lambda b.params b.body b.scope b.lpos
def LamE.of : Expr → List LamE
  | .Lambda p b s q => [⟨p, b, s, q⟩]
  | _ => []
/-- the lambda b, made, lies at lam -/
def Lamb (X : Cx) (clos : List (Str × Addr)) (H : Hp) (lam : Addr) (b : LamE) : Prop := ∃ c' ctv, H lam = some (lamO lam (kob X b.params b.body b.scope clos c' ctv)) ∧ H c' = some (codeO c' (X.env.qual ++ "<lambda>")) ∧ Trk X c' ∧ X.s_0.heap.objs.size ≤ lam ∧ lam ≠ c'
theorem Lamb.keep {H1 : Hp} {lam : Addr} {b : LamE} {ps : Array Value} (h : Lamb X clos H lam b) (s : SameP P H H1) (hP : H P = some (.tbl ps)) : Lamb X clos H1 lam b := by
  obtain ⟨c', ctv, h1, h2, h3, h4, h5⟩ := h
  exact ⟨c', ctv, s _ _ (fun q => by rw [q, hP] at h1; unfold lamO at h1; cases h1) h1, s _ _ (fun q => by rw [q, hP] at h2; unfold codeO at h2; cases h2) h2, h3, h4, h5⟩
def tLams (X : Cx) (clos : List (Str × Addr)) (P : Addr) (lps : List Pos) (bods : List LamE) : TA := fun σ H Q => Tabs (Trk X) P lps (X.env.qual ++ "<lambda>") H ∧ ∀ (lams : List Addr) (H1 : Hp), lams.length = bods.length → Tabs (Trk X) P lps (X.env.qual ++ "<lambda>") H1 → SameP P H H1 → (∀ (i : Nat) (lam : Addr) (b : LamE), lams[i]? = some lam → bods[i]? = some b → Lamb X clos H1 lam b) → Q (lams.map V.ref) H1
theorem pa_lams {lps : List Pos} (hcode : X.env.code = .ref c) (C : PySem.W.CodeHd X.base c P) (hbm : X.base.BuiltinsAt X.mg P) (far : Far lps) : ∀ (bods : List LamE), (∀ b ∈ bods, defaultsOf b.params X.env = ([], []) ∧ closureFor b.scope X.env = pure clos ∧ b.lpos ∈ lps) → PA X (bods.map LamE.e) (tLams X clos P lps bods)
  | [], _ => fun pos pins s σ H Q I ⟨hT, h⟩ => pa_nil pos pins s σ H Q I (h [] H rfl hT (fun _ _ _ e => e) fun i lam b e => by simp at e)
  | b :: bs, hb => fun pos pins s σ H Q I ⟨hT, h⟩ => by
    obtain ⟨h1, h2, h3⟩ := hb b List.mem_cons_self
    have ih := pa_lams hcode C hbm far bs fun x hx => hb x (List.mem_cons_of_mem _ hx)
    refine pa_cons (pe_lam (params := b.params) (body := b.body) (scope := b.scope) (lpos := b.lpos) h1 h2 hcode C hbm h3 far) ih rfl pos pins s σ H Q I ⟨hT, fun lam c' ctv H1 hT1 s1 l1 l2 l3 l4 l5 => ⟨hT1, fun lams H2 hl hT2 s2 hall => ?_⟩⟩
    obtain ⟨ps1, hP1, _⟩ := id hT1
    refine h (lam :: lams) H2 (by simp [hl]) hT2 (fun b u n e => s2 b u n (s1 b u n e)) fun i x y e1 e2 => ?_
    cases i with
    | zero =>
      cases e1
      cases e2
      exact Lamb.keep ⟨c', ctv, l1, l2, l3, l4, l5⟩ s2 hP1
    | succ i => exact hall i x y e1 e2
theorem Inv.untrackL {lam : Addr} {o : Obj} (I : Inv X pins σ H s) (hc : H lam = some (lamO lam o)) : Inv X pins σ (offH H lam) s := by
  have ne : ∀ b u, H b = some u → (∀ q, u ≠ lamO b q) → b ≠ lam := fun b u e n q => by
    subst q
    rw [hc] at e
    exact n _ (Option.some.inj e).symm
  refine I.step (h' := s.heap) (g' := s.gens) (d' := s.drawn) (t' := s.toks) (ch := []) (fun _ z => nomatch z) (fun _ _ _ _ _ e _ => e) (fun _ o _ _ _ e _ => ⟨o.slots, e⟩) (fun b o _ e n => ?_) (fun b o _ e => ⟨o, e⟩) (fun b xs e => ?_) (fun b o u e => ?_) (fun b ps e => ?_) (fun _ hm => hm) (fun a o e => ?_) I.bare
  · by_cases q : b = lam
    · rw [q]; exact offH_same
    · rw [offH_ne q]; exact n
  · rw [offH_ne (ne b _ e fun q z => by unfold lamO at z; cases z)]; exact e
  · rw [offH_ne (ne b _ e fun q z => by unfold lamO at z; cases z)]; exact e
  · exact ⟨#[], by rw [offH_ne (ne b _ e fun q z => by unfold lamO at z; cases z), e]; simp⟩
  · by_cases q : a = lam
    · rw [q, offH_same] at e; cases e
    · rw [offH_ne q] at e
      refine (I.hok a o e).stay (fun _ _ _ z => z) (fun b z => ?_) fun b xs z => ?_
      · rw [offH_ne (ne b _ z fun q z => by unfold lamO at z; cases z)]; exact z
      · rw [offH_ne (ne b _ z fun q z => by unfold lamO at z; cases z)]; exact z
/-- what was tracked at the entry, or was made since, is tracked again -/
theorem Inv.retrackT {c' : Addr} {φ : Heap → Prop} (I : Inv X pins σ H s) (hn : H c' = none) (h0 : Trk X c') (hl : c' ≠ X.env.locals) (hc : ∀ x c, X.env.cells.lookup x = some c → c ≠ c') (hp : ∀ p ∈ X.pn ++ pins, p.1 ≠ c') (rec : ObjOk X.prog X.w (upd H c' (.ext φ)) s.heap c' (.ext φ)) :
    Inv X pins σ (upd H c' (.ext φ)) s := by
  have ne : ∀ b u, H b = some u → b ≠ c' := fun b u e q => by rw [q, hn] at e; cases e
  refine ⟨I.ok, I.os, I.bare, ⟨I.base.keep, I.base.slot, fun b o e n hx => ?_, I.base.there, fun b xs e => ?_, fun b o u e => ?_, fun b ps e => ?_⟩, I.loc, I.cell, ?_, fun x c e => ?_, fun p hq => ?_, fun a o e => ?_, I.len⟩
  · have hb : b ≠ c' := fun q => by
      subst q
      rcases h0 with z | z
      · exact z n
      · exact absurd (Nat.lt_of_lt_of_le (Heap.lt_size e) z) (Nat.lt_irrefl _)
    rw [upd_ne hb]
    exact I.base.free b o e n hx
  · have := I.base.tups b xs e
    rw [upd_ne (ne _ _ this)]; exact this
  · have := I.base.frzs b o u e
    rw [upd_ne (ne _ _ this)]; exact this
  · obtain ⟨more, this⟩ := I.base.tbls b ps e
    exact ⟨more, by rw [upd_ne (ne _ _ this)]; exact this⟩
  · rw [upd_ne hl.symm]; exact I.free
  · rw [upd_ne (hc x c e)]; exact I.freeC x c e
  · obtain ⟨e1, e2, e3⟩ := I.pin p hq
    exact ⟨e1, by rw [upd_ne (hp p hq)]; exact e2, e3⟩
  · by_cases q : a = c'
    · subst q
      rw [upd_same] at e
      cases e
      exact rec
    · rw [upd_ne q] at e
      refine (I.hok a o e).stay (fun _ _ _ z => z) (fun b z => ?_) fun b xs z => ?_
      · rw [upd_ne (ne b _ z)]; exact z
      · rw [upd_ne (ne b _ z)]; exact z
end
section
variable {X : Cx} {pins : List (Addr × Obj)} {σ : St} {H : Hp} {s : Shared}
/-- _law_word(f), f a lambda of ours -/
theorem pe_wordV {k i : Nat} {fw : Addr} {fdw : FuncData} {x xa xv : Str} {p p2 pos : Pos} {clos : List (Str × Addr)} {N : List Str} {ix : List Nat} {word : Str} {Rd : List V → Hp → Prop} {bods : List LamE}
    (hfn : ∀ y, X.fn y = true) (hin : ∀ q ∈ clos, X.env.cells.lookup q.1 = some q.2)
    (hN : ∀ b ∈ bods, ∀ (i : Nat) (y : Str), N[i]? = some y → ∃ (j : Nat) (cy : Addr), ix[i]? = some j ∧ X.N[j]? = some y ∧ b.scope.names.lookup y = some .free ∧ clos.lookup y = some cy ∧ X.env.kindOf y = some .cell)
    (W : ∀ b ∈ bods, ∀ (base : Heap) (lam c' : Addr) (ctv : Value) (vals : List V), X.K.In base → base.Ns mainGlobals X.mg → Lam base lam "<lambda>" (X.env.qual ++ "<lambda>") b.params b.body b.scope clos ((X.mg "__name__").getD .none) c' ctv N vals → FnOk X.prog X.w X.K X.mg base CX0 k fw fdw [xa] (spW word Rd vals lam))
    (hr : Room k X.A) (hg : Gl X x) (hm : X.mg x = some (.ref fw)) (hk : PySem.W.keepIn X.K (.ref fw) = true) (hb : Binds X.K fdw [xa] [])
    (hv : PE X (.Name xv p2) (tVar i))
    (he : starEach [.Name xv p2] X.env = [(false, eval (.Name xv p2) X.env)] := by rfl) (hdb : (x == ("__debug__" : Str)) = false := by decide) :
    PE X (.Call (.Name x p) [.Name xv p2] [] pos) (fun σ H Q => ∃ lam b, tVar i σ H (fun v H1 => v = .ref lam ∧ H1 = H) ∧ b ∈ bods ∧ Lamb X clos H lam b ∧ ∃ vals : List V, vals.length = N.length ∧ (∀ (i j : Nat) (v : V), vals[i]? = some v → ix[i]? = some j → σ[j]? = some (some v)) ∧ (∀ H2 : Hp, (∀ b u, (∀ φ, u ≠ .ext φ) → H b = some u → H2 b = some u) → Rd vals H2) ∧
      ∀ H2 : Hp, Same H H2 → Q (.str word) H2) := by
  intro pins s σ H Q I ⟨lam, b, hvar, hbm, ⟨c', ctv, hl1, hc1, hc0, hl3, lamc⟩, vals, hlen, hvals, hRd, hQ⟩
  refine wpAny_Call_Name_kw (ld_glob I hg hm ?_ hdb)
  refine PySem.W.callWith_K (h₀ := X.base) I.ok.mod.kin hk ?_ he rfl
  rw [he]
  show wpAny _ _ (spliced (backTo pos [(false, eval (.Name xv p2) X.env)])) _ _ _
  refine Calls.spliced_cons (thn (hv pins s σ H _ I hvar) fun u s1 ⟨v, H1, I1, r1, e1, e2⟩ => ?_)
  subst e1 e2
  obtain rfl : u = Value.ref lam := r1
  refine Calls.spliced_nil ⟨I1.kIn, ?_⟩
  have I2a := I1.untrack hc1
  have hl2 : offH H1 c' lam = some (lamO lam (kob X b.params b.body b.scope clos c' ctv)) := by rw [offH_ne lamc]; exact hl1
  have I2 := I2a.untrackL hl2
  have hlg : s1.heap.get? lam = some (kob X b.params b.body b.scope clos c' ctv) := (I1.hok lam _ hl1).1
  have rec1 : s1.heap.CodeRec (.ref c') (X.env.qual ++ "<lambda>") := (I1.hok c' _ hc1).1
  obtain ⟨oc, hoc⟩ := codeRec_got rec1
  have hF : ∀ {b u}, H1 b = some u → b ∉ frs X.stack := fun {b u} e hm => by rw [I1.stkFree b hm] at e; cases e
  have hstk : ∀ b, X.s_0.heap.objs.size ≤ b → b ≠ X.env.locals → b ∉ frs X.stack := fun b h0 hne hm => by
    rcases List.mem_cons.mp (I1.stkSub b hm) with q | q
    · exact hne q
    · obtain ⟨_, o, ho, _⟩ := I1.ok.funs.mem q
      exact absurd (Nat.lt_of_lt_of_le (Heap.lt_size ho) h0) (Nat.lt_irrefl _)
  have hcl' : c' ≠ X.env.locals := fun q => by have := I1.free; rw [← q, hc1] at this; cases this
  have bget : ∀ {b : Addr} {o : Obj}, s1.heap.get? b = some o → offH (offH H1 c') lam b = none → b ∉ frs X.stack → (baseOf X.stack (offH (offH H1 c') lam) s1.heap).get? b = some o := fun e n hf => base_get e n hf
  have hcN : offH (offH H1 c') lam c' = none := by rw [offH_ne lamc.symm]; exact offH_same
  obtain ⟨m, hns, hloc⟩ := I1.loc
  have cellIn : ∀ y cy v, X.env.cells.lookup y = some cy → s1.heap.IsCell cy v → (baseOf X.stack (offH (offH H1 c') lam) s1.heap).IsCell cy v := fun y cy v e ⟨o, ho, hd⟩ => by
    exact ⟨o, bget ho (I2.freeC y cy e) (hstk cy (I1.ok.cab y cy (hfn y) e) (I1.cne y cy e)), hd⟩
  have LL : Lam (baseOf X.stack (offH (offH H1 c') lam) s1.heap) lam "<lambda>" (X.env.qual ++ "<lambda>") b.params b.body b.scope clos ((X.mg "__name__").getD .none) c' ctv N vals := by
    refine ⟨bget hlg offH_same (hF hl1), codeRec_one rec1 fun o e => bget e hcN (hF hc1), fun y z cy e1 e2 => I1.ok.inj y z cy (hin _ (PySem.mem_of_lookup e1)) (hin _ (PySem.mem_of_lookup e2)), fun y cy e => ?_, hlen, fun i y v e1 e2 => ?_⟩
    · have e' := hin _ (PySem.mem_of_lookup e)
      obtain ⟨v, hv⟩ := I1.cell y cy e'
      exact ⟨v, cellIn y cy v e' hv⟩
    · obtain ⟨j, cy, f1, f2, f3, f4, f5⟩ := hN b hbm i y e1
      have e' := hin _ (PySem.mem_of_lookup f4)
      obtain ⟨u, r, l⟩ := hloc j y v f2 (hvals i j v e2 f1) (.inr (.inl f5))
      rcases l with ⟨l, _⟩ | ⟨_, cz, ez, hz⟩
      · rw [f5] at l; cases l
      · rw [e'] at ez
        cases ez
        exact ⟨cy, u, f3, f4, cellIn y cy _ e' hz, r⟩
  have FW := W b hbm _ lam c' ctv vals I2.rebase.mod.kin I2.rebase.mod.glob LL
  have sW : ∀ b u, (∀ φ, u ≠ .ext φ) → H1 b = some u → offH (offH H1 c') lam b = some u := fun b u n e => by
    have n1 : b ≠ lam := fun q => by rw [q, hl1] at e; exact n _ (Option.some.inj e).symm
    have n2 : b ≠ c' := fun q => by rw [q, hc1] at e; exact n _ (Option.some.inj e).symm
    rw [offH_ne n1, offH_ne n2]
    exact e
  refine wpAny_call (codeAny_mono (FW.run X.A X.stack s1 (offH (offH H1 c') lam) ⟨[.ref lam], []⟩ [.ref lam] [.ref lam] (fun v H' => v = .str word ∧ Same (offH (offH H1 c') lam) H') E0 hr I2.rebase (hb s1 [.ref lam] I1.kIn rfl) (.cons rfl .nil) ⟨rfl, hRd _ sW, fun H' s' => ⟨rfl, s'⟩⟩) fun r s' hq => ?_)
  cases r with
  | error e => exact hq.elim
  | ok fl =>
    cases fl with
    | next => exact False.elim hq
    | brk => exact False.elim hq
    | cont => exact False.elim hq
    | ret u =>
      obtain ⟨v, H', os, bare, un, hok, rv, ev, sH⟩ := hq
      subst ev
      have I3 := I2.call' (ch := []) os un hok bare (fun b z => absurd z (by simp))
      have hcf : c' ∉ frs X.stack := hF hc1
      have hn3 : H' c' = none := un.free c' oc hoc hcN (by simp)
      have I4 := I3.retrackT (φ := fun h => h.CodeRec (.ref c') (X.env.qual ++ "<lambda>")) hn3 hc0 hcl' (fun y cy e q => by have := I1.freeC y cy e; rw [q, hc1] at this; cases this) (fun q hq z => by have := (I1.pin q hq).2.1; rw [z, hc1] at this; cases this) (codeO_ok (codeRec_one rec1 fun o e => un.keep c' o e hcN hcf (by simp)))
      have hll' : lam ≠ X.env.locals := fun q => by have := I1.free; rw [← q, hl1] at this; cases this
      have hnl : H' lam = none := un.free lam _ hlg offH_same (by simp)
      have I5 := I4.retrackT (c' := lam) (φ := fun h => h.get? lam = some (kob X b.params b.body b.scope clos c' ctv)) (by rw [upd_ne lamc]; exact hnl) (.inr hl3) hll' (fun y cy e q => by have := I1.freeC y cy e; rw [q, hl1] at this; cases this) (fun q hq z => by have := (I1.pin q hq).2.1; rw [z, hl1] at this; cases this) (lamO_ok (un.keep lam _ hlg offH_same (hF hl1) (by simp)))
      refine ⟨.str word, _, I5, rv, hQ _ fun b2 u e => ?_⟩
      by_cases q0 : b2 = lam
      · subst q0
        rw [hl1] at e
        rw [upd_same]
        exact e
      rw [upd_ne q0]
      by_cases q : b2 = c'
      · subst q
        rw [hc1] at e
        rw [upd_same]
        exact e
      · rw [upd_ne q]
        exact sH b2 u (by rw [offH_ne q0, offH_ne q]; exact e)
end
section
variable {P : Program} {w : World} {K : PySem.W.Frag} {mg : Str → Option Value} {base : Heap}
theorem FunD.okX {CX : CXT} {x qual : Str} {st : Stmt} {f : Addr} {fd : FuncData} {its : Array Value} {N ps : List Str} {k : Nat} {sp : Sp} (F : FunD K x qual st f fd its) (S : FnScope N ps (defScope st)) (len : ∀ vs H Q E, sp vs H Q E → vs.length = ps.length)
    (hbody : ∀ (cdv : Value) (A : Around) (outer : List Env) (s : Shared) (H : Hp) (vs : List V) (Q : VK) (E : XK), Room k (A.deeper (envOfC qual (defScope st) s.heap.objs.size f cdv)) → sp vs H Q E →
      ∃ t, PSs (cxOf CX P w K mg base N qual (defScope st) f cdv A outer s H E) (defBody st) t ∧ t { nx := fun _ H' => Q .non H', rt := Q } (start N vs) H) : FnOk P w K mg base CX (k + 1) f fd ps sp := by
  obtain ⟨oc, od, kV, doc, pm, an, cdv, ct, osl, dt, ot, nt, rfl, lk, hcd, _, _⟩ := F.ex
  exact fn_of lk hcd S len fun A outer s H vs Q E hr hsp => hbody cdv A outer s H vs Q E hr hsp
end
theorem Tabs.same {T T' : Addr → Prop} {P : Addr} {lps : List Pos} {qual : Str} {H H' : Hp} (h : Tabs T P lps qual H) (s : Same H H') (k : ∀ c, H c ≠ none → T c → T' c) : Tabs T' P lps qual H' := by
  obtain ⟨ps, h1, h2, h3⟩ := h
  refine ⟨ps, s _ _ h1, h2, fun lp hm => ?_⟩
  rcases h3 lp hm with z | ⟨c', z1, z2, z3⟩
  · exact .inl z
  · exact .inr ⟨c', z1, s _ _ z2, k c' (by rw [z2]; exact Option.some_ne_none _) z3⟩
theorem seq_cut2 {t u : TS} {D : Ends} {σ : St} {H : Hp} (Mid : St → Hp → Prop) (h1 : ∀ N : St → Hp → Prop, (∀ σ' H', Mid σ' H' → N σ' H') → t { D with nx := N } σ H) (h2 : ∀ σ' H', Mid σ' H' → u D σ' H') : tSeq t u D σ H := h1 _ h2
/-- the entry, with the table of another def tracked -/
theorem walk_ofT2 {l : PySem.W.OpenLaw} {n k : Nat} {q : Program} {loose : List Str} {XP : (Str → Option Value) → Heap → Prop} {YP : World → Heap → Prop} {d dT : DefRec} {nT : Str} {K : Params → PySem.W.Frag} {CX : World → CXT} {sp : World → Sp} {x : Str} {c P : Params → Addr}
    (hn : l.most = some n) (hn2 : n ≤ sizeLine) (hdf : d.params.defaults = []) (hr : Room k callerA)
    (hY : ∀ (w : World) (h : Heap), YP w h → (K w.params).In h)
    (hdq : (recsOf q).find? (fun e => e.name == nT) = some dT) (htab : ∀ w : World, PySem.W.tabIn (K w.params) nT = some (c w.params, P w.params)) (hPK : ∀ w : World, (K w.params).lookup (P w.params) = none)
    (F : ∀ (w : World) (mg : Str → Option Value) (fa : Addr) (h : Heap), (K w.params).In h → h.Ns mainGlobals mg → mg d.name = some (.ref fa) →
      ∃ fd : FuncData, (∀ (s : Shared) (u : Value), BindsTo s fd ⟨[u], []⟩ [(x, u)]) ∧
        ∀ base : Heap, (K w.params).In base → base.Ns mainGlobals mg → PySem.W.CodeHd base (c w.params) (P w.params) → base.BuiltinsAt mg (P w.params) → FnOk l.prog w (K w.params) mg base (CX w) k fa fd [x] (sp w))
    (hsp : ∀ (w : World) (H : Hp) (a : Addr) (ns : List Int), ns.length ≤ n → OnlyT (P w.params) H → SqL (K w.params) H a (ns.map V.int) → sp w [.ref a] H (fun v _ => v = .bl true) fun _ _ _ => False)
    (hCX : ∀ (w : World) (H : Hp) (s : Shared) (e : Value) (s' : Shared), CX w [] H s (fun _ _ _ => False) e s' → False) :
    PySem.W.WalkO q loose XP YP l.row.toRowW d [] (fun f vs => PySem.call f vs) := by
  refine Att.attach_call hn hdf fun w s₀ s₁ mg mb fa o pm cd doc a vs ns G Y ho hd hcd hmg hobj hints hlen hg => ?_
  have KX := hY w _ Y
  obtain ⟨fd, hb, hF⟩ := F w mg fa _ KX G.T.g hmg
  obtain ⟨hc, hP⟩ := PySem.W.tab_of G.T KX hdq (htab w)
  have hbm : s₁.heap.BuiltinsAt mg (P w.params) := by
    obtain ⟨bm, ob, b1, b2, b3, b4, b5, b6⟩ := G.T.bmain
    refine ⟨bm, ob, b1, b2, fun q => ?_, fun q => ?_, b3, b4, b5, b6⟩
    · obtain ⟨o, es, ep, e, hd, _⟩ := G.T.g
      rw [q, e] at b3; cases b3; rw [hd] at b6; cases b6
    · rw [q, hP] at b3; cases b3; cases b4
  exact law_callT KX G.T.g G.T.b G.T.builtins G.T.nolimit hg hc hP (hPK w) hbm hobj hints (Nat.le_trans hlen hn2) hr hF hb (fun H hO hS => hsp w H a ns hlen hO hS) fun H e s' => hCX w H s₁ e s'
end L2

set_option Elab.async false
set_option linter.all false
set_option maxRecDepth 100000
namespace L2
open PySem PySem.Spec PyProof.Rows
/-! layerings that are raised till they keep all ties -/
theorem Chn.append {S : List L2.Step} {v u x : Nat} {a b : List L2.Step} (h : Chn S v u a) (h' : Chn S u x b) : Chn S v x (a ++ b) := by
  induction h with
  | nil => exact h'
  | cons e _ ih => exact .cons e (ih h')
theorem Chn.split {S : List L2.Step} {x u v : Nat} {l : List L2.Step} (h : Chn S x u l) (hv : v ∈ x :: l.map L2.Step.s) : ∃ a b, l = a ++ b ∧ Chn S x v a ∧ Chn S v u b := by
  induction h with
  | @nil y =>
    have : v = y := by simpa using hv
    subst this
    exact ⟨[], [], rfl, .nil, .nil⟩
  | @cons p u l e hb ih =>
    rcases List.mem_cons.mp hv with hv | hv
    · subst hv
      exact ⟨[], p :: l, rfl, .nil, .cons e hb⟩
    · obtain ⟨a, b, rfl, h1, h2⟩ := ih hv
      exact ⟨p :: a, b, rfl, .cons e h1, h2⟩
theorem Chn.nodup {S : List L2.Step} {v u : Nat} {l : List L2.Step} (h : Chn S v u l) : (v :: l.map L2.Step.s).Nodup ∨ ∃ x a b c, l = a ++ (b ++ c) ∧ b ≠ [] ∧ Chn S v x a ∧ Chn S x x b ∧ Chn S x u c := by
  induction h with
  | nil => exact .inl (by simp)
  | @cons p u l e hb ih =>
    rcases ih with ih | ⟨x, a, b, c, rfl, hne, h1, h2, h3⟩
    · by_cases hy : p.e ∈ p.s :: l.map L2.Step.s
      · obtain ⟨a, b, rfl, h1, h2⟩ := hb.split hy
        exact .inr ⟨p.e, [], p :: a, b, rfl, by simp, .nil, .cons e h1, h2⟩
      · exact .inl (List.nodup_cons.mpr ⟨hy, ih⟩)
    · exact .inr ⟨x, p :: a, b, c, rfl, hne, .cons e h1, h2, h3⟩
theorem Chn.pot {S : List L2.Step} {π : Nat → Int} (P : Pot S π) {v u : Nat} {l : List L2.Step} (h : Chn S v u l) : π u + gsum l ≤ π v := by
  induction h with
  | nil => show _ + 0 ≤ _; omega
  | cons e _ ih => have := P _ e; rw [gsum_cons]; omega
theorem Chn.lt {n : Nat} {S : List L2.Step} (hS : ∀ p ∈ S, p.s < n ∧ p.e < n) {v u : Nat} {l : List L2.Step} (h : Chn S v u l) (hv : v < n) : ∀ x ∈ v :: l.map L2.Step.s, x < n := by
  induction h with
  | nil => intro x hx; simp at hx; omega
  | cons e _ ih =>
    intro x hx
    rcases List.mem_cons.mp hx with rfl | hx
    · exact hv
    · exact ih (hS _ e).1 x hx
/-- a walk may be cut short -/
theorem Chn.short {n : Nat} {S : List L2.Step} {π : Nat → Int} (hS : ∀ p ∈ S, p.s < n ∧ p.e < n) (P : Pot S π) : ∀ (k : Nat) {v u : Nat} {l : List L2.Step}, l.length ≤ k → v < n → Chn S v u l → ∃ l', Chn S v u l' ∧ l'.length < n ∧ gsum l ≤ gsum l'
  | 0, v, u, l, hk, hv, h => ⟨l, h, by omega, Int.le_refl _⟩
  | k + 1, v, u, l, hk, hv, h => by
    rcases h.nodup with nd | ⟨x, a, b, c, rfl, hne, h1, h2, h3⟩
    · have := nodup_below nd (h.lt hS hv)
      simp at this
      exact ⟨l, h, by omega, Int.le_refl _⟩
    · have hb0 : b.length ≠ 0 := fun z => hne (List.eq_nil_of_length_eq_zero z)
      obtain ⟨l', g1, g2, g3⟩ := Chn.short hS P k (l := a ++ c) (by simp at hk ⊢; omega) hv (h1.append h3)
      refine ⟨l', g1, g2, ?_⟩
      have := h2.pot P
      rw [gsum_append] at g3
      rw [gsum_append, gsum_append]
      omega
def lift (g : List Int) (t : Tie) : List Int := g.set t.o (if g.getD t.i 0 + t.l > g.getD t.o 0 then g.getD t.i 0 + t.l else g.getD t.o 0)
theorem lift_len (g : List Int) (t : Tie) : (lift g t).length = g.length := by unfold lift; rw [List.length_set]
theorem lift_get {g : List Int} {t : Tie} (h : t.o < g.length) (v : Nat) : (lift g t).getD v 0 = if v = t.o then (if g.getD t.i 0 + t.l > g.getD t.o 0 then g.getD t.i 0 + t.l else g.getD t.o 0) else g.getD v 0 := by
  unfold lift
  by_cases e : v = t.o
  · subst e
    rw [if_pos rfl, List.getD_eq_getElem?_getD, List.getElem?_set_self h]
    rfl
  · rw [if_neg e, List.getD_eq_getElem?_getD, List.getElem?_set_ne (Ne.symm e), ← List.getD_eq_getElem?_getD]
structure Lift (n : Nat) (ts : List Tie) (h g0 g : List Int) (done : List Tie) : Prop where
  len : g.length = n
  mono : ∀ v : Nat, g0.getD v 0 ≤ g.getD v 0
  seen : ∀ t ∈ done, g0.getD t.i 0 + t.l ≤ g.getD t.o 0
  real : ∀ v, v < n → ∃ u l, u < n ∧ Chn (stepsOf ts []) v u l ∧ g.getD v 0 ≤ h.getD u 0 + gsum l
theorem Lift.next {n : Nat} {ts : List Tie} {h g0 g : List Int} {done : List Tie} (L : Lift n ts h g0 g done) (hT : TiesIn n ts) {k : Nat} {t : Tie} (e : ts[k]? = some t) : Lift n ts h g0 (lift g t) (done ++ [t]) := by
  obtain ⟨hi, ho, _⟩ := hT t (List.mem_of_getElem? e)
  have get := lift_get (g := g) (t := t) (by rw [L.len]; exact ho)
  have mono : ∀ v : Nat, g.getD v 0 ≤ (lift g t).getD v 0 := fun v => by
    rw [get]
    split
    · rename_i z; subst z; split <;> omega
    · omega
  refine ⟨by rw [lift_len]; exact L.len, fun v => Int.le_trans (L.mono v) (mono v), fun u hu => ?_, fun v hv => ?_⟩
  · rcases List.mem_append.mp hu with hu | hu
    · exact Int.le_trans (L.seen u hu) (mono _)
    · have : u = t := by simpa using hu
      subst this
      have := L.mono u.i
      rw [get, if_pos rfl]
      split <;> omega
  · rw [get]
    split
    · rename_i z
      subst z
      split
      · obtain ⟨u, l, h1, h2, h3⟩ := L.real t.i hi
        refine ⟨u, fwd k t :: l, h1, .cons (p := fwd k t) (mem_stepsOf.mpr ⟨k, t, e, .inl rfl⟩) h2, ?_⟩
        rw [gsum_cons]
        show _ ≤ _ + (t.l + _)
        omega
      · exact L.real _ hv
    · exact L.real v hv
/-- no walk of so many steps leads higher -/
def Over (n : Nat) (ts : List Tie) (h : List Int) (k : Nat) (g : List Int) : Prop := ∀ v u l, Chn (stepsOf ts []) v u l → l.length ≤ k → u < n → h.getD u 0 + gsum l ≤ g.getD v 0
theorem Lift.over {n : Nat} {ts : List Tie} {h g0 g : List Int} {k : Nat} (L : Lift n ts h g0 g ts) (O : Over n ts h k g0) : Over n ts h (k + 1) g := by
  intro v u l hc hl hu
  cases hc with
  | nil => exact Int.le_trans (O v v [] .nil (by simp) hu) (L.mono _)
  | @cons p u l hp hc =>
    have h1 := O _ _ _ hc (by simpa using hl) hu
    obtain ⟨k', t, e, hp' | ⟨hf, _⟩⟩ := mem_stepsOf.mp hp
    · subst hp'
      have h2 := L.seen t (List.mem_of_getElem? e)
      rw [gsum_cons]
      show _ + (t.l + _) ≤ g.getD t.o 0
      have : (fwd k' t).s = t.i := rfl
      rw [this] at h1
      omega
    · simp at hf
end L2

set_option Elab.async false
set_option linter.all false
set_option maxRecDepth 100000
namespace L2
open PySem PySem.Spec PyProof.Rows
end L2

set_option Elab.async false
set_option linter.all false
set_option maxRecDepth 100000
namespace L2
open PySem PySem.Spec PyProof.Rows
section
variable {X : Cx}
end
/-! arrows that rise in some way are not turned -/
end L2

set_option Elab.async false
set_option linter.all false
set_option maxRecDepth 100000
namespace L2
open PySem PySem.Spec PyProof.Rows
/-! farthest sums by way of more and more boxes -/
theorem Chn.of_nil {S : List L2.Step} {v u : Nat} (h : Chn S v u []) : v = u := by
  cases h
  rfl
theorem Chn.ends {S : List L2.Step} {v u : Nat} {l : List L2.Step} (h : Chn S v u l) (hne : l ≠ []) : (∃ p r, l = p :: r ∧ p.e = v ∧ p ∈ S) ∧ ∃ r p, l = r ++ [p] ∧ p.s = u ∧ p ∈ S := by
  induction h with
  | nil => exact absurd rfl hne
  | @cons p u l hp hc ih =>
    refine ⟨⟨p, l, rfl, rfl, hp⟩, ?_⟩
    by_cases hl : l = []
    · subst hl
      exact ⟨[], p, rfl, hc.of_nil, hp⟩
    · obtain ⟨r, q, rfl, h1, h2⟩ := (ih hl).2
      exact ⟨p :: r, q, rfl, h1, h2⟩
def inner (l : List L2.Step) : List Nat := l.dropLast.map L2.Step.s
def FLow (S : List L2.Step) (F : Nat → Nat → Option Int) : Prop := ∀ u v x, F u v = some x → ∃ l, l ≠ [] ∧ Chn S v u l ∧ x ≤ gsum l
def FHi (n : Nat) (S : List L2.Step) (k : Nat) (F : Nat → Nat → Option Int) : Prop := ∀ v u l, Chn S v u l → l ≠ [] → (inner l).Nodup → (∀ x ∈ inner l, x < k) → l.length ≤ n → Ge (F u v) (gsum l)
def put2 (F : Nat → Nat → Option Int) (u v : Nat) (x : Int) : Nat → Nat → Option Int := fun a b => if a = u ∧ b = v then some x else F a b
theorem put2_same (F : Nat → Nat → Option Int) (u v : Nat) (x : Int) : put2 F u v x u v = some x := if_pos ⟨rfl, rfl⟩
theorem put2_mono {F : Nat → Nat → Option Int} {u v : Nat} {x y : Int} (hx : x ≤ y) (h : ∀ z, F u v = some z → z ≤ y) : ∀ a b w, Ge (F a b) w → Ge (put2 F u v y a b) w := fun a b w ⟨g, e, k⟩ => by
  unfold put2
  by_cases hc : a = u ∧ b = v
  · rw [if_pos hc]
    obtain ⟨rfl, rfl⟩ := hc
    exact ⟨y, rfl, by have := h g e; omega⟩
  · rw [if_neg hc]
    exact ⟨g, e, k⟩
/-- what is put at a pair: no less than what was there, nor than what comes anew -/
def best2 (o : Option Int) (x : Int) : Int := if x > o.getD x then x else o.getD x
theorem best2_ge (o : Option Int) (x : Int) : x ≤ best2 o x := by
  unfold best2
  split <;> omega
theorem best2_old {o : Option Int} {x z : Int} (h : o = some z) : z ≤ best2 o x := by
  subst h
  unfold best2
  show z ≤ if x > z then x else z
  split <;> omega
theorem best2_or (o : Option Int) (x : Int) : best2 o x = x ∨ o = some (best2 o x) := by
  unfold best2
  cases o with
  | none => left; show (if x > x then x else x) = x; split <;> rfl
  | some z =>
    show (if x > z then x else z) = x ∨ some z = some (if x > z then x else z)
    split
    · exact .inl rfl
    · exact .inr rfl
theorem FLow.put {S : List L2.Step} {F : Nat → Nat → Option Int} (h : FLow S F) {u v : Nat} {x : Int} (hx : ∃ l, l ≠ [] ∧ Chn S v u l ∧ x ≤ gsum l) : FLow S (put2 F u v (best2 (F u v) x)) := fun a b y e => by
  unfold put2 at e
  by_cases hc : a = u ∧ b = v
  · rw [if_pos hc] at e
    obtain ⟨rfl, rfl⟩ := hc
    rcases best2_or (F a b) x with h1 | h1
    · rw [h1] at e
      cases e
      exact hx
    · rw [← h1] at e
      exact h _ _ _ e
  · rw [if_neg hc] at e
    exact h _ _ _ e
/-- at first: the ties themselves -/
structure FTies (ts : List Tie) (done : List Tie) (F : Nat → Nat → Option Int) : Prop where
  low : FLow (stepsOf ts []) F
  hi : ∀ t ∈ done, Ge (F t.i t.o) t.l
theorem FTies.next {ts done : List Tie} {F : Nat → Nat → Option Int} (h : FTies ts done F) {k : Nat} {t : Tie} (e : ts[k]? = some t) : FTies ts (done ++ [t]) (put2 F t.i t.o (best2 (F t.i t.o) t.l)) := by
  refine ⟨h.low.put ⟨[fwd k t], by simp, .cons (p := fwd k t) (mem_stepsOf.mpr ⟨k, t, e, .inl rfl⟩) .nil, ?_⟩, fun u hu => ?_⟩
  · rw [gsum_cons]
    show t.l ≤ t.l + 0
    omega
  · rcases List.mem_append.mp hu with hu | hu
    · exact put2_mono (best2_ge (F t.i t.o) t.l) (fun z ez => best2_old ez) _ _ _ (h.hi u hu)
    · have : u = t := by simpa using hu
      subst this
      exact ⟨_, put2_same _ _ _ _, best2_ge _ _⟩
theorem FTies.fhi {n : Nat} {ts : List Tie} {F : Nat → Nat → Option Int} (h : FTies ts ts F) : FHi n (stepsOf ts []) 0 F := by
  intro v u l hc hne hnd hin hl
  have hi : inner l = [] := by
    cases e : inner l with
    | nil => rfl
    | cons x r => exact absurd (hin x (by rw [e]; simp)) (by omega)
  cases hc with
  | nil => exact absurd rfl hne
  | @cons p u l hp hc =>
    cases l with
    | nil =>
      have hps := hc.of_nil
      obtain ⟨k, t, e, hpp | ⟨hf, _⟩⟩ := mem_stepsOf.mp hp
      · subst hpp
        obtain ⟨g, eg, hg⟩ := h.hi t (List.mem_of_getElem? e)
        rw [← hps]
        exact ⟨g, eg, by rw [gsum_cons]; show t.l + 0 ≤ g; omega⟩
      · simp at hf
    | cons q l => simp [inner] at hi
/-- by way of one box more -/
structure FMid (n : Nat) (S : List L2.Step) (k : Nat) (F0 F : Nat → Nat → Option Int) (done : Nat → Nat → Prop) : Prop where
  low : FLow S F
  mono : ∀ u v x, Ge (F0 u v) x → Ge (F u v) x
  seen : ∀ u v, done u v → ∀ x y, Ge (F0 u k) x → Ge (F0 k v) y → Ge (F u v) (if x + y < 1000000 then x + y else 1000000)
theorem FMid.skip {n : Nat} {S : List L2.Step} {k : Nat} {F0 F : Nat → Nat → Option Int} {done : Nat → Nat → Prop} (h : FMid n S k F0 F done) {u v : Nat} (hn : F u k = none ∨ F k v = none) : FMid n S k F0 F (fun a b => done a b ∨ (a = u ∧ b = v)) :=
  ⟨h.low, h.mono, fun a b hab x y hx hy => by
    rcases hab with hab | ⟨rfl, rfl⟩
    · exact h.seen a b hab x y hx hy
    · obtain ⟨g1, e1, _⟩ := h.mono _ _ _ hx
      obtain ⟨g2, e2, _⟩ := h.mono _ _ _ hy
      rcases hn with hn | hn
      · rw [hn] at e1; cases e1
      · rw [hn] at e2; cases e2⟩
def cap (z : Int) : Int := if z < 1000000 then z else 1000000
theorem FMid.take {n : Nat} {S : List L2.Step} {k : Nat} {F0 F : Nat → Nat → Option Int} {done : Nat → Nat → Prop} (h : FMid n S k F0 F done) {u v : Nat} {x y : Int} (ex : F u k = some x) (ey : F k v = some y) : FMid n S k F0 (put2 F u v (best2 (F u v) (cap (x + y)))) (fun a b => done a b ∨ (a = u ∧ b = v)) := by
  have mono := put2_mono (F := F) (u := u) (v := v) (best2_ge (F u v) (cap (x + y))) (fun z ez => best2_old ez)
  refine ⟨h.low.put ?_, fun a b w hw => mono _ _ _ (h.mono a b w hw), fun a b hab p q hp hq => ?_⟩
  · obtain ⟨l1, n1, c1, g1⟩ := h.low _ _ _ ex
    obtain ⟨l2, n2, c2, g2⟩ := h.low _ _ _ ey
    refine ⟨l2 ++ l1, by simp [n2], c2.append c1, ?_⟩
    rw [gsum_append]
    unfold cap
    split <;> omega
  · rcases hab with hab | ⟨rfl, rfl⟩
    · exact mono _ _ _ (h.seen a b hab p q hp hq)
    · obtain ⟨g1, e1, k1⟩ := h.mono _ _ _ hp
      obtain ⟨g2, e2, k2⟩ := h.mono _ _ _ hq
      rw [ex] at e1
      cases e1
      rw [ey] at e2
      cases e2
      refine ⟨_, put2_same _ _ _ _, Int.le_trans ?_ (best2_ge _ _)⟩
      unfold cap
      split <;> split <;> omega
theorem FMid.fhi {n k : Nat} {ts : List Tie} {F0 F : Nat → Nat → Option Int} {done : Nat → Nat → Prop} (hT : TiesIn n ts) (hn : n ≤ 1000) (h : FMid n (stepsOf ts []) k F0 F done) (hd : ∀ u v, u < n → v < n → done u v) (h0 : FHi n (stepsOf ts []) k F0) : FHi n (stepsOf ts []) (k + 1) F := by
  intro v u l hc hne hnd hin hl
  by_cases hk : k ∈ inner l
  · obtain ⟨⟨p1, r1, el1, ep1, hp1⟩, r2, p2, el2, ep2, hp2⟩ := hc.ends hne
    have hS := steps_in (f := []) hT
    have hv : v < n := by rw [← ep1]; exact (hS p1 hp1).2
    have hu : u < n := by rw [← ep2]; exact (hS p2 hp2).1
    have hsub : k ∈ v :: l.map L2.Step.s := by
      refine List.mem_cons_of_mem _ ?_
      rw [el2]
      unfold inner at hk
      rw [el2, List.dropLast_concat] at hk
      rw [List.map_append]
      exact List.mem_append.mpr (.inl hk)
    -- split at the first place
    obtain ⟨a, b, hab, ca, cb, han, hbn⟩ : ∃ a b, l = a ++ b ∧ Chn (stepsOf ts []) v k a ∧ Chn (stepsOf ts []) k u b ∧ a ≠ [] ∧ b ≠ [] := by
      obtain ⟨r, hr1, hr2⟩ := List.mem_map.mp hk
      obtain ⟨x, y, exy⟩ := List.append_of_mem hr1
      have hld : l = l.dropLast ++ [p2] := by rw [el2, List.dropLast_concat]
      have hl2 : l = (x ++ [r]) ++ (y ++ [p2]) := by rw [hld, exy]; simp
      have cut : ∀ {S : List L2.Step} {v u : Nat} (a b : List L2.Step) (r : L2.Step), Chn S v u ((a ++ [r]) ++ b) → Chn S v r.s (a ++ [r]) ∧ Chn S r.s u b := by
        intro S v u a b r hc
        induction a generalizing v with
        | nil =>
          cases hc with
          | cons hp hc => exact ⟨.cons hp .nil, hc⟩
        | cons q a ih =>
          cases hc with
          | cons hp hc =>
            obtain ⟨i1, i2⟩ := ih hc
            exact ⟨.cons hp i1, i2⟩
      rw [hl2] at hc
      obtain ⟨c1, c2⟩ := cut x (y ++ [p2]) r hc
      rw [hr2] at c1 c2
      exact ⟨x ++ [r], y ++ [p2], hl2, c1, c2, by simp, by simp⟩
    have hinner : inner l = a.map L2.Step.s ++ inner b := by
      unfold inner
      rw [hab, List.dropLast_append_of_ne_nil hbn, List.map_append]
    have ha2 : a.map L2.Step.s = inner a ++ [k] := by
      obtain ⟨_, r, p, er, ep, _⟩ := ca.ends han
      unfold inner
      rw [er, List.dropLast_concat, List.map_append]
      simp [ep]
    rw [hinner, ha2] at hnd hin
    have hnd' := List.nodup_append.mp hnd
    have hnda := List.nodup_append.mp hnd'.1
    have hka : ∀ x ∈ inner a, x < k := fun x hx => by
      have h1 := hin x (by simp [hx])
      have h2 : x ≠ k := fun z => hnda.2.2 x hx k (by simp) z
      omega
    have hkb : ∀ x ∈ inner b, x < k := fun x hx => by
      have h1 := hin x (by simp [hx])
      have h2 : k ≠ x := fun z => hnd'.2.2 k (by simp) x hx z
      omega
    have hlen : a.length + b.length ≤ n := by rw [hab, List.length_append] at hl; exact hl
    have g1 := h0 v k a ca han hnda.1 hka (by omega)
    have g2 := h0 k u b cb hbn hnd'.2.1 hkb (by omega)
    obtain ⟨g, eg, hg⟩ := h.seen u v (hd u v hu hv) _ _ g2 g1
    refine ⟨g, eg, ?_⟩
    have hle : gsum l ≤ 9 * l.length := gsum_le (n := n) hT (f := []) hc.mem
    rw [hab, gsum_append]
    rw [hab, gsum_append, List.length_append] at hle
    split at hg <;> omega
  · refine h.mono _ _ _ (h0 v u l hc hne hnd (fun x hx => ?_) hl)
    have h1 := hin x hx
    have : x ≠ k := fun z => hk (z ▸ hx)
    omega
/-! the table as it lies -/
def key2 (u v : Nat) : List Key := [Sum.inl (u : Int), Sum.inl (v : Int)]
theorem key2_inj {a b u v : Nat} (h : key2 a b = key2 u v) : a = u ∧ b = v := by
  unfold key2 at h
  simp only [List.cons.injEq, Sum.inl.injEq, and_true] at h
  omega
def FarH (H : Hp) (d : Addr) (m : Nat) (F : Nat → Nat → Option Int) : Prop := ∃ kvs : List (List Key × V), H d = some (.dT kvs) ∧ kvs.length ≤ m ∧ ∀ u v : Nat, valV kvs (key2 u v) = (F u v).map V.int
theorem FarH.get {H : Hp} {d p : Addr} {m : Nat} {F : Nat → Nat → Option Int} (h : FarH H d m F) {u v : Nat} (hp : H p = some (.tup [.int (u : Int), .int (v : Int)])) : DGet H d (.ref p) ((F u v).map V.int) := by
  obtain ⟨kvs, h1, _, h3⟩ := h
  have := DGet.t (k := key2 u v) h1 hp
  rw [h3] at this
  exact this
theorem FarH.put {H : Hp} {d p : Addr} {m : Nat} {F : Nat → Nat → Option Int} (h : FarH H d m F) {u v : Nat} (hp : H p = some (.tup [.int (u : Int), .int (v : Int)])) (hm : m < sizeLine) (x : Int) : ∃ H', DPut H d (.ref p) (.int x) H' ∧ FarH H' d (m + 1) (put2 F u v x) ∧ ∃ o, H' = upd H d o := by
  obtain ⟨kvs, h1, h2, h3⟩ := h
  refine ⟨_, DPut.t (k := key2 u v) h1 hp (by omega), ⟨_, upd_same, ?_, fun a b => ?_⟩, _, rfl⟩
  · have := length_putK kvs (key2 u v) (V.int x)
    omega
  · rw [valV_put, h3]
    unfold put2
    by_cases hc : key2 a b = key2 u v
    · rw [if_pos hc, if_pos (key2_inj hc)]
      rfl
    · rw [if_neg hc, if_neg (fun z => hc (by rw [z.1, z.2]))]
theorem FarH.same {H H' : Hp} {d : Addr} {m : Nat} {F : Nat → Nat → Option Int} (h : FarH H d m F) (s : Same H H') : FarH H' d m F := let ⟨kvs, h1, h2⟩ := h; ⟨kvs, s _ _ h1, h2⟩
theorem FarH.le {H : Hp} {d : Addr} {m m' : Nat} {F : Nat → Nat → Option Int} (h : FarH H d m F) (l : m ≤ m') : FarH H d m' F := let ⟨kvs, h1, h2, h3⟩ := h; ⟨kvs, h1, by omega, h3⟩
theorem FMid.sub {n : Nat} {S : List L2.Step} {k : Nat} {F0 F : Nat → Nat → Option Int} {done done' : Nat → Nat → Prop} (h : FMid n S k F0 F done) (hs : ∀ a b, done' a b → done a b) : FMid n S k F0 F done' := ⟨h.low, h.mono, fun u v hd => h.seen u v (hs u v hd)⟩
theorem FMid.first {n : Nat} {S : List L2.Step} {k : Nat} {F : Nat → Nat → Option Int} {done : Nat → Nat → Prop} (h : FLow S F) (hn : ∀ a b, ¬ done a b) : FMid n S k F F done := ⟨h, fun _ _ _ z => z, fun u v hd => absurd hd (hn u v)⟩
end L2

set_option Elab.async false
set_option linter.all false
set_option maxRecDepth 100000
namespace HT
open PySem PyProof.Rows
section
variable {prog : Program} {w : World} {A : Around} {E : Value → Shared → Prop} {s : Shared}
end
end HT
namespace L2
open PySem PySem.Spec PyProof.Rows
section
variable {X : Cx} {pos : Pos}
end
end L2

set_option Elab.async false
set_option linter.all false
set_option maxRecDepth 100000
namespace HT
open PySem PyProof.Rows
section
variable {prog : Program} {w : World} {A : Around} {R : Result → Shared → Prop} {I : Addr} {fp wr : List Addr} {n : Nat} {P : Nat → Value → Prop} {St : Nat → Heap → Prop}
end
section
variable {prog : Program} {w : World} {A : Around} {E : Value → Shared → Prop} {s : Shared} {l : Addr} {its : List Value} {ns : List Int} {Q : Value → Shared → Prop}
end
end HT
namespace L2
open PySem PySem.Spec PyProof.Rows
section
variable {X : Cx} {x : Str} {p pos : Pos} {e : Expr} {es : List Expr} {kws : List Keyword} {t tk : TA} {id : String} {ks : List Str}
end
end L2

set_option Elab.async false
set_option linter.all false
set_option maxRecDepth 100000
namespace L2
open PySem PySem.Spec PyProof.Rows
/-- a list of rows (items are rows of numbers) -/
def LRows (H : Hp) (p : Addr) (rows : List (List Int)) : Prop := ∃ pa : List Addr, H p = some (.lst (pa.map V.ref)) ∧ RowsH H pa rows
theorem LRows.same {H H' : Hp} {p : Addr} {rows : List (List Int)} (h : LRows H p rows) (s : Same H H') : LRows H' p rows := let ⟨pa, h1, h2⟩ := h; ⟨pa, s _ _ h1, h2.tu s.tu⟩
/-- the bends between two layers -/
def bendsTo (place : Nat) (lo : Int) : Nat → List (List Int)
  | 0 => []
  | k + 1 => bendsTo place lo k ++ [[1, (place : Int), lo + (k : Int)]]
def chainUL (place u v : Nat) (g : Nat → Int) : List (List Int) := [[0, (u : Int)]] ++ bendsTo place (g u + 1) (g v - (g u + 1)).toNat ++ [[0, (v : Int)]]
def chainL (place one other : Nat) (g : Nat → Int) : List (List Int) :=
  if one = other then [] else if g one < g other then chainUL place one other g else chainUL place other one g
def LLRows (H : Hp) (p : Addr) (cs : List (List (List Int))) : Prop := ∃ la : List Addr, H p = some (.lst (la.map V.ref)) ∧ Paired (LRows H) la cs
theorem LLRows.same {H H' : Hp} {p : Addr} {cs : List (List (List Int))} (h : LLRows H p cs) (s : Same H H') : LLRows H' p cs := let ⟨la, h1, h2⟩ := h; ⟨la, s _ _ h1, Paired.mapP h2 fun a c q => q.same s⟩
def chainAt (g : Nat → Int) (k : Nat) (row : List Int) : List (List Int) := chainL k (row.getD 0 0).toNat (row.getD 1 0).toNat g
def chainsTo (rows : List (List Int)) (g : Nat → Int) : Nat → List (List (List Int))
  | 0 => []
  | k + 1 => chainsTo rows g k ++ (match rows[k]? with | some row => [chainAt g k row] | none => [])
end L2

set_option Elab.async false
set_option linter.all false
set_option maxRecDepth 100000
namespace L2
open PySem PySem.Spec PyProof.Rows
/-- rows that grow: the table T of the lists sl -/
structure Grow (H0 H : Hp) (T : Addr) (sl : List Addr) (R : List (List (List Int))) : Prop where
  tab : H T = some (.lst (sl.map V.ref))
  nd : sl.Nodup
  out : T ∉ sl
  new : ∀ p ∈ sl, H0 p = none
  rows : Paired (LRows H) sl R
theorem Grow.same {H0 H H' : Hp} {T : Addr} {sl : List Addr} {R : List (List (List Int))} (G : Grow H0 H T sl R) (s : Same H H') : Grow H0 H' T sl R := ⟨s _ _ G.tab, G.nd, G.out, G.new, Paired.mapP G.rows fun p c z => z.same s⟩
/-- one item more in one row -/
theorem Grow.push {H0 H : Hp} {T l p : Addr} {sl pa : List Addr} {R : List (List (List Int))} {i : Nat} {row : List (List Int)} {it : List Int} (G : Grow H0 H T sl R) (e : sl[i]? = some l) (er : R[i]? = some row) (hl : H l = some (.lst (pa.map V.ref))) (hr : RowsH H pa row) (hp : RowH H p it) :
    Grow H0 (upd H l (.lst (pa.map V.ref ++ [.ref p]))) T sl (R.set i (row ++ [it])) := by
  have hmem : l ∈ sl := List.mem_of_getElem? e
  have nTl : T ≠ l := fun z => G.out (z ▸ hmem)
  have tu : Tu H (upd H l (.lst (pa.map V.ref ++ [.ref p]))) := Tu.put hl
  refine ⟨by rw [upd_ne nTl]; exact G.tab, G.nd, G.out, G.new, paired_ix (by rw [List.length_set]; exact Paired.length G.rows) fun j q c e1 e2 => ?_⟩
  by_cases hj : j = i
  · subst hj
    rw [e] at e1
    cases e1
    have hjl : j < R.length := (List.getElem?_eq_some_iff.mp er).1
    rw [List.getElem?_set_self hjl] at e2
    cases e2
    exact ⟨pa ++ [p], by rw [upd_same, List.map_append]; rfl, RowsH.snoc (hr.tu tu) (tu _ _ hp)⟩
  · rw [List.getElem?_set_ne (Ne.symm hj)] at e2
    obtain ⟨c', e3, pa', h1, h2⟩ := paired_get G.rows e1
    rw [e2] at e3
    cases e3
    have hne : q ≠ l := fun z => by
      subst z
      have := (List.getElem?_inj (by exact (List.getElem?_eq_some_iff.mp e1).1) G.nd).mp (e1.trans e.symm)
      exact hj this
    exact ⟨pa', by rw [upd_ne hne]; exact h1, h2.tu tu⟩
def boxRow (g : Nat → Int) (i : Nat) (ly : Nat) : List (List Int) := ((List.range i).filter fun b => decide (g b = (ly : Int))).map fun (b : Nat) => ([0, (b : Int)] : List Int)
def isBend (ly : Nat) (it : List Int) : Bool := decide (it.getD 0 0 = 1) && decide (it.getD 2 0 = (ly : Int))
def rowsOf (n m : Nat) (g : Nat → Int) (its : List (List Int)) : List (List (List Int)) := (List.range m).map fun l => boxRow g n l ++ its.filter (isBend l)
end L2

set_option Elab.async false
set_option linter.all false
set_option maxRecDepth 100000
namespace PySem
open Sem (wp)
section
variable {prog : Program} {w : World} {A : Around} {E : Value → Shared → Prop} {s : Shared}
end
section
variable {prog : Program} {w : World} {A : Around} {E : Value → Shared → Prop} {s : Shared}
end
end PySem
namespace L2
open PySem PySem.Spec PyProof.Rows
section
variable {X : Cx}
end
end L2

set_option Elab.async false
set_option linter.all false
set_option maxRecDepth 100000
namespace PyProof.Rows
open PySem
section
variable {prog : Program} {w : World} {A : Around} {E : Value → Shared → Prop} {s : Shared}
end
end PyProof.Rows
namespace L2
open PySem PySem.Spec PyProof.Rows
section
variable {X : Cx}
end
end L2

set_option Elab.async false
set_option linter.all false
set_option maxRecDepth 100000
namespace L2
open PySem PySem.Spec PyProof.Rows
/-- the number of rows -/
structure TopN (g : List Int) (m : Nat) : Prop where
  lt : ∀ x ∈ g, x < (m : Int)
  at_ : m = 0 ∨ ∃ x ∈ g, x + 1 = (m : Int)
theorem TopN.one {g : List Int} {m m' : Nat} (h : TopN g m) (h' : TopN g m') : m = m' := by
  have key : ∀ {a b : Nat}, TopN g a → TopN g b → a ≤ b := fun {a b} p q => by
    rcases p.at_ with e | ⟨x, hx, e⟩
    · omega
    · have := q.lt x hx; omega
  exact Nat.le_antisymm (key h h') (key h' h)
def innerC (c : List (List Int)) : List (List Int) := (c.drop 1).dropLast
/-- all bends, by arrows -/
def bendsAll (cs : List (List (List Int))) : List (List Int) := cs.flatMap innerC
/-- the plain rows -/
def plainRows (W : Web) (g : List Int) (m : Nat) : List (List (List Int)) := rowsOf g.length m (fun v => g.getD v 0) (bendsAll (chainsTo W.arrows (fun v => g.getD v 0) W.arrows.length))
end L2

set_option Elab.async false
set_option linter.all false
set_option maxRecDepth 100000
namespace L2
open PySem PySem.Spec PyProof.Rows
/-! lists of rows beside the bag -/
theorem Bag.noRefs {H : Hp} {b c p : Addr} {pa : List Addr} (B : Bag H b c) (h : H p = some (.lst (pa.map V.ref))) : p ≠ b := fun e => by
  obtain ⟨i, j, z, cells, hb, _⟩ := B
  rw [e, hb] at h
  have h := HO.lst.inj (Option.some.inj h)
  cases pa with
  | nil => cases h
  | cons x xs => cases xs with
    | nil => cases h
    | cons y ys => cases h
theorem Bag.noInts {H : Hp} {b c p : Addr} {g : List Int} (B : Bag H b c) (h : H p = some (.lst (g.map V.int))) : p ≠ b := fun e => by
  obtain ⟨i, j, z, cells, hb, _⟩ := B
  rw [e, hb] at h
  have h := HO.lst.inj (Option.some.inj h)
  cases g with
  | nil => cases h
  | cons x xs => cases h
theorem LRows.bag {H H' : Hp} {b c p : Addr} {rows : List (List Int)} (h : LRows H p rows) (B : Bag H b c) (s : SameB b H H') : LRows H' p rows := let ⟨pa, h1, h2⟩ := h; ⟨pa, s _ _ h1 (B.noRefs h1), h2.tu (B.tu s)⟩
theorem LLRows.bag {H H' : Hp} {b c p : Addr} {cs : List (List (List Int))} (h : LLRows H p cs) (B : Bag H b c) (s : SameB b H H') : LLRows H' p cs := let ⟨la, h1, h2⟩ := h; ⟨la, s _ _ h1 (B.noRefs h1), Paired.mapP h2 fun a c q => q.bag B s⟩
theorem Paired.erase {α β : Type} {F : α → β → Prop} {xs : List α} {ys : List β} (h : Paired F xs ys) : ∀ k : Nat, Paired F (xs.eraseIdx k) (ys.eraseIdx k) := by
  induction h with
  | nil => intro k; exact .nil
  | cons a b ih =>
    intro k
    cases k with
    | zero => exact b
    | succ k => exact .cons a (ih k)
/-- the same rows in another order -/
def PermRows : List (List (List Int)) → List (List (List Int)) → Prop := Paired List.Perm
/-- a web, a layering that keeps its ties, its chains, its rows in some order -/
structure Setting (H : Hp) (aW TI LC LO : Addr) (W : Web) (n r s : Addr) (g : List Int) (m : Nat) (R : List (List (List Int))) : Prop where
  web : WebH H aW W n r s
  ok : webB W = true
  sm : ∀ z ∈ W.names, z.length ≤ 6
  free : ClashFree (tiesOf W)
  ti : H TI = some (.lst (g.map V.int))
  len : g.length = W.names.length
  keeps : Keeps (tiesOf W) (fun v => g.getD v 0)
  bnd : ∀ v : Nat, 0 ≤ g.getD v 0 ∧ g.getD v 0 ≤ 1000
  top : TopN g m
  lc : LLRows H LC (chainsTo W.arrows (fun v => g.getD v 0) W.arrows.length)
  lo : LLRows H LO R
  pm : PermRows R (plainRows W g m)
theorem Setting.same {H H' : Hp} {aW TI LC LO : Addr} {W : Web} {n r s : Addr} {g : List Int} {m : Nat} {R : List (List (List Int))} (S : Setting H aW TI LC LO W n r s g m R) (z : Same H H') : Setting H' aW TI LC LO W n r s g m R :=
  { S with web := S.web.tu z.tu, ti := z _ _ S.ti, lc := S.lc.same z, lo := S.lo.same z }
theorem Setting.bag {H H' : Hp} {b c aW TI LC LO : Addr} {W : Web} {n r s : Addr} {g : List Int} {m : Nat} {R : List (List (List Int))} (S : Setting H aW TI LC LO W n r s g m R) (B : Bag H b c) (z : SameB b H H') : Setting H' aW TI LC LO W n r s g m R :=
  { S with web := S.web.tu (B.tu z), ti := z _ _ S.ti (B.noInts S.ti), lc := S.lc.bag B z, lo := S.lo.bag B z }
theorem TopN.le {g : List Int} {m : Nat} (h : TopN g m) (hgb : ∀ v : Nat, 0 ≤ g.getD v 0 ∧ g.getD v 0 ≤ 1000) : m ≤ 1001 := by
  rcases h.at_ with e | ⟨x, hx, e⟩
  · omega
  · obtain ⟨j, ej⟩ := List.getElem?_of_mem hx
    have := hgb j
    rw [List.getD_eq_getElem?_getD, ej] at this
    have this : 0 ≤ x ∧ x ≤ 1000 := this
    omega
end L2

set_option Elab.async false
set_option linter.all false
set_option maxRecDepth 100000
namespace L2
open PySem PySem.Spec PyProof.Rows
section
variable {X : Cx}
end
end L2

set_option Elab.async false
set_option linter.all false
set_option maxRecDepth 100000
namespace L2
open PySem PySem.W PyProof.Rows
/-- what a tree of questions comes to, asked by c, all asked below n -/
def KRun {α : Type} (c : Nat → Nat → Bool) (n : Nat) : KasT α → (α → Prop) → Prop
  | .ret a, P => P a
  | .ask i j k, P => i < n ∧ j < n ∧ KRun c n (k (c i j)) P
theorem KRun.mono {α : Type} {c : Nat → Nat → Bool} {n : Nat} {P P' : α → Prop} (hp : ∀ a, P a → P' a) : ∀ (t : KasT α), KRun c n t P → KRun c n t P'
  | .ret a, h => hp a h
  | .ask i j k, h => ⟨h.1, h.2.1, KRun.mono hp _ h.2.2⟩
theorem KRun.bind {α β : Type} {c : Nat → Nat → Bool} {n : Nat} {P : β → Prop} {f : α → KasT β} : ∀ (t : KasT α), KRun c n t (fun a => KRun c n (f a) P) → KRun c n (t.bind f) P
  | .ret _, h => h
  | .ask i j k, h => ⟨h.1, h.2.1, KRun.bind _ h.2.2⟩
theorem KRun.wp {α : Type} {c : Nat → Nat → Bool} {n : Nat} {cmp : Nat → Nat → (Bool → Shared → Prop) → Shared → Prop} {s : Shared} (hc : ∀ i j (C : Bool → Shared → Prop), i < n → j < n → C (c i j) s → cmp i j C s) {P : α → Prop} {Q : α → Shared → Prop} (hq : ∀ a, P a → Q a s) : ∀ (t : KasT α), KRun c n t P → t.kasWp cmp Q s
  | .ret a, h => hq a h
  | .ask i j k, h => hc i j _ h.1 h.2.1 (KRun.wp hc hq _ h.2.2)
section
variable {n : Nat} (key : Nat → Int)
def KY (p : Array Nat) (i : Nat) : Int := key (p.getD i 0)
structure POk (n : Nat) (p : Array Nat) : Prop where
  size : p.size = n
  perm : p.toList.Perm (List.range n)
theorem POk.lt {p : Array Nat} (h : POk n p) (h0 : 0 < n) (i : Nat) : p.getD i 0 < n := by
  rw [Array.getD_eq_getD_getElem?]
  by_cases hi : i < p.size
  · rw [Array.getElem?_eq_getElem hi]
    show p[i] < n
    have : p[i] ∈ p.toList := by simp
    exact List.mem_range.mp (h.perm.mem_iff.mp this)
  · rw [Array.getElem?_eq_none (by omega)]
    exact h0
theorem POk.rev {p : Array Nat} (h : POk n p) (i j : Nat) : POk n (kas_rev p i j) := ⟨by unfold kas_rev; rw [mirror_size]; exact h.size, (Array.perm_iff_toList_perm.mp (mirror_perm p i j _)).trans h.perm⟩
def KUp (p : Array Nat) (m : Nat) : Prop := ∀ i, 1 ≤ i → i < m → KY key p (i - 1) ≤ KY key p i
variable {key}
theorem KUp.le {p : Array Nat} {m : Nat} (h : KUp key p m) : ∀ {i j : Nat}, i ≤ j → j < m → KY key p i ≤ KY key p j := by
  intro i j hij hj
  induction j with
  | zero => have : i = 0 := by omega
            subst this; exact Int.le_refl _
  | succ j ih =>
    by_cases e : i = j + 1
    · subst e; exact Int.le_refl _
    · have h1 := ih (by omega) (by omega)
      have h2 := h (j + 1) (by omega) hj
      rw [Nat.add_sub_cancel] at h2
      omega
end
end L2

set_option Elab.async false
set_option linter.all false
set_option maxRecDepth 100000
namespace PyProof.Rows
open PySem PySem.W
section
variable {prog : Program} {w : World} {A : Around} {E : Value → Shared → Prop} {s : Shared}
end
end PyProof.Rows

set_option Elab.async false
set_option linter.all false
set_option maxRecDepth 100000
namespace L2
open PySem PySem.Spec PyProof.Rows
section
variable {prog : Program} {w : World} {A : Around} {E : Value → Shared → Prop} {s : Shared}
end
section
variable {X : Cx}
end
end L2

set_option Elab.async false
set_option linter.all false
set_option maxRecDepth 100000
namespace L2
open PySem PySem.Spec PyProof.Rows
abbrev Pos2 := List Int → Option (Nat × Nat)
def putP (F : Pos2) (it : List Int) (x : Nat × Nat) : Pos2 := fun z => if z = it then some x else F z
/-- places of items: behind the first items of a row, behind the first rows -/
def posRow (F : Pos2) (num : Nat) (row : List (List Int)) : Nat → Pos2
  | 0 => F
  | k + 1 => match row[k]? with | some it => putP (posRow F num row k) it (num, k) | none => posRow F num row k
def posAll (R : List (List (List Int))) : Nat → Pos2
  | 0 => fun _ => none
  | k + 1 => match R[k]? with | some row => posRow (posAll R k) k row row.length | none => posAll R k
/-! the segments -/
/-- a chain among rows: its items lie in rows one below the other, the lowest one in a row that is there -/
def Falls (F : Pos2) (n : Nat) (c : List (List Int)) : Prop := ∃ L : Nat, ∀ k it, c[k]? = some it → ∃ b, F it = some (L + k, b) ∧ L + k < n
structure SegOk (n : Nat) (B : List (List (List Int))) (m : Nat) : Prop where
  len : B.length = n
  lt : ∀ (a : Nat) (row : List (List Int)), B[a]? = some row → row.length ≤ m
  three : ∀ row ∈ B, ∀ x ∈ row, ∃ p q r : Int, x = [p, q, r] ∧ 0 ≤ p ∧ 0 ≤ q
  last : ∀ (a : Nat) (row : List (List Int)), B[a]? = some row → a + 1 = n → row = []
/-! crossings -/
end L2

set_option Elab.async false
set_option linter.all false
set_option maxRecDepth 100000
namespace L2
open PySem PySem.Spec PyProof.Rows
/-! the dict of places as it lies -/
def kI (it : List Int) : List Key := it.map Sum.inl
theorem kI_kV : ∀ it : List Int, (kI it).map kV = it.map V.int
  | [] => rfl
  | x :: it => by
    show V.int x :: (kI it).map kV = V.int x :: it.map V.int
    rw [kI_kV it]
theorem kI_inj {x y : List Int} (h : kI x = kI y) : x = y := by
  unfold kI at h
  exact (List.map_inj_right fun a b e => Sum.inl.inj e).mp h
def PosH (H : Hp) (d : Addr) (m : Nat) (F : Pos2) : Prop := ∃ kvs : List (List Key × V), H d = some (.dT kvs) ∧ kvs.length ≤ m ∧ ∀ it : List Int, (F it = none ∧ valV kvs (kI it) = none) ∨ ∃ a b p, F it = some (a, b) ∧ valV kvs (kI it) = some (.ref p) ∧ H p = some (.tup [.int (a : Nat), .int (b : Nat)])
theorem PosH.get {H : Hp} {d q : Addr} {m : Nat} {F : Pos2} (h : PosH H d m F) {it : List Int} {a b : Nat} (e : F it = some (a, b)) (hq : RowH H q it) : ∃ p, DGet H d (.ref q) (some (.ref p)) ∧ H p = some (.tup [.int (a : Nat), .int (b : Nat)]) := by
  obtain ⟨kvs, h1, _, h3⟩ := h
  rcases h3 it with ⟨z, _⟩ | ⟨a', b', p, z1, z2, z3⟩
  · rw [e] at z; cases z
  · rw [e] at z1
    cases z1
    have := DGet.t (k := kI it) h1 (by rw [kI_kV]; exact hq)
    rw [z2] at this
    exact ⟨p, this, z3⟩
theorem PosH.put {H : Hp} {d q p : Addr} {m : Nat} {F : Pos2} (h : PosH H d m F) {it : List Int} {a b : Nat} (hq : RowH H q it) (hp : H p = some (.tup [.int (a : Nat), .int (b : Nat)])) (hm : m < sizeLine) : ∃ H', DPut H d (.ref q) (.ref p) H' ∧ PosH H' d (m + 1) (putP F it (a, b)) ∧ ∃ o, H' = upd H d o := by
  obtain ⟨kvs, h1, h2, h3⟩ := h
  refine ⟨_, DPut.t (k := kI it) h1 (by rw [kI_kV]; exact hq) (by omega), ⟨_, upd_same, ?_, fun z => ?_⟩, _, rfl⟩
  · have := length_putK kvs (kI it) (V.ref p)
    omega
  · have nd : ∀ {x : Addr} {xs : List V}, H x = some (.tup xs) → x ≠ d := fun {x xs} hx => ne_of hx h1 (by intro z; cases z)
    rw [valV_put]
    unfold putP
    by_cases c : z = it
    · subst c
      rw [if_pos rfl, if_pos rfl]
      exact .inr ⟨a, b, p, rfl, rfl, by rw [upd_ne (nd hp)]; exact hp⟩
    · rw [if_neg c, if_neg (fun e => c (kI_inj e))]
      rcases h3 z with z1 | ⟨a', b', p', z1, z2, z3⟩
      · exact .inl z1
      · exact .inr ⟨a', b', p', z1, z2, by rw [upd_ne (nd z3)]; exact z3⟩
theorem PosH.same {H H' : Hp} {d : Addr} {m : Nat} {F : Pos2} (h : PosH H d m F) (s : Same H H') : PosH H' d m F := by
  obtain ⟨kvs, h1, h2, h3⟩ := h
  refine ⟨kvs, s _ _ h1, h2, fun it => ?_⟩
  rcases h3 it with z | ⟨a, b, p, z1, z2, z3⟩
  · exact .inl z
  · exact .inr ⟨a, b, p, z1, z2, s _ _ z3⟩
theorem PosH.le {H : Hp} {d : Addr} {m m' : Nat} {F : Pos2} (h : PosH H d m F) (l : m ≤ m') : PosH H d m' F := let ⟨kvs, h1, h2, h3⟩ := h; ⟨kvs, h1, by omega, h3⟩
/-- a dict's places stay where but new lists change -/
theorem PosH.but {H H' : Hp} {d l : Addr} {ys : List V} {o : HO} {m : Nat} {F : Pos2} (h : PosH H d m F) (hl : H l = some (.lst ys)) : PosH (upd H l o) d m F := by
  obtain ⟨kvs, h1, h2, h3⟩ := h
  refine ⟨kvs, by rw [upd_ne (ne_of h1 hl (by intro z; cases z))]; exact h1, h2, fun it => ?_⟩
  rcases h3 it with z | ⟨a, b, p, z1, z2, z3⟩
  · exact .inl z
  · exact .inr ⟨a, b, p, z1, z2, by rw [upd_ne (ne_of z3 hl (by intro z; cases z))]; exact z3⟩
structure SegIn (R cs : List (List (List Int))) : Prop where
  rl : R.length ≤ 2000
  rb : ∀ row ∈ R, row.length ≤ 100000
  tot : ∀ k, ((R.take k).map List.length).sum ≤ 1000000
  cl : cs.length ≤ 63
  cb : ∀ c ∈ cs, c.length ≤ 2000 ∧ ∀ it ∈ c, it ≠ []
  fall : ∀ c ∈ cs, Falls (posAll R R.length) R.length c
end L2

set_option Elab.async false
set_option linter.all false
set_option maxRecDepth 100000
namespace L2
open PySem PySem.Spec PyProof.Rows
end L2

set_option Elab.async false
set_option linter.all false
set_option maxRecDepth 100000
namespace L2
open PySem PySem.Spec PyProof.Rows
structure Fine (n : Nat) (d : PyData) : Prop where
  sh : d.showable = true
  nd : d.hasDict = false
  dp : d.depth ≤ n
  lv : d.leavesShort 13 = true
structure SmallIt (it : List Int) : Prop where
  ne : it ≠ []
  len : it.length ≤ 3
  all : ∀ x ∈ it, (-999999999999 : Int) ≤ x ∧ x ≤ 999999999999
section
variable {X : Cx}
end
/-! a call with its last argument by keyword -/
end L2

set_option Elab.async false
set_option linter.all false
set_option maxRecDepth 100000
namespace L2
open PySem PySem.Spec PyProof.Rows
section
variable {K : PySem.W.Frag}
/-- a def of three arguments, the last one with a default -/
theorem FunD.c3 {x qual : Str} {st : Stmt} {f : Addr} {fd : FuncData} {its : Array Value} {a b c : Str} (F : FunD K x qual st f fd its)
    (h : ∀ (dt : Addr) (kV doc pm : Value) (an : Option Addr) (cdv ct : Value) (u v w : Value), ∃ k, bindArgs (PySem.W.fnOf x qual (defArgs st) (defBody st) (defScope st) (.ref dt) kV doc pm an cdv ct) ⟨[u, v, w], []⟩ = (seqItems? (.ref dt) >>= k) ∧ k (some its) = pure [(a, u), (b, v), (c, w)]) : Binds K fd [a, b, c] [] := fun s us X hl => by
  obtain ⟨oc, od, kV, doc, pm, an, cdv, ct, osl, dt, ot, nt, rfl, lk, hcd, q, qd⟩ := F.ex
  match us, hl with
  | [u, v, w], _ =>
    obtain ⟨k, h1, h2⟩ := h dt kV doc pm an cdv ct u v w
    exact PySem.W.binds_K X rfl q qd h1 h2
theorem FunD.c2 {x qual : Str} {st : Stmt} {f : Addr} {fd : FuncData} {d : Value} {a b c : Str} (F : FunD K x qual st f fd #[d])
    (h : ∀ (dt : Addr) (kV doc pm : Value) (an : Option Addr) (cdv ct : Value) (u v : Value), ∃ k, bindArgs (PySem.W.fnOf x qual (defArgs st) (defBody st) (defScope st) (.ref dt) kV doc pm an cdv ct) ⟨[u, v], []⟩ = (seqItems? (.ref dt) >>= k) ∧ k (some #[d]) = pure [(a, u), (b, v), (c, d)]) : Binds K fd [a, b, c] [d] := fun s us X hl => by
  obtain ⟨oc, od, kV, doc, pm, an, cdv, ct, osl, dt, ot, nt, rfl, lk, hcd, q, qd⟩ := F.ex
  have hl' : us.length = 2 := by simpa using hl
  match us, hl' with
  | [u, v], _ =>
    obtain ⟨k, h1, h2⟩ := h dt kV doc pm an cdv ct u v
    exact PySem.W.binds_K X rfl q qd h1 h2
end
end L2

set_option Elab.async false
set_option linter.all false
set_option maxRecDepth 100000
namespace HT
open PySem PyProof.Rows
section
variable {prog : Program} {w : World} {A : Around} {E : Value → Shared → Prop} {s : Shared} {l : Addr} {its : List Value} {ns : List Int} {Q : Value → Shared → Prop}
end
end HT
namespace L2
open PySem PySem.Spec PyProof.Rows
section
variable {X : Cx}
end
end L2

set_option Elab.async false
set_option linter.all false
set_option maxRecDepth 100000
set_option maxHeartbeats 1000000
namespace W1
open PySem PySem.Spec PyProof.Rows L2
/-- the class BadWeb -/
structure ExW (K : PySem.W.Frag) (cW : Addr) : Prop where
  w : PySem.W.nsIn K mainGlobals "BadWeb" = some (some (.ref cW))
  x : PySem.W.excIn K cW [.type "ValueError", .type "Exception", .type "BaseException", .type "object"] "ValueError.__new__" = true
  yes : PySem.W.exmOne K (.ref cW) (.ref cW) = some true
/-- refused with BadWeb: a web that is none is handed in -/
def RdW (a : Addr) (H : Hp) : Prop := ∃ (W : Web) (n r s : Addr), WebH H a W n r s ∧ WebOk W ∧ webB W = false
def spBad (m : Nat) (cW : Addr) : Sp := fun vs H Q E => ∃ (a : Addr) (rest : List V), vs = .ref a :: rest ∧ rest.length = m ∧ RdW a H ∧ ∀ H', Same H H' → E (.ref cW) none H'
theorem RdW.same {a : Addr} {H H' : Hp} (h : RdW a H) (s : Same H H') : RdW a H' := let ⟨W, n, r, sa, hW, wok, hg⟩ := h; ⟨W, n, r, sa, hW.tu s.tu, wok, hg⟩
section
variable {P : Program} {w : World} {K : PySem.W.Frag} {mg : Str → Option Value} {base : Heap} {t : Ad} {cW : Addr}
theorem no_fn {f : Addr} {fd : FuncData} {ps : List Str} {k : Nat} : FnOk P w K mg base CX0 k f fd ps (fun _ _ _ _ => False) := ⟨fun _ _ _ _ h => h.elim, fun _ _ _ _ _ _ _ _ _ _ _ _ _ h => h.elim⟩
theorem bad_need_web (T : Txt K mg t) (Z : ExW K cW) (KX : K.In base) (G : base.Ns mainGlobals mg) : FnOk P w K mg base (CXE P w) 4 t.f_need_web t.d_need_web ["web"] (spBad 0 cW) := by
  have G_is_web : FnOk P w K mg base CX0 3 t.f_is_web t.d_is_web ["web"] (spWeb K) := ok_web T
  have O := own_K KX G Z.w Z.x
  refine T.F_need_web.okX sc_need_web (fun vs H Q E h => ?_) (fun cdv A outer s H vs Q E hr h => ?_)
  · obtain ⟨a, rest, rfl, hl, _⟩ := h
    simp [hl]
  · obtain ⟨a, rest, rfl, hl, ⟨W, n, r, sa, hW, wok, hg⟩, k⟩ := h
    have nd := sc_need_web.nd
    refine ⟨_, (pss_one (ps_if (pt_not (pt_val (pe_call G_is_web (hr.mono (by omega)) (by rfl) T.m_is_web T.F_is_web.kp T.b_is_web .nil pass0 (pa_cons (pv 0) pa_nil)))) (pss_one (ps_raise O PySem.F.excBase_ValueError (by rfl) (pa_cons pe_str pa_nil))) pss_nil)), ?_⟩
    refine ⟨_, rfl, a, W, rfl, hW.at, wok, fun H1 s1 => ⟨_, rfl, ?_⟩⟩
    rw [hg]
    exact iteT ⟨by show 1 ≤ sizeLine; decide, k H1 s1⟩
theorem bad_boxes_of (T : Txt K mg t) (Z : ExW K cW) (KX : K.In base) (G : base.Ns mainGlobals mg) : FnOk P w K mg base (CXE P w) 5 t.f_boxes_of t.d_boxes_of ["web", "arrow"] (spBad 1 cW) := by
  have G_need_web := bad_need_web (P := P) (w := w) T Z KX G
  refine T.F_boxes_of.okX sc_boxes_of (fun vs H Q E h => ?_) (fun cdv A outer s H vs Q E hr h => ?_)
  · obtain ⟨a, rest, rfl, hl, _⟩ := h
    simp [hl]
  · obtain ⟨a, rest, rfl, hl, hR, k⟩ := h
    have nd := sc_boxes_of.nd
    obtain ⟨x0, rfl⟩ : ∃ x0, rest = [x0] := match rest, hl with | [x0], _ => ⟨x0, rfl⟩
    refine ⟨_, (pss_cons (ps_expr (pe_call G_need_web (hr.mono (by omega)) (by rfl) T.m_need_web T.F_need_web.kp T.b_need_web .nil (pass_on fun _ _ _ h => h) (pa_cons (pv 0) pa_nil))) pss_any), ?_⟩
    exact ⟨_, rfl, a, [], rfl, rfl, hR, k⟩
theorem bad_without (T : Txt K mg t) (Z : ExW K cW) (KX : K.In base) (G : base.Ns mainGlobals mg) : FnOk P w K mg base (CXE P w) 5 t.f_without t.d_without ["web", "arrows"] (spBad 1 cW) := by
  have G_need_web := bad_need_web (P := P) (w := w) T Z KX G
  refine T.F_without.okX sc_without (fun vs H Q E h => ?_) (fun cdv A outer s H vs Q E hr h => ?_)
  · obtain ⟨a, rest, rfl, hl, _⟩ := h
    simp [hl]
  · obtain ⟨a, rest, rfl, hl, hR, k⟩ := h
    have nd := sc_without.nd
    obtain ⟨x0, rfl⟩ : ∃ x0, rest = [x0] := match rest, hl with | [x0], _ => ⟨x0, rfl⟩
    refine ⟨_, (pss_cons (ps_expr (pe_call G_need_web (hr.mono (by omega)) (by rfl) T.m_need_web T.F_need_web.kp T.b_need_web .nil (pass_on fun _ _ _ h => h) (pa_cons (pv 0) pa_nil))) pss_any), ?_⟩
    exact ⟨_, rfl, a, [], rfl, rfl, hR, k⟩
theorem bad_chains (T : Txt K mg t) (Z : ExW K cW) (KX : K.In base) (G : base.Ns mainGlobals mg) : FnOk P w K mg base (CXE P w) 5 t.f_chains t.d_chains ["web", "layering"] (spBad 1 cW) := by
  have G_need_web := bad_need_web (P := P) (w := w) T Z KX G
  refine T.F_chains.okX sc_chains (fun vs H Q E h => ?_) (fun cdv A outer s H vs Q E hr h => ?_)
  · obtain ⟨a, rest, rfl, hl, _⟩ := h
    simp [hl]
  · obtain ⟨a, rest, rfl, hl, hR, k⟩ := h
    have nd := sc_chains.nd
    obtain ⟨x0, rfl⟩ : ∃ x0, rest = [x0] := match rest, hl with | [x0], _ => ⟨x0, rfl⟩
    refine ⟨_, (pss_cons (ps_expr (pe_call G_need_web (hr.mono (by omega)) (by rfl) T.m_need_web T.F_need_web.kp T.b_need_web .nil (pass_on fun _ _ _ h => h) (pa_cons (pv 0) pa_nil))) pss_any), ?_⟩
    exact ⟨_, rfl, a, [], rfl, rfl, hR, k⟩
theorem bad_turned (T : Txt K mg t) (Z : ExW K cW) (KX : K.In base) (G : base.Ns mainGlobals mg) : FnOk P w K mg base (CXE P w) 5 t.f_turned t.d_turned ["web"] (spBad 0 cW) := by
  have G_need_web := bad_need_web (P := P) (w := w) T Z KX G
  refine T.F_turned.okX sc_turned (fun vs H Q E h => ?_) (fun cdv A outer s H vs Q E hr h => ?_)
  · obtain ⟨a, rest, rfl, hl, _⟩ := h
    simp [hl]
  · obtain ⟨a, rest, rfl, hl, hR, k⟩ := h
    have nd := sc_turned.nd
    refine ⟨_, (pss_cons (ps_expr (pe_call G_need_web (hr.mono (by omega)) (by rfl) T.m_need_web T.F_need_web.kp T.b_need_web .nil (pass_on fun _ _ _ h => h) (pa_cons (pv 0) pa_nil))) pss_any), ?_⟩
    exact ⟨_, rfl, a, [], rfl, rfl, hR, k⟩
theorem bad_ring (T : Txt K mg t) (Z : ExW K cW) (KX : K.In base) (G : base.Ns mainGlobals mg) : FnOk P w K mg base (CXE P w) 5 t.f_ring t.d_ring ["web", "arrow"] (spBad 1 cW) := by
  have G_need_web := bad_need_web (P := P) (w := w) T Z KX G
  refine T.F_ring.okX sc_ring (fun vs H Q E h => ?_) (fun cdv A outer s H vs Q E hr h => ?_)
  · obtain ⟨a, rest, rfl, hl, _⟩ := h
    simp [hl]
  · obtain ⟨a, rest, rfl, hl, hR, k⟩ := h
    have nd := sc_ring.nd
    obtain ⟨x0, rfl⟩ : ∃ x0, rest = [x0] := match rest, hl with | [x0], _ => ⟨x0, rfl⟩
    refine ⟨_, (pss_cons (ps_expr (pe_call G_need_web (hr.mono (by omega)) (by rfl) T.m_need_web T.F_need_web.kp T.b_need_web .nil (pass_on fun _ _ _ h => h) (pa_cons (pv 0) pa_nil))) pss_any), ?_⟩
    exact ⟨_, rfl, a, [], rfl, rfl, hR, k⟩
theorem bad_knots (T : Txt K mg t) (Z : ExW K cW) (KX : K.In base) (G : base.Ns mainGlobals mg) : FnOk P w K mg base (CXE P w) 5 t.f_knots t.d_knots ["web"] (spBad 0 cW) := by
  have G_need_web := bad_need_web (P := P) (w := w) T Z KX G
  refine T.F_knots.okX sc_knots (fun vs H Q E h => ?_) (fun cdv A outer s H vs Q E hr h => ?_)
  · obtain ⟨a, rest, rfl, hl, _⟩ := h
    simp [hl]
  · obtain ⟨a, rest, rfl, hl, hR, k⟩ := h
    have nd := sc_knots.nd
    refine ⟨_, (pss_cons (ps_expr (pe_call G_need_web (hr.mono (by omega)) (by rfl) T.m_need_web T.F_need_web.kp T.b_need_web .nil (pass_on fun _ _ _ h => h) (pa_cons (pv 0) pa_nil))) pss_any), ?_⟩
    exact ⟨_, rfl, a, [], rfl, rfl, hR, k⟩
theorem bad_ties (T : Txt K mg t) (Z : ExW K cW) (KX : K.In base) (G : base.Ns mainGlobals mg) : FnOk P w K mg base (CXE P w) 5 t.f_ties t.d_ties ["web"] (spBad 0 cW) := by
  have G_need_web := bad_need_web (P := P) (w := w) T Z KX G
  refine T.F_ties.okX sc_ties (fun vs H Q E h => ?_) (fun cdv A outer s H vs Q E hr h => ?_)
  · obtain ⟨a, rest, rfl, hl, _⟩ := h
    simp [hl]
  · obtain ⟨a, rest, rfl, hl, hR, k⟩ := h
    have nd := sc_ties.nd
    refine ⟨_, (pss_cons (ps_expr (pe_call G_need_web (hr.mono (by omega)) (by rfl) T.m_need_web T.F_need_web.kp T.b_need_web .nil (pass_on fun _ _ _ h => h) (pa_cons (pv 0) pa_nil))) pss_any), ?_⟩
    exact ⟨_, rfl, a, [], rfl, rfl, hR, k⟩
theorem bad_widths (T : Txt K mg t) (Z : ExW K cW) (KX : K.In base) (G : base.Ns mainGlobals mg) : FnOk P w K mg base (CXE P w) 5 t.f_widths t.d_widths ["web", "layering"] (spBad 1 cW) := by
  have G_need_web := bad_need_web (P := P) (w := w) T Z KX G
  refine T.F_widths.okX sc_widths (fun vs H Q E h => ?_) (fun cdv A outer s H vs Q E hr h => ?_)
  · obtain ⟨a, rest, rfl, hl, _⟩ := h
    simp [hl]
  · obtain ⟨a, rest, rfl, hl, hR, k⟩ := h
    have nd := sc_widths.nd
    obtain ⟨x0, rfl⟩ : ∃ x0, rest = [x0] := match rest, hl with | [x0], _ => ⟨x0, rfl⟩
    refine ⟨_, (pss_cons (ps_expr (pe_call G_need_web (hr.mono (by omega)) (by rfl) T.m_need_web T.F_need_web.kp T.b_need_web .nil (pass_on fun _ _ _ h => h) (pa_cons (pv 0) pa_nil))) pss_any), ?_⟩
    exact ⟨_, rfl, a, [], rfl, rfl, hR, k⟩
theorem bad_state_of (T : Txt K mg t) (Z : ExW K cW) (KX : K.In base) (G : base.Ns mainGlobals mg) : FnOk P w K mg base (CXE P w) 5 t.f_state_of t.d_state_of ["web"] (spBad 0 cW) := by
  have G_need_web := bad_need_web (P := P) (w := w) T Z KX G
  refine T.F_state_of.okX sc_state_of (fun vs H Q E h => ?_) (fun cdv A outer s H vs Q E hr h => ?_)
  · obtain ⟨a, rest, rfl, hl, _⟩ := h
    simp [hl]
  · obtain ⟨a, rest, rfl, hl, hR, k⟩ := h
    have nd := sc_state_of.nd
    refine ⟨_, (pss_cons (ps_expr (pe_call G_need_web (hr.mono (by omega)) (by rfl) T.m_need_web T.F_need_web.kp T.b_need_web .nil (pass_on fun _ _ _ h => h) (pa_cons (pv 0) pa_nil))) pss_any), ?_⟩
    exact ⟨_, rfl, a, [], rfl, rfl, hR, k⟩
theorem bad_web_text (T : Txt K mg t) (Z : ExW K cW) (KX : K.In base) (G : base.Ns mainGlobals mg) : FnOk P w K mg base (CXE P w) 5 t.f_web_text t.d_web_text ["web"] (spBad 0 cW) := by
  have G_need_web := bad_need_web (P := P) (w := w) T Z KX G
  refine T.F_web_text.okX sc_web_text (fun vs H Q E h => ?_) (fun cdv A outer s H vs Q E hr h => ?_)
  · obtain ⟨a, rest, rfl, hl, _⟩ := h
    simp [hl]
  · obtain ⟨a, rest, rfl, hl, hR, k⟩ := h
    have nd := sc_web_text.nd
    refine ⟨_, (pss_cons (ps_expr (pe_call G_need_web (hr.mono (by omega)) (by rfl) T.m_need_web T.F_need_web.kp T.b_need_web .nil (pass_on fun _ _ _ h => h) (pa_cons (pv 0) pa_nil))) pss_any), ?_⟩
    exact ⟨_, rfl, a, [], rfl, rfl, hR, k⟩
theorem bad_rows (T : Txt K mg t) (Z : ExW K cW) (KX : K.In base) (G : base.Ns mainGlobals mg) : FnOk P w K mg base (CXE P w) 6 t.f_rows t.d_rows ["web", "layering"] (spBad 1 cW) := by
  have G_chains := bad_chains (P := P) (w := w) T Z KX G
  refine T.F_rows.okX sc_rows (fun vs H Q E h => ?_) (fun cdv A outer s H vs Q E hr h => ?_)
  · obtain ⟨a, rest, rfl, hl, _⟩ := h
    simp [hl]
  · obtain ⟨a, rest, rfl, hl, hR, k⟩ := h
    have nd := sc_rows.nd
    obtain ⟨x0, rfl⟩ : ∃ x0, rest = [x0] := match rest, hl with | [x0], _ => ⟨x0, rfl⟩
    refine ⟨_, (pss_cons (ps_set (i := 2) nd rfl (Or.inl rfl) (pe_call G_chains (hr.mono (by omega)) (by rfl) T.m_chains T.F_chains.kp T.b_chains .nil (pass_on fun _ _ _ h => h) (pa_cons (pv 0) (pa_cons (pv 1) pa_nil)))) pss_any), ?_⟩
    exact ⟨_, rfl, _, rfl, a, [x0], rfl, rfl, hR, k⟩
theorem bad_picture (T : Txt K mg t) (Z : ExW K cW) (KX : K.In base) (G : base.Ns mainGlobals mg) : FnOk P w K mg base (CXE P w) 6 t.f_picture t.d_picture ["web", "layering", "rows"] (spBad 2 cW) := by
  have G_chains := bad_chains (P := P) (w := w) T Z KX G
  refine T.F_picture.okX sc_picture (fun vs H Q E h => ?_) (fun cdv A outer s H vs Q E hr h => ?_)
  · obtain ⟨a, rest, rfl, hl, _⟩ := h
    simp [hl]
  · obtain ⟨a, rest, rfl, hl, hR, k⟩ := h
    have nd := sc_picture.nd
    obtain ⟨x0, x1, rfl⟩ : ∃ x0 x1, rest = [x0, x1] := match rest, hl with | [x0, x1], _ => ⟨x0, x1, rfl⟩
    refine ⟨_, (pss_cons (ps_set (i := 3) nd rfl (Or.inl rfl) (pe_call G_chains (hr.mono (by omega)) (by rfl) T.m_chains T.F_chains.kp T.b_chains .nil (pass_on fun _ _ _ h => h) (pa_cons (pv 0) (pa_cons (pv 1) pa_nil)))) pss_any), ?_⟩
    exact ⟨_, rfl, _, rfl, a, [x0], rfl, rfl, hR, k⟩
theorem bad_ties_to_keep (T : Txt K mg t) (Z : ExW K cW) (KX : K.In base) (G : base.Ns mainGlobals mg) : FnOk P w K mg base (CXE P w) 6 t.f_ties_to_keep t.d_ties_to_keep ["web"] (spBad 0 cW) := by
  have G_ties := bad_ties (P := P) (w := w) T Z KX G
  refine T.F_ties_to_keep.okX sc_ties_to_keep (fun vs H Q E h => ?_) (fun cdv A outer s H vs Q E hr h => ?_)
  · obtain ⟨a, rest, rfl, hl, _⟩ := h
    simp [hl]
  · obtain ⟨a, rest, rfl, hl, hR, k⟩ := h
    have nd := sc_ties_to_keep.nd
    refine ⟨_, (pss_cons (ps_set (i := 1) nd rfl (Or.inl rfl) (pe_call G_ties (hr.mono (by omega)) (by rfl) T.m_ties T.F_ties.kp T.b_ties .nil (pass_on fun _ _ _ h => h) (pa_cons (pv 0) pa_nil))) pss_any), ?_⟩
    exact ⟨_, rfl, a, [], rfl, rfl, hR, k⟩
theorem bad_layers (T : Txt K mg t) (Z : ExW K cW) (KX : K.In base) (G : base.Ns mainGlobals mg) : FnOk P w K mg base (CXE P w) 7 t.f_layers t.d_layers ["web"] (spBad 0 cW) := by
  have G_ties_to_keep := bad_ties_to_keep (P := P) (w := w) T Z KX G
  refine T.F_layers.okX sc_layers (fun vs H Q E h => ?_) (fun cdv A outer s H vs Q E hr h => ?_)
  · obtain ⟨a, rest, rfl, hl, _⟩ := h
    simp [hl]
  · obtain ⟨a, rest, rfl, hl, hR, k⟩ := h
    have nd := sc_layers.nd
    refine ⟨_, (pss_cons (ps_set (i := 1) nd rfl (Or.inl rfl) (pe_call G_ties_to_keep (hr.mono (by omega)) (by rfl) T.m_ties_to_keep T.F_ties_to_keep.kp T.b_ties_to_keep .nil (pass_on fun _ _ _ h => h) (pa_cons (pv 0) pa_nil))) pss_any), ?_⟩
    exact ⟨_, rfl, a, [], rfl, rfl, hR, k⟩
theorem bad_flow (T : Txt K mg t) (Z : ExW K cW) (KX : K.In base) (G : base.Ns mainGlobals mg) : FnOk P w K mg base (CXE P w) 7 t.f_flow t.d_flow ["web"] (spBad 0 cW) := by
  have G_ties_to_keep := bad_ties_to_keep (P := P) (w := w) T Z KX G
  refine T.F_flow.okX sc_flow (fun vs H Q E h => ?_) (fun cdv A outer s H vs Q E hr h => ?_)
  · obtain ⟨a, rest, rfl, hl, _⟩ := h
    simp [hl]
  · obtain ⟨a, rest, rfl, hl, hR, k⟩ := h
    have nd := sc_flow.nd
    refine ⟨_, (pss_cons (ps_set (i := 1) nd rfl (Or.inl rfl) (pe_call G_ties_to_keep (hr.mono (by omega)) (by rfl) T.m_ties_to_keep T.F_ties_to_keep.kp T.b_ties_to_keep .nil (pass_on fun _ _ _ h => h) (pa_cons (pv 0) pa_nil))) pss_any), ?_⟩
    exact ⟨_, rfl, a, [], rfl, rfl, hR, k⟩
theorem bad_length (T : Txt K mg t) (Z : ExW K cW) (KX : K.In base) (G : base.Ns mainGlobals mg) : FnOk P w K mg base (CXE P w) 7 t.f_length t.d_length ["web", "layering"] (spBad 1 cW) := by
  have G_ties_to_keep := bad_ties_to_keep (P := P) (w := w) T Z KX G
  refine T.F_length.okX sc_length (fun vs H Q E h => ?_) (fun cdv A outer s H vs Q E hr h => ?_)
  · obtain ⟨a, rest, rfl, hl, _⟩ := h
    simp [hl]
  · obtain ⟨a, rest, rfl, hl, hR, k⟩ := h
    have nd := sc_length.nd
    obtain ⟨x0, rfl⟩ : ∃ x0, rest = [x0] := match rest, hl with | [x0], _ => ⟨x0, rfl⟩
    refine ⟨_, (pss_cons (ps_set (i := 2) nd rfl (Or.inl rfl) (pe_call G_ties_to_keep (hr.mono (by omega)) (by rfl) T.m_ties_to_keep T.F_ties_to_keep.kp T.b_ties_to_keep .nil (pass_on fun _ _ _ h => h) (pa_cons (pv 0) pa_nil))) pss_any), ?_⟩
    exact ⟨_, rfl, a, [], rfl, rfl, hR, k⟩
theorem bad_clash (T : Txt K mg t) (Z : ExW K cW) (KX : K.In base) (G : base.Ns mainGlobals mg) : FnOk P w K mg base (CXE P w) 6 t.f_clash t.d_clash ["web"] (spBad 0 cW) := by
  have G_ties := bad_ties (P := P) (w := w) T Z KX G
  have G_gaining_ring : FnOk P w K mg base CX0 1 t.f_gaining_ring t.d_gaining_ring ["boxes", "ties"] (fun _ _ _ _ => False) := no_fn
  refine T.F_clash.okX sc_clash (fun vs H Q E h => ?_) (fun cdv A outer s H vs Q E hr h => ?_)
  · obtain ⟨a, rest, rfl, hl, _⟩ := h
    simp [hl]
  · obtain ⟨a, rest, rfl, hl, hR, k⟩ := h
    have nd := sc_clash.nd
    obtain ⟨W, n, r, sa, hW, wok, hg⟩ := id hR
    refine ⟨_, (pss_one (ps_ret (pe_call G_gaining_ring (hr.mono (by omega)) (by rfl) T.m_gaining_ring T.F_gaining_ring.kp T.b_gaining_ring .nil pass0 (pa_cons (pe_callB call_len_seq (by rfl) T.b_len (by decide +kernel) (pa_cons (pe_ix ix_tup (pv 0) pe_int (fun _ _ => rfl)) pa_nil)) (pa_cons (pe_call G_ties (hr.mono (by omega)) (by rfl) T.m_ties T.F_ties.kp T.b_ties .nil (pass_on fun _ _ _ h => h) (pa_cons (pv 0) pa_nil)) pa_nil))))), ?_⟩
    exact ⟨_, rfl, a, _, _, _, rfl, rfl, SqT.of hW.tup, rfl, _, _, rfl, .inr (SqT.of hW.nam), _, rfl, a, [], rfl, rfl, hR, k⟩
theorem bad_worth (T : Txt K mg t) (Z : ExW K cW) (KX : K.In base) (G : base.Ns mainGlobals mg) : FnOk P w K mg base (CXE P w) 6 t.f_worth t.d_worth ["web", "flow"] (spBad 1 cW) := by
  have G_ties := bad_ties (P := P) (w := w) T Z KX G
  refine T.F_worth.okX sc_worth (fun vs H Q E h => ?_) (fun cdv A outer s H vs Q E hr h => ?_)
  · obtain ⟨a, rest, rfl, hl, _⟩ := h
    simp [hl]
  · obtain ⟨a, rest, rfl, hl, hR, k⟩ := h
    have nd := sc_worth.nd
    obtain ⟨x0, rfl⟩ : ∃ x0, rest = [x0] := match rest, hl with | [x0], _ => ⟨x0, rfl⟩
    refine ⟨_, (pss_one (ps_ret (pe_callB (cr_sum rfl) (by rfl) T.b_sum (by decide +kernel) (pa_cons (pe_lc (own := [("much", 2), ("tie", 3)]) (g := (gTup K 2 (gCons (gName 2) (gCons (gName 3) gNil)))) (by rfl) nd (pi_zip (by rfl) T.zip (pa_cons (pv 1) (pa_cons (pe_call G_ties (hr.mono (by omega)) (by rfl) T.m_ties T.F_ties.kp T.b_ties .nil (pass_on fun _ _ _ h => h) (pa_cons (pv 0) pa_nil)) pa_nil))) (blkOk_by (own := [("much", 2), ("tie", 3)]) (N := ["web", "flow", "much", "tie"]) (sc := defScope s_worth) (by decide +kernel)) (fun _ _ _ _ _ => (pg_tup (by rfl) (pgs_cons (pg_name (i := 2) nd rfl (Or.inl rfl)) (pgs_cons (pg_name (i := 3) nd rfl (Or.inl rfl)) pgs_nil)))) (fun _ _ _ _ _ => pts_nil) (fun _ _ _ _ _ => (pe_op op_mul (pv 2) (pe_ix (show IxR _ (rIxT K) from ix_tup) (pv 3) pe_int (fun _ _ => rfl))))) pa_nil)))), ?_⟩
    exact ⟨_, rfl, _, rfl, a, [], rfl, rfl, hR, k⟩
end

end W1

set_option Elab.async false
set_option linter.all false
set_option maxRecDepth 100000
set_option maxHeartbeats 1000000
namespace W1
open PySem PySem.Spec PyProof.Rows L2
abbrev s_init : Stmt := inClass (top 140) 0
theorem sc_init : FnScope ["self"] ["self"] (defScope s_init) := ⟨rfl, rfl, rfl, by decide +kernel, rfl, by decide +kernel, by decide +kernel⟩
/-- the class Board -/
structure Brd (K : PySem.W.Frag) (mg : Str → Option Value) (C fI : Addr) (dI : FuncData) : Prop where
  cl : Cls K C
  ma : Mk K C fI
  nN : NoAttr K C "now"
  nP : NoAttr K C "past"
  nF : NoAttr K C "future"
  m : mg "Board" = some (.ref C)
  st : ∃ a, mg "START" = some (.ref a)
  F : Fun K "__init__" "Board.__init__" s_init fI dI
  b : Binds K dI ["self"] []
def spInit (C : Addr) : Sp := fun vs H Q _ => ∃ (p dx : Addr), vs = [.ref p] ∧ H p = some (.ins C dx []) ∧ ∀ (H' : Hp), (∀ b o, H b = some o → b ≠ p → H' b = some o) → Q .non H'
section
variable {P : Program} {w : World} {K : PySem.W.Frag} {mg : Str → Option Value} {base : Heap} {t : Ad} {cW C fI : Addr} {dI : FuncData}
theorem ok_init (B : Brd K mg C fI dI) : FnOk P w K mg base CX0 1 fI dI ["self"] (spInit C) := by
  refine B.F.ok sc_init (fun vs H Q E h => ?_) (fun cdv A outer s H vs Q E hr h => ?_)
  · obtain ⟨p, dx, rfl, _⟩ := h
    rfl
  · obtain ⟨p, dx, rfl, hp, k⟩ := h
    obtain ⟨aS, hS⟩ := B.st
    refine ⟨_, pss_cons (ps_fld (pv 0) (pe_glob (v := V.ref aS) (by rfl) hS rfl) rfl) (pss_cons (ps_fld (pv 0) (pe_lst pa_nil) rfl) (pss_one (ps_fld (pv 0) (pe_lst pa_nil) rfl))), ?_⟩
    refine ⟨_, rfl, p, C, dx, [], rfl, hp, B.cl, B.nN, (by show 0 < 1000; decide), ?_⟩
    refine ⟨by decide, fun l1 h1 => ?_⟩
    have n1 : p ≠ l1 := ne_of_none upd_same h1
    refine ⟨_, rfl, p, C, dx, _, rfl, (by rw [upd_ne n1]; exact upd_same), B.cl, B.nP, (by show 1 < 1000; decide), ?_⟩
    refine ⟨by decide, fun l2 h2 => ?_⟩
    have n2 : p ≠ l2 := ne_of_none upd_same h2
    refine ⟨_, rfl, p, C, dx, _, rfl, (by rw [upd_ne n2]; exact upd_same), B.cl, B.nF, (by show 2 < 1000; decide), ?_⟩
    refine k _ fun b o e hb => ?_
    have b1 : b ≠ l1 := fun q => by rw [← q, upd_ne hb, e] at h1; cases h1
    have b2 : b ≠ l2 := fun q => by rw [← q, upd_ne hb, upd_ne b1, upd_ne hb, e] at h2; cases h2
    rw [upd_ne hb, upd_ne b2, upd_ne hb, upd_ne b1, upd_ne hb]
    exact e
theorem bad_board_of (T : Txt K mg t) (Z : ExW K cW) (B : Brd K mg C fI dI) (KX : K.In base) (G : base.Ns mainGlobals mg) : FnOk P w K mg base (CXE P w) 6 t.f_board_of t.d_board_of ["web"] (spBad 0 cW) := by
  have G_state_of := bad_state_of (P := P) (w := w) T Z KX G
  have GI : FnOk P w K mg base CX0 1 fI dI ["self"] (spInit C) := ok_init B
  refine T.F_board_of.okX sc_board_of (fun vs H Q E h => ?_) (fun cdv A outer s H vs Q E hr h => ?_)
  · obtain ⟨a, rest, rfl, hl, _⟩ := h
    simp [hl]
  · obtain ⟨a, rest, rfl, hl, hR, k⟩ := h
    have nd := sc_board_of.nd
    obtain rfl : rest = [] := List.length_eq_zero_iff.mp hl
    refine ⟨_, pss_cons (ps_set (i := 1) nd rfl (Or.inl rfl) (pe_make0 B.ma GI (hr.mono (by omega)) rfl B.m B.b .nil pass0)) (pss_cons (ps_fld (pv 1) (pe_call G_state_of (hr.mono (by omega)) (by rfl) T.m_state_of T.F_state_of.kp T.b_state_of .nil (pass_on fun _ _ _ h => h) (pa_cons (pv 0) pa_nil)) rfl) pss_any), ?_⟩
    intro x dx nx ndx nex
    refine ⟨x, dx, rfl, upd_same, fun H1 k1 => ⟨rfl, ?_⟩⟩
    have s1 : Same H H1 := fun b o e => k1 b o (by rw [upd_ne (ne_of_none e nx), upd_ne (ne_of_none e ndx)]; exact e) (ne_of_none e nx)
    exact ⟨_, rfl, a, [], rfl, rfl, hR.same s1, fun H2 s2 => k H2 (s1.trans s2)⟩
end

end W1

set_option Elab.async false
set_option linter.all false
set_option maxRecDepth 100000
set_option maxHeartbeats 1000000
namespace W1
open PySem PySem.Spec PyProof.Rows L2
def lamsOf : List Stmt → List LamE
  | .Assign _ (.List es _) _ :: _ => es.flatMap LamE.of
  | _ => []
def doorBods : List LamE := lamsOf (defBody s__law_web_door)
def doorB (i : Nat) : LamE := doorBods.getD i ⟨default, default, default, default⟩
/-- what a refused lambda is handed -/
def RdL (vals : List V) (H : Hp) : Prop := ∃ a : Addr, vals = [.ref a] ∧ RdW a H
def spLB (cW : Addr) (vals : List V) : Sp := fun vs H Q E => vs = [] ∧ RdL vals H ∧ ∀ H', Same H H' → E (.ref cW) none H'
section
variable {P : Program} {w : World} {K : PySem.W.Frag} {mg : Str → Option Value} {base : Heap} {t : Ad} {cW C fI : Addr} {dI : FuncData}
theorem ok_wordB (T : Txt K mg t) (Z : ExW K cW) (KX : K.In base) (G : base.Ns mainGlobals mg) {lam : Addr} {fd : FuncData} {ob : Obj} {vals : List V} (F : FnOk P w K mg base (CXE P w) 8 lam fd [] (spLB cW vals)) (hf : base.get? lam = some ob) (hd : ob.data = .func fd) (hbd : ∀ (us : List Value), us.length = 0 → bindArgs fd ⟨us, []⟩ = pure (([] : List Str).zip us)) :
    FnOk P w K mg base CX0 9 t.f__law_word t.d__law_word ["_law_ask"] (spW "BadWeb" RdL vals lam) := by
  refine T.F__law_word.ok sc__law_word (fun vs H Q E h => ?_) (fun cdv A outer s H vs Q E hr h => ?_)
  · obtain ⟨rfl, _⟩ := h
    rfl
  · obtain ⟨rfl, hR, k⟩ := h
    have nd := sc__law_word.nd
    refine ⟨_, (pss_cons (ps_set (i := 1) nd rfl (Or.inl rfl) pe_str)
      (pss_cons (ps_try (i := 0) rfl F (hr.mono (by omega)) hf hd (.all hbd) (pv 0) rfl rfl rfl (fun c σ H2 D => c = .ref cW ∧ D.nx (σ.set 1 (some (.str "BadWeb"))) H2) (fun I F2 h => by obtain ⟨hC, hnx⟩ := h; cases hC; exact hand_hit rfl I F2 (by rfl) (PySem.W.mg_of KX G Z.w) Z.yes (pss_one (ps_set (i := 1) nd rfl (Or.inl rfl) pe_str)) hnx))
      (pss_one (ps_ret (pv 1))))), ?_⟩
    exact ⟨_, rfl, rfl, rfl, rfl, hR, fun H' s' => ⟨rfl, _, rfl, k H' s'⟩⟩
theorem wd_0 (T : Txt K mg t) (Z : ExW K cW) (B : Brd K mg C fI dI) (KX : K.In base) (G : base.Ns mainGlobals mg) {lam c' ca : Addr} {name qual : Str} {pm ctv : Value} {vals : List V}
    (L : Lam base lam name qual (doorB 0).params (doorB 0).body (doorB 0).scope [("_law_web", ca)] pm c' ctv ["_law_web"] vals) : FnOk P w K mg base CX0 9 t.f__law_word t.d__law_word ["_law_ask"] (spW "BadWeb" RdL vals lam) := by
  have Gd := bad_boxes_of (P := P) (w := w) T Z KX G
  refine ok_wordB T Z KX G (lam_ok L (lamScope_of rfl rfl rfl rfl rfl) (fun _ _ _ _ h => h.1) fun A outer s H Q E hr h => ?_) L.obj rfl (fun us h => by cases us with | nil => rfl | cons _ _ => cases h)
  obtain ⟨_, ⟨a, rfl, hR⟩, k⟩ := h
  exact ⟨_, (pe_call (E := E) Gd (hr.mono (by omega)) (by rfl) T.m_boxes_of T.F_boxes_of.kp T.b_boxes_of .nil (pass_lam fun _ _ _ h => h) (pa_cons (pv 0 (hv := Or.inr (Or.inr rfl))) (pa_cons pe_int pa_nil))), ⟨_, rfl, a, _, rfl, rfl, hR, k⟩⟩
theorem wd_1 (T : Txt K mg t) (Z : ExW K cW) (B : Brd K mg C fI dI) (KX : K.In base) (G : base.Ns mainGlobals mg) {lam c' ca : Addr} {name qual : Str} {pm ctv : Value} {vals : List V}
    (L : Lam base lam name qual (doorB 1).params (doorB 1).body (doorB 1).scope [("_law_web", ca)] pm c' ctv ["_law_web"] vals) : FnOk P w K mg base CX0 9 t.f__law_word t.d__law_word ["_law_ask"] (spW "BadWeb" RdL vals lam) := by
  have Gd := bad_without (P := P) (w := w) T Z KX G
  refine ok_wordB T Z KX G (lam_ok L (lamScope_of rfl rfl rfl rfl rfl) (fun _ _ _ _ h => h.1) fun A outer s H Q E hr h => ?_) L.obj rfl (fun us h => by cases us with | nil => rfl | cons _ _ => cases h)
  obtain ⟨_, ⟨a, rfl, hR⟩, k⟩ := h
  exact ⟨_, (pe_call (E := E) Gd (hr.mono (by omega)) (by rfl) T.m_without T.F_without.kp T.b_without .nil (pass_lam fun _ _ _ h => h) (pa_cons (pv 0 (hv := Or.inr (Or.inr rfl))) (pa_cons (pe_lst (pa_cons pe_int pa_nil)) pa_nil))), ⟨_, rfl, (by decide), fun l hl => ⟨a, _, rfl, rfl, hR.same (Same.new hl), fun H2 s2 => k H2 ((Same.new hl).trans s2)⟩⟩⟩
theorem wd_2 (T : Txt K mg t) (Z : ExW K cW) (B : Brd K mg C fI dI) (KX : K.In base) (G : base.Ns mainGlobals mg) {lam c' ca : Addr} {name qual : Str} {pm ctv : Value} {vals : List V}
    (L : Lam base lam name qual (doorB 2).params (doorB 2).body (doorB 2).scope [("_law_web", ca)] pm c' ctv ["_law_web"] vals) : FnOk P w K mg base CX0 9 t.f__law_word t.d__law_word ["_law_ask"] (spW "BadWeb" RdL vals lam) := by
  have Gd := bad_turned (P := P) (w := w) T Z KX G
  refine ok_wordB T Z KX G (lam_ok L (lamScope_of rfl rfl rfl rfl rfl) (fun _ _ _ _ h => h.1) fun A outer s H Q E hr h => ?_) L.obj rfl (fun us h => by cases us with | nil => rfl | cons _ _ => cases h)
  obtain ⟨_, ⟨a, rfl, hR⟩, k⟩ := h
  exact ⟨_, (pe_call (E := E) Gd (hr.mono (by omega)) (by rfl) T.m_turned T.F_turned.kp T.b_turned .nil (pass_lam fun _ _ _ h => h) (pa_cons (pv 0 (hv := Or.inr (Or.inr rfl))) pa_nil)), ⟨_, rfl, a, _, rfl, rfl, hR, k⟩⟩
theorem wd_3 (T : Txt K mg t) (Z : ExW K cW) (B : Brd K mg C fI dI) (KX : K.In base) (G : base.Ns mainGlobals mg) {lam c' ca : Addr} {name qual : Str} {pm ctv : Value} {vals : List V}
    (L : Lam base lam name qual (doorB 3).params (doorB 3).body (doorB 3).scope [("_law_web", ca)] pm c' ctv ["_law_web"] vals) : FnOk P w K mg base CX0 9 t.f__law_word t.d__law_word ["_law_ask"] (spW "BadWeb" RdL vals lam) := by
  have Gd := bad_ring (P := P) (w := w) T Z KX G
  refine ok_wordB T Z KX G (lam_ok L (lamScope_of rfl rfl rfl rfl rfl) (fun _ _ _ _ h => h.1) fun A outer s H Q E hr h => ?_) L.obj rfl (fun us h => by cases us with | nil => rfl | cons _ _ => cases h)
  obtain ⟨_, ⟨a, rfl, hR⟩, k⟩ := h
  exact ⟨_, (pe_call (E := E) Gd (hr.mono (by omega)) (by rfl) T.m_ring T.F_ring.kp T.b_ring .nil (pass_lam fun _ _ _ h => h) (pa_cons (pv 0 (hv := Or.inr (Or.inr rfl))) (pa_cons pe_int pa_nil))), ⟨_, rfl, a, _, rfl, rfl, hR, k⟩⟩
theorem wd_4 (T : Txt K mg t) (Z : ExW K cW) (B : Brd K mg C fI dI) (KX : K.In base) (G : base.Ns mainGlobals mg) {lam c' ca : Addr} {name qual : Str} {pm ctv : Value} {vals : List V}
    (L : Lam base lam name qual (doorB 4).params (doorB 4).body (doorB 4).scope [("_law_web", ca)] pm c' ctv ["_law_web"] vals) : FnOk P w K mg base CX0 9 t.f__law_word t.d__law_word ["_law_ask"] (spW "BadWeb" RdL vals lam) := by
  have Gd := bad_knots (P := P) (w := w) T Z KX G
  refine ok_wordB T Z KX G (lam_ok L (lamScope_of rfl rfl rfl rfl rfl) (fun _ _ _ _ h => h.1) fun A outer s H Q E hr h => ?_) L.obj rfl (fun us h => by cases us with | nil => rfl | cons _ _ => cases h)
  obtain ⟨_, ⟨a, rfl, hR⟩, k⟩ := h
  exact ⟨_, (pe_call (E := E) Gd (hr.mono (by omega)) (by rfl) T.m_knots T.F_knots.kp T.b_knots .nil (pass_lam fun _ _ _ h => h) (pa_cons (pv 0 (hv := Or.inr (Or.inr rfl))) pa_nil)), ⟨_, rfl, a, _, rfl, rfl, hR, k⟩⟩
theorem wd_5 (T : Txt K mg t) (Z : ExW K cW) (B : Brd K mg C fI dI) (KX : K.In base) (G : base.Ns mainGlobals mg) {lam c' ca : Addr} {name qual : Str} {pm ctv : Value} {vals : List V}
    (L : Lam base lam name qual (doorB 5).params (doorB 5).body (doorB 5).scope [("_law_web", ca)] pm c' ctv ["_law_web"] vals) : FnOk P w K mg base CX0 9 t.f__law_word t.d__law_word ["_law_ask"] (spW "BadWeb" RdL vals lam) := by
  have Gd := bad_ties (P := P) (w := w) T Z KX G
  refine ok_wordB T Z KX G (lam_ok L (lamScope_of rfl rfl rfl rfl rfl) (fun _ _ _ _ h => h.1) fun A outer s H Q E hr h => ?_) L.obj rfl (fun us h => by cases us with | nil => rfl | cons _ _ => cases h)
  obtain ⟨_, ⟨a, rfl, hR⟩, k⟩ := h
  exact ⟨_, (pe_call (E := E) Gd (hr.mono (by omega)) (by rfl) T.m_ties T.F_ties.kp T.b_ties .nil (pass_lam fun _ _ _ h => h) (pa_cons (pv 0 (hv := Or.inr (Or.inr rfl))) pa_nil)), ⟨_, rfl, a, _, rfl, rfl, hR, k⟩⟩
theorem wd_6 (T : Txt K mg t) (Z : ExW K cW) (B : Brd K mg C fI dI) (KX : K.In base) (G : base.Ns mainGlobals mg) {lam c' ca : Addr} {name qual : Str} {pm ctv : Value} {vals : List V}
    (L : Lam base lam name qual (doorB 6).params (doorB 6).body (doorB 6).scope [("_law_web", ca)] pm c' ctv ["_law_web"] vals) : FnOk P w K mg base CX0 9 t.f__law_word t.d__law_word ["_law_ask"] (spW "BadWeb" RdL vals lam) := by
  have Gd := bad_clash (P := P) (w := w) T Z KX G
  refine ok_wordB T Z KX G (lam_ok L (lamScope_of rfl rfl rfl rfl rfl) (fun _ _ _ _ h => h.1) fun A outer s H Q E hr h => ?_) L.obj rfl (fun us h => by cases us with | nil => rfl | cons _ _ => cases h)
  obtain ⟨_, ⟨a, rfl, hR⟩, k⟩ := h
  exact ⟨_, (pe_call (E := E) Gd (hr.mono (by omega)) (by rfl) T.m_clash T.F_clash.kp T.b_clash .nil (pass_lam fun _ _ _ h => h) (pa_cons (pv 0 (hv := Or.inr (Or.inr rfl))) pa_nil)), ⟨_, rfl, a, _, rfl, rfl, hR, k⟩⟩
theorem wd_7 (T : Txt K mg t) (Z : ExW K cW) (B : Brd K mg C fI dI) (KX : K.In base) (G : base.Ns mainGlobals mg) {lam c' ca : Addr} {name qual : Str} {pm ctv : Value} {vals : List V}
    (L : Lam base lam name qual (doorB 7).params (doorB 7).body (doorB 7).scope [("_law_web", ca)] pm c' ctv ["_law_web"] vals) : FnOk P w K mg base CX0 9 t.f__law_word t.d__law_word ["_law_ask"] (spW "BadWeb" RdL vals lam) := by
  have Gd := bad_layers (P := P) (w := w) T Z KX G
  refine ok_wordB T Z KX G (lam_ok L (lamScope_of rfl rfl rfl rfl rfl) (fun _ _ _ _ h => h.1) fun A outer s H Q E hr h => ?_) L.obj rfl (fun us h => by cases us with | nil => rfl | cons _ _ => cases h)
  obtain ⟨_, ⟨a, rfl, hR⟩, k⟩ := h
  exact ⟨_, (pe_call (E := E) Gd (hr.mono (by omega)) (by rfl) T.m_layers T.F_layers.kp T.b_layers .nil (pass_lam fun _ _ _ h => h) (pa_cons (pv 0 (hv := Or.inr (Or.inr rfl))) pa_nil)), ⟨_, rfl, a, _, rfl, rfl, hR, k⟩⟩
theorem wd_8 (T : Txt K mg t) (Z : ExW K cW) (B : Brd K mg C fI dI) (KX : K.In base) (G : base.Ns mainGlobals mg) {lam c' ca : Addr} {name qual : Str} {pm ctv : Value} {vals : List V}
    (L : Lam base lam name qual (doorB 8).params (doorB 8).body (doorB 8).scope [("_law_web", ca)] pm c' ctv ["_law_web"] vals) : FnOk P w K mg base CX0 9 t.f__law_word t.d__law_word ["_law_ask"] (spW "BadWeb" RdL vals lam) := by
  have Gd := bad_flow (P := P) (w := w) T Z KX G
  refine ok_wordB T Z KX G (lam_ok L (lamScope_of rfl rfl rfl rfl rfl) (fun _ _ _ _ h => h.1) fun A outer s H Q E hr h => ?_) L.obj rfl (fun us h => by cases us with | nil => rfl | cons _ _ => cases h)
  obtain ⟨_, ⟨a, rfl, hR⟩, k⟩ := h
  exact ⟨_, (pe_call (E := E) Gd (hr.mono (by omega)) (by rfl) T.m_flow T.F_flow.kp T.b_flow .nil (pass_lam fun _ _ _ h => h) (pa_cons (pv 0 (hv := Or.inr (Or.inr rfl))) pa_nil)), ⟨_, rfl, a, _, rfl, rfl, hR, k⟩⟩
theorem wd_9 (T : Txt K mg t) (Z : ExW K cW) (B : Brd K mg C fI dI) (KX : K.In base) (G : base.Ns mainGlobals mg) {lam c' ca : Addr} {name qual : Str} {pm ctv : Value} {vals : List V}
    (L : Lam base lam name qual (doorB 9).params (doorB 9).body (doorB 9).scope [("_law_web", ca)] pm c' ctv ["_law_web"] vals) : FnOk P w K mg base CX0 9 t.f__law_word t.d__law_word ["_law_ask"] (spW "BadWeb" RdL vals lam) := by
  have Gd := bad_length (P := P) (w := w) T Z KX G
  refine ok_wordB T Z KX G (lam_ok L (lamScope_of rfl rfl rfl rfl rfl) (fun _ _ _ _ h => h.1) fun A outer s H Q E hr h => ?_) L.obj rfl (fun us h => by cases us with | nil => rfl | cons _ _ => cases h)
  obtain ⟨_, ⟨a, rfl, hR⟩, k⟩ := h
  exact ⟨_, (pe_call (E := E) Gd (hr.mono (by omega)) (by rfl) T.m_length T.F_length.kp T.bd_length (dvs := [V.non]) (.cons rfl .nil) (pass_lam fun _ _ _ h => h) (pa_cons (pv 0 (hv := Or.inr (Or.inr rfl))) pa_nil)), ⟨_, rfl, a, _, rfl, rfl, hR, k⟩⟩
theorem wd_10 (T : Txt K mg t) (Z : ExW K cW) (B : Brd K mg C fI dI) (KX : K.In base) (G : base.Ns mainGlobals mg) {lam c' ca : Addr} {name qual : Str} {pm ctv : Value} {vals : List V}
    (L : Lam base lam name qual (doorB 10).params (doorB 10).body (doorB 10).scope [("_law_web", ca)] pm c' ctv ["_law_web"] vals) : FnOk P w K mg base CX0 9 t.f__law_word t.d__law_word ["_law_ask"] (spW "BadWeb" RdL vals lam) := by
  have Gd := bad_length (P := P) (w := w) T Z KX G
  refine ok_wordB T Z KX G (lam_ok L (lamScope_of rfl rfl rfl rfl rfl) (fun _ _ _ _ h => h.1) fun A outer s H Q E hr h => ?_) L.obj rfl (fun us h => by cases us with | nil => rfl | cons _ _ => cases h)
  obtain ⟨_, ⟨a, rfl, hR⟩, k⟩ := h
  exact ⟨_, (pe_callK (E := E) Gd (hr.mono (by omega)) (by rfl) T.m_length T.F_length.kp T.bk_length (pass_lam fun _ _ _ h => h) (pa_cons (pv 0 (hv := Or.inr (Or.inr rfl))) pa_nil) (pk_cons (pe_lst pa_nil) pk_nil)), ⟨_, rfl, (by decide), fun l hl => ⟨a, _, rfl, rfl, hR.same (Same.new hl), fun H2 s2 => k H2 ((Same.new hl).trans s2)⟩⟩⟩
theorem wd_11 (T : Txt K mg t) (Z : ExW K cW) (B : Brd K mg C fI dI) (KX : K.In base) (G : base.Ns mainGlobals mg) {lam c' ca : Addr} {name qual : Str} {pm ctv : Value} {vals : List V}
    (L : Lam base lam name qual (doorB 11).params (doorB 11).body (doorB 11).scope [("_law_web", ca)] pm c' ctv ["_law_web"] vals) : FnOk P w K mg base CX0 9 t.f__law_word t.d__law_word ["_law_ask"] (spW "BadWeb" RdL vals lam) := by
  have Gd := bad_worth (P := P) (w := w) T Z KX G
  refine ok_wordB T Z KX G (lam_ok L (lamScope_of rfl rfl rfl rfl rfl) (fun _ _ _ _ h => h.1) fun A outer s H Q E hr h => ?_) L.obj rfl (fun us h => by cases us with | nil => rfl | cons _ _ => cases h)
  obtain ⟨_, ⟨a, rfl, hR⟩, k⟩ := h
  exact ⟨_, (pe_call (E := E) Gd (hr.mono (by omega)) (by rfl) T.m_worth T.F_worth.kp T.b_worth .nil (pass_lam fun _ _ _ h => h) (pa_cons (pv 0 (hv := Or.inr (Or.inr rfl))) (pa_cons (pe_lst pa_nil) pa_nil))), ⟨_, rfl, (by decide), fun l hl => ⟨a, _, rfl, rfl, hR.same (Same.new hl), fun H2 s2 => k H2 ((Same.new hl).trans s2)⟩⟩⟩
theorem wd_12 (T : Txt K mg t) (Z : ExW K cW) (B : Brd K mg C fI dI) (KX : K.In base) (G : base.Ns mainGlobals mg) {lam c' ca : Addr} {name qual : Str} {pm ctv : Value} {vals : List V}
    (L : Lam base lam name qual (doorB 12).params (doorB 12).body (doorB 12).scope [("_law_web", ca)] pm c' ctv ["_law_web"] vals) : FnOk P w K mg base CX0 9 t.f__law_word t.d__law_word ["_law_ask"] (spW "BadWeb" RdL vals lam) := by
  have Gd := bad_chains (P := P) (w := w) T Z KX G
  refine ok_wordB T Z KX G (lam_ok L (lamScope_of rfl rfl rfl rfl rfl) (fun _ _ _ _ h => h.1) fun A outer s H Q E hr h => ?_) L.obj rfl (fun us h => by cases us with | nil => rfl | cons _ _ => cases h)
  obtain ⟨_, ⟨a, rfl, hR⟩, k⟩ := h
  exact ⟨_, (pe_call (E := E) Gd (hr.mono (by omega)) (by rfl) T.m_chains T.F_chains.kp T.b_chains .nil (pass_lam fun _ _ _ h => h) (pa_cons (pv 0 (hv := Or.inr (Or.inr rfl))) (pa_cons (pe_lst pa_nil) pa_nil))), ⟨_, rfl, (by decide), fun l hl => ⟨a, _, rfl, rfl, hR.same (Same.new hl), fun H2 s2 => k H2 ((Same.new hl).trans s2)⟩⟩⟩
theorem wd_13 (T : Txt K mg t) (Z : ExW K cW) (B : Brd K mg C fI dI) (KX : K.In base) (G : base.Ns mainGlobals mg) {lam c' ca : Addr} {name qual : Str} {pm ctv : Value} {vals : List V}
    (L : Lam base lam name qual (doorB 13).params (doorB 13).body (doorB 13).scope [("_law_web", ca)] pm c' ctv ["_law_web"] vals) : FnOk P w K mg base CX0 9 t.f__law_word t.d__law_word ["_law_ask"] (spW "BadWeb" RdL vals lam) := by
  have Gd := bad_rows (P := P) (w := w) T Z KX G
  refine ok_wordB T Z KX G (lam_ok L (lamScope_of rfl rfl rfl rfl rfl) (fun _ _ _ _ h => h.1) fun A outer s H Q E hr h => ?_) L.obj rfl (fun us h => by cases us with | nil => rfl | cons _ _ => cases h)
  obtain ⟨_, ⟨a, rfl, hR⟩, k⟩ := h
  exact ⟨_, (pe_call (E := E) Gd (hr.mono (by omega)) (by rfl) T.m_rows T.F_rows.kp T.b_rows .nil (pass_lam fun _ _ _ h => h) (pa_cons (pv 0 (hv := Or.inr (Or.inr rfl))) (pa_cons (pe_lst pa_nil) pa_nil))), ⟨_, rfl, (by decide), fun l hl => ⟨a, _, rfl, rfl, hR.same (Same.new hl), fun H2 s2 => k H2 ((Same.new hl).trans s2)⟩⟩⟩
theorem wd_14 (T : Txt K mg t) (Z : ExW K cW) (B : Brd K mg C fI dI) (KX : K.In base) (G : base.Ns mainGlobals mg) {lam c' ca : Addr} {name qual : Str} {pm ctv : Value} {vals : List V}
    (L : Lam base lam name qual (doorB 14).params (doorB 14).body (doorB 14).scope [("_law_web", ca)] pm c' ctv ["_law_web"] vals) : FnOk P w K mg base CX0 9 t.f__law_word t.d__law_word ["_law_ask"] (spW "BadWeb" RdL vals lam) := by
  have Gd := bad_widths (P := P) (w := w) T Z KX G
  refine ok_wordB T Z KX G (lam_ok L (lamScope_of rfl rfl rfl rfl rfl) (fun _ _ _ _ h => h.1) fun A outer s H Q E hr h => ?_) L.obj rfl (fun us h => by cases us with | nil => rfl | cons _ _ => cases h)
  obtain ⟨_, ⟨a, rfl, hR⟩, k⟩ := h
  exact ⟨_, (pe_call (E := E) Gd (hr.mono (by omega)) (by rfl) T.m_widths T.F_widths.kp T.b_widths .nil (pass_lam fun _ _ _ h => h) (pa_cons (pv 0 (hv := Or.inr (Or.inr rfl))) (pa_cons (pe_lst pa_nil) pa_nil))), ⟨_, rfl, (by decide), fun l hl => ⟨a, _, rfl, rfl, hR.same (Same.new hl), fun H2 s2 => k H2 ((Same.new hl).trans s2)⟩⟩⟩
theorem wd_15 (T : Txt K mg t) (Z : ExW K cW) (B : Brd K mg C fI dI) (KX : K.In base) (G : base.Ns mainGlobals mg) {lam c' ca : Addr} {name qual : Str} {pm ctv : Value} {vals : List V}
    (L : Lam base lam name qual (doorB 15).params (doorB 15).body (doorB 15).scope [("_law_web", ca)] pm c' ctv ["_law_web"] vals) : FnOk P w K mg base CX0 9 t.f__law_word t.d__law_word ["_law_ask"] (spW "BadWeb" RdL vals lam) := by
  have Gd := bad_picture (P := P) (w := w) T Z KX G
  refine ok_wordB T Z KX G (lam_ok L (lamScope_of rfl rfl rfl rfl rfl) (fun _ _ _ _ h => h.1) fun A outer s H Q E hr h => ?_) L.obj rfl (fun us h => by cases us with | nil => rfl | cons _ _ => cases h)
  obtain ⟨_, ⟨a, rfl, hR⟩, k⟩ := h
  exact ⟨_, (pe_call (E := E) Gd (hr.mono (by omega)) (by rfl) T.m_picture T.F_picture.kp T.b_picture .nil (pass_lam fun _ _ _ h => h) (pa_cons (pv 0 (hv := Or.inr (Or.inr rfl))) (pa_cons (pe_lst pa_nil) (pa_cons (pe_lst pa_nil) pa_nil)))), ⟨_, rfl, (by decide), fun l hl => ⟨(by decide), fun l2 hl2 => ⟨a, _, rfl, rfl, hR.same ((Same.new hl).new2 hl2), fun H2 s2 => k H2 (((Same.new hl).new2 hl2).trans s2)⟩⟩⟩⟩
theorem wd_16 (T : Txt K mg t) (Z : ExW K cW) (B : Brd K mg C fI dI) (KX : K.In base) (G : base.Ns mainGlobals mg) {lam c' ca : Addr} {name qual : Str} {pm ctv : Value} {vals : List V}
    (L : Lam base lam name qual (doorB 16).params (doorB 16).body (doorB 16).scope [("_law_web", ca)] pm c' ctv ["_law_web"] vals) : FnOk P w K mg base CX0 9 t.f__law_word t.d__law_word ["_law_ask"] (spW "BadWeb" RdL vals lam) := by
  have Gd := bad_web_text (P := P) (w := w) T Z KX G
  refine ok_wordB T Z KX G (lam_ok L (lamScope_of rfl rfl rfl rfl rfl) (fun _ _ _ _ h => h.1) fun A outer s H Q E hr h => ?_) L.obj rfl (fun us h => by cases us with | nil => rfl | cons _ _ => cases h)
  obtain ⟨_, ⟨a, rfl, hR⟩, k⟩ := h
  exact ⟨_, (pe_call (E := E) Gd (hr.mono (by omega)) (by rfl) T.m_web_text T.F_web_text.kp T.b_web_text .nil (pass_lam fun _ _ _ h => h) (pa_cons (pv 0 (hv := Or.inr (Or.inr rfl))) pa_nil)), ⟨_, rfl, a, _, rfl, rfl, hR, k⟩⟩
theorem wd_17 (T : Txt K mg t) (Z : ExW K cW) (B : Brd K mg C fI dI) (KX : K.In base) (G : base.Ns mainGlobals mg) {lam c' ca : Addr} {name qual : Str} {pm ctv : Value} {vals : List V}
    (L : Lam base lam name qual (doorB 17).params (doorB 17).body (doorB 17).scope [("_law_web", ca)] pm c' ctv ["_law_web"] vals) : FnOk P w K mg base CX0 9 t.f__law_word t.d__law_word ["_law_ask"] (spW "BadWeb" RdL vals lam) := by
  have Gd := bad_board_of (P := P) (w := w) T Z B KX G
  refine ok_wordB T Z KX G (lam_ok L (lamScope_of rfl rfl rfl rfl rfl) (fun _ _ _ _ h => h.1) fun A outer s H Q E hr h => ?_) L.obj rfl (fun us h => by cases us with | nil => rfl | cons _ _ => cases h)
  obtain ⟨_, ⟨a, rfl, hR⟩, k⟩ := h
  exact ⟨_, (pe_call (E := E) Gd (hr.mono (by omega)) (by rfl) T.m_board_of T.F_board_of.kp T.b_board_of .nil (pass_lam fun _ _ _ h => h) (pa_cons (pv 0 (hv := Or.inr (Or.inr rfl))) pa_nil)), ⟨_, rfl, a, _, rfl, rfl, hR, k⟩⟩
end

end W1

set_option Elab.async false
set_option linter.all false
set_option maxRecDepth 100000
set_option maxHeartbeats 1000000
namespace W1
open PySem PySem.Spec PyProof.Rows L2
section
variable {P : Program} {w : World} {K : PySem.W.Frag} {mg : Str → Option Value} {base : Heap} {t : Ad}
theorem ok_pull (T : Txt K mg t) : FnOk P w K mg base CX0 1 t.f__law_pull t.d__law_pull ["_law_bag_here", "_law_many"] spPull := by
  refine T.F__law_pull.ok sc__law_pull (fun vs H Q E h => ?_) (fun cdv A outer s H vs Q E hr h => ?_)
  · obtain ⟨b, c, n, rfl, _⟩ := h
    rfl
  · obtain ⟨b, c, n, rfl, ⟨i, j, z, cells, hb, hc, hcb, hi⟩, hn0, hn1, k⟩ := h
    have nd := sc__law_pull.nd
    refine ⟨_, (pss_cons (ps_if (pt_cmpR op_lt (pe_ix ix_list (pv 0) pe_int (fun _ _ => rfl)) pe_int (nomark _)) (pss_cons (ps_augS (pv 0) pe_int get_list pe_int ip_add set_list)
      (pss_cons (ps_set (i := 2) nd rfl (Or.inl rfl) (pe_ix ix_list (pv 0) pe_int (fun _ _ => rfl)))
      (pss_cons (ps_if (pt_cmpR op_le (pe_ix ix_list (pv 0) pe_int (fun _ _ => rfl)) (pe_callB call_len_seq (by rfl) T.b_len (by decide +kernel) (pa_cons (pe_ix ix_list (pv 0) pe_int (fun _ _ => rfl)) pa_nil)) (nomark _)) (pss_cons (ps_set (i := 2) nd rfl (Or.inl rfl) (pe_ix ix_list (pe_ix ix_list (pv 0) pe_int (fun _ _ => rfl)) (pe_op op_sub (pe_ix ix_list (pv 0) pe_int (fun _ _ => rfl)) pe_int) (fun _ _ => rfl)))
      (pss_one (ps_if (pt_cmpR op_ge (pv 2) (pe_op op_pow pe_int pe_int) (nomark _)) (pss_cons (ps_asg (pe_op op_fdiv (pv 2) (pv 1)) (pg_sub (pv 0) pe_int set_list))
      (pss_one (ps_ret (pe_op op_mod (pv 2) (pv 1))))) pss_nil))) pss_nil)
      (pss_cons (ps_set (i := 3) nd rfl (Or.inl rfl) (pe_op op_mod (pe_op op_add (pe_op op_add (pv 2) (pe_op op_mul (pe_ix ix_list (pv 0) pe_int (fun _ _ => rfl)) pe_int)) (pe_op op_mul (pe_ix ix_list (pv 0) pe_int (fun _ _ => rfl)) pe_int)) pe_int))
      (pss_cons (ps_set (i := 3) nd rfl (Or.inl rfl) (pe_op op_mod (pe_op op_add (pe_op op_mul (pv 3) (pv 3)) pe_int) pe_int))
      (pss_one (ps_ret (pe_op op_mod (pe_op op_fdiv (pe_op op_mod (pe_op op_add (pe_op op_mul (pv 3) (pv 3)) (pe_ix ix_list (pv 0) pe_int (fun _ _ => rfl))) pe_int) pe_int) (pv 1))))))))) pss_nil)
      (pss_cons (ps_set (i := 4) nd rfl (Or.inl rfl) (pe_op op_mod (pe_ix ix_list (pv 0) pe_int (fun _ _ => rfl)) (pv 1)))
      (pss_cons (ps_asg (pe_op op_fdiv (pe_ix ix_list (pv 0) pe_int (fun _ _ => rfl)) (pv 1)) (pg_sub (pv 0) pe_int set_list))
      (pss_one (ps_ret (pv 4)))))), ?_⟩
    refine ⟨_, rfl, b, _, _, _, rfl, rfl, SqL.of hb, rfl, _, _, rfl, rfl, _, rfl, ?_⟩
    refine ite2 (fun c0 => ?_) (fun c0 => ?_)
    · -- bag[1] += 1; seed = bag[1]
      refine ⟨_, rfl, b, _, _, _, rfl, rfl, SqL.of hb, rfl, _, _, rfl, rfl, b, _, _, _, rfl, rfl, hb, rfl, ?_⟩
      have hb1 : (upd H b (.lst [.ref c, .int (i + 1), .int j, .int z])) b = some (.lst [.ref c, .int (i + 1), .int j, .int z]) := upd_same
      have hc1 : (upd H b (.lst [.ref c, .int (i + 1), .int j, .int z])) c = some (.lst (cells.map V.int)) := by rw [upd_ne hcb]; exact hc
      have s1 : SameB b H (upd H b (.lst [.ref c, .int (i + 1), .int j, .int z])) := (SameB.refl b H).upd
      have B1 : Bag (upd H b (.lst [.ref c, .int (i + 1), .int j, .int z])) b c := ⟨i + 1, j, z, cells, hb1, hc1, hcb, by omega⟩
      refine ⟨_, rfl, b, _, _, _, rfl, rfl, SqL.of hb1, rfl, ?_⟩
      refine ⟨_, rfl, b, _, _, _, rfl, rfl, SqL.of hb1, rfl, _, rfl, b, _, _, _, rfl, rfl, SqL.of hb1, rfl, c, _, rfl, .inl (SqL.of hc1), _, _, rfl, rfl, _, rfl, ?_⟩
      refine ite2 (fun c1 => ?_) (fun c1 => ?_)
      · have c1' : i + 1 ≤ ((cells.map V.int).length : Int) := of_decide_eq_true c1
        rw [List.length_map] at c1'
        have hlt : i.toNat < cells.length := by omega
        refine ⟨_, rfl, b, _, _, _, rfl, rfl, SqL.of hb1, rfl, _, rfl, b, _, _, _, rfl, rfl, SqL.of hb1, rfl, _, _, rfl, rfl, c, _, _, _, rfl, rfl, SqL.of hc1, at_of (j := i.toNat) (v := V.int cells[i.toNat]) (by omega) (by simp [hlt]), ?_⟩
        refine ⟨_, rfl, _, _, rfl, rfl, ⟨by decide, by decide, by decide⟩, _, _, rfl, rfl, _, rfl, ?_⟩
        refine ite2 (fun c2 => ?_) (fun c2 => ?_)
        · refine ⟨_, rfl, _, rfl, _, _, rfl, rfl, ⟨hn0, hn1⟩, _, rfl, b, _, _, _, rfl, rfl, hb1, rfl, ?_⟩
          refine ⟨_, rfl, _, rfl, _, _, rfl, rfl, hn0, ?_⟩
          refine k _ _ (mod_lo hn0) (mod_hi hn0) ⟨i + 1, _, z, cells, upd_same, by rw [upd_ne hcb]; exact hc1, hcb, by omega⟩ s1.upd
        · refine ⟨_, rfl, _, rfl, b, _, _, _, rfl, rfl, SqL.of hb1, rfl, _, _, rfl, rfl, .inr ⟨by decide, by decide⟩, _, _, rfl, rfl, _, rfl, b, _, _, _, rfl, rfl, SqL.of hb1, rfl, _, _, rfl, rfl, .inr ⟨by decide, by decide⟩, _, _, rfl, rfl, _, _, rfl, rfl, (by show (0 : Int) < 2147483629; decide), ?_⟩
          refine ⟨_, rfl, _, rfl, _, _, rfl, rfl, cmul_mod (by decide) (by decide), _, _, rfl, rfl, _, _, rfl, rfl, (by show (0 : Int) < 2147483587; decide), ?_⟩
          refine ⟨_, rfl, _, rfl, _, _, rfl, rfl, cmul_mod (by decide) (by decide), _, rfl, b, _, _, _, rfl, rfl, SqL.of hb1, rfl, _, _, rfl, rfl, _, _, rfl, rfl, (by show (0 : Int) < 1073741789; decide), _, _, rfl, rfl, ⟨by decide, by decide⟩, _, rfl, _, _, rfl, rfl, hn0, ?_⟩
          exact k _ _ (mod_lo hn0) (mod_hi hn0) B1 s1
      · refine ⟨_, rfl, _, rfl, b, _, _, _, rfl, rfl, SqL.of hb1, rfl, _, _, rfl, rfl, .inr ⟨by decide, by decide⟩, _, _, rfl, rfl, _, rfl, b, _, _, _, rfl, rfl, SqL.of hb1, rfl, _, _, rfl, rfl, .inr ⟨by decide, by decide⟩, _, _, rfl, rfl, _, _, rfl, rfl, (by show (0 : Int) < 2147483629; decide), ?_⟩
        refine ⟨_, rfl, _, rfl, _, _, rfl, rfl, cmul_mod (by decide) (by decide), _, _, rfl, rfl, _, _, rfl, rfl, (by show (0 : Int) < 2147483587; decide), ?_⟩
        refine ⟨_, rfl, _, rfl, _, _, rfl, rfl, cmul_mod (by decide) (by decide), _, rfl, b, _, _, _, rfl, rfl, SqL.of hb1, rfl, _, _, rfl, rfl, _, _, rfl, rfl, (by show (0 : Int) < 1073741789; decide), _, _, rfl, rfl, ⟨by decide, by decide⟩, _, rfl, _, _, rfl, rfl, hn0, ?_⟩
        exact k _ _ (mod_lo hn0) (mod_hi hn0) B1 s1
    · -- drawn = bag[2] % many; bag[2] = bag[2] // many; return drawn
      refine ⟨_, rfl, b, _, _, _, rfl, rfl, SqL.of hb, rfl, _, rfl, _, _, rfl, rfl, hn0, ?_⟩
      refine ⟨_, rfl, b, _, _, _, rfl, rfl, SqL.of hb, rfl, _, rfl, _, _, rfl, rfl, ⟨hn0, hn1⟩, _, rfl, b, _, _, _, rfl, rfl, hb, rfl, ?_⟩
      refine ⟨_, rfl, ?_⟩
      exact k _ _ (mod_lo hn0) (mod_hi hn0) ⟨i, _, z, cells, upd_same, by rw [upd_ne hcb]; exact hc, hcb, hi⟩ (SameB.refl b H).upd
end

end W1

set_option Elab.async false
set_option linter.all false
set_option maxRecDepth 100000
set_option maxHeartbeats 1000000
namespace W1
open PySem PySem.Spec PyProof.Rows L2
section
variable {P : Program} {w : World} {K : PySem.W.Frag} {mg : Str → Option Value} {base : Heap} {t : Ad}
theorem az_at {k : Nat} : atI az.cps.toList ((0 + (k : Int)) % 26) = some (az.cps.toList.getD (k % 26) 0) := by
  have h : k % 26 < 26 := Nat.mod_lt _ (by decide)
  have e : (0 + (k : Int)) % 26 = ((k % 26 : Nat) : Int) := by omega
  rw [e]
  have : ∀ j, j < 26 → atI az.cps.toList ((j : Nat) : Int) = some (az.cps.toList.getD j 0) := by decide +kernel
  exact this _ h
theorem ok_lnames (T : Txt K mg t) : FnOk P w K mg base CX0 2 t.f__law_names t.d__law_names ["_law_bag_here", "_law_many"] spLNames := by
  have G__law_pull : FnOk P w K mg base CX0 1 t.f__law_pull t.d__law_pull ["_law_bag_here", "_law_many"] spPull := ok_pull T
  refine T.F__law_names.ok sc__law_names (fun vs H Q E h => ?_) (fun cdv A outer s H vs Q E hr h => ?_)
  · obtain ⟨b, c, m, rfl, _⟩ := h
    rfl
  · obtain ⟨b, c, m, rfl, B, hm, k⟩ := h
    have nd := sc__law_names.nd
    refine ⟨_, (pss_cons (ps_set (i := 2) nd rfl (Or.inl rfl) (pe_lst pa_nil))
      (pss_cons (ps_set (i := 3) nd rfl (Or.inl rfl) (pe_lst (pa_cons pe_str (pa_cons pe_str (pa_cons pe_str (pa_cons pe_str (pa_cons pe_str (pa_cons pe_str pa_nil))))))))
      (pss_cons (ps_for PassesOwn.never rfl (pi_range1 (by rfl) T.range (pa_cons (pv 1) pa_nil)) (pg_name (i := 4) nd rfl (Or.inl rfl))
      (pss_cons (ps_set (i := 5) nd rfl (Or.inl rfl) (pe_op op_add_str (pe_ix ix_str pe_str (pe_op op_mod (pv 4) pe_int) (fun _ _ => rfl)) (pe_op op_repS pe_str (pe_op op_fdiv (pv 4) pe_int))))
      (pss_one (ps_expr (pe_bm PySem.F.plainAttrs_list PySem.F.slot_list_append PySem.F.type_list_append mt_append (pv 2) (pa_cons (pe_slice sl_str (pe_op op_add_str (pv 5) (pe_ix ix_list (pv 3) (pe_call G__law_pull (hr.mono (by omega)) (by rfl) T.m__law_pull T.F__law_pull.kp T.b__law_pull .nil pass0 (pa_cons (pv 0) (pa_cons pe_int pa_nil))) (fun _ _ => rfl))) po_none (po_some pe_int)) pa_nil))))))
      (pss_cons (ps_set (i := 6) nd rfl (Or.inl rfl) (pe_call G__law_pull (hr.mono (by omega)) (by rfl) T.m__law_pull T.F__law_pull.kp T.b__law_pull .nil pass0 (pa_cons (pv 0) (pa_cons (pe_callB (call_max2 rfl) (by rfl) T.b_max (by decide +kernel) (pa_cons pe_int (pa_cons (pv 1) pa_nil))) pa_nil))))
      (pss_one (ps_ret (pe_callTy call_tuple_of (by rfl) T.b_tuple (by decide +kernel) (pa_cons (pe_op op_cat (pe_slice sl_list (pv 2) (po_some (pv 6)) po_none) (pe_slice sl_list (pv 2) po_none (po_some (pv 6)))) pa_nil)))))))), ?_⟩
    refine ⟨by decide, fun F hF => ⟨by decide, fun TL hTL => ?_⟩⟩
    have nFb : F ≠ b := B.ne hF
    have nFc : F ≠ c := B.neC hF
    have nTF : TL ≠ F := (ne_of_none (H := upd H F (.lst [])) upd_same hTL).symm
    have hTL0 : H TL = none := (Same.new hF).free hTL
    have nTb : TL ≠ b := B.ne hTL0
    refine ⟨_, rfl, m, rfl, by omega, by omega, for_range (lo := 0) (n := (m : Int).toNat) (fun i σ H' => ∃ (l : List Str) (o4 o5 : Option V), σ = [some (.ref b), some (.int m), some (.ref F), some (.ref TL), o4, o5, none] ∧ l.length = i ∧ (∀ j s, l[j]? = some s → ∃ r, r < 6 ∧ s = nm j r) ∧ H' F = some (.lst (l.map V.str)) ∧ H' TL = some (.lst (tails.map V.str)) ∧ Bag H' b c ∧ SameB b H H') ?_ ?_ ?_⟩
    · refine ⟨[], none, none, rfl, rfl, fun j s e => by simp at e, by rw [upd_ne nTF.symm]; exact upd_same, upd_same, (B.new hF).new hTL, ((Same.new hF).new2 hTL).but⟩
    · rintro i σ H' hi ⟨l, o4, o5, rfl, hl, hk, h1, h2, B1, s1⟩
      have hi40 : i < 40 := by omega
      refine ⟨_, rfl, _, _, rfl, rfl, (by show (0 : Int) < 26; decide), _, _, _, rfl, rfl, by decide, az_at (k := i), _, rfl, _, _, rfl, rfl, ⟨by decide, by decide⟩, _, _, rfl, rfl, by omega, by omega, by decide, ?_, _, _, rfl, rfl, ?_, ?_⟩
      · have : (Str.ofString "q").length = 1 := by decide
        rw [this]; have := sl_big; omega
      · have := fst_facts i hi40
        have h3 : (⟨#[az.cps.toList.getD (i % 26) 0]⟩ : Str).length = 1 := rfl
        have := sl_big; omega
      · refine ⟨_, rfl, .inl ⟨rfl, _, SqL.of h1⟩, _, rfl, _, rfl, _, rfl, b, c, 6, rfl, B1, by decide, by decide, fun r H2 r0 r1 B2 s2 => ?_⟩
        have g1 : H2 F = some (.lst (l.map V.str)) := s2 _ _ h1 nFb
        have g2 : H2 TL = some (.lst (tails.map V.str)) := s2 _ _ h2 nTb
        obtain ⟨⟨f1, f2⟩, f3, f4, f5⟩ := nm_facts i hi40 r.toNat (by omega)
        have sb := sl_big
        refine ⟨TL, _, _, _, rfl, rfl, SqL.of g2, tails_at r0 r1, _, _, rfl, rfl, Nat.le_trans f1 (by omega), 6, rfl, _, rfl, Nat.le_trans f2 (by omega), F, _, _, rfl, rfl, g1, by rw [List.length_map]; omega, ?_⟩
        refine ⟨l ++ [nm i r.toNat], _, _, rfl, by rw [List.length_append]; simp [hl], ?_, ?_, by rw [upd_ne nTF]; exact g2, B2.put nFb nFc, (s1.trans s2).updNew hF⟩
        · intro j s e
          by_cases hj : j < l.length
          · rw [List.getElem?_append_left hj] at e
            exact hk j s e
          · rw [List.getElem?_append_right (by omega)] at e
            have hj0 : j - l.length = 0 := by
              cases q : j - l.length with
              | zero => rfl
              | succ n => rw [q] at e; simp at e
            rw [hj0] at e
            simp at e
            exact ⟨r.toNat, by omega, by rw [← e]; congr 1; omega⟩
        · rw [upd_same, List.map_append]
          rfl
    · rintro σ H' ⟨l, o4, o5, rfl, hl, hk, h1, h2, B1, s1⟩
      have hlm : l.length = m := by omega
      refine ⟨_, rfl, _, rfl, _, _, rfl, b, c, _, rfl, B1, ?_, ?_, fun r H2 r0 r1 B2 s2 => ?_⟩
      · split <;> omega
      · split <;> omega
      have g1 : H2 F = some (.lst (l.map V.str)) := s2 _ _ h1 nFb
      have sb := sl_big
      refine ⟨_, rfl, _, rfl, r, rfl, F, _, rfl, SqL.of g1, fun p1 n1 => ⟨_, rfl, _, rfl, r, rfl, F, _, rfl, SqL.of ((Same.new n1) _ _ g1), fun p2 n2 => ⟨p1, p2, _, _, rfl, rfl, (Same.new n2) _ _ upd_same, upd_same, ?_, fun p3 n3 => ⟨p3, _, rfl, .inl ⟨SqL.of upd_same, fun p4 n4 => ?_⟩⟩⟩⟩⟩
      · have a1 := cutV_length (l.map V.str) (some r) none
        have a2 := cutV_length (l.map V.str) none (some r)
        rw [List.length_map] at a1 a2
        omega
      · have sA : Same H2 (upd (upd (upd H2 p1 (.lst (cutV (l.map V.str) (some r) none))) p2 (.lst (cutV (l.map V.str) none (some r)))) p3 (.lst (cutV (l.map V.str) (some r) none ++ cutV (l.map V.str) none (some r)))) := ((Same.new n1).new2 n2).new2 n3
        have fr : ∀ j s, l[j]? = some s → keyOf s = j ∧ nameB s = true ∧ s.length ≤ 6 := fun j s e => by
          obtain ⟨q, q6, rfl⟩ := hk j s e
          have hj : j < 40 := by have := (List.getElem?_eq_some_iff.mp e).1; omega
          obtain ⟨_, f3, f4, f5⟩ := nm_facts j hj q q6
          exact ⟨f3, f4, f5⟩
        have hnd : l.Nodup := nodup_by_key fun j s e => (fr j s e).1
        have hall : ∀ z ∈ l, nameB z = true ∧ z.length ≤ 6 := fun z hz => by
          obtain ⟨j, e⟩ := List.getElem?_of_mem hz
          exact (fr j z e).2
        have ecut : cutV (l.map V.str) (some r) none ++ cutV (l.map V.str) none (some r) = (l.drop r.toNat ++ l.take r.toNat).map V.str := by
          rw [cutV_from r0, cutV_to r0, drop_min, take_min, List.map_append, List.map_drop, List.map_take]
        have hperm : (l.drop r.toNat ++ l.take r.toNat).Perm l := by
          have := List.perm_append_comm (l₁ := l.drop r.toNat) (l₂ := l.take r.toNat)
          rw [List.take_append_drop] at this
          exact this
        have hp4 : H p4 = none := (s1.trans s2).free (fun e => by
          have := (B2.same sA).ne n4
          exact this e) (sA.free n4)
        refine k p4 _ (l.drop r.toNat ++ l.take r.toNat) (by rw [upd_same, ecut]) hp4 ?_ ?_ (fun z hz => (hall z (hperm.mem_iff.mp hz)).2) ((B2.same sA).new n4) (((s1.trans s2).same sA).new n4)
        · unfold namesB
          rw [decide_eq_true (by rw [hperm.length_eq]; omega), decide_eq_true (hperm.nodup_iff.mpr hnd), Bool.true_and, Bool.true_and]
          exact List.all_eq_true.mpr fun z hz => (hall z (hperm.mem_iff.mp hz)).1
        · rw [hperm.length_eq]; exact hlm
end

end W1

set_option Elab.async false
set_option linter.all false
set_option maxRecDepth 100000
set_option maxHeartbeats 1000000
namespace W1
open PySem PySem.Spec PyProof.Rows L2
section
variable {P : Program} {w : World} {K : PySem.W.Frag} {mg : Str → Option Value} {base : Heap} {t : Ad}
theorem arr_ok {m : Nat} {x y l v : Int} (x0 : 0 ≤ x) (x1 : x < m) (y0 : 0 ≤ y) (y1 : y < m) (l0 : 0 ≤ l) (l1 : l < 3) (v0 : 0 ≤ v) (v1 : v < 9) : arrowB m [x, y, 1 + l, 1 + v] = true := by
  rw [arrowB_mk, decide_eq_true x0, decide_eq_true x1, decide_eq_true y0, decide_eq_true y1, decide_eq_true (by omega : 1 ≤ 1 + l), decide_eq_true (by omega : 1 + l ≤ 3), decide_eq_true (by omega : 1 ≤ 1 + v), decide_eq_true (by omega : 1 + v ≤ 9)]
  rfl
theorem other_ne {m : Nat} {x r : Int} (x0 : 0 ≤ x) (x1 : x < m) (r0 : 0 ≤ r) (r1 : r < m - 1) : ¬ x = (x + 1 + r) % m := by
  intro e
  by_cases h : x + 1 + r < m
  · rw [Int.emod_eq_of_lt (by omega) h] at e
    omega
  · have e2 : (x + 1 + r) % (m : Int) = x + 1 + r - m := by
      have : (x + 1 + r) % (m : Int) = (x + 1 + r - m) % m := by rw [Int.sub_emod_right]
      rw [this, Int.emod_eq_of_lt (by omega) (by omega)]
    omega
theorem say_ok {m : Nat} {x y l : Int} (x0 : 0 ≤ x) (x1 : x < m) (y0 : 0 ≤ y) (y1 : y < m) (ne : ¬ x = y) (l0 : -9 ≤ l) (l1 : l ≤ 9) : sayingB m [x, y, l] = true := by
  rw [sayingB_mk, decide_eq_true x0, decide_eq_true x1, decide_eq_true y0, decide_eq_true y1, decide_eq_false ne, decide_eq_true l0, decide_eq_true l1]
  rfl
theorem say_at {z u : Int} (z0 : 0 ≤ z) (z1 : z < 19) (u0 : 0 ≤ u) (u1 : u < 8) : ∃ v : Int, (-9 ≤ v ∧ v ≤ 9) ∧ atI [V.int (0 - 9), V.int (0 - 2), V.int (0 - 1), V.int 0, V.int 0, V.int 1, V.int 2, V.int (z - 9)] u = some (.int v) := by
  have : u = 0 ∨ u = 1 ∨ u = 2 ∨ u = 3 ∨ u = 4 ∨ u = 5 ∨ u = 6 ∨ u = 7 := by omega
  rcases this with e | e | e | e | e | e | e | e <;> subst e <;> first | exact ⟨_, ⟨by decide, by decide⟩, rfl⟩ | exact ⟨z - 9, ⟨by omega, by omega⟩, rfl⟩
theorem ok_drawn (T : Txt K mg t) : FnOk P w K mg base CX0 3 t.f__law_drawn_web t.d__law_drawn_web ["_law_bag_here", "_law_most", "_law_most_arrows", "_law_most_told"] spDrawn := by
  have G__law_pull : FnOk P w K mg base CX0 1 t.f__law_pull t.d__law_pull ["_law_bag_here", "_law_many"] spPull := ok_pull T
  have G__law_names : FnOk P w K mg base CX0 2 t.f__law_names t.d__law_names ["_law_bag_here", "_law_many"] spLNames := ok_lnames T
  refine T.F__law_drawn_web.ok sc__law_drawn_web (fun vs H Q E h => ?_) (fun cdv A outer s H vs Q E hr h => ?_)
  · obtain ⟨b, c, mo, ma, mt, rfl, _⟩ := h
    rfl
  · obtain ⟨b, c, mo, ma, mt, rfl, B, mo1, mo2, ma1, ma2, mt1, mt2, k⟩ := h
    have nd := sc__law_drawn_web.nd
    have sb := sl_big
    refine ⟨_, (pss_cons (ps_set (i := 4) nd rfl (Or.inl rfl) (pe_ix ix_list (pe_lst (pa_cons (pe_op op_add pe_int (pe_call G__law_pull (hr.mono (by omega)) (by rfl) T.m__law_pull T.F__law_pull.kp T.b__law_pull .nil pass0 (pa_cons (pv 0) (pa_cons (pv 1) pa_nil)))) (pa_cons pe_int pa_nil))) (pe_callTy call_int1 (by rfl) T.b_int (by decide +kernel) (pa_cons (pe_cmpR op_eq (pe_call G__law_pull (hr.mono (by omega)) (by rfl) T.m__law_pull T.F__law_pull.kp T.b__law_pull .nil pass0 (pa_cons (pv 0) (pa_cons pe_int pa_nil))) pe_int (nomark _)) pa_nil)) (fun _ _ => rfl)))
      (pss_cons (ps_set (i := 5) nd rfl (Or.inl rfl) (pe_lst pa_nil))
      (pss_cons (ps_for PassesOwn.never rfl (pi_range1 (by rfl) T.range (pa_cons (pe_op op_mul (pe_call G__law_pull (hr.mono (by omega)) (by rfl) T.m__law_pull T.F__law_pull.kp T.b__law_pull .nil pass0 (pa_cons (pv 0) (pa_cons (pe_op op_add (pv 2) pe_int) pa_nil))) (pe_callTy call_int1 (by rfl) T.b_int (by decide +kernel) (pa_cons (pe_cmpR op_gt (pv 4) pe_int (nomark _)) pa_nil))) pa_nil)) (pg_name (i := 6) nd rfl (Or.inl rfl))
      (pss_cons (ps_set (i := 7) nd rfl (Or.inl rfl) (pe_call G__law_pull (hr.mono (by omega)) (by rfl) T.m__law_pull T.F__law_pull.kp T.b__law_pull .nil pass0 (pa_cons (pv 0) (pa_cons (pv 4) pa_nil))))
      (pss_cons (ps_set (i := 8) nd rfl (Or.inl rfl) (pe_call G__law_pull (hr.mono (by omega)) (by rfl) T.m__law_pull T.F__law_pull.kp T.b__law_pull .nil pass0 (pa_cons (pv 0) (pa_cons (pv 4) pa_nil))))
      (pss_cons (ps_if (pt_cmpR op_gt (pe_call G__law_pull (hr.mono (by omega)) (by rfl) T.m__law_pull T.F__law_pull.kp T.b__law_pull .nil pass0 (pa_cons (pv 0) (pa_cons pe_int pa_nil))) pe_int (nomark _)) (pss_one (ps_par (i := 7) (j := 8) (by rfl) nd rfl rfl (by decide) rfl rfl (pa_cons (pe_callB (call_min2 rfl) (by rfl) T.b_min (by decide +kernel) (pa_cons (pv 7) (pa_cons (pv 8) pa_nil))) (pa_cons (pe_callB (call_max2 rfl) (by rfl) T.b_max (by decide +kernel) (pa_cons (pv 7) (pa_cons (pv 8) pa_nil))) pa_nil)) (by rfl))) pss_nil)
      (pss_one (ps_expr (pe_bm PySem.F.plainAttrs_list PySem.F.slot_list_append PySem.F.type_list_append mt_append (pv 5) (pa_cons (pe_tup (pa_cons (pv 7) (pa_cons (pv 8) (pa_cons (pe_op op_add pe_int (pe_call G__law_pull (hr.mono (by omega)) (by rfl) T.m__law_pull T.F__law_pull.kp T.b__law_pull .nil pass0 (pa_cons (pv 0) (pa_cons (pe_ix ix_list (pe_lst (pa_cons pe_int (pa_cons pe_int pa_nil))) (pe_call G__law_pull (hr.mono (by omega)) (by rfl) T.m__law_pull T.F__law_pull.kp T.b__law_pull .nil pass0 (pa_cons (pv 0) (pa_cons pe_int pa_nil))) (fun _ _ => rfl)) pa_nil)))) (pa_cons (pe_op op_add pe_int (pe_call G__law_pull (hr.mono (by omega)) (by rfl) T.m__law_pull T.F__law_pull.kp T.b__law_pull .nil pass0 (pa_cons (pv 0) (pa_cons pe_int pa_nil)))) pa_nil))))) pa_nil))))))))
      (pss_cons (ps_set (i := 9) nd rfl (Or.inl rfl) (pe_lst pa_nil))
      (pss_cons (ps_for PassesOwn.never rfl (pi_range1 (by rfl) T.range (pa_cons (pe_op op_mul (pe_call G__law_pull (hr.mono (by omega)) (by rfl) T.m__law_pull T.F__law_pull.kp T.b__law_pull .nil pass0 (pa_cons (pv 0) (pa_cons (pe_op op_add (pv 3) pe_int) pa_nil))) (pe_callTy call_int1 (by rfl) T.b_int (by decide +kernel) (pa_cons (pe_cmpR op_gt (pv 4) pe_int (nomark _)) pa_nil))) pa_nil)) (pg_name (i := 6) nd rfl (Or.inl rfl))
      (pss_cons (ps_set (i := 7) nd rfl (Or.inl rfl) (pe_call G__law_pull (hr.mono (by omega)) (by rfl) T.m__law_pull T.F__law_pull.kp T.b__law_pull .nil pass0 (pa_cons (pv 0) (pa_cons (pv 4) pa_nil))))
      (pss_cons (ps_set (i := 8) nd rfl (Or.inl rfl) (pe_op op_mod (pe_op op_add (pe_op op_add (pv 7) pe_int) (pe_call G__law_pull (hr.mono (by omega)) (by rfl) T.m__law_pull T.F__law_pull.kp T.b__law_pull .nil pass0 (pa_cons (pv 0) (pa_cons (pe_op op_sub (pv 4) pe_int) pa_nil)))) (pv 4)))
      (pss_one (ps_expr (pe_bm PySem.F.plainAttrs_list PySem.F.slot_list_append PySem.F.type_list_append mt_append (pv 9) (pa_cons (pe_tup (pa_cons (pv 7) (pa_cons (pv 8) (pa_cons (pe_ix ix_list (pe_lst (pa_cons (pe_op op_sub pe_int pe_int) (pa_cons (pe_op op_sub pe_int pe_int) (pa_cons (pe_op op_sub pe_int pe_int) (pa_cons pe_int (pa_cons pe_int (pa_cons pe_int (pa_cons pe_int (pa_cons (pe_op op_sub (pe_call G__law_pull (hr.mono (by omega)) (by rfl) T.m__law_pull T.F__law_pull.kp T.b__law_pull .nil pass0 (pa_cons (pv 0) (pa_cons pe_int pa_nil))) pe_int) pa_nil))))))))) (pe_call G__law_pull (hr.mono (by omega)) (by rfl) T.m__law_pull T.F__law_pull.kp T.b__law_pull .nil pass0 (pa_cons (pv 0) (pa_cons pe_int pa_nil))) (fun _ _ => rfl)) pa_nil)))) pa_nil)))))))
      (pss_one (ps_ret (pe_tup (pa_cons (pe_call G__law_names (hr.mono (by omega)) (by rfl) T.m__law_names T.F__law_names.kp T.b__law_names .nil pass0 (pa_cons (pv 0) (pa_cons (pv 4) pa_nil))) (pa_cons (pe_callTy call_tuple_of (by rfl) T.b_tuple (by decide +kernel) (pa_cons (pv 5) pa_nil)) (pa_cons (pe_callTy call_tuple_of (by rfl) T.b_tuple (by decide +kernel) (pa_cons (pv 9) pa_nil)) pa_nil))))))))))), ?_⟩
    refine ⟨_, rfl, _, rfl, b, c, mo, rfl, B, by omega, by omega, fun r1 H1 r10 r11 B1 s1 => ?_⟩
    refine ⟨_, _, rfl, rfl, (by show 2 ≤ sizeLine; decide), fun L hL => ?_⟩
    refine ⟨_, rfl, b, c, 20, rfl, B1.new hL, by decide, by decide, fun r2 H2 r20 r21 B2 s2 => ?_⟩
    obtain ⟨m, hm40, hat⟩ : ∃ m : Nat, m ≤ 40 ∧ atI [V.int (1 + r1), V.int 0] (if decide (V.int r2 = V.int 0) = true then 1 else 0) = some (.int m) := by
      cases decide (V.int r2 = V.int 0)
      · refine ⟨(1 + r1).toNat, by omega, ?_⟩
        show some (V.int (1 + r1)) = some (V.int ((1 + r1).toNat : Int))
        have : ((1 + r1).toNat : Int) = 1 + r1 := by omega
        rw [this]
      · exact ⟨0, by omega, rfl⟩
    refine ⟨rfl, .inr ⟨_, rfl, L, _, _, _, rfl, rfl, SqL.of (s2 _ _ upd_same (B1.ne hL)), hat, ?_⟩⟩
    have sA : SameB b H H2 := (s1.new hL).trans s2
    refine ⟨by decide, fun RN hRN => ?_⟩
    have nRb : RN ≠ b := B2.ne hRN
    have nRc : RN ≠ c := B2.neC hRN
    have hRN0 : H RN = none := sA.free nRb hRN
    refine ⟨_, rfl, _, rfl, _, _, rfl, rfl, b, c, ma + 1, rfl, B2.new hRN, by omega, by omega, fun r3 H3 r30 r31 B3 s3 => ?_⟩
    have hj : ∃ j : Int, r3 * (if decide ((0 : Int) < (m : Int)) = true then 1 else 0) = j ∧ 0 ≤ j ∧ j ≤ 80 ∧ (0 < j → 0 < m) := by
      cases e : decide ((0 : Int) < (m : Int))
      · exact ⟨0, by simp, by omega, by omega, by omega⟩
      · have := of_decide_eq_true e
        exact ⟨r3, by simp, by omega, by omega, by omega⟩
    obtain ⟨j, ej, j0, j80, jm⟩ := hj
    refine ⟨_, rfl, _, _, rfl, rfl, .inr ⟨_, rfl, _, _, rfl, rfl, .inl ⟨by omega, by omega⟩, j, congrArg (fun z => [V.int z]) ej, by omega, by omega, ?_⟩⟩
    refine for_range (lo := 0) (n := j.toNat) (fun i σ H' => ∃ (rows : List (List Int)) (ra : List Addr) (o6 o7 o8 : Option V), σ = [some (.ref b), some (.int mo), some (.int ma), some (.int mt), some (.int m), some (.ref RN), o6, o7, o8, none] ∧ rows.length = i ∧ H' RN = some (.lst (ra.map V.ref)) ∧ RowsH H' ra rows ∧ (∀ row ∈ rows, arrowB m row = true) ∧ Bag H' b c ∧ SameB b H H') ?_ ?_ ?_
    · exact ⟨[], [], none, none, none, rfl, rfl, s3 _ _ upd_same nRb, .nil, fun row h => by simp at h, B3, (sA.new hRN).trans s3⟩
    · rintro i σ H' hi ⟨rows, ra, o6, o7, o8, rfl, hl, h1, hR, hA, B', s'⟩
      have hm0 : 0 < m := jm (by omega)
      refine ⟨_, rfl, _, rfl, b, c, m, rfl, B', by omega, by omega, fun x K1 x0 x1 C1 t1 => ?_⟩
      refine ⟨_, rfl, _, rfl, b, c, m, rfl, C1, by omega, by omega, fun y K2 y0 y1 C2 t2 => ?_⟩
      refine ⟨_, rfl, b, c, 3, rfl, C2, by decide, by decide, fun u K3 u0 u1 C3 t3 => ⟨_, _, rfl, rfl, _, rfl, ?_⟩⟩
      refine ite2 (fun _ => ?_) (fun _ => ?_)
      · refine ⟨_, rfl, _, rfl, _, _, rfl, _, rfl, _, rfl, _, _, rfl, _, _, rfl, ?_⟩
        have hx0 : (0 : Int) ≤ (if y < x then y else x) := by split <;> omega
        have hx1 : (if y < x then y else x) < (m : Int) := by split <;> omega
        have hy0 : (0 : Int) ≤ (if y > x then y else x) := by split <;> omega
        have hy1 : (if y > x then y else x) < (m : Int) := by split <;> omega
        have gRN : K3 RN = some (.lst (ra.map V.ref)) := t3 _ _ (t2 _ _ (t1 _ _ h1 nRb) nRb) nRb
        refine ⟨_, rfl, .inl ⟨rfl, _, SqL.of gRN⟩, _, rfl, _, rfl, _, rfl, by decide, fun L1 hL1 => ?_⟩
        refine ⟨_, rfl, b, c, 2, rfl, C3.new hL1, by decide, by decide, fun u4 K4 u40 u41 C4 t4 => ?_⟩
        obtain ⟨v, hv, hat4⟩ : ∃ v : Int, (v = 1 ∨ v = 3) ∧ atI [V.int 1, V.int 3] u4 = some (.int v) := by
          have : u4 = 0 ∨ u4 = 1 := by omega
          rcases this with e | e <;> subst e
          · exact ⟨1, .inl rfl, rfl⟩
          · exact ⟨3, .inr rfl, rfl⟩
        refine ⟨L1, _, _, _, rfl, rfl, SqL.of (t4 _ _ upd_same (C3.ne hL1)), hat4, ?_⟩
        refine ⟨b, c, v, rfl, C4, by omega, by omega, fun l K5 l0 l1 C5 t5 => ?_⟩
        refine ⟨_, _, rfl, rfl, _, rfl, b, c, 9, rfl, C5, by decide, by decide, fun q K6 q0 q1 C6 t6 => ?_⟩
        refine ⟨_, _, rfl, rfl, (by show 4 ≤ sizeLine; decide), fun p hp => ?_⟩
        have tS : SameB b K3 K6 := (((SameB.refl b K3).new hL1).trans t4).trans (t5.trans t6)
        have gR6 : K6 RN = some (.lst (ra.map V.ref)) := tS _ _ gRN nRb
        have npR : p ≠ RN := (ne_of_none gR6 hp).symm
        refine ⟨RN, _, _, rfl, rfl, (Same.new hp) _ _ gR6, by rw [List.length_map, Paired.length hR]; omega, ?_⟩
        have tu : Tu H' K6 := (B'.tu t1).trans ((C1.tu t2).trans ((C2.tu t3).trans (C3.tu tS)))
        refine ⟨rows ++ [[(if y < x then y else x), (if y > x then y else x), 1 + l, 1 + q]], ra ++ [p], _, _, _, rfl, by simp [hl], by rw [upd_same, List.map_append]; rfl, ?_, ?_, (C6.new hp).put nRb nRc, (((s'.trans t1).trans (t2.trans t3)).trans (tS.new hp)).updNew hRN0⟩
        · refine RowsH.snoc ((hR.tu (tu.trans (Same.new hp).tu)).tu (Tu.put ((Same.new hp) _ _ gR6))) ?_
          show (upd (upd K6 p _) RN _) p = _
          rw [upd_ne npR, upd_same]
          rfl
        · intro row hrow
          rcases List.mem_append.mp hrow with hrow | hrow
          · exact hA row hrow
          · rw [List.mem_singleton.mp hrow]
            exact arr_ok hx0 hx1 hy0 hy1 l0 (by omega) q0 q1
      · have hx0 := x0
        have hx1 := x1
        have hy0 := y0
        have hy1 := y1
        have gRN : K3 RN = some (.lst (ra.map V.ref)) := t3 _ _ (t2 _ _ (t1 _ _ h1 nRb) nRb) nRb
        refine ⟨_, rfl, .inl ⟨rfl, _, SqL.of gRN⟩, _, rfl, _, rfl, _, rfl, by decide, fun L1 hL1 => ?_⟩
        refine ⟨_, rfl, b, c, 2, rfl, C3.new hL1, by decide, by decide, fun u4 K4 u40 u41 C4 t4 => ?_⟩
        obtain ⟨v, hv, hat4⟩ : ∃ v : Int, (v = 1 ∨ v = 3) ∧ atI [V.int 1, V.int 3] u4 = some (.int v) := by
          have : u4 = 0 ∨ u4 = 1 := by omega
          rcases this with e | e <;> subst e
          · exact ⟨1, .inl rfl, rfl⟩
          · exact ⟨3, .inr rfl, rfl⟩
        refine ⟨L1, _, _, _, rfl, rfl, SqL.of (t4 _ _ upd_same (C3.ne hL1)), hat4, ?_⟩
        refine ⟨b, c, v, rfl, C4, by omega, by omega, fun l K5 l0 l1 C5 t5 => ?_⟩
        refine ⟨_, _, rfl, rfl, _, rfl, b, c, 9, rfl, C5, by decide, by decide, fun q K6 q0 q1 C6 t6 => ?_⟩
        refine ⟨_, _, rfl, rfl, (by show 4 ≤ sizeLine; decide), fun p hp => ?_⟩
        have tS : SameB b K3 K6 := (((SameB.refl b K3).new hL1).trans t4).trans (t5.trans t6)
        have gR6 : K6 RN = some (.lst (ra.map V.ref)) := tS _ _ gRN nRb
        have npR : p ≠ RN := (ne_of_none gR6 hp).symm
        refine ⟨RN, _, _, rfl, rfl, (Same.new hp) _ _ gR6, by rw [List.length_map, Paired.length hR]; omega, ?_⟩
        have tu : Tu H' K6 := (B'.tu t1).trans ((C1.tu t2).trans ((C2.tu t3).trans (C3.tu tS)))
        refine ⟨rows ++ [[x, y, 1 + l, 1 + q]], ra ++ [p], _, _, _, rfl, by simp [hl], by rw [upd_same, List.map_append]; rfl, ?_, ?_, (C6.new hp).put nRb nRc, (((s'.trans t1).trans (t2.trans t3)).trans (tS.new hp)).updNew hRN0⟩
        · refine RowsH.snoc ((hR.tu (tu.trans (Same.new hp).tu)).tu (Tu.put ((Same.new hp) _ _ gR6))) ?_
          show (upd (upd K6 p _) RN _) p = _
          rw [upd_ne npR, upd_same]
          rfl
        · intro row hrow
          rcases List.mem_append.mp hrow with hrow | hrow
          · exact hA row hrow
          · rw [List.mem_singleton.mp hrow]
            exact arr_ok hx0 hx1 hy0 hy1 l0 (by omega) q0 q1
    · rintro σ H4 ⟨rows, ra, o6, o7, o8, rfl, hl, h1, hR, hA, B4, s4⟩
      refine ⟨by decide, fun TN hTN => ?_⟩
      have nTb : TN ≠ b := B4.ne hTN
      have nTc : TN ≠ c := B4.neC hTN
      have hTN0 : H TN = none := s4.free nTb hTN
      have nTR : TN ≠ RN := (ne_of_none h1 hTN).symm
      refine ⟨_, rfl, _, rfl, _, _, rfl, rfl, b, c, mt + 1, rfl, B4.new hTN, by omega, by omega, fun r5 H5 r50 r51 B5 s5 => ?_⟩
      have hj : ∃ j2 : Int, r5 * (if decide ((1 : Int) < (m : Int)) = true then 1 else 0) = j2 ∧ 0 ≤ j2 ∧ j2 ≤ 20 ∧ (0 < j2 → 1 < m) := by
        cases e : decide ((1 : Int) < (m : Int))
        · exact ⟨0, by simp, by omega, by omega, by omega⟩
        · have := of_decide_eq_true e
          exact ⟨r5, by simp, by omega, by omega, by omega⟩
      obtain ⟨j2, ej2, j20, j280, jm2⟩ := hj
      refine ⟨_, rfl, _, _, rfl, rfl, .inr ⟨_, rfl, _, _, rfl, rfl, .inl ⟨by omega, by omega⟩, j2, congrArg (fun z => [V.int z]) ej2, by omega, by omega, ?_⟩⟩
      refine for_range (lo := 0) (n := j2.toNat) (fun i σ H' => ∃ (srows : List (List Int)) (sa : List Addr) (o6 o7 o8 : Option V), σ = [some (.ref b), some (.int mo), some (.int ma), some (.int mt), some (.int m), some (.ref RN), o6, o7, o8, some (.ref TN)] ∧ srows.length = i ∧ H' TN = some (.lst (sa.map V.ref)) ∧ RowsH H' sa srows ∧ (∀ row ∈ srows, sayingB m row = true) ∧ H' RN = some (.lst (ra.map V.ref)) ∧ RowsH H' ra rows ∧ Bag H' b c ∧ SameB b H H') ?_ ?_ ?_
      · exact ⟨[], [], _, _, _, rfl, rfl, s5 _ _ upd_same nTb, .nil, fun row h => by simp at h, s5 _ _ ((Same.new hTN) _ _ h1) nRb, hR.tu ((Same.new hTN).tu.trans ((B4.new hTN).tu s5)), B5, (s4.new hTN).trans s5⟩
      · rintro i σ H' hi ⟨srows, sa, o6, o7, o8, rfl, hls, hT, hS, hB, h1', hR', B', s'⟩
        have hm1 : 1 < m := jm2 (by omega)
        refine ⟨_, rfl, _, rfl, b, c, m, rfl, B', by omega, by omega, fun x K1 x0 x1 C1 t1 => ?_⟩
        refine ⟨_, rfl, _, _, rfl, rfl, _, rfl, _, rfl, _, _, rfl, rfl, b, c, (m : Int) - 1, rfl, C1, by omega, by omega, fun y K2 y0 y1 C2 t2 => ?_⟩
        refine ⟨_, _, rfl, rfl, _, rfl, _, _, rfl, rfl, (by show (0 : Int) < (m : Int); omega), ?_⟩
        have gT2 : K2 TN = some (.lst (sa.map V.ref)) := t2 _ _ (t1 _ _ hT nTb) nTb
        have gR2 : K2 RN = some (.lst (ra.map V.ref)) := t2 _ _ (t1 _ _ h1' nRb) nRb
        refine ⟨_, rfl, .inl ⟨rfl, _, SqL.of gT2⟩, _, rfl, _, rfl, _, _, rfl, rfl, _, _, rfl, rfl, _, _, rfl, rfl, _, rfl, b, c, 19, rfl, C2, by decide, by decide, fun z K3 z0 z1 C3 t3 => ?_⟩
        refine ⟨_, _, rfl, rfl, (by show 8 ≤ sizeLine; decide), fun L1 hL1 => ?_⟩
        refine ⟨_, rfl, b, c, 8, rfl, C3.new hL1, by decide, by decide, fun u K4 u0 u1 C4 t4 => ?_⟩
        obtain ⟨v, ⟨v0, v1⟩, hat4⟩ := say_at z0 z1 u0 u1
        refine ⟨L1, _, _, _, rfl, rfl, SqL.of (t4 _ _ upd_same (C3.ne hL1)), hat4, (by show 3 ≤ sizeLine; decide), fun p hp => ?_⟩
        have tS : SameB b K2 K4 := (t3.new hL1).trans t4
        have gT4 : K4 TN = some (.lst (sa.map V.ref)) := tS _ _ gT2 nTb
        have gR4 : K4 RN = some (.lst (ra.map V.ref)) := tS _ _ gR2 nRb
        have npT : p ≠ TN := (ne_of_none gT4 hp).symm
        refine ⟨TN, _, _, rfl, rfl, (Same.new hp) _ _ gT4, by rw [List.length_map, Paired.length hS]; omega, ?_⟩
        have tu : Tu H' K4 := (B'.tu t1).trans ((C1.tu t2).trans (C2.tu tS))
        have tu2 : ∀ o, Tu H' (upd (upd K4 p o) TN (.lst (sa.map V.ref ++ [.ref p]))) := fun o => (tu.trans (Same.new hp).tu).trans (Tu.put ((Same.new hp) _ _ gT4))
        refine ⟨srows ++ [[x, (x + 1 + y) % (m : Int), v]], sa ++ [p], _, _, _, rfl, by simp [hls], by rw [upd_same, List.map_append]; rfl, ?_, ?_, by rw [upd_ne nTR.symm]; exact (Same.new hp) _ _ gR4, hR'.tu (tu2 _), (C4.new hp).put nTb nTc, (((s'.trans t1).trans t2).trans (tS.new hp)).updNew hTN0⟩
        · refine RowsH.snoc (hS.tu (tu2 _)) ?_
          show (upd (upd K4 p _) TN _) p = _
          rw [upd_ne npT, upd_same]
          rfl
        · intro row hrow
          rcases List.mem_append.mp hrow with hrow | hrow
          · exact hB row hrow
          · rw [List.mem_singleton.mp hrow]
            have hm0 : (0 : Int) < (m : Int) := by omega
            exact say_ok x0 x1 (mod_lo hm0) (mod_hi hm0) (other_ne x0 x1 y0 y1) v0 v1
      · rintro σ H6 ⟨srows, sa, o6, o7, o8, rfl, hls, hT, hS, hB, h1', hR', B6, s6⟩
        refine ⟨_, rfl, _, rfl, b, c, m, rfl, B6, hm40, fun pn H7 ns hpn fpn hnb hnl hz6 B7 s7 => ?_⟩
        refine ⟨_, rfl, RN, _, rfl, .inl ⟨SqL.of (s7 _ _ h1' nRb), fun p2 hp2 => ?_⟩⟩
        refine ⟨_, rfl, TN, _, rfl, .inl ⟨SqL.of ((Same.new hp2) _ _ (s7 _ _ hT nTb)), fun p3 hp3 => ?_⟩⟩
        refine ⟨(by show 3 ≤ sizeLine; decide), fun a ha => ?_⟩
        have sF : Same H7 (upd (upd H7 p2 (.tup (ra.map V.ref))) p3 (.tup (sa.map V.ref))) := (Same.new hp2).new2 hp3
        have sF2 : ∀ o, Same H7 (upd (upd (upd H7 p2 (.tup (ra.map V.ref))) p3 (.tup (sa.map V.ref))) a o) := fun o => sF.new2 ha
        have tF : ∀ o, Tu H6 (upd (upd (upd H7 p2 (.tup (ra.map V.ref))) p3 (.tup (sa.map V.ref))) a o) := fun o => (B6.tu s7).trans (sF2 o).tu
        refine k a _ ⟨ns, rows, srows⟩ pn p2 p3 ⟨upd_same, sF2 _ _ _ hpn, ⟨ra, ?_, hR'.tu (tF _)⟩, ⟨sa, ?_, hS.tu (tF _)⟩⟩ ?_ hz6 (B7.same (sF2 _)) ((s6.trans s7).same (sF2 _))
        · rw [upd_ne (ne_of_none ((Same.new hp3) _ _ upd_same) ha), upd_ne (ne_of_none upd_same hp3)]
          exact upd_same
        · rw [upd_ne (ne_of_none upd_same ha)]
          exact upd_same
        · unfold webB
          have e1 : rows.all (arrowB ns.length) = true := List.all_eq_true.mpr fun row h => by rw [hnl]; exact hA row h
          have e2 : srows.all (sayingB ns.length) = true := List.all_eq_true.mpr fun row h => by rw [hnl]; exact hB row h
          simp only [e1, e2, hnb, Bool.and_true]
          rw [decide_eq_true (by omega), decide_eq_true (by omega)]
          rfl
end

end W1

set_option Elab.async false
set_option linter.all false
set_option maxRecDepth 100000
set_option maxHeartbeats 1000000
namespace W1
open PySem PySem.Spec PyProof.Rows L2
def spOdd : Sp := fun vs H Q _ => ∃ (b c : Addr) (m : Int), vs = [.ref b, .int m] ∧ Bag H b c ∧ ∀ (v : Int) (H' : Hp), Bag H' b c → SameB b H H' → Q (.int v) H'
structure Small (t : Nat) (W : Web) : Prop where
  nl : W.names.length ≤ 100 + t
  nz : ∀ z ∈ W.names, z.length ≤ 7
  al : W.arrows.length ≤ 80 * 9 ^ t
  sl : W.sayings.length ≤ 20 * 21 ^ t
  ar : ∀ row ∈ W.arrows, 2 ≤ row.length ∧ row.length ≤ 10 + t
  sr : ∀ row ∈ W.sayings, 2 ≤ row.length ∧ row.length ≤ 10 + t
def spBent : Sp := fun vs H Q _ => ∃ (b c a : Addr) (W : Web) (n r s : Addr) (t : Nat), vs = [.ref b, .ref a] ∧ Bag H b c ∧ WebH H a W n r s ∧ Small t W ∧ t ≤ 2 ∧
  ∀ (a' : Addr) (H' : Hp) (W' : Web) (n' r' s' : Addr), WebH H' a' W' n' r' s' → Small (t + 1) W' → Bag H' b c → SameB b H H' → Q (.ref a') H'
theorem pr_app {α β : Type} {F : α → β → Prop} : ∀ {xs xs' : List α} {ys ys' : List β}, Paired F xs ys → Paired F xs' ys' → Paired F (xs ++ xs') (ys ++ ys')
  | _, _, _, _, .nil, h => h
  | _, _, _, _, .cons a t, h => .cons a (pr_app t h)
theorem pr_take {α β : Type} {F : α → β → Prop} : ∀ {xs : List α} {ys : List β} (n : Nat), Paired F xs ys → Paired F (xs.take n) (ys.take n)
  | _, _, 0, _ => .nil
  | _, _, _ + 1, .nil => .nil
  | _, _, n + 1, .cons r t => .cons r (pr_take n t)
theorem pr_drop {α β : Type} {F : α → β → Prop} : ∀ {xs : List α} {ys : List β} (n : Nat), Paired F xs ys → Paired F (xs.drop n) (ys.drop n)
  | _, _, 0, r => r
  | _, _, _ + 1, .nil => .nil
  | _, _, n + 1, .cons _ t => pr_drop n t
theorem pick3 {p1 p2 p3 : Addr} {x1 x2 : Int} : ∃ pz, (pz = p1 ∨ pz = p2 ∨ pz = p3) ∧ atI [V.ref p1, V.ref p2, V.ref p3] (x1 % 3 * (if decide (V.int x2 = V.int 0) = true then 1 else 0)) = some (.ref pz) := by
  cases decide (V.int x2 = V.int 0)
  · refine ⟨p1, .inl rfl, ?_⟩
    rw [if_neg Bool.false_ne_true, Int.mul_zero]
    rfl
  · rw [if_pos rfl, Int.mul_one]
    have h0 := mod_lo (x := x1) (m := 3) (by decide)
    have h1 := mod_hi (x := x1) (m := 3) (by decide)
    have : x1 % 3 = 0 ∨ x1 % 3 = 1 ∨ x1 % 3 = 2 := by omega
    rcases this with e | e | e <;> rw [e]
    · exact ⟨p1, .inl rfl, rfl⟩
    · exact ⟨p2, .inr (.inl rfl), rfl⟩
    · exact ⟨p3, .inr (.inr rfl), rfl⟩
theorem ixN_nat {n : Nat} {i : Int} (h0 : 0 ≤ i) (h1 : i < n) : ixN n i = some i.toNat := by
  unfold ixN
  rw [if_pos h0, if_pos h1]
theorem ref_at {ra : List Addr} {i : Int} {p : Addr} (h0 : 0 ≤ i) (e : ra[i.toNat]? = some p) : atI (ra.map V.ref) i = some (.ref p) := by
  refine at_of (j := i.toNat) (by omega) ?_
  rw [List.getElem?_map, e]
  rfl
section
variable {P : Program} {w : World} {K : PySem.W.Frag} {mg : Str → Option Value} {base : Heap} {t : Ad}
theorem ok_odd (T : Txt K mg t) : FnOk P w K mg base CX0 2 t.f__law_odd t.d__law_odd ["_law_bag_here", "_law_many"] spOdd := by
  have G__law_pull : FnOk P w K mg base CX0 1 t.f__law_pull t.d__law_pull ["_law_bag_here", "_law_many"] spPull := ok_pull T
  refine T.F__law_odd.ok sc__law_odd (fun vs H Q E h => ?_) (fun cdv A outer s H vs Q E hr h => ?_)
  · obtain ⟨b, c, m, rfl, _⟩ := h
    rfl
  · obtain ⟨b, c, m, rfl, B, k⟩ := h
    have nd := sc__law_odd.nd
    refine ⟨_, (pss_one (ps_ret (pe_ix ix_list (pe_lst (pa_cons (pe_op op_sub pe_int pe_int) (pa_cons pe_int (pa_cons (pv 1) (pa_cons (pe_op op_add (pv 1) pe_int) (pa_cons pe_int (pa_cons pe_int (pa_cons (pe_op op_pow pe_int pe_int) (pa_cons (pe_op op_sub pe_int (pe_op op_pow pe_int pe_int)) (pa_cons (pe_op op_add pe_int (pe_call G__law_pull (hr.mono (by omega)) (by rfl) T.m__law_pull T.F__law_pull.kp T.b__law_pull .nil pass0 (pa_cons (pv 0) (pa_cons pe_int pa_nil)))) pa_nil)))))))))) (pe_call G__law_pull (hr.mono (by omega)) (by rfl) T.m__law_pull T.F__law_pull.kp T.b__law_pull .nil pass0 (pa_cons (pv 0) (pa_cons pe_int pa_nil))) (fun _ _ => rfl)))), ?_⟩
    refine ⟨_, _, rfl, rfl, _, rfl, _, rfl, _, _, rfl, rfl, _, _, rfl, rfl, ⟨by decide, by decide, by decide⟩, _, _, rfl, rfl, ⟨by decide, by decide, by decide⟩, _, _, rfl, rfl, _, rfl, b, c, 12, rfl, B, by decide, by decide, fun x H1 x0 x1 B1 s1 => ?_⟩
    refine ⟨_, _, rfl, rfl, (by show 9 ≤ sizeLine; decide), fun L hL => ?_⟩
    refine ⟨_, rfl, b, c, 9, rfl, B1.new hL, by decide, by decide, fun u H2 u0 u1 B2 s2 => ?_⟩
    have hat : ∃ v : Int, atI [V.int (0 - 1), V.int 0, V.int m, V.int (m + 1), V.int 10, V.int 4, V.int ((10 : Int) ^ (30 : Int).toNat), V.int (0 - (10 : Int) ^ (30 : Int).toNat), V.int (1 + x)] u = some (.int v) := by
      have : u = 0 ∨ u = 1 ∨ u = 2 ∨ u = 3 ∨ u = 4 ∨ u = 5 ∨ u = 6 ∨ u = 7 ∨ u = 8 := by omega
      rcases this with e | e | e | e | e | e | e | e | e <;> subst e <;> exact ⟨_, rfl⟩
    obtain ⟨v, hat⟩ := hat
    refine ⟨L, _, _, _, rfl, rfl, SqL.of (s2 _ _ upd_same (B1.ne hL)), hat, ?_⟩
    exact k v H2 B2 ((s1.new hL).trans s2)
theorem pos_of {α : Type} {l : List α} (h : (!l.isEmpty) = true) : 0 < l.length := by
  cases l with
  | nil => simp at h
  | cons _ _ => exact Nat.succ_pos _
theorem pow_ok {t : Nat} (h : t ≤ 2) : 80 * 9 ^ t ≤ 6480 ∧ 20 * 21 ^ t ≤ 8820 ∧ 80 * 9 ^ (t + 1) = 80 * 9 ^ t * 9 ∧ 20 * 21 ^ (t + 1) = 20 * 21 ^ t * 21 := by
  have : t = 0 ∨ t = 1 ∨ t = 2 := by omega
  rcases this with e | e | e <;> subst e <;> decide
theorem ok_bent (T : Txt K mg t) : FnOk P w K mg base CX0 3 t.f__law_bent_web t.d__law_bent_web ["_law_bag_here", "_law_web"] spBent := by
  have G__law_pull : FnOk P w K mg base CX0 1 t.f__law_pull t.d__law_pull ["_law_bag_here", "_law_many"] spPull := ok_pull T
  have G__law_odd : FnOk P w K mg base CX0 2 t.f__law_odd t.d__law_odd ["_law_bag_here", "_law_many"] spOdd := ok_odd T
  refine T.F__law_bent_web.ok sc__law_bent_web (fun vs H Q E h => ?_) (fun cdv A outer s H vs Q E hr h => ?_)
  · obtain ⟨b, c, a, W, n, r, sa, t0, rfl, _⟩ := h
    rfl
  · obtain ⟨b, c, a, W, n, r, sa, t0, rfl, B, hw, hS, ht, k⟩ := h
    have nd := sc__law_bent_web.nd
    have sbig := sl_big
    have hu64 := hr.units
    obtain ⟨pw1, pw2, pw3, pw4⟩ := pow_ok ht
    have bnl := hS.nl
    have bal := hS.al
    have bsl := hS.sl
    refine ⟨_, (pss_cons (ps_asg (pv 1) (pg_tup (by rfl) (pgs_cons (pg_name (i := 2) nd rfl (Or.inl rfl)) (pgs_cons (pg_name (i := 3) nd rfl (Or.inl rfl)) (pgs_cons (pg_name (i := 4) nd rfl (Or.inl rfl)) pgs_nil)))))
      (pss_cons (ps_set (i := 5) nd rfl (Or.inl rfl) (pe_call G__law_pull (hr.mono (by omega)) (by rfl) T.m__law_pull T.F__law_pull.kp T.b__law_pull .nil pass0 (pa_cons (pv 0) (pa_cons pe_int pa_nil))))
      (pss_cons (ps_if (pt_cmpR op_eq (pv 5) pe_int (nomark _)) (pss_cons (ps_set (i := 6) nd rfl (Or.inl rfl) (pe_op op_cat (pe_lst (pa_cons pe_str (pa_cons pe_str (pa_cons pe_str (pa_cons pe_str (pa_cons pe_str pa_nil)))))) (pe_callTy call_list_of (by rfl) T.b_list (by decide +kernel) (pa_cons (pe_slice sl_tupB (pv 2) po_none (po_some pe_int)) pa_nil))))
      (pss_one (ps_ret (pe_tup (pa_cons (pe_op op_catTB (pv 2) (pe_tup (pa_cons (pe_ix ix_list (pv 6) (pe_call G__law_pull (hr.mono (by omega)) (by rfl) T.m__law_pull T.F__law_pull.kp T.b__law_pull .nil pass0 (pa_cons (pv 0) (pa_cons (pe_callB call_len_seq (by rfl) T.b_len (by decide +kernel) (pa_cons (pv 6) pa_nil)) pa_nil))) (fun _ _ => rfl)) pa_nil))) (pa_cons (pv 3) (pa_cons (pv 4) pa_nil))))))) pss_nil)
      (pss_cons (ps_if (pt_cmpR op_eq (pv 5) pe_int (nomark _)) (pss_one (ps_ret (pe_tup (pa_cons (pe_slice sl_tupB (pv 2) po_none (po_some (pe_un un_neg pe_int))) (pa_cons (pv 3) (pa_cons (pv 4) pa_nil)))))) pss_nil)
      (pss_cons (ps_if (pt_cmpR op_eq (pv 5) pe_int (nomark _)) (pss_one (ps_ret (pe_tup (pa_cons (pv 2) (pa_cons (pe_op op_repTB (pv 3) (pe_ix ix_list (pe_lst (pa_cons pe_int (pa_cons pe_int pa_nil))) (pe_call G__law_pull (hr.mono (by omega)) (by rfl) T.m__law_pull T.F__law_pull.kp T.b__law_pull .nil pass0 (pa_cons (pv 0) (pa_cons pe_int pa_nil))) (fun _ _ => rfl))) (pa_cons (pe_op op_repTB (pv 4) (pe_ix ix_list (pe_lst (pa_cons pe_int (pa_cons pe_int pa_nil))) (pe_call G__law_pull (hr.mono (by omega)) (by rfl) T.m__law_pull T.F__law_pull.kp T.b__law_pull .nil pass0 (pa_cons (pv 0) (pa_cons pe_int pa_nil))) (fun _ _ => rfl))) pa_nil)))))) pss_nil)
      (pss_cons (ps_if (PW.pt (pw_and (pt_cmpR op_lt (pv 5) pe_int (nomark _)) (pw_and1 (pt_cmpR (op_neE hu64) (pv 3) (pe_tup pa_nil) (nomark _))))) (pss_cons (ps_set (i := 7) nd rfl (Or.inl rfl) (pe_call G__law_pull (hr.mono (by omega)) (by rfl) T.m__law_pull T.F__law_pull.kp T.b__law_pull .nil pass0 (pa_cons (pv 0) (pa_cons (pe_callB call_len_seq (by rfl) T.b_len (by decide +kernel) (pa_cons (pv 3) pa_nil)) pa_nil))))
      (pss_cons (ps_set (i := 8) nd rfl (Or.inl rfl) (pe_callTy call_list_of (by rfl) T.b_list (by decide +kernel) (pa_cons (pe_ix ix_tup (pv 3) (pv 7) (fun _ _ => rfl)) pa_nil)))
      (pss_cons (ps_asg (pe_call G__law_odd (hr.mono (by omega)) (by rfl) T.m__law_odd T.F__law_odd.kp T.b__law_odd .nil pass0 (pa_cons (pv 0) (pa_cons (pe_callB call_len_seq (by rfl) T.b_len (by decide +kernel) (pa_cons (pv 2) pa_nil)) pa_nil))) (pg_sub (pv 8) (pe_call G__law_pull (hr.mono (by omega)) (by rfl) T.m__law_pull T.F__law_pull.kp T.b__law_pull .nil pass0 (pa_cons (pv 0) (pa_cons (pe_callB call_len_seq (by rfl) T.b_len (by decide +kernel) (pa_cons (pv 8) pa_nil)) pa_nil))) set_list))
      (pss_cons (ps_set (i := 8) nd rfl (Or.inl rfl) (pe_ix ix_list (pe_lst (pa_cons (pe_callTy call_tuple_of (by rfl) T.b_tuple (by decide +kernel) (pa_cons (pv 8) pa_nil)) (pa_cons (pe_callTy call_tuple_of (by rfl) T.b_tuple (by decide +kernel) (pa_cons (pe_slice sl_list (pv 8) po_none (po_some pe_int)) pa_nil)) (pa_cons (pe_callTy call_tuple_of (by rfl) T.b_tuple (by decide +kernel) (pa_cons (pe_op op_cat (pv 8) (pe_lst (pa_cons pe_int pa_nil))) pa_nil)) pa_nil)))) (pe_op op_mul (pe_op op_mod (pe_call G__law_pull (hr.mono (by omega)) (by rfl) T.m__law_pull T.F__law_pull.kp T.b__law_pull .nil pass0 (pa_cons (pv 0) (pa_cons pe_int pa_nil))) pe_int) (pe_callTy call_int1 (by rfl) T.b_int (by decide +kernel) (pa_cons (pe_cmpR op_eq (pe_call G__law_pull (hr.mono (by omega)) (by rfl) T.m__law_pull T.F__law_pull.kp T.b__law_pull .nil pass0 (pa_cons (pv 0) (pa_cons pe_int pa_nil))) pe_int (nomark _)) pa_nil))) (fun _ _ => rfl)))
      (pss_one (ps_ret (pe_tup (pa_cons (pv 2) (pa_cons (pe_op op_catTB (pe_op op_catTB (pe_slice sl_tupB (pv 3) po_none (po_some (pv 7))) (pe_tup (pa_cons (pv 8) pa_nil))) (pe_slice sl_tupB (pv 3) (po_some (pe_op op_add (pv 7) pe_int)) po_none)) (pa_cons (pv 4) pa_nil)))))))))) pss_nil)
      (pss_cons (ps_if (pt_cmpR (op_neE hu64) (pv 4) (pe_tup pa_nil) (nomark _)) (pss_cons (ps_set (i := 7) nd rfl (Or.inl rfl) (pe_call G__law_pull (hr.mono (by omega)) (by rfl) T.m__law_pull T.F__law_pull.kp T.b__law_pull .nil pass0 (pa_cons (pv 0) (pa_cons (pe_callB call_len_seq (by rfl) T.b_len (by decide +kernel) (pa_cons (pv 4) pa_nil)) pa_nil))))
      (pss_cons (ps_set (i := 8) nd rfl (Or.inl rfl) (pe_callTy call_list_of (by rfl) T.b_list (by decide +kernel) (pa_cons (pe_ix ix_tup (pv 4) (pv 7) (fun _ _ => rfl)) pa_nil)))
      (pss_cons (ps_asg (pe_call G__law_odd (hr.mono (by omega)) (by rfl) T.m__law_odd T.F__law_odd.kp T.b__law_odd .nil pass0 (pa_cons (pv 0) (pa_cons (pe_callB call_len_seq (by rfl) T.b_len (by decide +kernel) (pa_cons (pv 2) pa_nil)) pa_nil))) (pg_sub (pv 8) (pe_call G__law_pull (hr.mono (by omega)) (by rfl) T.m__law_pull T.F__law_pull.kp T.b__law_pull .nil pass0 (pa_cons (pv 0) (pa_cons (pe_callB call_len_seq (by rfl) T.b_len (by decide +kernel) (pa_cons (pv 8) pa_nil)) pa_nil))) set_list))
      (pss_cons (ps_set (i := 8) nd rfl (Or.inl rfl) (pe_ix ix_list (pe_lst (pa_cons (pe_callTy call_tuple_of (by rfl) T.b_tuple (by decide +kernel) (pa_cons (pv 8) pa_nil)) (pa_cons (pe_callTy call_tuple_of (by rfl) T.b_tuple (by decide +kernel) (pa_cons (pe_slice sl_list (pv 8) po_none (po_some pe_int)) pa_nil)) (pa_cons (pe_callTy call_tuple_of (by rfl) T.b_tuple (by decide +kernel) (pa_cons (pe_op op_cat (pv 8) (pe_lst (pa_cons pe_int pa_nil))) pa_nil)) pa_nil)))) (pe_op op_mul (pe_op op_mod (pe_call G__law_pull (hr.mono (by omega)) (by rfl) T.m__law_pull T.F__law_pull.kp T.b__law_pull .nil pass0 (pa_cons (pv 0) (pa_cons pe_int pa_nil))) pe_int) (pe_callTy call_int1 (by rfl) T.b_int (by decide +kernel) (pa_cons (pe_cmpR op_eq (pe_call G__law_pull (hr.mono (by omega)) (by rfl) T.m__law_pull T.F__law_pull.kp T.b__law_pull .nil pass0 (pa_cons (pv 0) (pa_cons pe_int pa_nil))) pe_int (nomark _)) pa_nil))) (fun _ _ => rfl)))
      (pss_one (ps_ret (pe_tup (pa_cons (pv 2) (pa_cons (pv 3) (pa_cons (pe_op op_catTB (pe_op op_catTB (pe_slice sl_tupB (pv 4) po_none (po_some (pv 7))) (pe_tup (pa_cons (pv 8) pa_nil))) (pe_slice sl_tupB (pv 4) (po_some (pe_op op_add (pv 7) pe_int)) po_none)) pa_nil)))))))))) pss_nil)
      (pss_one (ps_ret (pe_tup (pa_cons (pe_op op_catTB (pv 2) (pe_tup (pa_cons pe_str pa_nil))) (pa_cons (pv 3) (pa_cons (pv 4) pa_nil))))))))))))), ?_⟩
    refine ⟨_, rfl, a, _, rfl, SqT.of hw.tup, rfl, _, _, rfl, _, _, rfl, _, _, rfl, rfl, ?_⟩
    refine ⟨_, rfl, b, c, 9, rfl, B, by decide, by decide, fun sd H1 sd0 sd1 B1 s1 => ?_⟩
    have W1 := hw.tu (B.tu s1)
    have sm1 : ∀ {W' : Web}, W'.names.length ≤ 100 + (t0 + 1) → (∀ z ∈ W'.names, z.length ≤ 7) → W'.arrows = W.arrows → W'.sayings = W.sayings → Small (t0 + 1) W' := fun h1 h2 h3 h4 =>
      ⟨h1, h2, by rw [h3]; omega, by rw [h4]; omega, fun row hm => by have := hS.ar row (h3 ▸ hm); omega, fun row hm => by have := hS.sr row (h4 ▸ hm); omega⟩
    refine rd_if (IsT.test (Is.eqI (Is.var rfl) Is.const)) (fun _ => ?_) (fun _ => ?_)
    · refine ⟨(by show 5 ≤ sizeLine; decide), fun L hL => ?_⟩
      refine ⟨_, rfl, _, rfl, n, _, rfl, (Same.new hL) _ _ W1.nam, fun p1 G1 t1 hp1 => ?_⟩
      refine ⟨p1, _, rfl, .inr (SqT.of hp1), fun l hl => ?_⟩
      have hL1 : G1 L = some (.lst [.str "", .str "A", .str "abcdefg", .str "a1", .str "ok"]) := t1 _ _ upd_same
      obtain ⟨l', el', ll', ml'⟩ := cutV_map V.str W.names none (some 1)
      rw [el'] at hp1 ⊢
      refine ⟨L, l, _, _, rfl, rfl, (Same.new hl) _ _ hL1, upd_same, ?_, fun q hq => ?_⟩
      · rw [List.length_map]
        show 5 + _ ≤ sizeLine
        omega
      have e5 : ([.str "", .str "A", .str "abcdefg", .str "a1", .str "ok"] : List V) ++ l'.map V.str = ((["", "A", "abcdefg", "a1", "ok"] : List Str) ++ l').map V.str := by
        rw [List.map_append]
        rfl
      rw [e5]
      generalize eso : ((["", "A", "abcdefg", "a1", "ok"] : List Str) ++ l') = so
      have hso : ∀ z ∈ so, z.length ≤ 7 := fun z hz => by
        rw [← eso] at hz
        rcases List.mem_append.mp hz with hz | hz
        · have : ∀ z ∈ (["", "A", "abcdefg", "a1", "ok"] : List Str), z.length ≤ 7 := by decide +kernel
          exact this z hz
        · exact hS.nz z (ml' z hz)
      have lso : 5 ≤ so.length ∧ so.length ≤ 1000 := by
        rw [← eso, List.length_append]
        constructor
        · show 5 ≤ 5 + _
          omega
        · show 5 + _ ≤ 1000
          omega
      have sS : Same H1 (upd (upd G1 l (.lst (l'.map V.str))) q (.lst (so.map V.str))) := ((((Same.new hL).trans t1).new2 hl).new2 hq)
      refine ⟨_, rfl, _, rfl, _, rfl, _, rfl, q, _, rfl, .inl (SqL.of upd_same), b, c, _, rfl, B1.same sS, by rw [List.length_map]; omega, by rw [List.length_map]; omega, fun i H3 i0 i1 B3 s3 => ?_⟩
      rw [List.length_map] at i1
      have nqb : q ≠ b := (B1.same (((Same.new hL).trans t1).new2 hl)).ne hq
      have eso2 : so[i.toNat]? = some so[i.toNat] := by
        have : i.toNat < so.length := by omega
        simp [this]
      refine ⟨q, _, _, _, rfl, rfl, SqL.of (s3 _ _ upd_same nqb), at_of (j := i.toNat) (v := .str so[i.toNat]) (by omega) (by rw [List.getElem?_map, eso2]; rfl), (by show 1 ≤ sizeLine; decide), fun u hu => ?_⟩
      have t3 : Tu H1 H3 := sS.tu.trans ((B1.same sS).tu s3)
      refine ⟨n, u, _, _, rfl, rfl, (Same.new hu) _ _ (t3 _ _ W1.nam), upd_same, by rw [List.length_map]; show _ + 1 ≤ sizeLine; omega, fun p2 G2 t2 hp2 => ?_⟩
      refine ⟨_, rfl, _, rfl, (by show 3 ≤ sizeLine; decide), fun a' ha' => ?_⟩
      have sF : ∀ o, Same H3 (upd G2 a' o) := fun o => ((Same.new hu).trans t2).new2 ha'
      have tF : ∀ o, Tu H1 (upd G2 a' o) := fun o => t3.trans (sF o).tu
      refine k a' _ ⟨W.names ++ [so[i.toNat]], W.arrows, W.sayings⟩ p2 r sa ⟨upd_same, ?_, W1.arr.tu (tF _), W1.say.tu (tF _)⟩ (sm1 ?_ (fun z hz => ?_) rfl rfl) (B3.same (sF _)) (((s1.same sS).trans s3).same (sF _))
      · rw [upd_ne (ne_of_none hp2 ha'), hp2, List.map_append]
        rfl
      · show (W.names ++ [_]).length ≤ _
        rw [List.length_append]
        show W.names.length + 1 ≤ _
        omega
      · rcases List.mem_append.mp hz with hz | hz
        · exact hS.nz z hz
        · rw [List.mem_singleton.mp hz]
          exact hso _ (List.getElem_mem _)
    refine rd_if (IsT.test (Is.eqI (Is.var rfl) Is.const)) (fun _ => ?_) (fun _ => ?_)
    · refine ⟨_, rfl, _, rfl, _, rfl, n, _, rfl, W1.nam, fun p1 G1 t1 hp1 => ?_⟩
      refine ⟨_, rfl, _, rfl, (by show 3 ≤ sizeLine; decide), fun a' ha' => ?_⟩
      obtain ⟨l', el', ll', ml'⟩ := cutV_map V.str W.names none (some (-1))
      have sF : ∀ o, Same H1 (upd G1 a' o) := fun o => t1.new2 ha'
      refine k a' _ ⟨l', W.arrows, W.sayings⟩ p1 r sa ⟨upd_same, ?_, W1.arr.tu (sF _).tu, W1.say.tu (sF _).tu⟩ (sm1 (by show l'.length ≤ _; omega) (fun z hz => hS.nz z (ml' z hz)) rfl rfl) (B1.same (sF _)) (s1.same (sF _))
      rw [upd_ne (ne_of_none hp1 ha'), hp1]
      exact congrArg (fun x => some (HO.tup x)) el'
    refine rd_if (IsT.test (Is.eqI (Is.var rfl) Is.const)) (fun _ => ?_) (fun _ => ?_)
    · obtain ⟨ra, hra, prA⟩ := W1.arr
      obtain ⟨sb, hsb, prS⟩ := W1.say
      have lA : ra.length = W.arrows.length := Paired.length prA
      have lS : sb.length = W.sayings.length := Paired.length prS
      refine ⟨_, rfl, _, rfl, (by show 2 ≤ sizeLine; decide), fun L hL => ?_⟩
      refine ⟨_, rfl, b, c, 2, rfl, B1.new hL, by decide, by decide, fun x H2 x0 x1 B2 s2 => ?_⟩
      obtain ⟨m1, hm1, hat1⟩ : ∃ v : Int, (v = 2 ∨ v = 9) ∧ atI [V.int 2, V.int 9] x = some (.int v) := by
        have : x = 0 ∨ x = 1 := by omega
        rcases this with e | e <;> subst e
        · exact ⟨2, .inl rfl, rfl⟩
        · exact ⟨9, .inr rfl, rfl⟩
      have t2 : Tu H1 H2 := (Same.new hL).tu.trans ((B1.new hL).tu s2)
      refine ⟨L, _, _, _, rfl, rfl, SqL.of (s2 _ _ upd_same (B1.ne hL)), hat1, ?_⟩
      refine ⟨r, _, m1, rfl, rfl, t2 _ _ hra, by omega, by omega, ?_, fun q1 G1 e1 hq1 => ?_⟩
      · rw [List.length_map, lA]
        rcases hm1 with e | e <;> subst e <;> omega
      refine ⟨_, rfl, (by show 2 ≤ sizeLine; decide), fun L2 hL2 => ?_⟩
      have B3 := (B2.same e1).new (o := .lst [.int 3, .int 21]) hL2
      refine ⟨_, rfl, b, c, 2, rfl, B3, by decide, by decide, fun y H4 y0 y1 B4 s4 => ?_⟩
      obtain ⟨m2, hm2, hat2⟩ : ∃ v : Int, (v = 3 ∨ v = 21) ∧ atI [V.int 3, V.int 21] y = some (.int v) := by
        have : y = 0 ∨ y = 1 := by omega
        rcases this with e | e <;> subst e
        · exact ⟨3, .inl rfl, rfl⟩
        · exact ⟨21, .inr rfl, rfl⟩
      refine ⟨L2, _, _, _, rfl, rfl, SqL.of (s4 _ _ upd_same ((B2.same e1).ne hL2)), hat2, ?_⟩
      have t4 : Tu G1 H4 := (Same.new hL2).tu.trans (B3.tu s4)
      have t14 : Tu H1 H4 := (t2.trans e1.tu).trans t4
      refine ⟨sa, _, m2, rfl, rfl, t14 _ _ hsb, by omega, by omega, ?_, fun q2 G2 e2 hq2 => ?_⟩
      · rw [List.length_map, lS]
        rcases hm2 with e | e <;> subst e <;> omega
      refine ⟨(by show 3 ≤ sizeLine; decide), fun a' ha' => ?_⟩
      have sF : ∀ o, Same H4 (upd G2 a' o) := fun o => e2.new2 ha'
      have tF : ∀ o, Tu H1 (upd G2 a' o) := fun o => t14.trans (sF o).tu
      have fl : ∀ (l : List Addr) (m : Nat), (List.replicate m (l.map V.ref)).flatten = ((List.replicate m l).flatten).map V.ref := fun l m => by
        rw [List.map_flatten, List.map_replicate]
      have ln : ∀ (l : List (List Int)) (m : Nat), (List.replicate m l).flatten.length = m * l.length := fun l m => by
        rw [List.length_flatten, List.map_replicate, List.sum_replicate_nat]
      have mm : ∀ (l : List (List Int)) (m : Nat) (row : List Int), row ∈ (List.replicate m l).flatten → row ∈ l := fun l m row h => by
        obtain ⟨l2, h1, h2⟩ := List.mem_flatten.mp h
        rw [(List.mem_replicate.mp h1).2] at h2
        exact h2
      refine k a' _ ⟨W.names, (List.replicate m1.toNat W.arrows).flatten, (List.replicate m2.toNat W.sayings).flatten⟩ n q1 q2 ⟨upd_same, tF _ _ _ W1.nam, ⟨(List.replicate m1.toNat ra).flatten, ?_, Paired.rep (prA.tu (tF _)) _⟩, ⟨(List.replicate m2.toNat sb).flatten, ?_, Paired.rep (prS.tu (tF _)) _⟩⟩
        ⟨by show W.names.length ≤ _; omega, hS.nz, ?_, ?_, fun row h => by have := hS.ar row (mm _ _ _ h); omega, fun row h => by have := hS.sr row (mm _ _ _ h); omega⟩ (B4.same (sF _)) ((((s1.new hL).trans s2).same e1 |>.new hL2 |>.trans s4).same (sF _))
      · rw [← fl]
        exact (sF _) _ _ (t4 _ _ hq1)
      · rw [← fl, upd_ne (ne_of_none hq2 ha')]
        exact hq2
      · show (List.replicate m1.toNat W.arrows).flatten.length ≤ _
        rw [ln, pw3]
        rcases hm1 with e | e <;> subst e
        · show 2 * _ ≤ _
          omega
        · show 9 * _ ≤ _
          omega
      · show (List.replicate m2.toNat W.sayings).flatten.length ≤ _
        rw [ln, pw4]
        rcases hm2 with e | e <;> subst e
        · show 3 * _ ≤ _
          omega
        · show 21 * _ ≤ _
          omega
    obtain ⟨ra, hra, prA⟩ := W1.arr
    obtain ⟨sb, hsb, prS⟩ := W1.say
    refine ⟨_, rfl, _, _, rfl, rfl, _, rfl, ?_⟩
    refine ite2 (fun c0 => ?_) (fun c0 => ?_)
    · refine ⟨_, rfl, by decide, fun u hu => ⟨r, u, W.arrows, rfl, rfl, ⟨ra, (Same.new hu) _ _ hra, prA.tu (Same.new hu).tu⟩, upd_same, _, rfl, ?_⟩⟩
      refine ite2 (fun c2 => ?_) (fun c2 => ?_)
      · have triv := True.intro
        have lenR : (ra.map V.ref).length = W.arrows.length := by rw [List.length_map]; exact Paired.length prA
        have hpos : 0 < W.arrows.length := pos_of c2
        have tU : Tu H1 (upd H1 u (.tup [])) := (Same.new hu).tu
        refine ⟨_, rfl, _, rfl, r, _, rfl, .inr (SqT.of (tU _ _ hra)), b, c, _, rfl, B1.new hu, by rw [lenR]; omega, by rw [lenR]; omega, fun ai H3 a0 a1 B3 s3 => ?_⟩
        rw [lenR] at a1
        have t3 : Tu H1 H3 := tU.trans ((B1.new hu).tu s3)
        have hr3 : H3 r = some (.tup (ra.map V.ref)) := t3 _ _ hra
        have pr3 : RowsH H3 ra W.arrows := prA.tu t3
        have hlt : ai.toNat < ra.length := by have := Paired.length prA; omega
        have ep : ra[ai.toNat]? = some ra[ai.toNat] := by simp [hlt]
        obtain ⟨row0, er0, hrow0⟩ := paired_get pr3 ep
        have mr0 : row0 ∈ W.arrows := List.mem_of_getElem? er0
        obtain ⟨rl0, rl1⟩ := hS.ar row0 mr0
        refine ⟨_, rfl, _, rfl, r, _, _, _, rfl, rfl, SqT.of hr3, ref_at a0 ep, ra[ai.toNat], _, rfl, .inr (SqT.of hrow0), fun RL hRL => ?_⟩
        have nRb : RL ≠ b := B3.ne hRL
        have nRc : RL ≠ c := B3.neC hRL
        have t4 : Tu H1 (upd H3 RL (.lst (row0.map V.int))) := t3.trans (Same.new hRL).tu
        refine ⟨_, rfl, _, rfl, n, _, rfl, .inr (SqT.of (t4 _ _ W1.nam)), b, c, _, rfl, B3.new hRL, fun v H5 B5 s5 => ?_⟩
        have g5 : H5 RL = some (.lst (row0.map V.int)) := s5 _ _ upd_same nRb
        refine ⟨_, rfl, _, rfl, _, rfl, RL, _, rfl, .inl (SqL.of g5), b, c, _, rfl, B5, by rw [List.length_map]; omega, by rw [List.length_map]; omega, fun j H6 j0 j1 B6 s6 => ?_⟩
        have g6 : H6 RL = some (.lst (row0.map V.int)) := s6 _ _ g5 nRb
        refine ⟨RL, _, _, _, rfl, rfl, g6, ixN_nat j0 j1, ?_⟩
        obtain ⟨row1, er1, el1⟩ : ∃ row1 : List Int, (row0.map V.int).set j.toNat (.int v) = row1.map V.int ∧ row1.length = row0.length := ⟨row0.set j.toNat v, by rw [List.map_set], by rw [List.length_set]⟩
        rw [er1]
        have sH7 : SameB b (upd H3 RL (.lst (row0.map V.int))) H6 := s5.trans s6
        have t7 : Tu H1 (upd H6 RL (.lst (row1.map V.int))) := (t4.trans ((B3.new hRL).tu sH7)).trans (Tu.put g6)
        have B7 : Bag (upd H6 RL (.lst (row1.map V.int))) b c := B6.put nRb nRc
        have hRL0 : H RL = none := (s1.trans (((SameB.refl b H1).new hu).trans s3)).free nRb hRL
        have s7 : SameB b H (upd H6 RL (.lst (row1.map V.int))) := ((s1.trans (((SameB.refl b H1).new hu).trans s3)).trans (((SameB.refl b H3).new hRL).trans sH7)).updNew hRL0
        generalize eH7 : upd H6 RL (.lst (row1.map V.int)) = H7 at t7 B7 s7 ⊢
        have g7 : H7 RL = some (.lst (row1.map V.int)) := by rw [← eH7]; exact upd_same
        refine ⟨_, rfl, RL, _, rfl, .inl ⟨SqL.of g7, fun p1 hp1 => ?_⟩⟩
        refine ⟨_, rfl, _, rfl, RL, _, rfl, SqL.of ((Same.new hp1) _ _ g7), fun l2 hl2 => ⟨l2, _, rfl, .inl ⟨SqL.of upd_same, fun p2 hp2 => ?_⟩⟩⟩
        refine ⟨_, rfl, (by show 1 ≤ sizeLine; decide), fun l3 hl3 => ?_⟩
        have sA : Same H7 (upd (upd (upd (upd H7 p1 (.tup (row1.map V.int))) l2 (.lst (cutV (row1.map V.int) none (some 3)))) p2 (.tup (cutV (row1.map V.int) none (some 3)))) l3 (.lst [.int 1])) := (((Same.new hp1).new2 hl2).new2 hp2).new2 hl3
        refine ⟨RL, l3, _, _, rfl, rfl, sA _ _ g7, upd_same, by rw [List.length_map]; show row1.length + 1 ≤ sizeLine; omega, fun l4 hl4 => ⟨l4, _, rfl, .inl ⟨SqL.of upd_same, fun p3 hp3 => ?_⟩⟩⟩
        refine ⟨(by show 3 ≤ sizeLine; decide), fun LL hLL => ?_⟩
        have sB : Same (upd (upd (upd (upd H7 p1 (.tup (row1.map V.int))) l2 (.lst (cutV (row1.map V.int) none (some 3)))) p2 (.tup (cutV (row1.map V.int) none (some 3)))) l3 (.lst [.int 1])) _ := ((Same.new (o := .lst (row1.map V.int ++ [.int 1])) hl4).new2 (o := .tup (row1.map V.int ++ [.int 1])) hp3).new2 (o := .lst [.ref p1, .ref p2, .ref p3]) hLL
        have k1 := sB _ _ ((((Same.new (o := .lst (cutV (row1.map V.int) none (some 3))) hl2).new2 hp2).new2 hl3) p1 _ upd_same)
        have k2 := sB _ _ ((Same.new (o := .lst [.int 1]) hl3) p2 _ upd_same)
        have k3 := (Same.new (o := .lst [.ref p1, .ref p2, .ref p3]) hLL) p3 _ upd_same
        have sC := sA.trans sB
        have kL : (upd (upd (upd (upd (upd (upd (upd H7 p1 (.tup (row1.map V.int))) l2 (.lst (cutV (row1.map V.int) none (some 3)))) p2 (.tup (cutV (row1.map V.int) none (some 3)))) l3 (.lst [.int 1])) l4 (.lst (row1.map V.int ++ [.int 1]))) p3 (.tup (row1.map V.int ++ [.int 1]))) LL (.lst [.ref p1, .ref p2, .ref p3])) LL = some (.lst [.ref p1, .ref p2, .ref p3]) := upd_same
        generalize eH8 : upd (upd (upd (upd (upd (upd (upd H7 p1 (.tup (row1.map V.int))) l2 (.lst (cutV (row1.map V.int) none (some 3)))) p2 (.tup (cutV (row1.map V.int) none (some 3)))) l3 (.lst [.int 1])) l4 (.lst (row1.map V.int ++ [.int 1]))) p3 (.tup (row1.map V.int ++ [.int 1]))) LL (.lst [.ref p1, .ref p2, .ref p3]) = H8 at k1 k2 k3 sC kL ⊢
        have B8 : Bag H8 b c := B7.same sC
        have nLb : LL ≠ b := fun e => by
          obtain ⟨_, _, _, _, hb8, _⟩ := B8
          rw [e, hb8] at kL
          have := HO.lst.inj (Option.some.inj kL)
          simp at this
        refine ⟨_, rfl, b, c, 5, rfl, B8, by decide, by decide, fun x1 H9 x10 x11 B9 s9 => ?_⟩
        refine ⟨_, _, rfl, rfl, (by show (0 : Int) < 3; decide), _, rfl, b, c, 3, rfl, B9, by decide, by decide, fun x2 H10 x20 x21 B10 s10 => ?_⟩
        obtain ⟨pz, epz, hat⟩ := pick3 (p1 := p1) (p2 := p2) (p3 := p3) (x1 := x1) (x2 := x2)
        refine ⟨rfl, .inr ⟨_, rfl, _, _, rfl, rfl, cmul_mod (by decide) (by decide), LL, _, _, _, rfl, rfl, SqL.of (s10 _ _ (s9 _ _ kL nLb) nLb), hat, ?_⟩⟩
        have t8 : Tu H7 H8 := sC.tu
        have t10 : Tu H8 H10 := (B8.tu s9).trans (B9.tu s10)
        obtain ⟨row2, hrow2, rl2⟩ : ∃ row2 : List Int, RowH H10 pz row2 ∧ 2 ≤ row2.length ∧ row2.length ≤ row0.length + 1 := by
          rcases epz with e | e | e
          · rw [e]
            exact ⟨row1, t10 _ _ k1, by omega, by omega⟩
          · rw [e]
            refine ⟨row1.take 3, ?_, ?_⟩
            · have := t10 _ _ k2
              rw [cutV_to (by decide), take_min, ← List.map_take] at this
              exact this
            · rw [List.length_take]
              omega
          · rw [e]
            refine ⟨row1 ++ [1], ?_, by rw [List.length_append]; simp; omega⟩
            have := t10 _ _ k3
            unfold RowH
            rw [List.map_append]
            exact this
        have tA : Tu H1 H10 := (t7.trans t8).trans t10
        have hrA : H10 r = some (.tup (ra.map V.ref)) := tA _ _ hra
        have s10' : SameB b H H10 := (s7.same sC).trans (s9.trans s10)
        refine ⟨_, rfl, ?_⟩
        refine ⟨_, rfl, _, rfl, _, rfl, r, _, rfl, hrA, fun q1 G1 e1 hq1 => ?_⟩
        refine ⟨_, rfl, (by show 1 ≤ sizeLine; decide), fun q2 hq2 => ⟨q1, q2, _, _, rfl, rfl, (Same.new hq2) _ _ hq1, upd_same, ?_, fun q3 G3 e3 hq3 => ?_⟩⟩
        · have := cutV_length (ra.map V.ref) none (some ai)
          show _ + 1 ≤ sizeLine
          omega
        have f3 : Same H10 G3 := (e1.new2 hq2).trans e3
        refine ⟨_, rfl, _, rfl, _, _, rfl, rfl, _, rfl, r, _, rfl, f3 _ _ hrA, fun q4 G4 e4 hq4 => ⟨q3, q4, _, _, rfl, rfl, e4 _ _ hq3, hq4, ?_, fun q5 G5 e5 hq5 => ?_⟩⟩
        · have h1 := cutV_length (ra.map V.ref) none (some ai)
          have h2 := cutV_length (ra.map V.ref) (some (ai + 1)) none
          rw [List.length_append]
          show (_ + 1) + _ ≤ sizeLine
          omega
        have f5 : Same H10 G5 := (f3.trans e4).trans e5
        refine ⟨_, rfl, (by show 3 ≤ sizeLine; decide), fun a' ha' => ?_⟩
        have fA : ∀ o, Same H10 (upd G5 a' o) := fun o => f5.new2 ha'
        have tF : ∀ o, Tu H1 (upd G5 a' o) := fun o => tA.trans (fA o).tu
        have ecut : cutV (ra.map V.ref) none (some ai) ++ [.ref pz] ++ cutV (ra.map V.ref) (some (ai + 1)) none = (ra.take ai.toNat ++ [pz] ++ ra.drop (ai.toNat + 1)).map V.ref := by
          have e1 : (ai + 1).toNat = ai.toNat + 1 := by omega
          rw [cutV_to a0, cutV_from (by omega), take_min, drop_min, e1, List.map_append, List.map_append, List.map_take, List.map_drop]
          rfl
        have hq6 : ∀ o, (upd G5 a' o) q5 = some (.tup ((ra.take ai.toNat ++ [pz] ++ ra.drop (ai.toNat + 1)).map V.ref)) := fun o => by
          rw [upd_ne (ne_of_none hq5 ha'), hq5, ecut]
        have rowsF : ∀ o, RowsH (upd G5 a' o) (ra.take ai.toNat ++ [pz] ++ ra.drop (ai.toNat + 1)) (W.arrows.take ai.toNat ++ [row2] ++ W.arrows.drop (ai.toNat + 1)) := fun o =>
          pr_app (pr_app (pr_take _ (prA.tu (tF o))) (.cons ((fA o).tu _ _ hrow2) .nil)) (pr_drop _ (prA.tu (tF o)))
        have lenF : (W.arrows.take ai.toNat ++ [row2] ++ W.arrows.drop (ai.toNat + 1)).length = W.arrows.length := by
          rw [List.length_append, List.length_append, List.length_take, List.length_drop]
          simp
          omega
        have memF : ∀ row ∈ W.arrows.take ai.toNat ++ [row2] ++ W.arrows.drop (ai.toNat + 1), 2 ≤ row.length ∧ row.length ≤ 10 + (t0 + 1) := fun row hm => by
          rcases List.mem_append.mp hm with hm | hm
          · rcases List.mem_append.mp hm with hm | hm
            · have := hS.ar row (List.mem_of_mem_take hm)
              omega
            · rw [List.mem_singleton.mp hm]
              omega
          · have := hS.ar row (List.mem_of_mem_drop hm)
            omega
        refine k a' _ ⟨W.names, W.arrows.take ai.toNat ++ [row2] ++ W.arrows.drop (ai.toNat + 1), W.sayings⟩ n q5 sa ⟨upd_same, tF _ _ _ W1.nam, ⟨_, hq6 _, rowsF _⟩, W1.say.tu (tF _)⟩ ⟨by show W.names.length ≤ _; omega, hS.nz, by show (_ : List (List Int)).length ≤ _; rw [lenF]; omega, by show W.sayings.length ≤ _; omega, memF, fun row hm => by have := hS.sr row hm; omega⟩ (B10.same (fA _)) (s10'.same (fA _))
      · have B1b := B1.new (o := .tup []) hu
        have s1b := s1.new (o := .tup []) hu
        have W1b := W1.tu (Same.new (o := .tup []) hu).tu
        have hsbb := (Same.new (o := .tup []) hu) _ _ hsb
        have prSb := prS.tu (Same.new (o := .tup []) hu).tu
        generalize eHb : upd H1 u (.tup []) = Hb at B1b s1b W1b hsbb prSb ⊢
        clear hu
        -- the told rows, or one name more
        refine ⟨_, rfl, by decide, fun u hu => ⟨sa, u, W.sayings, rfl, rfl, ⟨sb, (Same.new hu) _ _ hsbb, prSb.tu (Same.new hu).tu⟩, upd_same, _, rfl, ?_⟩⟩
        refine ite2 (fun c2 => ?_) (fun c2 => ?_)
        · have triv := True.intro
          have lenR : (sb.map V.ref).length = W.sayings.length := by rw [List.length_map]; exact Paired.length prSb
          have hpos : 0 < W.sayings.length := pos_of c2
          have tU : Tu Hb (upd Hb u (.tup [])) := (Same.new hu).tu
          refine ⟨_, rfl, _, rfl, sa, _, rfl, .inr (SqT.of (tU _ _ hsbb)), b, c, _, rfl, B1b.new hu, by rw [lenR]; omega, by rw [lenR]; omega, fun ai H3 a0 a1 B3 s3 => ?_⟩
          rw [lenR] at a1
          have t3 : Tu Hb H3 := tU.trans ((B1b.new hu).tu s3)
          have hr3 : H3 sa = some (.tup (sb.map V.ref)) := t3 _ _ hsbb
          have pr3 : RowsH H3 sb W.sayings := prSb.tu t3
          have hlt : ai.toNat < sb.length := by have := Paired.length prSb; omega
          have ep : sb[ai.toNat]? = some sb[ai.toNat] := by simp [hlt]
          obtain ⟨row0, er0, hrow0⟩ := paired_get pr3 ep
          have mr0 : row0 ∈ W.sayings := List.mem_of_getElem? er0
          obtain ⟨rl0, rl1⟩ := hS.sr row0 mr0
          refine ⟨_, rfl, _, rfl, sa, _, _, _, rfl, rfl, SqT.of hr3, ref_at a0 ep, sb[ai.toNat], _, rfl, .inr (SqT.of hrow0), fun RL hRL => ?_⟩
          have nRb : RL ≠ b := B3.ne hRL
          have nRc : RL ≠ c := B3.neC hRL
          have t4 : Tu Hb (upd H3 RL (.lst (row0.map V.int))) := t3.trans (Same.new hRL).tu
          refine ⟨_, rfl, _, rfl, n, _, rfl, .inr (SqT.of (t4 _ _ W1b.nam)), b, c, _, rfl, B3.new hRL, fun v H5 B5 s5 => ?_⟩
          have g5 : H5 RL = some (.lst (row0.map V.int)) := s5 _ _ upd_same nRb
          refine ⟨_, rfl, _, rfl, _, rfl, RL, _, rfl, .inl (SqL.of g5), b, c, _, rfl, B5, by rw [List.length_map]; omega, by rw [List.length_map]; omega, fun j H6 j0 j1 B6 s6 => ?_⟩
          have g6 : H6 RL = some (.lst (row0.map V.int)) := s6 _ _ g5 nRb
          refine ⟨RL, _, _, _, rfl, rfl, g6, ixN_nat j0 j1, ?_⟩
          obtain ⟨row1, er1, el1⟩ : ∃ row1 : List Int, (row0.map V.int).set j.toNat (.int v) = row1.map V.int ∧ row1.length = row0.length := ⟨row0.set j.toNat v, by rw [List.map_set], by rw [List.length_set]⟩
          rw [er1]
          have sH7 : SameB b (upd H3 RL (.lst (row0.map V.int))) H6 := s5.trans s6
          have t7 : Tu Hb (upd H6 RL (.lst (row1.map V.int))) := (t4.trans ((B3.new hRL).tu sH7)).trans (Tu.put g6)
          have B7 : Bag (upd H6 RL (.lst (row1.map V.int))) b c := B6.put nRb nRc
          have hRL0 : H RL = none := (s1b.trans (((SameB.refl b Hb).new hu).trans s3)).free nRb hRL
          have s7 : SameB b H (upd H6 RL (.lst (row1.map V.int))) := ((s1b.trans (((SameB.refl b Hb).new hu).trans s3)).trans (((SameB.refl b H3).new hRL).trans sH7)).updNew hRL0
          generalize eH7 : upd H6 RL (.lst (row1.map V.int)) = H7 at t7 B7 s7 ⊢
          have g7 : H7 RL = some (.lst (row1.map V.int)) := by rw [← eH7]; exact upd_same
          refine ⟨_, rfl, RL, _, rfl, .inl ⟨SqL.of g7, fun p1 hp1 => ?_⟩⟩
          refine ⟨_, rfl, _, rfl, RL, _, rfl, SqL.of ((Same.new hp1) _ _ g7), fun l2 hl2 => ⟨l2, _, rfl, .inl ⟨SqL.of upd_same, fun p2 hp2 => ?_⟩⟩⟩
          refine ⟨_, rfl, (by show 1 ≤ sizeLine; decide), fun l3 hl3 => ?_⟩
          have sA : Same H7 (upd (upd (upd (upd H7 p1 (.tup (row1.map V.int))) l2 (.lst (cutV (row1.map V.int) none (some 2)))) p2 (.tup (cutV (row1.map V.int) none (some 2)))) l3 (.lst [.int 0])) := (((Same.new hp1).new2 hl2).new2 hp2).new2 hl3
          refine ⟨RL, l3, _, _, rfl, rfl, sA _ _ g7, upd_same, by rw [List.length_map]; show row1.length + 1 ≤ sizeLine; omega, fun l4 hl4 => ⟨l4, _, rfl, .inl ⟨SqL.of upd_same, fun p3 hp3 => ?_⟩⟩⟩
          refine ⟨(by show 3 ≤ sizeLine; decide), fun LL hLL => ?_⟩
          have sB : Same (upd (upd (upd (upd H7 p1 (.tup (row1.map V.int))) l2 (.lst (cutV (row1.map V.int) none (some 2)))) p2 (.tup (cutV (row1.map V.int) none (some 2)))) l3 (.lst [.int 0])) _ := ((Same.new (o := .lst (row1.map V.int ++ [.int 0])) hl4).new2 (o := .tup (row1.map V.int ++ [.int 0])) hp3).new2 (o := .lst [.ref p1, .ref p2, .ref p3]) hLL
          have k1 := sB _ _ ((((Same.new (o := .lst (cutV (row1.map V.int) none (some 2))) hl2).new2 hp2).new2 hl3) p1 _ upd_same)
          have k2 := sB _ _ ((Same.new (o := .lst [.int 0]) hl3) p2 _ upd_same)
          have k3 := (Same.new (o := .lst [.ref p1, .ref p2, .ref p3]) hLL) p3 _ upd_same
          have sC := sA.trans sB
          have kL : (upd (upd (upd (upd (upd (upd (upd H7 p1 (.tup (row1.map V.int))) l2 (.lst (cutV (row1.map V.int) none (some 2)))) p2 (.tup (cutV (row1.map V.int) none (some 2)))) l3 (.lst [.int 0])) l4 (.lst (row1.map V.int ++ [.int 0]))) p3 (.tup (row1.map V.int ++ [.int 0]))) LL (.lst [.ref p1, .ref p2, .ref p3])) LL = some (.lst [.ref p1, .ref p2, .ref p3]) := upd_same
          generalize eH8 : upd (upd (upd (upd (upd (upd (upd H7 p1 (.tup (row1.map V.int))) l2 (.lst (cutV (row1.map V.int) none (some 2)))) p2 (.tup (cutV (row1.map V.int) none (some 2)))) l3 (.lst [.int 0])) l4 (.lst (row1.map V.int ++ [.int 0]))) p3 (.tup (row1.map V.int ++ [.int 0]))) LL (.lst [.ref p1, .ref p2, .ref p3]) = H8 at k1 k2 k3 sC kL ⊢
          have B8 : Bag H8 b c := B7.same sC
          have nLb : LL ≠ b := fun e => by
            obtain ⟨_, _, _, _, hb8, _⟩ := B8
            rw [e, hb8] at kL
            have := HO.lst.inj (Option.some.inj kL)
            simp at this
          refine ⟨_, rfl, b, c, 5, rfl, B8, by decide, by decide, fun x1 H9 x10 x11 B9 s9 => ?_⟩
          refine ⟨_, _, rfl, rfl, (by show (0 : Int) < 3; decide), _, rfl, b, c, 3, rfl, B9, by decide, by decide, fun x2 H10 x20 x21 B10 s10 => ?_⟩
          obtain ⟨pz, epz, hat⟩ := pick3 (p1 := p1) (p2 := p2) (p3 := p3) (x1 := x1) (x2 := x2)
          refine ⟨rfl, .inr ⟨_, rfl, _, _, rfl, rfl, cmul_mod (by decide) (by decide), LL, _, _, _, rfl, rfl, SqL.of (s10 _ _ (s9 _ _ kL nLb) nLb), hat, ?_⟩⟩
          have t8 : Tu H7 H8 := sC.tu
          have t10 : Tu H8 H10 := (B8.tu s9).trans (B9.tu s10)
          obtain ⟨row2, hrow2, rl2⟩ : ∃ row2 : List Int, RowH H10 pz row2 ∧ 2 ≤ row2.length ∧ row2.length ≤ row0.length + 1 := by
            rcases epz with e | e | e
            · rw [e]
              exact ⟨row1, t10 _ _ k1, by omega, by omega⟩
            · rw [e]
              refine ⟨row1.take 2, ?_, ?_⟩
              · have := t10 _ _ k2
                rw [cutV_to (by decide), take_min, ← List.map_take] at this
                exact this
              · rw [List.length_take]
                omega
            · rw [e]
              refine ⟨row1 ++ [0], ?_, by rw [List.length_append]; simp; omega⟩
              have := t10 _ _ k3
              unfold RowH
              rw [List.map_append]
              exact this
          have tA : Tu Hb H10 := (t7.trans t8).trans t10
          have hrA : H10 sa = some (.tup (sb.map V.ref)) := tA _ _ hsbb
          have s10' : SameB b H H10 := (s7.same sC).trans (s9.trans s10)
          refine ⟨_, rfl, _, rfl, ?_⟩
          refine ⟨_, rfl, _, rfl, _, rfl, sa, _, rfl, hrA, fun q1 G1 e1 hq1 => ?_⟩
          refine ⟨_, rfl, (by show 1 ≤ sizeLine; decide), fun q2 hq2 => ⟨q1, q2, _, _, rfl, rfl, (Same.new hq2) _ _ hq1, upd_same, ?_, fun q3 G3 e3 hq3 => ?_⟩⟩
          · have := cutV_length (sb.map V.ref) none (some ai)
            show _ + 1 ≤ sizeLine
            omega
          have f3 : Same H10 G3 := (e1.new2 hq2).trans e3
          refine ⟨_, rfl, _, rfl, _, _, rfl, rfl, _, rfl, sa, _, rfl, f3 _ _ hrA, fun q4 G4 e4 hq4 => ⟨q3, q4, _, _, rfl, rfl, e4 _ _ hq3, hq4, ?_, fun q5 G5 e5 hq5 => ?_⟩⟩
          · have h1 := cutV_length (sb.map V.ref) none (some ai)
            have h2 := cutV_length (sb.map V.ref) (some (ai + 1)) none
            rw [List.length_append]
            show (_ + 1) + _ ≤ sizeLine
            omega
          have f5 : Same H10 G5 := (f3.trans e4).trans e5
          refine ⟨(by show 3 ≤ sizeLine; decide), fun a' ha' => ?_⟩
          have fA : ∀ o, Same H10 (upd G5 a' o) := fun o => f5.new2 ha'
          have tF : ∀ o, Tu Hb (upd G5 a' o) := fun o => tA.trans (fA o).tu
          have ecut : cutV (sb.map V.ref) none (some ai) ++ [.ref pz] ++ cutV (sb.map V.ref) (some (ai + 1)) none = (sb.take ai.toNat ++ [pz] ++ sb.drop (ai.toNat + 1)).map V.ref := by
            have e1 : (ai + 1).toNat = ai.toNat + 1 := by omega
            rw [cutV_to a0, cutV_from (by omega), take_min, drop_min, e1, List.map_append, List.map_append, List.map_take, List.map_drop]
            rfl
          have hq6 : ∀ o, (upd G5 a' o) q5 = some (.tup ((sb.take ai.toNat ++ [pz] ++ sb.drop (ai.toNat + 1)).map V.ref)) := fun o => by
            rw [upd_ne (ne_of_none hq5 ha'), hq5, ecut]
          have rowsF : ∀ o, RowsH (upd G5 a' o) (sb.take ai.toNat ++ [pz] ++ sb.drop (ai.toNat + 1)) (W.sayings.take ai.toNat ++ [row2] ++ W.sayings.drop (ai.toNat + 1)) := fun o =>
            pr_app (pr_app (pr_take _ (prSb.tu (tF o))) (.cons ((fA o).tu _ _ hrow2) .nil)) (pr_drop _ (prSb.tu (tF o)))
          have lenF : (W.sayings.take ai.toNat ++ [row2] ++ W.sayings.drop (ai.toNat + 1)).length = W.sayings.length := by
            rw [List.length_append, List.length_append, List.length_take, List.length_drop]
            simp
            omega
          have memF : ∀ row ∈ W.sayings.take ai.toNat ++ [row2] ++ W.sayings.drop (ai.toNat + 1), 2 ≤ row.length ∧ row.length ≤ 10 + (t0 + 1) := fun row hm => by
            rcases List.mem_append.mp hm with hm | hm
            · rcases List.mem_append.mp hm with hm | hm
              · have := hS.sr row (List.mem_of_mem_take hm)
                omega
              · rw [List.mem_singleton.mp hm]
                omega
            · have := hS.sr row (List.mem_of_mem_drop hm)
              omega
          refine k a' _ ⟨W.names, W.arrows, W.sayings.take ai.toNat ++ [row2] ++ W.sayings.drop (ai.toNat + 1)⟩ n r q5 ⟨upd_same, tF _ _ _ W1b.nam, W1b.arr.tu (tF _), ⟨_, hq6 _, rowsF _⟩⟩ ⟨by show W.names.length ≤ _; omega, hS.nz, by show W.arrows.length ≤ _; omega, by show (_ : List (List Int)).length ≤ _; rw [lenF]; omega, fun row hm => by have := hS.ar row hm; omega, memF⟩ (B10.same (fA _)) (s10'.same (fA _))
        · refine ⟨_, rfl, (by show 1 ≤ sizeLine; decide), fun v hv => ⟨n, v, _, _, rfl, rfl, (Same.new hv) _ _ ((Same.new hu) _ _ W1b.nam), upd_same, by rw [List.length_map]; show _ + 1 ≤ sizeLine; omega, fun p2 G2 t2 hp2 => ?_⟩⟩
          refine ⟨_, rfl, _, rfl, (by show 3 ≤ sizeLine; decide), fun a' ha' => ?_⟩
          have sF : ∀ o, Same Hb (upd G2 a' o) := fun o => (((Same.new hu).new2 hv).trans t2).new2 ha'
          refine k a' _ ⟨W.names ++ [("abcdefg" : Str)], W.arrows, W.sayings⟩ p2 r sa ⟨upd_same, ?_, W1b.arr.tu (sF _).tu, W1b.say.tu (sF _).tu⟩ (sm1 ?_ (fun z hz => ?_) rfl rfl) (B1b.same (sF _)) (s1b.same (sF _))
          · rw [upd_ne (ne_of_none hp2 ha'), hp2, List.map_append]
            rfl
          · show (W.names ++ [_]).length ≤ _
            rw [List.length_append]
            show W.names.length + 1 ≤ _
            omega
          · rcases List.mem_append.mp hz with hz | hz
            · exact hS.nz z hz
            · rw [List.mem_singleton.mp hz]
              decide
    · show if false = true then _ else _
      rw [if_neg Bool.false_ne_true]
      -- the told rows, or one name more
      refine ⟨_, rfl, by decide, fun u hu => ⟨sa, u, W.sayings, rfl, rfl, ⟨sb, (Same.new hu) _ _ hsb, prS.tu (Same.new hu).tu⟩, upd_same, _, rfl, ?_⟩⟩
      refine ite2 (fun c2 => ?_) (fun c2 => ?_)
      · have triv := True.intro
        have lenR : (sb.map V.ref).length = W.sayings.length := by rw [List.length_map]; exact Paired.length prS
        have hpos : 0 < W.sayings.length := pos_of c2
        have tU : Tu H1 (upd H1 u (.tup [])) := (Same.new hu).tu
        refine ⟨_, rfl, _, rfl, sa, _, rfl, .inr (SqT.of (tU _ _ hsb)), b, c, _, rfl, B1.new hu, by rw [lenR]; omega, by rw [lenR]; omega, fun ai H3 a0 a1 B3 s3 => ?_⟩
        rw [lenR] at a1
        have t3 : Tu H1 H3 := tU.trans ((B1.new hu).tu s3)
        have hr3 : H3 sa = some (.tup (sb.map V.ref)) := t3 _ _ hsb
        have pr3 : RowsH H3 sb W.sayings := prS.tu t3
        have hlt : ai.toNat < sb.length := by have := Paired.length prS; omega
        have ep : sb[ai.toNat]? = some sb[ai.toNat] := by simp [hlt]
        obtain ⟨row0, er0, hrow0⟩ := paired_get pr3 ep
        have mr0 : row0 ∈ W.sayings := List.mem_of_getElem? er0
        obtain ⟨rl0, rl1⟩ := hS.sr row0 mr0
        refine ⟨_, rfl, _, rfl, sa, _, _, _, rfl, rfl, SqT.of hr3, ref_at a0 ep, sb[ai.toNat], _, rfl, .inr (SqT.of hrow0), fun RL hRL => ?_⟩
        have nRb : RL ≠ b := B3.ne hRL
        have nRc : RL ≠ c := B3.neC hRL
        have t4 : Tu H1 (upd H3 RL (.lst (row0.map V.int))) := t3.trans (Same.new hRL).tu
        refine ⟨_, rfl, _, rfl, n, _, rfl, .inr (SqT.of (t4 _ _ W1.nam)), b, c, _, rfl, B3.new hRL, fun v H5 B5 s5 => ?_⟩
        have g5 : H5 RL = some (.lst (row0.map V.int)) := s5 _ _ upd_same nRb
        refine ⟨_, rfl, _, rfl, _, rfl, RL, _, rfl, .inl (SqL.of g5), b, c, _, rfl, B5, by rw [List.length_map]; omega, by rw [List.length_map]; omega, fun j H6 j0 j1 B6 s6 => ?_⟩
        have g6 : H6 RL = some (.lst (row0.map V.int)) := s6 _ _ g5 nRb
        refine ⟨RL, _, _, _, rfl, rfl, g6, ixN_nat j0 j1, ?_⟩
        obtain ⟨row1, er1, el1⟩ : ∃ row1 : List Int, (row0.map V.int).set j.toNat (.int v) = row1.map V.int ∧ row1.length = row0.length := ⟨row0.set j.toNat v, by rw [List.map_set], by rw [List.length_set]⟩
        rw [er1]
        have sH7 : SameB b (upd H3 RL (.lst (row0.map V.int))) H6 := s5.trans s6
        have t7 : Tu H1 (upd H6 RL (.lst (row1.map V.int))) := (t4.trans ((B3.new hRL).tu sH7)).trans (Tu.put g6)
        have B7 : Bag (upd H6 RL (.lst (row1.map V.int))) b c := B6.put nRb nRc
        have hRL0 : H RL = none := (s1.trans (((SameB.refl b H1).new hu).trans s3)).free nRb hRL
        have s7 : SameB b H (upd H6 RL (.lst (row1.map V.int))) := ((s1.trans (((SameB.refl b H1).new hu).trans s3)).trans (((SameB.refl b H3).new hRL).trans sH7)).updNew hRL0
        generalize eH7 : upd H6 RL (.lst (row1.map V.int)) = H7 at t7 B7 s7 ⊢
        have g7 : H7 RL = some (.lst (row1.map V.int)) := by rw [← eH7]; exact upd_same
        refine ⟨_, rfl, RL, _, rfl, .inl ⟨SqL.of g7, fun p1 hp1 => ?_⟩⟩
        refine ⟨_, rfl, _, rfl, RL, _, rfl, SqL.of ((Same.new hp1) _ _ g7), fun l2 hl2 => ⟨l2, _, rfl, .inl ⟨SqL.of upd_same, fun p2 hp2 => ?_⟩⟩⟩
        refine ⟨_, rfl, (by show 1 ≤ sizeLine; decide), fun l3 hl3 => ?_⟩
        have sA : Same H7 (upd (upd (upd (upd H7 p1 (.tup (row1.map V.int))) l2 (.lst (cutV (row1.map V.int) none (some 2)))) p2 (.tup (cutV (row1.map V.int) none (some 2)))) l3 (.lst [.int 0])) := (((Same.new hp1).new2 hl2).new2 hp2).new2 hl3
        refine ⟨RL, l3, _, _, rfl, rfl, sA _ _ g7, upd_same, by rw [List.length_map]; show row1.length + 1 ≤ sizeLine; omega, fun l4 hl4 => ⟨l4, _, rfl, .inl ⟨SqL.of upd_same, fun p3 hp3 => ?_⟩⟩⟩
        refine ⟨(by show 3 ≤ sizeLine; decide), fun LL hLL => ?_⟩
        have sB : Same (upd (upd (upd (upd H7 p1 (.tup (row1.map V.int))) l2 (.lst (cutV (row1.map V.int) none (some 2)))) p2 (.tup (cutV (row1.map V.int) none (some 2)))) l3 (.lst [.int 0])) _ := ((Same.new (o := .lst (row1.map V.int ++ [.int 0])) hl4).new2 (o := .tup (row1.map V.int ++ [.int 0])) hp3).new2 (o := .lst [.ref p1, .ref p2, .ref p3]) hLL
        have k1 := sB _ _ ((((Same.new (o := .lst (cutV (row1.map V.int) none (some 2))) hl2).new2 hp2).new2 hl3) p1 _ upd_same)
        have k2 := sB _ _ ((Same.new (o := .lst [.int 0]) hl3) p2 _ upd_same)
        have k3 := (Same.new (o := .lst [.ref p1, .ref p2, .ref p3]) hLL) p3 _ upd_same
        have sC := sA.trans sB
        have kL : (upd (upd (upd (upd (upd (upd (upd H7 p1 (.tup (row1.map V.int))) l2 (.lst (cutV (row1.map V.int) none (some 2)))) p2 (.tup (cutV (row1.map V.int) none (some 2)))) l3 (.lst [.int 0])) l4 (.lst (row1.map V.int ++ [.int 0]))) p3 (.tup (row1.map V.int ++ [.int 0]))) LL (.lst [.ref p1, .ref p2, .ref p3])) LL = some (.lst [.ref p1, .ref p2, .ref p3]) := upd_same
        generalize eH8 : upd (upd (upd (upd (upd (upd (upd H7 p1 (.tup (row1.map V.int))) l2 (.lst (cutV (row1.map V.int) none (some 2)))) p2 (.tup (cutV (row1.map V.int) none (some 2)))) l3 (.lst [.int 0])) l4 (.lst (row1.map V.int ++ [.int 0]))) p3 (.tup (row1.map V.int ++ [.int 0]))) LL (.lst [.ref p1, .ref p2, .ref p3]) = H8 at k1 k2 k3 sC kL ⊢
        have B8 : Bag H8 b c := B7.same sC
        have nLb : LL ≠ b := fun e => by
          obtain ⟨_, _, _, _, hb8, _⟩ := B8
          rw [e, hb8] at kL
          have := HO.lst.inj (Option.some.inj kL)
          simp at this
        refine ⟨_, rfl, b, c, 5, rfl, B8, by decide, by decide, fun x1 H9 x10 x11 B9 s9 => ?_⟩
        refine ⟨_, _, rfl, rfl, (by show (0 : Int) < 3; decide), _, rfl, b, c, 3, rfl, B9, by decide, by decide, fun x2 H10 x20 x21 B10 s10 => ?_⟩
        obtain ⟨pz, epz, hat⟩ := pick3 (p1 := p1) (p2 := p2) (p3 := p3) (x1 := x1) (x2 := x2)
        refine ⟨rfl, .inr ⟨_, rfl, _, _, rfl, rfl, cmul_mod (by decide) (by decide), LL, _, _, _, rfl, rfl, SqL.of (s10 _ _ (s9 _ _ kL nLb) nLb), hat, ?_⟩⟩
        have t8 : Tu H7 H8 := sC.tu
        have t10 : Tu H8 H10 := (B8.tu s9).trans (B9.tu s10)
        obtain ⟨row2, hrow2, rl2⟩ : ∃ row2 : List Int, RowH H10 pz row2 ∧ 2 ≤ row2.length ∧ row2.length ≤ row0.length + 1 := by
          rcases epz with e | e | e
          · rw [e]
            exact ⟨row1, t10 _ _ k1, by omega, by omega⟩
          · rw [e]
            refine ⟨row1.take 2, ?_, ?_⟩
            · have := t10 _ _ k2
              rw [cutV_to (by decide), take_min, ← List.map_take] at this
              exact this
            · rw [List.length_take]
              omega
          · rw [e]
            refine ⟨row1 ++ [0], ?_, by rw [List.length_append]; simp; omega⟩
            have := t10 _ _ k3
            unfold RowH
            rw [List.map_append]
            exact this
        have tA : Tu H1 H10 := (t7.trans t8).trans t10
        have hrA : H10 sa = some (.tup (sb.map V.ref)) := tA _ _ hsb
        have s10' : SameB b H H10 := (s7.same sC).trans (s9.trans s10)
        refine ⟨_, rfl, _, rfl, ?_⟩
        refine ⟨_, rfl, _, rfl, _, rfl, sa, _, rfl, hrA, fun q1 G1 e1 hq1 => ?_⟩
        refine ⟨_, rfl, (by show 1 ≤ sizeLine; decide), fun q2 hq2 => ⟨q1, q2, _, _, rfl, rfl, (Same.new hq2) _ _ hq1, upd_same, ?_, fun q3 G3 e3 hq3 => ?_⟩⟩
        · have := cutV_length (sb.map V.ref) none (some ai)
          show _ + 1 ≤ sizeLine
          omega
        have f3 : Same H10 G3 := (e1.new2 hq2).trans e3
        refine ⟨_, rfl, _, rfl, _, _, rfl, rfl, _, rfl, sa, _, rfl, f3 _ _ hrA, fun q4 G4 e4 hq4 => ⟨q3, q4, _, _, rfl, rfl, e4 _ _ hq3, hq4, ?_, fun q5 G5 e5 hq5 => ?_⟩⟩
        · have h1 := cutV_length (sb.map V.ref) none (some ai)
          have h2 := cutV_length (sb.map V.ref) (some (ai + 1)) none
          rw [List.length_append]
          show (_ + 1) + _ ≤ sizeLine
          omega
        have f5 : Same H10 G5 := (f3.trans e4).trans e5
        refine ⟨(by show 3 ≤ sizeLine; decide), fun a' ha' => ?_⟩
        have fA : ∀ o, Same H10 (upd G5 a' o) := fun o => f5.new2 ha'
        have tF : ∀ o, Tu H1 (upd G5 a' o) := fun o => tA.trans (fA o).tu
        have ecut : cutV (sb.map V.ref) none (some ai) ++ [.ref pz] ++ cutV (sb.map V.ref) (some (ai + 1)) none = (sb.take ai.toNat ++ [pz] ++ sb.drop (ai.toNat + 1)).map V.ref := by
          have e1 : (ai + 1).toNat = ai.toNat + 1 := by omega
          rw [cutV_to a0, cutV_from (by omega), take_min, drop_min, e1, List.map_append, List.map_append, List.map_take, List.map_drop]
          rfl
        have hq6 : ∀ o, (upd G5 a' o) q5 = some (.tup ((sb.take ai.toNat ++ [pz] ++ sb.drop (ai.toNat + 1)).map V.ref)) := fun o => by
          rw [upd_ne (ne_of_none hq5 ha'), hq5, ecut]
        have rowsF : ∀ o, RowsH (upd G5 a' o) (sb.take ai.toNat ++ [pz] ++ sb.drop (ai.toNat + 1)) (W.sayings.take ai.toNat ++ [row2] ++ W.sayings.drop (ai.toNat + 1)) := fun o =>
          pr_app (pr_app (pr_take _ (prS.tu (tF o))) (.cons ((fA o).tu _ _ hrow2) .nil)) (pr_drop _ (prS.tu (tF o)))
        have lenF : (W.sayings.take ai.toNat ++ [row2] ++ W.sayings.drop (ai.toNat + 1)).length = W.sayings.length := by
          rw [List.length_append, List.length_append, List.length_take, List.length_drop]
          simp
          omega
        have memF : ∀ row ∈ W.sayings.take ai.toNat ++ [row2] ++ W.sayings.drop (ai.toNat + 1), 2 ≤ row.length ∧ row.length ≤ 10 + (t0 + 1) := fun row hm => by
          rcases List.mem_append.mp hm with hm | hm
          · rcases List.mem_append.mp hm with hm | hm
            · have := hS.sr row (List.mem_of_mem_take hm)
              omega
            · rw [List.mem_singleton.mp hm]
              omega
          · have := hS.sr row (List.mem_of_mem_drop hm)
            omega
        refine k a' _ ⟨W.names, W.arrows, W.sayings.take ai.toNat ++ [row2] ++ W.sayings.drop (ai.toNat + 1)⟩ n r q5 ⟨upd_same, tF _ _ _ W1.nam, W1.arr.tu (tF _), ⟨_, hq6 _, rowsF _⟩⟩ ⟨by show W.names.length ≤ _; omega, hS.nz, by show W.arrows.length ≤ _; omega, by show (_ : List (List Int)).length ≤ _; rw [lenF]; omega, fun row hm => by have := hS.ar row hm; omega, memF⟩ (B10.same (fA _)) (s10'.same (fA _))
      · refine ⟨_, rfl, (by show 1 ≤ sizeLine; decide), fun v hv => ⟨n, v, _, _, rfl, rfl, (Same.new hv) _ _ ((Same.new hu) _ _ W1.nam), upd_same, by rw [List.length_map]; show _ + 1 ≤ sizeLine; omega, fun p2 G2 t2 hp2 => ?_⟩⟩
        refine ⟨_, rfl, _, rfl, (by show 3 ≤ sizeLine; decide), fun a' ha' => ?_⟩
        have sF : ∀ o, Same H1 (upd G2 a' o) := fun o => (((Same.new hu).new2 hv).trans t2).new2 ha'
        refine k a' _ ⟨W.names ++ [("abcdefg" : Str)], W.arrows, W.sayings⟩ p2 r sa ⟨upd_same, ?_, W1.arr.tu (sF _).tu, W1.say.tu (sF _).tu⟩ (sm1 ?_ (fun z hz => ?_) rfl rfl) (B1.same (sF _)) (s1.same (sF _))
        · rw [upd_ne (ne_of_none hp2 ha'), hp2, List.map_append]
          rfl
        · show (W.names ++ [_]).length ≤ _
          rw [List.length_append]
          show W.names.length + 1 ≤ _
          omega
        · rcases List.mem_append.mp hz with hz | hz
          · exact hS.nz z hz
          · rw [List.mem_singleton.mp hz]
            decide
end

end W1

set_option Elab.async false
set_option linter.all false
set_option maxRecDepth 100000
set_option maxHeartbeats 1000000
namespace W1
open PySem PySem.Spec PyProof.Rows L2
section
variable {P : Program} {w : World} {K : PySem.W.Frag} {mg : Str → Option Value} {base : Heap} {t : Ad}
theorem ok_bag (T : Txt K mg t) : FnOk P w K mg base CX0 1 t.f__law_bag t.d__law_bag ["_law_script"] (spBag K) := by
  refine T.F__law_bag.ok sc__law_bag (fun vs H Q E h => ?_) (fun cdv A outer s H vs Q E hr h => ?_)
  · obtain ⟨a, ns, rfl, _⟩ := h
    rfl
  · obtain ⟨a, ns, rfl, hS, hlen, k⟩ := h
    have nd := sc__law_bag.nd
    have sb := sl_big
    refine ⟨_, (pss_cons (ps_setLc (i := 1) (own := [("_law_one", 2)]) (g := (gName 2)) (by rfl) nd rfl rfl (sw_true rfl rfl rfl (by decide +kernel)) (pi_list (pe_slice sl_list (pv 0) po_none (po_some pe_int))) (blkOk_by (own := [("_law_one", 2)]) (N := ["_law_script", "_law_cells", "_law_one", "_law_salt"]) (sc := defScope s__law_bag) (by decide +kernel)) (fun _ _ _ _ _ => (pg_name (i := 2) nd rfl (Or.inl rfl))) (fun _ _ _ _ _ => pts_nil) (fun _ _ _ _ _ => (pe_callB call_abs (by rfl) T.b_abs (by decide +kernel) (pa_cons (pv 2) pa_nil))))
      (pss_cons (ps_set (i := 3) nd rfl (Or.inl rfl) (pe_op op_add pe_int (pe_callB call_len_seq (by rfl) T.b_len (by decide +kernel) (pa_cons (pv 1) pa_nil))))
      (pss_cons (ps_for PassesOwn.never rfl (pi_list (pe_slice sl_list (pv 0) po_none (po_some pe_int))) (pg_name (i := 2) nd rfl (Or.inl rfl))
      (pss_one (ps_set (i := 3) nd rfl (Or.inl rfl) (pe_op op_mod (pe_op op_add (pe_op op_add (pe_op op_mul (pv 3) pe_int) (pe_callB call_abs (by rfl) T.b_abs (by decide +kernel) (pa_cons (pv 2) pa_nil))) (pe_op op_mul pe_int (pe_callTy call_int1 (by rfl) T.b_int (by decide +kernel) (pa_cons (pe_cmpR op_lt (pv 2) pe_int (nomark _)) pa_nil)))) pe_int))))
      (pss_one (ps_ret (pe_lst (pa_cons (pv 1) (pa_cons pe_int (pa_cons pe_int (pa_cons (pv 3) pa_nil)))))))))), ?_⟩
    have ecut : cutV (ns.map V.int) none (some 63) = (ns.take 63).map V.int := by
      rw [cutV_to (by decide), take_min, List.map_take]
      rfl
    refine ⟨_, rfl, 63, rfl, a, _, rfl, hS, fun p hp => ⟨p, rfl, ⟨_, SqL.of upd_same⟩, fun D hD => ?_⟩⟩
    rw [ecut] at hD ⊢
    have nDp : D ≠ p := (ne_of_none (H := upd H p (.lst ((ns.take 63).map V.int))) upd_same hD).symm
    have hD0 : H D = none := (Same.new hp).free hD
    refine lc_list (K := K) (a := p) (xs := (ns.take 63).map V.int) (fun i H' => Same H H' ∧ H' p = some (.lst ((ns.take 63).map V.int)) ∧ ∃ cs : List Int, H' D = some (.lst (cs.map V.int)) ∧ cs.length = i) ⟨(Same.new hp).new2 hD, by rw [upd_ne nDp.symm]; exact upd_same, [], upd_same, rfl⟩ (fun i H' _ ⟨_, h, _⟩ => SqL.of h) ?_ ?_
    · rintro i x H' hx ⟨s1, h1, cs, h2, hc⟩
      rw [List.getElem?_map] at hx
      cases e : (ns.take 63)[i]? with
      | none => rw [e] at hx; cases hx
      | some z =>
        rw [e] at hx
        cases hx
        have hi63 : i < 63 := by
          have := (List.getElem?_eq_some_iff.mp e).1
          rw [List.length_take] at this
          omega
        refine ⟨rfl, ?_⟩
        refine ⟨_, rfl, _, rfl, _, h2, by rw [List.length_map]; omega, s1.updNew hD0, by rw [upd_ne nDp.symm]; exact h1, cs ++ [if z < 0 then -z else z], ?_, by simp [hc]⟩
        rw [upd_same, List.map_append]
        rfl
    · rintro H1 ⟨s1, h1, cs, h2, hc⟩
      refine ⟨_, rfl, D, _, rfl, .inl (SqL.of h2), _, _, rfl, rfl, ?_⟩
      refine ⟨_, rfl, 63, rfl, a, _, rfl, s1.seq hS, fun p2 hp2 => ⟨p2, rfl, ⟨_, SqL.of upd_same⟩, ?_⟩⟩
      have n2 : p2 ≠ D := (ne_of_none h2 hp2).symm
      refine for_list (K := K) (a := p2) (xs := cutV (ns.map V.int) none (some 63)) (fun i σ H' => ∃ (z : Int) (o : Option V), σ = [some (.ref a), some (.ref D), o, some (.int z)] ∧ Same H H' ∧ H' D = some (.lst (cs.map V.int)) ∧ H' p2 = some (.lst (cutV (ns.map V.int) none (some 63)))) ⟨_, _, rfl, s1.new2 hp2, by rw [upd_ne n2.symm]; exact h2, upd_same⟩ (fun i σ H' _ ⟨_, _, _, _, _, h⟩ => SqL.of h) ?_ ?_
      · rintro i x σ H' hx ⟨z, o, rfl, s3, g1, g2⟩
        rw [ecut, List.getElem?_map] at hx
        cases e : (ns.take 63)[i]? with
        | none => rw [e] at hx; cases hx
        | some y =>
          rw [e] at hx
          cases hx
          refine ⟨_, rfl, _, _, rfl, rfl, .inr ⟨by decide, by decide⟩, _, rfl, _, rfl, _, _, rfl, rfl, _, rfl, _, _, rfl, rfl, .inr ⟨_, rfl, _, _, rfl, rfl, .inl ⟨by decide, by decide⟩, _, _, rfl, rfl, _, _, rfl, rfl, (by show (0 : Int) < 2147483629; decide), ?_⟩⟩
          exact ⟨_, _, rfl, s3, g1, g2⟩
      · rintro σ H' ⟨z, o, rfl, s3, g1, g2⟩
        refine ⟨_, rfl, _, rfl, (by show 4 ≤ sizeLine; decide), fun b hb => ?_⟩
        exact k b D _ ⟨0, 0, z, cs, upd_same, by rw [upd_ne (ne_of_none g1 hb)]; exact g1, ne_of_none g1 hb, by decide⟩ (s3.new2 hb) (s3.free hb)
end

end W1

set_option Elab.async false
set_option linter.all false
set_option maxRecDepth 100000
set_option maxHeartbeats 1000000
namespace W1
open PySem PySem.Spec PyProof.Rows L2
section
variable {σ : L2.St} {H : Hp} {ta tb : TE} {x y : Int}
theorem Is.gt (a : Is ta σ H (.int x)) (b : Is tb σ H (.int y)) : Is (tOp (rI0 fun i j => .bl (decide (j < i))) ta tb) σ H (.bl (decide (y < x))) := fun _ q => a _ (b _ ⟨x, y, rfl, rfl, q⟩)
theorem Is.sub (a : Is ta σ H (.int x)) (b : Is tb σ H (.int y)) : Is (tOp (rI0 fun i j => .int (i - j)) ta tb) σ H (.int (x - y)) := fun _ q => a _ (b _ ⟨x, y, rfl, rfl, q⟩)
end
theorem webB_names {W : Web} (h : namesB W.names = false) : webB W = false := by
  unfold webB
  rw [h, Bool.false_and, Bool.and_false, Bool.and_false]
theorem namesB_bad {ns : List Str} {z : Str} (h : z ∈ ns) (e : nameB z = false) : namesB ns = false := by
  have : ns.all nameB = false := by
    rw [List.all_eq_false]
    exact ⟨z, h, by rw [e]; exact Bool.false_ne_true⟩
  unfold namesB
  rw [this, Bool.and_false, Bool.and_false]
theorem namesB_dup {ns : List Str} {z : Str} {i : Nat} (h : ns[i]? = some z) (m : z ∈ ns.take i) : namesB ns = false := by
  have : ¬ ns.Nodup := fun nd => by
    obtain ⟨j, hj⟩ := List.getElem?_of_mem m
    rw [List.getElem?_take] at hj
    split at hj
    · exact absurd (nd_ix nd hj h) (by omega)
    · cases hj
  unfold namesB
  rw [decide_eq_false this, Bool.false_and, Bool.and_false]
theorem webB_arrow {W : Web} {row : List Int} (h : row ∈ W.arrows) (e : arrowB W.names.length row = false) : webB W = false := by
  have : W.arrows.all (arrowB W.names.length) = false := by
    rw [List.all_eq_false]
    exact ⟨row, h, by rw [e]; exact Bool.false_ne_true⟩
  unfold webB
  rw [this, Bool.false_and, Bool.and_false, Bool.and_false, Bool.and_false]
theorem webB_saying {W : Web} {row : List Int} (h : row ∈ W.sayings) (e : sayingB W.names.length row = false) : webB W = false := by
  have : W.sayings.all (sayingB W.names.length) = false := by
    rw [List.all_eq_false]
    exact ⟨row, h, by rw [e]; exact Bool.false_ne_true⟩
  unfold webB
  rw [this, Bool.and_false, Bool.and_false, Bool.and_false, Bool.and_false]
theorem inV_strs (z : Str) (l : List Str) : inV (.str z) (l.map V.str) = decide (z ∈ l) := by
  unfold inV
  rw [List.any_map]
  by_cases h : z ∈ l
  · rw [decide_eq_true h]
    exact List.any_eq_true.mpr ⟨z, h, by simp [eqV]⟩
  · rw [decide_eq_false h]
    rw [List.any_eq_false]
    intro y hy e
    have : y = z := by simpa [eqV] using e
    exact h (this ▸ hy)
theorem flat_strs (l : List Str) : (l.map V.str).all flatV = true := by
  rw [List.all_map, List.all_eq_true]
  intro z _
  rfl
theorem row_at {row : List Int} {j : Nat} (h : j < row.length) : atI (row.map V.int) (j : Int) = some (.int (row.getD j 0)) := by
  refine atI_nat ?_
  rw [List.getElem?_map, List.getD_eq_getElem?_getD]
  have : row[j]? = some row[j] := by simp [h]
  rw [this]
  rfl
theorem arrowB_get {n : Nat} {row : List Int} (h : row.length = 4) : arrowB n row = (((decide (0 ≤ row.getD 0 0) && decide (row.getD 0 0 < n)) && (decide (0 ≤ row.getD 1 0) && decide (row.getD 1 0 < n))) && ((decide (1 ≤ row.getD 2 0) && decide (row.getD 2 0 ≤ 3)) && (decide (1 ≤ row.getD 3 0) && decide (row.getD 3 0 ≤ 9)))) := by
  match row, h with
  | [a, b, l, w], _ => rfl
theorem arrowB_no {n : Nat} {row : List Int} (h : row.length ≠ 4) : arrowB n row = false := by
  unfold arrowB
  split
  · exact absurd rfl h
  · rfl
theorem sayingB_get {n : Nat} {row : List Int} (h : row.length = 3) : sayingB n row = (((decide (0 ≤ row.getD 0 0) && decide (row.getD 0 0 < n)) && (decide (0 ≤ row.getD 1 0) && decide (row.getD 1 0 < n))) && ((!decide (row.getD 0 0 = row.getD 1 0)) && (decide (0 - 9 ≤ row.getD 2 0) && decide (row.getD 2 0 ≤ 9)))) := by
  match row, h with
  | [a, b, l], _ => rfl
theorem sayingB_no {n : Nat} {row : List Int} (h : row.length ≠ 3) : sayingB n row = false := by
  unfold sayingB
  split
  · exact absurd rfl h
  · rfl
theorem all_take_succ {α : Type} {l : List α} {f : α → Bool} {i : Nat} {x : α} (h : l[i]? = some x) (a : (l.take i).all f = true) (b : f x = true) : (l.take (i + 1)).all f = true := by
  rw [List.take_succ, h, List.all_append, a]
  simp [b]
section
variable {P : Program} {w : World} {K : PySem.W.Frag} {mg : Str → Option Value} {base : Heap} {t : Ad}
theorem ok_good (T : Txt K mg t) : FnOk P w K mg base CX0 1 t.f__law_good_web t.d__law_good_web ["_law_web"] (spWeb K) := by
  refine T.F__law_good_web.ok sc__law_good_web (fun vs H Q E h => ?_) (fun cdv A outer s H vs Q E hr h => ?_)
  · obtain ⟨a, W, rfl, _⟩ := h
    rfl
  · obtain ⟨a, W, rfl, ⟨n, r, sa, ha, hn, ⟨ra, hra, pra⟩, ⟨sb, hsb, psb⟩⟩, ⟨hl, hz⟩, k⟩ := h
    have nd := sc__law_good_web.nd
    have l1 : (ra.map V.ref).length = W.arrows.length := by rw [List.length_map]; exact Paired.length pra
    have l2 : (sb.map V.ref).length = W.sayings.length := by rw [List.length_map]; exact Paired.length psb
    refine ⟨_, (pss_cons (ps_asg (pv 0) (pg_tup (by rfl) (pgs_cons (pg_name (i := 1) nd rfl (Or.inl rfl)) (pgs_cons (pg_name (i := 2) nd rfl (Or.inl rfl)) (pgs_cons (pg_name (i := 3) nd rfl (Or.inl rfl)) pgs_nil)))))
      (pss_cons (ps_set (i := 4) nd rfl (Or.inl rfl) (pe_callB call_len_seq (by rfl) T.b_len (by decide +kernel) (pa_cons (pv 1) pa_nil)))
      (pss_cons (ps_if (PW.pt (pw_or (pt_cmpR op_gt (pv 4) pe_int (nomark _)) (pw_or (pt_cmpR op_gt (pe_callB call_len_seq (by rfl) T.b_len (by decide +kernel) (pa_cons (pv 2) pa_nil)) pe_int (nomark _)) (pw_or1 (pt_cmpR op_gt (pe_callB call_len_seq (by rfl) T.b_len (by decide +kernel) (pa_cons (pv 3) pa_nil)) pe_int (nomark _)))))) (pss_one (ps_ret pe_bl)) pss_nil)
      (pss_cons (ps_for PassesOwn.never rfl (pi_enumT (by rfl) T.enumerate (pa_cons (pv 1) pa_nil)) (pg_tup (by rfl) (pgs_cons (pg_name (i := 5) nd rfl (Or.inl rfl)) (pgs_cons (pg_name (i := 6) nd rfl (Or.inl rfl)) pgs_nil)))
      (pss_cons (ps_if (PW.pt (pw_or (pt_not (pt_chain op_le op_le pe_int (pe_callB call_len_str (by rfl) T.b_len (by decide +kernel) (pa_cons (pv 6) pa_nil)) pe_int)) (pw_or1 (pt_cmpR op_in_seq (pv 6) (pe_slice sl_tupA (pv 1) po_none (po_some (pv 5))) (by rfl))))) (pss_one (ps_ret pe_bl)) pss_nil)
      (pss_one (ps_if (pt_not (pt_val (pe_callB (cr_all rfl) (by rfl) T.b_all (by decide +kernel) (pa_cons (pe_lc (own := [("_law_sign", 7)]) (g := (gName 7)) (by rfl) nd (pi_str (pv 6)) (blkOk_by (own := [("_law_sign", 7)]) (N := ["_law_web", "_law_names_here", "_law_arrows", "_law_told_now", "_law_many", "_law_at", "_law_name", "_law_sign", "_law_row"]) (sc := defScope s__law_good_web) (by decide +kernel)) (fun _ _ _ _ _ => (pg_name (i := 7) nd rfl (Or.inl rfl))) (fun _ _ _ _ _ => pts_nil) (fun _ _ _ _ _ => (pe_cmpR op_in_sign (pv 7) pe_str (by rfl)))) pa_nil)))) (pss_one (ps_ret pe_bl)) pss_nil))))
      (pss_cons (ps_for PassesOwn.never rfl (pi_tup (pv 2)) (pg_name (i := 8) nd rfl (Or.inl rfl))
      (pss_cons (ps_if (PW.pt (pw_or (pt_cmpR op_ne (pe_callB call_len_seq (by rfl) T.b_len (by decide +kernel) (pa_cons (pv 8) pa_nil)) pe_int (nomark _)) (pw_or1 (pt_not (PW.pt (pw_and (pt_chain op_le op_lt pe_int (pe_ix ix_tup (pv 8) pe_int (fun _ _ => rfl)) (pv 4)) (pw_and1 (pt_chain op_le op_lt pe_int (pe_ix ix_tup (pv 8) pe_int (fun _ _ => rfl)) (pv 4))))))))) (pss_one (ps_ret pe_bl)) pss_nil)
      (pss_one (ps_if (PW.pt (pw_or (pt_not (pt_chain op_le op_le pe_int (pe_ix ix_tup (pv 8) pe_int (fun _ _ => rfl)) pe_int)) (pw_or1 (pt_not (pt_chain op_le op_le pe_int (pe_ix ix_tup (pv 8) pe_int (fun _ _ => rfl)) pe_int))))) (pss_one (ps_ret pe_bl)) pss_nil))))
      (pss_cons (ps_for PassesOwn.never rfl (pi_tup (pv 3)) (pg_name (i := 8) nd rfl (Or.inl rfl))
      (pss_cons (ps_if (PW.pt (pw_or (pt_cmpR op_ne (pe_callB call_len_seq (by rfl) T.b_len (by decide +kernel) (pa_cons (pv 8) pa_nil)) pe_int (nomark _)) (pw_or (pt_not (PW.pt (pw_and (pt_chain op_le op_lt pe_int (pe_ix ix_tup (pv 8) pe_int (fun _ _ => rfl)) (pv 4)) (pw_and1 (pt_chain op_le op_lt pe_int (pe_ix ix_tup (pv 8) pe_int (fun _ _ => rfl)) (pv 4)))))) (pw_or1 (pt_cmpR op_eq (pe_ix ix_tup (pv 8) pe_int (fun _ _ => rfl)) (pe_ix ix_tup (pv 8) pe_int (fun _ _ => rfl)) (nomark _)))))) (pss_one (ps_ret pe_bl)) pss_nil)
      (pss_one (ps_if (pt_not (pt_chain op_le op_le (pe_op op_sub pe_int pe_int) (pe_ix ix_tup (pv 8) pe_int (fun _ _ => rfl)) pe_int)) (pss_one (ps_ret pe_bl)) pss_nil))))
      (pss_one (ps_ret pe_bl)))))))), ?_⟩
    refine ⟨_, rfl, a, _, rfl, ha, rfl, _, _, rfl, _, _, rfl, _, _, rfl, rfl, ?_⟩
    refine ⟨_, rfl, n, _, rfl, .inr hn, ?_⟩
    rw [List.length_map]
    refine rd_if (IsT.or (IsT.test (Is.gt (Is.var rfl) Is.const)) fun _ => IsT.or (IsT.test (Is.gt (Is.lenT (Is.var rfl) hra) Is.const)) fun _ => IsT.test (Is.gt (Is.lenT (Is.var rfl) hsb) Is.const)) (fun e => ?_) (fun e => ?_)
    · rw [l1, l2] at e
      refine Qb (k H (Same.refl H)) ?_
      by_cases q1 : W.arrows.length ≤ 80
      · by_cases q2 : W.sayings.length ≤ 20
        · have q3 : 40 < W.names.length := by
            simp only [Bool.or_eq_true, decide_eq_true_eq] at e
            omega
          refine webB_names ?_
          unfold namesB
          rw [decide_eq_false (by omega), Bool.false_and]
        · unfold webB
          rw [decide_eq_false q2, Bool.false_and, Bool.and_false]
      · unfold webB
        rw [decide_eq_false q1, Bool.false_and]
    · rw [l1, l2] at e
      simp only [Bool.or_eq_false_iff, decide_eq_false_iff_not] at e
      obtain ⟨e1, e2, e3⟩ := e
      have e1' : W.names.length ≤ 40 := by omega
      have e2' : W.arrows.length ≤ 80 := by omega
      have e3' : W.sayings.length ≤ 20 := by omega
      have sl := sl_big
      refine ⟨_, rfl, n, _, rfl, hn, for_enumT (K := K) (a := n) (xs := W.names.map V.str) (fun i σ H' => ∃ o5 o6 : Option V, σ = [some (.ref a), some (.ref n), some (.ref r), some (.ref sa), some (.int W.names.length), o5, o6, none, none] ∧ Same H H' ∧ (W.names.take i).Nodup ∧ (W.names.take i).all nameB = true)
        ⟨none, none, rfl, Same.refl H, List.nodup_nil, rfl⟩ (fun i σ H' _ ⟨_, _, _, s1, _⟩ => s1.seqT hn) ?_ ?_⟩
      · rintro i x σ H' Tp hx ⟨o5, o6, rfl, s1, nd1, al1⟩ hT
        rw [List.getElem?_map] at hx
        cases ez : W.names[i]? with
        | none => rw [ez] at hx; cases hx
        | some z =>
          rw [ez] at hx
          cases hx
          have mz : z ∈ W.names := List.mem_of_getElem? ez
          have hi : i < W.names.length := (List.getElem?_eq_some_iff.mp ez).1
          refine ⟨Tp, _, rfl, SqT.of upd_same, rfl, _, _, rfl, _, _, rfl, rfl, ?_⟩
          have s2 : Same H (upd H' Tp (.tup [.int (i : Nat), .str z])) := s1.new2 hT
          refine ⟨_, rfl, z, rfl, hz z mz, _, _, rfl, rfl, _, rfl, ?_⟩
          refine ite2 (fun c0 => ⟨_, _, rfl, rfl, _, rfl, ?_⟩) (fun c0 => ⟨_, rfl, ?_⟩)
          rotate_left
          · show if true = true then (if true = true then _ else _) else _
            rw [if_pos rfl, if_pos rfl]
            refine Qb (k _ s2) (webB_names (namesB_bad mz ?_))
            unfold nameB
            rw [Bool.eq_false_iff.mpr c0, Bool.false_and, Bool.false_and]
          refine ite2 (fun c1 => iteT ?_) (fun c1 => ?_)
          · refine Qb (k _ s2) (webB_names (namesB_bad mz ?_))
            unfold nameB
            rw [not_t c1, Bool.and_false, Bool.false_and]
          · have c1' : (decide ((1 : Int) ≤ (z.length : Int)) && decide ((z.length : Int) ≤ 6)) = true := by
              rw [c0, not_f (Bool.eq_false_iff.mpr c1)]
              rfl
            refine ⟨_, rfl, _, rfl, _, rfl, _, rfl, n, _, rfl, s2.seqT hn, fun hw => ?_, fun p hp => ?_⟩
            · exfalso
              have := hw.2
              unfold HT.sIx at this
              rw [List.length_map] at this
              simp only [if_neg (show ¬ ((i : Nat) : Int) < 0 by omega)] at this
              omega
            · have ecut : cutV (W.names.map V.str) none (some ((i : Nat) : Int)) = (W.names.take i).map V.str := by
                rw [cutV_to (by omega), take_min, List.map_take]
                congr 1
              rw [ecut]
              have s3 := s2.new2 (o := .tup ((W.names.take i).map V.str)) hp
              refine ⟨p, _, rfl, .inr (SqT.of upd_same), rfl, flat_strs _, _, rfl, ?_⟩
              refine ite2 (fun c2 => ?_) (fun c2 => ?_)
              · refine Qb (k _ s3) (webB_names (namesB_dup ez ?_))
                have c2' : inV (.str z) ((W.names.take i).map V.str) = true := c2
                rw [inV_strs] at c2'
                exact of_decide_eq_true c2'
              · have c2' : inV (.str z) ((W.names.take i).map V.str) = false := Bool.eq_false_iff.mpr c2
                rw [inV_strs] at c2'
                have nz : z ∉ W.names.take i := of_decide_eq_false c2'
                refine ⟨_, rfl, z, rfl, fun D hD => ?_⟩
                have fD : H D = none := s3.free hD
                refine lc_str (x := z) (fun i H' => Same H H' ∧ H' D = some (.lst (((z.cps.toList.take i).map fun c => decide (c ∈ az.cps.toList)).map V.bl))) ⟨s3.new2 hD, upd_same⟩ ?_ ?_
                · rintro i c H' hc ⟨s1, h1⟩
                  refine ⟨rfl, ?_⟩
                  refine ⟨_, rfl, c, _, rfl, rfl, _, h1, acc_len hc (by rw [Array.length_toList]; exact hz z mz), s1.updNew fD, ?_⟩
                  rw [upd_same]
                  exact congrArg (fun l => some (HO.lst l)) (acc_step hc)
                · rintro H4 ⟨s4, h4⟩
                  refine ⟨D, _, rfl, SqL.of h4, _, rfl, ?_⟩
                  have et : z.cps.toList.take z.cps.size = z.cps.toList := List.take_of_length_le (by rw [Array.length_toList]; exact Nat.le_refl _)
                  rw [all_map, et]
                  cases ea : z.cps.toList.all fun c => decide (c ∈ az.cps.toList) with
                  | false =>
                    refine iteT (Qb (k _ s4) (webB_names (namesB_bad mz ?_)))
                    unfold nameB
                    rw [ea, Bool.and_false]
                  | true =>
                    refine iteF ?_
                    refine ⟨_, _, rfl, s4, ?_, all_take_succ ez al1 ?_⟩
                    · rw [List.take_succ, ez]
                      exact nd_snoc nd1 nz
                    · unfold nameB
                      rw [c1', ea]
                      rfl
      · rintro σ H1 ⟨o5, o6, rfl, s1, nd1, al1⟩
        rw [List.length_map, List.take_of_length_le (Nat.le_refl _)] at nd1 al1
        have enb : namesB W.names = true := by
          unfold namesB
          rw [decide_eq_true e1', decide_eq_true nd1, al1]
          rfl
        refine ⟨_, rfl, r, rfl, ⟨_, s1.seqT hra⟩, for_tup (K := K) (a := r) (xs := ra.map V.ref) (fun i σ H' => ∃ o8 : Option V, σ = [some (.ref a), some (.ref n), some (.ref r), some (.ref sa), some (.int W.names.length), o5, o6, none, o8] ∧ H' = H1 ∧ (W.arrows.take i).all (arrowB W.names.length) = true) ⟨none, rfl, rfl, rfl⟩ (fun i σ H' _ ⟨_, _, e, _⟩ => by rw [e]; exact s1.seqT hra) ?_ ?_⟩
        · rintro i x σ H' hx ⟨o8, rfl, rfl, al⟩
          rw [List.getElem?_map] at hx
          cases ep : ra[i]? with
          | none => rw [ep] at hx; cases hx
          | some p =>
            rw [ep] at hx
            cases hx
            obtain ⟨row, er, hrow0⟩ := paired_get pra ep
            have hrow : SqT K H' p (row.map V.int) := s1.seqT hrow0
            have mr : row ∈ W.arrows := List.mem_of_getElem? er
            have f4 : (!decide (((row.map V.int).length : Int) = 4)) = false → row.length = 4 := fun e => by
              have := of_decide_eq_true (not_f e)
              rw [List.length_map] at this
              omega
            refine rd_if (IsT.or (IsT.test (Is.neI (Is.lenT (Is.var rfl) hrow) Is.const)) fun e4 => IsT.not (IsT.and (IsT.test (Is.chain (x := 0) (y := row.getD 0 0) (z := W.names.length) Is.const (Is.ixT (Is.var rfl) Is.const hrow (row_at (j := 0) (by have := f4 e4; omega))) (Is.var rfl)))
              fun _ => IsT.test (Is.chain (x := 0) (y := row.getD 1 0) (z := W.names.length) Is.const (Is.ixT (Is.var rfl) Is.const hrow (row_at (j := 1) (by have := f4 e4; omega))) (Is.var rfl)))) (fun e => ?_) (fun e => ?_)
            · refine Qb (k _ s1) (webB_arrow mr ?_)
              by_cases q : row.length = 4
              · rw [arrowB_get q]
                have e' : ((decide (0 ≤ row.getD 0 0) && decide (row.getD 0 0 < (W.names.length : Int))) && (decide (0 ≤ row.getD 1 0) && decide (row.getD 1 0 < (W.names.length : Int)))) = false := by
                  rw [List.length_map, decide_eq_true (by omega : (row.length : Int) = 4)] at e
                  exact not_t e
                rw [e', Bool.false_and]
              · exact arrowB_no q
            · obtain ⟨ea, eb⟩ := Bool.or_eq_false_iff.mp e
              have q := f4 ea
              refine rd_if (IsT.or (IsT.not (IsT.test (Is.chain (x := 1) (y := row.getD 2 0) (z := 3) Is.const (Is.ixT (Is.var rfl) Is.const hrow (row_at (j := 2) (by omega))) Is.const)))
                fun _ => IsT.not (IsT.test (Is.chain (x := 1) (y := row.getD 3 0) (z := 9) Is.const (Is.ixT (Is.var rfl) Is.const hrow (row_at (j := 3) (by omega))) Is.const))) (fun e2 => ?_) (fun e2 => ?_)
              · refine Qb (k _ s1) (webB_arrow mr ?_)
                rw [arrowB_get q]
                have e' : ((decide (1 ≤ row.getD 2 0) && decide (row.getD 2 0 ≤ 3)) && (decide (1 ≤ row.getD 3 0) && decide (row.getD 3 0 ≤ 9))) = false := by
                  rw [← Bool.not_and] at e2
                  exact not_t e2
                rw [e', Bool.and_false]
              · refine ⟨_, rfl, rfl, all_take_succ er al ?_⟩
                rw [arrowB_get q, not_f eb]
                rw [← Bool.not_and] at e2
                rw [not_f e2]
                rfl
        · rintro σ H2 ⟨o8, rfl, rfl, al⟩
          rw [l1, List.take_of_length_le (Nat.le_refl _)] at al
          refine ⟨_, rfl, sa, rfl, ⟨_, s1.seqT hsb⟩, for_tup (K := K) (a := sa) (xs := sb.map V.ref) (fun i σ H' => ∃ o8 : Option V, σ = [some (.ref a), some (.ref n), some (.ref r), some (.ref sa), some (.int W.names.length), o5, o6, none, o8] ∧ H' = H2 ∧ (W.sayings.take i).all (sayingB W.names.length) = true) ⟨o8, rfl, rfl, rfl⟩ (fun i σ H' _ ⟨_, _, e, _⟩ => by rw [e]; exact s1.seqT hsb) ?_ ?_⟩
          · rintro i x σ H' hx ⟨o8, rfl, rfl, als⟩
            rw [List.getElem?_map] at hx
            cases ep : sb[i]? with
            | none => rw [ep] at hx; cases hx
            | some p =>
              rw [ep] at hx
              cases hx
              obtain ⟨row, er, hrow0⟩ := paired_get psb ep
              have hrow : SqT K H' p (row.map V.int) := s1.seqT hrow0
              have mr : row ∈ W.sayings := List.mem_of_getElem? er
              have f3 : (!decide (((row.map V.int).length : Int) = 3)) = false → row.length = 3 := fun e => by
                have := of_decide_eq_true (not_f e)
                rw [List.length_map] at this
                omega
              refine rd_if (IsT.or (IsT.test (Is.neI (Is.lenT (Is.var rfl) hrow) Is.const)) fun e4 => IsT.or (IsT.not (IsT.and (IsT.test (Is.chain (x := 0) (y := row.getD 0 0) (z := W.names.length) Is.const (Is.ixT (Is.var rfl) Is.const hrow (row_at (j := 0) (by have := f3 e4; omega))) (Is.var rfl)))
                fun _ => IsT.test (Is.chain (x := 0) (y := row.getD 1 0) (z := W.names.length) Is.const (Is.ixT (Is.var rfl) Is.const hrow (row_at (j := 1) (by have := f3 e4; omega))) (Is.var rfl))))
                fun _ => IsT.test (Is.eqI (x := row.getD 0 0) (y := row.getD 1 0) (Is.ixT (Is.var rfl) Is.const hrow (row_at (j := 0) (by have := f3 e4; omega))) (Is.ixT (Is.var rfl) Is.const hrow (row_at (j := 1) (by have := f3 e4; omega))))) (fun e => ?_) (fun e => ?_)
              · refine Qb (k _ s1) (webB_saying mr ?_)
                by_cases q : row.length = 3
                · rw [sayingB_get q]
                  rw [List.length_map, decide_eq_true (by omega : (row.length : Int) = 3), Bool.not_true, Bool.false_or] at e
                  rcases Bool.or_eq_true _ _ ▸ e with e | e
                  · rw [not_t e, Bool.false_and]
                  · rw [e]
                    simp
                · exact sayingB_no q
              · obtain ⟨ea, eb⟩ := Bool.or_eq_false_iff.mp e
                obtain ⟨eb, ec⟩ := Bool.or_eq_false_iff.mp eb
                have q := f3 ea
                refine rd_if (IsT.not (IsT.test (Is.chain (x := 0 - 9) (y := row.getD 2 0) (z := 9) (Is.sub Is.const Is.const) (Is.ixT (Is.var rfl) Is.const hrow (row_at (j := 2) (by omega))) Is.const))) (fun e2 => ?_) (fun e2 => ?_)
                · refine Qb (k _ s1) (webB_saying mr ?_)
                  rw [sayingB_get q, not_t e2, Bool.and_false, Bool.and_false]
                · refine ⟨_, rfl, rfl, all_take_succ er als ?_⟩
                  rw [sayingB_get q, not_f eb, ec, not_f e2]
                  rfl
          · rintro σ H3 ⟨o8, rfl, rfl, als⟩
            rw [l2, List.take_of_length_le (Nat.le_refl _)] at als
            refine Qb (k _ s1) ?_
            unfold webB
            rw [decide_eq_true e2', decide_eq_true e3', enb, al, als]
            rfl
end

end W1

set_option Elab.async false
set_option linter.all false
set_option maxRecDepth 100000
set_option maxHeartbeats 1000000
namespace W1
open PySem PySem.Spec PyProof.Rows L2
def doorLps : List Pos := doorBods.map (·.lpos)
theorem far_door : Far doorLps := by unfold Far; decide +kernel
theorem door_len : doorBods.length = 18 := by decide +kernel
def doorQ : Str := ("_law_web_door" : Str) ++ ".<locals>." ++ "<lambda>"
def TD (PT : Addr) (H : Hp) : Prop := Tabs (fun _ => True) PT doorLps doorQ H
def spDoor (PT : Addr) : Sp := fun vs H Q _ => ∃ (i : Nat) (a : Addr), vs = [.int i, .ref a] ∧ i < 18 ∧ RdW a H ∧ TD PT H ∧ ∀ H', SameP PT H H' → TD PT H' → Q (.str "BadWeb") H'
theorem door_free : ∀ b ∈ doorBods, b.scope.names.lookup ("_law_web" : Str) = some .free := List.forall_mem_cons.mpr ⟨rfl, List.forall_mem_cons.mpr ⟨rfl, List.forall_mem_cons.mpr ⟨rfl, List.forall_mem_cons.mpr ⟨rfl, List.forall_mem_cons.mpr ⟨rfl, List.forall_mem_cons.mpr ⟨rfl, List.forall_mem_cons.mpr ⟨rfl, List.forall_mem_cons.mpr ⟨rfl, List.forall_mem_cons.mpr ⟨rfl, List.forall_mem_cons.mpr ⟨rfl, List.forall_mem_cons.mpr ⟨rfl, List.forall_mem_cons.mpr ⟨rfl, List.forall_mem_cons.mpr ⟨rfl, List.forall_mem_cons.mpr ⟨rfl, List.forall_mem_cons.mpr ⟨rfl, List.forall_mem_cons.mpr ⟨rfl, List.forall_mem_cons.mpr ⟨rfl, List.forall_mem_cons.mpr ⟨rfl, fun _ h => nomatch h⟩⟩⟩⟩⟩⟩⟩⟩⟩⟩⟩⟩⟩⟩⟩⟩⟩⟩
theorem RdW.sameP {PT a : Addr} {H H' : Hp} {ps : Array Value} (h : RdW a H) (s : SameP PT H H') (hP : H PT = some (.tbl ps)) : RdW a H' :=
  let ⟨W, n, r, sa, hW, wok, hg⟩ := h; ⟨W, n, r, sa, hW.tu (fun b xs e => s b _ (fun q => by rw [q, hP] at e; cases e) e), wok, hg⟩
section
variable {P : Program} {w : World} {K : PySem.W.Frag} {mg : Str → Option Value} {base : Heap} {t : Ad} {cW C fI c0 PT : Addr} {dI : FuncData}
theorem ok_door (T : Txt K mg t) (Z : ExW K cW) (B : Brd K mg C fI dI) (KX : K.In base) (G : base.Ns mainGlobals mg) (hc : t.d__law_web_door.code = .ref c0) (CH : PySem.W.CodeHd base c0 PT) (BM : base.BuiltinsAt mg PT) : FnOk P w K mg base CX0 10 t.f__law_web_door t.d__law_web_door ["_law_which", "_law_web"] (spDoor PT) := by
  refine T.F__law_web_door.okC hc sc__law_web_door (fun vs H Q E h => ?_) (fun A outer s H vs Q E hr h => ?_)
  · obtain ⟨i, a, rfl, _⟩ := h
    rfl
  · obtain ⟨i, a, rfl, hi, hR, hT, k⟩ := h
    have nd := sc__law_web_door.nd
    obtain ⟨ca, hca, hb⟩ : ∃ ca : Addr, (cxOf CX0 P w K mg base ["_law_which", "_law_web", "_law_asks", "_law_ask"] "_law_web_door" (defScope s__law_web_door) t.f__law_web_door (.ref c0) A outer s H E).nox.env.cells.lookup ("_law_web" : Str) = some ca ∧ ∀ b ∈ doorBods, defaultsOf b.params (cxOf CX0 P w K mg base ["_law_which", "_law_web", "_law_asks", "_law_ask"] "_law_web_door" (defScope s__law_web_door) t.f__law_web_door (.ref c0) A outer s H E).nox.env = ([], []) ∧ closureFor b.scope (cxOf CX0 P w K mg base ["_law_which", "_law_web", "_law_asks", "_law_ask"] "_law_web_door" (defScope s__law_web_door) t.f__law_web_door (.ref c0) A outer s H E).nox.env = pure ([("_law_web", ca)] : List (Str × Addr)) := ⟨_, rfl, List.forall_mem_cons.mpr ⟨⟨rfl, rfl⟩, List.forall_mem_cons.mpr ⟨⟨rfl, rfl⟩, List.forall_mem_cons.mpr ⟨⟨rfl, rfl⟩, List.forall_mem_cons.mpr ⟨⟨rfl, rfl⟩, List.forall_mem_cons.mpr ⟨⟨rfl, rfl⟩, List.forall_mem_cons.mpr ⟨⟨rfl, rfl⟩, List.forall_mem_cons.mpr ⟨⟨rfl, rfl⟩, List.forall_mem_cons.mpr ⟨⟨rfl, rfl⟩, List.forall_mem_cons.mpr ⟨⟨rfl, rfl⟩, List.forall_mem_cons.mpr ⟨⟨rfl, rfl⟩, List.forall_mem_cons.mpr ⟨⟨rfl, rfl⟩, List.forall_mem_cons.mpr ⟨⟨rfl, rfl⟩, List.forall_mem_cons.mpr ⟨⟨rfl, rfl⟩, List.forall_mem_cons.mpr ⟨⟨rfl, rfl⟩, List.forall_mem_cons.mpr ⟨⟨rfl, rfl⟩, List.forall_mem_cons.mpr ⟨⟨rfl, rfl⟩, List.forall_mem_cons.mpr ⟨⟨rfl, rfl⟩, List.forall_mem_cons.mpr ⟨⟨rfl, rfl⟩, fun _ h => nomatch h⟩⟩⟩⟩⟩⟩⟩⟩⟩⟩⟩⟩⟩⟩⟩⟩⟩⟩⟩
    refine ⟨_, pss_cons (ps_set (i := 2) nd rfl (Or.inl rfl) (pe_lst (pa_lams (lps := doorLps) rfl CH BM far_door doorBods fun b hm => ⟨(hb b hm).1, (hb b hm).2, List.mem_map_of_mem hm⟩)))
      (pss_cons (ps_set (i := 3) nd rfl (Or.inl rfl) (pe_ix ix_list (pv 2) (pv 0) (fun _ _ => rfl)))
      (pss_one (ps_ret (pe_wordV (clos := [("_law_web", ca)]) (i := 3) (N := ["_law_web"]) (ix := [1]) (word := "BadWeb") (Rd := RdL) (bods := doorBods) (fun _ => rfl) (List.forall_mem_cons.mpr ⟨hca, fun _ h => nomatch h⟩) (fun b hm j y e => by
        rcases j with _ | j
        · cases e; exact ⟨1, _, rfl, rfl, door_free b hm, rfl, rfl⟩
        · simp at e) (List.forall_mem_cons.mpr ⟨fun base2 lam c2 ctv vals KX2 G2 L => wd_0 T Z B KX2 G2 L, List.forall_mem_cons.mpr ⟨fun base2 lam c2 ctv vals KX2 G2 L => wd_1 T Z B KX2 G2 L, List.forall_mem_cons.mpr ⟨fun base2 lam c2 ctv vals KX2 G2 L => wd_2 T Z B KX2 G2 L, List.forall_mem_cons.mpr ⟨fun base2 lam c2 ctv vals KX2 G2 L => wd_3 T Z B KX2 G2 L, List.forall_mem_cons.mpr ⟨fun base2 lam c2 ctv vals KX2 G2 L => wd_4 T Z B KX2 G2 L, List.forall_mem_cons.mpr ⟨fun base2 lam c2 ctv vals KX2 G2 L => wd_5 T Z B KX2 G2 L, List.forall_mem_cons.mpr ⟨fun base2 lam c2 ctv vals KX2 G2 L => wd_6 T Z B KX2 G2 L, List.forall_mem_cons.mpr ⟨fun base2 lam c2 ctv vals KX2 G2 L => wd_7 T Z B KX2 G2 L, List.forall_mem_cons.mpr ⟨fun base2 lam c2 ctv vals KX2 G2 L => wd_8 T Z B KX2 G2 L, List.forall_mem_cons.mpr ⟨fun base2 lam c2 ctv vals KX2 G2 L => wd_9 T Z B KX2 G2 L, List.forall_mem_cons.mpr ⟨fun base2 lam c2 ctv vals KX2 G2 L => wd_10 T Z B KX2 G2 L, List.forall_mem_cons.mpr ⟨fun base2 lam c2 ctv vals KX2 G2 L => wd_11 T Z B KX2 G2 L, List.forall_mem_cons.mpr ⟨fun base2 lam c2 ctv vals KX2 G2 L => wd_12 T Z B KX2 G2 L, List.forall_mem_cons.mpr ⟨fun base2 lam c2 ctv vals KX2 G2 L => wd_13 T Z B KX2 G2 L, List.forall_mem_cons.mpr ⟨fun base2 lam c2 ctv vals KX2 G2 L => wd_14 T Z B KX2 G2 L, List.forall_mem_cons.mpr ⟨fun base2 lam c2 ctv vals KX2 G2 L => wd_15 T Z B KX2 G2 L, List.forall_mem_cons.mpr ⟨fun base2 lam c2 ctv vals KX2 G2 L => wd_16 T Z B KX2 G2 L, List.forall_mem_cons.mpr ⟨fun base2 lam c2 ctv vals KX2 G2 L => wd_17 T Z B KX2 G2 L, fun _ h => nomatch h⟩⟩⟩⟩⟩⟩⟩⟩⟩⟩⟩⟩⟩⟩⟩⟩⟩⟩) (hr.mono (by omega)) (by rfl) T.m__law_word T.F__law_word.kp T.b__law_word (pv 3))))), ?_⟩
    refine ⟨hT.same (Same.refl H) (fun c hc _ => .inl hc), fun lams H1 hl hT1 s1 hall => ⟨by rw [List.length_map, hl, door_len]; decide, fun p hp => ?_⟩⟩
    rw [door_len] at hl
    have hi' : i < lams.length := by omega
    have hi2 : i < doorBods.length := by rw [door_len]; exact hi
    have e1 : lams[i]? = some lams[i] := List.getElem?_eq_getElem hi'
    have e2 : doorBods[i]? = some doorBods[i] := List.getElem?_eq_getElem hi2
    obtain ⟨ps, hP, _⟩ := id hT
    obtain ⟨ps1, hP1, _⟩ := id hT1
    have s2 := Same.new (o := HO.lst (lams.map V.ref)) hp
    refine ⟨_, rfl, _, rfl, p, _, _, _, rfl, rfl, SqL.of upd_same, at_of (j := i) (v := .ref lams[i]) (by omega) (by rw [List.getElem?_map, e1]; rfl), ?_⟩
    refine ⟨lams[i], doorBods[i], ⟨_, rfl, rfl, rfl⟩, List.getElem_mem hi2, (hall i _ _ e1 e2).keep (fun b u _ e => s2 b u e) hP1, [.ref a], rfl, ?_, fun H3 s3 => ⟨a, rfl, ?_⟩, fun H3 s3 => ?_⟩
    · rintro i2 j2 v2 e1 e2
      rcases i2 with _ | i2
      · cases e1; cases e2; rfl
      · simp at e1
    · obtain ⟨W, n, r, sa, hW, wok, hg⟩ := (hR.sameP s1 hP).same s2
      exact ⟨W, n, r, sa, hW.tu (fun b xs e => s3 b _ (fun φ z => by cases z) e), wok, hg⟩
    · refine k H3 (fun b u n e => s3 b u (s2 b u (s1 b u n e))) ?_
      exact (hT1.same s2 (fun _ _ _ => trivial)).same s3 (fun _ _ _ => trivial)
end

end W1

set_option Elab.async false
set_option linter.all false
set_option maxRecDepth 100000
set_option maxHeartbeats 1000000
namespace W1
open PySem PySem.Spec PyProof.Rows L2
theorem webB_names7 {nl : List Str} {ar sy : List (List Int)} : webB ⟨nl ++ [("abcdefg" : Str)], ar, sy⟩ = false := by
  exact webB_names (namesB_bad (z := ("abcdefg" : Str)) (List.mem_append_right _ (List.mem_singleton.mpr rfl)) (by decide +kernel))
theorem arrowB_len {n : Nat} {row : List Int} (h : arrowB n row = true) : row.length = 4 := by
  by_cases q : row.length = 4
  · exact q
  · rw [arrowB_no q] at h; cases h
theorem sayingB_len {n : Nat} {row : List Int} (h : sayingB n row = true) : row.length = 3 := by
  by_cases q : row.length = 3
  · exact q
  · rw [sayingB_no q] at h; cases h
theorem webB_parts {W : Web} (h : webB W = true) : W.arrows.length ≤ 80 ∧ W.sayings.length ≤ 20 ∧ namesB W.names = true ∧ (∀ row ∈ W.arrows, arrowB W.names.length row = true) ∧ ∀ row ∈ W.sayings, sayingB W.names.length row = true := by
  unfold webB at h
  simp only [Bool.and_eq_true, decide_eq_true_eq] at h
  obtain ⟨h1, h2, h3, h4, h5⟩ := h
  exact ⟨h1, h2, h3, List.all_eq_true.mp h4, List.all_eq_true.mp h5⟩
theorem namesB_len {ns : List Str} (h : namesB ns = true) : ns.length ≤ 40 := by
  unfold namesB at h
  simp only [Bool.and_eq_true, decide_eq_true_eq] at h
  exact h.1
theorem small_of {W : Web} (h : webB W = true) (hz : ∀ z ∈ W.names, z.length ≤ 6) : Small 0 W := by
  obtain ⟨h1, h2, h3, h4, h5⟩ := webB_parts h
  have := namesB_len h3
  exact ⟨by omega, fun z m => by have := hz z m; omega, by omega, by omega, fun row m => by have := arrowB_len (h4 row m); omega, fun row m => by have := sayingB_len (h5 row m); omega⟩
theorem Small.ok {t : Nat} {W : Web} (h : Small t W) (ht : t ≤ 10) : WebOk W := ⟨by have := h.nl; omega, fun z m => by have := h.nz z m; have := sl_big; omega⟩
theorem TD.put {PT D : Addr} {H : Hp} {xs ys : List V} (h : TD PT H) (hD : H D = some (.lst xs)) : TD PT (upd H D (.lst ys)) := by
  obtain ⟨ps, h1, h2, h3⟩ := h
  refine ⟨ps, by rw [upd_ne (fun q => by rw [q, hD] at h1; cases h1)]; exact h1, h2, fun lp hm => ?_⟩
  rcases h3 lp hm with z | ⟨c', z1, z2, z3⟩
  · exact .inl z
  · exact .inr ⟨c', z1, by rw [upd_ne (fun q => by rw [q, hD] at z2; unfold codeO at z2; cases z2)]; exact z2, z3⟩
def spLaw (K : PySem.W.Frag) (PT : Addr) : Sp := fun vs H Q _ => ∃ (a : Addr) (ns : List Int), vs = [.ref a] ∧ SqL K H a (ns.map V.int) ∧ ns.length ≤ 63 ∧ H PT = some (.tbl #[]) ∧ ∀ H', Q (.bl true) H'
section
variable {P : Program} {w : World} {K : PySem.W.Frag} {mg : Str → Option Value} {base : Heap} {t : Ad} {cW C fI c0 PT : Addr} {dI : FuncData}
theorem ok_law (T : Txt K mg t) (Z : ExW K cW) (B : Brd K mg C fI dI) (KX : K.In base) (G : base.Ns mainGlobals mg) (hc : t.d__law_web_door.code = .ref c0) (CH : PySem.W.CodeHd base c0 PT) (BM : base.BuiltinsAt mg PT) : FnOk P w K mg base CX0 11 t.f_law t.d_law ["_law_script"] (spLaw K PT) := by
  have G__law_pull : FnOk P w K mg base CX0 1 t.f__law_pull t.d__law_pull ["_law_bag_here", "_law_many"] spPull := ok_pull T
  have G__law_bag : FnOk P w K mg base CX0 1 t.f__law_bag t.d__law_bag ["_law_script"] (spBag K) := ok_bag T
  have G__law_drawn_web : FnOk P w K mg base CX0 3 t.f__law_drawn_web t.d__law_drawn_web ["_law_bag_here", "_law_most", "_law_most_arrows", "_law_most_told"] spDrawn := ok_drawn T
  have G__law_good_web : FnOk P w K mg base CX0 1 t.f__law_good_web t.d__law_good_web ["_law_web"] (spWeb K) := ok_good T
  have G__law_bent_web : FnOk P w K mg base CX0 3 t.f__law_bent_web t.d__law_bent_web ["_law_bag_here", "_law_web"] spBent := ok_bent T
  have G__law_web_door : FnOk P w K mg base CX0 10 t.f__law_web_door t.d__law_web_door ["_law_which", "_law_web"] (spDoor PT) := ok_door T Z B KX G hc CH BM
  refine T.F_law.ok sc_law (fun vs H Q E h => ?_) (fun cdv A outer s H vs Q E hr h => ?_)
  · obtain ⟨a, ns, rfl, _⟩ := h
    rfl
  · obtain ⟨a, ns, rfl, hS, hlen, hPT, k⟩ := h
    have nd := sc_law.nd
    have sbig := sl_big
    refine ⟨_, (pss_cons (ps_set (i := 1) nd rfl (Or.inl rfl) (pe_call G__law_bag (hr.mono (by omega)) (by rfl) T.m__law_bag T.F__law_bag.kp T.b__law_bag .nil pass0 (pa_cons (pv 0) pa_nil)))
      (pss_cons (ps_set (i := 2) nd rfl (Or.inr rfl) (pe_call G__law_drawn_web (hr.mono (by omega)) (by rfl) T.m__law_drawn_web T.F__law_drawn_web.kp T.b__law_drawn_web .nil pass0 (pa_cons (pv 1) (pa_cons pe_int (pa_cons pe_int (pa_cons pe_int pa_nil))))))
      (pss_cons (ps_for PassesOwn.never rfl (pi_range1 (by rfl) T.range (pa_cons (pe_op op_add pe_int (pe_call G__law_pull (hr.mono (by omega)) (by rfl) T.m__law_pull T.F__law_pull.kp T.b__law_pull .nil pass0 (pa_cons (pv 1) (pa_cons pe_int pa_nil)))) pa_nil)) (pg_name (i := 3) nd rfl (Or.inl rfl))
      (pss_one (ps_set (i := 2) nd rfl (Or.inr rfl) (pe_call G__law_bent_web (hr.mono (by omega)) (by rfl) T.m__law_bent_web T.F__law_bent_web.kp T.b__law_bent_web .nil pass0 (pa_cons (pv 1) (pa_cons (pv 2) pa_nil))))))
      (pss_cons (ps_if (pt_val (pe_call G__law_good_web (hr.mono (by omega)) (by rfl) T.m__law_good_web T.F__law_good_web.kp T.b__law_good_web .nil pass0 (pa_cons (pv 2) pa_nil))) (pss_one (ps_set (i := 2) nd rfl (Or.inr rfl) (pe_tup (pa_cons (pe_op op_catTB (pe_ix ix_tup (pv 2) pe_int (fun _ _ => rfl)) (pe_tup (pa_cons pe_str pa_nil))) (pa_cons (pe_ix ix_tup (pv 2) pe_int (fun _ _ => rfl)) (pa_cons (pe_ix ix_tup (pv 2) pe_int (fun _ _ => rfl)) pa_nil)))))) pss_nil)
      (pss_one (ps_ret (pe_callB (cr_all rfl) (by rfl) T.b_all (by decide +kernel) (pa_cons (pe_lc (own := [("_law_which", 4)]) (g := (gName 4)) (by rfl) nd (pi_range1 (by rfl) T.range (pa_cons pe_int pa_nil)) (blkOk_by (own := [("_law_which", 4)]) (N := ["_law_script", "_law_bag_here", "_law_web", "_law_bend", "_law_which"]) (sc := defScope s_law) (by decide +kernel)) (fun _ _ _ _ _ => (pg_name (i := 4) nd rfl (Or.inl rfl))) (fun _ _ _ _ _ => pts_nil) (fun _ _ _ _ _ => (pe_cmpR op_eq (pe_call G__law_web_door (hr.mono (by omega)) (by rfl) T.m__law_web_door T.F__law_web_door.kp T.b__law_web_door .nil pass0 (pa_cons (pv 4) (pa_cons (pv 2) pa_nil))) pe_str (nomark _)))) pa_nil)))))))), ?_⟩
    refine ⟨_, rfl, a, ns, rfl, hS, hlen, fun b c H1 B1 s1 _ => ?_⟩
    obtain ⟨ysB, hysB⟩ := B1.lst
    have nPb : PT ≠ b := fun q => by have := s1 _ _ hPT; rw [q, hysB] at this; cases this
    refine ⟨_, rfl, b, c, 6, 6, 3, rfl, B1, by decide, by decide, by decide, by decide, by decide, by decide, fun aW HW W n r sa hW hgood hz6 BW sW => ?_⟩
    have sm0 := small_of hgood hz6
    have hP0 : HW PT = some (.tbl #[]) := sW _ _ (s1 _ _ hPT) nPb
    refine ⟨_, rfl, b, c, 3, rfl, BW, by decide, by decide, fun nb H4 nb0 nb1 B4 s4 => ?_⟩
    have hP4 : H4 PT = some (.tbl #[]) := s4 _ _ hP0 nPb
    refine ⟨_, _, rfl, rfl, 1 + nb, rfl, by omega, by omega, for_range (lo := 0) (n := (1 + nb).toNat) (fun i σ H' => ∃ (aW : Addr) (W : Web) (n r sa : Addr) (o3 : Option V), σ = [some (.ref a), some (.ref b), some (.ref aW), o3, none] ∧ Bag H' b c ∧ WebH H' aW W n r sa ∧ Small i W ∧ H' PT = some (.tbl #[])) ⟨aW, W, n, r, sa, _, rfl, B4, hW.tu (BW.tu s4), sm0, hP4⟩ ?_ ?_⟩
    · rintro j σ H5 hj ⟨aW, W, n, r, sa, o3, rfl, B5, hW, sm, hP5⟩
      refine ⟨_, rfl, _, rfl, b, c, aW, W, n, r, sa, j, rfl, B5, hW, sm, by omega, fun a' H6 W' n' r' s' hW' sm' B6 s6 => ?_⟩
      exact ⟨a', W', n', r', s', _, rfl, B6, hW', sm', s6 _ _ hP5 nPb⟩
    · rintro σ H5 ⟨aW, W, n, r, sa, o3, rfl, B5, hW, sm, hP5⟩
      have wok := sm.ok (by omega)
      dsimp only [gName]
      refine seq_cut2 (fun σ H' => ∃ aX : Addr, σ = [some (.ref a), some (.ref b), some (.ref aX), o3, none] ∧ RdW aX H' ∧ H' PT = some (.tbl #[])) (fun N hN => ?_) ?_
      · refine ⟨_, rfl, aW, W, rfl, hW.at, wok, fun H6 s6 => ⟨_, rfl, ?_⟩⟩
        have hW6 := hW.tu s6.tu
        cases hg : webB W with
        | false => exact iteF (hN _ _ ⟨aW, rfl, ⟨W, n, r, sa, hW6, wok, hg⟩, s6 _ _ hP5⟩)
        | true =>
          refine iteT ?_
          refine ⟨_, rfl, aW, _, _, _, rfl, rfl, SqT.of hW6.tup, rfl, (by show 1 ≤ sizeLine; decide), fun v1 g1 => ⟨n, v1, _, _, rfl, rfl, (Same.new g1) _ _ hW6.nam, upd_same, by rw [List.length_map]; have := wok.1; show _ + 1 ≤ sizeLine; omega, fun p2 G2 t2 hp2 => ?_⟩⟩
          have sG : Same H6 G2 := (Same.new g1).trans t2
          have hWG := hW6.tu sG.tu
          refine ⟨_, rfl, aW, _, _, _, rfl, rfl, SqT.of hWG.tup, rfl, _, rfl, aW, _, _, _, rfl, rfl, SqT.of hWG.tup, rfl, (by show 3 ≤ sizeLine; decide), fun aX haX => ?_⟩
          have sX := Same.new (o := HO.tup [.ref p2, .ref r, .ref sa]) haX
          refine hN _ _ ⟨aX, rfl, ⟨⟨W.names ++ [("abcdefg" : Str)], W.arrows, W.sayings⟩, p2, r, sa, ⟨upd_same, ?_, hWG.arr.tu sX.tu, hWG.say.tu sX.tu⟩, ⟨by show (W.names ++ [_]).length ≤ 4000; have := sm.nl; rw [List.length_append]; show _ + 1 ≤ 4000; omega, fun z m => ?_⟩, webB_names7⟩, sX _ _ (sG _ _ (s6 _ _ hP5))⟩
          · rw [sX _ _ hp2, List.map_append]; rfl
          · rcases List.mem_append.mp m with m | m
            · exact wok.2 z m
            · rw [List.mem_singleton.mp m]; decide
      · rintro σ H6 ⟨aX, rfl, hR, hP⟩
        have hT0 : TD PT H6 := ⟨#[], hP, trivial, fun lp _ => .inl rfl⟩
        refine ⟨18, rfl, by decide, by decide, fun D hD => ?_⟩
        have sD := Same.new (o := HO.lst []) hD
        refine lc_range (lo := 0) (n := 18) (fun i H' => RdW aX H' ∧ TD PT H' ∧ H' D = some (.lst ((List.replicate i true).map V.bl))) ⟨hR.same sD, hT0.same sD (fun _ _ _ => trivial), upd_same⟩ ?_ ?_
        · rintro i H7 hi ⟨q1, q2, q3⟩
          refine ⟨rfl, ?_⟩
          refine ⟨_, rfl, _, rfl, i, aX, by rw [Int.zero_add]; rfl, hi, q1, q2, fun H8 s8 hT8 => ?_⟩
          obtain ⟨ps, hP7, _⟩ := id q2
          have nD : D ≠ PT := fun q => by rw [q, hP7] at q3; cases q3
          have hD8 := s8 _ _ nD q3
          refine ⟨rfl, _, hD8, by rw [List.length_map, List.length_replicate]; omega, ?_⟩
          have sU : Tu H8 (upd H8 D (.lst ((List.replicate i true).map V.bl ++ [.bl true]))) := Tu.put hD8
          obtain ⟨W8, n8, r8, sa8, hW8, wok8, hg8⟩ := q1.sameP s8 hP7
          refine ⟨⟨W8, n8, r8, sa8, hW8.tu sU, wok8, hg8⟩, hT8.put hD8, ?_⟩
          rw [upd_same, List.replicate_succ', List.map_append]
          rfl
        · rintro H7 ⟨q1, q2, q3⟩
          refine ⟨D, _, rfl, SqL.of q3, ?_⟩
          exact k H7
end

end W1

set_option Elab.async false
set_option linter.all false
set_option maxRecDepth 100000
set_option maxHeartbeats 1000000
namespace W1
open PySem PySem.Spec PyProof.Rows L2
theorem all_mk {l : PySem.W.OpenLaw} {w : World} {K : PySem.W.Frag} {h : Heap} {mg : Str → Option Value} {fa : Addr} (X : K.In h) (G : h.Ns mainGlobals mg) (hfa : mg "law" = some (.ref fa))
    {f0 : Addr} {od0 an0 : Option Addr} {sl0 : Array (Option Value)} {oc0 kV0 dc0 pm0 cd0 ct0 : Value}
    {f1 : Addr} {od1 an1 : Option Addr} {sl1 : Array (Option Value)} {oc1 kV1 dc1 pm1 cd1 ct1 : Value}
    {f2 : Addr} {od2 an2 : Option Addr} {sl2 : Array (Option Value)} {oc2 kV2 dc2 pm2 cd2 ct2 : Value}
    {f3 : Addr} {od3 an3 : Option Addr} {sl3 : Array (Option Value)} {oc3 kV3 dc3 pm3 cd3 ct3 : Value}
    {f4 : Addr} {od4 an4 : Option Addr} {sl4 : Array (Option Value)} {oc4 kV4 dc4 pm4 cd4 ct4 : Value}
    {f5 : Addr} {od5 an5 : Option Addr} {sl5 : Array (Option Value)} {oc5 kV5 dc5 pm5 cd5 ct5 : Value}
    {f6 : Addr} {od6 an6 : Option Addr} {sl6 : Array (Option Value)} {oc6 kV6 dc6 pm6 cd6 ct6 : Value}
    {f7 : Addr} {od7 an7 : Option Addr} {sl7 : Array (Option Value)} {oc7 kV7 dc7 pm7 cd7 ct7 : Value}
    {f8 : Addr} {od8 an8 : Option Addr} {sl8 : Array (Option Value)} {oc8 kV8 dc8 pm8 cd8 ct8 : Value}
    {f9 : Addr} {od9 an9 : Option Addr} {sl9 : Array (Option Value)} {oc9 kV9 dc9 pm9 cd9 ct9 : Value}
    {f10 : Addr} {od10 an10 : Option Addr} {sl10 : Array (Option Value)} {oc10 kV10 dc10 pm10 cd10 ct10 : Value}
    {f11 : Addr} {od11 an11 : Option Addr} {sl11 : Array (Option Value)} {oc11 kV11 dc11 pm11 cd11 ct11 : Value}
    {f12 : Addr} {od12 an12 : Option Addr} {sl12 : Array (Option Value)} {oc12 kV12 dc12 pm12 cd12 ct12 : Value}
    {f13 : Addr} {od13 an13 : Option Addr} {sl13 : Array (Option Value)} {oc13 kV13 dc13 pm13 cd13 ct13 : Value}
    {f14 : Addr} {od14 an14 : Option Addr} {sl14 : Array (Option Value)} {oc14 kV14 dc14 pm14 cd14 ct14 : Value}
    {f15 : Addr} {od15 an15 : Option Addr} {sl15 : Array (Option Value)} {oc15 kV15 dc15 pm15 cd15 ct15 : Value}
    {f16 : Addr} {od16 an16 : Option Addr} {sl16 : Array (Option Value)} {oc16 kV16 dc16 pm16 cd16 ct16 : Value}
    {f17 : Addr} {od17 an17 : Option Addr} {sl17 : Array (Option Value)} {oc17 kV17 dc17 pm17 cd17 ct17 : Value}
    {f18 : Addr} {od18 an18 : Option Addr} {sl18 : Array (Option Value)} {oc18 kV18 dc18 pm18 cd18 ct18 : Value}
    {f19 : Addr} {od19 an19 : Option Addr} {sl19 : Array (Option Value)} {oc19 kV19 dc19 pm19 cd19 ct19 : Value}
    {f20 : Addr} {od20 an20 : Option Addr} {sl20 : Array (Option Value)} {oc20 kV20 dc20 pm20 cd20 ct20 : Value}
    {f21 : Addr} {od21 an21 : Option Addr} {sl21 : Array (Option Value)} {oc21 kV21 dc21 pm21 cd21 ct21 : Value}
    {f22 : Addr} {od22 an22 : Option Addr} {sl22 : Array (Option Value)} {oc22 kV22 dc22 pm22 cd22 ct22 : Value}
    {f23 : Addr} {od23 an23 : Option Addr} {sl23 : Array (Option Value)} {oc23 kV23 dc23 pm23 cd23 ct23 : Value}
    {f24 : Addr} {od24 an24 : Option Addr} {sl24 : Array (Option Value)} {oc24 kV24 dc24 pm24 cd24 ct24 : Value}
    {f25 : Addr} {od25 an25 : Option Addr} {sl25 : Array (Option Value)} {oc25 kV25 dc25 pm25 cd25 ct25 : Value}
    {f26 : Addr} {od26 an26 : Option Addr} {sl26 : Array (Option Value)} {oc26 kV26 dc26 pm26 cd26 ct26 : Value}
    {f27 : Addr} {od27 an27 : Option Addr} {sl27 : Array (Option Value)} {oc27 kV27 dc27 pm27 cd27 ct27 : Value}
    {f28 : Addr} {od28 an28 : Option Addr} {sl28 : Array (Option Value)} {oc28 kV28 dc28 pm28 cd28 ct28 : Value}
    {f29 : Addr} {od29 an29 : Option Addr} {sl29 : Array (Option Value)} {oc29 kV29 dc29 pm29 cd29 ct29 : Value}
    {f30 : Addr} {od30 an30 : Option Addr} {sl30 : Array (Option Value)} {oc30 kV30 dc30 pm30 cd30 ct30 : Value}
    {f31 : Addr} {od31 an31 : Option Addr} {sl31 : Array (Option Value)} {oc31 kV31 dc31 pm31 cd31 ct31 : Value}
    {f32 : Addr} {od32 an32 : Option Addr} {sl32 : Array (Option Value)} {oc32 kV32 dc32 pm32 cd32 ct32 : Value}
    {f33 : Addr} {od33 an33 : Option Addr} {sl33 : Array (Option Value)} {oc33 kV33 dc33 pm33 cd33 ct33 : Value}
    {f34 : Addr} {od34 an34 : Option Addr} {sl34 : Array (Option Value)} {oc34 kV34 dc34 pm34 cd34 ct34 : Value}
    {f35 : Addr} {od35 an35 : Option Addr} {sl35 : Array (Option Value)} {oc35 kV35 dc35 pm35 cd35 ct35 : Value}
    {tk0 : Tok}
    {tk1 : Tok}
    {tk2 : Tok}
    {tk3 : Tok}
    {tk4 : Tok}
    {tk5 : Tok}
    {tk6 : Tok}
    {tk7 : Tok}
    {tk8 : Tok}
    {tk9 : Tok}
    {tk10 : Tok}
    {dt19 : Addr} {ot19 : Obj} {nt19 : Nat}
    (a0 : PySem.W.nsIn K mainGlobals "is_name" = some (some (.ref f0))) (l0 : K.lookup f0 = some ⟨oc0, od0, .func (PySem.W.fnOf "is_name" "is_name" (defArgs s_is_name) (defBody s_is_name) (defScope s_is_name) .none kV0 dc0 pm0 an0 cd0 ct0), sl0⟩) (c0 : PySem.W.codeIn K cd0 "is_name" = true) (k0 : PySem.W.keepIn K (.ref f0) = true)
    (a1 : PySem.W.nsIn K mainGlobals "are_names" = some (some (.ref f1))) (l1 : K.lookup f1 = some ⟨oc1, od1, .func (PySem.W.fnOf "are_names" "are_names" (defArgs s_are_names) (defBody s_are_names) (defScope s_are_names) .none kV1 dc1 pm1 an1 cd1 ct1), sl1⟩) (c1 : PySem.W.codeIn K cd1 "are_names" = true) (k1 : PySem.W.keepIn K (.ref f1) = true)
    (a2 : PySem.W.nsIn K mainGlobals "is_arrow" = some (some (.ref f2))) (l2 : K.lookup f2 = some ⟨oc2, od2, .func (PySem.W.fnOf "is_arrow" "is_arrow" (defArgs s_is_arrow) (defBody s_is_arrow) (defScope s_is_arrow) .none kV2 dc2 pm2 an2 cd2 ct2), sl2⟩) (c2 : PySem.W.codeIn K cd2 "is_arrow" = true) (k2 : PySem.W.keepIn K (.ref f2) = true)
    (a3 : PySem.W.nsIn K mainGlobals "is_saying" = some (some (.ref f3))) (l3 : K.lookup f3 = some ⟨oc3, od3, .func (PySem.W.fnOf "is_saying" "is_saying" (defArgs s_is_saying) (defBody s_is_saying) (defScope s_is_saying) .none kV3 dc3 pm3 an3 cd3 ct3), sl3⟩) (c3 : PySem.W.codeIn K cd3 "is_saying" = true) (k3 : PySem.W.keepIn K (.ref f3) = true)
    (a4 : PySem.W.nsIn K mainGlobals "is_web" = some (some (.ref f4))) (l4 : K.lookup f4 = some ⟨oc4, od4, .func (PySem.W.fnOf "is_web" "is_web" (defArgs s_is_web) (defBody s_is_web) (defScope s_is_web) .none kV4 dc4 pm4 an4 cd4 ct4), sl4⟩) (c4 : PySem.W.codeIn K cd4 "is_web" = true) (k4 : PySem.W.keepIn K (.ref f4) = true)
    (a5 : PySem.W.nsIn K mainGlobals "need_web" = some (some (.ref f5))) (l5 : K.lookup f5 = some ⟨oc5, od5, .func (PySem.W.fnOf "need_web" "need_web" (defArgs s_need_web) (defBody s_need_web) (defScope s_need_web) .none kV5 dc5 pm5 an5 cd5 ct5), sl5⟩) (c5 : PySem.W.codeIn K cd5 "need_web" = true) (k5 : PySem.W.keepIn K (.ref f5) = true)
    (a6 : PySem.W.nsIn K mainGlobals "boxes_of" = some (some (.ref f6))) (l6 : K.lookup f6 = some ⟨oc6, od6, .func (PySem.W.fnOf "boxes_of" "boxes_of" (defArgs s_boxes_of) (defBody s_boxes_of) (defScope s_boxes_of) .none kV6 dc6 pm6 an6 cd6 ct6), sl6⟩) (c6 : PySem.W.codeIn K cd6 "boxes_of" = true) (k6 : PySem.W.keepIn K (.ref f6) = true)
    (a7 : PySem.W.nsIn K mainGlobals "without" = some (some (.ref f7))) (l7 : K.lookup f7 = some ⟨oc7, od7, .func (PySem.W.fnOf "without" "without" (defArgs s_without) (defBody s_without) (defScope s_without) .none kV7 dc7 pm7 an7 cd7 ct7), sl7⟩) (c7 : PySem.W.codeIn K cd7 "without" = true) (k7 : PySem.W.keepIn K (.ref f7) = true)
    (a8 : PySem.W.nsIn K mainGlobals "chains" = some (some (.ref f8))) (l8 : K.lookup f8 = some ⟨oc8, od8, .func (PySem.W.fnOf "chains" "chains" (defArgs s_chains) (defBody s_chains) (defScope s_chains) .none kV8 dc8 pm8 an8 cd8 ct8), sl8⟩) (c8 : PySem.W.codeIn K cd8 "chains" = true) (k8 : PySem.W.keepIn K (.ref f8) = true)
    (a9 : PySem.W.nsIn K mainGlobals "rows" = some (some (.ref f9))) (l9 : K.lookup f9 = some ⟨oc9, od9, .func (PySem.W.fnOf "rows" "rows" (defArgs s_rows) (defBody s_rows) (defScope s_rows) .none kV9 dc9 pm9 an9 cd9 ct9), sl9⟩) (c9 : PySem.W.codeIn K cd9 "rows" = true) (k9 : PySem.W.keepIn K (.ref f9) = true)
    (a10 : PySem.W.nsIn K mainGlobals "turned" = some (some (.ref f10))) (l10 : K.lookup f10 = some ⟨oc10, od10, .func (PySem.W.fnOf "turned" "turned" (defArgs s_turned) (defBody s_turned) (defScope s_turned) .none kV10 dc10 pm10 an10 cd10 ct10), sl10⟩) (c10 : PySem.W.codeIn K cd10 "turned" = true) (k10 : PySem.W.keepIn K (.ref f10) = true)
    (a11 : PySem.W.nsIn K mainGlobals "ring" = some (some (.ref f11))) (l11 : K.lookup f11 = some ⟨oc11, od11, .func (PySem.W.fnOf "ring" "ring" (defArgs s_ring) (defBody s_ring) (defScope s_ring) .none kV11 dc11 pm11 an11 cd11 ct11), sl11⟩) (c11 : PySem.W.codeIn K cd11 "ring" = true) (k11 : PySem.W.keepIn K (.ref f11) = true)
    (a12 : PySem.W.nsIn K mainGlobals "knots" = some (some (.ref f12))) (l12 : K.lookup f12 = some ⟨oc12, od12, .func (PySem.W.fnOf "knots" "knots" (defArgs s_knots) (defBody s_knots) (defScope s_knots) .none kV12 dc12 pm12 an12 cd12 ct12), sl12⟩) (c12 : PySem.W.codeIn K cd12 "knots" = true) (k12 : PySem.W.keepIn K (.ref f12) = true)
    (a13 : PySem.W.nsIn K mainGlobals "gaining_ring" = some (some (.ref f13))) (l13 : K.lookup f13 = some ⟨oc13, od13, .func (PySem.W.fnOf "gaining_ring" "gaining_ring" (defArgs s_gaining_ring) (defBody s_gaining_ring) (defScope s_gaining_ring) .none kV13 dc13 pm13 an13 cd13 ct13), sl13⟩) (c13 : PySem.W.codeIn K cd13 "gaining_ring" = true) (k13 : PySem.W.keepIn K (.ref f13) = true)
    (a14 : PySem.W.nsIn K mainGlobals "ties" = some (some (.ref f14))) (l14 : K.lookup f14 = some ⟨oc14, od14, .func (PySem.W.fnOf "ties" "ties" (defArgs s_ties) (defBody s_ties) (defScope s_ties) .none kV14 dc14 pm14 an14 cd14 ct14), sl14⟩) (c14 : PySem.W.codeIn K cd14 "ties" = true) (k14 : PySem.W.keepIn K (.ref f14) = true)
    (a15 : PySem.W.nsIn K mainGlobals "clash" = some (some (.ref f15))) (l15 : K.lookup f15 = some ⟨oc15, od15, .func (PySem.W.fnOf "clash" "clash" (defArgs s_clash) (defBody s_clash) (defScope s_clash) .none kV15 dc15 pm15 an15 cd15 ct15), sl15⟩) (c15 : PySem.W.codeIn K cd15 "clash" = true) (k15 : PySem.W.keepIn K (.ref f15) = true)
    (a16 : PySem.W.nsIn K mainGlobals "ties_to_keep" = some (some (.ref f16))) (l16 : K.lookup f16 = some ⟨oc16, od16, .func (PySem.W.fnOf "ties_to_keep" "ties_to_keep" (defArgs s_ties_to_keep) (defBody s_ties_to_keep) (defScope s_ties_to_keep) .none kV16 dc16 pm16 an16 cd16 ct16), sl16⟩) (c16 : PySem.W.codeIn K cd16 "ties_to_keep" = true) (k16 : PySem.W.keepIn K (.ref f16) = true)
    (a17 : PySem.W.nsIn K mainGlobals "layers" = some (some (.ref f17))) (l17 : K.lookup f17 = some ⟨oc17, od17, .func (PySem.W.fnOf "layers" "layers" (defArgs s_layers) (defBody s_layers) (defScope s_layers) .none kV17 dc17 pm17 an17 cd17 ct17), sl17⟩) (c17 : PySem.W.codeIn K cd17 "layers" = true) (k17 : PySem.W.keepIn K (.ref f17) = true)
    (a18 : PySem.W.nsIn K mainGlobals "flow" = some (some (.ref f18))) (l18 : K.lookup f18 = some ⟨oc18, od18, .func (PySem.W.fnOf "flow" "flow" (defArgs s_flow) (defBody s_flow) (defScope s_flow) .none kV18 dc18 pm18 an18 cd18 ct18), sl18⟩) (c18 : PySem.W.codeIn K cd18 "flow" = true) (k18 : PySem.W.keepIn K (.ref f18) = true)
    (a19 : PySem.W.nsIn K mainGlobals "length" = some (some (.ref f19))) (l19 : K.lookup f19 = some ⟨oc19, od19, .func (PySem.W.fnOf "length" "length" (defArgs s_length) (defBody s_length) (defScope s_length) (.ref dt19) kV19 dc19 pm19 an19 cd19 ct19), sl19⟩) (c19 : PySem.W.codeIn K cd19 "length" = true) (k19 : PySem.W.keepIn K (.ref f19) = true) (q19 : K.lookup dt19 = some ot19) (r19 : ot19.data = .seq #[.none] nt19)
    (a20 : PySem.W.nsIn K mainGlobals "worth" = some (some (.ref f20))) (l20 : K.lookup f20 = some ⟨oc20, od20, .func (PySem.W.fnOf "worth" "worth" (defArgs s_worth) (defBody s_worth) (defScope s_worth) .none kV20 dc20 pm20 an20 cd20 ct20), sl20⟩) (c20 : PySem.W.codeIn K cd20 "worth" = true) (k20 : PySem.W.keepIn K (.ref f20) = true)
    (a21 : PySem.W.nsIn K mainGlobals "widths" = some (some (.ref f21))) (l21 : K.lookup f21 = some ⟨oc21, od21, .func (PySem.W.fnOf "widths" "widths" (defArgs s_widths) (defBody s_widths) (defScope s_widths) .none kV21 dc21 pm21 an21 cd21 ct21), sl21⟩) (c21 : PySem.W.codeIn K cd21 "widths" = true) (k21 : PySem.W.keepIn K (.ref f21) = true)
    (a22 : PySem.W.nsIn K mainGlobals "picture" = some (some (.ref f22))) (l22 : K.lookup f22 = some ⟨oc22, od22, .func (PySem.W.fnOf "picture" "picture" (defArgs s_picture) (defBody s_picture) (defScope s_picture) .none kV22 dc22 pm22 an22 cd22 ct22), sl22⟩) (c22 : PySem.W.codeIn K cd22 "picture" = true) (k22 : PySem.W.keepIn K (.ref f22) = true)
    (a23 : PySem.W.nsIn K mainGlobals "state_of" = some (some (.ref f23))) (l23 : K.lookup f23 = some ⟨oc23, od23, .func (PySem.W.fnOf "state_of" "state_of" (defArgs s_state_of) (defBody s_state_of) (defScope s_state_of) .none kV23 dc23 pm23 an23 cd23 ct23), sl23⟩) (c23 : PySem.W.codeIn K cd23 "state_of" = true) (k23 : PySem.W.keepIn K (.ref f23) = true)
    (a24 : PySem.W.nsIn K mainGlobals "web_text" = some (some (.ref f24))) (l24 : K.lookup f24 = some ⟨oc24, od24, .func (PySem.W.fnOf "web_text" "web_text" (defArgs s_web_text) (defBody s_web_text) (defScope s_web_text) .none kV24 dc24 pm24 an24 cd24 ct24), sl24⟩) (c24 : PySem.W.codeIn K cd24 "web_text" = true) (k24 : PySem.W.keepIn K (.ref f24) = true)
    (a25 : PySem.W.nsIn K mainGlobals "board_of" = some (some (.ref f25))) (l25 : K.lookup f25 = some ⟨oc25, od25, .func (PySem.W.fnOf "board_of" "board_of" (defArgs s_board_of) (defBody s_board_of) (defScope s_board_of) .none kV25 dc25 pm25 an25 cd25 ct25), sl25⟩) (c25 : PySem.W.codeIn K cd25 "board_of" = true) (k25 : PySem.W.keepIn K (.ref f25) = true)
    (a26 : PySem.W.nsIn K mainGlobals "_law_bag" = some (some (.ref f26))) (l26 : K.lookup f26 = some ⟨oc26, od26, .func (PySem.W.fnOf "_law_bag" "_law_bag" (defArgs s__law_bag) (defBody s__law_bag) (defScope s__law_bag) .none kV26 dc26 pm26 an26 cd26 ct26), sl26⟩) (c26 : PySem.W.codeIn K cd26 "_law_bag" = true) (k26 : PySem.W.keepIn K (.ref f26) = true)
    (a27 : PySem.W.nsIn K mainGlobals "_law_bent_web" = some (some (.ref f27))) (l27 : K.lookup f27 = some ⟨oc27, od27, .func (PySem.W.fnOf "_law_bent_web" "_law_bent_web" (defArgs s__law_bent_web) (defBody s__law_bent_web) (defScope s__law_bent_web) .none kV27 dc27 pm27 an27 cd27 ct27), sl27⟩) (c27 : PySem.W.codeIn K cd27 "_law_bent_web" = true) (k27 : PySem.W.keepIn K (.ref f27) = true)
    (a28 : PySem.W.nsIn K mainGlobals "_law_drawn_web" = some (some (.ref f28))) (l28 : K.lookup f28 = some ⟨oc28, od28, .func (PySem.W.fnOf "_law_drawn_web" "_law_drawn_web" (defArgs s__law_drawn_web) (defBody s__law_drawn_web) (defScope s__law_drawn_web) .none kV28 dc28 pm28 an28 cd28 ct28), sl28⟩) (c28 : PySem.W.codeIn K cd28 "_law_drawn_web" = true) (k28 : PySem.W.keepIn K (.ref f28) = true)
    (a29 : PySem.W.nsIn K mainGlobals "_law_good_web" = some (some (.ref f29))) (l29 : K.lookup f29 = some ⟨oc29, od29, .func (PySem.W.fnOf "_law_good_web" "_law_good_web" (defArgs s__law_good_web) (defBody s__law_good_web) (defScope s__law_good_web) .none kV29 dc29 pm29 an29 cd29 ct29), sl29⟩) (c29 : PySem.W.codeIn K cd29 "_law_good_web" = true) (k29 : PySem.W.keepIn K (.ref f29) = true)
    (a30 : PySem.W.nsIn K mainGlobals "_law_names" = some (some (.ref f30))) (l30 : K.lookup f30 = some ⟨oc30, od30, .func (PySem.W.fnOf "_law_names" "_law_names" (defArgs s__law_names) (defBody s__law_names) (defScope s__law_names) .none kV30 dc30 pm30 an30 cd30 ct30), sl30⟩) (c30 : PySem.W.codeIn K cd30 "_law_names" = true) (k30 : PySem.W.keepIn K (.ref f30) = true)
    (a31 : PySem.W.nsIn K mainGlobals "_law_odd" = some (some (.ref f31))) (l31 : K.lookup f31 = some ⟨oc31, od31, .func (PySem.W.fnOf "_law_odd" "_law_odd" (defArgs s__law_odd) (defBody s__law_odd) (defScope s__law_odd) .none kV31 dc31 pm31 an31 cd31 ct31), sl31⟩) (c31 : PySem.W.codeIn K cd31 "_law_odd" = true) (k31 : PySem.W.keepIn K (.ref f31) = true)
    (a32 : PySem.W.nsIn K mainGlobals "_law_pull" = some (some (.ref f32))) (l32 : K.lookup f32 = some ⟨oc32, od32, .func (PySem.W.fnOf "_law_pull" "_law_pull" (defArgs s__law_pull) (defBody s__law_pull) (defScope s__law_pull) .none kV32 dc32 pm32 an32 cd32 ct32), sl32⟩) (c32 : PySem.W.codeIn K cd32 "_law_pull" = true) (k32 : PySem.W.keepIn K (.ref f32) = true)
    (a33 : PySem.W.nsIn K mainGlobals "_law_web_door" = some (some (.ref f33))) (l33 : K.lookup f33 = some ⟨oc33, od33, .func (PySem.W.fnOf "_law_web_door" "_law_web_door" (defArgs s__law_web_door) (defBody s__law_web_door) (defScope s__law_web_door) .none kV33 dc33 pm33 an33 cd33 ct33), sl33⟩) (c33 : PySem.W.codeIn K cd33 "_law_web_door" = true) (k33 : PySem.W.keepIn K (.ref f33) = true)
    (a34 : PySem.W.nsIn K mainGlobals "_law_word" = some (some (.ref f34))) (l34 : K.lookup f34 = some ⟨oc34, od34, .func (PySem.W.fnOf "_law_word" "_law_word" (defArgs s__law_word) (defBody s__law_word) (defScope s__law_word) .none kV34 dc34 pm34 an34 cd34 ct34), sl34⟩) (c34 : PySem.W.codeIn K cd34 "_law_word" = true) (k34 : PySem.W.keepIn K (.ref f34) = true)
    (a35 : PySem.W.nsIn K mainGlobals "law" = some (some (.ref f35))) (l35 : K.lookup f35 = some ⟨oc35, od35, .func (PySem.W.fnOf "law" "law" (defArgs s_law) (defBody s_law) (defScope s_law) .none kV35 dc35 pm35 an35 cd35 ct35), sl35⟩) (c35 : PySem.W.codeIn K cd35 "law" = true) (k35 : PySem.W.keepIn K (.ref f35) = true)
    (z0 : PySem.W.nsIn K mainGlobals "LETTERS" = some (some (.str "abcdefghijklmnopqrstuvwxyz" tk0)))
    (z1 : PySem.W.nsIn K mainGlobals "MOST_LETTERS" = some (some (.int 6 tk1)))
    (z2 : PySem.W.nsIn K mainGlobals "MOST_BOXES" = some (some (.int 40 tk2)))
    (z3 : PySem.W.nsIn K mainGlobals "MOST_ARROWS" = some (some (.int 80 tk3)))
    (z4 : PySem.W.nsIn K mainGlobals "MOST_SAYINGS" = some (some (.int 20 tk4)))
    (z5 : PySem.W.nsIn K mainGlobals "MOST_ARROW_LEAST" = some (some (.int 3 tk5)))
    (z6 : PySem.W.nsIn K mainGlobals "MOST_WEIGHT" = some (some (.int 9 tk6)))
    (z7 : PySem.W.nsIn K mainGlobals "MOST_SAYING_LEAST" = some (some (.int 9 tk7)))
    (z8 : PySem.W.nsIn K mainGlobals "WAYS" = some (some (.int 4 tk8)))
    (z9 : PySem.W.nsIn K mainGlobals "BEND_WIDTH" = some (some (.int 2 tk9)))
    (z10 : PySem.W.nsIn K mainGlobals "GAP" = some (some (.int 2 tk10)))
    (y0 : PySem.W.nsIn K mainGlobals "abs" = some none)
    (y1 : PySem.W.nsIn K mainGlobals "all" = some none)
    (y2 : PySem.W.nsIn K mainGlobals "enumerate" = some none)
    (y3 : PySem.W.nsIn K mainGlobals "int" = some none)
    (y4 : PySem.W.nsIn K mainGlobals "len" = some none)
    (y5 : PySem.W.nsIn K mainGlobals "list" = some none)
    (y6 : PySem.W.nsIn K mainGlobals "max" = some none)
    (y7 : PySem.W.nsIn K mainGlobals "min" = some none)
    (y8 : PySem.W.nsIn K mainGlobals "range" = some none)
    (y9 : PySem.W.nsIn K mainGlobals "set" = some none)
    (y10 : PySem.W.nsIn K mainGlobals "sum" = some none)
    (y11 : PySem.W.nsIn K mainGlobals "tuple" = some none)
    (y12 : PySem.W.nsIn K mainGlobals "zip" = some none)
    {cW C fI cD PT aS : Addr} {odI anI : Option Addr} {slI : Array (Option Value)} {ocI kVI dcI pmI cdI ctI : Value} (x0 : PySem.W.nsIn K mainGlobals "BadWeb" = some (some (.ref cW))) (x1 : PySem.W.excIn K cW [.type "ValueError", .type "Exception", .type "BaseException", .type "object"] "ValueError.__new__" = true) (x2 : PySem.W.exmOne K (.ref cW) (.ref cW) = some true) (x3 : cd33 = .ref cD)
    (ob0 : PySem.W.nsIn K mainGlobals "Board" = some (some (.ref C))) (ob1 : PySem.W.findIn K (.ref C) "__init__" = some (some (.ref fI))) (ob2 : PySem.W.isFn K (.ref fI) = true) (ob3 : K.lookup fI = some ⟨ocI, odI, .func (PySem.W.fnOf "__init__" "Board.__init__" (defArgs s_init) (defBody s_init) (defScope s_init) .none kVI dcI pmI anI cdI ctI), slI⟩) (ob4 : PySem.W.codeIn K cdI "Board.__init__" = true) (ob5 : PySem.W.keepIn K (.ref fI) = true)
    (ob6 : PySem.W.plainGet K C Str.empty = true) (ob7 : PySem.W.hasDictIn K C = true) (ob8 : PySem.W.plainOver K C = true) (ob9 : PySem.W.findIn K (.ref C) "__setattr__" = some (some (.builtin "object.__setattr__"))) (ob10 : PySem.W.makesIn K C = true) (ob11 : PySem.W.keepIn K (.ref C) = true)
    (ob12 : PySem.W.findIn K (.ref C) "now" = some none) (ob13 : PySem.W.findIn K (.ref C) "past" = some none) (ob14 : PySem.W.findIn K (.ref C) "future" = some none) (ob15 : PySem.W.nsIn K mainGlobals "START" = some (some (.ref aS)))
    : ∃ fd : FuncData, (∀ (s : Shared) (v : Value), BindsTo s fd ⟨[v], []⟩ [("_law_script", v)]) ∧ ∀ base : Heap, K.In base → base.Ns mainGlobals mg → PySem.W.CodeHd base cD PT → base.BuiltinsAt mg PT → FnOk l.prog w K mg base CX0 11 fa fd ["_law_script"] (spLaw K PT) := by
  have e := hfa.symm.trans (PySem.W.mg_of X G a35)
  cases e
  have F0 := fun_mk (st := s_is_name) l0 c0 k0
  have b0 := F0.binds (ps := ["name"]) fun _ _ _ _ _ _ us hl => match us, hl with | [_], _ => rfl
  have F1 := fun_mk (st := s_are_names) l1 c1 k1
  have b1 := F1.binds (ps := ["names"]) fun _ _ _ _ _ _ us hl => match us, hl with | [_], _ => rfl
  have F2 := fun_mk (st := s_is_arrow) l2 c2 k2
  have b2 := F2.binds (ps := ["arrow", "boxes"]) fun _ _ _ _ _ _ us hl => match us, hl with | [_, _], _ => rfl
  have F3 := fun_mk (st := s_is_saying) l3 c3 k3
  have b3 := F3.binds (ps := ["saying", "boxes"]) fun _ _ _ _ _ _ us hl => match us, hl with | [_, _], _ => rfl
  have F4 := fun_mk (st := s_is_web) l4 c4 k4
  have b4 := F4.binds (ps := ["web"]) fun _ _ _ _ _ _ us hl => match us, hl with | [_], _ => rfl
  have F5 := fun_mk (st := s_need_web) l5 c5 k5
  have b5 := F5.binds (ps := ["web"]) fun _ _ _ _ _ _ us hl => match us, hl with | [_], _ => rfl
  have F6 := fun_mk (st := s_boxes_of) l6 c6 k6
  have b6 := F6.binds (ps := ["web", "arrow"]) fun _ _ _ _ _ _ us hl => match us, hl with | [_, _], _ => rfl
  have F7 := fun_mk (st := s_without) l7 c7 k7
  have b7 := F7.binds (ps := ["web", "arrows"]) fun _ _ _ _ _ _ us hl => match us, hl with | [_, _], _ => rfl
  have F8 := fun_mk (st := s_chains) l8 c8 k8
  have b8 := F8.binds (ps := ["web", "layering"]) fun _ _ _ _ _ _ us hl => match us, hl with | [_, _], _ => rfl
  have F9 := fun_mk (st := s_rows) l9 c9 k9
  have b9 := F9.binds (ps := ["web", "layering"]) fun _ _ _ _ _ _ us hl => match us, hl with | [_, _], _ => rfl
  have F10 := fun_mk (st := s_turned) l10 c10 k10
  have b10 := F10.binds (ps := ["web"]) fun _ _ _ _ _ _ us hl => match us, hl with | [_], _ => rfl
  have F11 := fun_mk (st := s_ring) l11 c11 k11
  have b11 := F11.binds (ps := ["web", "arrow"]) fun _ _ _ _ _ _ us hl => match us, hl with | [_, _], _ => rfl
  have F12 := fun_mk (st := s_knots) l12 c12 k12
  have b12 := F12.binds (ps := ["web"]) fun _ _ _ _ _ _ us hl => match us, hl with | [_], _ => rfl
  have F13 := fun_mk (st := s_gaining_ring) l13 c13 k13
  have b13 := F13.binds (ps := ["boxes", "ties"]) fun _ _ _ _ _ _ us hl => match us, hl with | [_, _], _ => rfl
  have F14 := fun_mk (st := s_ties) l14 c14 k14
  have b14 := F14.binds (ps := ["web"]) fun _ _ _ _ _ _ us hl => match us, hl with | [_], _ => rfl
  have F15 := fun_mk (st := s_clash) l15 c15 k15
  have b15 := F15.binds (ps := ["web"]) fun _ _ _ _ _ _ us hl => match us, hl with | [_], _ => rfl
  have F16 := fun_mk (st := s_ties_to_keep) l16 c16 k16
  have b16 := F16.binds (ps := ["web"]) fun _ _ _ _ _ _ us hl => match us, hl with | [_], _ => rfl
  have F17 := fun_mk (st := s_layers) l17 c17 k17
  have b17 := F17.binds (ps := ["web"]) fun _ _ _ _ _ _ us hl => match us, hl with | [_], _ => rfl
  have F18 := fun_mk (st := s_flow) l18 c18 k18
  have b18 := F18.binds (ps := ["web"]) fun _ _ _ _ _ _ us hl => match us, hl with | [_], _ => rfl
  have F19 := funD_mk (st := s_length) l19 c19 k19 q19 r19
  have b19 := F19.b2 (a := "web") (b := "layering") fun _ _ _ _ _ _ _ _ _ => ⟨_, rfl, rfl⟩
  have bd19 := F19.b1 (a := "web") (b := "layering") fun _ _ _ _ _ _ _ _ => ⟨_, rfl, rfl⟩
  have bk19 := F19.bk (a := "web") (b := "layering") fun _ _ _ _ _ _ _ _ _ => ⟨_, rfl, rfl⟩
  have F20 := fun_mk (st := s_worth) l20 c20 k20
  have b20 := F20.binds (ps := ["web", "flow"]) fun _ _ _ _ _ _ us hl => match us, hl with | [_, _], _ => rfl
  have F21 := fun_mk (st := s_widths) l21 c21 k21
  have b21 := F21.binds (ps := ["web", "layering"]) fun _ _ _ _ _ _ us hl => match us, hl with | [_, _], _ => rfl
  have F22 := fun_mk (st := s_picture) l22 c22 k22
  have b22 := F22.binds (ps := ["web", "layering", "rows"]) fun _ _ _ _ _ _ us hl => match us, hl with | [_, _, _], _ => rfl
  have F23 := fun_mk (st := s_state_of) l23 c23 k23
  have b23 := F23.binds (ps := ["web"]) fun _ _ _ _ _ _ us hl => match us, hl with | [_], _ => rfl
  have F24 := fun_mk (st := s_web_text) l24 c24 k24
  have b24 := F24.binds (ps := ["web"]) fun _ _ _ _ _ _ us hl => match us, hl with | [_], _ => rfl
  have F25 := fun_mk (st := s_board_of) l25 c25 k25
  have b25 := F25.binds (ps := ["web"]) fun _ _ _ _ _ _ us hl => match us, hl with | [_], _ => rfl
  have F26 := fun_mk (st := s__law_bag) l26 c26 k26
  have b26 := F26.binds (ps := ["_law_script"]) fun _ _ _ _ _ _ us hl => match us, hl with | [_], _ => rfl
  have F27 := fun_mk (st := s__law_bent_web) l27 c27 k27
  have b27 := F27.binds (ps := ["_law_bag_here", "_law_web"]) fun _ _ _ _ _ _ us hl => match us, hl with | [_, _], _ => rfl
  have F28 := fun_mk (st := s__law_drawn_web) l28 c28 k28
  have b28 := F28.binds (ps := ["_law_bag_here", "_law_most", "_law_most_arrows", "_law_most_told"]) fun _ _ _ _ _ _ us hl => match us, hl with | [_, _, _, _], _ => rfl
  have F29 := fun_mk (st := s__law_good_web) l29 c29 k29
  have b29 := F29.binds (ps := ["_law_web"]) fun _ _ _ _ _ _ us hl => match us, hl with | [_], _ => rfl
  have F30 := fun_mk (st := s__law_names) l30 c30 k30
  have b30 := F30.binds (ps := ["_law_bag_here", "_law_many"]) fun _ _ _ _ _ _ us hl => match us, hl with | [_, _], _ => rfl
  have F31 := fun_mk (st := s__law_odd) l31 c31 k31
  have b31 := F31.binds (ps := ["_law_bag_here", "_law_many"]) fun _ _ _ _ _ _ us hl => match us, hl with | [_, _], _ => rfl
  have F32 := fun_mk (st := s__law_pull) l32 c32 k32
  have b32 := F32.binds (ps := ["_law_bag_here", "_law_many"]) fun _ _ _ _ _ _ us hl => match us, hl with | [_, _], _ => rfl
  have F33 := fun_mk (st := s__law_web_door) l33 c33 k33
  have b33 := F33.binds (ps := ["_law_which", "_law_web"]) fun _ _ _ _ _ _ us hl => match us, hl with | [_, _], _ => rfl
  have F34 := fun_mk (st := s__law_word) l34 c34 k34
  have b34 := F34.binds (ps := ["_law_ask"]) fun _ _ _ _ _ _ us hl => match us, hl with | [_], _ => rfl
  have F35 := fun_mk (st := s_law) l35 c35 k35
  have b35 := F35.binds (ps := ["_law_script"]) fun _ _ _ _ _ _ us hl => match us, hl with | [_], _ => rfl
  have T : Txt K mg ⟨_, _, _, _, _, _, _, _, _, _, _, _, _, _, _, _, _, _, _, _, _, _, _, _, _, _, _, _, _, _, _, _, _, _, _, _, _, _, _, _, _, _, _, _, _, _, _, _, _, _, _, _, _, _, _, _, _, _, _, _, _, _, _, _, _, _, _, _, _, _, _, _⟩ := ⟨F0, b0, PySem.W.mg_of X G a0, F1, b1, PySem.W.mg_of X G a1, F2, b2, PySem.W.mg_of X G a2, F3, b3, PySem.W.mg_of X G a3, F4, b4, PySem.W.mg_of X G a4, F5, b5, PySem.W.mg_of X G a5, F6, b6, PySem.W.mg_of X G a6, F7, b7, PySem.W.mg_of X G a7, F8, b8, PySem.W.mg_of X G a8, F9, b9, PySem.W.mg_of X G a9, F10, b10, PySem.W.mg_of X G a10, F11, b11, PySem.W.mg_of X G a11, F12, b12, PySem.W.mg_of X G a12, F13, b13, PySem.W.mg_of X G a13, F14, b14, PySem.W.mg_of X G a14, F15, b15, PySem.W.mg_of X G a15, F16, b16, PySem.W.mg_of X G a16, F17, b17, PySem.W.mg_of X G a17, F18, b18, PySem.W.mg_of X G a18, F19, bd19, bk19, b19, PySem.W.mg_of X G a19, F20, b20, PySem.W.mg_of X G a20, F21, b21, PySem.W.mg_of X G a21, F22, b22, PySem.W.mg_of X G a22, F23, b23, PySem.W.mg_of X G a23, F24, b24, PySem.W.mg_of X G a24, F25, b25, PySem.W.mg_of X G a25, F26, b26, PySem.W.mg_of X G a26, F27, b27, PySem.W.mg_of X G a27, F28, b28, PySem.W.mg_of X G a28, F29, b29, PySem.W.mg_of X G a29, F30, b30, PySem.W.mg_of X G a30, F31, b31, PySem.W.mg_of X G a31, F32, b32, PySem.W.mg_of X G a32, F33, b33, PySem.W.mg_of X G a33, F34, b34, PySem.W.mg_of X G a34, F35, b35, PySem.W.mg_of X G a35, ⟨_, PySem.W.mg_of X G z0⟩, ⟨_, PySem.W.mg_of X G z1⟩, ⟨_, PySem.W.mg_of X G z2⟩, ⟨_, PySem.W.mg_of X G z3⟩, ⟨_, PySem.W.mg_of X G z4⟩, ⟨_, PySem.W.mg_of X G z5⟩, ⟨_, PySem.W.mg_of X G z6⟩, ⟨_, PySem.W.mg_of X G z7⟩, ⟨_, PySem.W.mg_of X G z8⟩, ⟨_, PySem.W.mg_of X G z9⟩, ⟨_, PySem.W.mg_of X G z10⟩, PySem.W.mg_none_of X G y0, PySem.W.mg_none_of X G y1, PySem.W.mg_none_of X G y2, PySem.W.mg_none_of X G y3, PySem.W.mg_none_of X G y4, PySem.W.mg_none_of X G y5, PySem.W.mg_none_of X G y6, PySem.W.mg_none_of X G y7, PySem.W.mg_none_of X G y8, PySem.W.mg_none_of X G y9, PySem.W.mg_none_of X G y10, PySem.W.mg_none_of X G y11, PySem.W.mg_none_of X G y12⟩
  exact ⟨PySem.W.fnOf "law" "law" (defArgs s_law) (defBody s_law) (defScope s_law) .none kV35 dc35 pm35 an35 cd35 ct35, fun s v => .of_eq rfl, fun base kb nb ch bm => ok_law T ⟨x0, x1, x2⟩ ⟨⟨ob6, ob7, ob8, ob9⟩, ⟨ob10, ob1, ob2, ob11⟩, ob12, ob13, ob14, PySem.W.mg_of X G ob0, ⟨_, PySem.W.mg_of X G ob15⟩, fun_mk (st := s_init) ob3 ob4 ob5, (fun_mk (st := s_init) ob3 ob4 ob5).binds (ps := ["self"]) fun _ _ _ _ _ _ us hl => match us, hl with | [_], _ => rfl⟩ kb nb x3 ch bm⟩
theorem walk {l : PySem.W.OpenLaw} {q : Program} {loose : List Str} {XP : (Str → Option Value) → Heap → Prop} {YP : World → Heap → Prop} {d dT : DefRec} {K : Params → PySem.W.Frag} {c P : Addr} (hn : l.most = some 63) (hdf : d.params.defaults = [])
    (hY : ∀ (w : World) (h : Heap), YP w h → (K w.params).In h) (hdq : (recsOf q).find? (fun e => e.name == ("_law_web_door" : Str)) = some dT) (htab : ∀ w : World, PySem.W.tabIn (K w.params) "_law_web_door" = some (c, P)) (hPK : ∀ w : World, (K w.params).lookup P = none)
    (F : ∀ (w : World) (mg : Str → Option Value) (fa : Addr) (h : Heap), (K w.params).In h → h.Ns mainGlobals mg → mg d.name = some (.ref fa) →
      ∃ fd : FuncData, (∀ (s : Shared) (u : Value), BindsTo s fd ⟨[u], []⟩ [("_law_script", u)]) ∧ ∀ base : Heap, (K w.params).In base → base.Ns mainGlobals mg → PySem.W.CodeHd base c P → base.BuiltinsAt mg P → FnOk l.prog w (K w.params) mg base CX0 11 fa fd ["_law_script"] (spLaw (K w.params) P)) :
    PySem.W.WalkO q loose XP YP l.row.toRowW d [] (fun f vs => PySem.call f vs) :=
  L2.walk_ofT2 (n := 63) (k := 11) (x := "_law_script") (CX := fun _ => CX0) (c := fun _ => c) (P := fun _ => P) (sp := fun w => spLaw (K w.params) P) hn (by decide) hdf ⟨rfl, by decide, by decide, rfl⟩ hY hdq htab hPK F (fun _ _ a ns hl hO hS => ⟨a, ns, rfl, hS, hl, hO.1, fun _ => rfl⟩) fun _ _ _ _ _ z => z
end W1
def PySem.W.Fast.tw11640675473291031778 : Unit := ()
def PySem.W.Fast.tw7456293141731632480 : Unit := ()
def PySem.W.Fast.tw3585598115618899486 : Unit := ()
def PySem.W.Fast.tw515483723093182107 : Unit := ()
def PySem.W.Fast.tw9023921093183248395 : Unit := ()
def PySem.W.Fast.tw17985811832230803398 : Unit := ()
def PySem.W.Fast.tw18359158900831129482 : Unit := ()
def PySem.W.Fast.tw7847783331303778395 : Unit := ()
def PySem.W.Fast.tw7433826203639136111 : Unit := ()
def PySem.W.Fast.tw18099173442522369331 : Unit := ()
def PySem.W.Fast.tw9104514799552248972 : Unit := ()
def PySem.W.Fast.tw10873990016804909382 : Unit := ()
def PySem.W.Fast.tw13603979384000301790 : Unit := ()
def PySem.W.Fast.tw2621572530740157274 : Unit := ()
def PySem.W.Fast.tw6262984468709487699 : Unit := ()
def PySem.W.Fast.tw12211946348263488144 : Unit := ()
def PySem.W.Fast.tw8140464333376657995 : Unit := ()
def PySem.W.Fast.tw7692947020854247495 : Unit := ()
def PySem.W.Fast.tw972982102145948709 : Unit := ()
def PySem.W.Fast.tw9015887546690660431 : Unit := ()
def PySem.W.Fast.tw582477191384336272 : Unit := ()
def PySem.W.Fast.tw8778808357635456947 : Unit := ()
def PySem.W.Fast.tw14020581110030616183 : Unit := ()
def PySem.W.Fast.tw661162430006612495 : Unit := ()
def PySem.W.Fast.tw12004044798692563278 : Unit := ()
def PySem.W.Fast.tw13160117263890458906 : Unit := ()
def PySem.W.Fast.tw16554253395981126325 : Unit := ()
def PySem.W.Fast.tw7975324374926820547 : Unit := ()
def PySem.W.Fast.tw9521446748296706237 : Unit := ()
def PySem.W.Fast.tw12364185178402513344 : Unit := ()
def PySem.W.Fast.tw12100853026722117817 : Unit := ()
open PySem PySem.W PyProof.Rows
set_option maxRecDepth 100000 in
set_option maxHeartbeats 0 in
theorem PySem.Challenge.cw_layerink_k02_webs_refused_at_every_door_holds : PySem.Challenge.rw_layerink_k02_webs_refused_at_every_door.Holds := by
  w_on; o_law; k_head; (case hw => w_witness2)
  k_fill
  refine' W1.walk (l := PySem.Challenge.rw_layerink_k02_webs_refused_at_every_door) (c := 1077) (P := 1073) rfl rfl (fun w h Y => PySem.W.km_in_of Y) ?dq ?tb ?pk ?F
  case dq => exact rfl
  case tb => intro w; kernel_rfl
  case pk => intro w; kernel_rfl
  case F =>
    intro w mg fa h KX G hmg
    refine' W1.all_mk KX G hmg ?a0 ?l0 ?c0 ?k0 ?a1 ?l1 ?c1 ?k1 ?a2 ?l2 ?c2 ?k2 ?a3 ?l3 ?c3 ?k3 ?a4 ?l4 ?c4 ?k4 ?a5 ?l5 ?c5 ?k5 ?a6 ?l6 ?c6 ?k6 ?a7 ?l7 ?c7 ?k7 ?a8 ?l8 ?c8 ?k8 ?a9 ?l9 ?c9 ?k9 ?a10 ?l10 ?c10 ?k10 ?a11 ?l11 ?c11 ?k11 ?a12 ?l12 ?c12 ?k12 ?a13 ?l13 ?c13 ?k13 ?a14 ?l14 ?c14 ?k14 ?a15 ?l15 ?c15 ?k15 ?a16 ?l16 ?c16 ?k16 ?a17 ?l17 ?c17 ?k17 ?a18 ?l18 ?c18 ?k18 ?a19 ?l19 ?c19 ?k19 ?q19 ?r19 ?a20 ?l20 ?c20 ?k20 ?a21 ?l21 ?c21 ?k21 ?a22 ?l22 ?c22 ?k22 ?a23 ?l23 ?c23 ?k23 ?a24 ?l24 ?c24 ?k24 ?a25 ?l25 ?c25 ?k25 ?a26 ?l26 ?c26 ?k26 ?a27 ?l27 ?c27 ?k27 ?a28 ?l28 ?c28 ?k28 ?a29 ?l29 ?c29 ?k29 ?a30 ?l30 ?c30 ?k30 ?a31 ?l31 ?c31 ?k31 ?a32 ?l32 ?c32 ?k32 ?a33 ?l33 ?c33 ?k33 ?a34 ?l34 ?c34 ?k34 ?a35 ?l35 ?c35 ?k35 ?z0 ?z1 ?z2 ?z3 ?z4 ?z5 ?z6 ?z7 ?z8 ?z9 ?z10 ?y0 ?y1 ?y2 ?y3 ?y4 ?y5 ?y6 ?y7 ?y8 ?y9 ?y10 ?y11 ?y12 ?x0 ?x1 ?x2 ?x3 ?ob0 ?ob1 ?ob2 ?ob3 ?ob4 ?ob5 ?ob6 ?ob7 ?ob8 ?ob9 ?ob10 ?ob11 ?ob12 ?ob13 ?ob14 ?ob15
    (case a0 => k_is); (case l0 => k_is); (case c0 => k_is); (case k0 => k_is); (case a1 => k_is); (case l1 => k_is); (case c1 => k_is); (case k1 => k_is); (case a2 => k_is); (case l2 => k_is); (case c2 => k_is); (case k2 => k_is); (case a3 => k_is); (case l3 => k_is); (case c3 => k_is); (case k3 => k_is); (case a4 => k_is); (case l4 => k_is); (case c4 => k_is); (case k4 => k_is); (case a5 => k_is); (case l5 => k_is); (case c5 => k_is); (case k5 => k_is); (case a6 => k_is); (case l6 => k_is); (case c6 => k_is); (case k6 => k_is); (case a7 => k_is); (case l7 => k_is); (case c7 => k_is); (case k7 => k_is); (case a8 => k_is); (case l8 => k_is); (case c8 => k_is); (case k8 => k_is); (case a9 => k_is); (case l9 => k_is); (case c9 => k_is); (case k9 => k_is); (case a10 => k_is); (case l10 => k_is); (case c10 => k_is); (case k10 => k_is); (case a11 => k_is); (case l11 => k_is); (case c11 => k_is); (case k11 => k_is); (case a12 => k_is); (case l12 => k_is); (case c12 => k_is); (case k12 => k_is); (case a13 => k_is); (case l13 => k_is); (case c13 => k_is); (case k13 => k_is); (case a14 => k_is); (case l14 => k_is); (case c14 => k_is); (case k14 => k_is); (case a15 => k_is); (case l15 => k_is); (case c15 => k_is); (case k15 => k_is); (case a16 => k_is); (case l16 => k_is); (case c16 => k_is); (case k16 => k_is); (case a17 => k_is); (case l17 => k_is); (case c17 => k_is); (case k17 => k_is); (case a18 => k_is); (case l18 => k_is); (case c18 => k_is); (case k18 => k_is); (case a19 => k_is); (case l19 => k_is); (case c19 => k_is); (case k19 => k_is); (case q19 => k_is); (case r19 => exact rfl); (case a20 => k_is); (case l20 => k_is); (case c20 => k_is); (case k20 => k_is); (case a21 => k_is); (case l21 => k_is); (case c21 => k_is); (case k21 => k_is); (case a22 => k_is); (case l22 => k_is); (case c22 => k_is); (case k22 => k_is); (case a23 => k_is); (case l23 => k_is); (case c23 => k_is); (case k23 => k_is); (case a24 => k_is); (case l24 => k_is); (case c24 => k_is); (case k24 => k_is); (case a25 => k_is); (case l25 => k_is); (case c25 => k_is); (case k25 => k_is); (case a26 => k_is); (case l26 => k_is); (case c26 => k_is); (case k26 => k_is); (case a27 => k_is); (case l27 => k_is); (case c27 => k_is); (case k27 => k_is); (case a28 => k_is); (case l28 => k_is); (case c28 => k_is); (case k28 => k_is); (case a29 => k_is); (case l29 => k_is); (case c29 => k_is); (case k29 => k_is); (case a30 => k_is); (case l30 => k_is); (case c30 => k_is); (case k30 => k_is); (case a31 => k_is); (case l31 => k_is); (case c31 => k_is); (case k31 => k_is); (case a32 => k_is); (case l32 => k_is); (case c32 => k_is); (case k32 => k_is); (case a33 => k_is); (case l33 => k_is); (case c33 => k_is); (case k33 => k_is); (case a34 => k_is); (case l34 => k_is); (case c34 => k_is); (case k34 => k_is); (case a35 => k_is); (case l35 => k_is); (case c35 => k_is); (case k35 => k_is); (case z0 => k_is); (case z1 => k_is); (case z2 => k_is); (case z3 => k_is); (case z4 => k_is); (case z5 => k_is); (case z6 => k_is); (case z7 => k_is); (case z8 => k_is); (case z9 => k_is); (case z10 => k_is); (case y0 => k_is); (case y1 => k_is); (case y2 => k_is); (case y3 => k_is); (case y4 => k_is); (case y5 => k_is); (case y6 => k_is); (case y7 => k_is); (case y8 => k_is); (case y9 => k_is); (case y10 => k_is); (case y11 => k_is); (case y12 => k_is); (case x0 => k_is); (case x1 => k_exc); (case x2 => kts_exm); (case x3 => exact rfl); (case ob0 => k_is); (case ob1 => k_is); (case ob2 => k_is); (case ob3 => k_is); (case ob4 => k_is); (case ob5 => k_is); (case ob6 => k_is); (case ob7 => k_is); (case ob8 => k_is); (case ob9 => k_is); (case ob10 => k_is); (case ob11 => k_is); (case ob12 => k_is); (case ob13 => k_is); (case ob14 => k_is); (case ob15 => k_is)

