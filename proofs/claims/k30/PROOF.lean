import PyProof.Rows.All
import OpenK.KRaise
import OpenK.KOwn
import KE.RegKTryMore
import KE.KTurns
import KE.KTryMore
import KE.KStateDown
import KE.KLam
import KE.KNestM
import KE.IntText
import PyProof.EqAt
import PyProof.EqKinds
import PyProof.TupleCall
import KE.BitLaws
import KE.KSuper
import PyProof.NsDelKeeps
import OpenK.KTop
import KE.KStar
import KE.KSortTup
import PyProof.DictUpdate
import PyProof.CollectIter
import PyProof.StrLawsTight
import PySem.Challenge.RW_layerink_k30_boards_filled
set_option Elab.async false
set_option linter.all false
set_option maxRecDepth 100000
/-! THE HAND LAYER, for ints, bools, texts, own classes, lists, tuples, dicts, comprehensions, walks over dicts, enumerate, zip, reversed, texts, calls, loops. Paste it whole ahead of your own text; what your proof does not reach may be deleted. -/
namespace L2
open PySem PySem.Spec PyProof.Rows

/-- a key: an int or a str -/
abbrev Key := Sum Int Str
def keyIs : Key → Value → Bool
  | .inl k, v => Value.isInt k v
  | .inr x, v => Value.isStrOf x v
def keyH (w : World) : Key → Int
  | .inl k => hashInt k
  | .inr x => hashStr w x
theorem keyIs_shape : ∀ {k : Key} {v : Value}, keyIs k v = true → (∃ i t, k = Sum.inl i ∧ v = Value.int i t) ∨ (∃ x t, k = Sum.inr x ∧ v = Value.str x t)
  | .inl i, v, h => by
    obtain ⟨t, e⟩ := Value.isInt_shape (k := i) (v := v) h
    exact .inl ⟨i, t, rfl, e⟩
  | .inr x, v, h => by
    obtain ⟨t, e⟩ := Value.isStrOf_shape (x := x) (v := v) h
    exact .inr ⟨x, t, rfl, e⟩
theorem keyIs_int (i : Int) (t : Tok) : keyIs (.inl i) (.int i t) = true := by simp [keyIs, Value.isInt]
theorem keyIs_str (x : Str) (t : Tok) : keyIs (.inr x) (.str x t) = true := by simp [keyIs, Value.isStrOf]
theorem key_ll (a b : Int) : decide ((Sum.inl a : Key) = Sum.inl b) = (a == b) := by
  by_cases e : a = b
  · subst e; simp
  · have h : ¬ (Sum.inl a : Key) = Sum.inl b := fun q => e (Sum.inl.inj q)
    rw [decide_eq_false h]
    exact (beq_eq_false_iff_ne.mpr e).symm
theorem key_rr (a b : Str) : decide ((Sum.inr a : Key) = Sum.inr b) = decide (a = b) := by
  by_cases e : a = b
  · subst e; simp
  · have h : ¬ (Sum.inr a : Key) = Sum.inr b := fun q => e (Sum.inr.inj q)
    rw [decide_eq_false h, decide_eq_false e]
theorem key_lr (a : Int) (b : Str) : decide ((Sum.inl a : Key) = Sum.inr b) = false := decide_eq_false (fun q => nomatch q)
theorem key_rl (a : Str) (b : Int) : decide ((Sum.inr a : Key) = Sum.inl b) = false := decide_eq_false (fun q => nomatch q)

def mixKind (prog : Program) (w : World) : PySem.KeyKind prog w Key where
  is := keyIs
  hash := keyH w
  inj := fun v a b ha hb => by
    rcases keyIs_shape ha with ⟨i, t, rfl, rfl⟩ | ⟨x, t, rfl, rfl⟩
    · rcases keyIs_shape hb with ⟨j, u, rfl, e⟩ | ⟨y, u, rfl, e⟩
      · injection e with e1 _; rw [e1]
      · exact nomatch e
    · rcases keyIs_shape hb with ⟨j, u, rfl, e⟩ | ⟨y, u, rfl, e⟩
      · exact nomatch e
      · injection e with e1 _; rw [e1]
  byValue := fun k v h => by
    rcases keyIs_shape h with ⟨i, t, rfl, rfl⟩ | ⟨x, t, rfl, rfl⟩ <;> rfl
  pyHash := fun hv h => by
    rcases keyIs_shape hv with ⟨i, t, rfl, rfl⟩ | ⟨x, t, rfl, rfl⟩
    · exact wpAny_pyHash_int h
    · exact wpAny_pyHash_str h
  eqBool := fun hu hv h => by
    rcases keyIs_shape hu with ⟨i, t, rfl, rfl⟩ | ⟨x, t, rfl, rfl⟩
    · rcases keyIs_shape hv with ⟨j, u, rfl, rfl⟩ | ⟨y, u, rfl, rfl⟩
      · rw [key_ll] at h; exact wpAny_eqBool_int h
      · rw [key_lr] at h; exact SeqAt.EqAt.int_str i t y u _ _ _ _ h
    · rcases keyIs_shape hv with ⟨j, u, rfl, rfl⟩ | ⟨y, u, rfl, rfl⟩
      · rw [key_rl] at h; exact SeqAt.EqAt.str_int x t j u _ _ _ _ h
      · rw [key_rr] at h; exact wpAny_eqBool_str h
  «strs» := fun k x t v h => by
    rcases keyIs_shape h with ⟨i, u, rfl, e⟩ | ⟨y, u, rfl, e⟩
    · exact nomatch e
    · injection e with e1 _
      subst e1
      cases v <;> rfl

theorem mixKind_int (prog : Program) (w : World) (i : Int) (t : Tok) : (mixKind prog w).is (.inl i) (.int i t) = true := keyIs_int i t
theorem mixKind_str (prog : Program) (w : World) (x : Str) (t : Tok) : (mixKind prog w).is (.inr x) (.str x t) = true := keyIs_str x t
end L2

namespace L2
open PySem PySem.Spec PyProof.Rows

/-- a value, without the heap -/
inductive V where
  | non | bl (b : Bool) | int (i : Int) | str (x : Str) | byt (b : Array UInt8) | flt (b : UInt64) | ref (a : Addr) | ty (n : String)
  deriving DecidableEq

def RelV : V → Value → Prop
  | .non, u => u = Value.none
  | .bl b, u => u = Value.bool b
  | .int i, u => ∃ t, u = Value.int i t
  | .str x, u => ∃ t, u = Value.str x t
  | .byt b, u => ∃ t, u = Value.bytes b t
  | .flt b, u => ∃ t, u = Value.float b t
  | .ref a, u => u = Value.ref a
  | .ty n, u => u = Value.type n

abbrev Vals : List V → List Value → Prop := Paired RelV
theorem Vals.length {xs : List V} {us : List Value} (r : Vals xs us) : xs.length = us.length := Paired.length r
theorem Vals.get : ∀ {xs : List V} {us : List Value} {i : Nat} {x : V}, Vals xs us → xs[i]? = some x → ∃ u, us[i]? = some u ∧ RelV x u
  | _, _, _, _, .nil, e => by simp at e
  | _, _, 0, _, .cons r _, e => by simp at e; subst e; exact ⟨_, rfl, r⟩
  | _, _, i + 1, x, .cons _ t, e => by
    obtain ⟨u, h1, h2⟩ := Vals.get (i := i) (x := x) t (by simpa using e)
    exact ⟨u, by simpa using h1, h2⟩
theorem Vals.set {x : V} {u : Value} (r : RelV x u) : ∀ {xs : List V} {us : List Value} (i : Nat), Vals xs us → Vals (xs.set i x) (us.set i u)
  | _, _, _, .nil => .nil
  | _, _, 0, .cons _ t => .cons r t
  | _, _, i + 1, .cons q t => .cons q (Vals.set r i t)
theorem Vals.append : ∀ {xs ys : List V} {us ws : List Value}, Vals xs us → Vals ys ws → Vals (xs ++ ys) (us ++ ws)
  | _, _, _, _, .nil, s => s
  | _, _, _, _, .cons r t, s => .cons r (Vals.append t s)
theorem Vals.take : ∀ {xs : List V} {us : List Value} (n : Nat), Vals xs us → Vals (xs.take n) (us.take n)
  | _, _, 0, _ => .nil
  | _, _, _ + 1, .nil => .nil
  | _, _, n + 1, .cons r t => .cons r (Vals.take n t)
theorem Vals.drop : ∀ {xs : List V} {us : List Value} (n : Nat), Vals xs us → Vals (xs.drop n) (us.drop n)
  | _, _, 0, r => r
  | _, _, _ + 1, .nil => .nil
  | _, _, n + 1, .cons _ t => Vals.drop n t
theorem Vals.none_of : ∀ {xs : List V} {us : List Value} {i : Nat}, Vals xs us → xs[i]? = none → us[i]? = none := fun {xs us i} r e => by
  have h1 := r.length
  have h2 : xs.length ≤ i := List.getElem?_eq_none_iff.mp e
  exact List.getElem?_eq_none_iff.mpr (by omega)

def RelO : Option V → Option Value → Prop
  | some v, some u => RelV v u
  | none, none => True
  | _, _ => False
def KV {κ : Type} : List (κ × V) → List (κ × Value) → Prop := Paired fun (p : κ × V) (q : κ × Value) => p.1 = q.1 ∧ RelV p.2 q.2

/-- a key of a dict (00_mix): an int or a text -/
def kV : Key → V
  | .inl i => .int i
  | .inr x => .str x

/-- what stands at a tracked address -/
inductive HO where
  /-- a list -/
  | lst (xs : List V)
  /-- a tuple (never changes) -/
  | tup (xs : List V)
  /-- a dict whose keys are ints and texts; one whose keys are tuples of ints and texts (the empty one is both) -/
  | dK (kvs : List (Key × V)) | dT (kvs : List (List Key × V))
  /-- a set of ints: its members, its size -/
  | set (S : Int → Bool) (n : Nat)
  /-- an instance of the class at C, its dict at dx, its attributes -/
  | ins (C dx : Addr) (fs : List (Str × V))
  /-- the dict of the instance at x -/
  | own (x : Addr)
  /-- the dict of an exception -/
  | xd (fs : List (Str × V))
  /-- a bound method, f of x -/
  | met (f x : Addr)
  /-- a range object lo, lo + 1, .. below hi -/
  | rng (lo hi : Int)
  /-- a thing that is known to the object (the script; a dict while a loop walks it): read, never written while it is so -/
  | frz (o : Obj) (u : HO)
  /-- a code object's table -/
  | tbl (ps : Array Value)
  /-- any other thing, by what is true of its one object (a def of one's own: SetO a S n := HO.ext fun h => ..) -/
  | ext (φ : Heap → Prop)

abbrev Hp := Addr → Option HO
def upd (H : Hp) (a : Addr) (o : HO) : Hp := fun b => if b = a then some o else H b
theorem upd_same {H : Hp} {a : Addr} {o : HO} : upd H a o a = some o := by unfold upd; rw [if_pos rfl]
theorem upd_ne {H : Hp} {a b : Addr} {o : HO} (h : b ≠ a) : upd H a o b = H b := by unfold upd; rw [if_neg h]
/-- two objects of different content stand apart -/
theorem ne_of {H : Hp} {a b : Addr} {o u : HO} (h : H a = some o) (h' : H b = some u) (d : o ≠ u) : a ≠ b := by
  intro e; subst e; rw [h] at h'; exact d (Option.some.inj h')
theorem ne_of_none {H : Hp} {a b : Addr} {o : HO} (h : H a = some o) (h' : H b = none) : a ≠ b := by
  intro e; subst e; rw [h] at h'; cases h'

section
variable (P : Program) (w : World)
def ObjOk (H : Hp) (h : Heap) (a : Addr) : HO → Prop
  | .lst xs => xs.length ≤ sizeLine ∧ ∃ (its : List Value) (n : Nat), Vals xs its ∧ h.get? a = some { cls := .type "list", data := .seq its.toArray n }
  | .tup xs => xs.length ≤ sizeLine ∧ ∃ its : List Value, Vals xs its ∧ IsTup h a its.toArray
  | .dK kvs => kvs.length ≤ sizeLine ∧ (a == sysModules) = false ∧ ∃ vs, KV kvs vs ∧ h.DictOf (mixKind P w) a vs
  | .dT kvs => kvs.length ≤ sizeLine ∧ (a == sysModules) = false ∧ ∃ xs : List (List Key × Addr × Value),
      Paired (fun (p : List Key × V) (q : List Key × Addr × Value) => p.1 = q.1 ∧ H q.2.1 = some (.tup (p.1.map kV)) ∧ RelV p.2 q.2.2) kvs xs ∧
      ∃ o es ep, h.get? a = some o ∧ o.ExactDict ∧ o.data = .dict es ep ∧ es.toList = xs.map (entryOfKey (tupleKind (mixKind P w))) ∧ (xs.map (·.1)).Nodup
  | .set S n => h.SetOf (intKind P w) a S n
  | .ins C dx fs => H dx = some (.own a) ∧ fs.length ≤ 1000 ∧ dx ≠ a ∧ h.get? a = some (PySem.W.instObj C dx) ∧
      ∃ mA, h.Ns1 dx mA ∧ (∀ f, RelO (fs.lookup f) (mA f)) ∧ PySem.Within mA (fs.map (·.1))
  | .own _ => ∃ o, h.get? a = some o
  | .xd fs => ∃ mA, h.Ns1 a mA ∧ ∀ f, RelO (fs.lookup f) (mA f)
  | .rng lo hi => ∃ t u v, h.get? a = some { cls := .type "range", data := .fields #[.int lo t, .int hi u, .int 1 v] }
  | .frz o u => h.get? a = some o ∧ ObjOk H h a u
  | .tbl ps => h.get? a = some { cls := .none, data := .fields ps }
  | .met f x => h.get? a = some (PySem.W.methodObj (.ref f) (.ref x))
  | .ext φ => φ h ∧ (∃ o, h.get? a = some o) ∧ ∀ h1 h2 : Heap, φ h1 → (∀ o, h1.get? a = some o → h2.get? a = some o) → φ h2
/-- the abstract heap is held -/
def HOk (H : Hp) (h : Heap) : Prop := ∀ a o, H a = some o → ObjOk P w H h a o
end

section
variable {P : Program} {w : World} {H H' : Hp} {h h' : Heap} {a : Addr} {o : HO}
theorem ObjOk.lt (x : ObjOk P w H h a o) : a < h.objs.size := by
  cases o with
  | lst xs => obtain ⟨_, _, _, _, e⟩ := x; exact Heap.lt_size e
  | tup xs => obtain ⟨_, _, _, p⟩ := x; exact p.lt
  | dK kvs => obtain ⟨_, _, _, _, o, _, _, e, _⟩ := x; exact Heap.lt_size e
  | dT kvs => obtain ⟨_, _, _, _, o, _, _, e, _⟩ := x; exact Heap.lt_size e
  | set S n => obtain ⟨o, _, _, _, e, _⟩ := x; exact Heap.lt_size e
  | ins C dx fs => obtain ⟨_, _, _, e, _⟩ := x; exact Heap.lt_size e
  | own y => obtain ⟨_, e⟩ := x; exact Heap.lt_size e
  | xd fs => obtain ⟨_, ⟨_, _, _, e, _⟩, _⟩ := x; exact Heap.lt_size e
  | rng lo hi => obtain ⟨_, _, _, e⟩ := x; exact Heap.lt_size e
  | frz ob u => obtain ⟨e, _⟩ := x; exact Heap.lt_size e
  | tbl ps => exact Heap.lt_size (show h.get? a = some _ from x)
  | met f y => exact Heap.lt_size (show h.get? a = some _ from x)
  | ext φ => obtain ⟨_, ⟨_, e⟩, _⟩ := x; exact Heap.lt_size e
theorem Paired.mapP {α β : Type} {F G : α → β → Prop} : ∀ {l₁ : List α} {l₂ : List β}, Paired F l₁ l₂ → (∀ a b, F a b → G a b) → Paired G l₁ l₂
  | _, _, .nil, _ => .nil
  | _, _, .cons r t, f => .cons (f _ _ r) (Paired.mapP t f)
/-- what an object's description leans on: its own object, its own dict, the tuples -/
theorem ObjOk.stay (x : ObjOk P w H h a o) (k : ∀ b u, (b = a ∨ H b = some (.own a)) → h.get? b = some u → h'.get? b = some u)
    (ho : ∀ b, H b = some (.own a) → H' b = some (.own a)) (ht : ∀ b xs, H b = some (.tup xs) → H' b = some (.tup xs)) : ObjOk P w H' h' a o := by
  induction o with
  | lst xs => obtain ⟨z, its, n, r, e⟩ := x; exact ⟨z, its, n, r, k _ _ (.inl rfl) e⟩
  | tup xs => obtain ⟨z, its, r, ob, e, c⟩ := x; exact ⟨z, its, r, ob, k _ _ (.inl rfl) e, c⟩
  | dK kvs => obtain ⟨z, y, vs, r, ob, es, ep, e, c⟩ := x; exact ⟨z, y, vs, r, ob, es, ep, k _ _ (.inl rfl) e, c⟩
  | dT kvs =>
    obtain ⟨z, y, xs, r, ob, es, ep, e, c⟩ := x
    exact ⟨z, y, xs, Paired.mapP r fun p q z => ⟨z.1, ht _ _ z.2.1, z.2.2⟩, ob, es, ep, k _ _ (.inl rfl) e, c⟩
  | set S n => obtain ⟨ob, es, ep, t, e, c⟩ := x; exact ⟨ob, es, ep, t, k _ _ (.inl rfl) e, c⟩
  | ins C dx fs =>
    obtain ⟨d, z, ne, e, mA, ⟨od, es, ep, e2, c⟩, r⟩ := x
    exact ⟨ho _ d, z, ne, k _ _ (.inl rfl) e, mA, ⟨od, es, ep, k _ _ (.inr d) e2, c⟩, r⟩
  | own y => obtain ⟨ob, e⟩ := x; exact ⟨ob, k _ _ (.inl rfl) e⟩
  | xd fs => obtain ⟨mA, ⟨od, es, ep, e, c⟩, r⟩ := x; exact ⟨mA, ⟨od, es, ep, k _ _ (.inl rfl) e, c⟩, r⟩
  | rng lo hi => obtain ⟨t, u, v, e⟩ := x; exact ⟨t, u, v, k _ _ (.inl rfl) e⟩
  | frz ob u ih => obtain ⟨e, q⟩ := x; exact ⟨k _ _ (.inl rfl) e, ih q⟩
  | tbl ps =>
    have e : h.get? a = some { cls := .none, data := .fields ps } := x
    show h'.get? a = some { cls := .none, data := .fields ps }
    exact k a _ (.inl rfl) e
  | met f y =>
    have e : h.get? a = some (PySem.W.methodObj (.ref f) (.ref y)) := x
    show h'.get? a = some (PySem.W.methodObj (.ref f) (.ref y))
    exact k a _ (.inl rfl) e
  | ext φ => obtain ⟨p, ⟨o, e⟩, st⟩ := x; exact ⟨st _ _ p fun o q => k _ _ (.inl rfl) q, ⟨o, k _ _ (.inl rfl) e⟩, st⟩
theorem HOk.lt (x : HOk P w H h) (e : H a = some o) : a < h.objs.size := (x a o e).lt
theorem HOk.fresh (x : HOk P w H h) (e : h.objs.size ≤ a) : H a = none := by
  cases q : H a with
  | none => rfl
  | some u => exact absurd (Nat.lt_of_lt_of_le (x.lt q) e) (Nat.lt_irrefl _)
/-- every object of the heap is kept -/
theorem HOk.kept (x : HOk P w H h) (k : ∀ b u, h.get? b = some u → h'.get? b = some u) : HOk P w H h' := fun a o e =>
  (x a o e).stay (fun b u _ q => k b u q) (fun _ q => q) fun _ _ q => q
/-- a new object is laid and tracked -/
theorem HOk.laid (x : HOk P w H h) (k : ∀ b u, h.get? b = some u → h'.get? b = some u) (hp : h.objs.size ≤ a) (new : ObjOk P w (upd H a o) h' a o) : HOk P w (upd H a o) h' := fun b u e => by
  have hn := x.fresh hp
  by_cases hb : b = a
  · subst hb; rw [upd_same] at e; cases e; exact new
  · rw [upd_ne hb] at e
    exact (x b u e).stay (fun c v _ q => k c v q) (fun c q => by rw [upd_ne (ne_of_none q hn)]; exact q) fun c xs q => by rw [upd_ne (ne_of_none q hn)]; exact q
end

/-- what may be read as u: it is u, or a known u -/
def Rd (H : Hp) (a : Addr) (u : HO) : Prop := H a = some u ∨ ∃ o, H a = some (.frz o u)
theorem Rd.of {H : Hp} {a : Addr} {u : HO} (h : H a = some u) : Rd H a u := .inl h
theorem Rd.ok {P : Program} {w : World} {H : Hp} {h : Heap} {a : Addr} {u : HO} (r : Rd H a u) (x : HOk P w H h) : ObjOk P w H h a u := by
  rcases r with r | ⟨o, r⟩
  · exact x a u r
  · obtain ⟨_, q⟩ := x a _ r
    exact q
/-- what may be written -/
def Mut : Option HO → Prop
  | some (.lst _) => True
  | some (.dK _) => True
  | some (.dT _) => True
  | some (.set _ _) => True
  | some (.ins _ _ _) => True
  | some (.ext _) => True
  | _ => False
section
variable {P : Program} {w : World} {H : Hp} {h h' : Heap} {x e : Addr} {o' : HO}
/-- the object at e is changed: x itself, or the dict of the instance x -/
theorem HOk.write (ok : HOk P w H h) (mu : Mut (H x)) (he : e = x ∨ H e = some (.own x)) (k : ∀ b u, b ≠ e → h.get? b = some u → h'.get? b = some u) (heo : ∃ u, h'.get? e = some u)
    (new : ObjOk P w (upd H x o') h' x o') : HOk P w (upd H x o') h' := fun b u q => by
  have nown : ∀ c y, H c = some (.own y) → c ≠ x := fun c y r z => by subst z; rw [r] at mu; exact mu
  have ntup : ∀ c xs, H c = some (.tup xs) → c ≠ x := fun c xs r z => by subst z; rw [r] at mu; exact mu
  by_cases hb : b = x
  · subst hb; rw [upd_same] at q; cases q; exact new
  · rw [upd_ne hb] at q
    by_cases hbe : b = e
    · have q' : H b = some (.own x) := by
        rcases he with z | z
        · exact absurd (hbe.trans z) hb
        · rw [hbe]; exact z
      rw [q] at q'; cases q'
      obtain ⟨v, hv⟩ := heo
      exact ⟨v, by rw [hbe]; exact hv⟩
    · refine (ok b u q).stay (fun c v hc r => k c v ?_ r) (fun c r => by rw [upd_ne (nown c b r)]; exact r) fun c xs r => by rw [upd_ne (ntup c xs r)]; exact r
      rcases hc with rfl | hc
      · exact hbe
      · rintro rfl
        rcases he with z | z
        · exact nown c b hc z
        · rw [hc] at z; cases z; exact hb rfl
end

/-! ### kept unless tracked; of the frames at fs (the callers') the slots may change (an exception that passes writes there); of the records at ex (iterators) nothing is said -/
structure Un (fs ex : List Addr) (H H' : Hp) (h h' : Heap) : Prop where
  keep : ∀ b o, h.get? b = some o → H b = none → b ∉ fs → b ∉ ex → h'.get? b = some o
  slot : ∀ b o, h.get? b = some o → H b = none → b ∈ fs → b ∉ ex → ∃ sl, h'.get? b = some { o with slots := sl }
  free : ∀ b o, h.get? b = some o → H b = none → b ∉ ex → H' b = none
  there : ∀ b o, h.get? b = some o → b ∉ ex → ∃ o', h'.get? b = some o'
  tups : ∀ b xs, H b = some (.tup xs) → H' b = some (.tup xs)
  frzs : ∀ b o u, H b = some (.frz o u) → H' b = some (.frz o u)
  tbls : ∀ b ps, H b = some (.tbl ps) → ∃ more, H' b = some (.tbl (ps ++ more))
section
variable {fs fs' ex ex' : List Addr} {H H1 H2 : Hp} {h h1 h2 h' : Heap} {a x e : Addr} {o : HO}
theorem Un.any (u : Un fs ex H H1 h h1) {b : Addr} {ob : Obj} (q : h.get? b = some ob) (n : H b = none) (hx : b ∉ ex) : ∃ sl, h1.get? b = some { ob with slots := sl } := by
  by_cases hb : b ∈ fs
  · exact u.slot b ob q n hb hx
  · exact ⟨ob.slots, u.keep b ob q n hb hx⟩
theorem Un.trans (a : Un fs ex H H1 h h1) (b : Un fs ex H1 H2 h1 h2) : Un fs ex H H2 h h2 where
  keep := fun c ob q n hc hx => b.keep c ob (a.keep c ob q n hc hx) (a.free c ob q n hx) hc hx
  slot := fun c ob q n hc hx => by
    obtain ⟨sl, e1⟩ := a.slot c ob q n hc hx
    obtain ⟨sl', e2⟩ := b.slot c _ e1 (a.free c ob q n hx) hc hx
    exact ⟨sl', e2⟩
  free := fun c ob q n hx => by
    obtain ⟨o', e1⟩ := a.there c ob q hx
    exact b.free c o' e1 (a.free c ob q n hx) hx
  there := fun c ob q hx => by
    obtain ⟨o', e1⟩ := a.there c ob q hx
    exact b.there c o' e1 hx
  tups := fun c xs q => b.tups c xs (a.tups c xs q)
  frzs := fun c ob xs q => b.frzs c ob xs (a.frzs c ob xs q)
  tbls := fun c ps q => by
    obtain ⟨m1, e1⟩ := a.tbls c ps q
    obtain ⟨m2, e2⟩ := b.tbls c _ e1
    exact ⟨m1 ++ m2, by rw [e2, Array.append_assoc]⟩
theorem Un.kept (k : ∀ b u, h.get? b = some u → h'.get? b = some u) : Un fs ex H H h h' :=
  ⟨fun b ob q _ _ _ => k b ob q, fun b ob q _ _ _ => ⟨ob.slots, k b ob q⟩, fun _ _ _ n _ => n, fun b ob q _ => ⟨ob, k b ob q⟩, fun _ _ q => q, fun _ _ _ q => q, fun _ ps q => ⟨#[], by rw [q]; simp⟩⟩
theorem Un.refl : Un fs ex H H h h := Un.kept fun _ _ q => q
theorem Un.laid (k : ∀ b u, h.get? b = some u → h'.get? b = some u) (hp : h.objs.size ≤ a) (hn : H a = none) : Un fs ex H (upd H a o) h h' where
  keep := fun b u q _ _ _ => k b u q
  slot := fun b u q _ _ _ => ⟨u.slots, k b u q⟩
  free := fun b u q n _ => by rw [upd_ne (Nat.ne_of_lt (Nat.lt_of_lt_of_le (Heap.lt_size q) hp))]; exact n
  there := fun b u q _ => ⟨u, k b u q⟩
  tups := fun b xs q => by rw [upd_ne (ne_of_none q hn)]; exact q
  frzs := fun b u xs q => by rw [upd_ne (ne_of_none q hn)]; exact q
  tbls := fun b ps q => ⟨#[], by rw [upd_ne (ne_of_none q hn), q]; simp⟩
theorem Un.write (mu : Mut (H x)) (he : e = x ∨ H e = some (.own x)) (k : ∀ b u, b ≠ e → h.get? b = some u → h'.get? b = some u) (heo : ∃ u, h'.get? e = some u) : Un fs ex H (upd H x o) h h' := by
  have hx : ∀ b, H b = none → b ≠ x := fun b n z => by subst z; rw [n] at mu; exact mu
  have hb : ∀ b, H b = none → b ≠ e := fun b n z => by
    subst z
    rcases he with r | r
    · exact hx b n r
    · rw [n] at r; cases r
  have hm : ∀ b u, H b = some u → ¬ Mut (some u) → b ≠ x := fun b u q nm z => by subst z; rw [q] at mu; exact nm mu
  refine ⟨fun b u q n _ _ => k b u (hb b n) q, fun b u q n _ _ => ⟨u.slots, k b u (hb b n) q⟩, fun b u q n _ => by rw [upd_ne (hx b n)]; exact n, fun b u q _ => ?_,
    fun b xs q => by rw [upd_ne (hm b _ q fun z => z)]; exact q, fun b u xs q => by rw [upd_ne (hm b _ q fun z => z)]; exact q, fun b ps q => ⟨#[], by rw [upd_ne (hm b _ q fun z => z), q]; simp⟩⟩
  by_cases hbe : b = e
  · subst hbe; exact heo
  · exact ⟨u, k b u hbe q⟩
theorem Un.mono (u : Un fs ex H H1 h h1) (hs : ∀ b ∈ fs, b ∈ fs') (hx : ∀ b ∈ ex, b ∈ ex') : Un fs' ex' H H1 h h1 :=
  ⟨fun b ob q n hb he => u.keep b ob q n (fun z => hb (hs b z)) fun z => he (hx b z), fun _ _ q n _ he => u.any q n fun z => he (hx _ z), fun b ob q n he => u.free b ob q n fun z => he (hx b z), fun b ob q he => u.there b ob q fun z => he (hx b z), u.tups, u.frzs, u.tbls⟩
end

/-! ### the heap without what is tracked -/
def trk (h : Heap) (H : Hp) : List Addr := (List.range h.objs.size).filter fun a => (H a).isSome
def hidT (h : Heap) (H : Hp) : Heap := PySem.W.hideAll h (trk h H)
theorem hidT_size (h : Heap) (H : Hp) : (hidT h H).objs.size = h.objs.size := PySem.W.hideAll_size _ _
theorem hidT_get {h : Heap} {H : Hp} {b : Addr} {o : Obj} (e : h.get? b = some o) (n : H b = none) : (hidT h H).get? b = some o :=
  PySem.W.hideAll_get _ e fun hm => by
    have q : (H b).isSome = true := (List.mem_filter.mp hm).2
    rw [n] at q; simp at q
theorem of_hidT {h : Heap} {H : Hp} {b : Addr} {o : Obj} (e : (hidT h H).get? b = some o) : h.get? b = some o ∧ H b = none := by
  have e' : h.get? b = some o := PySem.W.of_hideAll (trk h H) e
  refine ⟨e', ?_⟩
  cases q : H b with
  | none => rfl
  | some x =>
    have hm : b ∈ trk h H := List.mem_filter.mpr ⟨List.mem_range.mpr (Heap.lt_size e'), by simp [q]⟩
    have z : (hidT h H).get? b = none := PySem.W.hideAll_none (trk h H) hm
    rw [z] at e; cases e

/-! ### OpenK's ledger, filled with every new object but one -/
def allNews (g h : Heap) (L : Addr) : List (Addr × Obj) := (List.range h.objs.size).filterMap fun a => if a = L ∨ (g.get? a).isSome = true then none else (h.get? a).map fun o => (a, o)
def rest (g h : Heap) (L d : Addr) : List (Addr × Obj) := (allNews g h L).filter fun p => decide (p.1 ≠ d)
end L2

namespace L2
open PySem PySem.Spec PyProof.Rows

/-- the module's facts, over the base: the heap at the law's entry without what is tracked there -/
structure Mod (K : PySem.W.Frag) (mg : Str → Option Value) (base : Heap) : Prop where
  kin : K.In base
  glob : base.Ns mainGlobals mg
  blt : ∃ mb, base.Ns builtinsNs mb ∧ ∀ x : Str, x ≠ "__name__" → mb x = bootBuiltins x
  nolimit : base.NoLimit

/-- the context: a def's body (or a comprehension's block) running. base: fixed through the whole law; s₀, H₀: the entry; outer: the frames whose slots others may change (a def's callers); stack: all frames that run;
   ex: iterators that were made ahead of the entry and are walked here (a comprehension's); fn: the names whose cells were made at the entry (a def: all; a comprehension's block: its own); calm: not within an except suite; pn: pins that every state bears; xe: what is wanted of an exception that leaves the code -/
structure Cx where
  prog : Program
  w : World
  K : PySem.W.Frag
  mg : Str → Option Value
  base : Heap
  A : Around
  N : List Str
  s_0 : Shared
  H_0 : Hp
  env : Env
  outer : List Env
  stack : List Env
  ex : List Addr
  fn : Str → Bool
  calm : Bool
  pn : List (Addr × Obj)
  xe : Value → Shared → Prop
/-- the callers' frames -/
def frs (l : List Env) : List Addr := l.filterMap (·.frame)
abbrev Cx.fs (X : Cx) : List Addr := frs X.outer

def Vis (sc : Scope) (x : Str) : Prop := sc.names.lookup x = some .local ∨ sc.names.lookup x = some .cell ∨ sc.names.lookup x = some .free
def Loc (sc : Scope) (x : Str) : Prop := sc.names.lookup x = some .local ∨ sc.names.lookup x = some .cell
def Look (env : Env) (h : Heap) (m : Str → Option Value) (x : Str) (u : Value) : Prop :=
  (env.kindOf x = some .local ∧ m x = some u) ∨ ((env.kindOf x = some .cell ∨ env.kindOf x = some .free) ∧ ∃ c, env.cells.lookup x = some c ∧ h.IsCell c (some u))

structure Cx.Ok (X : Cx) : Prop where
  mod : Mod X.K X.mg X.base
  kind : X.env.scope.kind = .function
  glob : X.env.globals = mainGlobals
  blt : X.env.builtins = builtinsNs
  above : X.s_0.heap.objs.size ≤ X.env.locals
  inj : ∀ x y c, X.env.cells.lookup x = some c → X.env.cells.lookup y = some c → x = y
  has : ∀ x, (X.env.kindOf x = some .cell ∨ X.env.kindOf x = some .free) → ∃ c, X.env.cells.lookup x = some c
  cab : ∀ x c, X.fn x = true → X.env.cells.lookup x = some c → X.s_0.heap.objs.size ≤ c
  hd : X.calm = true → X.A.handled = none
  frames : X.A.frames = some X.stack
  stk : X.stack = X.outer ∨ (X.stack = X.env :: X.outer ∧ X.env.frame = some X.env.locals)
  exf : ∀ b ∈ X.ex, b ≠ X.env.locals ∧ ∀ x c, X.env.cells.lookup x = some c → c ≠ b
  bs : ∀ b o, X.base.get? b = some o → X.s_0.heap.get? b = some o ∧ X.H_0 b = none
  bsz : X.base.objs.size ≤ X.s_0.heap.objs.size
  noex : ∀ b o, X.base.get? b = some o → b ∉ X.ex
  exfs : ∀ b ∈ X.ex, b ∉ X.fs
  funs : X.s_0.heap.FunFrames X.base X.outer
  frf : ∀ b ∈ X.fs, X.H_0 b = none

structure Inv (X : Cx) (pins : List (Addr × Obj)) (σ : List (Option V)) (H : Hp) (s : Shared) : Prop where
  ok : X.Ok
  os : s.os = X.s_0.os
  bare : AllBare s.gens
  base : Un X.fs X.ex X.H_0 H X.s_0.heap s.heap
  loc : ∃ m, s.heap.Ns X.env.locals m ∧ ∀ (i : Nat) (x : Str) (v : V), X.N[i]? = some x → σ[i]? = some (some v) → Vis X.env.scope x → ∃ u, RelV v u ∧ Look X.env s.heap m x u
  cell : ∀ x c, X.env.cells.lookup x = some c → ∃ v, s.heap.IsCell c v
  free : H X.env.locals = none
  freeC : ∀ x c, X.env.cells.lookup x = some c → H c = none
  pin : ∀ p ∈ X.pn ++ pins, s.heap.get? p.1 = some p.2 ∧ H p.1 = none ∧ p.1 ≠ X.env.locals ∧ p.1 ∉ X.fs ∧ ∀ v, p.2.data ≠ .cell v
  hok : HOk X.prog X.w H s.heap
  len : σ.length = X.N.length

section
variable {X : Cx} {pins : List (Addr × Obj)} {σ : List (Option V)} {H H' : Hp} {s : Shared} {h' : Heap}

theorem Cx.Ok.nofr (ok : X.Ok) {b : Addr} {o : Obj} (e : X.base.get? b = some o) : b ∉ X.fs := fun hb => by
  have := (ok.funs.mem hb).1
  rw [e] at this; cases this
theorem Inv.bs (I : Inv X pins σ H s) : ∀ b o, X.base.get? b = some o → s.heap.get? b = some o ∧ H b = none := fun b o e =>
  ⟨I.base.keep b o (I.ok.bs b o e).1 (I.ok.bs b o e).2 (I.ok.nofr e) (I.ok.noex b o e), I.base.free b o (I.ok.bs b o e).1 (I.ok.bs b o e).2 (I.ok.noex b o e)⟩
theorem Inv.bk (I : Inv X pins σ H s) : ∀ b o, X.base.get? b = some o → s.heap.get? b = some o := fun b o e => (I.bs b o e).1
theorem Inv.mod (I : Inv X pins σ H s) : Mod X.K X.mg X.base := I.ok.mod
theorem Inv.kIn (I : Inv X pins σ H s) : X.K.In s.heap := I.ok.mod.kin.keeps I.bk
theorem Inv.nolimit (I : Inv X pins σ H s) : s.heap.NoLimit := I.ok.mod.nolimit.keeps I.bk
/-- the frame over the base: for OpenK's rules (K.In X.base is I.mod.kin) -/
theorem Inv.fr (I : Inv X pins σ H s) : ∃ m, Fr X.base X.env.locals s.heap m :=
  let ⟨m, hn, _⟩ := I.loc
  ⟨m, hn, I.bk, Nat.le_trans I.ok.bsz I.ok.above⟩
theorem Inv.lt (I : Inv X pins σ H s) : X.env.locals < s.heap.objs.size := let ⟨_, hn, _⟩ := I.loc; hn.lt
theorem Inv.sz (I : Inv X pins σ H s) : X.s_0.heap.objs.size ≤ s.heap.objs.size := Nat.le_trans I.ok.above (Nat.le_of_lt I.lt)
theorem Inv.nofs (I : Inv X pins σ H s) {a : Addr} (h : s.heap.objs.size ≤ a) : a ∉ X.fs := fun hb => by
  obtain ⟨_, o, ho, _⟩ := I.ok.funs.mem hb
  exact absurd (Nat.lt_of_lt_of_le (Heap.lt_size ho) (Nat.le_trans I.sz h)) (Nat.lt_irrefl _)
theorem Inv.cne (I : Inv X pins σ H s) : ∀ x c, X.env.cells.lookup x = some c → c ≠ X.env.locals := fun x c e z => by
  obtain ⟨v, o, ho, hd⟩ := I.cell x c e
  obtain ⟨m, ⟨o', es, ep, ho', hd', _⟩, _⟩ := I.loc
  rw [z, ho'] at ho; cases ho; rw [hd'] at hd; cases hd
theorem Inv.funs (I : Inv X pins σ H s) : s.heap.FunFrames X.base X.outer := by
  have all : ∀ (l : List Env), (∀ b ∈ frs l, b ∈ X.fs) → X.s_0.heap.FunFrames X.base l → s.heap.FunFrames X.base l := by
    intro l
    induction l with
    | nil => intro _ _; trivial
    | cons env r ih =>
      intro hs hl
      obtain ⟨hk, ⟨L, o, hf, hn, ho, hd⟩, hr⟩ := hl
      have hL : L ∈ X.fs := hs L (by unfold frs; rw [List.filterMap_cons, hf]; exact List.mem_cons_self)
      obtain ⟨sl, e⟩ := I.base.slot L o ho (I.ok.frf L hL) hL fun z => I.ok.exfs L z hL
      exact ⟨hk, ⟨L, _, hf, hn, e, hd⟩, ih (fun b hb => hs b (by unfold frs; rw [List.filterMap_cons, hf]; exact List.mem_cons_of_mem _ hb)) hr⟩
  exact all X.outer (fun _ hb => hb) I.ok.funs

/-- the frames that run, for a call -/
theorem Inv.stack (I : Inv X pins σ H s) : s.heap.FunFrames X.base X.stack := by
  rcases I.ok.stk with e | ⟨e, hf⟩
  · rw [e]; exact I.funs
  · rw [e]
    obtain ⟨m, hn, _⟩ := I.loc
    refine .cons (by rw [I.ok.kind]; decide) hf hn ?_ I.funs
    exact Heap.get?_none_of_le (Nat.le_trans I.ok.bsz I.ok.above)
theorem Inv.stkSub (I : Inv X pins σ H s) : ∀ b ∈ frs X.stack, b ∈ X.env.locals :: X.fs := fun b hb => by
  rcases I.ok.stk with e | ⟨e, hf⟩
  · rw [e] at hb; exact List.mem_cons_of_mem _ hb
  · rw [e] at hb
    unfold frs at hb
    rw [List.filterMap_cons, hf] at hb
    exact hb
theorem Inv.stkFree (I : Inv X pins σ H s) : ∀ b ∈ frs X.stack, H b = none := fun b hb => by
  rcases List.mem_cons.mp (I.stkSub b hb) with e | hb
  · rw [e]; exact I.free
  · obtain ⟨_, o, ho, _⟩ := I.ok.funs.mem hb
    exact I.base.free b o ho (I.ok.frf b hb) fun z => I.ok.exfs b z hb

/-- THE STEP: the untracked objects but the frame and the records at ch are kept (the callers' frames up to slots), the frame's map is kept, the new abstract heap is held -/
theorem Inv.step {g' : Array GenState} {t' : Nat} {d' : Drawn} {ch : List Addr} (I : Inv X pins σ H s)
    (hch : ∀ b ∈ ch, (b ∈ X.ex ∨ X.s_0.heap.objs.size ≤ b) ∧ b ≠ X.env.locals ∧ (∀ x c, X.env.cells.lookup x = some c → c ≠ b) ∧ ∀ p ∈ X.pn ++ pins, p.1 ≠ b)
    (keep : ∀ b o, b ≠ X.env.locals → b ∉ X.fs → b ∉ ch → s.heap.get? b = some o → H b = none → h'.get? b = some o)
    (slot : ∀ b o, b ≠ X.env.locals → b ∈ X.fs → b ∉ ch → s.heap.get? b = some o → H b = none → ∃ sl, h'.get? b = some { o with slots := sl }) (free : ∀ b o, b ∉ ch → s.heap.get? b = some o → H b = none → H' b = none)
    (there : ∀ b o, b ∉ ch → s.heap.get? b = some o → ∃ o', h'.get? b = some o')
    (tups : ∀ b xs, H b = some (.tup xs) → H' b = some (.tup xs)) (frzs : ∀ b o u, H b = some (.frz o u) → H' b = some (.frz o u)) (tbls : ∀ b ps, H b = some (.tbl ps) → ∃ more, H' b = some (.tbl (ps ++ more)))
    (ns : ∀ m, s.heap.Ns X.env.locals m → h'.Ns X.env.locals m) (hok : HOk X.prog X.w H' h') (hg : AllBare g') :
    Inv X pins σ H' { s with heap := h', gens := g', drawn := d', toks := t' } := by
  have neL : ∀ b o, X.s_0.heap.get? b = some o → b ≠ X.env.locals := fun b o e => Nat.ne_of_lt (Nat.lt_of_lt_of_le (Heap.lt_size e) I.ok.above)
  have neC : ∀ b o, X.s_0.heap.get? b = some o → b ∉ X.ex → b ∉ ch := fun b o e hx hb => by
    rcases (hch b hb).1 with z | z
    · exact hx z
    · exact absurd (Nat.lt_of_lt_of_le (Heap.lt_size e) z) (Nat.lt_irrefl _)
  have cellK : ∀ x c, X.env.cells.lookup x = some c → ∀ v, s.heap.IsCell c v → h'.IsCell c v := fun x c e v ⟨o, ho, hd⟩ => by
    have nch : c ∉ ch := fun z => (hch c z).2.2.1 x c e rfl
    by_cases hc : c ∈ X.fs
    · obtain ⟨sl, q⟩ := slot c o (I.cne x c e) hc nch ho (I.freeC x c e)
      exact ⟨_, q, hd⟩
    · exact ⟨o, keep c o (I.cne x c e) hc nch ho (I.freeC x c e), hd⟩
  refine ⟨I.ok, I.os, hg, ⟨fun b o e n hb hx => ?_, fun b o e n hb hx => ?_, fun b o e n hx => ?_, fun b o e hx => ?_, fun b xs e => tups b xs (I.base.tups b xs e), fun b o xs e => frzs b o xs (I.base.frzs b o xs e), fun b ps e => ?_⟩, ?_, fun x c e => ?_, ?_, fun x c e => ?_, fun p hp => ?_, hok, I.len⟩
  · exact keep b o (neL b o e) hb (neC b o e hx) (I.base.keep b o e n hb hx) (I.base.free b o e n hx)
  · obtain ⟨sl, e1⟩ := I.base.slot b o e n hb hx
    obtain ⟨sl', e2⟩ := slot b _ (neL b o e) hb (neC b o e hx) e1 (I.base.free b o e n hx)
    exact ⟨sl', e2⟩
  · obtain ⟨o', e1⟩ := I.base.there b o e hx
    exact free b o' (neC b o e hx) e1 (I.base.free b o e n hx)
  · obtain ⟨o', e1⟩ := I.base.there b o e hx
    exact there b o' (neC b o e hx) e1
  · obtain ⟨m1, e1⟩ := I.base.tbls b ps e
    obtain ⟨m2, e2⟩ := tbls b _ e1
    exact ⟨m1 ++ m2, by rw [e2, Array.append_assoc]⟩
  · obtain ⟨m, hn, hl⟩ := I.loc
    refine ⟨m, ns m hn, fun i x v e1 e2 e3 => ?_⟩
    obtain ⟨u, r, l⟩ := hl i x v e1 e2 e3
    refine ⟨u, r, ?_⟩
    rcases l with l | ⟨k, c, e, z⟩
    · exact .inl l
    · exact .inr ⟨k, c, e, cellK x c e _ z⟩
  · obtain ⟨v, z⟩ := I.cell x c e
    exact ⟨v, cellK x c e v z⟩
  · obtain ⟨m, ⟨o, _, _, ho, _⟩, _⟩ := I.loc
    exact free _ o (fun z => (hch _ z).2.1 rfl) ho I.free
  · obtain ⟨v, o, ho, hd⟩ := I.cell x c e
    exact free c o (fun z => (hch c z).2.2.1 x c e rfl) ho (I.freeC x c e)
  · obtain ⟨e, n, ne, nf, d⟩ := I.pin p hp
    have nch : p.1 ∉ ch := fun z => (hch p.1 z).2.2.2 p hp rfl
    exact ⟨keep p.1 p.2 ne nf nch e n, free p.1 p.2 nch e n, ne, nf, d⟩
/-- .. where the frame's own object is kept too -/
theorem Inv.un {t' : Nat} (I : Inv X pins σ H s) (u : Un X.fs [] H H' s.heap h') (hok : HOk X.prog X.w H' h') : Inv X pins σ H' { s with heap := h', toks := t' } := by
  obtain ⟨m, ⟨o, es, ep, ho, r⟩, _⟩ := id I.loc
  obtain ⟨sl, hL⟩ := u.any ho I.free (by simp)
  exact I.step (g' := s.gens) (d' := s.drawn) (ch := []) (fun _ z => nomatch z) (fun b o _ hb _ e n => u.keep b o e n hb (by simp)) (fun b o _ hb _ e n => u.slot b o e n hb (by simp)) (fun b o _ e n => u.free b o e n (by simp)) (fun b o _ e => u.there b o e (by simp)) u.tups u.frzs u.tbls (fun m' hm => by
    obtain ⟨o', es', ep', ho', r'⟩ := hm
    rw [ho] at ho'; cases ho'
    exact ⟨_, es', ep', hL, r'⟩) hok I.bare
/-- behind a call (or a comprehension's block): the slots of this frame may have changed too, the records at ch may have turned -/
theorem Inv.call {g' : Array GenState} {t' : Nat} {d' : Drawn} {ch : List Addr} (I : Inv X pins σ H s) (u : Un (frs X.stack) ch H H' s.heap h') (hok : HOk X.prog X.w H' h') (hg : AllBare g')
    (hch : ∀ b ∈ ch, (b ∈ X.ex ∨ X.s_0.heap.objs.size ≤ b) ∧ b ≠ X.env.locals ∧ (∀ x c, X.env.cells.lookup x = some c → c ≠ b) ∧ ∀ p ∈ X.pn ++ pins, p.1 ≠ b) :
    Inv X pins σ H' { s with heap := h', gens := g', drawn := d', toks := t' } := by
  obtain ⟨m, ⟨o, es, ep, ho, r⟩, _⟩ := id I.loc
  obtain ⟨sl, hL⟩ := u.any ho I.free fun z => (hch _ z).2.1 rfl
  exact I.step (ch := ch) hch (fun b o hL hb hc e n => u.keep b o e n (fun z => (List.mem_cons.mp (I.stkSub b z)).elim hL hb) hc) (fun b o _ _ hc e n => u.any e n hc) (fun b o hc e n => u.free b o e n hc) (fun b o hc e => u.there b o e hc) u.tups u.frzs u.tbls (fun m' hm => by
    obtain ⟨o', es', ep', ho', r'⟩ := hm
    rw [ho] at ho'; cases ho'
    exact ⟨_, es', ep', hL, r'⟩) hok hg
/-- an untracked record of ours (an iterator) has turned -/
theorem Inv.turned {t' : Nat} {it : Addr} (I : Inv X pins σ H s) (k : ∀ b o, b ≠ it → s.heap.get? b = some o → h'.get? b = some o) (hn : H it = none) (hL : it ≠ X.env.locals)
    (h1 : it ∈ X.ex ∨ X.s_0.heap.objs.size ≤ it) (h2 : ∀ x c, X.env.cells.lookup x = some c → c ≠ it) (h3 : ∀ p ∈ X.pn ++ pins, p.1 ≠ it) : Inv X pins σ H { s with heap := h', toks := t' } := by
  have nit : ∀ b u, H b = some u → b ≠ it := fun b u e z => by rw [z, hn] at e; cases e
  refine I.step (g' := s.gens) (d' := s.drawn) (ch := [it]) (fun b hb => ?_) (fun b o _ _ hc e _ => k b o (fun z => hc (by simp [z])) e) (fun b o _ _ hc e _ => ⟨o.slots, k b o (fun z => hc (by simp [z])) e⟩) (fun _ _ _ _ n => n)
    (fun b o hc e => ⟨o, k b o (fun z => hc (by simp [z])) e⟩) (fun _ _ e => e) (fun _ _ _ e => e) (fun b ps e => ⟨#[], by rw [e]; simp⟩) (fun m hm => ?_) (fun b u e => ?_) I.bare
  · have e : b = it := by simpa using hb
    subst e
    exact ⟨h1, hL, h2, h3⟩
  · obtain ⟨o, es, ep, ho, r⟩ := hm
    exact ⟨o, es, ep, k _ o (Ne.symm hL) ho, r⟩
  · refine (I.hok b u e).stay (fun c v hc q => k c v ?_ q) (fun _ q => q) fun _ _ q => q
    rcases hc with z | z
    · rw [z]; exact nit b u e
    · exact nit c _ z
theorem Inv.tok (I : Inv X pins σ H s) (t : Nat) : Inv X pins σ H { s with toks := t } := I.un (h' := s.heap) (t' := t) Un.refl I.hok
/-- all objects kept -/
theorem Inv.kept {t' : Nat} (I : Inv X pins σ H s) (k : ∀ b u, s.heap.get? b = some u → h'.get? b = some u) : Inv X pins σ H { s with heap := h', toks := t' } := I.un (Un.kept k) (I.hok.kept k)
/-- a new object laid and tracked -/
theorem Inv.laid {a : Addr} {o : HO} {t' : Nat} (I : Inv X pins σ H s) (k : ∀ b u, s.heap.get? b = some u → h'.get? b = some u) (hp : s.heap.objs.size ≤ a) (new : ObjOk X.prog X.w (upd H a o) h' a o) :
    Inv X pins σ (upd H a o) { s with heap := h', toks := t' } := I.un (Un.laid k hp (I.hok.fresh hp)) (I.hok.laid k hp new)
/-- an object written -/
theorem Inv.write {x e : Addr} {o : HO} {t' : Nat} (I : Inv X pins σ H s) (mu : Mut (H x)) (he : e = x ∨ H e = some (.own x)) (k : ∀ b u, b ≠ e → s.heap.get? b = some u → h'.get? b = some u) (heo : ∃ u, h'.get? e = some u)
    (new : ObjOk X.prog X.w (upd H x o) h' x o) : Inv X pins σ (upd H x o) { s with heap := h', toks := t' } := I.un (Un.write mu he k heo) (I.hok.write mu he k heo new)
/-- forgetting slots, pins -/
theorem Inv.weak {σ' : List (Option V)} (I : Inv X pins σ H s) (hl : σ'.length = σ.length) (w : ∀ (i : Nat) v, σ'[i]? = some (some v) → σ[i]? = some (some v)) : Inv X pins σ' H s :=
  ⟨I.ok, I.os, I.bare, I.base, let ⟨m, hn, hl'⟩ := I.loc; ⟨m, hn, fun i x v e1 e2 e3 => hl' i x v e1 (w i v e2) e3⟩, I.cell, I.free, I.freeC, I.pin, I.hok, hl.trans I.len⟩
theorem Inv.pins_of {pins' : List (Addr × Obj)} (I : Inv X pins σ H s) (h : ∀ p ∈ pins', s.heap.get? p.1 = some p.2 ∧ H p.1 = none ∧ p.1 ≠ X.env.locals ∧ p.1 ∉ X.fs ∧ ∀ v, p.2.data ≠ .cell v) : Inv X pins' σ H s :=
  ⟨I.ok, I.os, I.bare, I.base, I.loc, I.cell, I.free, I.freeC, fun p hp => (List.mem_append.mp hp).elim (fun z => I.pin p (List.mem_append_left _ z)) (h p), I.hok, I.len⟩

theorem nodup_ix {N : List Str} (hN : N.Nodup) {i j : Nat} {x : Str} (a : N[i]? = some x) (b : N[j]? = some x) : i = j := by
  obtain ⟨h1, e1⟩ := List.getElem?_eq_some_iff.mp a
  obtain ⟨h2, e2⟩ := List.getElem?_eq_some_iff.mp b
  exact (List.getElem_inj hN).mp (e1.trans e2.symm)

/-- a name is stored; what changed -/
theorem store_ok2 {M : Model} {A : Around} {E : Value → Shared → Prop} {i : Nat} {x : Str} {v : V} {u : Value} {Q : Unit → Shared → Prop} (I : Inv X pins σ H s) (hN : X.N.Nodup) (hi : X.N[i]? = some x) (hx : Loc X.env.scope x) (r : RelV v u)
    (h : ∀ s', Inv X pins (σ.set i (some v)) H s' → (∃ a, Heap.SameBut a s.heap s'.heap ∧ (a = X.env.locals ∨ X.env.cells.lookup x = some a)) → Q () s') (hf : X.fn x = true ∨ X.env.scope.names.lookup x = some .local := by first | exact .inl rfl | exact .inr rfl | assumption) : wpAny M A (storeName X.env x u) Q E s := by
  obtain ⟨m, hn, hl⟩ := id I.loc
  have hcls : (X.env.scope.kind == .class || (X.env.scope.kind == .module && X.env.locals != X.env.globals)) = false := by rw [I.ok.kind]; rfl
  have hiσ : i < σ.length := by rw [I.len]; exact (List.getElem?_eq_some_iff.mp hi).1
  have cne := I.cne
  have tracked : ∀ {a : Addr} {h' : Heap}, (∃ o, s.heap.get? a = some o ∧ H a = none) → Heap.SameBut a s.heap h' → HOk X.prog X.w H h' := fun {a h'} ha hs b ob e => by
    obtain ⟨_, _, hfree⟩ := ha
    refine (I.hok b ob e).stay (fun c w' hc q => (hs.2 c ?_).trans q) (fun _ q => q) fun _ _ q => q
    rintro rfl
    rcases hc with rfl | hc
    · rw [hfree] at e; cases e
    · rw [hfree] at hc; cases hc
  rcases hx with hk | hk
  · refine wpAny_storeName_local hk hn (fun h' hn' hs => ?_) hcls
    obtain ⟨oL, _, _, hoL, _⟩ := id hn
    refine h _ ⟨I.ok, I.os, I.bare, ⟨fun b o e n hb hx => ?_, fun b o e n hb hx => ?_, I.base.free, fun b o e hx => ?_, I.base.tups, I.base.frzs, I.base.tbls⟩, ⟨_, hn', fun j y v' e1 e2 e3 => ?_⟩, fun y c e => ?_, I.free, I.freeC, fun p hp => ?_, tracked ⟨oL, hoL, I.free⟩ hs, by simpa using I.len⟩ ⟨_, hs, .inl rfl⟩
    · exact (hs.2 b (Nat.ne_of_lt (Nat.lt_of_lt_of_le (Heap.lt_size e) I.ok.above))).trans (I.base.keep b o e n hb hx)
    · obtain ⟨sl, e1⟩ := I.base.slot b o e n hb hx
      exact ⟨sl, (hs.2 b (Nat.ne_of_lt (Nat.lt_of_lt_of_le (Heap.lt_size e) I.ok.above))).trans e1⟩
    · obtain ⟨o', e1⟩ := I.base.there b o e hx
      exact ⟨o', (hs.2 b (Nat.ne_of_lt (Nat.lt_of_lt_of_le (Heap.lt_size e) I.ok.above))).trans e1⟩
    · by_cases hj : j = i
      · subst hj
        rw [hi] at e1; cases e1
        rw [List.getElem?_set_self hiσ] at e2
        cases e2
        exact ⟨u, r, .inl ⟨hk, by simp⟩⟩
      · rw [List.getElem?_set_ne (Ne.symm hj)] at e2
        obtain ⟨u', r', q⟩ := hl j y v' e1 e2 e3
        refine ⟨u', r', ?_⟩
        rcases q with ⟨k, e⟩ | ⟨k, c, e, z⟩
        · refine .inl ⟨k, ?_⟩
          have : y ≠ x := fun e => hj (nodup_ix hN e1 (e ▸ hi))
          simp [this, e]
        · exact .inr ⟨k, c, e, z.sameBut hs (cne y c e)⟩
    · obtain ⟨w', z⟩ := I.cell y c e
      exact ⟨w', z.sameBut hs (cne y c e)⟩
    · obtain ⟨e, n, ne, nf, d⟩ := I.pin p hp
      exact ⟨(hs.2 p.1 ne).trans e, n, ne, nf, d⟩
  · have hfn : X.fn x = true := by
      rcases hf with z | z
      · exact z
      · rw [z] at hk; cases hk
    obtain ⟨c, hc⟩ := I.ok.has x (.inl hk)
    obtain ⟨w', z⟩ := I.cell x c hc
    refine wpAny_storeName_cell I.ok.kind hk hc z (fun h' hc' hs => ?_)
    obtain ⟨oc, hoc, hocd⟩ := id z
    refine h { s with heap := h' } ⟨I.ok, I.os, I.bare, ⟨fun b o e n hb hx => ?_, fun b o e n hb hx => ?_, I.base.free, fun b o e hx => ?_, I.base.tups, I.base.frzs, I.base.tbls⟩, ⟨m, hn.sameBut hs (Ne.symm (cne x c hc)), fun j y v' e1 e2 e3 => ?_⟩, fun y c' e => ?_, I.free, I.freeC, fun p hp => ?_, tracked ⟨oc, hoc, I.freeC x c hc⟩ hs, by simpa using I.len⟩ ⟨c, hs, .inr hc⟩
    · exact (hs.2 b (Nat.ne_of_lt (Nat.lt_of_lt_of_le (Heap.lt_size e) (I.ok.cab x c hfn hc)))).trans (I.base.keep b o e n hb hx)
    · obtain ⟨sl, e1⟩ := I.base.slot b o e n hb hx
      exact ⟨sl, (hs.2 b (Nat.ne_of_lt (Nat.lt_of_lt_of_le (Heap.lt_size e) (I.ok.cab x c hfn hc)))).trans e1⟩
    · obtain ⟨o', e1⟩ := I.base.there b o e hx
      exact ⟨o', (hs.2 b (Nat.ne_of_lt (Nat.lt_of_lt_of_le (Heap.lt_size e) (I.ok.cab x c hfn hc)))).trans e1⟩
    · by_cases hj : j = i
      · subst hj
        rw [hi] at e1; cases e1
        rw [List.getElem?_set_self hiσ] at e2
        cases e2
        exact ⟨u, r, .inr ⟨.inl hk, c, hc, hc'⟩⟩
      · rw [List.getElem?_set_ne (Ne.symm hj)] at e2
        obtain ⟨u', r', q⟩ := hl j y v' e1 e2 e3
        refine ⟨u', r', ?_⟩
        rcases q with q | ⟨k, c', e, z'⟩
        · exact .inl q
        · refine .inr ⟨k, c', e, z'.sameBut hs ?_⟩
          rintro rfl
          exact hj (nodup_ix hN e1 (I.ok.inj _ _ _ e hc ▸ hi))
    · by_cases hcc : c' = c
      · subst hcc; exact ⟨_, hc'⟩
      · obtain ⟨w2, z2⟩ := I.cell y c' e
        exact ⟨w2, z2.sameBut hs hcc⟩
    · obtain ⟨e, n, ne, nf, d⟩ := I.pin p hp
      refine ⟨(hs.2 p.1 ?_).trans e, n, ne, nf, d⟩
      intro q
      rw [q, hoc] at e
      have q' : oc = p.2 := Option.some.inj e
      exact d w' (by rw [← q']; exact hocd)
theorem store_ok {M : Model} {A : Around} {E : Value → Shared → Prop} {i : Nat} {x : Str} {v : V} {u : Value} {Q : Unit → Shared → Prop} (I : Inv X pins σ H s) (hN : X.N.Nodup) (hi : X.N[i]? = some x) (hx : Loc X.env.scope x) (r : RelV v u)
    (h : ∀ s', Inv X pins (σ.set i (some v)) H s' → Q () s') (hf : X.fn x = true ∨ X.env.scope.names.lookup x = some .local := by first | exact .inl rfl | exact .inr rfl | assumption) : wpAny M A (storeName X.env x u) Q E s :=
  store_ok2 I hN hi hx r (fun s' I' _ => h s' I') hf
/-- behind a call or a block, the state as it is -/
theorem Inv.call' {s' : Shared} {ch : List Addr} (I : Inv X pins σ H s) (ho : s'.os = s.os) (u : Un (frs X.stack) ch H H' s.heap s'.heap) (hok : HOk X.prog X.w H' s'.heap) (hg : AllBare s'.gens)
    (hch : ∀ b ∈ ch, (b ∈ X.ex ∨ X.s_0.heap.objs.size ≤ b) ∧ b ≠ X.env.locals ∧ (∀ x c, X.env.cells.lookup x = some c → c ≠ b) ∧ ∀ p ∈ X.pn ++ pins, p.1 ≠ b) : Inv X pins σ H' s' := by
  obtain ⟨h', g', d', t', o'⟩ := s'
  have e : o' = s.os := ho
  subst e
  exact I.call (g' := g') (t' := t') (d' := d') u hok hg hch
end

/-! ### the judgements -/
/-- an exception: its class, its own dict's address (where it has one), the abstract heap behind it -/
abbrev XK := Value → Option Addr → Hp → Prop
abbrev St := List (Option V)
abbrev VK := V → Hp → Prop
/-- an expression's reading; a test's; an argument list's -/
abbrev TE := St → Hp → VK → Prop
abbrev TT := St → Hp → (Bool → Hp → Prop) → Prop
abbrev TA := St → Hp → (List V → Hp → Prop) → Prop
/-- what is wanted behind a statement -/
structure Ends where
  nx : St → Hp → Prop
  rt : VK
  bk : St → Hp → Prop := fun _ _ => False
  ct : St → Hp → Prop := fun _ _ => False
abbrev TS := Ends → St → Hp → Prop

def EP (X : Cx) (pins : List (Addr × Obj)) (σ : St) (Q : VK) (u : Value) (s' : Shared) : Prop := ∃ v H', Inv X pins σ H' s' ∧ RelV v u ∧ Q v H'
def TP (X : Cx) (pins : List (Addr × Obj)) (σ : St) (Q : Bool → Hp → Prop) (b : Bool) (s' : Shared) : Prop := ∃ H', Inv X pins σ H' s' ∧ Q b H'
def AP (X : Cx) (pins : List (Addr × Obj)) (σ : St) (Q : List V → Hp → Prop) (us : List Value) (s' : Shared) : Prop := ∃ vs H', Inv X pins σ H' s' ∧ Vals vs us ∧ Q vs H'
def SP (X : Cx) (pins : List (Addr × Obj)) (D : Ends) (f : Flow) (s' : Shared) : Prop :=
  match f with
  | .next => ∃ σ' H', Inv X pins σ' H' s' ∧ D.nx σ' H'
  | .brk => ∃ σ' H', Inv X pins σ' H' s' ∧ D.bk σ' H'
  | .cont => ∃ σ' H', Inv X pins σ' H' s' ∧ D.ct σ' H'
  | .ret u => ∃ v σ' H', Inv X pins σ' H' s' ∧ RelV v u ∧ D.rt v H'

def PE (X : Cx) (e : Expr) (t : TE) : Prop :=
  ∀ (pins : List (Addr × Obj)) (s : Shared) (σ : St) (H : Hp) (Q : VK), Inv X pins σ H s → t σ H Q → wpAny (model X.prog X.w) X.A (eval e X.env) (EP X pins σ Q) X.xe s
def PT (X : Cx) (e : Expr) (t : TT) : Prop :=
  ∀ (pins : List (Addr × Obj)) (s : Shared) (σ : St) (H : Hp) (Q : Bool → Hp → Prop), Inv X pins σ H s → t σ H Q → wpAny (model X.prog X.w) X.A (isTrue e X.env (eval e X.env)) (TP X pins σ Q) X.xe s
/-- a test whatever its 'whole' is (and, or) -/
def PW (X : Cx) (e : Expr) (t : TT) : Prop :=
  ∀ (whole : Sem Value) (pins : List (Addr × Obj)) (s : Shared) (σ : St) (H : Hp) (Q : Bool → Hp → Prop), Inv X pins σ H s → t σ H Q → wpAny (model X.prog X.w) X.A (isTrue e X.env whole) (TP X pins σ Q) X.xe s
theorem PW.pt {X : Cx} {e : Expr} {t : TT} (h : PW X e t) : PT X e t := h _
/-- an argument list (no star), from the left -/
def PA (X : Cx) (es : List Expr) (t : TA) : Prop :=
  ∀ (pos : Pos) (pins : List (Addr × Obj)) (s : Shared) (σ : St) (H : Hp) (Q : List V → Hp → Prop), Inv X pins σ H s → t σ H Q → wpAny (model X.prog X.w) X.A (spliced (backTo pos (starEach es X.env))) (AP X pins σ Q) X.xe s
def PS (X : Cx) (st : Stmt) (t : TS) : Prop :=
  ∀ (pins : List (Addr × Obj)) (s : Shared) (σ : St) (H : Hp) (D : Ends), Inv X pins σ H s → t D σ H → wpAny (model X.prog X.w) X.A (exec st X.env) (SP X pins D) X.xe s
def PSs (X : Cx) (st : List Stmt) (t : TS) : Prop :=
  ∀ (pins : List (Addr × Obj)) (s : Shared) (σ : St) (H : Hp) (D : Ends), Inv X pins σ H s → t D σ H → wpAny (model X.prog X.w) X.A (execs st X.env) (SP X pins D) X.xe s
/-- weaken the end -/
theorem thn {α : Type} {t : Sem α} {Q Q' : α → Shared → Prop} {M : Model} {A : Around} {E : Value → Shared → Prop} {s : Shared} (h : wpAny M A t Q E s) (hQ : ∀ a s, Q a s → Q' a s) : wpAny M A t Q' E s := wpAny_mono h hQ fun _ _ x => x
end L2

namespace L2
open PySem PySem.Spec PyProof.Rows
section
variable {X : Cx}

/-! ### names and constants -/
def tVar (i : Nat) : TE := fun σ H Q => ∃ v, σ[i]? = some (some v) ∧ Q v H
def tC (v : V) : TE := fun _ H Q => Q v H
theorem pe_var {i : Nat} {x : Str} {pos : Pos} (hN : X.N[i]? = some x) (hv : Vis X.env.scope x) (hd : (x == ("__debug__" : Str)) = false := by decide) (hcd : (x == ("__classdict__" : Str)) = false := by decide) : PE X (.Name x pos) (tVar i) := by
  intro pins s σ H Q I h
  obtain ⟨v, e, h⟩ := h
  obtain ⟨m, hn, hl⟩ := I.loc
  obtain ⟨u, r, l⟩ := hl i x v hN e hv
  have fin : EP X pins σ Q u s := ⟨v, H, I, r, h⟩
  rcases l with ⟨hk, hm⟩ | ⟨hk, c, hc, hcell⟩
  · exact wpAny_Name (wpAny_loadName_local I.ok.kind hk hn hm fin) hd
  · rcases hk with hk | hk
    · exact wpAny_Name (wpAny_loadName_cell I.ok.kind hk hc hcell fin) hd
    · exact wpAny_Name (wpAny_loadName_free I.ok.kind hk hc hcell fin hcd) hd
theorem pe_int {i j pos} : PE X (.Constant (.int i) j pos) (tC (.int i)) := fun _ _ _ H _ I h => wpAny_Constant_int ⟨.int i, H, I.tok _, ⟨_, rfl⟩, h⟩
theorem pe_bl {b j pos} : PE X (.Constant (.bool b) j pos) (tC (.bl b)) := fun _ _ _ H _ I h => Constant_bool ⟨.bl b, H, I, rfl, h⟩
theorem pe_non {j pos} : PE X (.Constant .none j pos) (tC .non) := fun _ _ _ H _ I h => Constant_none ⟨.non, H, I, rfl, h⟩
theorem pe_str {x j pos} : PE X (.Constant (.str x) j pos) (tC (.str x)) := fun _ _ _ H _ I h => Calls.Constant_str ⟨.str x, H, I.tok _, ⟨_, rfl⟩, h⟩

/-- a global name of the def -/
def Gl (X : Cx) (x : Str) : Prop := X.env.kindOf x = some .globalImplicit
theorem ld_glob {E : Value → Shared → Prop} {pins : List (Addr × Obj)} {s : Shared} {σ : St} {H : Hp} {x : Str} {u : Value} {pos : Pos} {Q : Value → Shared → Prop} (I : Inv X pins σ H s) (hg : Gl X x) (hm : X.mg x = some u) (h : Q u s)
    (hd : (x == ("__debug__" : Str)) = false := by decide) : wpAny (model X.prog X.w) X.A (eval (.Name x pos) X.env) Q E s :=
  Calls.Name_function_global I.ok.kind hg (Calls.loadGlobal_global (by rw [I.ok.glob]; exact I.mod.glob.keeps I.bk) hm h) hd
theorem ld_blt {E : Value → Shared → Prop} {pins : List (Addr × Obj)} {s : Shared} {σ : St} {H : Hp} {x : Str} {u : Value} {pos : Pos} {Q : Value → Shared → Prop} (I : Inv X pins σ H s) (hg : Gl X x) (hm : X.mg x = none) (hv : bootBuiltins x = some u) (h : Q u s)
    (hn : x ≠ "__name__" := by decide) (hd : (x == ("__debug__" : Str)) = false := by decide) : wpAny (model X.prog X.w) X.A (eval (.Name x pos) X.env) Q E s := by
  obtain ⟨mb, h1, h2⟩ := I.mod.blt
  exact Calls.Name_function_global I.ok.kind hg (Calls.loadGlobal_builtin (by rw [I.ok.glob]; exact I.mod.glob.keeps I.bk) hm (by rw [I.ok.blt]; exact h1.keeps I.bk) ((h2 x hn).trans hv) h) hd
/-- a module's constant, a class, a function, as a value -/
theorem pe_glob {x : Str} {v : V} {u : Value} {pos : Pos} (hg : Gl X x) (hm : X.mg x = some u) (r : RelV v u) (hd : (x == ("__debug__" : Str)) = false := by decide) : PE X (.Name x pos) (tC v) :=
  fun _ _ _ H _ I h => ld_glob I hg hm ⟨v, H, I, r, h⟩ hd
theorem pe_bltn {x : Str} {v : V} {u : Value} {pos : Pos} (hg : Gl X x) (hm : X.mg x = none) (hv : bootBuiltins x = some u) (r : RelV v u) (hn : x ≠ "__name__" := by decide) (hd : (x == ("__debug__" : Str)) = false := by decide) : PE X (.Name x pos) (tC v) :=
  fun _ _ _ H _ I h => ld_blt I hg hm hv ⟨v, H, I, r, h⟩ hn hd

/-! ### arithmetic -/
variable {a b : Expr} {ta tb : TE} {pos : Pos}
/-! ### comparisons -/
def PC (X : Cx) (op : CmpOp) (a b : Expr) (t : TE) : Prop :=
  ∀ (pins : List (Addr × Obj)) (s : Shared) (σ : St) (H : Hp) (Q : VK), Inv X pins σ H s → t σ H Q →
    wpAny (model X.prog X.w) X.A (eval a X.env) (fun v s₁ => wpAny (model X.prog X.w) X.A (eval b X.env) (fun u s₂ => wpAny (model X.prog X.w) X.A (compareOp op v u) (EP X pins σ Q) X.xe s₂) X.xe s₁) X.xe s
theorem nobehind (b : Expr) {op : CmpOp} (h : op ≠ .In) (h2 : op ≠ .NotIn) : behindInMarks op b = false := by
  have e1 : (op == CmpOp.In) = false := by cases op <;> first | rfl | exact absurd rfl h
  have e2 : (op == CmpOp.NotIn) = false := by cases op <;> first | rfl | exact absurd rfl h2
  cases b <;> simp [behindInMarks, e1, e2]
/-- a comparison as a value, as a test -/
def tB (t : TE) : TT := fun σ H Q => t σ H fun x H1 => ∃ c, x = .bl c ∧ Q c H1
theorem pt_cmp {op : CmpOp} {t : TE} (h : PC X op a b t) (h1 : behindInMarks op b = false := by first | exact nobehind _ (by decide) (by decide) | rfl) : PT X (.Compare a [op] [b] pos) (tB t) := by
  intro pins s σ H Q I hw
  refine wpAny_isTrue_Compare1 (thn (h pins s σ H _ I hw) fun v s1 h1 => thn h1 fun u s2 h2 => thn h2 fun c s3 ⟨x, H1, I1, r1, q1⟩ => ?_) h1
  obtain ⟨d, rfl, q⟩ := q1
  cases r1
  exact wpAny_truthy_bool ⟨H1, I1, q⟩
/-- an expression whose value is a bool, as a test -/
theorem pt_val {e : Expr} {t : TE} (h : PE X e t) (he : ∀ whole, isTrue e X.env whole = (do let v ← whole; standAt e.pos; holding [v] (truthy v)) := by intro _; rfl) : PT X e (tB t) := by
  intro pins s σ H Q I hw
  refine isTrue_plain (thn (h pins s σ H _ I hw) fun v s1 ⟨x, H1, I1, r1, q1⟩ => ?_) (he _)
  obtain ⟨d, rfl, q⟩ := q1
  cases r1
  exact wpAny_truthy_bool ⟨H1, I1, q⟩

/-! ### and, or, not -/
variable {tA tB' : TT} {rest : List Expr}
def tAnd (t u : TT) : TT := fun σ H Q => t σ H fun c H1 => if c = true then u σ H1 Q else Q false H1
def tOr (t u : TT) : TT := fun σ H Q => t σ H fun c H1 => if c = true then Q true H1 else u σ H1 Q
def tNot (t : TT) : TT := fun σ H Q => t σ H fun c H1 => Q (!c) H1
theorem pw_or1 (ha : PT X a tA) : PW X (.BoolOp .Or [a] pos) tA := by
  intro wh pins s σ H Q I h
  refine isTrue_or (thn (ha pins s σ H Q I h) fun c s1 e => ?_)
  cases c with
  | false => exact isTrue_or_nil e
  | true => exact e
theorem pw_or (ha : PT X a tA) (hb : PW X (.BoolOp .Or (b :: rest) pos) tB') : PW X (.BoolOp .Or (a :: b :: rest) pos) (tOr tA tB') := by
  intro wh pins s σ H Q I h
  refine isTrue_or (thn (ha pins s σ H _ I h) fun c s1 ⟨H1, I1, q1⟩ => ?_)
  cases c with
  | true => exact ⟨H1, I1, q1⟩
  | false => exact hb wh pins s1 σ H1 Q I1 q1
theorem pt_not (ha : PT X a tA) : PT X (.UnaryOp .Not a pos) (tNot tA) := by
  intro pins s σ H Q I h
  exact isTrue_not (ha pins s σ H (fun c H1 => Q (!c) H1) I h)
/-- .. as values (bools) -/
def tAndV (ta tb : TE) : TE := fun σ H Q => ta σ H fun x H1 => ∃ c, x = .bl c ∧ if c = true then tb σ H1 Q else Q (.bl false) H1
def tNotV (ta : TE) : TE := fun σ H Q => ta σ H fun x H1 => ∃ c, x = .bl c ∧ Q (.bl (!c)) H1
theorem pe_one {op} {t : TE} (h : PE X a t) : PE X (.BoolOp op [a] pos) t := fun pins s σ H Q I hw => BoolOp_one (h pins s σ H Q I hw)
theorem pe_and (ha : PE X a ta) (hb : PE X (.BoolOp .And (b :: rest) pos) tb) : PE X (.BoolOp .And (a :: b :: rest) pos) (tAndV ta tb) := by
  intro pins s σ H Q I h
  refine BoolOp_and (thn (ha pins s σ H _ I h) fun v s1 ⟨x, H1, I1, r1, q1⟩ => ?_)
  obtain ⟨c, rfl, q1⟩ := q1
  cases r1
  refine wpAny_truthy_bool ?_
  cases c with
  | true => exact hb pins s1 σ H1 Q I1 q1
  | false => exact ⟨.bl false, H1, I1, rfl, q1⟩
theorem pe_not (ha : PE X a ta) : PE X (.UnaryOp .Not a pos) (tNotV ta) := by
  intro pins s σ H Q I h
  refine UnaryOp_ (thn (ha pins s σ H _ I h) fun v s1 ⟨x, H1, I1, r1, q1⟩ => ?_)
  obtain ⟨c, rfl, q1⟩ := q1
  cases r1
  exact not_of (wpAny_truthy_bool ⟨.bl (!c), H1, I1, rfl, q1⟩)
/-- a if t else b -/
def tIf (t : TT) (ta tb : TE) : TE := fun σ H Q => t σ H fun c H1 => if c = true then ta σ H1 Q else tb σ H1 Q
theorem pe_ifExp {c : Expr} (hc : PT X c tA) (ha : PE X a ta) (hb : PE X b tb) : PE X (.IfExp c a b pos) (tIf tA ta tb) := by
  intro pins s σ H Q I h
  refine wpAny_IfExp (thn (hc pins s σ H _ I h) fun d s1 ⟨H1, I1, q1⟩ => ?_)
  cases d with
  | true => exact ha pins s1 σ H1 Q I1 q1
  | false => exact hb pins s1 σ H1 Q I1 q1
end
end L2

namespace L2
open PySem PySem.Spec PyProof.Rows

/-! ### a list, a tuple that is read: tracked, frozen, or an object of the module -/
def SqL (K : PySem.W.Frag) (H : Hp) (a : Addr) (xs : List V) : Prop :=
  Rd H a (.lst xs) ∨
    ∃ (o : Obj) (its : Array Value) (n : Nat), K.lookup a = some o ∧ o.cls = .type "list" ∧ o.dict = none ∧ o.data = .seq its n ∧ its.size ≤ sizeLine ∧ Vals xs its.toList
def SqT (K : PySem.W.Frag) (H : Hp) (a : Addr) (xs : List V) : Prop :=
  Rd H a (.tup xs) ∨
    ∃ (o : Obj) (its : Array Value) (n : Nat), K.lookup a = some o ∧ o.cls = .type "tuple" ∧ o.data = .seq its n ∧ its.size ≤ sizeLine ∧ Vals xs its.toList
def absV : Value → Option V
  | .none => some .non
  | .bool b => some (.bl b)
  | .int i _ => some (.int i)
  | .str x _ => some (.str x)
  | .bytes b _ => some (.byt b)
  | .float b _ => some (.flt b)
  | .ref a => some (.ref a)
  | .type n => some (.ty n)
  | _ => none
theorem RelV.abs {x : V} {u : Value} (r : RelV x u) : absV u = some x := by
  cases x with
  | non => cases r; rfl
  | bl _ => cases r; rfl
  | int _ => obtain ⟨t, rfl⟩ := r; rfl
  | str _ => obtain ⟨t, rfl⟩ := r; rfl
  | byt _ => obtain ⟨t, rfl⟩ := r; rfl
  | flt _ => obtain ⟨t, rfl⟩ := r; rfl
  | ref _ => cases r; rfl
  | ty _ => cases r; rfl
theorem RelV.inj {x y : V} {u : Value} (r : RelV x u) (q : RelV y u) : x = y := Option.some.inj (r.abs.symm.trans q.abs)
theorem Vals.inj : ∀ {xs ys : List V} {us : List Value}, Vals xs us → Vals ys us → xs = ys
  | _, _, _, .nil, .nil => rfl
  | _, _, _, .cons r t, .cons r' t' => by rw [r.inj r', Vals.inj t t']
section
variable {X : Cx} {pins : List (Addr × Obj)} {σ : St} {H : Hp} {s : Shared} {a : Addr} {xs ys : List V}
theorem SqL.of {K : PySem.W.Frag} (h : H a = some (.lst xs)) : SqL K H a xs := .inl (.inl h)
theorem SqT.of {K : PySem.W.Frag} (h : H a = some (.tup xs)) : SqT K H a xs := .inl (.inl h)
theorem Inv.list (I : Inv X pins σ H s) (h : SqL X.K H a xs) : ∃ its : List Value, Vals xs its ∧ PlainL s.heap a its.toArray ∧ xs.length ≤ sizeLine := by
  rcases h with h | ⟨o, its, n, hk, hc, hd, hs, hz, r⟩
  · obtain ⟨z, its, n, r, e⟩ := h.ok I.hok
    exact ⟨its, r, ⟨_, n, e, rfl, rfl, rfl⟩, z⟩
  · refine ⟨its.toList, r, ⟨o, n, I.kIn a o hk, hc, hd, by simpa using hs⟩, ?_⟩
    have e := r.length
    simp only [Array.length_toList] at e
    omega
theorem Inv.tuple (I : Inv X pins σ H s) (h : SqT X.K H a xs) : ∃ its : List Value, Vals xs its ∧ IsTup s.heap a its.toArray ∧ xs.length ≤ sizeLine := by
  rcases h with h | ⟨o, its, n, hk, hc, hs, hz, r⟩
  · obtain ⟨z, its, r, p⟩ := h.ok I.hok
    exact ⟨its, r, p, z⟩
  · refine ⟨its.toList, r, ⟨o, I.kIn a o hk, hc, n, by simpa using hs⟩, ?_⟩
    have e := r.length
    simp only [Array.length_toList] at e
    omega
theorem Inv.list_inj (I : Inv X pins σ H s) (h : SqL X.K H a xs) (h' : SqL X.K H a ys) : xs = ys := by
  obtain ⟨its, r, ⟨o, n, e, _, _, d⟩, _⟩ := I.list h
  obtain ⟨its', r', ⟨o', n', e', _, _, d'⟩, _⟩ := I.list h'
  rw [e] at e'; cases e'
  rw [d] at d'
  injection d' with d1 _
  have : its = its' := by simpa using congrArg Array.toList d1
  subst this
  exact r.inj r'
theorem Inv.tuple_inj (I : Inv X pins σ H s) (h : SqT X.K H a xs) (h' : SqT X.K H a ys) : xs = ys := by
  obtain ⟨its, r, ⟨o, e, _, n, d⟩, _⟩ := I.tuple h
  obtain ⟨its', r', ⟨o', e', _, n', d'⟩, _⟩ := I.tuple h'
  rw [e] at e'; cases e'
  rw [d] at d'
  injection d' with d1 _
  have : its = its' := by simpa using congrArg Array.toList d1
  subst this
  exact r.inj r'
end

/-! ### another wish about exceptions -/
abbrev Cx.wish (X : Cx) (E : Value → Shared → Prop) : Cx := { X with xe := E }
/-- no exception leaves -/
abbrev Cx.nox (X : Cx) : Cx := X.wish fun _ _ => False
theorem Cx.Ok.wish {X : Cx} (ok : X.Ok) (E : Value → Shared → Prop) : (X.wish E).Ok :=
  ⟨ok.mod, ok.kind, ok.glob, ok.blt, ok.above, ok.inj, ok.has, ok.cab, ok.hd, ok.frames, ok.stk, ok.exf, ok.bs, ok.bsz, ok.noex, ok.exfs, ok.funs, ok.frf⟩
theorem Cx.Ok.unwish {X : Cx} {E : Value → Shared → Prop} (ok : (X.wish E).Ok) : X.Ok :=
  ⟨ok.mod, ok.kind, ok.glob, ok.blt, ok.above, ok.inj, ok.has, ok.cab, ok.hd, ok.frames, ok.stk, ok.exf, ok.bs, ok.bsz, ok.noex, ok.exfs, ok.funs, ok.frf⟩
section
variable {X : Cx} {pins : List (Addr × Obj)} {σ : St} {H : Hp} {s : Shared} {E : Value → Shared → Prop}
theorem Inv.wish (I : Inv X pins σ H s) (E : Value → Shared → Prop) : Inv (X.wish E) pins σ H s := ⟨I.ok.wish E, I.os, I.bare, I.base, I.loc, I.cell, I.free, I.freeC, I.pin, I.hok, I.len⟩
theorem Inv.unwish (I : Inv (X.wish E) pins σ H s) : Inv X pins σ H s := ⟨I.ok.unwish, I.os, I.bare, I.base, I.loc, I.cell, I.free, I.freeC, I.pin, I.hok, I.len⟩
theorem SP.unwish {D : Ends} {f : PySem.Flow} {s' : Shared} (h : SP (X.wish E) pins D f s') : SP X pins D f s' := by
  cases f with
  | next => obtain ⟨σ', H', I, q⟩ := h; exact ⟨σ', H', I.unwish, q⟩
  | brk => obtain ⟨σ', H', I, q⟩ := h; exact ⟨σ', H', I.unwish, q⟩
  | cont => obtain ⟨σ', H', I, q⟩ := h; exact ⟨σ', H', I.unwish, q⟩
  | ret u => obtain ⟨v, σ', H', I, r, q⟩ := h; exact ⟨v, σ', H', I.unwish, r, q⟩
theorem PE.nox {e : Expr} {t : TE} (h : PE X.nox e t) : PE X e t := fun pins s σ H Q I hw =>
  wpAny_mono (h pins s σ H Q (I.wish _) hw) (fun _ _ ⟨v, H', I', r, q⟩ => ⟨v, H', I'.unwish, r, q⟩) fun _ _ z => False.elim z
theorem PT.nox {e : Expr} {t : TT} (h : PT X.nox e t) : PT X e t := fun pins s σ H Q I hw =>
  wpAny_mono (h pins s σ H Q (I.wish _) hw) (fun _ _ ⟨H', I', q⟩ => ⟨H', I'.unwish, q⟩) fun _ _ z => False.elim z
theorem PSs.nox {st : List Stmt} {t : TS} (h : PSs X.nox st t) : PSs X st t := fun pins s σ H D I hw =>
  wpAny_mono (h pins s σ H D (I.wish _) hw) (fun _ _ q => q.unwish) fun _ _ z => False.elim z
end

/-! ### blocks and small statements -/
section
variable {X : Cx} {st : Stmt} {rest : List Stmt} {t u : TS} {e : Expr} {te : TE} {pos : Pos}
def tNext : TS := fun D σ H => D.nx σ H
def tSeq (t u : TS) : TS := fun D σ H => t { D with nx := u D } σ H
theorem pss_nil : PSs X [] tNext := fun _ _ σ H _ I h => wpAny_execs_nil ⟨σ, H, I, h⟩
theorem pss_cons (h1 : PS X st t) (h2 : PSs X rest u) : PSs X (st :: rest) (tSeq t u) := by
  intro pins s σ H D I h
  refine wpAny_execs_cons (thn (h1 pins s σ H { D with nx := u D } I h) fun f s1 q => ?_)
  cases f with
  | next =>
    obtain ⟨σ', H', I', q⟩ := q
    exact h2 pins s1 σ' H' D I' q
  | ret v => exact q
  | brk => exact q
  | cont => exact q
theorem pss_one (h1 : PS X st t) : PSs X [st] t := by
  intro pins s σ H D I h
  refine wpAny_execs_cons (thn (h1 pins s σ H D I h) fun f s1 q => ?_)
  cases f with
  | next => exact wpAny_execs_nil q
  | ret v => exact q
  | brk => exact q
  | cont => exact q
/-- in a def's body nothing is shown -/
theorem Inv.quiet {pins : List (Addr × Obj)} {σ : St} {H : Hp} {s : Shared} (I : Inv X pins σ H s) : interactive X.env = false := by simp [interactive, I.ok.kind]
/-- an expression whose value is dropped -/
def tDrop (te : TE) : TS := fun D σ H => te σ H fun _ H1 => D.nx σ H1
theorem ps_expr (he : PE X e te) (hs : swapsWith e none pos.line X.env = pure false := by rfl) : PS X (.Expr e pos) (tDrop te) := by
  intro pins s σ H D I h
  exact wpAny_Expr_any (thn (he pins s σ H _ I h) fun v s1 ⟨x, H1, I1, r1, q1⟩ => ⟨σ, H1, I1, q1⟩) I.quiet hs
def tRet (te : TE) : TS := fun D σ H => te σ H D.rt
theorem ps_ret (he : PE X e te) : PS X (.Return (some e) pos) (tRet te) := by
  intro pins s σ H D I h
  exact wpAny_Return_some (thn (he pins s σ H _ I h) fun v s1 ⟨x, H1, I1, r1, q1⟩ => ⟨x, σ, H1, I1, r1, q1⟩)
def tIfS (c : TT) (t u : TS) : TS := fun D σ H => c σ H fun b H1 => if b = true then t D σ H1 else u D σ H1
theorem ps_if {c : Expr} {a b : List Stmt} {tc : TT} (hc : PT X c tc) (ha : PSs X a t) (hb : PSs X b u) : PS X (.If c a b pos) (tIfS tc t u) := by
  intro pins s σ H D I h
  refine wpAny_If (thn (hc pins s σ H _ I h) fun d s1 ⟨H1, I1, q1⟩ => ?_)
  cases d with
  | true => exact ha pins s1 σ H1 D I1 q1
  | false => exact hb pins s1 σ H1 D I1 q1
/-- code that the proof never comes to -/
def tNever : TS := fun _ _ _ => False
theorem ps_never : PS X st tNever := fun _ _ _ _ _ _ h => h.elim
end

/-! ### targets -/
abbrev TG := V → St → Hp → (St → Hp → Prop) → Prop
abbrev TGs := List V → St → Hp → (St → Hp → Prop) → Prop
def PG (X : Cx) (target : Expr) (t : TG) : Prop :=
  ∀ (pins : List (Addr × Obj)) (s : Shared) (σ : St) (H : Hp) (v : V) (u : Value) (Q : St → Hp → Prop), Inv X pins σ H s → RelV v u → t v σ H Q →
    wpAny (model X.prog X.w) X.A (assign target X.env u) (fun _ s' => ∃ σ' H', Inv X pins σ' H' s' ∧ Q σ' H') X.xe s
/-- several targets, one after another -/
def PGs (X : Cx) (ts : List Expr) (t : TGs) : Prop :=
  ∀ (pins : List (Addr × Obj)) (s : Shared) (σ : St) (H : Hp) (vs : List V) (us : List Value) (Q : St → Hp → Prop), Inv X pins σ H s → Vals vs us → t vs σ H Q →
    wpAny (model X.prog X.w) X.A (assignInOrder ((assignEach ts X.env).map (·.2)) us) (fun _ s' => ∃ σ' H', Inv X pins σ' H' s' ∧ Q σ' H') X.xe s
/-- o[i] = v, by values -/
abbrev TSet := V → V → V → Hp → (Hp → Prop) → Prop
def PSet (X : Cx) (t : TSet) : Prop :=
  ∀ (pins : List (Addr × Obj)) (s : Shared) (σ : St) (H : Hp) (o i v : V) (ov iv u : Value) (Q : Hp → Prop), Inv X pins σ H s → RelV o ov → RelV i iv → RelV v u → t o i v H Q →
    wpAny (model X.prog X.w) X.A (setItem ov iv u) (fun _ s' => ∃ H', Inv X pins σ H' s' ∧ Q H') X.xe s
/-- a op= b, by values -/
abbrev TIp := V → V → Hp → VK → Prop
def PIp (X : Cx) (op : Operator) (t : TIp) : Prop :=
  ∀ (pins : List (Addr × Obj)) (s : Shared) (σ : St) (H : Hp) (x y : V) (v u : Value) (Q : VK), Inv X pins σ H s → RelV x v → RelV y u → t x y H Q →
    wpAny (model X.prog X.w) X.A (inplaceOp op v u) (EP X pins σ Q) X.xe s
section
variable {X : Cx} {pos : Pos}
def gName (i : Nat) : TG := fun v σ H Q => Q (σ.set i (some v)) H
theorem pg_name {i : Nat} {x : Str} (hN : X.N.Nodup) (hi : X.N[i]? = some x) (hx : Loc X.env.scope x) (hf : X.fn x = true ∨ X.env.scope.names.lookup x = some .local := by first | exact .inl rfl | exact .inr rfl | assumption) : PG X (.Name x pos) (gName i) := by
  intro pins s σ H v u Q I r h
  exact wpAny_assign_Name (store_ok I hN hi hx r (fun s' I' => ⟨_, H, I', h⟩) hf)
def gNil : TGs := fun vs σ H Q => vs = [] ∧ Q σ H
def gCons (t : TG) (u : TGs) : TGs := fun vs σ H Q => ∃ v r, vs = v :: r ∧ t v σ H fun σ' H' => u r σ' H' Q
theorem pgs_nil : PGs X [] gNil := by
  intro pins s σ H vs us Q I r h
  obtain ⟨e, h⟩ := h
  subst e
  cases r
  exact assignInOrder_nil ⟨σ, H, I, h⟩
theorem pgs_cons {e : Expr} {es : List Expr} {t : TG} {u : TGs} (h1 : PG X e t) (h2 : PGs X es u)
    (hs : (assignEach (e :: es) X.env).map (·.2) = assign e X.env :: (assignEach es X.env).map (·.2) := by rfl) : PGs X (e :: es) (gCons t u) := by
  intro pins s σ H vs us Q I r h
  obtain ⟨v, vr, e1, h⟩ := h
  subst e1
  cases r with
  | cons r rr =>
    rw [hs]
    refine assignInOrder_cons (thn (h1 pins s σ H _ _ _ I r h) fun _ s1 ⟨σ1, H1, I1, q1⟩ => ?_)
    exact h2 pins s1 σ1 H1 _ _ Q I1 rr q1
/-- (a, b, ..) = a tuple of that length -/
def gTup (K : PySem.W.Frag) (n : Nat) (t : TGs) : TG := fun v σ H Q => ∃ a xs, v = .ref a ∧ SqT K H a xs ∧ xs.length = n ∧ t xs σ H Q
theorem pg_tup {es : List Expr} {k : Nat} {t : TGs} {n : Nat} (hc : X.calm = true) (h : PGs X es t)
    (hn : (assignEach es X.env).length = n := by rfl) (hst : (assignEach es X.env).findIdx? (·.1) = none := by rfl) : PG X (.Tuple es k pos) (gTup X.K n t) := by
  intro pins s σ H v u Q I r hw
  obtain ⟨a, xs, e1, hq, hl, hw⟩ := hw
  subst e1
  cases r
  obtain ⟨its, rv, ht, hz⟩ := I.tuple hq
  refine assign_Tuple_tuple (I.ok.hd hc) ht (by simp [hn, ← hl, rv.length]) hst fun h' hx => ?_
  have I1 : Inv X pins σ H { s with heap := h' } := I.kept (t' := s.toks) fun b o e => hx b o (Nat.ne_of_lt (Heap.lt_size e)) e
  exact h pins _ σ H xs _ Q I1 (by simpa using rv) hw
/-- o[i] = .. -/
def gSub (to ti : TE) (t : TSet) : TG := fun v σ H Q => to σ H fun o H1 => ti σ H1 fun i H2 => t o i v H2 fun H3 => Q σ H3
theorem pg_sub {o i : Expr} {to ti : TE} {t : TSet} (ho : PE X o to) (hi : PE X i ti) (hs : PSet X t)
    (ha : ∀ v, assign (.Subscript o i pos) X.env v = (do
      let ov ← holding [v] (eval o X.env)
      let iv ← holding [v, ov] (eval i X.env)
      standAt pos
      holding [v, ov, iv] (setItem ov iv v)
      release [v, ov, iv] []) := by intro _; rfl) : PG X (.Subscript o i pos) (gSub to ti t) := by
  intro pins s σ H v u Q I r h
  rw [ha]
  refine wpAny_bind (wpAny_holding (thn (ho pins s σ H _ I h) fun ov s1 ⟨x, H1, I1, r1, q1⟩ => ?_))
  refine wpAny_bind (wpAny_holding (thn (hi pins s1 σ H1 _ I1 q1) fun iv s2 ⟨y, H2, I2, r2, q2⟩ => ?_))
  refine wpAny_bind (wpAny_standAt (wpAny_bind (wpAny_holding (thn (hs pins s2 σ H2 x y v ov iv u _ I2 r1 r2 r q2) fun _ s3 ⟨H3, I3, q3⟩ => ?_))))
  exact wpAny_release ⟨σ, H3, I3, q3⟩
/-- target = value -/
def tAsg (te : TE) (g : TG) : TS := fun D σ H => te σ H fun x H1 => g x σ H1 D.nx
theorem ps_asg {tg e : Expr} {te : TE} {g : TG} (he : PE X e te) (hg : PG X tg g) (hs : swapsWithSole [tg] e pos.line X.env = pure false := by rfl) (hw : swappedStores [tg] e X.env = pure none := by rfl)
    (h1 : (assignEach [tg] X.env).map (·.2) = [assign tg X.env] := by rfl) : PS X (.Assign [tg] e pos) (tAsg te g) := by
  intro pins s σ H D I h
  refine wpAny_Assign_stores (thn (he pins s σ H _ I h) fun v s1 ⟨x, H1, I1, r1, q1⟩ => ?_) hs hw
  rw [h1]
  exact thn (hg pins s1 σ H1 x v _ I1 r1 q1) fun _ s2 q => q
/-- name = value -/
theorem ps_set {i : Nat} {x : Str} {e : Expr} {te : TE} {pos' : Pos} (hN : X.N.Nodup) (hi : X.N[i]? = some x) (hx : Loc X.env.scope x) (he : PE X e te) (hs : swapsWith e (some (.Name x pos')) pos.line X.env = pure false := by rfl) (hf : X.fn x = true ∨ X.env.scope.names.lookup x = some .local := by first | exact .inl rfl | exact .inr rfl | assumption) :
    PS X (.Assign [.Name x pos'] e pos) (tAsg te (gName i)) := by
  intro pins s σ H D I h
  refine wpAny_Assign_Name (thn (he pins s σ H _ I h) fun v s1 ⟨y, H1, I1, r1, q1⟩ => ?_) hs
  exact store_ok I1 hN hi hx r1 (fun s2 I2 => ⟨_, H1, I2, q1⟩) hf
/-- a, b = x, y with plain local names: stored from the right; the pair itself is not tracked (the opening rows as in PyProof/Rows/TupAssign.lean:23) -/
def tPar (i j : Nat) (ta : TA) : TS := fun D σ H => ta σ H fun vs H1 => ∃ v w, vs = [v, w] ∧ D.nx ((σ.set i (some v)).set j (some w)) H1
theorem ps_par {i j : Nat} {x y : Str} {a b : Expr} {ta : TA} {px py pt : Pos} {kt k2 pt2} (hc : X.calm = true) (hN : X.N.Nodup) (hi : X.N[i]? = some x) (hj : X.N[j]? = some y) (hij : i ≠ j)
    (hx : X.env.scope.names.lookup x = some .local) (hy : X.env.scope.names.lookup y = some .local) (ha : PA X [a, b] ta)
    (hw : swappedStores [.Tuple [.Name x px, .Name y py] kt pt] (.Tuple [a, b] k2 pt2) X.env = pure (some [x, y]))
    (hs : swapsWithSole [.Tuple [.Name x px, .Name y py] kt pt] (.Tuple [a, b] k2 pt2) pos.line X.env = pure false := by rfl) :
    PS X (.Assign [.Tuple [.Name x px, .Name y py] kt pt] (.Tuple [a, b] k2 pt2) pos) (tPar i j ta) := by
  intro pins s σ H D I h
  rw [exec_Assign_arm]
  refine wpAny_bind (wpAny_standAt ?_)
  rw [hs]
  refine wpAny_bind (wpAny_pure ?_)
  rw [if_neg (by decide)]
  refine wpAny_bind (Tuple_ (thn (ha _ pins s σ H _ I h) fun us s1 ⟨vs, H1, I1, r1, q1⟩ => ?_))
  obtain ⟨v, w, e1, q1⟩ := q1
  subst e1
  obtain ⟨u1, u2, rfl, rv, rw'⟩ : ∃ u1 u2, us = [u1, u2] ∧ RelV v u1 ∧ RelV w u2 := by
    cases r1 with
    | cons p q =>
      cases q with
      | cons p' q' =>
        cases q'
        exact ⟨_, _, rfl, p, p'⟩
  refine wpAny_newObj_type ?_ (by show 2 ≤ sizeLine; decide)
  have I2 : Inv X pins σ H1 { s1 with heap := s1.heap.push { cls := .type "tuple", data := .seq [u1, u2].toArray } } := I1.kept (t' := s1.toks) fun b o e => Heap.get?_push_of_some _ e
  rw [hw]
  refine wpAny_bind (wpAny_pure ?_)
  show wpAny (model X.prog X.w) X.A (do rule "assign.swapped-stores"; let items ← unpackItems (.ref s1.heap.objs.size) 2 none; assignInOrder [fun v => bindName X.env y v, fun v => bindName X.env x v] items.reverse; pure Flow.next) _ _ _
  refine wpAny_bind (wpAny_rule (wpAny_bind (unpackItems_tuple (items := #[u1, u2]) (I.ok.hd hc) (IsTup.new s1.heap _) fun h' hx' => ?_)))
  have I3 := I2.kept (h' := h') (t' := s1.toks) fun b o e => hx' b o (Nat.ne_of_lt (Heap.lt_size e)) e
  show wpAny _ _ (assignInOrder [fun v => bindName X.env y v, fun v => bindName X.env x v] [u2, u1] >>= fun _ => pure Flow.next) _ _ _
  refine wpAny_bind (assignInOrder_cons (wpAny_bindName (store_ok I3 hN hj (.inl hy) rw' (fun s2 I4 => ?_) (.inr hy))))
  refine assignInOrder_cons (wpAny_bindName (store_ok I4 hN hi (.inl hx) rv (fun s3 I5 => assignInOrder_nil (wpAny_pure ?_)) (.inr hx)))
  rw [List.set_comm _ _ (Ne.symm hij)] at I5
  exact ⟨_, H1, I5, q1⟩
/-- o[i] op= e -/
def tAugS (to ti te : TE) (tget : V → V → Hp → VK → Prop) (tip : TIp) (tset : TSet) : TS := fun D σ H => to σ H fun o H1 => ti σ H1 fun i H2 => tget o i H2 fun x H3 => te σ H3 fun y H4 => tip x y H4 fun z H5 => tset o i z H5 fun H6 => D.nx σ H6
/-- o[i], by values -/
def PGet (X : Cx) (t : V → V → Hp → VK → Prop) : Prop :=
  ∀ (pins : List (Addr × Obj)) (s : Shared) (σ : St) (H : Hp) (o i : V) (ov iv : Value) (Q : VK), Inv X pins σ H s → RelV o ov → RelV i iv → t o i H Q →
    wpAny (model X.prog X.w) X.A (getItem ov iv) (EP X pins σ Q) X.xe s
theorem ps_augS {o i e : Expr} {to ti te : TE} {tget : V → V → Hp → VK → Prop} {tip : TIp} {tset : TSet} {op : Operator} {tpos : Pos} (ho : PE X o to) (hi : PE X i ti) (hg : PGet X tget) (he : PE X e te) (hp : PIp X op tip) (hs : PSet X tset)
    (ha : ∀ ov iv new, augStore i ov iv new = (do holding [new, ov, iv] (setItem ov iv new); release [new, ov, iv] []; pure .next) := by intros; rfl) : PS X (.AugAssign (.Subscript o i tpos) op e pos) (tAugS to ti te tget tip tset) := by
  intro pins s σ H D I h
  refine wpAny_AugAssign_SubscriptAny (thn (ho pins s σ H _ I h) fun ov s1 ⟨x1, H1, I1, r1, q1⟩ => ?_) ha
  refine thn (hi pins s1 σ H1 _ I1 q1) fun iv s2 ⟨x2, H2, I2, r2, q2⟩ => ?_
  refine thn (hg pins s2 σ H2 x1 x2 ov iv _ I2 r1 r2 q2) fun old s3 ⟨x3, H3, I3, r3, q3⟩ => ?_
  refine thn (he pins s3 σ H3 _ I3 q3) fun v s4 ⟨x4, H4, I4, r4, q4⟩ => ?_
  refine thn (hp pins s4 σ H4 x3 x4 old v _ I4 r3 r4 q4) fun new s5 ⟨x5, H5, I5, r5, q5⟩ => ?_
  exact thn (hs pins s5 σ H5 x1 x2 x5 ov iv new _ I5 r1 r2 r5 q5) fun _ s6 ⟨H6, I6, q6⟩ => ⟨σ, H6, I6, q6⟩
/-- ints -/
def ipI (f : Int → Int → Int) : TIp := fun x y H Q => ∃ i j, x = .int i ∧ y = .int j ∧ Q (.int (f i j)) H
theorem ip_add : PIp X .Add (ipI fun i j => i + j) := by
  intro pins s σ H x y v u Q I r1 r2 h
  obtain ⟨i, j, e1, e2, q⟩ := h
  subst e1; subst e2
  obtain ⟨t, rfl⟩ := r1
  obtain ⟨t', rfl⟩ := r2
  exact iadd_int ⟨.int _, H, I.tok _, ⟨_, rfl⟩, q⟩
end

/-! ### while -/
section
variable {X : Cx} {pos : Pos}
end

/-! ### what a loop or a comprehension walks -/
/-- at turn i: it yields x (the heap may grow), or it stops -/
structure It where
  go : Nat → Hp → Prop
  yld : Nat → Hp → V → Hp → Prop
  stop : Nat → Hp → Prop
/-- the iterator's own objects may turn: they are not the frame's, not pinned, younger than the entry (or a comprehension's own) -/
def FpOk (X : Cx) (pins : List (Addr × Obj)) (H : Hp) (b : Addr) : Prop :=
  H b = none ∧ b ≠ X.env.locals ∧ b ∉ X.fs ∧ (b ∈ X.ex ∨ X.s_0.heap.objs.size ≤ b) ∧ (∀ x c, X.env.cells.lookup x = some c → c ≠ b) ∧ ∀ p ∈ X.pn ++ pins, p.1 ≠ b
theorem Inv.fpOk {X : Cx} {pins : List (Addr × Obj)} {σ : St} {H H' : Hp} {s : Shared} {b : Addr} (I : Inv X pins σ H s) (hb : s.heap.objs.size ≤ b) (hn : H' b = none) : FpOk X pins H' b := by
  refine ⟨hn, Nat.ne_of_gt (Nat.lt_of_lt_of_le I.lt hb), I.nofs hb, .inr (Nat.le_trans I.sz hb), fun x c e z => ?_, fun p hp z => ?_⟩
  · obtain ⟨v, q⟩ := I.cell x c e
    exact absurd (Nat.lt_of_lt_of_le q.lt (by rw [z]; exact hb)) (Nat.lt_irrefl _)
  · exact absurd (Nat.lt_of_lt_of_le (Heap.lt_size (I.pin p hp).1) (by rw [z]; exact hb)) (Nat.lt_irrefl _)
structure Turn (P : Program) (w : World) (K : PySem.W.Frag) (tg : Expr) (J : It) (fp : List Addr) (it : Addr) (tn : Nat → Heap → Prop) : Prop where
  mem : it ∈ fp
  obj : ∀ i h, tn i h → ∀ b ∈ fp, ∃ o, h.get? b = some o ∧ ∀ v, o.data ≠ .cell v
  keep : ∀ i h h', tn i h → (∀ b ∈ fp, ∀ o, h.get? b = some o → h'.get? b = some o) → tn i h'
  item : ∀ (X : Cx), X.prog = P → X.w = w → X.K = K → X.calm = true → ∀ (i : Nat) (pins : List (Addr × Obj)) (s : Shared) (σ : St) (H : Hp) (E : Value → Shared → Prop), Inv X pins σ H s → (∀ b ∈ fp, FpOk X pins H b) → tn i s.heap → J.go i H →
    wpAny (model P w) X.A (pyNext (.ref it)) (fun r s1 => ∃ u, r = some u ∧
      wpAny (model P w) X.A (letOwnedTupleGo tg (.ref it) u) (fun _ s2 => ∃ x H', Inv X pins σ H' s2 ∧ RelV x u ∧ J.yld i H x H' ∧ tn (i + 1) s2.heap ∧ ∀ b ∈ fp, H' b = none) E s1) E s
  done : ∀ (X : Cx), X.prog = P → X.w = w → X.K = K → X.calm = true → ∀ (i : Nat) (pins : List (Addr × Obj)) (s : Shared) (σ : St) (H : Hp) (E : Value → Shared → Prop), Inv X pins σ H s → (∀ b ∈ fp, FpOk X pins H b) → tn i s.heap → J.stop i H →
    wpAny (model P w) X.A (pyNext (.ref it)) (fun r s1 => r = none ∧ Inv X pins σ H s1) E s
  self : ∀ (A : Around) (i : Nat) (s : Shared) (Q : Value → Shared → Prop) (E : Value → Shared → Prop), tn i s.heap → Q (.ref it) s → wpAny (model P w) A (pyIter (.ref it)) Q E s
abbrev TI := St → Hp → (It → Hp → Prop) → Prop
/-- an iterator has come -/
def PIE (X : Cx) (pins : List (Addr × Obj)) (σ : St) (tg : Expr) (R : It → Hp → Prop) (itv : Value) (s2 : Shared) : Prop :=
  ∃ (it : Addr) (fp : List Addr) (tn : Nat → Heap → Prop) (J : It) (H' : Hp), itv = .ref it ∧ Inv X pins σ H' s2 ∧ Turn X.prog X.w X.K tg J fp it tn ∧ tn 0 s2.heap ∧ (∀ b ∈ fp, FpOk X pins H' b) ∧ R J H'
def PI (X : Cx) (tg iter : Expr) (wi : TI) : Prop :=
  ∀ (pins : List (Addr × Obj)) (s : Shared) (σ : St) (H : Hp) (R : It → Hp → Prop), Inv X pins σ H s → wi σ H R →
    wpAny (model X.prog X.w) X.A (eval iter X.env) (fun v s1 => wpAny (model X.prog X.w) X.A (pyIter v) (PIE X pins σ tg R) X.xe s1) X.xe s

/-- the step ahead of the store is nothing for an iterator that keeps no tuple -/
theorem go_of {M : Model} {A : Around} {E : Value → Shared → Prop} {s : Shared} {tg : Expr} {it : Addr} {u : Value} {o : Obj} {n : String} {vs : Array Value} {Q : Unit → Shared → Prop} (ho : s.heap.get? it = some o) (hc : o.cls = .type n) (hd : o.data = .fields vs)
    (hn : ["enumerate", "zip", "dict_itemiterator", "dict_reverseitemiterator", "odict_iterator", "itertools.zip_longest", "itertools.pairwise"].contains n = false) (hQ : Q () s) : wpAny M A (letOwnedTupleGo tg (.ref it) u) Q E s := by
  unfold letOwnedTupleGo
  cases tg <;> first
    | exact wpAny_pure hQ
    | (cases u <;> first
        | exact wpAny_pure hQ
        | (refine wpAny_bind (wpAny_load ho ?_)
           rw [hc, hd]
           show wpAny M A (if (["enumerate", "zip", "dict_itemiterator", "dict_reverseitemiterator", "odict_iterator", "itertools.zip_longest", "itertools.pairwise"].contains n && vs[0]? == some (rawInt _)) = true then _ else _) Q E s
           rw [if_neg (by intro h; rw [hn, Bool.false_and] at h; cases h)]
           exact wpAny_pure hQ))

/-- the list at a, as it stands at each turn (a loop may append to it) -/
def Itl (K : PySem.W.Frag) (a : Addr) : It :=
  ⟨fun i H => ∃ xs x, SqL K H a xs ∧ xs[i]? = some x, fun i H x H' => H' = H ∧ ∀ xs, SqL K H a xs → xs[i]? = some x, fun i H => ∃ xs, SqL K H a xs ∧ xs.length ≤ i⟩
def Itt (K : PySem.W.Frag) (a : Addr) : It :=
  ⟨fun i H => ∃ xs x, SqT K H a xs ∧ xs[i]? = some x, fun i H x H' => H' = H ∧ ∀ xs, SqT K H a xs → xs[i]? = some x, fun i H => ∃ xs, SqT K H a xs ∧ xs.length ≤ i⟩
/-- lo, lo + 1, .. (n of them) -/
def Itr (lo : Int) (n : Nat) : It := ⟨fun i _ => i < n, fun i H x H' => H' = H ∧ x = .int (lo + i), fun i _ => n ≤ i⟩
theorem turn_list {P : Program} {w : World} {K : PySem.W.Frag} {tg : Expr} (a it : Addr) : Turn P w K tg (Itl K a) [it] it (fun i h => h.IsListIter it a i) where
  mem := by simp
  obj := fun i h st b hb => by
    have e : b = it := by simpa using hb
    subst e
    obtain ⟨o, e, c, d⟩ := st
    exact ⟨o, e, fun v z => by rw [d] at z; cases z⟩
  keep := fun i h h' st k => st.at fun o e => k it (by simp) o e
  item := by
    intro X hP hw hK hc i pins s σ H E I hf st hg
    subst hP hw hK
    obtain ⟨xs, x, hq, hx⟩ := hg
    obtain ⟨its, rv, p, hz⟩ := I.list hq
    obtain ⟨u, hu, ru⟩ := rv.get hx
    obtain ⟨f0, f1, f2, f3, f4, f5⟩ := hf it (by simp)
    refine wpAny_pyNext_list_item st p.isList (x := u) (by simpa using hu) fun h' st' sb => ?_
    have I1 : Inv X pins σ H { s with heap := h' } := I.turned (t' := s.toks) (fun b o hb e => (sb.2 b hb).trans e) f0 f1 f3 f4 f5
    obtain ⟨o, e, c, d⟩ := id st'
    exact ⟨u, rfl, go_of (s := { s with heap := h' }) e c d (by decide) ⟨x, H, I1, ru, ⟨rfl, fun ys hy => by rw [I.list_inj hy hq]; exact hx⟩, st', fun b hb => (hf b hb).1⟩⟩
  done := by
    intro X hP hw hK hc i pins s σ H E I hf st hg
    subst hP hw hK
    obtain ⟨xs, hq, hx⟩ := hg
    obtain ⟨its, rv, p, hz⟩ := I.list hq
    obtain ⟨f0, f1, f2, f3, f4, f5⟩ := hf it (by simp)
    have hl := rv.length
    exact wpAny_pyNext_list_end (I.ok.hd hc) st p.isList (by simp; omega) fun h' eb => ⟨rfl, I.turned (t' := s.toks) (fun b o hb e => eb b o hb e) f0 f1 f3 f4 f5⟩
  self := fun _ _ _ _ _ st h => wpAny_pyIter_listiter st h
theorem turn_tuple {P : Program} {w : World} {K : PySem.W.Frag} {tg : Expr} (a it : Addr) : Turn P w K tg (Itt K a) [it] it (fun i h => h.IsTupleIter it a i) where
  mem := by simp
  obj := fun i h st b hb => by
    have e : b = it := by simpa using hb
    subst e
    obtain ⟨o, e, c, d⟩ := st
    exact ⟨o, e, fun v z => by rw [d] at z; cases z⟩
  keep := fun i h h' st k => st.at fun o e => k it (by simp) o e
  item := by
    intro X hP hw hK hc i pins s σ H E I hf st hg
    subst hP hw hK
    obtain ⟨xs, x, hq, hx⟩ := hg
    obtain ⟨its, rv, p, hz⟩ := I.tuple hq
    obtain ⟨u, hu, ru⟩ := rv.get hx
    obtain ⟨f0, f1, f2, f3, f4, f5⟩ := hf it (by simp)
    refine wpAny_pyNext_tuple_item st (show s.heap.IsTuple a its.toArray from p) (x := u) (by simpa using hu) fun h' st' sb => ?_
    have I1 : Inv X pins σ H { s with heap := h' } := I.turned (t' := s.toks) (fun b o hb e => (sb.2 b hb).trans e) f0 f1 f3 f4 f5
    obtain ⟨o, e, c, d⟩ := id st'
    exact ⟨u, rfl, go_of (s := { s with heap := h' }) e c d (by decide) ⟨x, H, I1, ru, ⟨rfl, fun ys hy => by rw [I.tuple_inj hy hq]; exact hx⟩, st', fun b hb => (hf b hb).1⟩⟩
  done := by
    intro X hP hw hK hc i pins s σ H E I hf st hg
    subst hP hw hK
    obtain ⟨xs, hq, hx⟩ := hg
    obtain ⟨its, rv, p, hz⟩ := I.tuple hq
    obtain ⟨f0, f1, f2, f3, f4, f5⟩ := hf it (by simp)
    have hl := rv.length
    exact wpAny_pyNext_tuple_end (I.ok.hd hc) st (show s.heap.IsTuple a its.toArray from p) (by simp; omega) fun h' eb => ⟨rfl, I.turned (t' := s.toks) (fun b o hb e => eb b o hb e) f0 f1 f3 f4 f5⟩
  self := fun _ _ _ _ _ st h => wpAny_pyIter_tupleiter st h
theorem turn_range {P : Program} {w : World} {K : PySem.W.Frag} {tg : Expr} (it : Addr) (lo : Int) (n : Nat) : Turn P w K tg (Itr lo n) [it] it (fun i h => IsRangeIter h it (lo + (i : Nat) * 1) ((n : Int) - (i : Nat)) 1) where
  mem := by simp
  obj := fun i h st b hb => by
    have e : b = it := by simpa using hb
    subst e
    exact ⟨_, st, fun v z => by
      have z' : Data.fields _ = Data.cell v := z
      cases z'⟩
  keep := fun i h h' st k => k it (by simp) _ st
  item := by
    intro X hP hw hK hc i pins s σ H E I hf st hg
    subst hP hw hK
    obtain ⟨f0, f1, f2, f3, f4, f5⟩ := hf it (by simp)
    have W := Walks.range (prog := X.prog) (w := X.w) (I.ok.hd hc) it lo 1 n
    refine W.item i s _ _ hg st fun v h' tk hv st' kk => ?_
    obtain ⟨t, rfl⟩ := hv
    have I1 : Inv X pins σ H { s with heap := h', toks := tk } := I.turned (fun b o hb e => kk b o (by simpa using hb) e) f0 f1 f3 f4 f5
    refine ⟨_, rfl, go_of (s := { s with heap := h', toks := tk }) (n := "range_iterator") st' rfl rfl (by decide) ⟨.int (lo + i), H, I1, ⟨t, ?_⟩, ⟨rfl, rfl⟩, st', fun b hb => (hf b hb).1⟩⟩
    rw [Int.mul_one]
  done := by
    intro X hP hw hK hc i pins s σ H E I hf st hg
    subst hP hw hK
    obtain ⟨f0, f1, f2, f3, f4, f5⟩ := hf it (by simp)
    exact wpAny_pyNext_range_end (I.ok.hd hc) st (by have : n ≤ i := hg; omega) fun h' eb => ⟨rfl, I.turned (t' := s.toks) (fun b o hb e => eb b o hb e) f0 f1 f3 f4 f5⟩
  self := fun _ _ _ _ _ st h => wpAny_pyIter_rangeiter st h
end L2

namespace L2
open PySem PySem.Spec PyProof.Rows
section
variable {X : Cx} {tg : Expr}
def iList (K : PySem.W.Frag) (tl : TE) : TI := fun σ H R => tl σ H fun x H1 => ∃ a, x = .ref a ∧ (∃ xs, SqL K H1 a xs) ∧ R (Itl K a) H1
def iTup (K : PySem.W.Frag) (tl : TE) : TI := fun σ H R => tl σ H fun x H1 => ∃ a, x = .ref a ∧ (∃ xs, SqT K H1 a xs) ∧ R (Itt K a) H1
theorem pi_list {l : Expr} {tl : TE} (hl : PE X l tl) : PI X tg l (iList X.K tl) := by
  intro pins s σ H R I h
  refine thn (hl pins s σ H _ I h) fun v s1 ⟨x, H1, I1, r1, q1⟩ => ?_
  obtain ⟨a, e, ⟨xs, hq⟩, q⟩ := q1
  subst e
  cases r1
  obtain ⟨its, rv, p, hz⟩ := I1.list hq
  refine wpAny_pyIter_list p.isList ?_
  refine ⟨s1.heap.objs.size, [s1.heap.objs.size], _, _, H1, rfl, I1.kept (t' := s1.toks) fun b o e => Heap.get?_push_of_some _ e, turn_list a _, ⟨_, Heap.get?_push_size _ rfl, rfl, rfl⟩, fun b hb => ?_, q⟩
  have e : b = s1.heap.objs.size := by simpa using hb
  subst e
  exact I1.fpOk (Nat.le_refl _) (I1.hok.fresh (Nat.le_refl _))
theorem pi_tup {l : Expr} {tl : TE} (hl : PE X l tl) : PI X tg l (iTup X.K tl) := by
  intro pins s σ H R I h
  refine thn (hl pins s σ H _ I h) fun v s1 ⟨x, H1, I1, r1, q1⟩ => ?_
  obtain ⟨a, e, ⟨xs, hq⟩, q⟩ := q1
  subst e
  cases r1
  obtain ⟨its, rv, p, hz⟩ := I1.tuple hq
  refine wpAny_pyIter_tuple (show s1.heap.IsTuple a its.toArray from p) ?_
  refine ⟨s1.heap.objs.size, [s1.heap.objs.size], _, _, H1, rfl, I1.kept (t' := s1.toks) fun b o e => Heap.get?_push_of_some _ e, turn_tuple a _, ⟨_, Heap.get?_push_size _ rfl, rfl, rfl⟩, fun b hb => ?_, q⟩
  have e : b = s1.heap.objs.size := by simpa using hb
  subst e
  exact I1.fpOk (Nat.le_refl _) (I1.hok.fresh (Nat.le_refl _))
/-- a range object just made, walked -/
theorem range_it {pins : List (Addr × Obj)} {σ : St} {H : Hp} {s : Shared} {R : It → Hp → Prop} {E : Value → Shared → Prop} {lo hi : Int} {t u v : Tok} {tk : Nat} (I : Inv X pins σ H s) (h1 : -(2 ^ 62) ≤ lo) (h2 : lo < 2 ^ 62) (h3 : -(2 ^ 62) ≤ hi) (h4 : hi < 2 ^ 62)
    (q : R (Itr lo (hi - lo).toNat) H) : wpAny (model X.prog X.w) X.A (pyIter (.ref s.heap.objs.size)) (PIE X pins σ tg R) E { s with heap := s.heap.push { cls := .type "range", data := .fields #[.int lo t, .int hi u, .int 1 v] }, toks := tk } := by
  refine wpAny_pyIter_range (IsRange.new ..) (small_one h1 h2 h3 h4) ?_
  have I1 : Inv X pins σ H { s with heap := s.heap.push { cls := .type "range", data := .fields #[.int lo t, .int hi u, .int 1 v] }, toks := tk } := I.kept fun b o e => Heap.get?_push_of_some _ e
  refine ⟨(s.heap.push { cls := .type "range", data := .fields #[.int lo t, .int hi u, .int 1 v] }).objs.size, [(s.heap.push { cls := .type "range", data := .fields #[.int lo t, .int hi u, .int 1 v] }).objs.size], _, _, H, rfl,
    I1.kept (t' := tk) fun b o e => Heap.get?_push_of_some _ e, turn_range _ lo (hi - lo).toNat, ?_, fun b hb => ?_, q⟩
  · have e1 : lo + ((0 : Nat) : Int) * 1 = lo := by simp
    have e2 : (((hi - lo).toNat : Nat) : Int) - ((0 : Nat) : Int) = Builtin.Range.rangeSize lo hi 1 := by rw [rangeSize_one]; split <;> omega
    show IsRangeIter _ _ (lo + ((0 : Nat) : Int) * 1) ((((hi - lo).toNat : Nat) : Int) - ((0 : Nat) : Int)) 1
    rw [e1, e2]
    exact Heap.get?_push_size _ rfl
  · have e : b = (s.heap.push { cls := .type "range", data := .fields #[.int lo t, .int hi u, .int 1 v] }).objs.size := by simpa using hb
    subst e
    exact I1.fpOk (Nat.le_refl _) (I1.hok.fresh (Nat.le_refl _))
def iRng1 (ta : TA) : TI := fun σ H R => ta σ H fun vs H1 => ∃ j : Int, vs = [.int j] ∧ -(2 ^ 62) ≤ j ∧ j < 2 ^ 62 ∧ R (Itr 0 j.toNat) H1
theorem pi_range1 {a : Expr} {ta : TA} {p pos : Pos} (hg : Gl X "range") (hm : X.mg "range" = none) (ha : PA X [a] ta) (hs : starEach [a] X.env = [(false, eval a X.env)] := by rfl) : PI X tg (.Call (.Name "range" p) [a] [] pos) (iRng1 ta) := by
  intro pins s σ H R I h
  refine Call_ (ld_blt I hg hm boot_range (PyProof.Rows.callWith_type1 (thn (ha pos pins s σ H _ I h) fun us s1 ⟨vs, H1, I1, r1, q1⟩ => ?_) hs rfl))
  obtain ⟨j, e, q1, q2, q⟩ := q1
  subst e
  cases r1 with
  | cons r rr =>
    cases rr
    obtain ⟨t, rfl⟩ := r
    exact call_range_1 (range_it I1 (by omega) (by omega) q1 q2 (by simpa using q))
/-! ### for -/
/-- W: the invariant by the turn and a measure; N: what the body is to reach -/
def tFor (wi : TI) (g : TG) (tb : TS) : TS := fun D σ H => wi σ H fun J H1 => ∃ W : Nat → Nat → St → Hp → Prop, (∃ m, W 0 m σ H1) ∧ ∀ i m σ H, W i m σ H →
  (J.stop i H ∧ D.nx σ H) ∨ (J.go i H ∧ ∃ N : St → Hp → Prop, (∀ σ' H', N σ' H' → ∃ m', m' < m ∧ W (i + 1) m' σ' H') ∧ ∀ x H', J.yld i H x H' → g x σ H' fun σ2 H2 => tb { D with nx := N, ct := N, bk := D.nx } σ2 H2)
/-- the records at fp as they stand -/
def pinsAt (fp : List Addr) (h : Heap) : List (Addr × Obj) := fp.filterMap fun b => (h.get? b).map fun o => (b, o)
theorem mem_pinsAt {fp : List Addr} {h : Heap} {b : Addr} {o : Obj} (hb : b ∈ fp) (e : h.get? b = some o) : (b, o) ∈ pinsAt fp h := List.mem_filterMap.mpr ⟨b, hb, by rw [e]; rfl⟩
theorem of_pinsAt {fp : List Addr} {h : Heap} {p : Addr × Obj} (hp : p ∈ pinsAt fp h) : p.1 ∈ fp ∧ h.get? p.1 = some p.2 := by
  obtain ⟨b, hb, e⟩ := List.mem_filterMap.mp hp
  cases q : h.get? b with
  | none => rw [q] at e; cases e
  | some o =>
    rw [q] at e
    have e' : (b, o) = p := Option.some.inj e
    subst e'
    exact ⟨hb, q⟩
theorem Inv.pinned {pins : List (Addr × Obj)} {σ : St} {H : Hp} {s : Shared} {fp : List Addr} (I : Inv X pins σ H s) (hf : ∀ b ∈ fp, FpOk X pins H b) (ho : ∀ b ∈ fp, ∃ o, s.heap.get? b = some o ∧ ∀ v, o.data ≠ .cell v) : Inv X (pins ++ pinsAt fp s.heap) σ H s :=
  I.pins_of fun p hp => (List.mem_append.mp hp).elim (fun z => I.pin p (List.mem_append_right _ z)) fun z => by
    obtain ⟨hb, e⟩ := of_pinsAt z
    obtain ⟨f0, f1, f2, _⟩ := hf p.1 hb
    obtain ⟨o, e', d⟩ := ho p.1 hb
    rw [e] at e'; cases e'
    exact ⟨e, f0, f1, f2, d⟩
theorem Inv.unpinned {pins pl : List (Addr × Obj)} {σ : St} {H : Hp} {s : Shared} (I : Inv X (pins ++ pl) σ H s) : Inv X pins σ H s := I.pins_of fun p hp => I.pin p (List.mem_append_right _ (List.mem_append_left _ hp))
theorem ps_for {iter : Expr} {body : List Stmt} {wi : TI} {g : TG} {tb : TS} {pos : Pos} (hp : PassesOwn (model X.prog X.w) X.A X.env X.xe) (hc : X.calm = true) (hi : PI X tg iter wi) (hg : PG X tg g) (hb : PSs X body tb)
    (hs : ∀ x, foldedSetIterable iter X.env x = pure x := by intro _; rfl) : PS X (.For tg iter body [] pos) (tFor wi g tb) := by
  intro pins s σ H D I h
  refine wpAny_For (thn (hi pins s σ H _ I h) fun v s1 h1 => thn h1 fun itv s2 h2 => ?_) hs
  obtain ⟨it, fp, tn, J, H2, e, I2, T, st2, f2, W, ⟨m0, w0⟩, turn⟩ := h2
  subst e
  -- what stays true of the iterator's objects through the loop
  have stat : ∀ {H' : Hp}, (∀ b ∈ fp, H' b = none) → ∀ b ∈ fp, FpOk X pins H' b := fun hn b hb => ⟨hn b hb, (f2 b hb).2⟩
  refine codeAny_forLoop_any (fun n s' => ∃ i σ' H', Inv X pins σ' H' s' ∧ tn i s'.heap ∧ (∀ b ∈ fp, H' b = none) ∧ W i n σ' H') ?_ m0 ⟨0, σ, H2, I2, st2, fun b hb => (f2 b hb).1, w0⟩
  rintro n s3 ⟨i, σ3, H3, I3, st3, fr3, w3⟩
  rcases turn i n σ3 H3 w3 with ⟨stop, qn⟩ | ⟨go, N, hN, step⟩
  · refine wpAny_passesOwn hp (thn (T.done X rfl rfl rfl hc i pins s3 σ3 H3 X.xe I3 (stat fr3) st3 stop) fun r s4 ⟨hr, I4⟩ => ?_)
    subst hr
    exact wpAny_execs_nil ⟨σ3, H3, I4, qn⟩
  · refine wpAny_passesOwn hp (thn (T.item X rfl rfl rfl hc i pins s3 σ3 H3 X.xe I3 (stat fr3) st3 go) fun r s4 ⟨u, hr, h4⟩ => ?_)
    subst hr
    refine wpAny_passesOwn hp (thn h4 fun _ s5 ⟨x, H5, I5, r5, y5, st5, fr5⟩ => ?_)
    have I5' := I5.pinned (stat fr5) (T.obj _ _ st5)
    refine wpAny_passesOwn hp (thn (hg _ s5 σ3 H5 x u _ I5' r5 (step x H5 y5)) fun _ s6 ⟨σ6, H6, I6, q6⟩ => ?_)
    refine wpAny_passesOwn hp (thn (hb _ s6 σ6 H6 _ I6 q6) fun f s7 q7 => ?_)
    have again : ∀ {σ7 : St} {H7 : Hp}, Inv X (pins ++ pinsAt fp s5.heap) σ7 H7 s7 → N σ7 H7 → ∃ m, m < n ∧ ∃ i σ' H', Inv X pins σ' H' s7 ∧ tn i s7.heap ∧ (∀ b ∈ fp, H' b = none) ∧ W i m σ' H' := fun {σ7 H7} I7 n7 => by
      obtain ⟨m', hm, w7⟩ := hN σ7 H7 n7
      refine ⟨m', hm, i + 1, σ7, H7, I7.unpinned, T.keep _ _ _ st5 fun b hb o e => (I7.pin (b, o) (List.mem_append_right _ (List.mem_append_right _ (mem_pinsAt hb e)))).1, fun b hb => ?_, w7⟩
      obtain ⟨o, e, d⟩ := T.obj _ _ st5 b hb
      exact (I7.pin (b, o) (List.mem_append_right _ (List.mem_append_right _ (mem_pinsAt hb e)))).2.1
    cases f with
    | next => obtain ⟨σ7, H7, I7, n7⟩ := q7; exact again I7 n7
    | cont => obtain ⟨σ7, H7, I7, n7⟩ := q7; exact again I7 n7
    | brk => obtain ⟨σ7, H7, I7, q7⟩ := q7; exact ⟨σ7, H7, I7.unpinned, q7⟩
    | ret v => obtain ⟨x7, σ7, H7, I7, r7, q7⟩ := q7; exact ⟨x7, σ7, H7, I7.unpinned, r7, q7⟩
end

/-! ### the forms one uses -/
/-- over a list that the body leaves as it is -/
theorem for_list {K : PySem.W.Frag} {a : Addr} {xs : List V} {g : TG} {tb : TS} {D : Ends} {σ : St} {H : Hp} (Pv : Nat → St → Hp → Prop) (h0 : Pv 0 σ H) (hl : ∀ i σ H, i ≤ xs.length → Pv i σ H → SqL K H a xs)
    (hs : ∀ i x σ H, xs[i]? = some x → Pv i σ H → g x σ H fun σ2 H2 => tb { D with nx := Pv (i + 1), ct := Pv (i + 1), bk := D.nx } σ2 H2) (hd : ∀ σ H, Pv xs.length σ H → D.nx σ H) :
    ∃ W : Nat → Nat → St → Hp → Prop, (∃ m, W 0 m σ H) ∧ ∀ i m σ H, W i m σ H →
      ((Itl K a).stop i H ∧ D.nx σ H) ∨ ((Itl K a).go i H ∧ ∃ N : St → Hp → Prop, (∀ σ' H', N σ' H' → ∃ m', m' < m ∧ W (i + 1) m' σ' H') ∧ ∀ x H', (Itl K a).yld i H x H' → g x σ H' fun σ2 H2 => tb { D with nx := N, ct := N, bk := D.nx } σ2 H2) := by
  refine ⟨fun i m σ H => m = xs.length - i ∧ i ≤ xs.length ∧ Pv i σ H, ⟨xs.length, by simp, Nat.zero_le _, h0⟩, ?_⟩
  rintro i m σ H ⟨rfl, hi, p⟩
  have q := hl i σ H hi p
  by_cases hlt : i < xs.length
  · refine .inr ⟨⟨xs, xs[i], q, by simp [hlt]⟩, Pv (i + 1), fun σ' H' p' => ⟨xs.length - (i + 1), by omega, rfl, hlt, p'⟩, fun x H' y => ?_⟩
    obtain ⟨e, y⟩ := y
    subst e
    exact hs i x σ _ (y xs q) p
  · have e : i = xs.length := by omega
    subst e
    exact .inl ⟨⟨xs, q, Nat.le_refl _⟩, hd σ H p⟩
theorem for_range {lo : Int} {n : Nat} {g : TG} {tb : TS} {D : Ends} {σ : St} {H : Hp} (Pv : Nat → St → Hp → Prop) (h0 : Pv 0 σ H)
    (hs : ∀ i σ H, i < n → Pv i σ H → g (.int (lo + i)) σ H fun σ2 H2 => tb { D with nx := Pv (i + 1), ct := Pv (i + 1), bk := D.nx } σ2 H2) (hd : ∀ σ H, Pv n σ H → D.nx σ H) :
    ∃ W : Nat → Nat → St → Hp → Prop, (∃ m, W 0 m σ H) ∧ ∀ i m σ H, W i m σ H →
      ((Itr lo n).stop i H ∧ D.nx σ H) ∨ ((Itr lo n).go i H ∧ ∃ N : St → Hp → Prop, (∀ σ' H', N σ' H' → ∃ m', m' < m ∧ W (i + 1) m' σ' H') ∧ ∀ x H', (Itr lo n).yld i H x H' → g x σ H' fun σ2 H2 => tb { D with nx := N, ct := N, bk := D.nx } σ2 H2) := by
  refine ⟨fun i m σ H => m = n - i ∧ i ≤ n ∧ Pv i σ H, ⟨n, by simp, Nat.zero_le _, h0⟩, ?_⟩
  rintro i m σ H ⟨rfl, hi, p⟩
  by_cases hlt : i < n
  · refine .inr ⟨hlt, Pv (i + 1), fun σ' H' p' => ⟨n - (i + 1), by omega, rfl, hlt, p'⟩, fun x H' y => ?_⟩
    obtain ⟨e, y⟩ := y
    subst e y
    exact hs i σ _ hlt p
  · have e : i = n := by omega
    subst e
    exact .inl ⟨Nat.le_refl _, hd σ H p⟩
end L2

namespace L2
open PySem PySem.Spec PyProof.Rows

abbrev R2 := V → V → Hp → VK → Prop
/-- a two-place operation on values: f is binaryOp op, inplaceOp op or compareOp op -/
def OpR (X : Cx) (f : Value → Value → Sem Value) (r : R2) : Prop :=
  ∀ (pins : List (Addr × Obj)) (s : Shared) (σ : St) (H : Hp) (x y : V) (v u : Value) (Q : VK), Inv X pins σ H s → RelV x v → RelV y u → r x y H Q →
    wpAny (model X.prog X.w) X.A (f v u) (EP X pins σ Q) X.xe s
/-- a one-place operation -/
def UnR (X : Cx) (f : Value → Sem Value) (r : V → Hp → VK → Prop) : Prop :=
  ∀ (pins : List (Addr × Obj)) (s : Shared) (σ : St) (H : Hp) (x : V) (v : Value) (Q : VK), Inv X pins σ H s → RelV x v → r x H Q →
    wpAny (model X.prog X.w) X.A (f v) (EP X pins σ Q) X.xe s
/-- a call of a value that is known (a builtin, a type) with values -/
def CallR (X : Cx) (f : Value) (r : List V → Hp → VK → Prop) : Prop :=
  ∀ (pins : List (Addr × Obj)) (s : Shared) (σ : St) (H : Hp) (xs : List V) (us : List Value) (Q : VK), Inv X pins σ H s → Vals xs us → r xs H Q →
    wpAny (model X.prog X.w) X.A (call f us) (EP X pins σ Q) X.xe s
def tOp (r : R2) (ta tb : TE) : TE := fun σ H Q => ta σ H fun x H1 => tb σ H1 fun y H2 => r x y H2 Q
def tUn (r : V → Hp → VK → Prop) (ta : TE) : TE := fun σ H Q => ta σ H fun x H1 => r x H1 Q
/-- ints in, under C, and a value out -/
def rI (C : Int → Int → Prop) (g : Int → Int → V) : R2 := fun x y H Q => ∃ i j, x = .int i ∧ y = .int j ∧ C i j ∧ Q (g i j) H
def rI0 (g : Int → Int → V) : R2 := fun x y H Q => ∃ i j, x = .int i ∧ y = .int j ∧ Q (g i j) H
def rU (g : Int → V) : V → Hp → VK → Prop := fun x H Q => ∃ i, x = .int i ∧ Q (g i) H

section
variable {X : Cx} {a b c : Expr} {ta tb tc : TE} {pos : Pos}

theorem binT (ha : PE X a ta) (hb : PE X b tb) {pins : List (Addr × Obj)} {s : Shared} {σ : St} {H : Hp} {R : V → V → Hp → Prop} (I : Inv X pins σ H s)
    (h : ta σ H fun x H1 => tb σ H1 fun y H2 => R x y H2) {Q : Value → Shared → Prop} {f : Value → Value → Sem Value}
    (hf : ∀ v u s2 x y H2, Inv X pins σ H2 s2 → RelV x v → RelV y u → R x y H2 → wpAny (model X.prog X.w) X.A (f v u) Q X.xe s2) :
    wpAny (model X.prog X.w) X.A (eval a X.env) (fun v s₁ => wpAny (model X.prog X.w) X.A (eval b X.env) (fun u s₂ => wpAny (model X.prog X.w) X.A (f v u) Q X.xe s₂) X.xe s₁) X.xe s := by
  refine thn (ha pins s σ H _ I h) fun v s1 ⟨x, H1, I1, r1, q1⟩ => ?_
  refine thn (hb pins s1 σ H1 _ I1 q1) fun u s2 ⟨y, H2, I2, r2, q2⟩ => ?_
  exact hf v u s2 x y H2 I2 r1 r2 q2

theorem pe_op {op : Operator} {r : R2} (ho : OpR X (binaryOp op) r) (ha : PE X a ta) (hb : PE X b tb) : PE X (.BinOp a op b pos) (tOp r ta tb) := by
  intro pins s σ H Q I h
  exact wpAny_BinOp (binT ha hb I h fun v u s2 x y H2 I2 rx ry q => ho pins s2 σ H2 x y v u Q I2 rx ry q)
theorem pe_un {op : UnaryOp} {r : V → Hp → VK → Prop} (ho : UnR X (unaryOp op) r) (ha : PE X a ta) : PE X (.UnaryOp op a pos) (tUn r ta) := by
  intro pins s σ H Q I h
  exact UnaryOp_ (thn (ha pins s σ H _ I h) fun v s1 ⟨x, H1, I1, r1, q1⟩ => ho pins s1 σ H1 x v Q I1 r1 q1)
/-! ### ints -/
theorem opI {f : Value → Value → Sem Value} {C : Int → Int → Prop} {g : Int → Int → Int}
    (rule : ∀ (i j : Int) (t u : Tok) (s : Shared) (Q : Value → Shared → Prop) (E : Value → Shared → Prop), C i j → Q (.int (g i j) s.toks) { s with toks := s.toks + 1 } → wpAny (model X.prog X.w) X.A (f (.int i t) (.int j u)) Q E s) :
    OpR X f (rI C fun i j => .int (g i j)) := by
  intro pins s σ H x y v u Q I rx ry h
  obtain ⟨i, j, rfl, rfl, hc, q⟩ := h
  obtain ⟨t, rfl⟩ := rx
  obtain ⟨t', rfl⟩ := ry
  exact rule i j t t' s _ _ hc ⟨.int (g i j), H, I.tok _, ⟨_, rfl⟩, q⟩
theorem opI0 {f : Value → Value → Sem Value} {g : Int → Int → Int}
    (rule : ∀ (i j : Int) (t u : Tok) (s : Shared) (Q : Value → Shared → Prop) (E : Value → Shared → Prop), Q (.int (g i j) s.toks) { s with toks := s.toks + 1 } → wpAny (model X.prog X.w) X.A (f (.int i t) (.int j u)) Q E s) :
    OpR X f (rI0 fun i j => .int (g i j)) := by
  intro pins s σ H x y v u Q I rx ry h
  obtain ⟨i, j, rfl, rfl, q⟩ := h
  obtain ⟨t, rfl⟩ := rx
  obtain ⟨t', rfl⟩ := ry
  exact rule i j t t' s _ _ ⟨.int (g i j), H, I.tok _, ⟨_, rfl⟩, q⟩
theorem opB0 {f : Value → Value → Sem Value} {g : Int → Int → Bool}
    (rule : ∀ (i j : Int) (t u : Tok) (s : Shared) (Q : Value → Shared → Prop) (E : Value → Shared → Prop), Q (.bool (g i j)) s → wpAny (model X.prog X.w) X.A (f (.int i t) (.int j u)) Q E s) :
    OpR X f (rI0 fun i j => .bl (g i j)) := by
  intro pins s σ H x y v u Q I rx ry h
  obtain ⟨i, j, rfl, rfl, q⟩ := h
  obtain ⟨t, rfl⟩ := rx
  obtain ⟨t', rfl⟩ := ry
  exact rule i j t t' s _ _ ⟨.bl (g i j), H, I, rfl, q⟩

def CDiv (i j : Int) : Prop := 0 < j ∧ j < 1073741824
def CPow (i j : Int) : Prop := 0 ≤ j ∧ j ≤ 1000000 ∧ i.natAbs < 2 ^ 64
def CMul (i j : Int) : Prop := (-(2 ^ 64) < i ∧ i < 2 ^ 64) ∨ (-(2 ^ 64) < j ∧ j < 2 ^ 64)
theorem CMul.ok {i j : Int} (h : CMul i j) : IntMulOk i j := by
  rcases h with ⟨h1, h2⟩ | ⟨h1, h2⟩
  · exact .of_left (intBits_le_64 h1 h2)
  · exact .of_right (intBits_le_64 h1 h2)
theorem op_add : OpR X (binaryOp .Add) (rI0 fun i j => .int (i + j)) := opI0 fun _ _ _ _ _ _ _ q => add_int q
theorem op_sub : OpR X (binaryOp .Sub) (rI0 fun i j => .int (i - j)) := opI0 fun _ _ _ _ _ _ _ q => sub_int q
theorem op_mul : OpR X (binaryOp .Mult) (rI CMul fun i j => .int (i * j)) := opI fun _ _ _ _ _ _ _ hc q => mul_int q hc.ok
/-- // by a positive divisor -/
theorem op_fdiv : OpR X (binaryOp .FloorDiv) (rI CDiv fun i j => .int (i / j)) := opI fun i j _ _ _ _ _ hc q => by
  have h1 : (0 : Int) < j := hc.1
  have h2 : j < 1073741824 := hc.2
  exact floordiv_int (by omega) (by rw [Int.fdiv_eq_ediv_of_nonneg i (by omega)]; exact q) (.inl (PyProof.noPylong_small (by omega)))
/-- % by a positive divisor of any size -/
theorem op_mod : OpR X (binaryOp .Mod) (rI (fun _ j => 0 < j) fun i j => .int (i % j)) := opI fun i j _ _ _ _ _ hc q => by
  have h1 : (0 : Int) < j := hc
  exact mod_int' (by omega) (by rw [Int.fmod_eq_emod_of_nonneg i (by omega)]; exact q)
theorem op_pow : OpR X (binaryOp .Pow) (rI CPow fun i j => .int (i ^ j.toNat)) := opI fun _ _ _ _ _ _ _ hc q => pow_int_small hc.1 hc.2.1 hc.2.2 q
theorem unI {f : Value → Sem Value} {g : Int → Int}
    (rule : ∀ (i : Int) (t : Tok) (s : Shared) (Q : Value → Shared → Prop) (E : Value → Shared → Prop), Q (.int (g i) s.toks) { s with toks := s.toks + 1 } → wpAny (model X.prog X.w) X.A (f (.int i t)) Q E s) :
    UnR X f (rU fun i => .int (g i)) := by
  intro pins s σ H x v Q I rx h
  obtain ⟨i, rfl, q⟩ := h
  obtain ⟨t, rfl⟩ := rx
  exact rule i t s _ _ ⟨.int (g i), H, I.tok _, ⟨_, rfl⟩, q⟩
theorem un_neg : UnR X (unaryOp .USub) (rU fun i => .int (-i)) := unI fun _ _ _ _ _ q => neg_int q
/-! ### bools among ints: n += (a < b) -/
end

/-! ### comparisons -/
/-- the scalars that == tells apart as data does -/
def scal : V → V → Bool
  | .non, .non => true | .non, .int _ => true | .int _, .non => true | .non, .bl _ => true | .bl _, .non => true | .non, .str _ => true | .str _, .non => true
  | .int _, .int _ => true | .bl _, .bl _ => true | .str _, .str _ => true | .byt _, .byt _ => true
  | .int _, .str _ => true | .str _, .int _ => true | .bl _, .str _ => true | .str _, .bl _ => true
  | _, _ => false
def rEq : R2 := fun x y H Q => scal x y = true ∧ Q (.bl (decide (x = y))) H
def rNe : R2 := fun x y H Q => scal x y = true ∧ Q (.bl (!decide (x = y))) H

theorem dec_int {i j : Int} : decide (V.int i = V.int j) = (i == j) := by
  rw [Bool.eq_iff_iff]
  simp
theorem dec_bl {i j : Bool} : decide (V.bl i = V.bl j) = (i == j) := by
  rw [Bool.eq_iff_iff]
  simp
theorem dec_str {i j : Str} : decide (V.str i = V.str j) = (i == j) := by
  rw [Bool.eq_iff_iff]
  simp
theorem dec_byt {i j : Array UInt8} : decide (V.byt i = V.byt j) = (i.toList == j.toList) := by
  rw [Bool.eq_iff_iff]
  cases i
  cases j
  simp

section
variable {X : Cx} {a b c : Expr} {ta tb tc : TE} {pos : Pos}
theorem fin_bl {pins : List (Addr × Obj)} {σ : St} {H : Hp} {s : Shared} {Q : VK} {k k' : Bool} (I : Inv X pins σ H s) (q : Q (.bl k) H) (e : k = k') : EP X pins σ Q (.bool k') s := by
  subst e
  exact ⟨.bl k, H, I, rfl, q⟩
theorem op_eq : OpR X (compareOp .Eq) rEq := by
  intro pins s σ H x y v u Q I rx ry h
  obtain ⟨hs, q⟩ := h
  cases x with
  | non =>
    cases rx
    cases y with
    | non => cases ry; exact PySem.EqNone.eq_none_none (fin_bl I q (by simp))
    | bl j => cases ry; exact PySem.EqNone.eq_none_bool (fin_bl I q (by simp))
    | int j => obtain ⟨t', rfl⟩ := ry; exact PySem.EqNone.eq_none_int (fin_bl I q (by simp))
    | str j => obtain ⟨t', rfl⟩ := ry; exact PySem.EqNone.eq_none_str (fin_bl I q (by simp))
    | _ => exact absurd (show false = true from hs) Bool.false_ne_true
  | bl i =>
    cases rx
    cases y with
    | non => cases ry; exact PySem.EqNone.eq_bool_none (fin_bl I q (by simp))
    | bl j => cases ry; exact eq_bool (fin_bl I q dec_bl)
    | str j => obtain ⟨t', rfl⟩ := ry; exact PySem.EqMixed.eq_bool_str (fin_bl I q (by simp))
    | _ => exact absurd (show false = true from hs) Bool.false_ne_true
  | int i =>
    obtain ⟨t, rfl⟩ := rx
    cases y with
    | non => cases ry; exact PySem.EqNone.eq_int_none (fin_bl I q (by simp))
    | int j => obtain ⟨t', rfl⟩ := ry; exact eq_int (fin_bl I q dec_int)
    | str j => obtain ⟨t', rfl⟩ := ry; exact PySem.EqMixed.eq_int_str (fin_bl I q (by simp))
    | _ => exact absurd (show false = true from hs) Bool.false_ne_true
  | str i =>
    obtain ⟨t, rfl⟩ := rx
    cases y with
    | non => cases ry; exact PySem.EqNone.eq_str_none (fin_bl I q (by simp))
    | bl j => cases ry; exact PySem.EqMixed.eq_str_bool (fin_bl I q (by simp))
    | int j => obtain ⟨t', rfl⟩ := ry; exact PySem.EqMixed.eq_str_int (fin_bl I q (by simp))
    | str j => obtain ⟨t', rfl⟩ := ry; exact eq_str (fin_bl I q dec_str)
    | _ => exact absurd (show false = true from hs) Bool.false_ne_true
  | byt i =>
    obtain ⟨t, rfl⟩ := rx
    cases y with
    | byt j => obtain ⟨t', rfl⟩ := ry; exact PySem.W.eq_bytes (fin_bl I q dec_byt)
    | _ => exact absurd (show false = true from hs) Bool.false_ne_true
  | _ => cases y <;> exact absurd (show false = true from hs) Bool.false_ne_true
theorem op_ne : OpR X (compareOp .NotEq) rNe := by
  intro pins s σ H x y v u Q I rx ry h
  obtain ⟨hs, q⟩ := h
  cases x with
  | non =>
    cases rx
    cases y with
    | non => cases ry; exact PySem.EqNone.ne_none_none (fin_bl I q (by simp))
    | bl j => cases ry; exact PySem.EqNone.ne_none_bool (fin_bl I q (by simp))
    | int j => obtain ⟨t', rfl⟩ := ry; exact PySem.EqNone.ne_none_int (fin_bl I q (by simp))
    | str j => obtain ⟨t', rfl⟩ := ry; exact PySem.EqNone.ne_none_str (fin_bl I q (by simp))
    | _ => exact absurd (show false = true from hs) Bool.false_ne_true
  | bl i =>
    cases rx
    cases y with
    | non => cases ry; exact PySem.EqNone.ne_bool_none (fin_bl I q (by simp))
    | bl j => cases ry; exact ne_bool (fin_bl I q (congrArg not dec_bl))
    | str j => obtain ⟨t', rfl⟩ := ry; exact PySem.EqMixed.ne_bool_str (fin_bl I q (by simp))
    | _ => exact absurd (show false = true from hs) Bool.false_ne_true
  | int i =>
    obtain ⟨t, rfl⟩ := rx
    cases y with
    | non => cases ry; exact PySem.EqNone.ne_int_none (fin_bl I q (by simp))
    | int j => obtain ⟨t', rfl⟩ := ry; exact ne_int (fin_bl I q (congrArg not dec_int))
    | str j => obtain ⟨t', rfl⟩ := ry; exact PySem.EqMixed.ne_int_str (fin_bl I q (by simp))
    | _ => exact absurd (show false = true from hs) Bool.false_ne_true
  | str i =>
    obtain ⟨t, rfl⟩ := rx
    cases y with
    | non => cases ry; exact PySem.EqNone.ne_str_none (fin_bl I q (by simp))
    | bl j => cases ry; exact PySem.EqMixed.ne_str_bool (fin_bl I q (by simp))
    | int j => obtain ⟨t', rfl⟩ := ry; exact PySem.EqMixed.ne_str_int (fin_bl I q (by simp))
    | str j => obtain ⟨t', rfl⟩ := ry; exact ne_str (fin_bl I q (congrArg not dec_str))
    | _ => exact absurd (show false = true from hs) Bool.false_ne_true
  | byt i =>
    obtain ⟨t, rfl⟩ := rx
    cases y with
    | byt j => obtain ⟨t', rfl⟩ := ry; exact PySem.W.ne_bytes (fin_bl I q (congrArg not dec_byt))
    | _ => exact absurd (show false = true from hs) Bool.false_ne_true
  | _ => cases y <;> exact absurd (show false = true from hs) Bool.false_ne_true

theorem op_lt : OpR X (compareOp .Lt) (rI0 fun i j => .bl (decide (i < j))) := opB0 fun _ _ _ _ _ _ _ q => lt_int q
theorem op_le : OpR X (compareOp .LtE) (rI0 fun i j => .bl (decide (i ≤ j))) := opB0 fun _ _ _ _ _ _ _ q => le_int q
theorem op_ge : OpR X (compareOp .GtE) (rI0 fun i j => .bl (decide (j ≤ i))) := opB0 fun _ _ _ _ _ _ _ q => ge_int q
/-- is None, is not None: the right side a value none -/
theorem op_isN : OpR X (compareOp .Is) (fun x y H Q => y = .non ∧ Q (.bl (decide (x = .non))) H) := by
  intro pins s σ H x y v u Q I rx ry h
  obtain ⟨rfl, q⟩ := h
  cases ry
  refine is_none_gen (fin_bl I q ?_)
  cases x <;> first
    | (cases rx; rfl)
    | (obtain ⟨t, rfl⟩ := rx; rfl)
/-- two rules for one operation: by cases -/
theorem OpR.or {f : Value → Value → Sem Value} {r r' : R2} (h : OpR X f r) (h' : OpR X f r') : OpR X f (fun x y H Q => r x y H Q ∨ r' x y H Q) := by
  intro pins s σ H x y v u Q I rx ry q
  rcases q with q | q
  · exact h pins s σ H x y v u Q I rx ry q
  · exact h' pins s σ H x y v u Q I rx ry q

theorem nomark (b : Expr) {op : CmpOp} (h : op ≠ .In := by decide) (h2 : op ≠ .NotIn := by decide) : behindInMarks op b = false := by
  have e1 : (op == CmpOp.In) = false := by cases op <;> first | rfl | exact absurd rfl h
  have e2 : (op == CmpOp.NotIn) = false := by cases op <;> first | rfl | exact absurd rfl h2
  cases b <;> simp [behindInMarks, e1, e2]
/-- a comparison as a value; hm: nomark b, or (for in, not in) by with_unfolding_all rfl -/
theorem pe_cmpR {op : CmpOp} {r : R2} (ho : OpR X (compareOp op) r) (ha : PE X a ta) (hb : PE X b tb) (hm : behindInMarks op b = false) : PE X (.Compare a [op] [b] pos) (tOp r ta tb) := by
  intro pins s σ H Q I h
  exact wpAny_Compare1 (binT ha hb I h fun v u s2 x y H2 I2 rx ry q => ho pins s2 σ H2 x y v u Q I2 rx ry q) hm
/-- a reading of a value as a test -/
def tTest (t : TE) : TT := fun σ H Q => t σ H fun x H' => ∃ k, x = .bl k ∧ Q k H'
theorem pt_cmpR {op : CmpOp} {r : R2} (ho : OpR X (compareOp op) r) (ha : PE X a ta) (hb : PE X b tb) (hm : behindInMarks op b = false) : PT X (.Compare a [op] [b] pos) (tTest (tOp r ta tb)) := by
  intro pins s σ H Q I h
  refine wpAny_isTrue_Compare1 (thn (ha pins s σ H _ I h) fun v s1 ⟨x, H1, I1, r1, q1⟩ => thn (hb pins s1 σ H1 _ I1 q1) fun u s2 ⟨y, H2, I2, r2, q2⟩ =>
    thn (ho pins s2 σ H2 x y v u _ I2 r1 r2 q2) fun c s3 ⟨z, H3, I3, r3, k, e, q3⟩ => ?_) hm
  subst e
  cases r3
  exact wpAny_truthy_bool ⟨H3, I3, q3⟩
/-- a op1 b op2 c -/
def tChain (r r' : R2) (ta tb tc : TE) : TE := fun σ H Q => ta σ H fun x H1 => tb σ H1 fun y H2 => r x y H2 fun z H3 => ∃ k, z = .bl k ∧
  (if k = true then tc σ H3 fun w' H4 => r' y w' H4 Q else Q (.bl false) H3)
theorem pe_chain {op op' : CmpOp} {r r' : R2} (ho : OpR X (compareOp op) r) (ho' : OpR X (compareOp op') r') (ha : PE X a ta) (hb : PE X b tb) (hc : PE X c tc)
    (hm : lastMarks [op, op'] [b, c] = false := by with_unfolding_all rfl) : PE X (.Compare a [op, op'] [b, c] pos) (tChain r r' ta tb tc) := by
  intro pins s σ H Q I h
  refine Compare_chain (thn (ha pins s σ H _ I h) fun v s1 ⟨x, H1, I1, r1, q1⟩ => chain_link (thn (hb pins s1 σ H1 _ I1 q1) fun u s2 ⟨y, H2, I2, r2, q2⟩ =>
    thn (ho pins s2 σ H2 x y v u _ I2 r1 r2 q2) fun d s3 ⟨z, H3, I3, r3, k, e, q3⟩ => ?_)) hm
  subst e
  cases r3
  refine wpAny_truthy_bool ?_
  cases k with
  | false => exact ite_ff ⟨.bl false, H3, I3, rfl, q3⟩
  | true => exact ite_tt (chain_last (thn (hc pins s3 σ H3 _ I3 q3) fun w' s4 ⟨z', H4, I4, r4, q4⟩ => ho' pins s4 σ H4 y z' u w' Q I4 r2 r4 q4))
theorem pt_chain {op op' : CmpOp} {r r' : R2} (ho : OpR X (compareOp op) r) (ho' : OpR X (compareOp op') r') (ha : PE X a ta) (hb : PE X b tb) (hc : PE X c tc)
    (hm : lastMarks [op, op'] [b, c] = false := by with_unfolding_all rfl) : PT X (.Compare a [op, op'] [b, c] pos) (tTest (tChain r r' ta tb tc)) := by
  intro pins s σ H Q I h
  refine isTrue_chain (thn (ha pins s σ H _ I h) fun v s1 ⟨x, H1, I1, r1, q1⟩ => test_link (thn (hb pins s1 σ H1 _ I1 q1) fun u s2 ⟨y, H2, I2, r2, q2⟩ =>
    thn (ho pins s2 σ H2 x y v u _ I2 r1 r2 q2) fun d s3 ⟨z, H3, I3, r3, k, e, q3⟩ => ?_)) hm
  subst e
  cases r3
  refine wpAny_truthy_bool ?_
  cases k with
  | false =>
    obtain ⟨k', e', q'⟩ := q3
    cases e'
    exact ite_ff ⟨H3, I3, q'⟩
  | true =>
    refine ite_tt (test_last (thn (hc pins s3 σ H3 _ I3 q3) fun w' s4 ⟨z', H4, I4, r4, q4⟩ => thn (ho' pins s4 σ H4 y z' u w' _ I4 r2 r4 q4) fun d' s5 ⟨z2, H5, I5, r5, k2, e2, q5⟩ => ?_))
    subst e2
    cases r5
    exact wpAny_truthy_bool ⟨H5, I5, q5⟩

/-! ### truth -/
theorem line63 : (sizeLine : Nat) < 2 ^ 63 := by rw [sizeLine_eq]; decide
/-! ### strs and bytes -/
theorem op_add_str : OpR X (binaryOp .Add) (fun x y H Q => ∃ i j, x = .str i ∧ y = .str j ∧ i.length + j.length ≤ sizeLine ∧ Q (.str (i ++ j)) H) := by
  intro pins s σ H x y v u Q I rx ry h
  obtain ⟨i, j, rfl, rfl, hz, q⟩ := h
  obtain ⟨t, rfl⟩ := rx
  obtain ⟨t', rfl⟩ := ry
  exact add_str (fun t' tk => ⟨.str (i ++ j), H, I.tok _, ⟨_, rfl⟩, q⟩) hz
/-! ### scalar builtins, by CallR -/
theorem vals1 {x : V} {us : List Value} (r : Vals [x] us) : ∃ u, us = [u] ∧ RelV x u := by
  cases r with
  | cons r1 r2 => cases r2; exact ⟨_, rfl, r1⟩
theorem vals2 {x y : V} {us : List Value} (r : Vals [x, y] us) : ∃ u w', us = [u, w'] ∧ RelV x u ∧ RelV y w' := by
  cases r with
  | cons r1 r2 =>
    cases r2 with
    | cons r3 r4 => cases r4; exact ⟨_, _, rfl, r1, r3⟩
theorem call_abs : CallR X (.builtin "abs") (fun xs H Q => ∃ i, xs = [.int i] ∧ Q (.int (if i < 0 then -i else i)) H) := by
  intro pins s σ H xs us Q I r h
  obtain ⟨i, rfl, q⟩ := h
  obtain ⟨u, rfl, t, rfl⟩ := vals1 r
  exact call_abs_int fun u tk => ⟨.int (if i < 0 then -i else i), H, I.tok _, ⟨_, rfl⟩, q⟩
theorem call_max2 (hc : X.calm = true) : CallR X (.builtin "max") (fun xs H Q => ∃ i j, xs = [.int i, .int j] ∧ Q (.int (if j > i then j else i)) H) := by
  intro pins s σ H xs us Q I r h
  obtain ⟨i, j, rfl, q⟩ := h
  obtain ⟨u, w', rfl, ⟨t, rfl⟩, ⟨t', rfl⟩⟩ := vals2 r
  refine max_two_ints (I.ok.hd hc) fun h' tk k => ⟨_, H, I.kept k, ?_, q⟩
  by_cases hj : j > i
  · rw [if_pos hj, if_pos hj]; exact ⟨_, rfl⟩
  · rw [if_neg hj, if_neg hj]; exact ⟨_, rfl⟩
theorem call_int1 : CallR X (.type "int") (fun xs H Q => (∃ i, xs = [.int i] ∧ Q (.int i) H) ∨ ∃ k, xs = [.bl k] ∧ Q (.int (if k then 1 else 0)) H) := by
  intro pins s σ H xs us Q I r h
  rcases h with ⟨i, rfl, q⟩ | ⟨k, rfl, q⟩
  · obtain ⟨u, rfl, t, rfl⟩ := vals1 r
    exact call_int_int ⟨.int i, H, I, ⟨_, rfl⟩, q⟩
  · obtain ⟨u, rfl, r1⟩ := vals1 r
    cases r1
    exact call_int_bool ⟨.int (if k then 1 else 0), H, I.tok _, ⟨_, rfl⟩, q⟩
end
end L2

namespace L2
open PySem PySem.Spec PyProof.Rows

/-! ### an instance, its attributes a map -/
structure ObjM (h : Heap) (x dx C : Addr) (mA : Str → Option Value) : Prop where
  obj : h.get? x = some (PySem.W.instObj C dx)
  ns : h.Ns1 dx mA
  ne : dx ≠ x

theorem lookIn_ns {h : Heap} {dx : Addr} {mA : Str → Option Value} (n : h.Ns1 dx mA) : ∃ od, h.get? dx = some od ∧ ∀ name, PySem.W.lookIn name od = some (mA name) := by
  obtain ⟨o, es, ep, ho, hd, hk, _, hm⟩ := n
  refine ⟨o, ho, fun name => ?_⟩
  have e := hm name
  unfold nsFind findBy at e
  rw [← Array.find?_toList] at e
  unfold PySem.W.lookIn
  rw [hd]
  dsimp only
  split
  · rename_i y q
    rw [q] at e
    exact congrArg some e
  · rename_i q
    rw [q] at e
    have a : es.toList.any (·.refKey) = false := by
      rw [List.any_eq_false]
      intro y hy
      obtain ⟨z, t, hkey⟩ := hk y (Array.mem_toList_iff.mp hy)
      simp [DictEntry.refKey, hkey]
    have a' : ¬ es.toList.any (·.refKey) = true := by rw [a]; exact Bool.false_ne_true
    rw [if_neg a']
    exact congrArg some e

theorem ObjM.look {h : Heap} {x dx C : Addr} {mA : Str → Option Value} (I : ObjM h x dx C mA) : ∃ od, PySem.W.InstAt h x (PySem.W.instObj C dx) C (some od) ∧ ∀ name, PySem.W.lookIn name od = some (mA name) :=
  let ⟨od, ho, hl⟩ := lookIn_ns I.ns
  ⟨od, ⟨I.obj, rfl, rfl, ho⟩, hl⟩

section
variable {prog : Program} {w : World} {A : Around} {E : Value → Shared → Prop} {s : Shared} {K : PySem.W.Frag} {x dx C f : Addr} {mA : Str → Option Value} {name : Str} {v : Value}

theorem get_map {expr : Bool} {Q : Value → Shared → Prop} (X : K.In s.heap) (I : ObjM s.heap x dx C mA) (hg : PySem.W.plainGet K C name = true) (hh : PySem.W.hasDictIn K C = true)
    (ha : PySem.W.findIn K (.ref C) name = some none) (hv : mA name = some v) (hv' : PySem.W.handedIn v = true) (h : Q v { s with toks := s.toks + 1 }) :
    wpAny (model prog w) A (getAttr (.ref x) name expr) Q E s := by
  obtain ⟨od, J, hl⟩ := I.look
  exact PySem.W.get_value X J (PySem.W.plainGet_of hg).1 (PySem.W.findObj_own hh ha rfl (by rw [hl, hv])) hv' h

theorem get_meth {pl : Sem Bool} {Q : Value × List Value → Shared → Prop} (X : K.In s.heap) (I : ObjM s.heap x dx C mA) (hg : PySem.W.plainGet K C name = true)
    (hf : PySem.W.findIn K (.ref C) name = some (some (.ref f))) (ht : PySem.W.isFn K (.ref f) = true) (hv : mA name = none) (h : Q (.ref f, [.ref x]) s) :
    wpAny (model prog w) A (getMethod (.ref x) name pl) Q E s := by
  obtain ⟨od, J, hl⟩ := I.look
  exact PySem.W.method_fn X J (PySem.W.plainGet_of hg).1 (PySem.W.plainGet_of hg).2 hf (beq_iff_eq.mp ht) (by show (PySem.W.lookIn name od).map (·.isSome) = some false; rw [hl, hv]; rfl) h

theorem set_map {ns : List Str} {Q : Unit → Shared → Prop} (X : K.In s.heap) (I : ObjM s.heap x dx C mA)
    (hs : PySem.W.findIn K (.ref C) "__setattr__" = some (some (.builtin "object.__setattr__"))) (hp : PySem.W.plainOver K C = true) (ht : PySem.W.takerIn K C name = some none) (hh : PySem.W.hasDictIn K C = true)
    (hw : PySem.Within mA ns) (hsz : ns.length ≤ sizeLine)
    (h : ∀ h', ObjM h' x dx C (fun y => if y = name then some v else mA y) → Heap.SameBut dx s.heap h' → Q () { s with heap := h', toks := s.toks + 2 }) :
    wpAny (model prog w) A (setAttr (.ref x) name v) Q E s := by
  obtain ⟨od, J, hl⟩ := I.look
  refine PySem.W.set_plain X J hs (PySem.W.osa_open (s := { s with toks := s.toks + 1 }) (r := none) X J hp ht fun b => ?_)
  obtain ⟨cd, hc, hd'⟩ := PySem.W.any_some hh
  have hx : s.heap.get? x = some ⟨.ref C, some dx, .plain, #[]⟩ := I.obj
  refine wpAny_bind (wpAny_pure (wpAny_bind (wpAny_bind (wpAny_loadPart hx (wpAny_bind (PySem.W.Looks.here (s := { s with toks := s.toks + 1 }) (PySem.W.looks_clsIn X hc) ?_))))))
  rw [hd']
  refine wpAny_pure (a := some dx) (wpAny_bind (wpAny_pure (wpAny_bind ?_)))
  refine wpAny_nsSet1 (s := { s with toks := s.toks + 1 }) I.ns fun h' hn2 hs2 => ?_
  obtain ⟨oD, esD, epD, hoD, hdD, hcD⟩ := hn2.count (PySem.Within.cons name v hw)
  refine wpAny_bind (wpAny_lookBehind hoD (by rw [hdD]; exact pastItsLine_dict (Nat.le_trans hcD (by rw [List.length_cons]; omega))) ?_)
  exact wpAny_pure (h _ ⟨(hs2.2 _ (Ne.symm I.ne)).trans I.obj, hn2, I.ne⟩ hs2)

/-- C(..): the dict at the heap's end, the instance behind it; then its __init__ -/
theorem make_map {R : Result → Shared → Prop} {vs : List Value} {kw : List (Str × Value)} (X : K.In s.heap) (hm : PySem.W.makesIn K C = true)
    (hi : PySem.W.findIn K (.ref C) "__init__" = some (some (.ref f))) (hf : PySem.W.typeIn K (.ref f) = some (.type "function"))
    (h : codeAny (model prog w) (A.under (.builtin "type.__call__" ⟨.ref C :: vs, kw⟩)) (.call (.ref f) ⟨.ref (s.heap.objs.size + 1) :: vs, kw⟩) (PySem.W.InitBack (s.heap.objs.size + 1) R)
      { s with heap := (s.heap.push PySem.W.emptyDict).push (PySem.W.instObj C s.heap.objs.size) }) :
    codeAny (model prog w) A (.call (.ref C) ⟨vs, kw⟩) R s := by
  obtain ⟨hh, g, d, t, os⟩ := s
  exact PySem.W.make_core (PySem.W.makes_of X hm) (PySem.W.looks_findIn X hi) (fun self => PySem.W.bind_fn X self hf) (.inl rfl) h
end

/-! ### the attributes as a list of pairs -/
def putF (f : Str) (v : V) : List (Str × V) → List (Str × V)
  | [] => [(f, v)]
  | (g, x) :: r => if g = f then (g, v) :: r else (g, x) :: putF f v r
theorem lookup_putF (f g : Str) (v : V) : ∀ fs : List (Str × V), (putF f v fs).lookup g = if g = f then some v else fs.lookup g
  | [] => by
    show List.lookup g [(f, v)] = _
    by_cases h : g = f
    · have hb : (g == f) = true := beq_iff_eq.mpr h
      simp only [List.lookup, hb, if_pos h]
    · have hb : (g == f) = false := beq_eq_false_iff_ne.mpr h
      simp only [List.lookup, hb, if_neg h]
  | (k, x) :: r => by
    have ih := lookup_putF f g v r
    rw [show putF f v ((k, x) :: r) = (if k = f then (k, v) :: r else (k, x) :: putF f v r) from rfl]
    by_cases hk : k = f
    · rw [if_pos hk]
      by_cases h : g = k
      · have hb : (g == k) = true := beq_iff_eq.mpr h
        simp only [List.lookup, hb, if_pos (h.trans hk)]
      · have hb : (g == k) = false := beq_eq_false_iff_ne.mpr h
        simp only [List.lookup, hb, if_neg (fun e : g = f => h (e.trans hk.symm))]
    · rw [if_neg hk]
      by_cases h : g = k
      · have hb : (g == k) = true := beq_iff_eq.mpr h
        simp only [List.lookup, hb, if_neg (fun e : g = f => hk (h.symm.trans e))]
      · have hb : (g == k) = false := beq_eq_false_iff_ne.mpr h
        simp only [List.lookup, hb]
        exact ih
theorem keys_putF (f : Str) (v : V) : ∀ fs : List (Str × V), f ∈ (putF f v fs).map (·.1) ∧ ∀ g, g ∈ fs.map (·.1) → g ∈ (putF f v fs).map (·.1)
  | [] => ⟨by simp [putF], fun g h => by simp at h⟩
  | (k, x) :: r => by
    obtain ⟨i1, i2⟩ := keys_putF f v r
    rw [show putF f v ((k, x) :: r) = (if k = f then (k, v) :: r else (k, x) :: putF f v r) from rfl]
    by_cases hk : k = f
    · rw [if_pos hk]
      subst hk
      exact ⟨by simp, fun g h => by simpa using h⟩
    · rw [if_neg hk]
      refine ⟨?_, fun g h => ?_⟩
      · rw [List.map_cons]
        exact List.mem_cons_of_mem _ i1
      · rw [List.map_cons] at h ⊢
        rcases List.mem_cons.mp h with e | e
        · exact List.mem_cons.mpr (.inl e)
        · exact List.mem_cons_of_mem _ (i2 g e)
theorem length_putF (f : Str) (v : V) : ∀ fs : List (Str × V), (putF f v fs).length ≤ fs.length + 1
  | [] => by simp [putF]
  | (k, x) :: r => by
    have ih := length_putF f v r
    rw [show putF f v ((k, x) :: r) = (if k = f then (k, v) :: r else (k, x) :: putF f v r) from rfl]
    by_cases hk : k = f
    · rw [if_pos hk, List.length_cons, List.length_cons]; omega
    · rw [if_neg hk, List.length_cons, List.length_cons]; omega

theorem RelO.some_of {v : V} {o : Option Value} (r : RelO (some v) o) : ∃ u, o = some u ∧ RelV v u := by
  cases o with
  | none => exact (show False from r).elim
  | some u => exact ⟨u, rfl, r⟩
theorem RelO.none_of {o : Option Value} (r : RelO none o) : o = none := by
  cases o with
  | none => rfl
  | some u => exact (show False from r).elim
theorem handed_of {v : V} {u : Value} (r : RelV v u) : PySem.W.handedIn u = true := by
  cases v with
  | non => cases (show u = Value.none from r); rfl
  | bl b => cases (show u = Value.bool b from r); rfl
  | int i => obtain ⟨t, e⟩ := (show ∃ t, u = Value.int i t from r); cases e; rfl
  | str x => obtain ⟨t, e⟩ := (show ∃ t, u = Value.str x t from r); cases e; rfl
  | byt b => obtain ⟨t, e⟩ := (show ∃ t, u = Value.bytes b t from r); cases e; rfl
  | flt b => obtain ⟨t, e⟩ := (show ∃ t, u = Value.float b t from r); cases e; rfl
  | ref a => cases (show u = Value.ref a from r); rfl
  | ty n => cases (show u = Value.type n from r); rfl

section
variable {P : Program} {w : World} {H H' : Hp} {h h' : Heap} {a C dx : Addr} {fs fs' : List (Str × V)}
theorem ins_get (hok : HOk P w H h) (e : H a = some (.ins C dx fs)) : ∃ mA, ObjM h a dx C mA ∧ (∀ f, RelO (fs.lookup f) (mA f)) ∧ PySem.Within mA (fs.map (·.1)) ∧ fs.length ≤ 1000 ∧ H dx = some (.own a) := by
  obtain ⟨d, z, ne, ob, mA, n, r, q⟩ := (show ObjOk P w H h a (.ins C dx fs) from hok a _ e)
  exact ⟨mA, ⟨ob, n, ne⟩, r, q, z, d⟩
end

/-! ### what of the text a class must have -/
structure Cls (K : PySem.W.Frag) (C : Addr) : Prop where
  pg : PySem.W.plainGet K C Str.empty = true
  hd : PySem.W.hasDictIn K C = true
  po : PySem.W.plainOver K C = true
  sa : PySem.W.findIn K (.ref C) "__setattr__" = some (some (.builtin "object.__setattr__"))
theorem Cls.get {K : PySem.W.Frag} {C : Addr} (c : Cls K C) (f : Str) : PySem.W.plainGet K C f = true := c.pg
/-- no class of it has the name -/
def NoAttr (K : PySem.W.Frag) (C : Addr) (f : Str) : Prop := PySem.W.findIn K (.ref C) f = some none
theorem NoAttr.taker {K : PySem.W.Frag} {C : Addr} {f : Str} (n : NoAttr K C f) : PySem.W.takerIn K C f = some none := by
  unfold PySem.W.takerIn
  rw [show PySem.W.findIn K (.ref C) f = some none from n]
  rfl
/-- a constant of the class -/
structure Con (K : PySem.W.Frag) (C : Addr) (f : Str) (v : V) (u : Value) : Prop where
  at_ : PySem.W.findIn K (.ref C) f = some (some u)
  rel : RelV v u
  get : PySem.W.specialIn K u "__get__" = some none
  cp : PySem.W.copiedNames.contains f = false
/-- a method: a plain def of the class or of one above it -/
structure Meth (K : PySem.W.Frag) (C : Addr) (m : Str) (f : Addr) : Prop where
  at_ : PySem.W.findIn K (.ref C) m = some (some (.ref f))
  fn : PySem.W.isFn K (.ref f) = true
  kp : PySem.W.keepIn K (.ref f) = true

section
variable {X : Cx} {pins : List (Addr × Obj)} {σ : St} {H : Hp} {s : Shared} {a C dx : Addr} {fs : List (Str × V)} {f : Str} {v : V} {A : Around} {E : Value → Shared → Prop}

theorem getattr_ok {b : Bool} {Q : Value → Shared → Prop} (I : Inv X pins σ H s) (e : H a = some (.ins C dx fs)) (c : Cls X.K C) (n : NoAttr X.K C f) (l : fs.lookup f = some v)
    (h : ∀ u s', Inv X pins σ H s' → RelV v u → Q u s') : wpAny (model X.prog X.w) A (getAttr (.ref a) f b) Q E s := by
  obtain ⟨mA, O, r, _, _, _⟩ := ins_get I.hok e
  obtain ⟨u, hu, ru⟩ := RelO.some_of (v := v) (o := mA f) (by rw [← l]; exact r f)
  exact get_map I.kIn O (c.get f) c.hd n hu (handed_of ru) (h u _ (I.tok _) ru)

theorem getmeth_ok {m : Str} {g : Addr} {pl : Sem Bool} {Q : Value × List Value → Shared → Prop} (I : Inv X pins σ H s) (e : H a = some (.ins C dx fs)) (c : Cls X.K C) (k : Meth X.K C m g) (l : fs.lookup m = none)
    (h : Q (.ref g, [.ref a]) s) : wpAny (model X.prog X.w) A (getMethod (.ref a) m pl) Q E s := by
  obtain ⟨mA, O, r, _, _, _⟩ := ins_get I.hok e
  have hn : mA m = none := RelO.none_of (by rw [← l]; exact r m)
  exact get_meth I.kIn O (c.get m) k.at_ k.fn hn h

theorem setattr_ok {y : V} {u : Value} {Q : Unit → Shared → Prop} (I : Inv X pins σ H s) (e : H a = some (.ins C dx fs)) (c : Cls X.K C) (n : NoAttr X.K C f) (hl : fs.length < 1000) (ry : RelV y u)
    (h : ∀ s', Inv X pins σ (upd H a (.ins C dx (putF f y fs))) s' → Q () s') : wpAny (model X.prog X.w) A (setAttr (.ref a) f u) Q E s := by
  obtain ⟨mA, O, r, wi, _, ho⟩ := ins_get I.hok e
  have hz : (fs.map (·.1)).length ≤ sizeLine := by rw [List.length_map, sizeLine_eq]; omega
  refine set_map I.kIn O c.sa c.po n.taker c.hd wi hz fun h' O' sb => h _ ?_
  have hd : ∃ o, h'.get? dx = some o := let ⟨o, _, _, e', _⟩ := O'.ns; ⟨o, e'⟩
  refine I.write (x := a) (e := dx) (by rw [e]; exact True.intro) (.inr ho) (fun b q hb z => (sb.2 b hb).trans z) hd ?_
  refine ⟨by rw [upd_ne O.ne]; exact ho, ?_, O.ne, O'.obj, _, O'.ns, fun g => ?_, fun g hg => ?_⟩
  · have := length_putF f y fs; omega
  · show RelO ((putF f y fs).lookup g) (if g = f then some u else mA g)
    rw [lookup_putF]
    by_cases q : g = f
    · rw [if_pos q, if_pos q]; exact ry
    · rw [if_neg q, if_neg q]; exact r g
  · by_cases q : g = f
    · rw [q]; exact (keys_putF f y fs).1
    · refine (keys_putF f y fs).2 g (wi g fun z => hg ?_)
      show (if g = f then some u else mA g) = none
      rw [if_neg q]; exact z

/-- a new instance, tracked, without attributes -/
theorem Inv.made (I : Inv X pins σ H s) : Inv X pins σ (upd (upd H s.heap.objs.size (.own (s.heap.objs.size + 1))) (s.heap.objs.size + 1) (.ins C s.heap.objs.size []))
    { s with heap := (s.heap.push PySem.W.emptyDict).push (PySem.W.instObj C s.heap.objs.size) } := by
  have e1 : (s.heap.push PySem.W.emptyDict).get? s.heap.objs.size = some PySem.W.emptyDict := Heap.get?_push_size s.heap rfl
  have e2 : ((s.heap.push PySem.W.emptyDict).push (PySem.W.instObj C s.heap.objs.size)).get? (s.heap.objs.size + 1) = some (PySem.W.instObj C s.heap.objs.size) := by
    have := Heap.get?_push_size (s.heap.push PySem.W.emptyDict) (o := PySem.W.instObj C s.heap.objs.size) rfl
    rwa [Heap.size_push] at this
  have e3 : (s.heap.push PySem.W.emptyDict).Ns s.heap.objs.size (fun _ => none) := ⟨PySem.W.emptyDict, #[], _, e1, rfl, (fun e he => absurd he (by simp)), fun _ => rfl⟩
  have I1 := I.laid (a := s.heap.objs.size) (o := .own (s.heap.objs.size + 1)) (h' := s.heap.push PySem.W.emptyDict) (t' := s.toks) (fun b u q => Heap.get?_push_of_some _ q) (Nat.le_refl _) ⟨_, e1⟩
  refine I1.laid (a := s.heap.objs.size + 1) (o := .ins C s.heap.objs.size []) (t' := s.toks) (fun b u q => Heap.get?_push_of_some _ q) (Nat.le_of_eq (Heap.size_push _ _)) ?_
  have ne : s.heap.objs.size ≠ s.heap.objs.size + 1 := Nat.ne_of_lt (Nat.lt_succ_self _)
  refine ⟨by rw [upd_ne ne, upd_same], Nat.zero_le _, ne, e2, fun _ => none, (Heap.Ns1.of_empty e3).at fun o q => Heap.get?_push_of_some _ q, fun _ => True.intro, fun y hy => absurd rfl hy⟩

/-- e.f where nothing but the object is asked: through attributeBase (super) and the last hold -/
theorem attr_of {prog : Program} {w : World} {env : Env} {e : Expr} {f : Str} {pos : Pos} {s : Shared} {Q : Value → Shared → Prop} (hb : attributeBase e f env (eval e env) = eval e env)
    (h : wpAny (model prog w) A (eval e env) (fun o s₁ => wpAny (model prog w) A (getAttr o f true) Q E s₁) E s) : wpAny (model prog w) A (eval (.Attribute e f pos) env) Q E s :=
  Attribute_any_ h (by rw [arm_eval_Attribute, hb])
end

/-! ### readings and rules -/
/-- e.f, an attribute of the instance -/
def tFld (K : PySem.W.Frag) (ta : TE) (f : Str) : TE := fun σ H Q => ta σ H fun x H1 => ∃ a C dx fs v, x = .ref a ∧ H1 a = some (.ins C dx fs) ∧ Cls K C ∧ NoAttr K C f ∧ fs.lookup f = some v ∧ Q v H1
/-- e.f = value -/
def sFld (K : PySem.W.Frag) (ta tv : TE) (f : Str) : TS := fun D σ H => tv σ H fun y H1 => ta σ H1 fun x H2 => ∃ a C dx fs, x = .ref a ∧ H2 a = some (.ins C dx fs) ∧ Cls K C ∧ NoAttr K C f ∧ fs.length < 1000 ∧
  D.nx σ (upd H2 a (.ins C dx (putF f y fs)))
section
variable {X : Cx} {o e value : Expr} {f : Str} {pos pos' tpos : Pos} {ta tv : TE}
theorem pe_fld (he : PE X e ta) (hb : attributeBase e f X.env (eval e X.env) = eval e X.env) : PE X (.Attribute e f pos) (tFld X.K ta f) := by
  intro pins s σ H Q I h
  refine attr_of hb (thn (he pins s σ H _ I h) fun u s1 ⟨x, H1, I1, rx, a, C, dx, fs, v, ex, ea, c, n, l, q⟩ => ?_)
  subst ex
  obtain rfl : u = Value.ref a := rx
  exact getattr_ok I1 ea c n l fun u' s2 I2 ru => ⟨v, H1, I2, ru, q⟩
theorem ps_fld (ha : PE X o ta) (hv : PE X value tv) (hs : swapsWith value (some (.Attribute o f pos')) pos.line X.env = pure false) : PS X (.Assign [.Attribute o f pos'] value pos) (sFld X.K ta tv f) := by
  intro pins s σ H D I h
  refine plainObj_wpAny_Assign_Attribute (thn (hv pins s σ H _ I h) fun u s1 ⟨y, H1, I1, ry, q⟩ => thn (ha pins s1 σ H1 _ I1 q) fun ov s2 ⟨x, H2, I2, rx, a, C, dx, fs, ex, ea, c, n, l, q2⟩ => ?_) hs
  subst ex
  obtain rfl : ov = Value.ref a := rx
  exact setattr_ok I2 ea c n l ry fun s3 I3 => ⟨σ, _, I3, q2⟩
end

/-! ### isinstance -/
section
variable {X : Cx} {pins : List (Addr × Obj)} {σ : St} {H : Hp} {s : Shared} {A : Around} {E : Value → Shared → Prop} {Q : Value → Shared → Prop} {c : Value} {b : Bool}
/-- the type of a value, as the fragment's deciders take it; for an instance its class -/
inductive TyOf (K : PySem.W.Frag) (H : Hp) : V → Value → Prop where
  | non : TyOf K H .non (.type "NoneType")
  | bl (x : Bool) : TyOf K H (.bl x) (.type "bool")
  | int (i : Int) : TyOf K H (.int i) (.type "int")
  | str (x : Str) : TyOf K H (.str x) (.type "str")
  | flt (x : UInt64) : TyOf K H (.flt x) (.type "float")
  | lst {a : Addr} {xs : List V} (e : H a = some (.lst xs)) : TyOf K H (.ref a) (.type "list")
  | frz {a : Addr} {o : Obj} {xs : List V} (e : H a = some (.frz o (.lst xs))) : TyOf K H (.ref a) (.type "list")
  | tup {a : Addr} {xs : List V} (e : H a = some (.tup xs)) : TyOf K H (.ref a) (.type "tuple")
  | dK {a : Addr} {kvs : List (Key × V)} (e : H a = some (.dK kvs)) : TyOf K H (.ref a) (.type "dict")
  | dT {a : Addr} {kvs : List (List Key × V)} (e : H a = some (.dT kvs)) : TyOf K H (.ref a) (.type "dict")
  | ins {a C dx : Addr} {fs : List (Str × V)} (e : H a = some (.ins C dx fs)) (cl : Cls K C) (ha : PySem.W.findIn K (.ref C) "__class__" = some (some (.builtin "object.__class__")))
      (hn : PySem.W.specialIn K (.builtin "object.__class__") "__get__" = some (some (.builtin "getset_descriptor.__get__"))) (htk : PySem.W.takesIn K (.builtin "object.__class__") = some true)
      (hm : PySem.W.mroIn K C (.type "object") = some true) : TyOf K H (.ref a) (.ref C)
/-- isinstance(x, c) for one class c, a built-in or an own one: kitOne's answer -/
theorem isinst_ok {x : V} {u t : Value} (I : Inv X pins σ H s) (rx : RelV x u) (ty : TyOf X.K H x t) (e : PySem.W.kitOne X.K t c = some b) (h : ∀ tk, Q (.bool b) { s with toks := tk }) :
    wpAny (model X.prog X.w) A (call (.builtin "isinstance") [u, c]) Q E s := by
  cases ty with
  | non => cases (show u = Value.none from rx); exact PySem.W.kia_one PySem.W.kitx_none I.kIn True.intro e (fun z => nomatch z) h
  | bl y => cases (show u = Value.bool y from rx); exact PySem.W.kia_one PySem.W.kitx_bool I.kIn True.intro e (fun z => nomatch z) h
  | int i => obtain ⟨t, q⟩ := (show ∃ t, u = Value.int i t from rx); cases q; exact PySem.W.kia_one PySem.W.kitx_int I.kIn True.intro e (fun z => nomatch z) h
  | str y => obtain ⟨t, q⟩ := (show ∃ t, u = Value.str y t from rx); cases q; exact PySem.W.kia_one PySem.W.kitx_str I.kIn True.intro e (fun z => nomatch z) h
  | flt y => obtain ⟨t, q⟩ := (show ∃ t, u = Value.float y t from rx); cases q; exact PySem.W.kia_one PySem.W.kitx_float I.kIn True.intro e (fun z => nomatch z) h
  | @lst a xs ea =>
    cases (show u = Value.ref a from rx)
    obtain ⟨_, _, n, _, h1⟩ := (show ObjOk X.prog X.w H s.heap a (.lst xs) from I.hok a _ ea)
    exact PySem.W.kia_one PySem.W.kitx_list I.kIn ⟨_, h1, rfl⟩ e (fun z => nomatch z) h
  | @frz a ob xs ea =>
    cases (show u = Value.ref a from rx)
    obtain ⟨_, _, _, n, _, h1⟩ := (show ObjOk X.prog X.w H s.heap a (.frz ob (.lst xs)) from I.hok a _ ea)
    exact PySem.W.kia_one PySem.W.kitx_list I.kIn ⟨_, h1, rfl⟩ e (fun z => nomatch z) h
  | @tup a xs ea =>
    cases (show u = Value.ref a from rx)
    obtain ⟨_, _, _, p⟩ := (show ObjOk X.prog X.w H s.heap a (.tup xs) from I.hok a _ ea)
    obtain ⟨o, h1, h2, _⟩ := p
    exact PySem.W.kia_one PySem.W.kitx_tuple I.kIn ⟨o, h1, h2⟩ e (fun z => nomatch z) h
  | @dK a kvs ea =>
    cases (show u = Value.ref a from rx)
    obtain ⟨_, _, vs, _, p⟩ := (show ObjOk X.prog X.w H s.heap a (.dK kvs) from I.hok a _ ea)
    obtain ⟨o, es, ep, h1, h2, _⟩ := p
    exact PySem.W.kia_one PySem.W.kitx_dict I.kIn ⟨o, h1, h2.1⟩ e (fun z => nomatch z) h
  | @dT a kvs ea =>
    cases (show u = Value.ref a from rx)
    obtain ⟨_, _, xs, _, o, es, ep, h1, h2, _⟩ := (show ObjOk X.prog X.w H s.heap a (.dT kvs) from I.hok a _ ea)
    exact PySem.W.kia_one PySem.W.kitx_dict I.kIn ⟨o, h1, h2.1⟩ e (fun z => nomatch z) h
  | @ins a C dx fs ea cl ha hn htk hm =>
    cases (show u = Value.ref a from rx)
    obtain ⟨mA, O, _⟩ := ins_get I.hok ea
    obtain ⟨od, J, _⟩ := O.look
    exact PySem.W.kia_one (PySem.W.kitx_own (cl.get _) cl.hd ha hn htk hm) I.kIn J e (fun z => nomatch z) h
end
end L2

namespace L2
open PySem PySem.Spec PyProof.Rows

/-! ### room -/
structure Room (k : Nat) (A : Around) : Prop where
  hd : A.handled = none
  dp : A.depth + 3 * k + 5 < recursionLimit
  un : A.units + 16 * k + 200 < cLine
  gd : A.guards = some []
theorem Room.mono {j k : Nat} {A : Around} (r : Room k A) (h : j ≤ k) : Room j A := ⟨r.hd, by have := r.dp; omega, by have := r.un; omega, r.gd⟩
theorem Room.deeper {k : Nat} {A : Around} (r : Room (k + 1) A) (env : Env) : Room k (A.deeper env) :=
  ⟨r.hd, by have := r.dp; show A.depth + 1 + 3 * k + 5 < _; omega, by have := r.un; show A.units + 3 + 16 * k + 200 < _; omega, r.gd⟩
theorem Room.in1 {k : Nat} {A : Around} (r : Room (k + 1) A) : Room k A.in1 :=
  ⟨r.hd, by have := r.dp; show A.depth + 3 * k + 5 < _; omega, by have := r.un; show A.units + 1 + 16 * k + 200 < _; omega, r.gd⟩
theorem make_depth {A : Around} {C : Addr} {us : List Value} {kw : List (Str × Value)} : (A.under (.builtin "type.__call__" ⟨.ref C :: us, kw⟩)).depth = A.depth + 1 := by
  first | rfl | simp [Around.under, Code.weight, Code.isCreation, Code.isGuard, Code.isCaller, Code.frames, Code.isFrame, guardIds]
theorem make_units {A : Around} {C : Addr} {us : List Value} {kw : List (Str × Value)} : (A.under (.builtin "type.__call__" ⟨.ref C :: us, kw⟩)).units = A.units + 1 := by
  first | rfl | simp [Around.under, Code.cUnits, Code.frames, Code.isFrame]
theorem Room.make {k : Nat} {A : Around} (r : Room (k + 1) A) (C : Addr) (us : List Value) (kw : List (Str × Value)) : Room k (A.under (.builtin "type.__call__" ⟨.ref C :: us, kw⟩)) :=
  ⟨r.hd, by have := r.dp; rw [make_depth]; omega, by have := r.un; rw [make_units]; omega, by first | exact r.gd | (rw [show (A.under (.builtin "type.__call__" ⟨.ref C :: us, kw⟩)).guards = A.guards from by first | rfl | simp [Around.under, Code.isGuard, guardIds]]; exact r.gd)⟩
theorem Room.depth {k : Nat} {A : Around} (r : Room k A) : A.depth < recursionLimit := by have := r.dp; omega
theorem Room.units {k : Nat} {A : Around} (r : Room k A) : A.units + 64 < cLine := by have := r.un; omega
/-! ### argument lists and displays -/
def tNil : TA := fun _ H Q => Q [] H
def tCons (ta : TE) (tr : TA) : TA := fun σ H Q => ta σ H fun x H1 => tr σ H1 fun xs H2 => Q (x :: xs) H2
section
variable {X : Cx} {e : Expr} {es : List Expr} {te : TE} {t : TA} {pos : Pos}
theorem pa_nil : PA X [] tNil := fun _ _ _ _ H Q I h => Calls.spliced_nil ⟨[], H, I, .nil, h⟩
theorem pa_cons (ha : PE X e te) (hr : PA X es t) (hs : starEach (e :: es) X.env = (false, eval e X.env) :: starEach es X.env := by rfl) : PA X (e :: es) (tCons te t) := by
  intro pos pins s σ H Q I h
  rw [hs]
  show wpAny _ _ (spliced ((false, eval e X.env) :: backTo pos (starEach es X.env))) _ _ s
  refine Calls.spliced_cons (thn (ha pins s σ H _ I h) fun u s1 ⟨x, H1, I1, r1, q1⟩ => ?_)
  exact thn (hr pos pins s1 σ H1 _ I1 q1) fun us s2 ⟨xs, H2, I2, r2, q2⟩ => ⟨x :: xs, H2, I2, .cons r1 r2, q2⟩

/-- a tuple, a list of written items -/
def tTup (t : TA) : TE := fun σ H Q => t σ H fun xs H1 => xs.length ≤ sizeLine ∧ ∀ p, H1 p = none → Q (.ref p) (upd H1 p (.tup xs))
def tLst (t : TA) : TE := fun σ H Q => t σ H fun xs H1 => xs.length ≤ sizeLine ∧ ∀ p, H1 p = none → Q (.ref p) (upd H1 p (.lst xs))
theorem pe_tup {x1} (h : PA X es t) : PE X (.Tuple es x1 pos) (tTup t) := by
  intro pins s σ H Q I hq
  refine wpAny_Tuple_spliced (thn (h pos pins s σ H _ I hq) fun us s1 ⟨xs, H1, I1, r, z, q⟩ => ⟨by rw [← r.length]; exact z, ?_⟩)
  have hf : H1 s1.heap.objs.size = none := I1.hok.fresh (Nat.le_refl _)
  refine ⟨.ref s1.heap.objs.size, upd H1 s1.heap.objs.size (.tup xs), I1.laid (t' := s1.toks) (fun b u e => Heap.get?_push_of_some _ e) (Nat.le_refl _) ?_, rfl, q _ hf⟩
  exact ⟨z, us, r, ⟨_, Heap.get?_push_size _ rfl, rfl, _, rfl⟩⟩
theorem pe_lst (h : PA X es t) : PE X (.List es pos) (tLst t) := by
  intro pins s σ H Q I hq
  refine wpAny_List_spliced (thn (h pos pins s σ H _ I hq) fun us s1 ⟨xs, H1, I1, r, z, q⟩ => ⟨by rw [← r.length]; exact z, ?_⟩)
  have hf : H1 s1.heap.objs.size = none := I1.hok.fresh (Nat.le_refl _)
  refine ⟨.ref s1.heap.objs.size, upd H1 s1.heap.objs.size (.lst xs), I1.laid (t' := s1.toks) (fun b u e => Heap.get?_push_of_some _ e) (Nat.le_refl _) ?_, rfl, q _ hf⟩
  exact ⟨z, us, 0, r, Heap.get?_push_size _ rfl⟩
end

/-! ### what a def promises -/
/-- a def's promise: the bound arguments in the parameters' order, the heap, the wanted end, the wanted exception -/
abbrev Sp := List V → Hp → VK → XK → Prop
/-- how an exception lies behind a call (file 08 gives it): the callers' frames, abstract heap and state ahead of the call, the wish, the exception, the state -/
abbrev CXT := List Env → Hp → Shared → XK → Value → Shared → Prop

/-- the state at a call -/
structure Env0 (P : Program) (w : World) (K : PySem.W.Frag) (mg : Str → Option Value) (base : Heap) (A : Around) (outer : List Env) (s : Shared) (H : Hp) : Prop where
  frames : A.frames = some outer
  mod : Mod K mg base
  bs : ∀ b o, base.get? b = some o → s.heap.get? b = some o ∧ H b = none
  bsz : base.objs.size ≤ s.heap.objs.size
  funs : s.heap.FunFrames base outer
  frf : ∀ b ∈ frs outer, H b = none
  hok : HOk P w H s.heap
  bare : AllBare s.gens
/-- a call's end -/
def CE (outer : List Env) (P : Program) (w : World) (H : Hp) (s : Shared) (Q : VK) (u : Value) (s' : Shared) : Prop :=
  ∃ v H', s'.os = s.os ∧ AllBare s'.gens ∧ Un (frs outer) [] H H' s.heap s'.heap ∧ HOk P w H' s'.heap ∧ RelV v u ∧ Q v H'
def CR (CX : CXT) (outer : List Env) (P : Program) (w : World) (H : Hp) (s : Shared) (Q : VK) (E : XK) (r : Result) (s' : Shared) : Prop :=
  match r with
  | .ok (.ret u) => CE outer P w H s Q u s'
  | .ok _ => False
  | .error e => CX outer H s E e s'
structure FnOk (P : Program) (w : World) (K : PySem.W.Frag) (mg : Str → Option Value) (base : Heap) (CX : CXT) (k : Nat) (f : Addr) (fd : FuncData) (ps : List Str) (sp : Sp) : Prop where
  len : ∀ vs H Q E, sp vs H Q E → vs.length = ps.length
  run : ∀ (A : Around) (outer : List Env) (s : Shared) (H : Hp) (args : Args) (us : List Value) (vs : List V) (Q : VK) (E : XK), Room k A → Env0 P w K mg base A outer s H → BindsTo s fd args (ps.zip us) → Vals vs us → sp vs H Q E →
    codeAny (model P w) A (.call (.ref f) args) (CR CX outer P w H s Q E) s
theorem FnOk.mono {P : Program} {w : World} {K : PySem.W.Frag} {mg : Str → Option Value} {base : Heap} {CX : CXT} {j k : Nat} {f : Addr} {fd : FuncData} {ps : List Str} {sp : Sp} (F : FnOk P w K mg base CX j f fd ps sp) (h : j ≤ k) :
    FnOk P w K mg base CX k f fd ps sp := ⟨F.len, fun A outer s H args us vs Q E hr => F.run A outer s H args us vs Q E (hr.mono h)⟩
/-- a weaker promise -/
theorem FnOk.imp {P : Program} {w : World} {K : PySem.W.Frag} {mg : Str → Option Value} {base : Heap} {CX : CXT} {k : Nat} {f : Addr} {fd : FuncData} {ps : List Str} {sp sp' : Sp} (F : FnOk P w K mg base CX k f fd ps sp)
    (h : ∀ vs H Q E, sp' vs H Q E → sp vs H Q E) : FnOk P w K mg base CX k f fd ps sp' :=
  ⟨fun vs H Q E q => F.len vs H Q E (h _ _ _ _ q), fun A outer s H args us vs Q E hr he hb hv hs => F.run A outer s H args us vs Q E hr he hb hv (h _ _ _ _ hs)⟩

theorem Env0.make {P : Program} {w : World} {K : PySem.W.Frag} {mg : Str → Option Value} {base : Heap} {A : Around} {outer : List Env} {s : Shared} {H : Hp} (e : Env0 P w K mg base A outer s H) (C : Addr) (us : List Value) (kw : List (Str × Value)) :
    Env0 P w K mg base (A.under (.builtin "type.__call__" ⟨.ref C :: us, kw⟩)) outer s H := ⟨by first | exact e.frames | (simpa [Around.under, Code.envs, Code.isFrame, pushEnvs] using e.frames), e.mod, e.bs, e.bsz, e.funs, e.frf, e.hok, e.bare⟩
theorem Env0.in1 {P : Program} {w : World} {K : PySem.W.Frag} {mg : Str → Option Value} {base : Heap} {A : Around} {outer : List Env} {s : Shared} {H : Hp} (e : Env0 P w K mg base A outer s H) :
    Env0 P w K mg base A.in1 outer s H := ⟨e.frames, e.mod, e.bs, e.bsz, e.funs, e.frf, e.hok, e.bare⟩

section
variable {X : Cx} {pins : List (Addr × Obj)} {σ : St} {H : Hp} {s s' : Shared}
/-- from a body: what a callee wants -/
theorem Inv.env0 (I : Inv X pins σ H s) : Env0 X.prog X.w X.K X.mg X.base X.A X.stack s H :=
  ⟨I.ok.frames, I.ok.mod, I.bs, Nat.le_trans I.ok.bsz I.sz, I.stack, I.stkFree, I.hok, I.bare⟩
/-- behind a call -/
theorem Inv.after {Q : VK} {u : Value} (I : Inv X pins σ H s) (h : CE X.stack X.prog X.w H s Q u s') : EP X pins σ Q u s' := by
  obtain ⟨v, H', os, bare, un, hok, r, q⟩ := h
  obtain ⟨hh, g, d, t, os'⟩ := s'
  obtain rfl : os' = s.os := os
  exact ⟨v, H', I.call (h' := hh) (g' := g) (d' := d) (t' := t) (ch := []) un hok bare (fun b z => absurd z (by simp)), r, q⟩
end

/-! ### calls -/
/-- f(..): the written arguments, then the defaults dvs; E: what is wanted of an exception -/
def tCall (sp : Sp) (dvs : List V) (E : XK) (t : TA) : TE := fun σ H Q => t σ H fun vs H1 => sp (vs ++ dvs) H1 Q E
/-- o.m(..) of an instance of the class at C -/
def tMeth (C : Addr) (m : Str) (sp : Sp) (dvs : List V) (E : XK) (ta : TE) (t : TA) : TE := fun σ H Q => ta σ H fun x H1 => ∃ a dx fs, x = .ref a ∧ H1 a = some (.ins C dx fs) ∧ fs.lookup m = none ∧
  t σ H1 fun vs H2 => sp (x :: (vs ++ dvs)) H2 Q E
/-- C(..): a new instance and its dict, then __init__ -/
def tMake (C : Addr) (sp : Sp) (dvs : List V) (E : XK) (t : TA) : TE := fun σ H Q => t σ H fun vs H1 => ∀ x dx, H1 x = none → H1 dx = none → dx ≠ x →
  sp (.ref x :: (vs ++ dvs)) (upd (upd H1 dx (.own x)) x (.ins C dx [])) (fun v H2 => v = .non ∧ Q (.ref x) H2) E

/-- how the parameters are bound: us the positional arguments, kw the keywords' values by name, ds the defaults that fill up -/
def Binds (K : PySem.W.Frag) (fd : FuncData) (ps : List Str) (ds : List Value) : Prop :=
  ∀ (s : Shared) (us : List Value), K.In s.heap → (us ++ ds).length = ps.length → BindsTo s fd ⟨us, []⟩ (ps.zip (us ++ ds))
/-- every parameter is given -/
theorem Binds.all {K : PySem.W.Frag} {fd : FuncData} {ps : List Str} (h : ∀ us : List Value, us.length = ps.length → bindArgs fd ⟨us, []⟩ = pure (ps.zip us)) : Binds K fd ps [] := fun s us _ hl => by
  rw [List.append_nil] at hl ⊢
  exact .of_eq (h us hl)

/-- an exception of a callee reaches what this body wants of exceptions -/
def Passes (CX : CXT) (X : Cx) (E : XK) : Prop := ∀ (pins : List (Addr × Obj)) (σ : St) (H : Hp) (s : Shared) (e : Value) (s' : Shared), Inv X pins σ H s → CX X.stack H s E e s' → X.xe e s'

section
variable {X : Cx} {CX : CXT} {k : Nat} {f C : Addr} {fd : FuncData} {ps : List Str} {sp : Sp} {dvs : List V} {ds : List Value} {E : XK} {x m : Str} {p pos apos : Pos} {e o : Expr} {es : List Expr} {ta : TE} {t : TA}

/-- the callee runs -/
theorem run_fn {pins : List (Addr × Obj)} {σ : St} {H : Hp} {s : Shared} {Q : VK} {us : List Value} {vs : List V} (F : FnOk X.prog X.w X.K X.mg X.base CX k f fd ps sp) (hr : Room k X.A) (hb : Binds X.K fd ps ds) (hd : Vals dvs ds) (hx : Passes CX X E)
    (I : Inv X pins σ H s) (r : Vals vs us) (h : sp (vs ++ dvs) H Q E) : wpAny (model X.prog X.w) X.A (call (.ref f) us) (EP X pins σ Q) X.xe s := by
  have r2 : Vals (vs ++ dvs) (us ++ ds) := r.append hd
  have hl : (us ++ ds).length = ps.length := by rw [← r2.length]; exact F.len _ _ _ _ h
  refine wpAny_call (codeAny_mono (F.run X.A X.stack s H ⟨us, []⟩ (us ++ ds) (vs ++ dvs) Q E hr I.env0 (hb s us I.kIn hl) r2 h) fun r s' hq => ?_)
  cases r with
  | error e => exact hx pins σ H s e s' I hq
  | ok fl =>
    cases fl with
    | ret u => exact I.after hq
    | next => exact False.elim hq
    | brk => exact False.elim hq
    | cont => exact False.elim hq

theorem pe_call (F : FnOk X.prog X.w X.K X.mg X.base CX k f fd ps sp) (hr : Room k X.A) (hg : Gl X x) (hm : X.mg x = some (.ref f)) (hk : PySem.W.keepIn X.K (.ref f) = true) (hb : Binds X.K fd ps ds) (hd : Vals dvs ds) (hx : Passes CX X E)
    (ha : PA X (e :: es) t) (hdb : (x == ("__debug__" : Str)) = false := by decide) (he : starEach (e :: es) X.env = (false, eval e X.env) :: starEach es X.env := by rfl) (hpl : (backTo pos (starEach es X.env)).any (·.1) = false := by rfl) :
    PE X (.Call (.Name x p) (e :: es) [] pos) (tCall sp dvs E t) := by
  intro pins s σ H Q I h
  refine wpAny_Call_Name_kw (ld_glob I hg hm ?_ hdb)
  refine PySem.W.callWith_K (h₀ := X.base) I.ok.mod.kin hk (thn (ha pos pins s σ H _ I h) fun us s1 ⟨vs, H1, I1, r, q⟩ => ⟨I1.kIn, ?_⟩) he hpl
  exact run_fn F hr hb hd hx I1 r q
/-- o.m(e, ..) -/
theorem pe_meth {pl : Sem Bool} (he : PE X o ta) (c : Cls X.K C) (hm : Meth X.K C m f) (F : FnOk X.prog X.w X.K X.mg X.base CX k f fd ps sp) (hr : Room k X.A) (hb : Binds X.K fd ps ds) (hd : Vals dvs ds) (hx : Passes CX X E) (ha : PA X (e :: es) t)
    (hst : starEach (e :: es) X.env = (false, eval e X.env) :: starEach es X.env := by rfl) (hpl : (backTo pos (starEach es X.env)).any (·.1) = false := by rfl)
    (ht : eval (.Call (.Attribute o m apos) (e :: es) [] pos) X.env = (do
      let ov ← eval o X.env
      standAt apos.atName
      let (f, first) ← holding [ov] (getMethod ov m pl)
      callWith pos f first (backTo pos (starEach (e :: es) X.env)) (backToKw pos (keywordEach [] X.env))) := by rfl) :
    PE X (.Call (.Attribute o m apos) (e :: es) [] pos) (tMeth C m sp dvs E ta t) := by
  intro pins s σ H Q I h
  refine PySem.W.methodCall_KW (pl := pl) (thn (he pins s σ H _ I h) fun u s1 ⟨x, H1, I1, rx, a, dx, fs, ex, ea, l, q⟩ => ?_) ht
  subst ex
  obtain rfl : u = Value.ref a := rx
  refine getmeth_ok I1 ea c hm l ?_
  refine PySem.W.callWith_K (first := [.ref a]) (h₀ := X.base) I.ok.mod.kin hm.kp (thn (ha pos pins s1 σ H1 _ I1 q) fun us s2 ⟨vs, H2, I2, r, q2⟩ => ⟨I2.kIn, ?_⟩) hst hpl
  exact run_fn (us := .ref a :: us) (vs := .ref a :: vs) F hr hb hd hx I2 (.cons rfl r) q2
/-- o.m() -/
theorem pe_meth0 {pl : Sem Bool} (he : PE X o ta) (c : Cls X.K C) (hm : Meth X.K C m f) (F : FnOk X.prog X.w X.K X.mg X.base CX k f fd ps sp) (hr : Room k X.A) (hb : Binds X.K fd ps ds) (hd : Vals dvs ds) (hx : Passes CX X E)
    (ht : eval (.Call (.Attribute o m apos) [] [] pos) X.env = (do
      let ov ← eval o X.env
      standAt apos.atName
      let (f, first) ← holding [ov] (getMethod ov m pl)
      callWith pos f first (backTo pos (starEach [] X.env)) (backToKw pos (keywordEach [] X.env))) := by rfl) :
    PE X (.Call (.Attribute o m apos) [] [] pos) (tMeth C m sp dvs E ta tNil) := by
  intro pins s σ H Q I h
  refine PySem.W.methodCall_KW (pl := pl) (thn (he pins s σ H _ I h) fun u s1 ⟨x, H1, I1, rx, a, dx, fs, ex, ea, l, q⟩ => ?_) ht
  subst ex
  obtain rfl : u = Value.ref a := rx
  refine getmeth_ok I1 ea c hm l ?_
  exact PySem.W.callWith_K0 (first := [.ref a]) I1.kIn hm.kp (run_fn (us := [.ref a]) (vs := [.ref a]) F hr hb hd hx I1 (.cons rfl .nil) q)

/-- what a class must have to be made -/
structure Mk (K : PySem.W.Frag) (C f : Addr) : Prop where
  makes : PySem.W.makesIn K C = true
  init : PySem.W.findIn K (.ref C) "__init__" = some (some (.ref f))
  fn : PySem.W.isFn K (.ref f) = true
  kp : PySem.W.keepIn K (.ref C) = true

theorem run_make {pins : List (Addr × Obj)} {σ : St} {H : Hp} {s : Shared} {Q : VK} {us : List Value} {vs : List V} (M : Mk X.K C f) (F : FnOk X.prog X.w X.K X.mg X.base CX k f fd ps sp) (hr : Room (k + 1) X.A) (hb : Binds X.K fd ps ds) (hd : Vals dvs ds)
    (hx : Passes CX X E) (I : Inv X pins σ H s) (r : Vals vs us)
    (h : ∀ x dx, H x = none → H dx = none → dx ≠ x → sp (.ref x :: (vs ++ dvs)) (upd (upd H dx (.own x)) x (.ins C dx [])) (fun v H2 => v = .non ∧ Q (.ref x) H2) E) :
    wpAny (model X.prog X.w) X.A (call (.ref C) us) (EP X pins σ Q) X.xe s := by
  have hq := h (s.heap.objs.size + 1) s.heap.objs.size (I.hok.fresh (Nat.le_succ _)) (I.hok.fresh (Nat.le_refl _)) (Nat.ne_of_lt (Nat.lt_succ_self _))
  have I2 := Inv.made (C := C) I
  have r2 : Vals (V.ref (s.heap.objs.size + 1) :: (vs ++ dvs)) (Value.ref (s.heap.objs.size + 1) :: (us ++ ds)) := .cons rfl (r.append hd)
  have hl : (Value.ref (s.heap.objs.size + 1) :: us ++ ds).length = ps.length := by
    have e := r2.length
    rw [F.len _ _ _ _ hq] at e
    exact e.symm
  refine wpAny_call (make_map (f := f) I.kIn M.makes M.init (beq_iff_eq.mp M.fn) (codeAny_mono (F.run _ X.stack _ _ ⟨Value.ref (s.heap.objs.size + 1) :: us, []⟩ (Value.ref (s.heap.objs.size + 1) :: (us ++ ds)) _ _ E (hr.make C us [])
    (I2.env0.make C us []) (hb _ (Value.ref (s.heap.objs.size + 1) :: us) I2.kIn hl) r2 hq) fun r s' hq' => ?_))
  cases r with
  | error e => exact hx pins σ _ _ e s' I2 hq'
  | ok fl =>
    cases fl with
    | ret u =>
      obtain ⟨v, H', I3, rv, ev, q3⟩ := I2.after hq'
      subst ev
      exact ⟨rv, ⟨V.ref (s.heap.objs.size + 1), H', I3, rfl, q3⟩⟩
    | next => exact False.elim hq'
    | brk => exact False.elim hq'
    | cont => exact False.elim hq'
theorem pe_make0 (M : Mk X.K C f) (F : FnOk X.prog X.w X.K X.mg X.base CX k f fd ps sp) (hr : Room (k + 1) X.A) (hg : Gl X x) (hm : X.mg x = some (.ref C)) (hb : Binds X.K fd ps ds) (hd : Vals dvs ds) (hx : Passes CX X E)
    (hdb : (x == ("__debug__" : Str)) = false := by decide) : PE X (.Call (.Name x p) [] [] pos) (tMake C sp dvs E tNil) := by
  intro pins s σ H Q I h
  refine wpAny_Call_Name_kw (ld_glob I hg hm ?_ hdb)
  exact PySem.W.callWith_K0 I.kIn M.kp (run_make (us := []) M F hr hb hd hx I .nil h)
end

/-! ### keywords -/
/-- the values of the keywords, from the left -/
def PK (X : Cx) (kws : List Keyword) (t : TA) : Prop :=
  ∀ (pos : Pos) (pins : List (Addr × Obj)) (s : Shared) (σ : St) (H : Hp) (Q : List V → Hp → Prop), Inv X pins σ H s → t σ H Q → wpAny (model X.prog X.w) X.A (evalAll ((backToKw pos (keywordEach kws X.env)).map (·.2))) (AP X pins σ Q) X.xe s
section
variable {X : Cx} {CX : CXT} {k : Nat} {f C : Addr} {fd : FuncData} {ps ks : List Str} {sp : Sp} {E : XK} {x m : Str} {p pos apos kpos : Pos} {e o : Expr} {es : List Expr} {kws : List Keyword} {te ta : TE} {t tk : TA} {nm : Option Str}
theorem pk_nil : PK X [] tNil := fun _ _ _ _ H Q I h => wpAny_evalAll_nil ⟨[], H, I, .nil, h⟩
theorem pk_cons (ha : PE X e te) (hr : PK X kws t) : PK X (⟨nm, e, kpos⟩ :: kws) (tCons te t) := by
  intro pos pins s σ H Q I h
  show wpAny _ _ (evalAll ((do let v ← eval e X.env; standAt pos; pure v) :: (backToKw pos (keywordEach kws X.env)).map (·.2))) _ _ s
  refine wpAny_evalAll_cons (wpAny_bind (thn (ha pins s σ H _ I h) fun u s1 ⟨x, H1, I1, r1, q1⟩ => wpAny_bind (wpAny_standAt (wpAny_pure ?_))))
  exact thn (hr pos pins s1 σ H1 _ I1 q1) fun us s2 ⟨xs, H2, I2, r2, q2⟩ => ⟨x :: xs, H2, I2, .cons r1 r2, q2⟩

/-- how a call with keywords binds: g puts the positional values us and the keywords' values ws (names ks) in the parameters' order, defaults among them -/
structure KBinds (K : PySem.W.Frag) (fd : FuncData) (ps ks : List Str) (g : List Value → List Value → List Value) (gV : List V → List V → List V) : Prop where
  to : ∀ (s : Shared) (us ws : List Value), K.In s.heap → (g us ws).length = ps.length → BindsTo s fd ⟨us, ks.zip ws⟩ (ps.zip (g us ws))
  rel : ∀ {vs : List V} {us : List Value} {zs : List V} {ws : List Value}, Vals vs us → Vals zs ws → Vals (gV vs zs) (g us ws)
variable {g : List Value → List Value → List Value} {gV : List V → List V → List V}
theorem run_fnk {pins : List (Addr × Obj)} {σ : St} {H : Hp} {s : Shared} {Q : VK} {us ws : List Value} {vs zs : List V} (F : FnOk X.prog X.w X.K X.mg X.base CX k f fd ps sp) (hr : Room k X.A) (hb : KBinds X.K fd ps ks g gV) (hx : Passes CX X E)
    (I : Inv X pins σ H s) (r : Vals vs us) (rz : Vals zs ws) (h : sp (gV vs zs) H Q E) : wpAny (model X.prog X.w) X.A (call (.ref f) us (ks.zip ws)) (EP X pins σ Q) X.xe s := by
  have r2 := hb.rel r rz
  have hl : (g us ws).length = ps.length := by rw [← r2.length]; exact F.len _ _ _ _ h
  refine wpAny_call (codeAny_mono (F.run X.A X.stack s H ⟨us, ks.zip ws⟩ (g us ws) (gV vs zs) Q E hr I.env0 (hb.to s us ws I.kIn hl) r2 h) fun r s' hq => ?_)
  cases r with
  | error e => exact hx pins σ H s e s' I hq
  | ok fl =>
    cases fl with
    | ret u => exact I.after hq
    | next => exact False.elim hq
    | brk => exact False.elim hq
    | cont => exact False.elim hq
end

/-! ### a def's body keeps its promise -/
/-- names: the parameters first -/
structure FnScope (N P : List Str) (sc : Scope) : Prop where
  kind : sc.kind = .function
  co : sc.isCoroutine = false
  gen : sc.isGenerator = false
  nd : N.Nodup
  pre : N.take P.length = P
  par : ∀ x ∈ P, sc.names.lookup x = some .local ∨ sc.names.lookup x = some .cell
  nofree : ∀ y ∈ sc.names, y.2 ≠ .free

theorem bindL_out {kindOf : Str → Option NameKind} {x : Str} : ∀ {binds : List (Str × Value)} {m : Str → Option Value}, (∀ v, (x, v) ∉ binds) → bindL kindOf binds m x = m x
  | [], _, _ => rfl
  | (n, v) :: r, m, h => by
    unfold bindL
    rw [bindL_out fun w hw => h w (List.mem_cons_of_mem _ hw)]
    split
    · have : x ≠ n := by rintro rfl; exact h v List.mem_cons_self
      simp [this]
    · rfl
theorem bindC_out {kindOf : Str → Option NameKind} {x : Str} : ∀ {binds : List (Str × Value)} {m : Str → Option Value}, (∀ v, (x, v) ∉ binds) → bindC kindOf binds m x = m x
  | [], _, _ => rfl
  | (n, v) :: r, m, h => by
    unfold bindC
    rw [bindC_out fun w hw => h w (List.mem_cons_of_mem _ hw)]
    split
    · rfl
    · have : x ≠ n := by rintro rfl; exact h v List.mem_cons_self
      simp [this]
theorem bindL_get {kindOf : Str → Option NameKind} {x : Str} {v : Value} : ∀ {P : List Str} {vs : List Value} {i : Nat} {m : Str → Option Value}, P.Nodup → P[i]? = some x → vs[i]? = some v → kindOf x = some .local →
    bindL kindOf (P.zip vs) m x = some v
  | [], _, _, _, _, h, _, _ => by simp at h
  | _ :: _, [], _, _, _, _, h, _ => by simp at h
  | p :: P, w :: vs, 0, m, nd, h1, h2, hk => by
    simp at h1 h2; subst h1; subst h2
    show bindL kindOf ((p, w) :: P.zip vs) m p = _
    unfold bindL
    rw [bindL_out fun v hv => (List.nodup_cons.mp nd).1 (List.of_mem_zip hv).1, if_pos hk]
    simp
  | p :: P, w :: vs, i + 1, m, nd, h1, h2, hk => by
    show bindL kindOf ((p, w) :: P.zip vs) m x = _
    unfold bindL
    exact bindL_get (i := i) (List.nodup_cons.mp nd).2 (by simpa using h1) (by simpa using h2) hk
theorem bindC_get {kindOf : Str → Option NameKind} {x : Str} {v : Value} : ∀ {P : List Str} {vs : List Value} {i : Nat} {m : Str → Option Value}, P.Nodup → P[i]? = some x → vs[i]? = some v → kindOf x ≠ some .local →
    bindC kindOf (P.zip vs) m x = some v
  | [], _, _, _, _, h, _, _ => by simp at h
  | _ :: _, [], _, _, _, _, h, _ => by simp at h
  | p :: P, w :: vs, 0, m, nd, h1, h2, hk => by
    simp at h1 h2; subst h1; subst h2
    show bindC kindOf ((p, w) :: P.zip vs) m p = _
    unfold bindC
    rw [bindC_out fun v hv => (List.nodup_cons.mp nd).1 (List.of_mem_zip hv).1, if_neg hk]
    simp
  | p :: P, w :: vs, i + 1, m, nd, h1, h2, hk => by
    show bindC kindOf ((p, w) :: P.zip vs) m x = _
    unfold bindC
    exact bindC_get (i := i) (List.nodup_cons.mp nd).2 (by simpa using h1) (by simpa using h2) hk

/-- the names' values at the entry -/
def start (N : List Str) (vs : List V) : St := vs.map some ++ List.replicate (N.length - vs.length) none

/-- the context of a def's body, at its entry; an exception leaves the frame, then lies as CX says -/
def cxOf (CX : CXT) (P : Program) (w : World) (K : PySem.W.Frag) (mg : Str → Option Value) (base : Heap) (N : List Str) (qual : Str) (scope : Scope) (f : Addr) (cd : Value) (A : Around) (outer : List Env) (s : Shared) (H : Hp) (E : XK) : Cx where
  prog := P
  w := w
  K := K
  mg := mg
  base := base
  A := A.deeper (envOfC qual scope s.heap.objs.size f cd)
  N := N
  s_0 := s
  H_0 := H
  env := envOfC qual scope s.heap.objs.size f cd
  outer := outer
  stack := envOfC qual scope s.heap.objs.size f cd :: outer
  ex := []
  calm := true
  fn := fun _ => true
  pn := []
  xe := fun e s' => wpAny (model P w) (A.deeper (envOfC qual scope s.heap.objs.size f cd)) (leaving (envOfC qual scope s.heap.objs.size f cd) e) (fun _ s'' => CX outer H s E e s'') (fun e' s'' => CX outer H s E e' s'') s'

theorem cell_has {sc : Scope} {n : Nat} {x : Str} (h : sc.names.lookup x = some .cell) : ∃ c, (cellsFrom n sc.names []).lookup x = some c := by
  have q := PySem.W.cellsFrom_some sc.names n [] (.inl h)
  exact Option.isSome_iff_exists.mp q

theorem inv_start {CX : CXT} {P : Program} {w : World} {K : PySem.W.Frag} {mg : Str → Option Value} {base : Heap} {N ps : List Str} {qual : Str} {scope : Scope} {f : Addr} {cd : Value} {A : Around} {outer : List Env} {s s1 : Shared} {H : Hp} {E : XK} {us : List Value} {vs : List V}
    (S : FnScope N ps scope) (hd : A.handled = none) (e0 : Env0 P w K mg base A outer s H) (hl : vs.length = ps.length) (r : Vals vs us)
    (x : InCallC s s.heap.objs.size (bindL (envOfC qual scope s.heap.objs.size f cd).kindOf (ps.zip us) fun _ => none) (cellsFrom (s.heap.objs.size + 1) scope.names []) (bindC (envOfC qual scope s.heap.objs.size f cd).kindOf (ps.zip us) fun _ => none) s1) :
    Inv (cxOf CX P w K mg base N qual scope f cd A outer s H E) [] (start N vs) H s1 := by
  have hpl : ps.length ≤ N.length := by have := congrArg List.length S.pre; rw [List.length_take] at this; omega
  obtain ⟨h1, tk, rfl, hk⟩ := x.done
  have noA : ∀ b : Addr, b ∉ (cxOf CX P w K mg base N qual scope f cd A outer s H E).ex := fun b z => absurd (show b ∈ ([] : List Addr) from z) (by simp)
  refine ⟨⟨e0.mod, S.kind, rfl, rfl, Nat.le_refl _, fun y z c h1 h2 => ?_, fun y hy => ?_, fun y c _ h => ?_, fun _ => hd, Around.frames_deeper e0.frames, .inr ⟨rfl, rfl⟩, fun b z => absurd z (noA b), e0.bs, e0.bsz, fun b _ _ => noA b, fun b z => absurd z (noA b), e0.funs, e0.frf⟩,
    rfl, e0.bare, Un.kept hk, ⟨_, x.toInCall.ns, fun i y v h1 h2 h3 => ?_⟩, fun y c h => ⟨_, x.cell y c h⟩, e0.hok.fresh (Nat.le_refl _), fun y c h => ?_, fun p hp => absurd (show p ∈ ([] : List (Addr × Obj)) from hp) (by simp), e0.hok.kept hk, ?_⟩
  · exact name_of_addr x.apart (PySem.mem_of_lookup h1) (PySem.mem_of_lookup h2)
  · have hy : scope.names.lookup y = some .cell ∨ scope.names.lookup y = some .free := hy
    rcases hy with hy | hy
    · exact cell_has hy
    · exact absurd rfl (S.nofree _ (PySem.mem_of_lookup hy))
  · exact Nat.le_of_lt (x.above y c (PySem.mem_of_lookup h))
  · have hi : i < vs.length := by
      unfold start at h2
      by_cases hi : i < vs.length
      · exact hi
      · rw [List.getElem?_append_right (by simpa using hi)] at h2
        rw [List.getElem?_replicate] at h2
        split at h2 <;> cases h2
    have ha : vs[i]? = some v := by
      unfold start at h2
      rw [List.getElem?_append_left (by simpa using hi), List.getElem?_map] at h2
      cases e : vs[i]? with
      | none => rw [e] at h2; cases h2
      | some a => rw [e] at h2; cases h2; rfl
    obtain ⟨u, hu, rv⟩ := r.get ha
    have hp : ps[i]? = some y := by
      rw [← S.pre, List.getElem?_take_of_lt (by omega)]; exact h1
    have ndP : ps.Nodup := by rw [← S.pre]; exact S.nd.sublist (List.take_sublist _ _)
    refine ⟨u, rv, ?_⟩
    rcases S.par y (List.mem_of_getElem? hp) with k | k
    · exact .inl ⟨k, bindL_get ndP hp hu k⟩
    · obtain ⟨c, e⟩ := cell_has (n := s.heap.objs.size + 1) k
      refine .inr ⟨.inl k, c, e, ?_⟩
      have q := x.cell y c e
      rw [bindC_get ndP hp hu (by show scope.names.lookup y ≠ _; rw [k]; decide)] at q
      exact q
  · exact e0.hok.fresh (Nat.le_of_lt (x.above y c (PySem.mem_of_lookup h)))
  · unfold start
    show _ = N.length
    rw [List.length_append, List.length_map, List.length_replicate]
    omega

/-- THE RULE: a def (or a method) of the text, by its body. The body's reading t is chosen for each entry; it is run at the parameters' values -/
theorem fn_of {CX : CXT} {P : Program} {w : World} {K : PySem.W.Frag} {mg : Str → Option Value} {base : Heap} {k : Nat} {f : Addr} {name qual : Str} {params : Arguments} {body : List Stmt} {scope : Scope} {dV kV doc pm cdv ct oc : Value} {an od : Option Addr}
    {osl : Array (Option Value)} {N ps : List Str} {sp : Sp} (lk : K.lookup f = some ⟨oc, od, .func (PySem.W.fnOf name qual params body scope dV kV doc pm an cdv ct), osl⟩) (hcd : PySem.W.codeIn K cdv qual = true) (S : FnScope N ps scope)
    (len : ∀ vs H Q E, sp vs H Q E → vs.length = ps.length)
    (hbody : ∀ (A : Around) (outer : List Env) (s : Shared) (H : Hp) (vs : List V) (Q : VK) (E : XK), Room k (A.deeper (envOfC qual scope s.heap.objs.size f cdv)) → sp vs H Q E →
      ∃ t, PSs (cxOf CX P w K mg base N qual scope f cdv A outer s H E) body t ∧ t { nx := fun _ H' => Q .non H', rt := Q } (start N vs) H) :
    FnOk P w K mg base CX (k + 1) f (PySem.W.fnOf name qual params body scope dV kV doc pm an cdv ct) ps sp := by
  refine ⟨len, fun A outer s H args us vs Q E hr e0 hb r hsp => ?_⟩
  have hl := len _ _ _ _ hsp
  have KX : K.In s.heap := e0.mod.kin.keeps fun b o e => (e0.bs b o e).1
  have lim : s.heap.NoLimit := e0.mod.nolimit.keeps fun b o e => (e0.bs b o e).1
  have hkind : ∀ y ∈ ps.zip us, scope.names.lookup y.1 = some .local ∨ (scope.names.lookup y.1 = some .cell ∧ ((cellsFrom (s.heap.objs.size + 1) scope.names []).lookup y.1).isSome = true) := fun ⟨n, v⟩ hy => by
    rcases S.par n (List.of_mem_zip hy).1 with q | q
    · exact .inl q
    · exact .inr ⟨q, PySem.W.cellsFrom_some _ _ _ (.inl q)⟩
  refine codeAny_call_function hr.depth (KX _ _ lk) rfl S.co S.gen rfl (PySem.W.codeRec_of KX hcd) (hb _ _ _ _ ?_)
  refine wpAny_newFunctionEnv_cells S.kind hkind fun env he s1 x => ?_
  subst he
  refine ⟨lim.keeps x.toInCall.keep, codeAny_func ?_⟩
  obtain ⟨t, ht, hq⟩ := hbody A outer s H vs Q E (hr.deeper _) hsp
  have I : Inv (cxOf CX P w K mg base N qual scope f cdv A outer s H E) [] (start N vs) H s1 := inv_start S hr.hd e0 hl r x
  refine wpAny_mono (ht [] s1 (start N vs) H _ I hq) (fun fl s' hs => ?_) fun e s' hs => hs
  have fin : ∀ {σ' : St} {H' : Hp} {v : V} {u : Value}, Inv (cxOf CX P w K mg base N qual scope f cdv A outer s H E) [] σ' H' s' → RelV v u → Q v H' → CE outer P w H s Q u s' :=
    fun {σ' H' v u} J rv q => ⟨v, H', J.os, J.bare, J.base, J.hok, rv, q⟩
  cases fl with
  | ret u =>
    obtain ⟨v, σ', H', J, rv, q⟩ := hs
    exact fin J rv q
  | next =>
    obtain ⟨σ', H', J, q⟩ := hs
    exact fin (v := V.non) (u := Value.none) J rfl q
  | brk =>
    obtain ⟨_, _, _, q⟩ := hs
    exact False.elim q
  | cont =>
    obtain ⟨_, _, _, q⟩ := hs
    exact False.elim q
end L2

namespace L2
open PySem PySem.Spec PyProof.Rows
section
variable {X : Cx} {x : Str} {p pos : Pos} {e : Expr} {es : List Expr} {t : TA} {id T : String} {r : List V → Hp → VK → Prop}

def tCB (r : List V → Hp → VK → Prop) (t : TA) : TE := fun σ H Q => t σ H fun vs H1 => r vs H1 Q
/-- f(e, ..), f a built-in function -/
theorem pe_callB (hc : CallR X (.builtin id) r) (hg : Gl X x) (hm : X.mg x = none) (hv : bootBuiltins x = some (.builtin id)) (ha : PA X (e :: es) t) (hn : x ≠ "__name__" := by decide) (hdb : (x == ("__debug__" : Str)) = false := by decide)
    (he : starEach (e :: es) X.env = (false, eval e X.env) :: starEach es X.env := by rfl) (hpl : (backTo pos (starEach es X.env)).any (·.1) = false := by rfl) : PE X (.Call (.Name x p) (e :: es) [] pos) (tCB r t) := by
  intro pins s σ H Q I h
  refine wpAny_Call_Name_kw (ld_blt I hg hm hv ?_ hn hdb)
  exact PyProof.Rows.callWith_builtin1 (thn (ha pos pins s σ H _ I h) fun us s1 ⟨vs, H1, I1, r1, q1⟩ => hc pins s1 σ H1 vs us Q I1 r1 q1) he hpl
/-- T(e, ..), T a built-in type -/
theorem pe_callTy (hc : CallR X (.type T) r) (hg : Gl X x) (hm : X.mg x = none) (hv : bootBuiltins x = some (.type T)) (ha : PA X (e :: es) t) (hn : x ≠ "__name__" := by decide) (hdb : (x == ("__debug__" : Str)) = false := by decide)
    (he : starEach (e :: es) X.env = (false, eval e X.env) :: starEach es X.env := by rfl) (hpl : (backTo pos (starEach es X.env)).any (·.1) = false := by rfl) : PE X (.Call (.Name x p) (e :: es) [] pos) (tCB r t) := by
  intro pins s σ H Q I h
  refine wpAny_Call_Name_kw (ld_blt I hg hm hv ?_ hn hdb)
  exact PyProof.Rows.callWith_type1 (thn (ha pos pins s σ H _ I h) fun us s1 ⟨vs, H1, I1, r1, q1⟩ => hc pins s1 σ H1 vs us Q I1 r1 q1) he hpl
end
end L2

namespace HT
open PySem PyProof.Rows

section
open PySem.SeqAt
open PySem.AutoSeq1 (wpAny_loadPart')
open PySem.MeetsSeq PySem.MeetsSeq2 PySem.MeetsSeq3

end

section
variable {prog : Program} {w : World} {A : Around} {E : Value → Shared → Prop} {s : Shared}

/-- t + u, t not empty -/
theorem cat_tup {t b : Addr} {vs ws : List Value} {Q : Value → Shared → Prop} (ht : IsTup s.heap t vs.toArray) (hb : IsTup s.heap b ws.toArray) (hv : vs ≠ [])
    (h1 : ws = [] → Q (.ref t) s) (h2 : ws ≠ [] → Q (.ref s.heap.objs.size) { s with heap := s.heap.push { cls := .type "tuple", data := .seq (vs ++ ws).toArray } })
    (hsz : vs.length + ws.length ≤ sizeLine) : wpAny (model prog w) A (binaryOp .Add (.ref t) (.ref b)) Q E s := by
  obtain ⟨⟨cls, dd, data, sl⟩, ho, hc, n, hd⟩ := id ht
  obtain ⟨⟨cls2, dd2, data2, sl2⟩, ho2, hc2, n2, hd2⟩ := id hb
  simp only at hc hd hc2 hd2
  subst hc hd hc2 hd2
  have e : vs.toArray ++ ws.toArray = (vs ++ ws).toArray := by simp
  by_cases hw : ws = []
  · exact concat_meets ⟨_, ho, rfl⟩ ⟨_, ho2, rfl⟩ noFill_tuple_add seq_tuple_add PySem.F.slot_tuple_add PySem.F.entry_tuple_add (PySem.F.args_tuple_add_2 _ _)
      (tuple_addW1 t b vs.toArray ws.toArray n n2 dd dd2 sl sl2 (by simpa using hv) (by simp [hw])) ⟨ho, ho2, h1 hw⟩
  · refine concat_meets ⟨_, ho, rfl⟩ ⟨_, ho2, rfl⟩ noFill_tuple_add seq_tuple_add PySem.F.slot_tuple_add PySem.F.entry_tuple_add (PySem.F.args_tuple_add_2 _ _)
      (tuple_addW2 t b vs.toArray ws.toArray n n2 dd dd2 sl sl2 (by simpa using hv) (by simpa using hw) (by rw [List.size_toArray, List.size_toArray]; exact hsz)) ⟨ho, ho2, ?_⟩
    rw [e]
    exact h2 hw

/-! ### t[a:b], not the whole -/
/-- a slice's bound as a place among n (d where it is left out) -/
def sIx (n d : Nat) : Option Int → Nat
  | none => d
  | some v => if v < 0 then (v + (n : Int)).toNat else min v.toNat n
theorem sIx_le (n d : Nat) (hd : d ≤ n) (o : Option Int) : sIx n d o ≤ n := by
  cases o with
  | none => exact hd
  | some v =>
    show (if v < 0 then (v + (n : Int)).toNat else min v.toNat n) ≤ n
    by_cases hv : v < 0
    · rw [if_pos hv]; omega
    · rw [if_neg hv]; exact Nat.min_le_right _ _
theorem clip_eq (v : Int) (n d : Nat) : (if v < 0 then max (v + (n : Int)) 0 else min v (n : Int)) = ((sIx n d (some v) : Nat) : Int) := by
  show (if v < 0 then max (v + (n : Int)) 0 else min v (n : Int)) = (((if v < 0 then (v + (n : Int)).toNat else min v.toNat n) : Nat) : Int)
  by_cases hv : v < 0
  · simp only [if_pos hv]; omega
  · simp only [if_neg hv]; omega
theorem adjust_gen (lo hi : Option Int) (n : Nat) : Builtin.Slice.sliceAdjust lo hi 1 (n : Int) = (((sIx n 0 lo : Nat) : Int), ((sIx n n hi : Nat) : Int)) := by
  have h1 : ¬ ((1 : Int) < 0) := by omega
  unfold Builtin.Slice.sliceAdjust
  simp only [h1, if_false]
  refine Prod.ext ?_ ?_
  · cases lo with
    | none => rfl
    | some v => exact clip_eq v n 0
  · cases hi with
    | none => rfl
    | some v => exact clip_eq v n n
theorem places_gen (i j : Nat) : Builtin.Slice.slicePlaces (i : Int) (j : Int) 1 = j - i := by
  unfold Builtin.Slice.slicePlaces
  have h1 : (1 : Int) > 0 := by omega
  simp only [h1, if_true, Int.ediv_one]
  split <;> omega
theorem slicePart_ {v : Value} {o : Option Int} {Q : Option Int → Shared → Prop} (p : IsPart v o) (h : Q o s) : wpAny (model prog w) A (Builtin.Slice.slicePartIndex v) Q E s := by
  cases p with
  | none => exact slicePart_none h
  | int i t => exact slicePart_int h
theorem sliceApplied_gen {sl : Addr} {vl vu : Value} {lo hi : Option Int} {n : Nat} {Q : Int × Int × Nat → Shared → Prop} (hs : s.heap.IsSliceOf sl vl vu .none) (pl : IsPart vl lo) (pu : IsPart vu hi)
    (h : Q (((sIx n 0 lo : Nat) : Int), 1, sIx n n hi - sIx n 0 lo) s) : wpAny (model prog w) A (Builtin.Slice.sliceApplied (.ref sl) (pure (n : Int))) Q E s := by
  obtain ⟨os, hos, hcs, hds⟩ := id hs
  unfold Builtin.Slice.sliceApplied Builtin.Slice.sliceFields
  refine wpAny_bind (wpAny_bind (wpAny_field hos hds (x := vl) rfl (wpAny_bind (wpAny_field hos hds (x := vu) rfl (wpAny_bind (wpAny_field hos hds (x := .none) rfl (wpAny_pure ?_)))))))
  refine wpAny_bind (slicePart_none ?_)
  show wpAny _ _ (if ((1 : Int) == 0) = true then _ else _) _ _ s
  rw [if_neg (by decide)]
  refine wpAny_bind (slicePart_ pl (wpAny_bind (slicePart_ pu (wpAny_bind (wpAny_pure ?_)))))
  show wpAny _ _ (match Builtin.Slice.sliceAdjust lo hi 1 (n : Int) with | (lo, hi) => pure (lo, (1 : Int), Builtin.Slice.slicePlaces lo hi 1)) _ _ s
  rw [adjust_gen lo hi n]
  show wpAny _ _ (pure (((sIx n 0 lo : Nat) : Int), (1 : Int), Builtin.Slice.slicePlaces ((sIx n 0 lo : Nat) : Int) ((sIx n n hi : Nat) : Int) 1)) _ _ s
  rw [places_gen]
  exact wpAny_pure h
theorem pick_gen (xs : Array Value) (i k : Nat) : ((List.range k).filterMap fun (m : Nat) => xs[((i : Int) + (m : Int) * 1).toNat]?).toArray = ((xs.toList.drop i).take k).toArray := by
  have e : (fun (m : Nat) => xs[((i : Int) + (m : Int) * 1).toNat]?) = fun m => xs[i + m]? := by
    funext m
    have : ((i : Int) + (m : Int) * 1).toNat = i + m := by omega
    rw [this]
  rw [e]
  have := pick_run xs i k
  rw [List.filterMap_map] at this
  have e2 : ((fun x => xs[x]?) ∘ fun x => i + x) = fun m => xs[i + m]? := rfl
  rw [e2] at this
  rw [this]

theorem getItem_tuple_cut {t sl : Addr} {items : Array Value} {vl vu : Value} {lo hi : Option Int} {Q : Value → Shared → Prop} (ht : IsTup s.heap t items) (hs : s.heap.IsSliceOf sl vl vu .none) (pl : IsPart vl lo) (pu : IsPart vu hi)
    (hw : ¬ (sIx items.size 0 lo = 0 ∧ sIx items.size items.size hi = items.size))
    (h : Q (.ref s.heap.objs.size) { s with heap := s.heap.push { cls := .type "tuple", data := .seq ((items.toList.drop (sIx items.size 0 lo)).take (sIx items.size items.size hi - sIx items.size 0 lo)).toArray } })
    (hsz : items.size ≤ sizeLine) : wpAny (model prog w) A (getItem (.ref t) (.ref sl)) Q E s := by
  have htake : sizeOk (.seq ((items.toList.drop (sIx items.size 0 lo)).take (sIx items.size items.size hi - sIx items.size 0 lo)).toArray) := by
    show ((items.toList.drop (sIx items.size 0 lo)).take (sIx items.size items.size hi - sIx items.size 0 lo)).toArray.size ≤ sizeLine
    rw [List.size_toArray, List.length_take, List.length_drop, Array.length_toList]
    omega
  have hj : sIx items.size items.size hi ≤ items.size := sIx_le _ _ (Nat.le_refl _) hi
  obtain ⟨os, hos, hcs, hds⟩ := id hs
  have hTs : s.TypeIs (.ref sl) "slice" := ⟨os, hos, hcs⟩
  unfold getItem
  try with_reducible refine wpAny_holding ?_
  first | refine wpAny_bind (wpAny_pure ?_) | skip
  refine wpAny_bind (wpAny_sequenceKey ht.typeIs (by decide) ?_)
  refine wpAny_bind (wpAny_callSpecial?_slot (name := Str.ofString "__getitem__") ht.typeIs PyProof.Rows.slot_tuple_getitem
    (wpAny_call_entry PyProof.Rows.slot_tuple_getitem ht.typeIs entry_tuple_getitem ?_ (args_tuple_getitem _ _)))
  show wpAny _ _ (Builtin.Tuple.tupleItemsOf (.ref t) >>= _) _ _ s
  refine wpAny_bind (tupleItemsOf_ ht ?_)
  refine wpAny_bind (wpAny_typeOf hTs ?_)
  rw [if_pos (by decide)]
  refine wpAny_bind (sliceApplied_gen hs pl pu ?_)
  have hno : ¬ ((((sIx items.size 0 lo : Nat) : Int) == 0 && (1 : Int) == 1 && (sIx items.size items.size hi - sIx items.size 0 lo) == items.size) = true) := by
    intro q
    rw [Bool.and_eq_true, Bool.and_eq_true] at q
    have q1 : ((sIx items.size 0 lo : Nat) : Int) = 0 := eq_of_beq q.1.1
    have q2 : sIx items.size items.size hi - sIx items.size 0 lo = items.size := eq_of_beq q.2
    exact hw ⟨by omega, by omega⟩
  show wpAny _ _ (if (((sIx items.size 0 lo : Nat) : Int) == 0 && (1 : Int) == 1 && (sIx items.size items.size hi - sIx items.size 0 lo) == items.size) = true then _ else _) _ _ s
  rw [if_neg hno, pick_gen]
  first
    | exact wpAny_bind (m := Builtin.Tuple.tupleExact _) (wpAny_newObj_type (wpAny_pure ⟨_, rfl, wpAny_pure h⟩) htake)
    | exact wpAny_bind (m := Builtin.Tuple.tupleExact _) (wpAny_newObj_type (wpAny_bind (wpAny_pure (wpAny_pure ⟨_, rfl, wpAny_pure h⟩))) htake)
    | exact wpAny_bind (wpAny_bind (m := Builtin.Tuple.tupleExact _) (wpAny_newObj_type (wpAny_pure (wpAny_pure ⟨_, rfl, wpAny_pure h⟩)) htake))
    | exact wpAny_bind (wpAny_bind (m := Builtin.Tuple.tupleExact _) (wpAny_newObj_type (wpAny_pure ⟨_, rfl, wpAny_pure h⟩) htake))
end
end HT

namespace L2
open PySem PySem.Spec PyProof.Rows

/-! ### the parts of a slice -/
abbrev TO := St → Hp → (Option Int → Hp → Prop) → Prop
/-- a slice's part (left out, or an int) -/
def PO (X : Cx) (e : Option Expr) (t : TO) : Prop :=
  ∀ (pins : List (Addr × Obj)) (s : Shared) (σ : St) (H : Hp) (Q : Option Int → Hp → Prop), Inv X pins σ H s → t σ H Q →
    wpAny (model X.prog X.w) X.A (evalPart e X.env) (fun u s' => ∃ o H', Inv X pins σ H' s' ∧ IsPart u o ∧ Q o H') X.xe s
def tNoPart : TO := fun _ H Q => Q none H
def tPart (t : TE) : TO := fun σ H Q => t σ H fun x H1 => ∃ i, x = .int i ∧ Q (some i) H1

section
variable {X : Cx} {e : Expr} {te : TE} {lo hi : Option Expr} {tl th : TO} {pos p2 : Pos}

theorem po_none : PO X none tNoPart := by
  intro pins s σ H Q I h
  rw [evalPart_none]
  exact wpAny_pure ⟨none, H, I, .none, h⟩
theorem po_some (h : PE X e te) : PO X (some e) (tPart te) := by
  intro pins s σ H Q I hw
  rw [evalPart_some]
  refine thn (h pins s σ H _ I hw) fun u s1 ⟨x, H1, I1, r1, q1⟩ => ?_
  obtain ⟨i, rfl, q⟩ := q1
  obtain ⟨t, rfl⟩ := r1
  exact ⟨some i, H1, I1, .int i t, q⟩

/-- what a slice of a value is, by values: the slice object stands at sl -/
def SlR (X : Cx) (r : V → Option Int → Option Int → Hp → VK → Prop) : Prop :=
  ∀ (pins : List (Addr × Obj)) (s : Shared) (σ : St) (H : Hp) (x : V) (v vl vu : Value) (lo hi : Option Int) (sl : Addr) (Q : VK), Inv X pins σ H s → RelV x v → s.heap.IsSliceOf sl vl vu .none → IsPart vl lo → IsPart vu hi → r x lo hi H Q →
    ∃ T id, typeLookup (.type T) "__getitem__" = pure (some (.builtin id)) ∧ s.TypeIs v T ∧ wpAny (model X.prog X.w) X.A (getItem v (.ref sl)) (EP X pins σ Q) X.xe s
theorem SlR.or {r r' : V → Option Int → Option Int → Hp → VK → Prop} (h : SlR X r) (h' : SlR X r') : SlR X (fun x lo hi H Q => r x lo hi H Q ∨ r' x lo hi H Q) := by
  intro pins s σ H x v vl vu lo hi sl Q I rx hs pl pu q
  rcases q with q | q
  · exact h pins s σ H x v vl vu lo hi sl Q I rx hs pl pu q
  · exact h' pins s σ H x v vl vu lo hi sl Q I rx hs pl pu q
def tSl (r : V → Option Int → Option Int → Hp → VK → Prop) (te : TE) (tl th : TO) : TE := fun σ H Q => te σ H fun x H1 => tl σ H1 fun l H2 => th σ H2 fun u H3 => r x l u H3 Q
/-- a[lo:hi], any a -/
theorem pe_slice {r : V → Option Int → Option Int → Hp → VK → Prop} (hr : SlR X r) (he : PE X e te) (hl : PO X lo tl) (hu : PO X hi th) : PE X (.Subscript e (.Slice lo hi none p2) pos) (tSl r te tl th) := by
  intro pins s σ H Q I h
  refine Subscript_ (thn (he pins s σ H _ I h) fun v s1 ⟨x, H1, I1, r1, q1⟩ => ?_)
  refine wpAny_Slice (thn (hl pins s1 σ H1 _ I1 q1) fun vl s2 ⟨l, H2, I2, pl, q2⟩ => thn (hu pins s2 σ H2 _ I2 q2) fun vu s3 ⟨u, H3, I3, pu, q3⟩ => ?_)
  rw [evalPart_none]
  refine wpAny_pure ?_
  have I4 : Inv X pins σ H3 { s3 with heap := s3.heap.push { cls := .type "slice", data := .fields #[vl, vu, .none] } } := I3.kept (t' := s3.toks) fun b ob q => Heap.get?_push_of_some _ q
  obtain ⟨T, id, hT, ht, hg⟩ := hr pins { s3 with heap := s3.heap.push { cls := .type "slice", data := .fields #[vl, vu, .none] } } σ H3 x v vl vu l u s3.heap.objs.size Q I4 r1 (Heap.IsSliceOf.new ..) pl pu q3
  show wpAny (model X.prog X.w) X.A (subscriptTail e (.Slice lo hi none p2) v (.ref s3.heap.objs.size)) (EP X pins σ Q) X.xe { s3 with heap := s3.heap.push { cls := .type "slice", data := .fields #[vl, vu, .none] } }
  exact tail_any (ops := [.ref s3.heap.objs.size, v]) ht hT hg (by with_unfolding_all rfl)

/-- the items of xs[lo:hi] -/
def cutV (xs : List V) (lo hi : Option Int) : List V := (xs.drop (HT.sIx xs.length 0 lo)).take (HT.sIx xs.length xs.length hi - HT.sIx xs.length 0 lo)
theorem cutV_length (xs : List V) (lo hi : Option Int) : (cutV xs lo hi).length ≤ xs.length := by
  unfold cutV
  rw [List.length_take, List.length_drop]
  omega
/-- t[lo:hi], not the whole of it (the whole would be t itself) -/
def rSlT (K : PySem.W.Frag) : V → Option Int → Option Int → Hp → VK → Prop := fun x lo hi H Q => ∃ a xs, x = .ref a ∧ SqT K H a xs ∧
  ¬ (HT.sIx xs.length 0 lo = 0 ∧ HT.sIx xs.length xs.length hi = xs.length) ∧ ∀ p, H p = none → Q (.ref p) (upd H p (.tup (cutV xs lo hi)))
theorem sl_tup : SlR X (rSlT X.K) := by
  intro pins s σ H x v vl vu lo hi sl Q I rx hs pl pu h
  obtain ⟨a, xs, rfl, hx, hw, q⟩ := h
  cases rx
  obtain ⟨its, r, ht, hz⟩ := I.tuple hx
  have hlen : its.toArray.size = xs.length := by rw [List.size_toArray]; exact r.length.symm
  refine ⟨"tuple", _, PyProof.Rows.slot_tuple_getitem.lookup, ht.typeIs, ?_⟩
  refine HT.getItem_tuple_cut ht hs pl pu (by rw [hlen]; exact hw) ?_ (by rw [hlen]; exact hz)
  rw [hlen]
  refine ⟨.ref s.heap.objs.size, _, I.laid (t' := s.toks) (o := .tup (cutV xs lo hi)) (fun b ob q => Heap.get?_push_of_some _ q) (Nat.le_refl _) ?_, rfl, q _ (I.hok.fresh (Nat.le_refl _))⟩
  exact ⟨Nat.le_trans (cutV_length xs lo hi) hz, _, (r.drop (HT.sIx xs.length 0 lo)).take (HT.sIx xs.length xs.length hi - HT.sIx xs.length 0 lo), IsTup.new _ _⟩

/-! ### t < u, t + u -/
/-- t + u, t not empty: u empty gives t itself -/
def rCatT (K : PySem.W.Frag) : R2 := fun x y H Q => ∃ a b xs ys, x = .ref a ∧ y = .ref b ∧ SqT K H a xs ∧ SqT K H b ys ∧ xs ≠ [] ∧ xs.length + ys.length ≤ sizeLine ∧
  (ys = [] → Q (.ref a) H) ∧ (ys ≠ [] → ∀ p, H p = none → Q (.ref p) (upd H p (.tup (xs ++ ys))))
theorem Vals.nil_iff {xs : List V} {us : List Value} (r : Vals xs us) : us = [] ↔ xs = [] := by
  cases r with
  | nil => simp
  | cons _ _ => simp
theorem op_catT : OpR X (binaryOp .Add) (rCatT X.K) := by
  intro pins s σ H x y v u Q I rx ry h
  obtain ⟨a, b, xs, ys, rfl, rfl, ha, hb, hx, hz, q1, q2⟩ := h
  cases rx
  cases ry
  obtain ⟨its, r1, p1, _⟩ := I.tuple ha
  obtain ⟨its2, r2, p2, _⟩ := I.tuple hb
  refine HT.cat_tup p1 p2 (fun z => hx (r1.nil_iff.mp z)) (fun z => ⟨.ref a, H, I, rfl, q1 (r2.nil_iff.mp z)⟩) (fun z => ?_) (by rw [← r1.length, ← r2.length]; exact hz)
  refine ⟨.ref s.heap.objs.size, _, I.laid (t' := s.toks) (o := .tup (xs ++ ys)) (fun b ob q => Heap.get?_push_of_some _ q) (Nat.le_refl _) ?_, rfl, q2 (fun w => z (r2.nil_iff.mpr w)) _ (I.hok.fresh (Nat.le_refl _))⟩
  exact ⟨by rw [List.length_append]; exact hz, _, r1.append r2, IsTup.new _ _⟩
end
end L2

namespace L2
open PySem PySem.Spec PyProof.Rows

/-! ### places -/
/-- the place that an index of any sign means -/
def ixN (n : Nat) (i : Int) : Option Nat := if 0 ≤ i then (if i < n then some i.toNat else none) else if -(n : Int) ≤ i then some (i + n).toNat else none
def atI {α : Type} (xs : List α) (i : Int) : Option α := (ixN xs.length i).bind fun j => xs[j]?
theorem ixN_seq {n : Nat} {i : Int} {j : Nat} (h : ixN n i = some j) : seqIndex? i n = some j ∧ j < n ∧ -(n : Int) ≤ i ∧ i < n := by
  unfold ixN at h
  by_cases h0 : 0 ≤ i
  · rw [if_pos h0] at h
    by_cases h1 : i < n
    · rw [if_pos h1] at h
      have e : i.toNat = j := Option.some.inj h
      exact ⟨by rw [seqIndex_of h0 h1, e], by omega, by omega, h1⟩
    · rw [if_neg h1] at h; cases h
  · rw [if_neg h0] at h
    by_cases h1 : -(n : Int) ≤ i
    · rw [if_pos h1] at h
      have e : (i + n).toNat = j := Option.some.inj h
      exact ⟨by rw [seqIndex_neg (by omega) h1, e], by omega, h1, by omega⟩
    · rw [if_neg h1] at h; cases h
theorem atI_get {α : Type} {xs : List α} {i : Int} {v : α} (h : atI xs i = some v) : ∃ j, seqIndex? i xs.length = some j ∧ xs[j]? = some v ∧ j < xs.length ∧ -(xs.length : Int) ≤ i ∧ i < xs.length := by
  unfold atI at h
  cases e : ixN xs.length i with
  | none => rw [e] at h; cases h
  | some j =>
    rw [e] at h
    obtain ⟨h1, h2, h3, h4⟩ := ixN_seq e
    exact ⟨j, h1, h, h2, h3, h4⟩
theorem atI_nat {α : Type} {xs : List α} {j : Nat} {v : α} (h : xs[j]? = some v) : atI xs (j : Int) = some v := by
  have hj : j < xs.length := (List.getElem?_eq_some_iff.mp h).1
  have e : ixN xs.length (j : Int) = some j := by
    unfold ixN
    rw [if_pos (by omega), if_pos (by omega)]; simp
  unfold atI; rw [e]; exact h
/-! ### what may be subscripted -/
/-- what stands as an index of a plain subscript -/
def PlainIx (b : Expr) : Prop := ∀ o i, subscripted b false o i = operate [o, i] (getItem o i)
/-- a subscript by values -/
def IxR (X : Cx) (r : R2) : Prop :=
  ∀ (value slice : Expr) (pins : List (Addr × Obj)) (s : Shared) (σ : St) (H : Hp) (x y : V) (v u : Value) (Q : VK), Inv X pins σ H s → RelV x v → RelV y u → r x y H Q →
    subscripted slice false v u = operate [v, u] (getItem v u) → wpAny (model X.prog X.w) X.A (subscriptTail value slice v u) (EP X pins σ Q) X.xe s
/-- a call of a builtin's method by values: the receiver, the arguments -/
def MtR (X : Cx) (id : String) (r : V → List V → Hp → VK → Prop) : Prop :=
  ∀ (pins : List (Addr × Obj)) (s : Shared) (σ : St) (H : Hp) (x : V) (xs : List V) (v : Value) (us : List Value) (Q : VK), Inv X pins σ H s → RelV x v → Vals xs us → r x xs H Q →
    wpAny (model X.prog X.w) X.A (call (.builtin id) (v :: us)) (EP X pins σ Q) X.xe s
section
variable {X : Cx} {a b : Expr} {ta tb : TE} {pos : Pos}
theorem IxR.or {r r' : R2} (h : IxR X r) (h' : IxR X r') : IxR X (fun x y H Q => r x y H Q ∨ r' x y H Q) := by
  intro value slice pins s σ H x y v u Q I rx ry q hs
  rcases q with q | q
  · exact h value slice pins s σ H x y v u Q I rx ry q hs
  · exact h' value slice pins s σ H x y v u Q I rx ry q hs
theorem MtR.or {id : String} {r r' : V → List V → Hp → VK → Prop} (h : MtR X id r) (h' : MtR X id r') : MtR X id (fun x xs H Q => r x xs H Q ∨ r' x xs H Q) := by
  intro pins s σ H x xs v us Q I rx rs q
  rcases q with q | q
  · exact h pins s σ H x xs v us Q I rx rs q
  · exact h' pins s σ H x xs v us Q I rx rs q
/-- a[b] -/
theorem pe_ix {r : R2} (hr : IxR X r) (ha : PE X a ta) (hb : PE X b tb) (hs : PlainIx b) : PE X (.Subscript a b pos) (tOp r ta tb) := by
  intro pins s σ H Q I h
  exact Subscript_ (binT ha hb I h fun v u s2 x y H2 I2 rx ry q => hr a b pins s2 σ H2 x y v u Q I2 rx ry q (hs _ _))

def rIxL (K : PySem.W.Frag) : R2 := fun x y H Q => ∃ p xs i v, x = .ref p ∧ y = .int i ∧ SqL K H p xs ∧ atI xs i = some v ∧ Q v H
def rIxT (K : PySem.W.Frag) : R2 := fun x y H Q => ∃ p xs i v, x = .ref p ∧ y = .int i ∧ SqT K H p xs ∧ atI xs i = some v ∧ Q v H
def rIxS : R2 := fun x y H Q => ∃ z i c, x = .str z ∧ y = .int i ∧ z.length ≤ sizeLine ∧ atI z.cps.toList i = some c ∧ Q (.str ⟨#[c]⟩) H
theorem ix_list : IxR X (rIxL X.K) := by
  intro value slice pins s σ H x y v u Q I rx ry h hs
  obtain ⟨p, xs, i, z, rfl, rfl, hq, he, q⟩ := h
  cases rx
  obtain ⟨t, rfl⟩ := ry
  obtain ⟨its, r, pl, hz⟩ := I.list hq
  obtain ⟨j, h1, h2, h3, h4, h5⟩ := atI_get he
  obtain ⟨w, ew, rw'⟩ := r.get h2
  have hl := r.length
  have hn := line63
  have fin : EP X pins σ Q w s := ⟨z, H, I, rw', q⟩
  by_cases h0 : 0 ≤ i
  · have hj : i.toNat = j := by
      rw [seqIndex_of h0 h5] at h1
      exact Option.some.inj h1
    exact item_listR pl.isList h0 (by omega) (by rw [hj]; simpa using ew) fin hs
  · have hj : (i + (its.toArray.size : Int)).toNat = j := by
      rw [seqIndex_neg (by omega) h4] at h1
      rw [List.size_toArray, ← hl]
      exact Option.some.inj h1
    exact subscriptTail_builtinR (x := w) pl.isList.typeIs slot_list_getitem.lookup
      (wpAny_getItem_list_neg (Q := fun r s' => r = w ∧ EP X pins σ Q r s') pl.isList (by omega) (by rw [List.size_toArray] <;> omega) (by omega) (by rw [hj]; simpa using ew) ⟨rfl, fin⟩) hs
theorem ix_tup : IxR X (rIxT X.K) := by
  intro value slice pins s σ H x y v u Q I rx ry h hs
  obtain ⟨p, xs, i, z, rfl, rfl, hq, he, q⟩ := h
  cases rx
  obtain ⟨t, rfl⟩ := ry
  obtain ⟨its, r, pl, hz⟩ := I.tuple hq
  obtain ⟨j, h1, h2, h3, h4, h5⟩ := atI_get he
  obtain ⟨w, ew, rw'⟩ := r.get h2
  have hl := r.length
  have hn := line63
  have fin : EP X pins σ Q w s := ⟨z, H, I, rw', q⟩
  exact subscriptTail_builtinR (x := w) pl.typeIs slot_tuple_getitem.lookup
    (getItem_tuple (j := j) (Q := fun r s' => r = w ∧ EP X pins σ Q r s') pl (by omega) (by omega) (by rw [List.size_toArray, ← hl]; exact h1) (by simpa using ew) ⟨rfl, fin⟩) hs
theorem ix_str : IxR X rIxS := by
  intro value slice pins s σ H x y v u Q I rx ry h hs
  obtain ⟨z, i, c, rfl, rfl, hz, he, q⟩ := h
  obtain ⟨t, rfl⟩ := rx
  obtain ⟨t', rfl⟩ := ry
  obtain ⟨j, h1, h2, h3, h4, h5⟩ := atI_get he
  have hl : z.cps.toList.length = z.length := by simp [Str.length]
  rw [hl] at h1 h4 h5
  have hn := line63
  exact tail_any (typeIs_str s z t) slot_str_getitem.lookup (getItem_str (c := c) (by
    have e1 : decide (i < -(2 ^ 63 : Int)) = false := decide_eq_false (by omega)
    have e2 : decide (i ≥ 2 ^ 63) = false := decide_eq_false (by omega)
    rw [e1, e2, Bool.or_false]) (by rw [h1]; simpa using h2) ⟨.str ⟨#[c]⟩, H, I.tok _, ⟨_, rfl⟩, q⟩) hs
/-- list, tuple or str -/
def rIx (K : PySem.W.Frag) : R2 := fun x y H Q => rIxL K x y H Q ∨ rIxT K x y H Q ∨ rIxS x y H Q
theorem ix_seq : IxR X (rIx X.K) := ix_list.or (ix_tup.or ix_str)

/-! ### xs[i] = v, any sign -/
/-- the list's object behind a store -/
theorem mapSeq_set (its : List Value) (n j : Nat) (u : Value) : Obj.mapSeq (·.setIfInBounds j u) { cls := .type "list", data := .seq its.toArray n } = { cls := .type "list", data := .seq (its.set j u).toArray n } := by
  simp [Obj.mapSeq]
theorem Inv.lst {pins : List (Addr × Obj)} {σ : St} {H : Hp} {s : Shared} {p : Addr} {xs : List V} (I : Inv X pins σ H s) (h : H p = some (.lst xs)) :
    ∃ (its : List Value) (n : Nat), Vals xs its ∧ s.heap.get? p = some { cls := .type "list", data := .seq its.toArray n } ∧ xs.length ≤ sizeLine := by
  obtain ⟨z, its, n, r, e⟩ := I.hok p _ h
  exact ⟨its, n, r, e, z⟩
/-- the list at p is written by an update of its object -/
theorem Inv.lstUpd {pins : List (Addr × Obj)} {σ : St} {H : Hp} {s : Shared} {p : Addr} {xs ys : List V} {its its' : List Value} {n n' : Nat} {f : Obj → Obj} (I : Inv X pins σ H s) (h : H p = some (.lst xs))
    (ho : s.heap.get? p = some { cls := .type "list", data := .seq its.toArray n }) (hf : f { cls := .type "list", data := .seq its.toArray n } = { cls := .type "list", data := .seq its'.toArray n' }) (r : Vals ys its') (hz : ys.length ≤ sizeLine) (t : Nat) :
    Inv X pins σ (upd H p (.lst ys)) { s with heap := s.heap.update p f, toks := t } := by
  have e : (s.heap.update p f).get? p = some { cls := .type "list", data := .seq its'.toArray n' } := by
    rw [Heap.get?_update_self f ho (by rw [hf] <;> rfl), hf]
  refine I.write (x := p) (e := p) (by rw [h]; trivial) (.inl rfl) (fun b u hb q => (Heap.get?_update_other _ _ (Ne.symm hb)).trans q) ⟨_, e⟩ ?_
  exact ⟨hz, its', n', r, e⟩
def rSetL : V → V → V → Hp → (Hp → Prop) → Prop := fun o i v H Q => ∃ p xs k j, o = .ref p ∧ i = .int k ∧ H p = some (.lst xs) ∧ ixN xs.length k = some j ∧ Q (upd H p (.lst (xs.set j v)))
theorem set_list : PSet X rSetL := by
  intro pins s σ H o i v ov iv u Q I ro ri rv h
  obtain ⟨p, xs, k, j, rfl, rfl, hp, hj, q⟩ := h
  cases ro
  obtain ⟨t, rfl⟩ := ri
  obtain ⟨its, n, r, ho, hz⟩ := I.lst hp
  obtain ⟨h1, h2, h3, h4⟩ := ixN_seq hj
  have hl := r.length
  have hn := line63
  have I' : Inv X pins σ (upd H p (.lst (xs.set j v))) { s with heap := s.heap.update p (Obj.mapSeq (·.setIfInBounds j u)) } :=
    I.lstUpd hp ho (mapSeq_set its n j u) (r.set rv j) (by rw [List.length_set]; exact hz) s.toks
  by_cases h0 : 0 ≤ k
  · have hk : k.toNat = j := by
      rw [seqIndex_of h0 h4] at h1
      exact Option.some.inj h1
    exact PySem.W.ki_setAt ho h0 (by omega) (by rw [List.size_toArray, ← hl]; exact h4) (by rw [hk]; exact ⟨_, I', q⟩)
  · have hk : (k + (its.toArray.size : Int)).toNat = j := by
      rw [seqIndex_neg (by omega) h3] at h1
      rw [List.size_toArray, ← hl]
      exact Option.some.inj h1
    exact PySem.W.ki_setBack ho (by omega) (by rw [List.size_toArray, ← hl]; exact h3) (by omega) (by rw [hk]; exact ⟨_, I', q⟩)

/-! ### slices -/
theorem slice_bounds (lo hi : Option Int) (n : Nat) : (sliceBounds lo hi none n).1 = ((HT.sIx n 0 lo : Nat) : Int) ∧ (sliceBounds lo hi none n).2.1 = ((HT.sIx n n hi : Nat) : Int) ∧ (sliceBounds lo hi none n).2.2 = 1 := by
  refine ⟨?_, ?_, rfl⟩
  · cases lo with
    | none => simp [sliceBounds, HT.sIx]
    | some i =>
      simp only [sliceBounds, HT.sIx, Option.getD_none, show (1 : Int) > 0 by decide, if_true]
      by_cases h : i < 0
      · simp only [h, if_true] <;> omega
      · simp only [h, if_false] <;> omega
  · cases hi with
    | none => simp [sliceBounds, HT.sIx]
    | some i =>
      simp only [sliceBounds, HT.sIx, Option.getD_none, show (1 : Int) > 0 by decide, if_true]
      by_cases h : i < 0
      · simp only [h, if_true] <;> omega
      · simp only [h, if_false] <;> omega
theorem slicePick_cut (its : List Value) (lo hi : Option Int) : slicePick its.toArray lo hi none = ((its.drop (HT.sIx its.length 0 lo)).take (HT.sIx its.length its.length hi - HT.sIx its.length 0 lo)).toArray := by
  obtain ⟨h1, h2, h3⟩ := slice_bounds lo hi its.toArray.size
  unfold slicePick
  rw [h1, h2, h3]
  simp only [sliceRange_one, pick_run, List.size_toArray] <;> rfl
/-- xs[lo:hi] of a list: a new list -/
def rSlL (K : PySem.W.Frag) : V → Option Int → Option Int → Hp → VK → Prop := fun x lo hi H Q => ∃ a xs, x = .ref a ∧ SqL K H a xs ∧ ∀ p, H p = none → Q (.ref p) (upd H p (.lst (cutV xs lo hi)))
theorem sl_list : SlR X (rSlL X.K) := by
  intro pins s σ H x v vl vu lo hi sl Q I rx hs pl pu h
  obtain ⟨a, xs, rfl, hx, q⟩ := h
  cases rx
  obtain ⟨its, r, ht, hz⟩ := I.list hx
  have hlen := r.length
  refine ⟨"list", _, slot_list_getitem.lookup, ht.isList.typeIs, ?_⟩
  refine wpAny_getItem_list_slice ht.isList hs pl pu .none (by simp) ?_ (by rw [List.size_toArray] <;> omega)
  rw [slicePick_cut, ← hlen]
  refine ⟨.ref s.heap.objs.size, _, I.laid (t' := s.toks) (o := .lst (cutV xs lo hi)) (fun b ob q => Heap.get?_push_of_some _ q) (Nat.le_refl _) ?_, rfl, q _ (I.hok.fresh (Nat.le_refl _))⟩
  exact ⟨Nat.le_trans (cutV_length xs lo hi) hz, _, 0, (r.drop (HT.sIx xs.length 0 lo)).take (HT.sIx xs.length xs.length hi - HT.sIx xs.length 0 lo), Heap.get?_push_size _ rfl⟩

/-! ### in, not in: flat items -/
def flatV : V → Bool
  | .non => true
  | .bl _ => true
  | .int _ => true
  | .str _ => true
  | _ => false
/-- == of flat values -/
def eqV : V → V → Bool
  | .non, .non => true
  | .bl a, .bl b => a == b
  | .bl a, .int b => (if a then 1 else 0) == b
  | .int a, .bl b => a == (if b then 1 else 0)
  | .int a, .int b => a == b
  | .str a, .str b => a == b
  | _, _ => false
theorem eqAt_V {A : Around} {s : Shared} {y x : V} {u v : Value} (ry : RelV y u) (rx : RelV x v) (fy : flatV y = true) (fx : flatV x = true) : SeqAt.EqAt A s u v (eqV y x) := by
  cases y with
  | non =>
    cases ry
    cases x with
    | non => cases rx; exact SeqAt.EqAt.same _
    | bl b => cases rx; exact SeqAt.EqAt.none_bool b
    | int b => obtain ⟨t, rfl⟩ := rx; exact SeqAt.EqAt.none_int b t
    | str b => obtain ⟨t, rfl⟩ := rx; exact SeqAt.EqAt.none_str b t
    | _ => exact absurd (show false = true from fx) Bool.false_ne_true
  | bl a =>
    cases ry
    cases x with
    | non => cases rx; exact SeqAt.EqAt.bool_none a
    | bl b => cases rx; exact SeqAt.EqAt.bool_bool a b
    | int b => obtain ⟨t, rfl⟩ := rx; exact SeqAt.EqAt.bool_int a b t
    | str b => obtain ⟨t, rfl⟩ := rx; exact SeqAt.EqAt.bool_str a b t
    | _ => exact absurd (show false = true from fx) Bool.false_ne_true
  | int a =>
    obtain ⟨t', rfl⟩ := ry
    cases x with
    | non => cases rx; exact SeqAt.EqAt.int_none a t'
    | bl b => cases rx; exact SeqAt.EqAt.int_bool a t' b
    | int b => obtain ⟨t, rfl⟩ := rx; exact SeqAt.EqAt.int_int a t' b t
    | str b => obtain ⟨t, rfl⟩ := rx; exact SeqAt.EqAt.int_str a t' b t
    | _ => exact absurd (show false = true from fx) Bool.false_ne_true
  | str a =>
    obtain ⟨t', rfl⟩ := ry
    cases x with
    | non => cases rx; exact SeqAt.EqAt.str_none a t'
    | bl b => cases rx; exact SeqAt.EqAt.str_bool a t' b
    | int b => obtain ⟨t, rfl⟩ := rx; exact SeqAt.EqAt.str_int a t' b t
    | str b => obtain ⟨t, rfl⟩ := rx; exact SeqAt.EqAt.str_str a t' b t
    | _ => exact absurd (show false = true from fx) Bool.false_ne_true
  | _ => exact absurd (show false = true from fy) Bool.false_ne_true
/-- the items' answers, read off the values (a value's own answer does not lean on its token) -/
def eqU (x : V) (u : Value) : Bool := match u with
  | .none => eqV .non x
  | .bool b => eqV (.bl b) x
  | .int i _ => eqV (.int i) x
  | .str z _ => eqV (.str z) x
  | _ => false
theorem eqU_of {x y : V} {u : Value} (r : RelV y u) (f : flatV y = true) : eqU x u = eqV y x := by
  cases y with
  | non => cases r; rfl
  | bl b => cases r; rfl
  | int i => obtain ⟨t, rfl⟩ := r; rfl
  | str z => obtain ⟨t, rfl⟩ := r; rfl
  | _ => exact absurd (show false = true from f) Bool.false_ne_true
theorem any_eqU {x : V} : ∀ {xs : List V} {us : List Value}, Vals xs us → xs.all flatV = true → us.any (eqU x) = xs.any fun y => eqV y x
  | _, _, .nil, _ => rfl
  | y :: xs, u :: us, .cons r t, f => by
    rw [List.all_cons, Bool.and_eq_true] at f
    rw [List.any_cons, List.any_cons, eqU_of r f.1, any_eqU t f.2]
theorem mem_eqAt {A : Around} {s : Shared} {x : V} {v : Value} (rx : RelV x v) (fx : flatV x = true) : ∀ {xs : List V} {us : List Value}, Vals xs us → xs.all flatV = true → ∀ u ∈ us, SeqAt.EqAt A s u v (eqU x u)
  | _, _, .nil, _ => fun u hu => by cases hu
  | y :: xs, u :: us, .cons r t, f => fun u' hu => by
    rw [List.all_cons, Bool.and_eq_true] at f
    rcases List.mem_cons.mp hu with rfl | hu
    · rw [eqU_of r f.1]; exact eqAt_V r rx f.1 fx
    · exact mem_eqAt rx fx t f.2 u' hu
def inV (x : V) (xs : List V) : Bool := xs.any fun y => eqV y x
/-- x in a list or tuple of flat items -/
def rIn (K : PySem.W.Frag) (neg : Bool) : R2 := fun x y H Q => ∃ p xs, y = .ref p ∧ (SqL K H p xs ∨ SqT K H p xs) ∧ flatV x = true ∧ xs.all flatV = true ∧ Q (.bl (if neg then !inV x xs else inV x xs)) H
theorem op_in_seq : OpR X (compareOp .In) (rIn X.K false) := by
  intro pins s σ H x y v u Q I rx ry h
  obtain ⟨p, xs, rfl, hq, fx, fs, q⟩ := h
  cases ry
  rcases hq with hq | hq
  · obtain ⟨its, r, pl, hz⟩ := I.list hq
    refine SeqAt.in_listAt (eqU x) pl.isList (fun w hw => mem_eqAt rx fx r fs w (by simpa using hw)) ⟨.bl _, H, I, rfl, ?_⟩
    rw [show its.toArray.any (eqU x) = its.any (eqU x) by simp, any_eqU r fs]
    exact q
  · obtain ⟨its, r, pl, hz⟩ := I.tuple hq
    refine SeqAt.in_tupleAt (eqU x) pl (fun w hw => mem_eqAt rx fx r fs w (by simpa using hw)) ⟨.bl _, H, I, rfl, ?_⟩
    rw [show its.toArray.any (eqU x) = its.any (eqU x) by simp, any_eqU r fs]
    exact q
theorem op_notIn_seq : OpR X (compareOp .NotIn) (rIn X.K true) := by
  intro pins s σ H x y v u Q I rx ry h
  obtain ⟨p, xs, rfl, hq, fx, fs, q⟩ := h
  cases ry
  rcases hq with hq | hq
  · obtain ⟨its, r, pl, hz⟩ := I.list hq
    refine SeqAt.notIn_listAt (eqU x) pl.isList (fun w hw => mem_eqAt rx fx r fs w (by simpa using hw)) ⟨.bl _, H, I, rfl, ?_⟩
    rw [show its.toArray.any (eqU x) = its.any (eqU x) by simp, any_eqU r fs]
    exact q
  · obtain ⟨its, r, pl, hz⟩ := I.tuple hq
    refine SeqAt.notIn_tupleAt (eqU x) pl (fun w hw => mem_eqAt rx fx r fs w (by simpa using hw)) ⟨.bl _, H, I, rfl, ?_⟩
    rw [show its.toArray.any (eqU x) = its.any (eqU x) by simp, any_eqU r fs]
    exact q
/-! ### len, list(x), tuple(x) of any list or tuple that is read -/
theorem call_len_seq : CallR X (.builtin "len") (fun xs H Q => ∃ p ys, xs = [.ref p] ∧ (SqL X.K H p ys ∨ SqT X.K H p ys) ∧ Q (.int ys.length) H) := by
  intro pins s σ H xs us Q I r h
  obtain ⟨p, ys, rfl, hq, q⟩ := h
  obtain ⟨u, rfl, rx⟩ := vals1 r
  cases rx
  have hn := line63
  rcases hq with hq | hq
  · obtain ⟨its, r', pl, hz⟩ := I.list hq
    have hlen := r'.length
    exact Calls.call_len_list pl.isList (by simp only [List.size_toArray] <;> omega) ⟨.int ys.length, H, I.tok _, ⟨s.toks + 1, by rw [List.size_toArray, hlen]⟩, q⟩
  · obtain ⟨its, r', pl, hz⟩ := I.tuple hq
    have hlen := r'.length
    exact len_tuple pl (by simp only [List.size_toArray] <;> omega) ⟨.int ys.length, H, I.tok _, ⟨s.toks + 1, by rw [List.size_toArray, hlen]⟩, q⟩
theorem call_len_str : CallR X (.builtin "len") (fun xs H Q => ∃ z, xs = [.str z] ∧ z.length ≤ sizeLine ∧ Q (.int z.length) H) := by
  intro pins s σ H xs us Q I r h
  obtain ⟨z, rfl, hz, q⟩ := h
  obtain ⟨u, rfl, t, rfl⟩ := vals1 r
  have hn := line63
  exact len_str (by omega) ⟨.int z.length, H, I.tok _, ⟨_, rfl⟩, q⟩
theorem CallR.or {f : Value} {r r' : List V → Hp → VK → Prop} (h : CallR X f r) (h' : CallR X f r') : CallR X f (fun xs H Q => r xs H Q ∨ r' xs H Q) := by
  intro pins s σ H xs us Q I rs q
  rcases q with q | q
  · exact h pins s σ H xs us Q I rs q
  · exact h' pins s σ H xs us Q I rs q
theorem call_list_of : CallR X (.type "list") (fun xs H Q => ∃ p ys, xs = [.ref p] ∧ (SqL X.K H p ys ∨ SqT X.K H p ys) ∧ ∀ l, H l = none → Q (.ref l) (upd H l (.lst ys))) := by
  intro pins s σ H xs us Q I r h
  obtain ⟨p, ys, rfl, hq, q⟩ := h
  obtain ⟨u, rfl, rx⟩ := vals1 r
  cases rx
  have fin : ∀ (its : List Value), Vals ys its → ys.length ≤ sizeLine → ∀ (h' : Heap) (c' : Nat), (∀ b o', s.heap.get? b = some o' → h'.get? b = some o') →
      h'.get? s.heap.objs.size = some { cls := .type "list", dict := none, data := .seq its.toArray c', slots := #[] } → EP X pins σ Q (.ref s.heap.objs.size) { s with heap := h' } := fun its r' hz h' c' kp e =>
    ⟨.ref s.heap.objs.size, _, I.laid (t' := s.toks) kp (Nat.le_refl _) (show ObjOk X.prog X.w _ h' _ (.lst ys) from ⟨hz, its, c', r', e⟩), rfl, q _ (I.hok.fresh (Nat.le_refl _))⟩
  rcases hq with hq | hq
  · obtain ⟨its, r', pl, hz⟩ := I.list hq
    have hlen := r'.length
    obtain ⟨o, ho, hc, n, hd⟩ := pl.isList
    exact call_list_seq p (.inl rfl) ho hc hd (fun h' c' kp e => fin its r' hz h' c' kp e) (by simp only [List.size_toArray] <;> omega)
  · obtain ⟨its, r', pl, hz⟩ := I.tuple hq
    have hlen := r'.length
    obtain ⟨o, ho, hc, n, hd⟩ := pl
    exact call_list_seq p (.inr rfl) ho hc hd (fun h' c' kp e => fin its r' hz h' c' kp e) (by simp only [List.size_toArray] <;> omega)
theorem call_tuple_of : CallR X (.type "tuple") (fun xs H Q => ∃ p ys, xs = [.ref p] ∧ ((SqL X.K H p ys ∧ ∀ l, H l = none → Q (.ref l) (upd H l (.tup ys))) ∨ (SqT X.K H p ys ∧ Q (.ref p) H))) := by
  intro pins s σ H xs us Q I r h
  obtain ⟨p, ys, rfl, h⟩ := h
  obtain ⟨u, rfl, rx⟩ := vals1 r
  cases rx
  rcases h with ⟨hq, q⟩ | ⟨hq, q⟩
  · obtain ⟨its, r', pl, hz⟩ := I.list hq
    have hlen := r'.length
    refine call_tuple_list pl.isList (fun h' kp => ?_) (by simp only [List.size_toArray] <;> omega)
    have I1 : Inv X pins σ H { s with heap := h' } := I.kept (t' := s.toks) kp
    have I2 : Inv X pins σ (upd H h'.objs.size (.tup ys)) { s with heap := h'.push { cls := .type "tuple", data := .seq its.toArray } } :=
      I1.laid (t' := s.toks) (fun b o e => Heap.get?_push_of_some _ e) (Nat.le_refl _) (show ObjOk X.prog X.w _ _ _ (.tup ys) from ⟨hz, its, r', IsTup.new _ _⟩)
    exact ⟨.ref h'.objs.size, _, I2, rfl, q _ (I1.hok.fresh (Nat.le_refl _))⟩
  · obtain ⟨its, r', pl, hz⟩ := I.tuple hq
    exact call_tuple_same pl ⟨.ref p, H, I, rfl, q⟩

/-! ### the call of a builtin's method: o.m(..) -/
/-- the value is of that builtin type -/
def tyV (K : PySem.W.Frag) (T : String) (x : V) (H : Hp) : Prop := match x with
  | .str _ => T = "str"
  | .int _ => T = "int"
  | .ref p => (T = "list" ∧ ∃ xs, SqL K H p xs) ∨ (T = "tuple" ∧ ∃ o, K.lookup p = some o ∧ o.cls = .type "tuple" ∧ o.dict = none) ∨
      (T = "dict" ∧ ((∃ kvs, H p = some (.dK kvs)) ∨ ∃ kvs, H p = some (.dT kvs))) ∨ (T = "set" ∧ ∃ S n, H p = some (.set S n))
  | _ => False
theorem tyV_is {pins : List (Addr × Obj)} {σ : St} {H : Hp} {s : Shared} {T : String} {x : V} {v : Value} (I : Inv X pins σ H s) (r : RelV x v) (ty : tyV X.K T x H) :
    s.TypeIs v T ∧ ∀ a, v = .ref a → ∃ ob, s.heap.get? a = some ob ∧ ob.dict = none := by
  cases x with
  | str z =>
    obtain ⟨t, rfl⟩ := r
    cases (show T = "str" from ty)
    exact ⟨typeIs_str s z t, fun _ e => nomatch e⟩
  | int i =>
    obtain ⟨t, rfl⟩ := r
    cases (show T = "int" from ty)
    exact ⟨typeIs_int s i t, fun _ e => nomatch e⟩
  | ref p =>
    cases r
    rcases ty with ⟨rfl, xs, hq⟩ | ⟨rfl, o, hk, hc, hd⟩ | ⟨rfl, hk⟩ | ⟨rfl, S, n, hk⟩
    · obtain ⟨its, _, pl, _⟩ := I.list hq
      refine ⟨pl.isList.typeIs, fun a e => ?_⟩
      cases e
      obtain ⟨o, n, e, c, hd, _⟩ := pl
      exact ⟨o, e, hd⟩
    · refine ⟨⟨o, I.kIn p o hk, hc⟩, fun a e => ?_⟩
      cases e
      exact ⟨o, I.kIn _ o hk, hd⟩
    · have z : ∃ o, s.heap.get? p = some o ∧ o.ExactDict := by
        rcases hk with ⟨kvs, hk⟩ | ⟨kvs, hk⟩
        · obtain ⟨_, _, _, _, o, _, _, e, ex, _⟩ := I.hok p _ hk
          exact ⟨o, e, ex⟩
        · obtain ⟨_, _, _, _, o, _, _, e, ex, _⟩ := I.hok p _ hk
          exact ⟨o, e, ex⟩
      obtain ⟨o, e, ex⟩ := z
      refine ⟨⟨o, e, ex.1⟩, fun a e2 => ?_⟩
      cases e2
      exact ⟨o, e, ex.2.1⟩
    · obtain ⟨o, _, _, _, e, ex, _⟩ := I.hok p _ hk
      refine ⟨⟨o, e, ex.1⟩, fun a e2 => ?_⟩
      cases e2
      exact ⟨o, e, ex.2.1⟩
  | _ => exact False.elim ty
def tBM (K : PySem.W.Frag) (T : String) (r : V → List V → Hp → VK → Prop) (to : TE) (t : TA) : TE := fun σ H Q => to σ H fun x H1 => tyV K T x H1 ∧ t σ H1 fun xs H2 => r x xs H2 Q
variable {o e : Expr} {es : List Expr} {to : TE} {t : TA} {name : Str} {apos cpos : Pos} {T id : String} {r : V → List V → Hp → VK → Prop}
theorem pe_bm (pa : PlainAttrs T) (slot : Slot T name id) (hty : typeOf (.builtin id) = pure (.type "method_descriptor")) (hm : MtR X id r) (ho : PE X o to) (ha : PA X (e :: es) t)
    (hbase : attributeBase o name X.env (eval o X.env) = eval o X.env := by rfl)
    (hfew : ((backTo cpos (starEach (e :: es) X.env)).all (fun x => !x.1) && (backToKw cpos (keywordEach [] X.env)).all (fun x => x.1.isSome)
      && decide ((e :: es).length + ([] : List Keyword).length + (if ([] : List Keyword).isEmpty then 0 else 1) < 30)) = true := by rfl)
    (hline : (apos.endLine == cpos.line) = true := by rfl) (hs : starEach (e :: es) X.env = (false, eval e X.env) :: starEach es X.env := by rfl) (hplain : (backTo cpos (starEach es X.env)).any (·.1) = false := by rfl) :
    PE X (.Call (.Attribute o name apos) (e :: es) [] cpos) (tBM X.K T r to t) := by
  intro pins s σ H Q I h
  refine wpAny_Call_method_late hbase hfew hline rfl (thn (ho pins s σ H _ I h) fun v s1 ⟨x, H1, I1, r1, ty, q1⟩ => ?_)
  obtain ⟨h1, h2⟩ := tyV_is I1 r1 ty
  refine ⟨T, id, pa, slot, hty, h1, h2, ?_⟩
  have hA := ha cpos pins s1 σ H1 _ I1 q1
  rw [hs] at hA ⊢
  refine Calls.callWith_builtin (by show (false || (backTo cpos (starEach es X.env)).any (·.1)) = false; rw [hplain] <;> rfl) (Calls.evalArgs_plain ?_)
  exact thn hA fun us s2 ⟨vs, H2, I2, r2, q2⟩ => hm pins s2 σ H2 x vs v us Q I2 r1 r2 q2
/- xs.append(e), list.index on a module's tuple .. are MtR facts of 06m -/
end
end L2

namespace L2
open PySem PySem.Spec PyProof.Rows

def MtM (X : Cx) (id : String) (r : V → List V → Hp → VK → Prop) : Prop :=
  ∀ (pins : List (Addr × Obj)) (s : Shared) (σ : St) (H : Hp) (x : V) (xs : List V) (v : Value) (us : List Value) (Q : VK), Inv X pins σ H s → RelV x v → Vals xs us → r x xs H Q →
    wpAny (model X.prog X.w) X.A (call (.builtin id) (v :: us)) (EP X pins σ Q) X.xe s

/-! ### lists of values -/
theorem Vals.one : ∀ {x : V} {us : List Value}, Vals [x] us → ∃ u, us = [u] ∧ RelV x u
  | _, _, .cons r .nil => ⟨_, rfl, r⟩
theorem Vals.two : ∀ {x y : V} {us : List Value}, Vals [x, y] us → ∃ u v, us = [u, v] ∧ RelV x u ∧ RelV y v
  | _, _, _, .cons r (.cons q .nil) => ⟨_, _, rfl, r, q⟩
theorem Vals.zero : ∀ {us : List Value}, Vals [] us → us = []
  | _, .nil => rfl
theorem Vals.dropLast {xs : List V} {us : List Value} (h : Vals xs us) : Vals xs.dropLast us.dropLast := by
  induction h with
  | nil => exact .nil
  | cons r t ih =>
    cases t with
    | nil => exact .nil
    | cons q t' => exact .cons r ih
theorem Vals.eraseIdx : ∀ {xs : List V} {us : List Value} (i : Nat), Vals xs us → Vals (xs.eraseIdx i) (us.eraseIdx i)
  | _, _, _, .nil => .nil
  | _, _, 0, .cons _ t => t
  | _, _, i + 1, .cons r t => .cons r (Vals.eraseIdx i t)
theorem Vals.reverse {xs : List V} {us : List Value} (h : Vals xs us) : Vals xs.reverse us.reverse := by
  induction h with
  | nil => exact .nil
  | cons r t ih => rw [List.reverse_cons, List.reverse_cons]; exact Vals.append ih (.cons r .nil)
theorem Vals.rep {xs : List V} {us : List Value} (h : Vals xs us) : ∀ k : Nat, Vals (List.replicate k xs).flatten (List.replicate k us).flatten
  | 0 => .nil
  | k + 1 => by
    rw [List.replicate_succ, List.replicate_succ, List.flatten_cons, List.flatten_cons]
    exact Vals.append h (Vals.rep h k)
section
variable {X : Cx} {pins : List (Addr × Obj)} {σ : St} {H : Hp} {s : Shared} {l b : Addr} {xs ys zs : List V}

/-! ### the two steps: a tracked list is rewritten, a new list is laid -/
theorem Inv.lset {its its' : List Value} {n : Nat} {f : Array Value → Array Value} {t' : Nat} (I : Inv X pins σ H s) (hH : H l = some (.lst xs))
    (e : s.heap.get? l = some { cls := .type "list", data := .seq its.toArray n }) (hf : f its.toArray = its'.toArray) (hv : Vals ys its') (hz : ys.length ≤ sizeLine) :
    Inv X pins σ (upd H l (.lst ys)) { s with heap := s.heap.update l (Obj.mapSeq f), toks := t' } := by
  have q := PySem.IsL.update e f
  rw [hf] at q
  refine I.write (x := l) (e := l) (by rw [hH]; exact trivial) (.inl rfl) (fun b' u hb hu => (Heap.get?_update_other s.heap (Obj.mapSeq f) (Ne.symm hb)).trans hu) ⟨_, q⟩ ?_
  exact ⟨hz, its', _, hv, q⟩
theorem Inv.lnew {its : List Value} {t' : Nat} (I : Inv X pins σ H s) (hv : Vals ys its) (hz : ys.length ≤ sizeLine) :
    Inv X pins σ (upd H s.heap.objs.size (.lst ys)) { s with heap := s.heap.push { cls := .type "list", data := .seq its.toArray }, toks := t' } :=
  I.laid (fun _ _ q => Heap.get?_push_of_some _ q) (Nat.le_refl _) ⟨hz, its, 0, hv, Heap.get?_push_size _ rfl⟩
theorem Inv.fresh (I : Inv X pins σ H s) : H s.heap.objs.size = none := I.hok.fresh (Nat.le_refl _)
theorem Inv.lstM (I : Inv X pins σ H s) (hH : H l = some (.lst xs)) : xs.length ≤ sizeLine ∧ ∃ (its : List Value) (n : Nat), Vals xs its ∧ xs.length = its.length ∧ s.heap.get? l = some { cls := .type "list", data := .seq its.toArray n } := by
  obtain ⟨z, its, n, r, e⟩ := I.hok l _ hH
  exact ⟨z, its, n, r, r.length, e⟩

end

section
variable {X : Cx}

/-! ### methods -/
def rAppend : V → List V → Hp → VK → Prop := fun x vs H Q => ∃ l xs y, x = .ref l ∧ vs = [y] ∧ H l = some (.lst xs) ∧ xs.length < sizeLine ∧ Q .non (upd H l (.lst (xs ++ [y])))
theorem mt_append : MtM X "list.append" rAppend := by
  intro pins s σ H x vs v us Q I rx rv h
  obtain ⟨l, xs, y, rfl, rfl, hH, hz, q⟩ := h
  cases rx
  obtain ⟨u, rfl, ru⟩ := rv.one
  obtain ⟨z, its, n, r, hl, e⟩ := I.lstM hH
  refine call_meets F.slot_list_append ⟨_, e, rfl⟩ F.entry_list_append (F.args_list_append_2 _ _) (PySem.list_append l its.toArray n u (by rw [List.size_toArray]; omega)) ⟨e, ?_⟩
  refine ⟨.non, _, I.lset (its' := its ++ [u]) hH e (by simp) (r.append (.cons ru .nil)) ?_, rfl, q⟩
  rw [List.length_append, List.length_singleton]
  omega

/-! ### list + list, list += list, list * int -/
def rCat : R2 := fun x y H Q => ∃ l b xs zs, x = .ref l ∧ y = .ref b ∧ H l = some (.lst xs) ∧ H b = some (.lst zs) ∧ xs.length + zs.length ≤ sizeLine ∧ ∀ p, H p = none → Q (.ref p) (upd H p (.lst (xs ++ zs)))
theorem op_cat : OpR X (binaryOp .Add) rCat := by
  intro pins s σ H x y v u Q I rx ry h
  obtain ⟨l, b, xs, zs, rfl, rfl, hH, hB, hz, q⟩ := h
  cases rx
  cases ry
  obtain ⟨z, its, n, r, hl, e⟩ := I.lstM hH
  obtain ⟨z2, its2, n2, r2, hl2, e2⟩ := I.lstM hB
  refine PySem.P.add_list e e2 ?_ (by rw [List.size_toArray, List.size_toArray]; omega)
  have ea : its.toArray ++ its2.toArray = (its ++ its2).toArray := by simp
  rw [ea]
  exact ⟨.ref _, _, I.lnew (t' := s.toks) (r.append r2) (by rw [List.length_append]; omega), rfl, q _ I.fresh⟩
/-! ### del xs[i] -/
end

/-! ### xs[a:b] = ys -/
section
variable {prog : Program} {w : World} {A : Around} {E : Value → Shared → Prop} {s : Shared}
set_option maxRecDepth 100000 in
end

section
variable {X : Cx}
end
end L2

namespace L2
open PySem PySem.Spec PyProof.Rows

theorem Vals.ints : ∀ {ns : List Int} {us : List Value}, Vals (ns.map V.int) us → IntsAre us ns
  | [], us, h => by
    rw [List.map_nil] at h
    cases h
    exact IntsAre.nil
  | n :: ns, us, h => by
    rw [List.map_cons] at h
    cases h with
    | cons r t =>
      obtain ⟨k, rfl⟩ := r
      exact IntsAre.cons n k (Vals.ints t)
theorem Vals.strs : ∀ {xs : List Str} {us : List Value}, Vals (xs.map V.str) us → StrsAre us xs
  | [], us, h => by
    rw [List.map_nil] at h
    cases h
    exact StrsAre.nil
  | x :: xs, us, h => by
    rw [List.map_cons] at h
    cases h with
    | cons r t =>
      obtain ⟨k, rfl⟩ := r
      exact StrsAre.cons x k (Vals.strs t)
theorem Vals.bls : ∀ {bs : List Bool} {us : List Value}, Vals (bs.map V.bl) us → us = bs.map Value.bool
  | [], us, h => by
    rw [List.map_nil] at h
    cases h
    rfl
  | b :: bs, us, h => by
    rw [List.map_cons] at h
    cases h with
    | cons r t =>
      cases r
      rw [Vals.bls t, List.map_cons]
theorem Vals.ref1 {a : Addr} {us : List Value} (r : Vals [V.ref a] us) : us = [Value.ref a] := by
  cases r with
  | cons r t =>
    cases t
    cases r
    rfl
/-! ### the library's walks over a list of ints, kept objects alone -/
section
variable {prog : Program} {w : World} {A : Around} {E : Value → Shared → Prop} {s : Shared} {l : Addr} {its : List Value} {ns : List Int} {Q : Value → Shared → Prop}
end

/-! ### the calls, by values (CallR of 03t; MtR of 06l) -/
section
variable {X : Cx}
/-! sorted, sort (fewer than 64 items: the library's own bound) -/
end

/-! ### list.index, flat items -/
section
variable {X : Cx}
end

/-! ### type(x) of an own instance; is, is not of a module's class -/
section
variable {X : Cx}
end

/-! ### any(xs), all(xs) of a list of bools -/
theorem iter_any {prog : Program} {w : World} {A : Around} {E : Value → Shared → Prop} {s : Shared} {l : Addr} {items : Array Value} {Q : Value → Shared → Prop} (hl : s.heap.IsList l items)
    (h : ∀ s₂ : Shared, s₂ = { s with heap := s.heap.push { cls := .type "list_iterator", data := .fields #[.ref l, .int 0 0] } } →
      (s₂.heap.IsListIter s.heap.objs.size l 0 ∧ s₂.heap.IsList l items) → l ≠ s.heap.objs.size → Q (.ref s.heap.objs.size) s₂) : wpAny (model prog w) A (pyIter (.ref l)) Q E s := by
  have hlt : l < s.heap.objs.size := by obtain ⟨_, e, _⟩ := hl; exact Heap.lt_size e
  exact wpAny_pyIter_list hl (h _ rfl ⟨⟨_, Heap.get?_push_size _ rfl, rfl, rfl⟩, hl.push _⟩ (Nat.ne_of_lt hlt))
theorem truth_bools {prog : Program} {w : World} {A : Around} {bs : List Bool} {its : List Value} (e : its = bs.map Value.bool) :
    TruthOf prog w A (fun i v => its.toArray[i]? = some v) (fun i => bs.getD i false) := fun i v s Q E hv hq => by
  have hv' : its[i]? = some v := by simpa using hv
  rw [e, List.getElem?_map] at hv'
  obtain ⟨b, hb, rfl⟩ := Option.map_eq_some_iff.mp hv'
  have hg : bs.getD i false = b := by rw [List.getD_eq_getElem?_getD, hb] <;> rfl
  have hq' : Q (bs.getD i false) s := hq
  rw [hg] at hq'
  exact wpAny_truthy_bool hq'
theorem all_range : ∀ bs : List Bool, (List.range bs.length).all (fun i => bs.getD i false) = bs.all id
  | [] => rfl
  | b :: bs => by
    rw [List.length_cons, List.range_succ_eq_map, List.all_cons, List.all_map, List.all_cons, ← all_range bs]
    all_goals rfl
section
variable {X : Cx}
def rAll (K : PySem.W.Frag) : List V → Hp → VK → Prop := fun vs H Q => ∃ (a : Addr) (bs : List Bool), vs = [V.ref a] ∧ SqL K H a (bs.map V.bl) ∧ Q (.bl (bs.all id)) H
theorem cr_all (hc : X.calm = true) : CallR X (.builtin "all") (rAll X.K) := by
  intro pins s σ H vs us Q I r h
  obtain ⟨a, bs, rfl, hs, q⟩ := h
  obtain ⟨its, rv, hl, _⟩ := I.list hs
  rw [Vals.ref1 r]
  have hb := rv.bls
  refine call_all_walk (iter_any hl.isList fun s₂ e2 st hne => ?_)
  subst e2
  refine ⟨_, _, _, _, _, _, _, rfl, Walks.list (A := X.A.in1) (I.ok.hd hc) _ a hne its.toArray, st, truth_bools hb, fun h' tk hk => ?_⟩
  refine ⟨.bl _, H, I.kept fun b o eo => hk b o (fun hmem => ?_) (Heap.get?_push_of_some _ eo), ?_, q⟩
  · rcases List.mem_cons.mp hmem with e1 | hmem
    · exact absurd (e1 ▸ Heap.lt_size eo) (Nat.lt_irrefl _)
    · cases hmem
  · show Value.bool _ = Value.bool _
    rw [← all_range, hb, List.size_toArray, List.length_map]
end

/-! ### == and != of data at any depth: none, bools, ints, texts, lists, tuples -/
mutual
inductive Dp (K : PySem.W.Frag) (H : Hp) : V → PyData → Prop
  | non : Dp K H .non .none
  | bl (b : Bool) : Dp K H (.bl b) (.bool b)
  | int (i : Int) : Dp K H (.int i) (.int i)
  | str (x : Str) : Dp K H (.str x) (.str x)
  | lst {a : Addr} {xs : List V} {ds : List PyData} : SqL K H a xs → DpAll K H xs ds → Dp K H (.ref a) (.list ds)
  | tup {a : Addr} {xs : List V} {ds : List PyData} : SqT K H a xs → DpAll K H xs ds → Dp K H (.ref a) (.tuple ds)
inductive DpAll (K : PySem.W.Frag) (H : Hp) : List V → List PyData → Prop
  | nil : DpAll K H [] []
  | cons {v : V} {vs : List V} {d : PyData} {ds : List PyData} : Dp K H v d → DpAll K H vs ds → DpAll K H (v :: vs) (d :: ds)
end
section
variable {X : Cx} {pins : List (Addr × Obj)} {σ : St} {H : Hp} {s : Shared}
mutual
theorem Dp.reads (I : Inv X pins σ H s) : ∀ (d : PyData) (v : V) (u : Value), Dp X.K H v d → RelV v u → ∃ as, Reads s.heap u d as
  | .none, _, _, h, r => by
    cases h
    cases r
    exact ⟨_, Reads.none⟩
  | .bool b, _, _, h, r => by
    cases h
    cases r
    exact ⟨_, Reads.bool b⟩
  | .int i, _, _, h, r => by
    cases h
    obtain ⟨t, rfl⟩ := r
    exact ⟨_, Reads.int i t⟩
  | .str x, _, _, h, r => by
    cases h
    obtain ⟨t, rfl⟩ := r
    exact ⟨_, Reads.str x t⟩
  | .list ds, _, _, h, r => by
    cases h with
    | lst hs ha =>
      cases r
      obtain ⟨its, rv, ⟨o, n, ho, hc, _, hd⟩, _⟩ := I.list hs
      obtain ⟨as, hr⟩ := Dp.readsAll I ds _ its ha rv
      exact ⟨_, Reads.list ho hc hd hr⟩
  | .tuple ds, _, _, h, r => by
    cases h with
    | tup hs ha =>
      cases r
      obtain ⟨its, rv, ⟨o, ho, hc, n, hd⟩, _⟩ := I.tuple hs
      obtain ⟨as, hr⟩ := Dp.readsAll I ds _ its ha rv
      exact ⟨_, Reads.tuple ho hc hd hr⟩
  | .dict _, _, _, h, _ => by cases h
theorem Dp.readsAll (I : Inv X pins σ H s) : ∀ (ds : List PyData) (vs : List V) (us : List Value), DpAll X.K H vs ds → Vals vs us → ∃ as, ReadsAll s.heap us ds as
  | [], _, _, h, r => by
    cases h
    cases r
    exact ⟨_, ReadsAll.nil⟩
  | d :: ds, _, _, h, r => by
    cases h with
    | cons h1 h2 =>
      cases r with
      | cons r1 r2 =>
        obtain ⟨as, q1⟩ := Dp.reads I d _ _ h1 r1
        obtain ⟨bs, q2⟩ := Dp.readsAll I ds _ _ h2 r2
        exact ⟨_, ReadsAll.cons q1 q2⟩
end
end
section
variable {X : Cx}
def rNeD (K : PySem.W.Frag) : R2 := fun x y H Q => ∃ d e, Dp K H x d ∧ Dp K H y e ∧ SeqAt.shaped d = true ∧ SeqAt.shaped e = true ∧ Q (.bl (!PyData.eqv d e)) H
theorem op_neD (hu : X.A.units + 64 < cLine) : OpR X (compareOp .NotEq) (rNeD X.K) := by
  intro pins s σ H x y v u Q I rx ry h
  obtain ⟨d, e, hd, he, sd, se, q⟩ := h
  obtain ⟨as, r1⟩ := Dp.reads I d x v hd rx
  obtain ⟨bs, r2⟩ := Dp.reads I e y u he ry
  exact SeqAt.compareNe_shaped r1 r2 sd se hu ⟨.bl _, H, I, rfl, q⟩
end
end L2

namespace L2
open PySem PySem.Spec PyProof.Rows
abbrev CellAt (h : Heap) (c : Addr) (v : Option Value) : Prop := h.IsCell c v
def relS (scope sc : Scope) : Scope :=
  { scope with names := scope.names.map fun (n, k) => if (k == .free && sc.kind == .function && sc.names.lookup n == some .cell) then (n, .cell) else (n, k) }

def cloFrom (cells : List (Str × Addr)) : List (Str × NameKind) → List (Str × Addr) → List (Str × Addr)
  | [], acc => acc
  | (n, k) :: r, acc => if k == .free then cloFrom cells r ((n, (cells.lookup n).getD 0) :: acc) else cloFrom cells r acc

theorem closure_loop (env : Env) (f : Str × NameKind → List (Str × Addr) → Sem (ForInStep (List (Str × Addr))))
    (hf : ∀ n k c, f (n, k) c = if k == .free then (do let a ← cellOf env n; pure (.yield ((n, a) :: c))) else pure (.yield c)) :
    ∀ (names : List (Str × NameKind)) (acc : List (Str × Addr)), (∀ y ∈ names, y.2 = .free → ∃ c, env.cells.lookup y.1 = some c) → forIn names acc f = pure (cloFrom env.cells names acc)
  | [], acc, _ => by rw [List.forIn_nil]; rfl
  | (n, k) :: r, acc, h => by
    rw [List.forIn_cons, hf]
    have ih := fun acc => closure_loop env f hf r acc fun y hy => h y (List.mem_cons_of_mem _ hy)
    unfold cloFrom
    by_cases hk : (k == NameKind.free) = true
    · rw [if_pos hk, if_pos hk]
      obtain ⟨c, hc⟩ := h (n, k) List.mem_cons_self (by simpa using hk)
      have e : cellOf env n = pure c := by unfold cellOf; rw [hc]
      rw [e]
      have e2 : (env.cells.lookup n).getD 0 = c := by rw [hc]; rfl
      rw [e2]
      exact ih _
    · rw [if_neg hk, if_neg hk]
      exact ih _
theorem closure_ok {scope : Scope} {env : Env} (h : ∀ y ∈ scope.names, y.2 = .free → ∃ c, env.cells.lookup y.1 = some c) : closureFor scope env = pure (cloFrom env.cells scope.names []) := by
  simp only [closureFor]
  rw [closure_loop env _ (fun n k c => rfl) scope.names [] h]
  rfl

theorem mem_lookup {α : Type} : ∀ {l : List (Str × α)} {n : Str} {c : α}, (n, c) ∈ l → ∃ c', l.lookup n = some c'
  | (k, v) :: r, n, c, h => by
    rw [List.lookup_cons]
    cases hb : n == k with
    | true => exact ⟨_, rfl⟩
    | false =>
      rcases List.mem_cons.mp h with e | h
      · cases e; simp at hb
      · exact mem_lookup h

theorem cloFrom_mem {cells : List (Str × Addr)} : ∀ {names : List (Str × NameKind)} {acc : List (Str × Addr)} {n : Str} {c : Addr}, (n, c) ∈ cloFrom cells names acc → (n, c) ∈ acc ∨ ((n, .free) ∈ names ∧ c = (cells.lookup n).getD 0)
  | [], _, _, _, h => .inl h
  | (m, k) :: r, acc, n, c, h => by
    unfold cloFrom at h
    split at h
    · rename_i hk
      have hk : k = .free := by simpa using hk
      rcases cloFrom_mem h with h | ⟨h1, h2⟩
      · rcases List.mem_cons.mp h with e | h
        · cases e; exact .inr ⟨hk ▸ List.mem_cons_self, rfl⟩
        · exact .inl h
      · exact .inr ⟨List.mem_cons_of_mem _ h1, h2⟩
    · rcases cloFrom_mem h with h | ⟨h1, h2⟩
      · exact .inl h
      · exact .inr ⟨List.mem_cons_of_mem _ h1, h2⟩
theorem cloFrom_acc {cells : List (Str × Addr)} : ∀ {names : List (Str × NameKind)} {acc : List (Str × Addr)} {p : Str × Addr}, p ∈ acc → p ∈ cloFrom cells names acc
  | [], _, _, h => h
  | (m, k) :: r, acc, p, h => by
    unfold cloFrom
    split
    · exact cloFrom_acc (List.mem_cons_of_mem _ h)
    · exact cloFrom_acc h
theorem cloFrom_has {cells : List (Str × Addr)} : ∀ {names : List (Str × NameKind)} {acc : List (Str × Addr)} {n : Str}, (n, .free) ∈ names → (n, (cells.lookup n).getD 0) ∈ cloFrom cells names acc
  | (m, k) :: r, acc, n, h => by
    unfold cloFrom
    rcases List.mem_cons.mp h with e | h
    · cases e
      exact cloFrom_acc List.mem_cons_self
    · split
      · exact cloFrom_has h
      · exact cloFrom_has h

theorem cells_mem : ∀ {names : List (Str × NameKind)} {h : Heap} {acc : List (Str × Addr)} {x : Str} {c : Addr}, (x, c) ∈ cellsFrom h.objs.size names acc →
    (x, c) ∈ acc ∨ ((x, .cell) ∈ names ∧ h.objs.size ≤ c ∧ CellAt (pushCells h names) c none)
  | [], _, _, _, _, h => .inl h
  | (n, k) :: r, h, acc, x, c, hm => by
    unfold cellsFrom at hm
    unfold pushCells
    split at hm
    · rename_i hk
      rw [if_pos hk]
      have hk : k = .cell := by simpa using hk
      rw [← Heap.size_push h { cls := .type "cell", data := .cell none }] at hm
      rcases cells_mem hm with hm | ⟨h1, h2, h3⟩
      · rcases List.mem_cons.mp hm with e | hm
        · cases e
          exact .inr ⟨hk ▸ List.mem_cons_self, Nat.le_refl _, _, pushCells_keeps r _ _ _ (Heap.get?_push_size _ rfl), rfl⟩
        · exact .inl hm
      · rw [Heap.size_push] at h2
        exact .inr ⟨List.mem_cons_of_mem _ h1, Nat.le_of_succ_le h2, h3⟩
    · rename_i hk
      rw [if_neg hk]
      rcases cells_mem hm with hm | ⟨h1, h2, h3⟩
      · exact .inl hm
      · exact .inr ⟨List.mem_cons_of_mem _ h1, h2, h3⟩
theorem cells_acc : ∀ {names : List (Str × NameKind)} {n : Nat} {acc : List (Str × Addr)} {p : Str × Addr}, p ∈ acc → p ∈ cellsFrom n names acc
  | [], _, _, _, h => h
  | (m, k) :: r, n, acc, p, h => by
    unfold cellsFrom
    split
    · exact cells_acc (List.mem_cons_of_mem _ h)
    · exact cells_acc h
theorem cells_has : ∀ {names : List (Str × NameKind)} {n : Nat} {acc : List (Str × Addr)} {x : Str}, (x, .cell) ∈ names → ∃ c, (x, c) ∈ cellsFrom n names acc
  | (m, k) :: r, n, acc, x, h => by
    unfold cellsFrom
    rcases List.mem_cons.mp h with e | h
    · cases e
      exact ⟨n, cells_acc List.mem_cons_self⟩
    · split
      · exact cells_has h
      · exact cells_has h
theorem cells_inj : ∀ {names : List (Str × NameKind)} {h : Heap} {acc : List (Str × Addr)} {x y : Str} {c : Addr}, (∀ p ∈ acc, p.2 < h.objs.size) → (∀ x y c, (x, c) ∈ acc → (y, c) ∈ acc → x = y) →
    (x, c) ∈ cellsFrom h.objs.size names acc → (y, c) ∈ cellsFrom h.objs.size names acc → x = y
  | [], _, _, _, _, _, _, hi, h1, h2 => hi _ _ _ h1 h2
  | (n, k) :: r, h, acc, x, y, c, hl, hi, h1, h2 => by
    unfold cellsFrom at h1 h2
    split at h1
    · rename_i hk
      rw [if_pos hk] at h2
      rw [← Heap.size_push h { cls := .type "cell", data := .cell none }] at h1 h2
      refine cells_inj (h := h.push _) (fun p hp => ?_) (fun x y c a b => ?_) h1 h2
      · rw [Heap.size_push]
        rcases List.mem_cons.mp hp with rfl | hp
        · exact Nat.lt_succ_self _
        · exact Nat.lt_succ_of_lt (hl p hp)
      · rcases List.mem_cons.mp a with e | a <;> rcases List.mem_cons.mp b with e' | b
        · cases e; cases e'; rfl
        · cases e; exact absurd (hl _ b) (Nat.lt_irrefl _)
        · cases e'; exact absurd (hl _ a) (Nat.lt_irrefl _)
        · exact hi _ _ _ a b
    · rename_i hk
      rw [if_neg hk] at h2
      exact cells_inj hl hi h1 h2

theorem newEnv_comp {M : Model} {A : Around} {E : Value → Shared → Prop} {s : Shared} {scope : Scope} {globals : Addr} {closure : List (Str × Addr)} {qual : Str} {func : Option Addr} {code : Value} {around : Env} {builtins : Addr} {Q : Env → Shared → Prop}
    (h : Q (newEnv scope s.heap.objs.size globals (cellsFrom (s.heap.objs.size + 1) scope.names closure) qual func code (some around) builtins)
      { s with heap := pushCells (s.heap.push { cls := .type "dict", data := .dict #[] }) scope.names }) :
    wpAny M A (newFunctionEnv scope globals closure [] qual func code (some around) builtins) Q E s := by
  simp only [newFunctionEnv, Option.isSome_some, if_true]
  refine wpAny_bind (wpAny_alloc ?_)
  refine wpAny_bind (wpAny_layCells _ (fun n k c => rfl) scope.names closure _ _ ?_)
  rw [show ({ s with heap := s.heap.push { cls := .type "dict", data := .dict #[] } } : Shared).heap.objs.size = s.heap.objs.size + 1 from Heap.size_push ..]
  rw [List.forIn_nil]
  exact wpAny_bind (wpAny_pure (wpAny_pure h))

/-- every name of the written scope, in the scope that runs -/
theorem lookup_relS {sc : Scope} : ∀ {names : List (Str × NameKind)} {x : Str} {k : NameKind},
    (names.map fun (n, k) => if (k == NameKind.free && sc.kind == .function && sc.names.lookup n == some .cell) then (n, NameKind.cell) else (n, k)).lookup x = some k →
    ∃ k', names.lookup x = some k' ∧ (k = k' ∨ (k' = .free ∧ k = .cell))
  | [], _, _, h => by simp at h
  | (n, k₀) :: r, x, k, h => by
    have ih := @lookup_relS sc r x k
    have h' : List.lookup x ((if (k₀ == NameKind.free && sc.kind == .function && sc.names.lookup n == some .cell) = true then (n, NameKind.cell) else (n, k₀)) :: (r.map _)) = some k := h
    cases hx : x == n with
    | true =>
      simp only [List.lookup_cons, hx]
      by_cases hc : (k₀ == NameKind.free && sc.kind == .function && sc.names.lookup n == some .cell) = true
      · rw [if_pos hc] at h'
        simp only [List.lookup_cons, hx] at h'
        cases h'
        simp only [Bool.and_eq_true, beq_iff_eq] at hc
        exact ⟨k₀, rfl, .inr ⟨hc.1.1, rfl⟩⟩
      · rw [if_neg hc] at h'
        simp only [List.lookup_cons, hx] at h'
        cases h'
        exact ⟨_, rfl, .inl rfl⟩
    | false =>
      simp only [List.lookup_cons, hx]
      by_cases hc : (k₀ == NameKind.free && sc.kind == .function && sc.names.lookup n == some .cell) = true
      · rw [if_pos hc] at h'
        simp only [List.lookup_cons, hx] at h'
        exact ih h'
      · rw [if_neg hc] at h'
        simp only [List.lookup_cons, hx] at h'
        exact ih h'
/-- the names of a comprehension's block: its own (with their places in N), or captured -/
structure BlkOk (N : List Str) (sc scope : Scope) (own : List (Str × Nat)) : Prop where
  kind : scope.kind = .function
  uniq : ∀ y ∈ scope.names, scope.names.lookup y.1 = some y.2
  ix : ∀ p ∈ own, N[p.2]? = some p.1
  free : ∀ y ∈ scope.names, y.2 = .free → sc.names.lookup y.1 = some .cell ∨ sc.names.lookup y.1 = some .free
  own : ∀ y ∈ scope.names, y.2 = .local ∨ y.2 = .cell → y.1 ∈ own.map (·.1) ∨ y.1 ∉ N
/-- the slots of the block's own names forgotten -/
def wipe (σ : St) : List Nat → St
  | [] => σ
  | v :: vs => (wipe σ vs).set v none
theorem wipe_length (σ : St) : ∀ vs : List Nat, (wipe σ vs).length = σ.length
  | [] => rfl
  | v :: vs => by unfold wipe; rw [List.length_set, wipe_length σ vs]
theorem wipe_some {σ : St} {i : Nat} {x : V} : ∀ {vs : List Nat}, (wipe σ vs)[i]? = some (some x) → σ[i]? = some (some x) ∧ i ∉ vs
  | [], h => ⟨h, by simp⟩
  | v :: vs, h => by
    unfold wipe at h
    by_cases hi : v = i
    · subst hi
      by_cases hv : v < (wipe σ vs).length
      · rw [List.getElem?_set_self hv] at h; cases h
      · rw [List.getElem?_eq_none (by simpa using hv)] at h; cases h
    · rw [List.getElem?_set_ne hi] at h
      obtain ⟨h1, h2⟩ := wipe_some h
      exact ⟨h1, by simp only [List.mem_cons, not_or]; exact ⟨fun e => hi e.symm, h2⟩⟩

/-- the context of a block that starts at s, its iterator's objects at fp -/
abbrev Cx.blk (X : Cx) (s : Shared) (H : Hp) (scope : Scope) (cenv : Env) (fp : List Addr) : Cx := { X with s_0 := s, H_0 := H, env := cenv, outer := X.stack, ex := fp, fn := fun x => scope.names.lookup x == some .cell, pn := [], xe := fun _ _ => False }
section
variable {X : Cx} {pins : List (Addr × Obj)} {σ : St} {H : Hp} {s : Shared}
theorem block_start {scope : Scope} {own : List (Str × Nat)} {fp : List Addr} (I : Inv X pins σ H s) (ok : BlkOk X.N X.env.scope scope own) (hN : X.N.Nodup) (hfp : ∀ b ∈ fp, FpOk X pins H b ∧ b < s.heap.objs.size) :
    Inv (X.blk s H scope (compEnvC scope (cellsFrom (s.heap.objs.size + 1) scope.names (cloFrom X.env.cells scope.names [])) s.heap.objs.size X.env) fp) [] (wipe σ (own.map (·.2))) H { s with heap := pushCells (s.heap.push { cls := .type "dict", data := .dict #[] }) scope.names } := by
  have hfree : ∀ y ∈ scope.names, y.2 = .free → ∃ c, X.env.cells.lookup y.1 = some c := fun y hy e => by
    rcases ok.free y hy e with k | k
    · exact I.ok.has _ (.inl k)
    · exact I.ok.has _ (.inr k)
  generalize hcenv : compEnvC scope (cellsFrom (s.heap.objs.size + 1) scope.names (cloFrom X.env.cells scope.names [])) s.heap.objs.size X.env = cenv
  have kp : ∀ b o, s.heap.get? b = some o → (pushCells (s.heap.push { cls := .type "dict", data := .dict #[] }) scope.names).get? b = some o := fun b o e => pushCells_keeps _ _ _ _ (Heap.get?_push_of_some _ e)
  have hL : cenv.locals = s.heap.objs.size := by rw [← hcenv]; rfl
  have hcl : cenv.cells = cellsFrom (s.heap.objs.size + 1) scope.names (cloFrom X.env.cells scope.names []) := by rw [← hcenv]; rfl
  have hsc : cenv.scope = relS scope X.env.scope := by rw [← hcenv]; rfl
  rw [← Heap.size_push s.heap { cls := .type "dict", data := .dict #[] }] at hcl
  have cm : ∀ {y c}, (y, c) ∈ cloFrom X.env.cells scope.names [] → X.env.cells.lookup y = some c ∧ c < s.heap.objs.size := fun {y c} hm => by
    rcases cloFrom_mem hm with hm | ⟨h1, rfl⟩
    · cases hm
    · obtain ⟨c, hc⟩ := hfree _ h1 rfl
      rw [hc]
      obtain ⟨w, z⟩ := I.cell _ _ hc
      exact ⟨rfl, z.lt⟩
  have mem : ∀ {y c}, cenv.cells.lookup y = some c → (X.env.cells.lookup y = some c ∧ c < s.heap.objs.size) ∨ (s.heap.objs.size + 1 ≤ c ∧ CellAt (pushCells (s.heap.push { cls := .type "dict", data := .dict #[] }) scope.names) c none) := fun {y c} e => by
    rw [hcl] at e
    rcases cells_mem (PySem.mem_of_lookup e) with hm | ⟨_, h2, h3⟩
    · exact .inl (cm hm)
    · rw [Heap.size_push] at h2; exact .inr ⟨h2, h3⟩
  have look : ∀ {y}, scope.names.lookup y = some .free → ∃ c, cenv.cells.lookup y = some c ∧ X.env.cells.lookup y = some c := fun {y} hl => by
    have hy : (y, NameKind.free) ∈ scope.names := PySem.mem_of_lookup hl
    obtain ⟨c', e'⟩ := mem_lookup (cells_acc (names := scope.names) (n := (s.heap.push { cls := .type "dict", data := .dict #[] }).objs.size) (cloFrom_has (cells := X.env.cells) (acc := []) hy))
    rw [← hcl] at e'
    refine ⟨c', e', ?_⟩
    rw [hcl] at e'
    rcases cells_mem (PySem.mem_of_lookup e') with hm | ⟨h1, _, _⟩
    · exact (cm hm).1
    · have := ok.uniq _ h1
      rw [hl] at this; cases this
  have okB : (X.blk s H scope cenv fp).Ok := by
    refine ⟨I.ok.mod, by show cenv.scope.kind = _; rw [hsc]; exact ok.kind, by show cenv.globals = _; rw [← hcenv]; exact I.ok.glob, by show cenv.builtins = _; rw [← hcenv]; exact I.ok.blt, by show s.heap.objs.size ≤ cenv.locals; rw [hL]; exact Nat.le_refl _,
      fun y z c e1 e2 => ?_, fun y hy => ?_, fun y c z e => ?_, I.ok.hd, I.ok.frames, .inl rfl, fun b hb => ⟨?_, fun y c e z => ?_⟩, I.bs, Nat.le_trans I.ok.bsz I.sz, fun b o e hb => ?_, fun b hb z => ?_, I.stack, I.stkFree⟩
    · have e1 : cenv.cells.lookup y = some c := e1
      have e2 : cenv.cells.lookup z = some c := e2
      rw [hcl] at e1 e2
      refine cells_inj (fun p hp => ?_) (fun y z c a b => I.ok.inj y z c (cm a).1 (cm b).1) (PySem.mem_of_lookup e1) (PySem.mem_of_lookup e2)
      rw [Heap.size_push]
      exact Nat.lt_succ_of_lt (cm (y := p.1) (c := p.2) hp).2
    · show ∃ c, cenv.cells.lookup y = some c
      have key : ∀ k, cenv.kindOf y = some k → (k = .cell ∨ k = .free) → ∃ c, cenv.cells.lookup y = some c := fun k hk hk' => by
        unfold Env.kindOf at hk
        rw [hsc] at hk
        obtain ⟨k', e, r⟩ := lookup_relS hk
        have : k' = .cell ∨ k' = .free := by
          rcases r with rfl | ⟨rfl, _⟩
          · exact hk'
          · exact .inr rfl
        rcases this with rfl | rfl
        · obtain ⟨c, hm⟩ := cells_has (n := (s.heap.push { cls := .type "dict", data := .dict #[] }).objs.size) (acc := cloFrom X.env.cells scope.names []) (PySem.mem_of_lookup e)
          obtain ⟨c', e'⟩ := mem_lookup hm
          exact ⟨c', by rw [hcl]; exact e'⟩
        · obtain ⟨c, h1, _⟩ := look e
          exact ⟨c, h1⟩
      rcases hy with hy | hy
      · exact key _ hy (.inl rfl)
      · exact key _ hy (.inr rfl)
    · have z : (scope.names.lookup y == some NameKind.cell) = true := z
      have z : scope.names.lookup y = some .cell := by simpa using z
      have e : cenv.cells.lookup y = some c := e
      rw [hcl] at e
      rcases cells_mem (PySem.mem_of_lookup e) with hm | ⟨_, h2, _⟩
      · rcases cloFrom_mem hm with hm | ⟨h1, _⟩
        · cases hm
        · have q := ok.uniq _ h1
          rw [z] at q; cases q
      · rw [Heap.size_push] at h2
        exact Nat.le_of_succ_le h2
    · show b ≠ cenv.locals
      rw [hL]; exact Nat.ne_of_lt (hfp b hb).2
    · have e : cenv.cells.lookup y = some c := e
      rcases mem e with ⟨h1, _⟩ | ⟨h1, _⟩
      · exact (hfp b hb).1.2.2.2.2.1 y c h1 z
      · have h2 : s.heap.objs.size + 1 ≤ b := by rw [← z]; exact h1
        exact absurd (Nat.lt_of_lt_of_le (hfp b hb).2 (Nat.le_of_succ_le h2)) (Nat.lt_irrefl _)
    · rcases (hfp b hb).1.2.2.2.1 with z | z
      · exact I.ok.noex b o e z
      · exact absurd (Nat.lt_of_lt_of_le (Heap.lt_size e) (Nat.le_trans I.ok.bsz z)) (Nat.lt_irrefl _)
    · rcases List.mem_cons.mp (I.stkSub b z) with z | z
      · exact (hfp b hb).1.2.1 z
      · exact (hfp b hb).1.2.2.1 z
  refine ⟨okB, rfl, I.bare, Un.kept kp, ⟨fun _ => none, ?_, fun i y av e1 e2 e3 => ?_⟩, fun y c e => ?_, ?_, fun y c e => ?_, fun p hp => ?_, I.hok.kept kp, by rw [wipe_length]; exact I.len⟩
  · show Heap.Ns _ cenv.locals _
    rw [hL]
    exact Heap.Ns.keeps (Heap.Ns.new ..) fun b o e => pushCells_keeps _ _ _ _ e
  · obtain ⟨e2, hne⟩ := wipe_some e2
    have hfr : scope.names.lookup y = some .free ∧ (cenv.kindOf y = some .cell ∨ cenv.kindOf y = some .free) := by
      have key : ∀ k, cenv.scope.names.lookup y = some k → k = .local ∨ k = .cell ∨ k = .free → scope.names.lookup y = some .free ∧ (cenv.kindOf y = some .cell ∨ cenv.kindOf y = some .free) := fun k hk hk' => by
        have hk0 := hk
        rw [hsc] at hk
        obtain ⟨k', e, r⟩ := lookup_relS hk
        have no : ¬ (k' = .local ∨ k' = .cell) := fun hh => by
          rcases ok.own _ (PySem.mem_of_lookup e) hh with e' | e'
          · obtain ⟨p, hp, hpy⟩ := List.mem_map.mp e'
            have e3 := ok.ix p hp
            have : p.1 = y := hpy
            rw [this] at e3
            exact hne (List.mem_map.mpr ⟨p, hp, nodup_ix hN e3 e1⟩)
          · exact e' (List.mem_of_getElem? e1)
        rcases r with rfl | ⟨rfl, rfl⟩
        · rcases hk' with rfl | rfl | rfl
          · exact absurd (.inl rfl) no
          · exact absurd (.inr rfl) no
          · exact ⟨e, .inr hk0⟩
        · exact ⟨e, .inl hk0⟩
      have e3 : Vis cenv.scope y := e3
      rcases e3 with e3 | e3 | e3
      · exact key _ e3 (.inl rfl)
      · exact key _ e3 (.inr (.inl rfl))
      · exact key _ e3 (.inr (.inr rfl))
    obtain ⟨m, hn, hl⟩ := I.loc
    have hvis : Vis X.env.scope y := (ok.free _ (PySem.mem_of_lookup hfr.1) rfl).elim (fun k => .inr (.inl k)) (fun k => .inr (.inr k))
    obtain ⟨w, r, q⟩ := hl i y av e1 e2 hvis
    refine ⟨w, r, .inr ⟨hfr.2, ?_⟩⟩
    obtain ⟨c, h1, h2⟩ := look hfr.1
    rcases q with ⟨k, _⟩ | ⟨_, c', e', z⟩
    · have k : X.env.scope.names.lookup y = some .local := k
      rcases ok.free _ (PySem.mem_of_lookup hfr.1) rfl with k' | k' <;> rw [show X.env.scope.names.lookup y = _ from k'] at k <;> cases k
    · rw [h2] at e'; cases e'
      exact ⟨c, h1, z.keeps kp⟩
  · have e : cenv.cells.lookup y = some c := e
    rcases mem e with ⟨h1, _⟩ | ⟨_, z⟩
    · obtain ⟨w, z⟩ := I.cell y c h1
      exact ⟨w, z.keeps kp⟩
    · exact ⟨_, z⟩
  · show H cenv.locals = none
    rw [hL]; exact I.hok.fresh (Nat.le_refl _)
  · have e : cenv.cells.lookup y = some c := e
    rcases mem e with ⟨h1, _⟩ | ⟨h1, _⟩
    · exact I.freeC y c h1
    · exact I.hok.fresh (Nat.le_of_succ_le h1)
  · exact absurd (show p ∈ ([] : List (Addr × Obj)) ++ [] from hp) (by simp)

/-- an item appended to a tracked list -/
theorem app_ok {E : Value → Shared → Prop} {D : Addr} {xs : List V} {y : V} {v : Value} {Q : Value → Shared → Prop} (I : Inv X pins σ H s) (hD : H D = some (.lst xs)) (hz : xs.length < sizeLine) (r : RelV y v)
    (h : ∀ s', Inv X pins σ (upd H D (.lst (xs ++ [y]))) s' → Q .none s') : wpAny (model X.prog X.w) X.A (call (.builtin "list.append") [.ref D, v]) Q E s := by
  obtain ⟨hz', its, n, ri, e⟩ := I.hok D _ hD
  have hl := ri.length
  refine append_at (hsz := by rw [List.size_toArray]; omega) e fun h' sb ho' => ?_
  refine h { s with heap := h' } (I.write (t' := s.toks) (by rw [hD]; trivial) (.inl rfl) (fun b u hb q => (sb.2 b hb).trans q) ⟨_, ho'⟩ ⟨by rw [List.length_append]; exact hz, its ++ [v], n + 1, ri.append (.cons r .nil), ?_⟩)
  rw [ho']
  simp

/-- a clause's tests -/
def PTs (X : Cx) (ifs : List Expr) (t : TT) : Prop :=
  ∀ (pins : List (Addr × Obj)) (s : Shared) (σ : St) (H : Hp) (Q : Bool → Hp → Prop), Inv X pins σ H s → t σ H Q →
    wpAny (model X.prog X.w) X.A (forIn ifs true fun c r => if r = true then do let ok ← isTrue c X.env (eval c X.env); pure (ForInStep.yield ok) else pure (ForInStep.yield r)) (TP X pins σ Q) X.xe s
def tYes : TT := fun _ H Q => Q true H
theorem pts_nil : PTs X [] tYes := fun _ _ _ H _ I h => wpAny_tests_nil ⟨H, I, h⟩
theorem pts_one {c : Expr} {t : TT} (h : PT X c t) : PTs X [c] t := fun pins s σ H Q I hw => wpAny_tests_one (h pins s σ H Q I hw)
end

theorem thnF {α : Type} {t : Sem α} {Q Q' : α → Shared → Prop} {M : Model} {A : Around} {E : Value → Shared → Prop} {s : Shared} (h : wpAny M A t Q (fun _ _ => False) s) (hQ : ∀ a s, Q a s → Q' a s) : wpAny M A t Q' E s := wpAny_mono h hQ fun _ _ z => False.elim z

/-- the loop of a list comprehension's block, the target of any form (codeAny_compLoop_tests asks a target that no tuple goes to; statement and proof follow it, PyProof/CompMap.lean:41-61, with the step letOwnedTupleGo kept) -/
theorem compLoop_any {prog : Program} {w : World} {A : Around} {R : Result → Shared → Prop} {s : Shared} {elt target iter : Expr} {ifs : List Expr} {scope : Scope} {pos : Pos} {it acc : Value} {env : Env} (I : Nat → Shared → Prop)
    (turn : ∀ n s, I n s → wpAny (model prog w) A (pyNext it) (fun r s₁ => match r with
      | none => R (.ok .next) s₁
      | some v => wpAny (model prog w) A (letOwnedTupleGo target it v) (fun _ s₁' => wpAny (model prog w) A (assign target env v) (fun _ s₂ =>
          wpAny (model prog w) A (forIn ifs true fun c r => if r = true then do let ok ← isTrue c env (eval c env); pure (ForInStep.yield ok) else pure (ForInStep.yield r)) (fun ok s₃ =>
            if ok = true then wpAny (model prog w) A (eval elt env) (fun x s₄ =>
              wpAny (model prog w) A (call (.builtin "list.append") [acc, x]) (fun _ s₅ => ∃ m, m < n ∧ I m s₅) (notedBy (model prog w) A env fun e s' => R (.error e) s') s₄) (notedBy (model prog w) A env fun e s' => R (.error e) s') s₃
            else ∃ m, m < n ∧ I m s₃) (notedBy (model prog w) A env fun e s' => R (.error e) s') s₂) (notedBy (model prog w) A env fun e s' => R (.error e) s') s₁') (notedBy (model prog w) A env fun e s' => R (.error e) s') s₁) (notedBy (model prog w) A env fun e s' => R (.error e) s') s)
    (n : Nat) (h : I n s) :
    codeAny (model prog w) A (.compLoop (.ListComp elt [⟨target, iter, ifs, 0⟩] scope pos) 0 it acc env) R s := by
  refine codeAny_loop rfl I (fun n s hI => ?_) n h
  show wpAny _ A ((compTurn (.ListComp elt [⟨target, iter, ifs, 0⟩] scope pos) 0 it acc env).onRaise (fun x => do noteFrame x env; theTreesLotGoes x)) _ _ s
  refine wpAny_noted ?_
  rw [compTurn_list]
  refine wpAny_bind (wpAny_standAt (wpAny_bind (wpAny_mono (turn n s hI) (fun r s₁ h₁ => ?_) fun _ _ h' => h')))
  cases r with
  | none => exact wpAny_pure h₁
  | some v =>
    refine wpAny_bind (wpAny_mono h₁ (fun _ s₁' h₁' => ?_) fun _ _ h' => h')
    refine wpAny_bind (wpAny_mono h₁' (fun _ s₂ h₂ => wpAny_bind (wpAny_mono h₂ (fun ok s₃ h₃ => ?_) fun _ _ h' => h')) fun _ _ h' => h')
    cases ok with
    | false => exact wpAny_pure ⟨rfl, h₃⟩
    | true =>
      exact wpAny_bind (wpAny_bind (wpAny_mono h₃ (fun x s₄ h₄ => wpAny_bind (wpAny_mono h₄ (fun _ s₅ h₅ => wpAny_pure (wpAny_pure ⟨rfl, h₅⟩)) fun _ _ h' => h')) fun _ _ h' => h'))

section
variable {X : Cx}
/-- [elt for target in iter if ..]: D the new list; W by the turn and a measure, Nx what a turn is to reach -/
def tLc (wi : TI) (g : TG) (tt : TT) (te : TE) (vs : List Nat) : TE := fun σ H Q => wi σ H fun J H1 => ∀ D, H1 D = none → ∃ W : Nat → Nat → Hp → Prop, (∃ m, W 0 m (upd H1 D (.lst []))) ∧ ∀ i m H, W i m H →
  (J.stop i H ∧ Q (.ref D) H) ∨ (J.go i H ∧ ∃ Nx : Hp → Prop, (∀ H', Nx H' → ∃ m', m' < m ∧ W (i + 1) m' H') ∧ ∀ x H', J.yld i H x H' → g x (wipe σ vs) H' fun σ2 H2 => wipe σ2 vs = wipe σ vs ∧ tt σ2 H2 fun b H3 =>
    if b = true then te σ2 H3 fun y H4 => ∃ acc, H4 D = some (.lst acc) ∧ acc.length < sizeLine ∧ Nx (upd H4 D (.lst (acc ++ [y]))) else Nx H3)
theorem lc_core {pins : List (Addr × Obj)} {s : Shared} {σ : St} {H : Hp} {Q : VK} {elt tg iter : Expr} {ifs : List Expr} {scope : Scope} {own : List (Str × Nat)} {pos pos' : Pos} {wi : TI} {g : TG} {tt : TT} {te : TE} {use : Option (Value → Sem Unit)} {Qf : Value → Shared → Prop}
    (hc : X.calm = true) (hN : X.N.Nodup) (I : Inv X pins σ H s) (hi : PI X tg iter wi) (ok : BlkOk X.N X.env.scope scope own)
    (hg : ∀ (s : Shared) (H : Hp) (C : Addr) (cl : List (Str × Addr)) (fp : List Addr), PG (X.blk s H scope (compEnvC scope cl C X.env) fp) tg g) (ht : ∀ (s : Shared) (H : Hp) (C : Addr) (cl : List (Str × Addr)) (fp : List Addr), PTs (X.blk s H scope (compEnvC scope cl C X.env) fp) ifs tt)
    (he : ∀ (s : Shared) (H : Hp) (C : Addr) (cl : List (Str × Addr)) (fp : List Addr), PE (X.blk s H scope (compEnvC scope cl C X.env) fp) elt te) (hs : ∀ x, foldedSetIterable iter X.env x = pure x)
    (h : tLc wi g tt te (own.map (·.2)) σ H Q)
    (hRR : ∀ D C s' m H', Inv X pins σ H' s' → Q (.ref D) H' → s'.heap.Ns C m → FpOk X pins H' C → compPost (model X.prog X.w) X.A X.xe use Qf (.ref D) C (.ok .next) s') :
    wpAny (model X.prog X.w) X.A (comprehension (.ListComp elt [⟨tg, iter, ifs, 0⟩] scope pos) scope X.env pos' (newList []) false (eval iter X.env) use) Qf X.xe s := by
  have hfree : ∀ y ∈ scope.names, y.2 = .free → ∃ c, X.env.cells.lookup y.1 = some c := fun y hy e => by
    rcases ok.free y hy e with k | k
    · exact I.ok.has _ (.inl k)
    · exact I.ok.has _ (.inr k)
  refine wpAny_comprehension_free (use := use) rfl hs (closure_ok hfree) ok.kind (fun y hy e => by rw [ok.uniq y hy, e])
    (thn (hi pins s σ H _ I h) fun xv s1 hx => thn hx fun itv s2 h2 => ?_)
  obtain ⟨it, fp, tn, J, H2, e, I2, T, st2, f2, q⟩ := h2
  subst e
  refine wpAny_newObj_type (newEnv_comp ?_) (by show 0 ≤ sizeLine; decide)
  generalize hD : s2.heap.objs.size = D
  have hDn : H2 D = none := I2.hok.fresh (Nat.le_of_eq hD)
  obtain ⟨W, ⟨m0, w0⟩, turn⟩ := q D hDn
  -- the new list
  generalize hs3 : ({ s2 with heap := s2.heap.push { cls := .type "list", data := .seq ([] : List Value).toArray } } : Shared) = s3
  have I3 : Inv X pins σ (upd H2 D (.lst [])) s3 := by
    rw [← hs3]
    refine I2.laid (t' := s2.toks) (fun b o e => Heap.get?_push_of_some _ e) (Nat.le_of_eq hD) ⟨Nat.zero_le _, [], 0, .nil, ?_⟩
    rw [← hD]
    exact Heap.get?_push_size _ rfl
  have h3 : s3.heap = s2.heap.push { cls := .type "list", data := .seq ([] : List Value).toArray } := by rw [← hs3]
  have sz : ∀ b ∈ fp, b < s2.heap.objs.size := fun b hb => by
    obtain ⟨o, e, _⟩ := T.obj _ _ st2 b hb
    exact Heap.lt_size e
  have f3 : ∀ b ∈ fp, FpOk X pins (upd H2 D (.lst [])) b ∧ b < s3.heap.objs.size := fun b hb => by
    have hlt := sz b hb
    refine ⟨⟨?_, (f2 b hb).2⟩, by rw [h3, Heap.size_push]; exact Nat.lt_succ_of_lt hlt⟩
    rw [upd_ne (by rw [← hD]; exact Nat.ne_of_lt hlt)]
    exact (f2 b hb).1
  have st3 : tn 0 s3.heap := T.keep _ _ _ st2 fun b _ o e => by rw [h3]; exact Heap.get?_push_of_some _ e
  have I4 := block_start I3 ok hN f3
  have pg := hg s3 (upd H2 D (.lst [])) s3.heap.objs.size (cellsFrom (s3.heap.objs.size + 1) scope.names (cloFrom X.env.cells scope.names [])) fp
  have pt := ht s3 (upd H2 D (.lst [])) s3.heap.objs.size (cellsFrom (s3.heap.objs.size + 1) scope.names (cloFrom X.env.cells scope.names [])) fp
  have pe := he s3 (upd H2 D (.lst [])) s3.heap.objs.size (cellsFrom (s3.heap.objs.size + 1) scope.names (cloFrom X.env.cells scope.names [])) fp
  show codeAny _ _ (.compStart (.ListComp elt [⟨tg, iter, ifs, 0⟩] scope pos) 0 (.ref it) (.ref D) (compEnvC scope (cellsFrom (s3.heap.objs.size + 1) scope.names (cloFrom X.env.cells scope.names [])) s3.heap.objs.size X.env)) (compPost (model X.prog X.w) X.A X.xe use Qf (.ref D) s3.heap.objs.size) { s3 with heap := pushCells (s3.heap.push { cls := .type "dict", data := .dict #[] }) scope.names }
  have nfp : ∀ b ∈ fp, (upd H2 D (.lst [])) b = none := fun b hb => (f3 b hb).1.1
  generalize hce : compEnvC scope (cellsFrom (s3.heap.objs.size + 1) scope.names (cloFrom X.env.cells scope.names [])) s3.heap.objs.size X.env = ce at I4 pg pt pe ⊢
  have cL : ce.locals = s3.heap.objs.size := by subst hce; rfl
  generalize hH3 : upd H2 D (.lst []) = H3 at I3 I4 pg pt pe w0 nfp f3
  generalize hs4 : ({ s3 with heap := pushCells (s3.heap.push { cls := .type "dict", data := .dict #[] }) scope.names } : Shared) = s4 at I4 ⊢
  have st4 : tn 0 s4.heap := T.keep _ _ _ st3 fun b _ o e => by rw [← hs4]; exact pushCells_keeps _ _ _ _ (Heap.get?_push_of_some _ e)
  have stat : ∀ {σ' : St} {H' : Hp} {s' : Shared}, Inv (X.blk s3 H3 scope ce fp) [] σ' H' s' → (∀ b ∈ fp, H' b = none) → ∀ b ∈ fp, FpOk (X.blk s3 H3 scope ce fp) [] H' b := fun {σ' H' s'} I' hn b hb =>
    ⟨hn b hb, (I'.ok.exf b hb).1, I'.ok.exfs b hb, .inl hb, fun x c e => (I'.ok.exf b hb).2 x c e, fun p hp => absurd (show p ∈ ([] : List (Addr × Obj)) ++ [] from hp) (by simp)⟩
  have loop : codeAny (model X.prog X.w) X.A (.compLoop (.ListComp elt [⟨tg, iter, ifs, 0⟩] scope pos) 0 (.ref it) (.ref D) ce) (compPost (model X.prog X.w) X.A X.xe use Qf (.ref D) s3.heap.objs.size) s4 := by
    refine compLoop_any (fun n s' => ∃ i H', Inv (X.blk s3 H3 scope ce fp) [] (wipe σ (own.map (·.2))) H' s' ∧ tn i s'.heap ∧ (∀ b ∈ fp, H' b = none) ∧ W i n H') ?_ m0 ⟨0, H3, I4, st4, nfp, w0⟩
    rintro n s5 ⟨i, H5, I5, st5, n5, w5⟩
    rcases turn i n H5 w5 with ⟨stop, qq⟩ | ⟨go, Nx, hNx, step⟩
    · have td := T.done (X.blk s3 H3 scope ce fp) rfl rfl rfl hc i [] s5 _ H5 (fun _ _ => False) I5 (stat I5 n5) st5 stop
      refine thnF td fun r s6 ⟨hr, I6⟩ => ?_
      subst hr
      -- back in the def's context
      have I7 : Inv X pins σ H5 s6 := I3.call' (ch := fp) I6.os I6.base I6.hok I6.bare fun b hb => ⟨(f3 b hb).1.2.2.2.1, (f3 b hb).1.2.1, (f3 b hb).1.2.2.2.2.1, (f3 b hb).1.2.2.2.2.2⟩
      have nC : H5 s3.heap.objs.size = none := by
        have z : H5 ce.locals = none := I6.free
        rw [cL] at z
        exact z
      obtain ⟨m, hn, _⟩ := I6.loc
      have hn : s6.heap.Ns ce.locals m := hn
      rw [cL] at hn
      exact hRR D s3.heap.objs.size s6 m H5 I7 qq hn (I3.fpOk (Nat.le_refl _) nC)
    · have ti := T.item (X.blk s3 H3 scope ce fp) rfl rfl rfl hc i [] s5 _ H5 (fun _ _ => False) I5 (stat I5 n5) st5 go
      refine thnF ti fun r s6 ⟨u, hr, h6⟩ => ?_
      subst hr
      refine thnF h6 fun _ s7 ⟨x, H7, I7, r7, y7, st7, n7⟩ => ?_
      have I7' := I7.pinned (stat I7 n7) (T.obj _ _ st7)
      refine thnF (pg _ s7 _ H7 x u _ I7' r7 (step x H7 y7)) fun _ s8 ⟨σ8, H8, I8, hw8, q8⟩ => ?_
      refine thnF (pt _ s8 σ8 H8 _ I8 q8) fun b s9 ⟨H9, I9, q9⟩ => ?_
      -- the turn's end
      have fin : ∀ {s' : Shared} {H' : Hp}, Inv (X.blk s3 H3 scope ce fp) ([] ++ pinsAt fp s7.heap) σ8 H' s' → Nx H' → ∃ m, m < n ∧ ∃ i H', Inv (X.blk s3 H3 scope ce fp) [] (wipe σ (own.map (·.2))) H' s' ∧ tn i s'.heap ∧ (∀ b ∈ fp, H' b = none) ∧ W i m H' := fun {s' H'} I' nx => by
        obtain ⟨m', hm, w'⟩ := hNx H' nx
        have pin' : ∀ b ∈ fp, ∀ o, s7.heap.get? b = some o → s'.heap.get? b = some o ∧ H' b = none := fun b hb o e =>
          let z := I'.pin (b, o) (List.mem_append_right _ (List.mem_append_right _ (mem_pinsAt hb e)))
          ⟨z.1, z.2.1⟩
        have hl : (wipe σ (own.map (·.2))).length = σ8.length := by rw [← hw8, wipe_length]
        refine ⟨m', hm, i + 1, H', (I'.unpinned (pins := [])).weak hl (fun j v e => ?_), T.keep _ _ _ st7 fun b hb o e => (pin' b hb o e).1, fun b hb => ?_, w'⟩
        · rw [← hw8] at e
          exact (wipe_some e).1
        · obtain ⟨o, e, _⟩ := T.obj _ _ st7 b hb
          exact (pin' b hb o e).2
      cases b with
      | false =>
        simp only [Bool.false_eq_true, if_false] at q9 ⊢
        exact fin I9 q9
      | true =>
        simp only [if_true] at q9 ⊢
        refine thnF (pe _ s9 σ8 H9 _ I9 q9) fun z s10 ⟨yv, H10, I10, r10, acc, hD10, hz10, nx⟩ => ?_
        exact app_ok (X := X.blk s3 H3 scope ce fp) I10 hD10 hz10 r10 fun s11 I11 => fin I11 nx
  exact codeAny_compStart_list loop (T.self X.A 0 _ _ _ st4 loop)
/-- as a value -/
theorem pe_lc {elt tg iter : Expr} {ifs : List Expr} {scope : Scope} {own : List (Str × Nat)} {pos : Pos} {wi : TI} {g : TG} {tt : TT} {te : TE} (hc : X.calm = true) (hN : X.N.Nodup) (hi : PI X tg iter wi) (ok : BlkOk X.N X.env.scope scope own)
    (hg : ∀ (s : Shared) (H : Hp) (C : Addr) (cl : List (Str × Addr)) (fp : List Addr), PG (X.blk s H scope (compEnvC scope cl C X.env) fp) tg g) (ht : ∀ (s : Shared) (H : Hp) (C : Addr) (cl : List (Str × Addr)) (fp : List Addr), PTs (X.blk s H scope (compEnvC scope cl C X.env) fp) ifs tt)
    (he : ∀ (s : Shared) (H : Hp) (C : Addr) (cl : List (Str × Addr)) (fp : List Addr), PE (X.blk s H scope (compEnvC scope cl C X.env) fp) elt te) (hs : ∀ x, foldedSetIterable iter X.env x = pure x := by intro _; rfl) :
    PE X (.ListComp elt [⟨tg, iter, ifs, 0⟩] scope pos) (tLc wi g tt te (own.map (·.2))) := by
  intro pins s σ H Q I h
  rw [eval_ListComp]
  refine lc_core hc hN I hi ok hg ht he hs h fun D C s' m H' I' q hn f => ⟨m, hn, fun h'' sb => ?_⟩
  obtain ⟨f0, f1, f2, f3, f4, f5⟩ := f
  exact ⟨.ref D, H', I'.turned (t' := s'.toks) (fun b o hb e => (sb.2 b hb).trans e) f0 f1 f3 f4 f5, rfl, q⟩
/-- name = [..] on one line, the name a local -/
theorem ps_setLc {i : Nat} {y : Str} {py : Pos} {elt tg iter : Expr} {ifs : List Expr} {scope : Scope} {own : List (Str × Nat)} {pos spos : Pos} {wi : TI} {g : TG} {tt : TT} {te : TE} (hc : X.calm = true) (hN : X.N.Nodup) (hy : X.N[i]? = some y) (hyl : X.env.scope.names.lookup y = some .local)
    (hsw : swapsWith (.ListComp elt [⟨tg, iter, ifs, 0⟩] scope pos) (some (.Name y py)) spos.line X.env = pure true) (hi : PI X tg iter wi) (ok : BlkOk X.N X.env.scope scope own)
    (hg : ∀ (s : Shared) (H : Hp) (C : Addr) (cl : List (Str × Addr)) (fp : List Addr), PG (X.blk s H scope (compEnvC scope cl C X.env) fp) tg g) (ht : ∀ (s : Shared) (H : Hp) (C : Addr) (cl : List (Str × Addr)) (fp : List Addr), PTs (X.blk s H scope (compEnvC scope cl C X.env) fp) ifs tt)
    (he : ∀ (s : Shared) (H : Hp) (C : Addr) (cl : List (Str × Addr)) (fp : List Addr), PE (X.blk s H scope (compEnvC scope cl C X.env) fp) elt te) (hs : ∀ x, foldedSetIterable iter X.env x = pure x := by intro _; rfl) :
    PS X (.Assign [.Name y py] (.ListComp elt [⟨tg, iter, ifs, 0⟩] scope pos) spos) (tAsg (tLc wi g tt te (own.map (·.2))) (gName i)) := by
  intro pins s σ H D I h
  rw [exec_Assign_Name_used _ _ _ _ hsw]
  refine wpAny_bind (wpAny_standAt (wpAny_bind ?_))
  show wpAny _ X.A (do let _ ← comprehension (.ListComp elt [⟨tg, iter, ifs, 0⟩] scope pos) scope X.env (firstIterPos [⟨tg, iter, ifs, 0⟩] pos) (newList []) false (eval iter X.env) (some (assign (.Name y py) X.env))) _ _ s
  have h : tLc wi g tt te (own.map (·.2)) σ H (fun x H1 => gName i x σ H1 D.nx) := h
  refine wpAny_bind (thn (lc_core (Qf := fun _ s' => SP X pins D .next s') hc hN I hi ok hg ht he hs h fun L C s' m H' I' q hn f => ?_) fun _ s' hq => wpAny_pure (wpAny_pure hq))
  show wpAny _ _ (assign (.Name y py) X.env (.ref L)) _ _ _
  refine wpAny_assign_Name (store_ok2 (v := V.ref L) I' hN hy (.inl hyl) rfl (fun s2 I2 ⟨a, sb, ha⟩ => ?_) (.inr hyl))
  obtain ⟨f0, f1, f2, f3, f4, f5⟩ := f
  have haC : C ≠ a := by
    rcases ha with z | z
    · rw [z]; exact f1
    · exact fun e => f4 y a z e.symm
  refine ⟨m, hn.sameBut sb haC, fun h3 sb3 => ?_⟩
  exact ⟨_, H', I2.turned (t' := s2.toks) (fun b o hb e => (sb3.2 b hb).trans e) f0 f1 f3 f4 f5, q⟩
theorem sw_true {elt : Expr} {gs : List Comprehension} {scope : Scope} {pos py : Pos} {y : Str} {l : Nat} {env : Env} (hk : env.scope.kind = .function) (hy : env.scope.names.lookup y = some .local) (hl : (py.line == pos.line) = true)
    (ha : (scope.names.any fun (n, k) => n == y && (k == .local || k == .cell)) = false) : swapsWith (.ListComp elt gs scope pos) (some (.Name y py)) l env = pure true := by
  have ky : env.kindOf y = some .local := hy
  have hb : env.blockKind = .function := by unfold Env.blockKind; rw [hk]; rfl
  unfold swapsWith
  simp only [hb, ky, ha, Expr.pos, hl]
  rfl
end

/-! ### the forms one uses -/
/-- over a range: Pv by the turn and the heap (the new list at D within) -/
theorem lc_range {lo : Int} {n : Nat} {g : TG} {tt : TT} {te : TE} {vs : List Nat} {σ : St} {H1 : Hp} {D : Addr} {Qd : Hp → Prop} (Pv : Nat → Hp → Prop) (h0 : Pv 0 (upd H1 D (.lst [])))
    (hs : ∀ i H, i < n → Pv i H → g (.int (lo + i)) (wipe σ vs) H fun σ2 H2 => wipe σ2 vs = wipe σ vs ∧ tt σ2 H2 fun b H3 =>
      if b = true then te σ2 H3 fun y H4 => ∃ acc, H4 D = some (.lst acc) ∧ acc.length < sizeLine ∧ Pv (i + 1) (upd H4 D (.lst (acc ++ [y]))) else Pv (i + 1) H3) (hd : ∀ H, Pv n H → Qd H) :
    ∃ W : Nat → Nat → Hp → Prop, (∃ m, W 0 m (upd H1 D (.lst []))) ∧ ∀ i m H, W i m H →
      ((Itr lo n).stop i H ∧ Qd H) ∨ ((Itr lo n).go i H ∧ ∃ Nx : Hp → Prop, (∀ H', Nx H' → ∃ m', m' < m ∧ W (i + 1) m' H') ∧ ∀ x H', (Itr lo n).yld i H x H' → g x (wipe σ vs) H' fun σ2 H2 => wipe σ2 vs = wipe σ vs ∧ tt σ2 H2 fun b H3 =>
        if b = true then te σ2 H3 fun y H4 => ∃ acc, H4 D = some (.lst acc) ∧ acc.length < sizeLine ∧ Nx (upd H4 D (.lst (acc ++ [y]))) else Nx H3) := by
  refine ⟨fun i m H => m = n - i ∧ i ≤ n ∧ Pv i H, ⟨n, by simp, Nat.zero_le _, h0⟩, ?_⟩
  rintro i m H ⟨rfl, hi, p⟩
  by_cases hlt : i < n
  · refine .inr ⟨hlt, Pv (i + 1), fun H' p' => ⟨n - (i + 1), by omega, rfl, hlt, p'⟩, fun x H' y => ?_⟩
    obtain ⟨e, y⟩ := y
    subst e y
    exact hs i _ hlt p
  · have e : i = n := by omega
    subst e
    exact .inl ⟨Nat.le_refl _, hd H p⟩
/-- over a list that the block leaves as it is -/
theorem lc_list {K : PySem.W.Frag} {a : Addr} {xs : List V} {g : TG} {tt : TT} {te : TE} {vs : List Nat} {σ : St} {H1 : Hp} {D : Addr} {Qd : Hp → Prop} (Pv : Nat → Hp → Prop) (h0 : Pv 0 (upd H1 D (.lst []))) (hl : ∀ i H, i ≤ xs.length → Pv i H → SqL K H a xs)
    (hs : ∀ i x H, xs[i]? = some x → Pv i H → g x (wipe σ vs) H fun σ2 H2 => wipe σ2 vs = wipe σ vs ∧ tt σ2 H2 fun b H3 =>
      if b = true then te σ2 H3 fun y H4 => ∃ acc, H4 D = some (.lst acc) ∧ acc.length < sizeLine ∧ Pv (i + 1) (upd H4 D (.lst (acc ++ [y]))) else Pv (i + 1) H3) (hd : ∀ H, Pv xs.length H → Qd H) :
    ∃ W : Nat → Nat → Hp → Prop, (∃ m, W 0 m (upd H1 D (.lst []))) ∧ ∀ i m H, W i m H →
      ((Itl K a).stop i H ∧ Qd H) ∨ ((Itl K a).go i H ∧ ∃ Nx : Hp → Prop, (∀ H', Nx H' → ∃ m', m' < m ∧ W (i + 1) m' H') ∧ ∀ x H', (Itl K a).yld i H x H' → g x (wipe σ vs) H' fun σ2 H2 => wipe σ2 vs = wipe σ vs ∧ tt σ2 H2 fun b H3 =>
        if b = true then te σ2 H3 fun y H4 => ∃ acc, H4 D = some (.lst acc) ∧ acc.length < sizeLine ∧ Nx (upd H4 D (.lst (acc ++ [y]))) else Nx H3) := by
  refine ⟨fun i m H => m = xs.length - i ∧ i ≤ xs.length ∧ Pv i H, ⟨xs.length, by simp, Nat.zero_le _, h0⟩, ?_⟩
  rintro i m H ⟨rfl, hi, p⟩
  have q := hl i H hi p
  by_cases hlt : i < xs.length
  · refine .inr ⟨⟨xs, xs[i], q, by simp [hlt]⟩, Pv (i + 1), fun H' p' => ⟨xs.length - (i + 1), by omega, rfl, hlt, p'⟩, fun x H' y => ?_⟩
    obtain ⟨e, y⟩ := y
    subst e
    exact hs i x _ (y xs q) p
  · have e : i = xs.length := by omega
    subst e
    exact .inl ⟨⟨xs, q, Nat.le_refl _⟩, hd H p⟩
/-- over a tuple -/
theorem lc_tup {K : PySem.W.Frag} {a : Addr} {xs : List V} {g : TG} {tt : TT} {te : TE} {vs : List Nat} {σ : St} {H1 : Hp} {D : Addr} {Qd : Hp → Prop} (Pv : Nat → Hp → Prop) (h0 : Pv 0 (upd H1 D (.lst []))) (hl : ∀ i H, i ≤ xs.length → Pv i H → SqT K H a xs)
    (hs : ∀ i x H, xs[i]? = some x → Pv i H → g x (wipe σ vs) H fun σ2 H2 => wipe σ2 vs = wipe σ vs ∧ tt σ2 H2 fun b H3 =>
      if b = true then te σ2 H3 fun y H4 => ∃ acc, H4 D = some (.lst acc) ∧ acc.length < sizeLine ∧ Pv (i + 1) (upd H4 D (.lst (acc ++ [y]))) else Pv (i + 1) H3) (hd : ∀ H, Pv xs.length H → Qd H) :
    ∃ W : Nat → Nat → Hp → Prop, (∃ m, W 0 m (upd H1 D (.lst []))) ∧ ∀ i m H, W i m H →
      ((Itt K a).stop i H ∧ Qd H) ∨ ((Itt K a).go i H ∧ ∃ Nx : Hp → Prop, (∀ H', Nx H' → ∃ m', m' < m ∧ W (i + 1) m' H') ∧ ∀ x H', (Itt K a).yld i H x H' → g x (wipe σ vs) H' fun σ2 H2 => wipe σ2 vs = wipe σ vs ∧ tt σ2 H2 fun b H3 =>
        if b = true then te σ2 H3 fun y H4 => ∃ acc, H4 D = some (.lst acc) ∧ acc.length < sizeLine ∧ Nx (upd H4 D (.lst (acc ++ [y]))) else Nx H3) := by
  refine ⟨fun i m H => m = xs.length - i ∧ i ≤ xs.length ∧ Pv i H, ⟨xs.length, by simp, Nat.zero_le _, h0⟩, ?_⟩
  rintro i m H ⟨rfl, hi, p⟩
  have q := hl i H hi p
  by_cases hlt : i < xs.length
  · refine .inr ⟨⟨xs, xs[i], q, by simp [hlt]⟩, Pv (i + 1), fun H' p' => ⟨xs.length - (i + 1), by omega, rfl, hlt, p'⟩, fun x H' y => ?_⟩
    obtain ⟨e, y⟩ := y
    subst e
    exact hs i x _ (y xs q) p
  · have e : i = xs.length := by omega
    subst e
    exact .inl ⟨⟨xs, q, Nat.le_refl _⟩, hd H p⟩
def blkC (N : List Str) (sc scope : Scope) (own : List (Str × Nat)) : Bool :=
  (match scope.kind with | .function => true | _ => false) && (scope.names.all fun y => decide (scope.names.lookup y.1 = some y.2)) && (own.all fun p => decide (N[p.2]? = some p.1)) &&
    (scope.names.all fun y => match y.2 with
      | .free => (match sc.names.lookup y.1 with | some .cell => true | some .free => true | _ => false)
      | .local => decide (y.1 ∈ own.map (·.1)) || decide (y.1 ∉ N)
      | .cell => decide (y.1 ∈ own.map (·.1)) || decide (y.1 ∉ N)
      | _ => true)
theorem blkOk_by {N : List Str} {sc scope : Scope} {own : List (Str × Nat)} (h : blkC N sc scope own = true) : BlkOk N sc scope own := by
  unfold blkC at h
  simp only [Bool.and_eq_true, List.all_eq_true, decide_eq_true_eq] at h
  obtain ⟨⟨⟨h1, h2⟩, h3⟩, h4⟩ := h
  refine ⟨?_, h2, h3, fun y hy e => ?_, fun y hy e => ?_⟩
  · split at h1
    · assumption
    · cases h1
  · have q := h4 y hy
    simp only [e] at q
    split at q <;> first | exact .inl (by assumption) | exact .inr (by assumption) | cases q
  · have q := h4 y hy
    rcases e with e | e <;> (simp only [e, Bool.or_eq_true, decide_eq_true_eq] at q; exact q)
end L2

namespace L2
open PySem PySem.Spec PyProof.Rows

section
variable {prog : Program} {w : World} {A : Around} {R : Result → Shared → Prop} {s : Shared} {elt t0 i0 t1 i1 : Expr} {ifs0 ifs1 : List Expr} {scope : Scope} {pos : Pos} {it acc : Value} {env : Env}
end

theorem wipe_out {σ : St} {i : Nat} : ∀ {vs : List Nat}, i ∉ vs → (wipe σ vs)[i]? = σ[i]?
  | [], _ => rfl
  | v :: vs, h => by
    have h1 : v ≠ i := fun e => h (by rw [e]; exact List.mem_cons_self)
    have h2 : i ∉ vs := fun m => h (List.mem_cons_of_mem _ m)
    unfold wipe
    rw [List.getElem?_set_ne h1]
    exact wipe_out h2
section
variable {X : Cx}
end
end L2

namespace L2
open PySem PySem.Spec PyProof.Rows

/-! ### lists of pairs as tables -/
section
variable {κ : Type} [DecidableEq κ]
def valV (kvs : List (κ × V)) (k : κ) : Option V := (kvs.find? fun kv => decide (kv.1 = k)).map (·.2)
/-- in its place, or at the end -/
def putK (kvs : List (κ × V)) (k : κ) (v : V) : List (κ × V) :=
  if (kvs.any fun kv => decide (kv.1 = k)) = true then kvs.map (fun kv => if kv.1 = k then (kv.1, v) else kv) else kvs ++ [(k, v)]
def dropK (kvs : List (κ × V)) (k : κ) : List (κ × V) := kvs.filter fun kv => decide (kv.1 ≠ k)

theorem valV_pos {p : κ × V} {r : List (κ × V)} {k : κ} (e : p.1 = k) : valV (p :: r) k = some p.2 := by simp [valV, List.find?_cons, e]
theorem valV_neg {p : κ × V} {r : List (κ × V)} {k : κ} (e : ¬ p.1 = k) : valV (p :: r) k = valV r k := by simp [valV, List.find?_cons, e]
theorem valV_any (k : κ) : ∀ kvs : List (κ × V), (kvs.any fun kv => decide (kv.1 = k)) = (valV kvs k).isSome
  | [] => rfl
  | p :: r => by
    rw [List.any_cons]
    by_cases e : p.1 = k
    · simp only [valV_pos e, decide_eq_true e, Bool.true_or, Option.isSome_some]
    · rw [valV_neg e, decide_eq_false e, Bool.false_or]; exact valV_any k r
theorem valV_map (k j : κ) (y : V) : ∀ kvs : List (κ × V), valV (kvs.map fun kv => if kv.1 = k then (kv.1, y) else kv) j = (valV kvs j).map fun x => if j = k then y else x
  | [] => rfl
  | p :: r => by
    have ih := valV_map k j y r
    rw [List.map_cons]
    by_cases h : p.1 = k
    · rw [if_pos h]
      by_cases e : p.1 = j
      · rw [valV_pos (p := (p.1, y)) e, valV_pos e, Option.map_some, if_pos (e.symm.trans h)]
      · rw [valV_neg (p := (p.1, y)) e, valV_neg e, ih]
    · rw [if_neg h]
      by_cases e : p.1 = j
      · rw [valV_pos (p := p) e, valV_pos e, Option.map_some, if_neg (fun z => h (e.trans z))]
      · rw [valV_neg (p := p) e, valV_neg e, ih]
theorem valV_snoc (k j : κ) (y : V) : ∀ kvs : List (κ × V), valV kvs k = none → valV (kvs ++ [(k, y)]) j = if j = k then some y else valV kvs j
  | [], _ => by
    by_cases e : k = j
    · rw [if_pos e.symm]; exact valV_pos (p := (k, y)) e
    · rw [if_neg (fun z => e z.symm)]; exact valV_neg (p := (k, y)) e
  | p :: r, hn => by
    rw [List.cons_append]
    have hk : ¬ p.1 = k := fun z => by rw [valV_pos z] at hn; cases hn
    rw [valV_neg hk] at hn
    have ih := valV_snoc k j y r hn
    by_cases e : p.1 = j
    · rw [valV_pos e, valV_pos e, if_neg (fun z => hk (e.trans z))]
    · rw [valV_neg e, valV_neg e, ih]
theorem valV_put (kvs : List (κ × V)) (k j : κ) (y : V) : valV (putK kvs k y) j = if j = k then some y else valV kvs j := by
  unfold putK
  by_cases a : (kvs.any fun kv => decide (kv.1 = k)) = true
  · rw [if_pos a, valV_map]
    rw [valV_any] at a
    by_cases e : j = k
    · obtain ⟨x, hx⟩ := Option.isSome_iff_exists.mp a
      rw [if_pos e, e, hx, Option.map_some, if_pos rfl]
    · rw [if_neg e]
      cases valV kvs j with
      | none => rfl
      | some x => rw [Option.map_some, if_neg e]
  · rw [if_neg a]
    refine valV_snoc k j y kvs ?_
    rw [valV_any] at a
    cases q : valV kvs k with
    | none => rfl
    | some x => rw [q] at a; exact (a rfl).elim
theorem length_putK (kvs : List (κ × V)) (k : κ) (v : V) : (putK kvs k v).length ≤ kvs.length + 1 := by
  unfold putK
  split
  · rw [List.length_map]; omega
  · rw [List.length_append, List.length_cons, List.length_nil]; omega
theorem RelO.isSome_eq {o : Option V} {u : Option Value} (r : RelO o u) : o.isSome = u.isSome := by
  cases o with
  | none => cases u with
    | none => rfl
    | some _ => exact (show False from r).elim
  | some _ => cases u with
    | none => exact (show False from r).elim
    | some _ => rfl
theorem RelO.getD {o : Option V} {u : Option Value} {d : V} {d' : Value} (r : RelO o u) (rd : RelV d d') : RelV (o.getD d) (u.getD d') := by
  cases o with
  | none => cases u with
    | none => exact rd
    | some _ => exact (show False from r).elim
  | some _ => cases u with
    | none => exact (show False from r).elim
    | some _ => exact r

/-- raw tables of the same keys -/
theorem KV.val {kvs : List (κ × V)} {vs : List (κ × Value)} (r : KV kvs vs) (k : κ) : RelO (valV kvs k) (valueAt vs k) := by
  unfold KV at r
  induction r with
  | nil => exact True.intro
  | @cons p q ps qs h t ih =>
    obtain ⟨h1, h2⟩ := h
    by_cases e : p.1 = k
    · have e' : q.1 = k := h1.symm.trans e
      have b : valueAt (q :: qs) k = some q.2 := by simp [valueAt, List.find?_cons, e']
      rw [valV_pos e, b]; exact h2
    · have e' : ¬ q.1 = k := fun z => e (h1.trans z)
      have b : valueAt (q :: qs) k = valueAt qs k := by simp [valueAt, List.find?_cons, e']
      rw [valV_neg e, b]; exact ih
theorem KV.any {kvs : List (κ × V)} {vs : List (κ × Value)} (r : KV kvs vs) (k : κ) : (kvs.any fun kv => decide (kv.1 = k)) = vs.any fun kv => decide (kv.1 = k) := by
  unfold KV at r
  induction r with
  | nil => rfl
  | cons h t ih => rw [List.any_cons, List.any_cons, ih, h.1]
theorem KV.repl {kvs : List (κ × V)} {vs : List (κ × Value)} (r : KV kvs vs) (k : κ) {y : V} {u : Value} (ry : RelV y u) :
    KV (kvs.map fun kv => if kv.1 = k then (kv.1, y) else kv) (vs.map fun kv => if kv.1 = k then (kv.1, u) else kv) := by
  unfold KV at r ⊢
  induction r with
  | nil => exact .nil
  | @cons p q ps qs h t ih =>
    rw [List.map_cons, List.map_cons]
    refine .cons ?_ ih
    obtain ⟨h1, h2⟩ := h
    by_cases e : p.1 = k
    · rw [if_pos e, if_pos (h1.symm.trans e)]; exact ⟨h1, ry⟩
    · rw [if_neg e, if_neg (fun z => e (h1.trans z))]; exact ⟨h1, h2⟩
theorem KV.put {kvs : List (κ × V)} {vs : List (κ × Value)} (r : KV kvs vs) (k : κ) {y : V} {u : Value} (ry : RelV y u) : KV (putK kvs k y) (stored vs k u) := by
  unfold putK stored
  rw [r.any k]
  by_cases e : (vs.any fun kv => decide (kv.1 = k)) = true
  · rw [if_pos e, if_pos e]; exact r.repl k ry
  · rw [if_neg e, if_neg e]; exact Paired.snoc r ⟨rfl, ry⟩
theorem KV.drop {kvs : List (κ × V)} {vs : List (κ × Value)} (r : KV kvs vs) (k : κ) : KV (dropK kvs k) (without vs k) := by
  unfold KV at r ⊢
  unfold dropK without
  induction r with
  | nil => exact .nil
  | @cons p q ps qs h t ih =>
    obtain ⟨h1, h2⟩ := h
    rw [List.filter_cons, List.filter_cons]
    by_cases e : p.1 = k
    · have a : ¬ decide (p.1 ≠ k) = true := by simp [e]
      have b : ¬ decide (q.1 ≠ k) = true := by simp [h1.symm.trans e]
      rw [if_neg a, if_neg b]; exact ih
    · have e' : ¬ q.1 = k := fun z => e (h1.trans z)
      have a : decide (p.1 ≠ k) = true := by simp [e]
      have b : decide (q.1 ≠ k) = true := by simp [e']
      rw [if_pos a, if_pos b]; exact .cons ⟨h1, h2⟩ ih
theorem KV.keys {kvs : List (κ × V)} {vs : List (κ × Value)} (r : KV kvs vs) : kvs.map (·.1) = vs.map (·.1) := by
  unfold KV at r
  induction r with
  | nil => rfl
  | cons h t ih => rw [List.map_cons, List.map_cons, ih, h.1]
theorem KV.length {kvs : List (κ × V)} {vs : List (κ × Value)} (r : KV kvs vs) : kvs.length = vs.length := Paired.length r
end


/-! ### a tracked dict, its keys ints and texts or tuples of these -/
theorem kV_is {P : Program} {w : World} {k : Key} {u : Value} (r : RelV (kV k) u) : (mixKind P w).is k u = true := by
  cases k with
  | inl i => obtain ⟨t, e⟩ := (show ∃ t, u = Value.int i t from r); subst e; exact mixKind_int P w i t
  | inr x => obtain ⟨t, e⟩ := (show ∃ t, u = Value.str x t from r); subst e; exact mixKind_str P w x t
theorem items_are {P : Program} {w : World} : ∀ {ks : List Key} {us : List Value}, Vals (ks.map kV) us → ItemsAre (mixKind P w) ks us
  | [], _, r => by rw [List.map_nil] at r; cases r; exact .nil
  | k :: ks, _, r => by
    rw [List.map_cons] at r
    cases r with
    | cons h t => exact .cons (kV_is h) (items_are t)

/-- raw entries of a dict with tuple keys -/
abbrev KT (H : Hp) : List (List Key × V) → List (List Key × Addr × Value) → Prop := Paired fun p q => p.1 = q.1 ∧ H q.2.1 = some (.tup (p.1.map kV)) ∧ RelV p.2 q.2.2
theorem KT.val {H : Hp} {kvs : List (List Key × V)} {xs : List (List Key × Addr × Value)} (r : KT H kvs xs) (k : List Key) : RelO (valV kvs k) ((atKey xs k).map (·.2)) := by
  induction r with
  | nil => exact True.intro
  | @cons p q ps qs h t ih =>
    obtain ⟨h1, _, h2⟩ := h
    by_cases e : p.1 = k
    · have e' : q.1 = k := h1.symm.trans e
      have b : atKey (q :: qs) k = some q.2 := by simp [atKey, List.find?_cons, e']
      rw [valV_pos e, b]; exact h2
    · have e' : ¬ q.1 = k := fun z => e (h1.trans z)
      have b : atKey (q :: qs) k = atKey qs k := by simp [atKey, List.find?_cons, e']
      rw [valV_neg e, b]; exact ih
theorem KT.repl {H : Hp} {kvs : List (List Key × V)} {xs : List (List Key × Addr × Value)} (r : KT H kvs xs) (k : List Key) {y : V} {u : Value} (ry : RelV y u) :
    KT H (kvs.map fun kv => if kv.1 = k then (kv.1, y) else kv) (xs.map (putAt k u)) := by
  induction r with
  | nil => exact .nil
  | @cons p q ps qs h t ih =>
    rw [List.map_cons, List.map_cons]
    refine .cons ?_ ih
    obtain ⟨h1, h2, h3⟩ := h
    unfold putAt
    by_cases e : p.1 = k
    · rw [if_pos e, if_pos (h1.symm.trans e)]; exact ⟨h1, h2, ry⟩
    · rw [if_neg e, if_neg (fun z => e (h1.trans z))]; exact ⟨h1, h2, h3⟩
theorem KT.put {H : Hp} {kvs : List (List Key × V)} {xs : List (List Key × Addr × Value)} (r : KT H kvs xs) (k : List Key) {b : Addr} {y : V} {u : Value} (hb : H b = some (.tup (k.map kV))) (ry : RelV y u) :
    KT H (putK kvs k y) (storedH xs k b u) := by
  have e : (kvs.any fun kv => decide (kv.1 = k)) = (atKey xs k).isSome := by
    rw [valV_any, (r.val k).isSome_eq, Option.isSome_map]
  unfold putK storedH
  rw [e]
  by_cases q : (atKey xs k).isSome = true
  · rw [if_pos q, if_pos q]; exact r.repl k ry
  · rw [if_neg q, if_neg q]; exact Paired.snoc r ⟨rfl, hb, ry⟩
theorem KT.keeps {H H' : Hp} {kvs : List (List Key × V)} {xs : List (List Key × Addr × Value)} (r : KT H kvs xs) (ht : ∀ b ys, H b = some (.tup ys) → H' b = some (.tup ys)) : KT H' kvs xs :=
  Paired.mapP r fun _ _ z => ⟨z.1, ht _ _ z.2.1, z.2.2⟩

section
variable {P : Program} {w : World} {H : Hp} {h : Heap} {a : Addr}
theorem rd_of {u : HO} (ok : HOk P w H h) (e : Rd H a u) : ObjOk P w H h a u := e.ok ok
theorem dk_rd {kvs : List (Key × V)} (ok : HOk P w H h) (e : Rd H a (.dK kvs)) : kvs.length ≤ sizeLine ∧ (a == sysModules) = false ∧ ∃ vs, KV kvs vs ∧ h.DictOf (mixKind P w) a vs :=
  show ObjOk P w H h a (.dK kvs) from rd_of ok e
theorem dk_of {kvs : List (Key × V)} (ok : HOk P w H h) (e : H a = some (.dK kvs)) : kvs.length ≤ sizeLine ∧ (a == sysModules) = false ∧ ∃ vs, KV kvs vs ∧ h.DictOf (mixKind P w) a vs := dk_rd ok (.inl e)
/-- a tracked tuple of ints and texts is a key -/
theorem key_of {ks : List Key} (ok : HOk P w H h) (e : H a = some (.tup (ks.map kV))) : (tupleKind (mixKind P w)).is h ks a := by
  obtain ⟨_, its, r, o, h1, h2, n, h3⟩ := (show ObjOk P w H h a (.tup (ks.map kV)) from ok a _ e)
  exact ⟨o, its.toArray, n, h1, h2, h3, by simpa using items_are r⟩
theorem dt_rd {kvs : List (List Key × V)} (ok : HOk P w H h) (e : Rd H a (.dT kvs)) : kvs.length ≤ sizeLine ∧ (a == sysModules) = false ∧
    ∃ xs, KT H kvs xs ∧ h.DictOfH (tupleKind (mixKind P w)) a xs := by
  obtain ⟨z, y, xs, r, o, es, ep, h1, h2, h3, h4, h5⟩ := (show ObjOk P w H h a (.dT kvs) from rd_of ok e)
  refine ⟨z, y, xs, r, o, es, ep, h1, h2, h3, h4, fun x hx => ?_, h5⟩
  have all : ∀ {l : List (List Key × V)} {m : List (List Key × Addr × Value)}, KT H l m → ∀ x ∈ m, (tupleKind (mixKind P w)).is h x.1 x.2.1 := by
    intro l m q
    induction q with
    | nil => intro x hx; exact nomatch hx
    | @cons p q ps qs hq t ih =>
      intro x hx
      rcases List.mem_cons.mp hx with e | hx
      · subst e
        exact key_of ok (by rw [← hq.1]; exact hq.2.1)
      · exact ih x hx
  exact all r x hx
theorem dt_of {kvs : List (List Key × V)} (ok : HOk P w H h) (e : H a = some (.dT kvs)) : kvs.length ≤ sizeLine ∧ (a == sysModules) = false ∧
    ∃ xs, KT H kvs xs ∧ h.DictOfH (tupleKind (mixKind P w)) a xs := dt_rd ok (.inl e)
end

/-- what the dict at a holds at the key y -/
def DGet (H : Hp) (a : Addr) (y : V) (r : Option V) : Prop :=
  (∃ kvs k, Rd H a (.dK kvs) ∧ y = kV k ∧ r = valV kvs k) ∨ ∃ kvs k b, Rd H a (.dT kvs) ∧ y = .ref b ∧ H b = some (.tup (k.map kV)) ∧ r = valV kvs k
/-- the heap behind a[y] = v -/
def DPut (H : Hp) (a : Addr) (y v : V) (H' : Hp) : Prop :=
  (∃ kvs k, H a = some (.dK kvs) ∧ y = kV k ∧ kvs.length < sizeLine ∧ H' = upd H a (.dK (putK kvs k v))) ∨
  ∃ kvs k b, H a = some (.dT kvs) ∧ y = .ref b ∧ H b = some (.tup (k.map kV)) ∧ kvs.length < sizeLine ∧ H' = upd H a (.dT (putK kvs k v))
theorem DGet.k {H : Hp} {a : Addr} {kvs : List (Key × V)} {k : Key} (e : H a = some (.dK kvs)) : DGet H a (kV k) (valV kvs k) := .inl ⟨kvs, k, .inl e, rfl, rfl⟩
theorem DGet.t {H : Hp} {a b : Addr} {kvs : List (List Key × V)} {k : List Key} (e : H a = some (.dT kvs)) (eb : H b = some (.tup (k.map kV))) : DGet H a (.ref b) (valV kvs k) := .inr ⟨kvs, k, b, .inl e, rfl, eb, rfl⟩
theorem DPut.k {H : Hp} {a : Addr} {kvs : List (Key × V)} {k : Key} {v : V} (e : H a = some (.dK kvs)) (hl : kvs.length < sizeLine) : DPut H a (kV k) v (upd H a (.dK (putK kvs k v))) := .inl ⟨kvs, k, e, rfl, hl, rfl⟩
theorem DPut.t {H : Hp} {a b : Addr} {kvs : List (List Key × V)} {k : List Key} {v : V} (e : H a = some (.dT kvs)) (eb : H b = some (.tup (k.map kV))) (hl : kvs.length < sizeLine) :
    DPut H a (.ref b) v (upd H a (.dT (putK kvs k v))) := .inr ⟨kvs, k, b, e, rfl, eb, hl, rfl⟩


section
variable {X : Cx} {pins : List (Addr × Obj)} {σ : St} {H : Hp} {s : Shared} {a : Addr} {y v : V} {u r : Value} {o : Option V} {A : Around} {E : Value → Shared → Prop}

theorem Inv.big (I : Inv X pins σ H s) : sysModules < s.heap.objs.size := by
  have h : mainGlobals < s.heap.objs.size := (I.mod.glob.keeps I.bk).lt
  exact Nat.lt_trans (by decide) h

/-- d[y], there -/
theorem d_getItem {Q : Value → Shared → Prop} (hu : A.units + 1 < cLine) (I : Inv X pins σ H s) (g : DGet H a y (some v)) (ry : RelV y u) (h : ∀ w' s', Inv X pins σ H s' → RelV v w' → Q w' s') :
    wpAny (model X.prog X.w) A (getItem (.ref a) u) Q E s := by
  rcases g with ⟨kvs, k, e, ey, l⟩ | ⟨kvs, k, b, e, ey, eb, l⟩
  · subst ey
    obtain ⟨z, hd, vs, rel, dd⟩ := dk_rd I.hok e
    obtain ⟨w', hw, rw'⟩ := RelO.some_of (v := v) (o := valueAt vs k) (by rw [l]; exact rel.val k)
    exact wpAny_getItem_of (kV_is ry) dd.mapOf hw (h w' _ (I.tok _) rw')
  · subst ey
    cases (show u = Value.ref b from ry)
    obtain ⟨z, hd, xs, rel, dd⟩ := dt_rd I.hok e
    obtain ⟨w', hw, rw'⟩ := RelO.some_of (v := v) (o := (atKey xs k).map (·.2)) (by rw [l]; exact rel.val k)
    obtain ⟨p, hp, hp2⟩ := Option.map_eq_some_iff.mp hw
    refine wpAny_getItem_heap (tupleKind_room_in1 hu) (key_of I.hok eb) dd hp ?_
    rw [hp2]
    exact h w' _ (I.tok _) rw'
/-- a dict's object is replaced -/
theorem d_write {h' : Heap} {t' : Nat} {ob : HO} (I : Inv X pins σ H s) (mu : Mut (H a)) (hs : Heap.SameBut a s.heap h') (he : ∃ q, h'.get? a = some q) (new : ObjOk X.prog X.w (upd H a ob) h' a ob) :
    Inv X pins σ (upd H a ob) { s with heap := h', toks := t' } :=
  I.write (x := a) (e := a) mu (.inl rfl) (fun b q hb z => (hs.2 b hb).trans z) he new
theorem dk_new {P : Program} {w : World} {H' : Hp} {h' : Heap} {kvs : List (Key × V)} {vs : List (Key × Value)} (z : kvs.length ≤ sizeLine) (hd : (a == sysModules) = false) (rel : KV kvs vs) (dd : h'.DictOf (mixKind P w) a vs) :
    ObjOk P w H' h' a (.dK kvs) := ⟨z, hd, vs, rel, dd⟩
end

section
variable {X : Cx} {pins : List (Addr × Obj)} {σ : St} {H : Hp} {s : Shared} {a : Addr} {kvs : List (Key × V)} {k : Key} {u : Value} {A : Around} {E : Value → Shared → Prop}
/-- len(d) -/
theorem d_len {Q : Value → Shared → Prop} (I : Inv X pins σ H s) (e : Rd H a (.dK kvs)) (h : ∀ t s', Inv X pins σ H s' → Q (.int kvs.length t) s') : wpAny (model X.prog X.w) A (call (.builtin "len") [.ref a]) Q E s := by
  obtain ⟨z, hd, vs, rel, dd⟩ := dk_rd I.hok e
  refine call_len_dict hd dd (by rw [← rel.length]; rw [sizeLine_eq] at z; omega) ?_
  rw [← rel.length]
  exact h _ _ (I.tok _)
end


/-! ### readings and rules -/
/-- the element of a subscription, not a slice -/
def NoSl (i : Expr) : Prop := ∀ ov iv, subscripted i false ov iv = operate [ov, iv] (getItem ov iv)
theorem subD_of {prog : Program} {w : World} {A : Around} {E : Value → Shared → Prop} {s : Shared} {env : Env} {value slice : Expr} {pos : Pos} {T id : String} {Q : Value → Shared → Prop}
    (hl : typeLookup (.type T) "__getitem__" = pure (some (.builtin id))) (hs : NoSl slice)
    (h : wpAny (model prog w) A (eval value env) (fun o s₁ => wpAny (model prog w) A (eval slice env) (fun i s₂ => s₂.TypeIs o T ∧ wpAny (model prog w) A (getItem o i) Q E s₂) E s₁) E s) :
    wpAny (model prog w) A (eval (.Subscript value slice pos) env) Q E s := by
  refine Subscript_ (wpAny_mono h (fun o s₁ h₁ => wpAny_mono h₁ (fun i s₂ h₂ => ?_) fun _ _ x => x) fun _ _ x => x)
  obtain ⟨hT, h₂⟩ := h₂
  unfold subscriptTail
  refine wpAny_bind ?_
  rw [getitemInPython_of_ne hT.not_modules]
  refine wpAny_bind (wpAny_specialOf hT hl ?_)
  have fin : wpAny (model prog w) A (subscripted slice false o i) (fun r s₃ => wpAny (model prog w) A (letTemporaryGo value o r >>= fun _ => pure r) Q E s₃) E s₂ := by
    rw [hs o i]
    exact wpAny_operating (wpAny_mono h₂ (fun r s₃ h₃ => wpAny_bind (wpAny_letTemporaryGo (wpAny_pure h₃))) fun _ _ x => x)
  first
    | exact wpAny_pure (wpAny_bind fin)
    | exact wpAny_bind (wpAny_pure (wpAny_bind fin))
    | exact wpAny_bind fin

theorem dict_typeIs {X : Cx} {pins : List (Addr × Obj)} {σ : St} {H : Hp} {s : Shared} {a : Addr} {y : V} {o : Option V} (I : Inv X pins σ H s) (g : DGet H a y o) : s.TypeIs (.ref a) "dict" := by
  rcases g with ⟨kvs, k, e, _, _⟩ | ⟨kvs, k, b, e, _, _, _⟩
  · obtain ⟨_, _, vs, _, dd⟩ := dk_rd I.hok e
    exact dd.typeIs
  · obtain ⟨_, _, xs, _, dd⟩ := dt_rd I.hok e
    exact dd.typeIs
/-- d[y] -/
def tDGet (td ty : TE) : TE := fun σ H Q => td σ H fun x H1 => ty σ H1 fun y H2 => ∃ a v, x = .ref a ∧ DGet H2 a y (some v) ∧ Q v H2
section
variable {X : Cx} {o i e value : Expr} {pos pos' tpos : Pos} {td ty tv : TE}
theorem pe_dget (hu : X.A.units + 1 < cLine) (ho : PE X o td) (hi : PE X i ty) (hs : NoSl i) : PE X (.Subscript o i pos) (tDGet td ty) := by
  intro pins s σ H Q I h
  refine subD_of PySem.F.slot_dict_getitem.lookup hs (thn (ho pins s σ H _ I h) fun u s1 ⟨x, H1, I1, rx, q1⟩ => thn (hi pins s1 σ H1 _ I1 q1) fun iv s2 ⟨y, H2, I2, ry, a, v, ex, g, q2⟩ => ?_)
  subst ex
  obtain rfl : u = Value.ref a := rx
  exact ⟨dict_typeIs I2 g, d_getItem hu I2 g ry fun w' s3 I3 rw' => ⟨v, H2, I3, rw', q2⟩⟩
end


/-! ### displays -/
theorem dk_empty {P : Program} {w : World} {H : Hp} (h : Heap) (hb : sysModules < h.objs.size) : ObjOk P w H (h.push { cls := .type "dict", data := .dict #[] }) h.objs.size (.dK []) :=
  ⟨Nat.zero_le _, beq_eq_false_iff_ne.mpr (Ne.symm (Nat.ne_of_lt hb)), [], .nil, Heap.DictOf.new h⟩
section
variable {X : Cx} {pos : Pos}
end

/-! ### methods -/
/-- a method call o.m(e) of a built-in, with one argument: what must be seen of the text -/
structure M1 (X : Cx) (o : Expr) (m : Str) (apos : Pos) (e : Expr) (cpos : Pos) : Prop where
  base : attributeBase o m X.env (eval o X.env) = eval o X.env
  few : ((backTo cpos (starEach [e] X.env)).all (fun x => !x.1) && (backToKw cpos (keywordEach [] X.env)).all (fun x => x.1.isSome)
    && decide (([e] : List Expr).length + ([] : List Keyword).length + (if ([] : List Keyword).isEmpty then 0 else 1) < 30)) = true
  line : (apos.endLine == cpos.line) = true
  trees : backTo cpos (starEach [e] X.env) = [(false, eval e X.env)]
structure M2 (X : Cx) (o : Expr) (m : Str) (apos : Pos) (e f : Expr) (cpos : Pos) : Prop where
  base : attributeBase o m X.env (eval o X.env) = eval o X.env
  few : ((backTo cpos (starEach [e, f] X.env)).all (fun x => !x.1) && (backToKw cpos (keywordEach [] X.env)).all (fun x => x.1.isSome)
    && decide (([e, f] : List Expr).length + ([] : List Keyword).length + (if ([] : List Keyword).isEmpty then 0 else 1) < 30)) = true
  line : (apos.endLine == cpos.line) = true
  trees : backTo cpos (starEach [e, f] X.env) = [(false, eval e X.env), (false, eval f X.env)]

section
variable {X : Cx} {pins : List (Addr × Obj)} {σ : St} {H : Hp} {s : Shared} {a : Addr} {y d : V} {u r : Value} {o : Option V} {A : Around} {E : Value → Shared → Prop}
end

section
variable {X : Cx} {o e f : Expr} {apos cpos : Pos} {td ty tx : TE}
end

/-! ### dict(d): a copy -/
section
variable {X : Cx} {pins : List (Addr × Obj)} {σ : St} {H : Hp} {s : Shared} {a : Addr} {kvs : List (Key × V)} {A : Around} {E : Value → Shared → Prop}
end


section
variable {X : Cx} {pins : List (Addr × Obj)} {σ : St} {H : Hp} {s : Shared} {a : Addr} {y : V} {u : Value} {A : Around} {E : Value → Shared → Prop}
end
end L2

namespace L2
open PySem PySem.Spec PyProof.Rows

section
variable {prog : Program} {w : World} {A : Around} {E : Value → Shared → Prop}
end

section
variable {X : Cx}
end
end L2

namespace L2
open PySem PySem.Spec PyProof.Rows

section
variable {X : Cx} {pins : List (Addr × Obj)} {σ : St} {H : Hp} {s : Shared} {h' : Heap}
/-- .. and one new object is laid -/
theorem Inv.turnedNew {t' : Nat} {ch : List Addr} {T : Addr} {ob : HO} (I : Inv X pins σ H s) (k : ∀ b o, b ∉ ch → s.heap.get? b = some o → h'.get? b = some o) (hf : ∀ b ∈ ch, FpOk X pins H b) (hT : s.heap.objs.size ≤ T)
    (new : ObjOk X.prog X.w (upd H T ob) h' T ob) : Inv X pins σ (upd H T ob) { s with heap := h', toks := t' } := by
  have hn : H T = none := I.hok.fresh hT
  have nit : ∀ b u, H b = some u → b ∉ ch := fun b u e z => by
    have q := (hf b z).1
    rw [q] at e; cases e
  refine I.step (g' := s.gens) (d' := s.drawn) (ch := ch) (fun b hb => ⟨(hf b hb).2.2.2.1, (hf b hb).2.1, (hf b hb).2.2.2.2.1, (hf b hb).2.2.2.2.2⟩) (fun b o _ _ hc e _ => k b o hc e) (fun b o _ _ hc e _ => ⟨o.slots, k b o hc e⟩)
    (fun b o _ e n => ?_) (fun b o hc e => ⟨o, k b o hc e⟩) (fun b xs e => ?_) (fun b o u e => ?_) (fun b ps e => ⟨#[], ?_⟩) (fun m hm => ?_) (fun b u e => ?_) I.bare
  · rw [upd_ne (Nat.ne_of_lt (Nat.lt_of_lt_of_le (Heap.lt_size e) hT))]; exact n
  · rw [upd_ne (ne_of_none e hn)]; exact e
  · rw [upd_ne (ne_of_none e hn)]; exact e
  · rw [upd_ne (ne_of_none e hn), e]; simp
  · obtain ⟨o, es, ep, ho, r⟩ := hm
    exact ⟨o, es, ep, k _ o (fun z => (hf _ z).2.1 rfl) ho, r⟩
  · by_cases hb : b = T
    · subst hb
      rw [upd_same] at e
      cases e
      exact new
    · rw [upd_ne hb] at e
      refine (I.hok b u e).stay (fun c v hc q => k c v ?_ q) (fun c q => by rw [upd_ne (ne_of_none q hn)]; exact q) fun c xs q => by rw [upd_ne (ne_of_none q hn)]; exact q
      rcases hc with z | z
      · rw [z]; exact nit b u e
      · exact nit c _ z

/-! ### locking a thing while a statement runs -/
end
section
variable {X : Cx}
/-! ### one iterator just laid -/
theorem pi_one {tg : Expr} {pins : List (Addr × Obj)} {σ : St} {H : Hp} {s : Shared} {R : It → Hp → Prop} {J : It} {tn : Nat → Heap → Prop} {tk : Nat} (I : Inv X pins σ H s) (o : Obj)
    (T : Turn X.prog X.w X.K tg J [s.heap.objs.size] s.heap.objs.size tn) (st : tn 0 (s.heap.push o)) (q : R J H) : PIE X pins σ tg R (.ref s.heap.objs.size) { s with heap := s.heap.push o, toks := tk } := by
  refine ⟨s.heap.objs.size, [s.heap.objs.size], tn, J, H, rfl, I.kept fun b ob e => Heap.get?_push_of_some _ e, T, st, fun b hb => ?_, q⟩
  have e : b = s.heap.objs.size := by simpa using hb
  subst e
  exact I.fpOk (Nat.le_refl _) (I.hok.fresh (Nat.le_refl _))
end

/-! ### range with a step -/
/-- range(i, j, c): small bounds, n items -/
def RgC (i j c : Int) (n : Nat) : Prop := c ≠ 0 ∧ c.natAbs < 1073741824 ∧ Builtin.Range.small i j c = true ∧ Builtin.Range.rangeSize i j c = n
theorem RgC.neg {i j : Int} (ha : -(2 ^ 62) ≤ i) (ha' : i < 2 ^ 62) (hb : -(2 ^ 62) ≤ j) (hb' : j < 2 ^ 62) : RgC i j (-1) (i - j).toNat :=
  ⟨by decide, by decide, PySem.W.small_down ha ha' hb hb', PySem.W.rangeSize_downNat i j⟩
section
variable {X : Cx} {tg : Expr}
end
/-! ### reversed(list) -/
section
variable {X : Cx} {tg : Expr}
end

/-! ### a str -/
def Its (x : Str) : It := ⟨fun i _ => i < x.cps.size, fun i H v H' => H' = H ∧ ∃ c, x.cps[i]? = some c ∧ v = .str ⟨#[c]⟩, fun i _ => x.cps.size ≤ i⟩
theorem turn_str {P : Program} {w : World} {K : PySem.W.Frag} {tg : Expr} (it : Addr) (x : Str) (t : Tok) (ty : String) (hty : ty = "str_ascii_iterator" ∨ ty = "str_iterator") :
    Turn P w K tg (Its x) [it] it (fun i h => h.IsStrIter it ty x t i) where
  mem := by simp
  obj := fun i h st b hb => by
    have e : b = it := by simpa using hb
    subst e
    obtain ⟨o, e, c, d⟩ := st
    exact ⟨o, e, fun v z => by rw [d] at z; cases z⟩
  keep := fun i h h' st k => let ⟨o, ho, r⟩ := st; ⟨o, k it (by simp) o ho, r⟩
  item := by
    intro X hP hw hK hc i pins s σ H E I hf st hg
    subst hP hw hK
    obtain ⟨f0, f1, f2, f3, f4, f5⟩ := hf it (by simp)
    have W : Walks X.prog X.w X.A it [it] [it] x.cps.size (SignAt x) (fun i h => h.IsStrIter it ty x t i) := by
      rcases hty with e | e
      · rw [e]; exact Walks.strAscii (I.ok.hd hc) it x t
      · rw [e]; exact Walks.strWide (I.ok.hd hc) it x t
    have hno : ["enumerate", "zip", "dict_itemiterator", "dict_reverseitemiterator", "odict_iterator", "itertools.zip_longest", "itertools.pairwise"].contains ty = false := by
      rcases hty with e | e
      · rw [e]; decide
      · rw [e]; decide
    refine W.item i s _ _ hg st fun v h' tk hv st' kk => ?_
    obtain ⟨c, u, hcx, rfl⟩ := hv
    have I1 : Inv X pins σ H { s with heap := h', toks := tk } := I.turned (fun b o hb e => kk b o (by simpa using hb) e) f0 f1 f3 f4 f5
    obtain ⟨oi, e, cc, dd⟩ := id st'
    exact ⟨_, rfl, go_of (s := { s with heap := h', toks := tk }) e cc dd hno ⟨.str ⟨#[c]⟩, H, I1, ⟨u, rfl⟩, ⟨rfl, c, hcx, rfl⟩, st', fun b hb => (hf b hb).1⟩⟩
  done := by
    intro X hP hw hK hc i pins s σ H E I hf st hg
    subst hP hw hK
    obtain ⟨f0, f1, f2, f3, f4, f5⟩ := hf it (by simp)
    have hx : x.cps[i]? = none := Array.getElem?_eq_none hg
    rcases hty with e | e
    · rw [e] at st
      exact wpAny_pyNext_ascii_end (I.ok.hd hc) st hx fun h' eb => ⟨rfl, I.turned (t' := s.toks) (fun b o hb e => eb b o hb e) f0 f1 f3 f4 f5⟩
    · rw [e] at st
      exact wpAny_pyNext_wide_end (I.ok.hd hc) st hx fun h' eb => ⟨rfl, I.turned (t' := s.toks) (fun b o hb e => eb b o hb e) f0 f1 f3 f4 f5⟩
  self := fun A i s Q E st h => by
    rcases hty with e | e
    · rw [e] at st; exact wpAny_pyIter_striter_ascii st h
    · rw [e] at st; exact wpAny_pyIter_striter_wide st h
def iStr (te : TE) : TI := fun σ H R => te σ H fun v H1 => ∃ x, v = .str x ∧ R (Its x) H1
theorem pi_str {X : Cx} {tg e : Expr} {te : TE} (he : PE X e te) : PI X tg e (iStr te) := by
  intro pins s σ H R I h
  refine thn (he pins s σ H _ I h) fun v s1 ⟨y, H1, I1, r1, x, ex, q⟩ => ?_
  subst ex
  obtain ⟨t, rfl⟩ := r1
  cases ha : x.cps.all (· < 128)
  · exact wpAny_pyIter_wide ha (pi_one (tk := s1.toks) I1 _ (turn_str _ x t "str_iterator" (.inr rfl)) ⟨_, Heap.get?_push_size _ rfl, rfl, rfl⟩ q)
  · exact wpAny_pyIter_ascii ha (pi_one (tk := s1.toks) I1 _ (turn_str _ x t "str_ascii_iterator" (.inl rfl)) ⟨_, Heap.get?_push_size _ rfl, rfl, rfl⟩ q)

/-! ### a dict's keys: any dict's entries -/
section
variable {prog : Program} {w : World} {A : Around} {E : Value → Shared → Prop} {s : Shared}
end

/-! ### a locked dict -/
theorem paired_get {α β : Type} {G : α → β → Prop} {l₁ : List α} {l₂ : List β} (h : Paired G l₁ l₂) : ∀ {i : Nat} {a : α}, l₁[i]? = some a → ∃ b, l₂[i]? = some b ∧ G a b := by
  induction h with
  | nil => intro i a e; simp at e
  | @cons a b l₁ l₂ r t ih =>
    intro i a' e
    cases i with
    | zero =>
      simp only [List.getElem?_cons_zero, Option.some.injEq] at e
      subst e
      exact ⟨b, rfl, r⟩
    | succ j =>
      simp only [List.getElem?_cons_succ] at e ⊢
      exact ih e
section
variable {X : Cx} {pins : List (Addr × Obj)} {σ : St} {H : Hp} {s : Shared} {d : Addr} {o : Obj}
end

section
variable {P : Program} {w : World} {K : PySem.W.Frag} {tg : Expr} {d : Addr} {o : Obj} {es : Array DictEntry} {ep : Nat}
end

/-! ### for k in d, d.keys(), d.values(), d.items() -/
section
variable {X : Cx} {tg e : Expr} {td : TE} {apos cpos : Pos}
end

/-! ### enumerate(list) -/
/-! ### zip(list, list) -/
end L2

section 
namespace Bits
open PySem PyProof.Rows

end Bits
end 

section 
namespace TL
open PySem PySem.Builtin PySem.Builtin.Str PySem.StrLaws

abbrev tl (x : Str) : List Nat := x.cps.toList
theorem len_tl (x : Str) : x.length = (tl x).length := by simp [tl, Str.length]
/-! ### the list functions -/
/-- S stands at the head of l -/
def pre (S l : List Nat) : Bool := l.take S.length == S
/-- l cut at each S from the left; k signs are still to be passed over -/
def spl (S : List Nat) : Nat → List Nat → List Nat → List (List Nat)
  | _, acc, [] => [acc]
  | 0, acc, c :: r => if pre S (c :: r) = true then acc :: spl S (S.length - 1) [] r else spl S 0 (acc ++ [c]) r
  | k + 1, acc, _ :: r => spl S k acc r
/-- what stands before the first S, and behind it -/
def par (S : List Nat) : List Nat → List Nat → Option (List Nat × List Nat)
  | _, [] => none
  | acc, c :: r => if pre S (c :: r) = true then some (acc, (c :: r).drop S.length) else par S (acc ++ [c]) r

/-! ### the model's split and partition are these -/
/-! ### computing spl and par -/
/-! ### digits -/
/-! ### words: x.split() -/
end TL
end 

namespace L2
open PySem PySem.Spec PyProof.Rows

theorem strs_of_vals : ∀ {ys : List Str} {us : List Value}, Vals (ys.map V.str) us → StrsAre us ys
  | [], _, .nil => .nil
  | y :: ys, _, .cons r t => by
    obtain ⟨k, rfl⟩ := r
    exact .cons y k (strs_of_vals t)

section
variable {X : Cx} {pins : List (Addr × Obj)} {σ : St} {H : Hp} {s : Shared} {Q : VK}
end

section
variable {X : Cx}

/-- sep.join(a list | a tuple of texts) -/
theorem mt_join : MtR X "str.join" (fun x xs H Q => ∃ a p, ∃ ys : List Str, x = .str a ∧ xs = [.ref p] ∧ (SqL X.K H p (ys.map V.str) ∨ SqT X.K H p (ys.map V.str)) ∧
    (ys.map (·.length)).sum + ys.length * a.length ≤ 16777216 ∧ Q (.str (Txt.join a ys)) H) := by
  intro pins s σ H x xs v us Q I rx rs h
  obtain ⟨a, p, ys, rfl, rfl, hp, hz, h⟩ := h
  obtain ⟨t, rfl⟩ := rx
  cases rs with
  | cons r1 rs =>
    cases rs
    cases r1
    rcases hp with hp | hp
    · obtain ⟨its, r, ⟨o, n, ho, hc, _, hd⟩, _⟩ := I.list hp
      exact PyProof.Rows.join_list (items := its.toArray) ⟨o, ho, hc, n, hd⟩ (by rw [List.toList_toArray]; exact strs_of_vals r) hz fun t' k => ⟨.str _, H, I.tok k, ⟨t', rfl⟩, h⟩
    · obtain ⟨its, r, ht, _⟩ := I.tuple hp
      exact PyProof.Rows.join_tuple (items := its.toArray) ht (by rw [List.toList_toArray]; exact strs_of_vals r) hz fun t' k => ⟨.str _, H, I.tok k, ⟨t', rfl⟩, h⟩

/-! ### of a text alone -/
/-! ### of a text and a text -/
end

section
variable {X : Cx} {o e : Expr} {to te : TE}
def tM1 (r : V → List V → Hp → VK → Prop) (to te : TE) : TE := fun σ H Q => to σ H fun x H1 => (∃ a, x = .str a) ∧ te σ H1 fun y H2 => r x [y] H2 Q
theorem pe_m1 {id : String} {name : Str} {apos pos : Pos} {r : V → List V → Hp → VK → Prop} (slot : Slot "str" name id) (ty : typeOf (.builtin id) = pure (.type "method_descriptor")) (rule : MtR X id r) (ho : PE X o to) (he : PE X e te)
    (hs : starEach [e] X.env = [(false, eval e X.env)] := by rfl) (hbase : attributeBase o name X.env (eval o X.env) = eval o X.env := by rfl) (hline : (apos.endLine == pos.line) = true := by rfl) :
    PE X (.Call (.Attribute o name apos) [e] [] pos) (tM1 r to te) := by
  intro pins s σ H Q I h
  refine PySem.Call_method1 hbase hs hline (thn (ho pins s σ H _ I h) fun v s1 ⟨x, H1, I1, r1, q1⟩ => ?_)
  obtain ⟨⟨a, rfl⟩, q1⟩ := q1
  obtain ⟨t, rfl⟩ := _root_.id r1
  refine ⟨"str", _, F.plainAttrs_str, slot, ty, typeIs_str _ _ _, (fun _ e => nomatch e), Calls.callWith_builtin rfl (Calls.evalArgs_plain (Calls.spliced_cons ?_))⟩
  exact thn (he pins s1 σ H1 _ I1 q1) fun u s2 ⟨y, H2, I2, r2, q2⟩ => Calls.spliced_nil (rule pins s2 σ H2 _ [y] _ [u] Q I2 r1 (.cons r2 .nil) q2)

theorem pe_join {apos pos : Pos} (ho : PE X o to) (he : PE X e te) (hs : starEach [e] X.env = [(false, eval e X.env)] := by rfl) (hbase : attributeBase o "join" X.env (eval o X.env) = eval o X.env := by rfl) (hline : (apos.endLine == pos.line) = true := by rfl) :
    PE X (.Call (.Attribute o "join" apos) [e] [] pos) (tM1 (fun x xs H Q => ∃ a p, ∃ ys : List Str, x = .str a ∧ xs = [.ref p] ∧ (SqL X.K H p (ys.map V.str) ∨ SqT X.K H p (ys.map V.str)) ∧
      (ys.map (·.length)).sum + ys.length * a.length ≤ 16777216 ∧ Q (.str (Txt.join a ys)) H) to te) :=
  pe_m1 F.slot_str_join F.type_str_join mt_join ho he hs hbase hline
end
end L2

namespace L2
open PySem PySem.Spec PyProof.Rows

section
variable {X : Cx}
/-- one sign in a text -/
theorem op_in_sign : OpR X (compareOp .In) (fun x y H Q => ∃ (c : Nat) (z : Str), x = .str ⟨#[c]⟩ ∧ y = .str z ∧ Q (.bl (decide (c ∈ z.cps.toList))) H) := by
  intro pins s σ H x y v u Q I rx ry h
  obtain ⟨c, z, rfl, rfl, q⟩ := h
  obtain ⟨t, rfl⟩ := rx
  obtain ⟨t', rfl⟩ := ry
  exact PyProof.Rows.in_str (fin_bl I q (PySem.StrLaws.found_one z c).symm)
end

/-! ### slices of a text -/
theorem IsPart.raw {v : Value} {o : Option Int} (p : IsPart v o) : ∃ l : Option (Int × Tok), v = partValue l ∧ l.map (·.1) = o := by
  cases p with
  | none => exact ⟨none, rfl, rfl⟩
  | int i t => exact ⟨some (i, t), rfl, rfl⟩

/-- a part, clipped, as the text's slice reckons it -/
def clipS (n d : Nat) : Option Int → Int
  | none => (d : Int)
  | some i => max 0 (min (if i < 0 then i + (n : Int) else i) (n : Int))
theorem clipS_eq (n d : Nat) (o : Option Int) : clipS n d o = ((HT.sIx n d o : Nat) : Int) := by
  cases o with
  | none => rfl
  | some v =>
    show max (0 : Int) (min (if v < 0 then v + (n : Int) else v) (n : Int)) = (((if v < 0 then (v + (n : Int)).toNat else min v.toNat n) : Nat) : Int)
    by_cases hv : v < 0
    · simp only [if_pos hv]
      omega
    · simp only [if_neg hv]
      omega
theorem sidx_clip (a b : Option Int) (n : Nat) : Builtin.Str.strSliceIndices a b 1 n = sliceRange (clipS n 0 a) (clipS n n b) 1 := by
  have h1 : ((1 : Int) > 0) = True := by simp
  cases a <;> cases b <;> first
    | rfl
    | (simp only [Builtin.Str.strSliceIndices, clipS, h1, if_true]; rfl)
    | simp [Builtin.Str.strSliceIndices, clipS]
theorem sidx (a b : Option Int) (n : Nat) : Builtin.Str.strSliceIndices a b 1 n = (List.range (HT.sIx n n b - HT.sIx n 0 a)).map (fun k => HT.sIx n 0 a + k) := by
  rw [sidx_clip, clipS_eq, clipS_eq]
  generalize HT.sIx n 0 a = p
  generalize HT.sIx n n b = q
  simp only [sliceRange, show ((1 : Int) > 0) = True from by simp, if_true]
  by_cases hlt : (p : Int) < q
  · have e3 : (((q : Int) - p + 1 - 1) / 1).toNat = q - p := by first | omega | (simp; done) | (simp; omega)
    simp only [hlt, if_true, e3]
    refine List.map_congr_left fun k _ => ?_
    omega
  · have : q - p = 0 := by omega
    simp [hlt, this]

/-- z[lo:hi] -/
def cutS (z : Str) (lo hi : Option Int) : Str :=
  ⟨((z.cps.toList.drop (HT.sIx z.length 0 lo)).take (HT.sIx z.length z.length hi - HT.sIx z.length 0 lo)).toArray⟩
theorem sliceText_cut (z : Str) (lo hi : Option Int) : PySem.StrLaws.sliceText z lo hi = cutS z lo hi := by
  have h1 : HT.sIx z.length 0 lo ≤ z.length := HT.sIx_le _ _ (Nat.zero_le _) _
  have h2 : HT.sIx z.length z.length hi ≤ z.length := HT.sIx_le _ _ (Nat.le_refl _) _
  have hp : HT.sIx z.length 0 lo ≤ max (HT.sIx z.length 0 lo) (HT.sIx z.length z.length hi) := Nat.le_max_left _ _
  have hq : max (HT.sIx z.length 0 lo) (HT.sIx z.length z.length hi) ≤ z.length := Nat.max_le.mpr ⟨h1, h2⟩
  have hd : max (HT.sIx z.length 0 lo) (HT.sIx z.length z.length hi) - HT.sIx z.length 0 lo = HT.sIx z.length z.length hi - HT.sIx z.length 0 lo := by omega
  have e : Builtin.Str.strSliceIndices lo hi 1 z.length =
      Builtin.Str.strSliceIndices (some ((HT.sIx z.length 0 lo : Nat) : Int)) (some ((max (HT.sIx z.length 0 lo) (HT.sIx z.length z.length hi) : Nat) : Int)) 1 z.length := by
    rw [PySem.StrLaws.strSliceIndices_plain hp hq, hd, sidx]
  have e2 : PySem.StrLaws.sliceText z lo hi =
      PySem.StrLaws.sliceText z (some ((HT.sIx z.length 0 lo : Nat) : Int)) (some ((max (HT.sIx z.length 0 lo) (HT.sIx z.length z.length hi) : Nat) : Int)) := by
    unfold PySem.StrLaws.sliceText
    rw [e]
  rw [e2, PySem.StrLaws.sliceText_nat z hp hq, hd]
  rfl
theorem cutS_length (z : Str) (lo hi : Option Int) : (cutS z lo hi).length ≤ z.length := by
  show (((z.cps.toList.drop (HT.sIx z.length 0 lo)).take (HT.sIx z.length z.length hi - HT.sIx z.length 0 lo)).toArray).size ≤ z.cps.size
  rw [List.size_toArray, List.length_take, List.length_drop, Array.length_toList]
  omega
def rSlS : V → Option Int → Option Int → Hp → VK → Prop := fun x lo hi H Q => ∃ z, x = .str z ∧ z.length ≤ sizeLine ∧ Q (.str (cutS z lo hi)) H
theorem sl_str {X : Cx} : SlR X rSlS := by
  intro pins s σ H x v vl vu lo hi sl Q I rx hs pl pu h
  obtain ⟨z, rfl, hz, q⟩ := h
  obtain ⟨t, rfl⟩ := rx
  obtain ⟨os, hos, hcs, hds⟩ := hs
  obtain ⟨l, rfl, rfl⟩ := IsPart.raw pl
  obtain ⟨u, rfl, rfl⟩ := IsPart.raw pu
  refine ⟨"str", _, F.slot_str_getitem.lookup, typeIs_str _ _ _, ?_⟩
  refine wpAny_getItem_str_slice (l := l) (u := u) (st := none) ⟨os, hos, hcs, hds⟩ rfl ?_
  have hl : (PySem.StrLaws.sliceText z (l.map (·.1)) (u.map (·.1))).length ≤ sizeLine := by
    rw [sliceText_cut]
    exact Nat.le_trans (cutS_length z _ _) hz
  rw [← sliceText_cut] at q
  unfold PySem.StrLaws.sliceText at q hl
  show Made.post (if ((1 : Int) == 1 && (Builtin.Str.strSliceIndices (l.map (·.1)) (u.map (·.1)) 1 z.length).length == z.length) = true then Made.val (.str z t)
    else Made.str ⟨((Builtin.Str.strSliceIndices (l.map (·.1)) (u.map (·.1)) 1 z.length).filterMap (z.cps[·]?)).toArray⟩) (EP X pins σ Q) s
  by_cases c : ((1 : Int) == 1 && (Builtin.Str.strSliceIndices (l.map (·.1)) (u.map (·.1)) 1 z.length).length == z.length) = true
  · rw [if_pos c] at q ⊢
    exact ⟨.str z, H, I, ⟨t, rfl⟩, q⟩
  · rw [if_neg c] at q hl ⊢
    exact ⟨hl, .str _, H, I.tok _, ⟨_, rfl⟩, q⟩
end L2

namespace Att
open PySem PySem.W PySem.Calls PyProof.Rows

/-! ### the script -/
theorem ints_of_wellAll {P : Params} {h : Heap} : ∀ (ns : List Int) (vs : List Value), WellAll P h vs (ns.map WData.int) → IntsAre vs ns := by
  intro ns
  induction ns with
  | nil =>
    intro vs w
    rw [List.map_nil] at w
    cases w
    exact .nil
  | cons n ns ih =>
    intro vs w
    rw [List.map_cons] at w
    cases w with
    | cons a b =>
      cases a
      exact .cons _ _ (ih _ b)

theorem script_of {l : OpenLaw} {n : Nat} (hn : l.most = some n) {P : Params} {h : Heap} {args : List WData} {vals : List Value}
    (hpre : l.row.toRowW.claim.pre args = true) (hwl : WellAll P h vals args) :
    ∃ a vs ns, vals = [Value.ref a] ∧ args = [WData.list (ns.map WData.int)] ∧ h.get? a = some { cls := .type "list", data := .seq vs.toArray } ∧ IntsAre vs ns ∧ ns.length ≤ n := by
  have hsh : WShape.hasAll [] args [.list .int] = true := (pre_splitW hpre).1
  have hc : l.pre.holds [] { args := args } = true := (pre_splitW hpre).2
  obtain ⟨d, r, rfl, h1, h2⟩ := hasAllW_cons hsh
  obtain rfl := hasAllW_nil h2
  obtain ⟨xs, rfl, h3⟩ := hasW_list h1
  obtain ⟨ns, rfl⟩ := items_int h3
  have hlen : ns.length ≤ n := by
    unfold OpenLaw.pre at hc
    have h4 : (WTm.not (.lt (.lit (.int (n : Int))) (.len (.arg 0)))).holds [] { args := [.list (ns.map .int)] } = true := by
      have h4 := (holds_andW hc).1
      rw [hn] at h4
      exact h4
    have h5 := condW_of h4 (w_not (w_lt w_lit (w_len_list (w_arg rfl))))
    rw [List.length_map] at h5
    refine Nat.le_of_not_lt fun q => ?_
    have q' : (n : Int) < ((ns.length : Nat) : Int) := by omega
    first
      | (rw [decide_eq_true q'] at h5; exact absurd h5 (by decide))
      | (simp at h5; omega)
  cases hwl with
  | cons w1 w2 =>
    cases w2
    cases w1 with
    | list ho hall => exact ⟨_, _, ns, rfl, rfl, ho, ints_of_wellAll ns _ hall, hlen⟩

theorem post_true (l : OpenLaw) (args : List WData) : l.row.toRowW.claim.post args (.bool true) args = true :=
  postW_of (r := l.row.toRowW) (X := (true == true))
    (show WShape.has [] (.bool true) .bool = true by first | rfl | decide | simp [WShape.has, WShape.arms, WShape.armsAll])
    (show (WTm.eq .res (.lit (.bool true))).value [] { args := args, res := some (.bool true), after := args } = some (.bool (true == true)) from w_eq_bool (w_res rfl) w_lit) rfl

/-! ### the attachment: holds_open's last premise (the goal 'hc' behind k_head) from a wpAny of the law's body -/
/-- the same from a codeAny of the CALL (for a layer whose function contracts speak of calls) -/
theorem attach_call {l : OpenLaw} {n : Nat} {q : Program} {loose : List Str} {XP : (Str → Option Value) → Heap → Prop} {YP : World → Heap → Prop} {d : DefRec}
    (hn : l.most = some n) (hdf : d.params.defaults = [])
    (call : ∀ (w : World) (s₀ s₁ : Shared) (mg mb : Str → Option Value) (fa : Addr) (o : Obj) (pm cd doc : Value) (a : Addr) (vs : List Value) (ns : List Int),
      Ground q loose [] XP w s₀ mg mb s₁.heap → YP w s₁.heap →
      s₁.heap.get? fa = some o → o.data = .func (docDef d.name d.params d.body d.scope pm cd doc) → s₁.heap.CodeRec cd d.name → mg d.name = some (.ref fa) →
      s₁.heap.get? a = some { cls := .type "list", data := .seq vs.toArray } → IntsAre vs ns → ns.length ≤ n → s₁.gens = #[] →
      codeAny (model l.prog w) callerA (.call (.ref fa) ⟨[.ref a], []⟩) (fun r s' => r = .ok (.ret (.bool true)) ∧ OldK s₁.heap s'.heap ∧ s'.os = s₁.os ∧ AllBare s'.gens) s₁) :
    WalkO q loose XP YP l.row.toRowW d [] (fun f vs => PySem.call f vs) := by
  intro w s₀ s₁ mg mb G Y fa o pm cd doc dV kV ho hd hcd hD hmg hg args vals as hpre hlay hrd hwl hlo
  obtain rfl : dV = .none := Dflts.none hD hdf
  obtain rfl : kV = .none := Dflts.noKw hD
  obtain ⟨a, vs, ns, rfl, rfl, hobj, hints, hlen⟩ := script_of hn hpre hwl
  refine enter_call (codeAny_mono (call w s₀ s₁ mg mb fa o pm cd doc a vs ns G Y ho (fd_plain hd) hcd hmg hobj hints hlen hg) fun r s' hq => ?_)
  obtain ⟨rfl, h2, h3, h4⟩ := hq
  exact ⟨.inl ⟨.bool true, .bool true, [], rfl, fun _ => rfl, .bool true, post_true l _, fun _ => ⟨List.Pairwise.nil, fun _ hm => (nomatch hm)⟩⟩, h2, h3, h4⟩

/-! ### rules over ANY heap (no ledger) from facts about the written part K: the library's own take a ledger (News) for what they write -/
section
variable {prog : Program} {w : World} {A : Around} {E : Value → Shared → Prop} {s : Shared} {K : Frag}

/-! the whole heap as the ledger: makes every rule that writes through a ledger a rule over any heap -/
def ledger (h : Heap) (L d : Addr) : List (Addr × Obj) := (List.range h.objs.size).filterMap fun a => if a = L ∨ a = d then none else (h.get? a).map fun o => (a, o)
end
end Att

namespace L2
open PySem PySem.Spec PyProof.Rows

theorem vals_ints : ∀ {vs : List Value} {ns : List Int}, IntsAre vs ns → Vals (ns.map V.int) vs
  | _, _, .nil => .nil
  | _, _, .cons n t h => .cons ⟨t, rfl⟩ (vals_ints h)

/-- nothing is tracked but the script, known to the object (or it is an object of the module) -/
def Only (H : Hp) : Prop := ∀ b, H b = none ∨ ∃ o xs, H b = some (.frz o (.lst xs))

/-- THE HEAD: the law's promise, at the heap behind the top. F, the promise of the law's def, may use that base is part of the heap (so K.In base, base.Ns mainGlobals mg stand in Mod) -/
theorem law_call {P : Program} {w : World} {K : PySem.W.Frag} {mg mb : Str → Option Value} {CX : CXT} {k : Nat} {fa a : Addr} {fd : FuncData} {x : Str} {sp : Sp} {s₁ : Shared} {vs : List Value} {ns : List Int}
    (KX : K.In s₁.heap) (hns : s₁.heap.Ns mainGlobals mg) (hb : s₁.heap.Ns builtinsNs mb) (hbb : ∀ x : Str, x ≠ "__name__" → mb x = bootBuiltins x) (hlim : s₁.heap.NoLimit) (hg : s₁.gens = #[])
    (ha : s₁.heap.get? a = some { cls := .type "list", data := .seq vs.toArray }) (hi : IntsAre vs ns) (hl : ns.length ≤ sizeLine) (hr : Room k callerA)
    (F : ∀ base : Heap, K.In base → base.Ns mainGlobals mg → FnOk P w K mg base CX k fa fd [x] sp) (hbind : ∀ (s : Shared) (u : Value), BindsTo s fd ⟨[u], []⟩ [(x, u)])
    (hsp : ∀ H : Hp, Only H → SqL K H a (ns.map V.int) → sp [.ref a] H (fun v _ => v = .bl true) fun _ _ _ => False)
    (hCX : ∀ H e s', CX [] H s₁ (fun _ _ _ => False) e s' → False) :
    codeAny (model P w) callerA (.call (.ref fa) ⟨[.ref a], []⟩) (fun r s' => r = .ok (.ret (.bool true)) ∧ OldK s₁.heap s'.heap ∧ s'.os = s₁.os ∧ AllBare s'.gens) s₁ := by
  have rv := vals_ints hi
  have lenV := hi.length
  -- from an abstract heap in which nothing but the script may be tracked
  have core : ∀ H : Hp, Only H → SqL K H a (ns.map V.int) → HOk P w H s₁.heap → (∀ b, H b ≠ none → b = a) → (H a ≠ none → K.lookup a = none) →
      codeAny (model P w) callerA (.call (.ref fa) ⟨[.ref a], []⟩) (fun r s' => r = .ok (.ret (.bool true)) ∧ OldK s₁.heap s'.heap ∧ s'.os = s₁.os ∧ AllBare s'.gens) s₁ := by
    intro H hO hS hok hA hK
    have base_of : ∀ {b : Addr} {o : Obj}, s₁.heap.get? b = some o → H b = none → (hidT s₁.heap H).get? b = some o := fun e n => hidT_get e n
    have noA : ∀ {b : Addr} {o : Obj} {es : Array DictEntry} {ep : Nat}, s₁.heap.get? b = some o → o.data = .dict es ep → H b = none := fun {b o es ep} e d => by
      cases q : H b with
      | none => rfl
      | some u =>
        have e' : b = a := hA b (by rw [q]; simp)
        subst e'
        rw [ha] at e; cases e
        have d' : Data.seq vs.toArray _ = Data.dict es ep := d
        cases d'
    have nsK : ∀ {b : Addr} {m : Str → Option Value}, s₁.heap.Ns b m → (hidT s₁.heap H).Ns b m := fun {b m} ⟨o, es, ep, e, d, r⟩ => ⟨o, es, ep, base_of e (noA e d), d, r⟩
    have hKb : K.In (hidT s₁.heap H) := fun b o e => base_of (KX b o e) (by
      cases q : H b with
      | none => rfl
      | some u =>
        have e' : b = a := hA b (by rw [q]; simp)
        subst e'
        rw [hK (by rw [q]; simp)] at e; cases e)
    have hM : Mod K mg (hidT s₁.heap H) := ⟨hKb, nsK hns, ⟨mb, nsK hb, hbb⟩, let ⟨mc, h1, h2⟩ := hlim; ⟨mc, nsK h1, h2⟩⟩
    have e0 : Env0 P w K mg (hidT s₁.heap H) callerA [] s₁ H := ⟨rfl, hM, fun b o e => of_hidT e, Nat.le_of_eq (hidT_size _ _), trivial, fun b hb => absurd (show b ∈ ([] : List Addr) from hb) (by simp), hok, .of_eq hg⟩
    refine codeAny_mono ((F _ hKb (nsK hns)).run callerA [] s₁ H ⟨[.ref a], []⟩ [.ref a] [.ref a] _ _ hr e0 (hbind s₁ (.ref a)) (.cons rfl .nil) (hsp H hO hS)) fun r s' h => ?_
    cases r with
    | error e => exact (hCX H e s' h).elim
    | ok fl =>
      cases fl with
      | next => exact False.elim h
      | brk => exact False.elim h
      | cont => exact False.elim h
      | ret u =>
        obtain ⟨v, H', os, bare, un, hok', r', q⟩ := h
        have q' : v = .bl true := q
        subst q'
        obtain rfl : u = Value.bool true := r'
        refine ⟨rfl, OldK.of_keep fun b o e => ?_, os, bare⟩
        cases q : H b with
        | none => exact un.keep b o e q (by intro z; exact absurd (show b ∈ ([] : List Addr) from z) (by simp)) (by simp)
        | some u =>
          rcases hO b with z | ⟨ob, xs, z⟩
          · rw [q] at z; cases z
          · have z2 := un.frzs b ob _ z
            obtain ⟨e1, _⟩ := hok b _ z
            obtain ⟨e2, _⟩ := hok' b _ z2
            rw [e] at e1; cases e1
            exact e2
  cases hk : K.lookup a with
  | some o =>
    -- the script is one of the module's own objects
    have e := KX a o hk
    rw [ha] at e
    cases e
    refine core (fun _ => none) (fun _ => .inl rfl) (.inr ⟨_, vs.toArray, _, hk, rfl, rfl, rfl, by rw [List.size_toArray, lenV]; exact hl, by simpa using rv⟩) (fun b u z => by have z' : (none : Option HO) = some u := z; cases z') (fun b z => absurd rfl z) fun z => absurd rfl z
  | none =>
    refine core (fun b => if b = a then some (.frz { cls := .type "list", data := .seq vs.toArray } (.lst (ns.map V.int))) else none) (fun b => ?_) (.inl (.inr ⟨{ cls := .type "list", data := .seq vs.toArray }, if_pos rfl⟩)) (fun b u z => ?_) (fun b z => ?_) fun _ => hk
    · by_cases hb : b = a
      · exact .inr ⟨_, _, if_pos hb⟩
      · exact .inl (if_neg hb)
    · by_cases hb : b = a
      · have z' := (if_pos hb).symm.trans z
        cases z'
        subst hb
        exact ⟨ha, by rw [List.length_map]; exact hl, vs, _, rv, ha⟩
      · have z' := (if_neg hb).symm.trans z
        cases z'
    · by_cases hb : b = a
      · exact hb
      · exact absurd (if_neg hb) z
end L2

namespace L2
open PySem PySem.Spec PyProof.Rows

/-- the goal that k_head leaves (case hc), from the law's promise. F gives the function object fd (K's own) once, then the promise over every base -/
theorem walk_of {l : PySem.W.OpenLaw} {n k : Nat} {q : Program} {loose : List Str} {XP : (Str → Option Value) → Heap → Prop} {YP : World → Heap → Prop} {d : DefRec} {K : Params → PySem.W.Frag} {CX : World → CXT} {sp : World → Sp} {x : Str}
    (hn : l.most = some n) (hn2 : n ≤ sizeLine) (hdf : d.params.defaults = []) (hr : Room k callerA)
    (hY : ∀ (w : World) (h : Heap), YP w h → (K w.params).In h)
    (F : ∀ (w : World) (mg : Str → Option Value) (fa : Addr) (h : Heap), (K w.params).In h → h.Ns mainGlobals mg → mg d.name = some (.ref fa) →
      ∃ fd : FuncData, (∀ (s : Shared) (u : Value), BindsTo s fd ⟨[u], []⟩ [(x, u)]) ∧
        ∀ base : Heap, (K w.params).In base → base.Ns mainGlobals mg → FnOk l.prog w (K w.params) mg base (CX w) k fa fd [x] (sp w))
    (hsp : ∀ (w : World) (H : Hp) (a : Addr) (ns : List Int), ns.length ≤ n → Only H → SqL (K w.params) H a (ns.map V.int) → sp w [.ref a] H (fun v _ => v = .bl true) fun _ _ _ => False)
    (hCX : ∀ (w : World) (H : Hp) (s : Shared) (e : Value) (s' : Shared), CX w [] H s (fun _ _ _ => False) e s' → False) :
    PySem.W.WalkO q loose XP YP l.row.toRowW d [] (fun f vs => PySem.call f vs) := by
  refine Att.attach_call hn hdf fun w s₀ s₁ mg mb fa o pm cd doc a vs ns G Y ho hd hcd hmg hobj hints hlen hg => ?_
  have KX := hY w _ Y
  obtain ⟨fd, hb, hF⟩ := F w mg fa _ KX G.T.g hmg
  exact law_call KX G.T.g G.T.b G.T.builtins G.T.nolimit hg hobj hints (Nat.le_trans hlen hn2) hr hF hb (fun H hO hS => hsp w H a ns hlen hO hS) fun H e s' => hCX w H s₁ e s'
end L2



/-! SHORT WORDS over the layer: a def of the text, its body, what a loop and a test want. -/
namespace L2
open PySem PySem.Spec PyProof.Rows

/-! ### the text by places -/
/-- the j-th statement of a class's body -/
def inClass (s : Stmt) (j : Nat) : Stmt := match s with
  | .ClassDef _ _ _ body _ _ _ _ _ _ _ => body.getD j (.Pass ⟨0, 0, 0, 0⟩)
  | _ => .Pass ⟨0, 0, 0, 0⟩
def defArgs (s : Stmt) : Arguments := match s with
  | .FunctionDef _ a _ _ _ _ _ _ _ _ => a
  | _ => { posonlyargs := [], args := [], vararg := none, kwonlyargs := [], kw_defaults := [], kwarg := none, defaults := [] }
def defBody (s : Stmt) : List Stmt := match s with
  | .FunctionDef _ _ b _ _ _ _ _ _ _ => b
  | _ => []
def defScope (s : Stmt) : Scope := match s with
  | .FunctionDef _ _ _ _ _ _ sc _ _ _ => sc
  | _ => { kind := .function, names := [], isGenerator := false, isCoroutine := false }

/-! ### no exception leaves a def -/
abbrev CX0 : CXT := fun _ _ _ _ _ _ => False
abbrev E0 : XK := fun _ _ _ => False
theorem pass0 {X : Cx} : Passes CX0 X E0 := fun _ _ _ _ _ _ _ h => h.elim

/-! ### a def (or method) of the text as it stands behind the top -/
structure Fun (K : PySem.W.Frag) (x qual : Str) (st : Stmt) (f : Addr) (fd : FuncData) : Prop where
  ex : ∃ (oc : Value) (od : Option Addr) (kV doc pm : Value) (an : Option Addr) (cdv ct : Value) (osl : Array (Option Value)),
    fd = PySem.W.fnOf x qual (defArgs st) (defBody st) (defScope st) .none kV doc pm an cdv ct ∧ K.lookup f = some ⟨oc, od, .func fd, osl⟩ ∧ PySem.W.codeIn K cdv qual = true
  kp : PySem.W.keepIn K (.ref f) = true
section
variable {P : Program} {w : World} {K : PySem.W.Frag} {mg : Str → Option Value} {base : Heap}
/-- THE RULE for a def: its body as a term of rules, and the reading of that term -/
theorem Fun.ok {x qual : Str} {st : Stmt} {f : Addr} {fd : FuncData} {N ps : List Str} {k : Nat} {sp : Sp} (F : Fun K x qual st f fd) (S : FnScope N ps (defScope st)) (len : ∀ vs H Q E, sp vs H Q E → vs.length = ps.length)
    (hbody : ∀ (cdv : Value) (A : Around) (outer : List Env) (s : Shared) (H : Hp) (vs : List V) (Q : VK) (E : XK), Room k (A.deeper (envOfC qual (defScope st) s.heap.objs.size f cdv)) → sp vs H Q E →
      ∃ t, PSs (cxOf CX0 P w K mg base N qual (defScope st) f cdv A outer s H E).nox (defBody st) t ∧ t { nx := fun _ H' => Q .non H', rt := Q } (start N vs) H) : FnOk P w K mg base CX0 (k + 1) f fd ps sp := by
  obtain ⟨oc, od, kV, doc, pm, an, cdv, ct, osl, rfl, lk, hcd⟩ := F.ex
  refine fn_of lk hcd S len fun A outer s H vs Q E hr hsp => ?_
  obtain ⟨t, h, q⟩ := hbody cdv A outer s H vs Q E hr hsp
  exact ⟨t, h.nox, q⟩
/-- how its arguments bind (no defaults): h is «fun _ _ _ _ _ _ us hl => match us, hl with | [_, _], _ => rfl», one _ a parameter -/
theorem Fun.binds {x qual : Str} {st : Stmt} {f : Addr} {fd : FuncData} {ps : List Str} (F : Fun K x qual st f fd)
    (h : ∀ (kV doc pm : Value) (an : Option Addr) (cdv ct : Value) (us : List Value), us.length = ps.length → bindArgs (PySem.W.fnOf x qual (defArgs st) (defBody st) (defScope st) .none kV doc pm an cdv ct) ⟨us, []⟩ = pure (ps.zip us)) : Binds K fd ps [] := by
  obtain ⟨oc, od, kV, doc, pm, an, cdv, ct, osl, rfl, lk, hcd⟩ := F.ex
  exact .all (h kV doc pm an cdv ct)
theorem fun_mk {x qual : Str} {st : Stmt} {f : Addr} {oc : Value} {od an : Option Addr} {osl : Array (Option Value)} {kV doc pm cdv ct : Value} (l : K.lookup f = some ⟨oc, od, .func (PySem.W.fnOf x qual (defArgs st) (defBody st) (defScope st) .none kV doc pm an cdv ct), osl⟩)
    (c : PySem.W.codeIn K cdv qual = true) (k : PySem.W.keepIn K (.ref f) = true) : Fun K x qual st f (PySem.W.fnOf x qual (defArgs st) (defBody st) (defScope st) .none kV doc pm an cdv ct) := ⟨⟨oc, od, kV, doc, pm, an, cdv, ct, osl, rfl, l, c⟩, k⟩
end
theorem hu_of {A : Around} {k : Nat} (hr : Room k A) : A.units + 1 < cLine := Nat.lt_of_le_of_lt (Nat.add_le_add_left (by decide : 1 ≤ 64) _) hr.units
/-! ### expressions in short: the name that stands in the i-th slot -/
section
variable {X : Cx}
theorem pv (i : Nat) {x : Str} {pos : Pos} (hN : X.N[i]? = some x := by rfl) (hv : Vis X.env.scope x := by first | exact Or.inl rfl | exact Or.inr (Or.inl rfl) | exact Or.inr (Or.inr rfl)) (hd : (x == ("__debug__" : Str)) = false := by decide)
    (hcd : (x == ("__classdict__" : Str)) = false := by decide) : PE X (.Name x pos) (tVar i) := pe_var hN hv hd hcd
end

/-! ### tests -/
theorem iteF {A B : Prop} (h : B) : if false = true then A else B := by
  rw [if_neg Bool.false_ne_true]
  exact h
theorem iteT {A B : Prop} (h : A) : if true = true then A else B := by
  rw [if_pos rfl]
  exact h
theorem ite2 {c A B : Prop} [Decidable c] (h1 : c → A) (h2 : ¬ c → B) : if c then A else B := by
  by_cases h : c
  · rw [if_pos h]
    exact h1 h
  · rw [if_neg h]
    exact h2 h
theorem iteNS {c A B : Prop} [Decidable c] (hc : c) (h : B) : if (!decide c) = true then A else B := by
  rw [decide_eq_true hc]
  exact iteF h

/-! ### heaps -/
/-- all that was tracked is as it was -/
def Same (H H' : Hp) : Prop := ∀ b o, H b = some o → H' b = some o
theorem Same.refl (H : Hp) : Same H H := fun _ _ h => h
theorem Same.trans {H H1 H2 : Hp} (a : Same H H1) (b : Same H1 H2) : Same H H2 := fun c o h => b c o (a c o h)
theorem Same.free {H H' : Hp} (e : Same H H') {l : Addr} (h : H' l = Option.none) : H l = Option.none := by
  cases q : H l with
  | none => rfl
  | some o =>
    rw [e l o q] at h
    cases h
theorem Same.seq {K : PySem.W.Frag} {H H' : Hp} {a : Addr} {xs : List V} (e : Same H H') (h : SqL K H a xs) : SqL K H' a xs := by
  rcases h with (h | ⟨o, h⟩) | h
  · exact .inl (.inl (e _ _ h))
  · exact .inl (.inr ⟨o, e _ _ h⟩)
  · exact .inr h

/-! ### a dict's pairs: keys that differ -/
section
variable {κ : Type} [DecidableEq κ]
theorem nd_snoc : ∀ {l : List κ} {k : κ}, l.Nodup → ¬ k ∈ l → (l ++ [k]).Nodup
  | [], k, _, _ => by simp
  | a :: r, k, h, hk => by
    obtain ⟨h1, h2⟩ := List.nodup_cons.mp h
    show (a :: (r ++ [k])).Nodup
    refine List.nodup_cons.mpr ⟨fun m => ?_, nd_snoc h2 fun m => hk (List.mem_cons.mpr (Or.inr m))⟩
    rcases List.mem_append.mp m with q | q
    · exact h1 q
    · exact hk (List.mem_cons.mpr (Or.inl (List.mem_singleton.mp q).symm))
end
/-! ### lists -/
theorem at_of {xs : List V} {z : Int} {j : Nat} {v : V} (e : z = (j : Int)) (h : xs[j]? = some v) : atI xs z = some v := by
  rw [e]
  exact atI_nat h
theorem nd_ix {α : Type} {l : List α} (hN : l.Nodup) {i j : Nat} {x : α} (a : l[i]? = some x) (b : l[j]? = some x) : i = j := by
  obtain ⟨h1, e1⟩ := List.getElem?_eq_some_iff.mp a
  obtain ⟨h2, e2⟩ := List.getElem?_eq_some_iff.mp b
  exact (List.getElem_inj hN).mp (e1.trans e2.symm)
/-- a new instance and its __init__ leave all that was tracked as it was -/
theorem Same.made {H H1 : Hp} {x dx C : Addr} (nx : H x = Option.none) (nd : H dx = Option.none) (k : ∀ b o, (upd (upd H dx (.own x)) x (.ins C dx [])) b = some o → b ≠ x → H1 b = some o) : Same H H1 := fun b o e =>
  k b o (by rw [upd_ne (ne_of_none e nx), upd_ne (ne_of_none e nd)]; exact e) (ne_of_none e nx)
end L2

set_option Elab.async false
set_option linter.all false
set_option maxRecDepth 100000
namespace HT
open PySem PyProof.Rows
section
variable {prog : Program} {w : World} {A : Around} {E : Value → Shared → Prop} {s : Shared}
/-- the whole tuple's slice is the tuple -/
theorem getItem_tuple_whole {t sl : Addr} {items : Array Value} {vl vu : Value} {lo hi : Option Int} {Q : Value → Shared → Prop} (ht : IsTup s.heap t items) (hs : s.heap.IsSliceOf sl vl vu .none) (pl : IsPart vl lo) (pu : IsPart vu hi)
    (hw : sIx items.size 0 lo = 0 ∧ sIx items.size items.size hi = items.size) (h : Q (.ref t) s) : wpAny (model prog w) A (getItem (.ref t) (.ref sl)) Q E s := by
  obtain ⟨os, hos, hcs, hds⟩ := id hs
  have hTs : s.TypeIs (.ref sl) "slice" := ⟨os, hos, hcs⟩
  unfold getItem
  try with_reducible refine wpAny_holding ?_
  first | refine wpAny_bind (wpAny_pure ?_) | skip
  refine wpAny_bind (wpAny_sequenceKey ht.typeIs (by decide) ?_)
  refine wpAny_bind (wpAny_callSpecial?_slot (name := Str.ofString "__getitem__") ht.typeIs PyProof.Rows.slot_tuple_getitem
    (wpAny_call_entry PyProof.Rows.slot_tuple_getitem ht.typeIs entry_tuple_getitem ?_ (args_tuple_getitem _ _)))
  show wpAny _ _ (Builtin.Tuple.tupleItemsOf (.ref t) >>= _) _ _ s
  refine wpAny_bind (tupleItemsOf_ ht ?_)
  refine wpAny_bind (wpAny_typeOf hTs ?_)
  rw [if_pos (by decide)]
  refine wpAny_bind (sliceApplied_gen hs pl pu ?_)
  have hyes : (((sIx items.size 0 lo : Nat) : Int) == 0 && (1 : Int) == 1 && (sIx items.size items.size hi - sIx items.size 0 lo) == items.size) = true := by
    rw [hw.1, hw.2]; simp
  show wpAny _ _ (if (((sIx items.size 0 lo : Nat) : Int) == 0 && (1 : Int) == 1 && (sIx items.size items.size hi - sIx items.size 0 lo) == items.size) = true then _ else _) _ _ s
  rw [if_pos hyes]
  unfold Builtin.Tuple.tupleIsExact
  refine wpAny_bind (wpAny_bind (wpAny_typeOf ht.typeIs (wpAny_pure ?_)))
  rw [if_pos (by decide)]
  refine wpAny_bind (wpAny_rule ?_)
  first
    | exact wpAny_pure ⟨_, rfl, wpAny_pure h⟩
    | exact wpAny_bind (wpAny_pure (wpAny_pure ⟨_, rfl, wpAny_pure h⟩))
    | exact wpAny_bind (wpAny_pure (wpAny_pure (wpAny_pure ⟨_, rfl, wpAny_pure h⟩)))
/-- t + u, t empty -/
theorem cat_tup0 {t b : Addr} {vs ws : List Value} {Q : Value → Shared → Prop} (ht : IsTup s.heap t vs.toArray) (hb : IsTup s.heap b ws.toArray) (hv : vs = [])
    (h1 : Q (.ref b) s) : wpAny (model prog w) A (binaryOp .Add (.ref t) (.ref b)) Q E s := by
  obtain ⟨⟨cls, dd, data, sl⟩, ho, hc, n, hd⟩ := id ht
  obtain ⟨⟨cls2, dd2, data2, sl2⟩, ho2, hc2, n2, hd2⟩ := id hb
  simp only at hc hd hc2 hd2
  subst hc hd hc2 hd2
  exact concat_meets ⟨_, ho, rfl⟩ ⟨_, ho2, rfl⟩ noFill_tuple_add seq_tuple_add PySem.F.slot_tuple_add PySem.F.entry_tuple_add (PySem.F.args_tuple_add_2 _ _)
      (tuple_addW0 t b vs.toArray ws.toArray n n2 dd dd2 sl sl2 (by simp [hv])) ⟨ho, ho2, h1⟩
end
end HT
namespace L2
open PySem PySem.Spec PyProof.Rows
section
variable {X : Cx}
/-- o[i] of a list, by values -/
theorem get_list : PGet X (rIxL X.K) := by
  intro pins s σ H o i ov iv Q I ro ri h
  obtain ⟨p, xs, k, z, rfl, rfl, hq, he, q⟩ := h
  cases ro
  obtain ⟨t, rfl⟩ := ri
  obtain ⟨its, r, pl, hz⟩ := I.list hq
  obtain ⟨j, h1, h2, h3, h4, h5⟩ := atI_get he
  obtain ⟨w, ew, rw'⟩ := r.get h2
  have hl := r.length
  have hn := line63
  have fin : EP X pins σ Q w s := ⟨z, H, I, rw', q⟩
  by_cases h0 : 0 ≤ k
  · have hj : k.toNat = j := by
      rw [seqIndex_of h0 h5] at h1
      exact Option.some.inj h1
    exact wpAny_getItem_list pl.isList h0 (by omega) (by rw [hj]; simpa using ew) fin
  · have hj : (k + (its.toArray.size : Int)).toNat = j := by
      rw [seqIndex_neg (by omega) h4] at h1
      rw [List.size_toArray, ← hl]
      exact Option.some.inj h1
    exact wpAny_getItem_list_neg pl.isList (by omega) (by rw [List.size_toArray] <;> omega) (by omega) (by rw [hj]; simpa using ew) fin
/-- t[lo:hi], whole or not -/
def rSlTA (K : PySem.W.Frag) : V → Option Int → Option Int → Hp → VK → Prop := fun x lo hi H Q => ∃ a xs, x = .ref a ∧ SqT K H a xs ∧
  ((HT.sIx xs.length 0 lo = 0 ∧ HT.sIx xs.length xs.length hi = xs.length) → Q (.ref a) H) ∧ ∀ p, H p = none → Q (.ref p) (upd H p (.tup (cutV xs lo hi)))
theorem sl_tupA : SlR X (rSlTA X.K) := by
  intro pins s σ H x v vl vu lo hi sl Q I rx hs pl pu h
  obtain ⟨a, xs, rfl, hx, q1, q2⟩ := h
  by_cases hw : HT.sIx xs.length 0 lo = 0 ∧ HT.sIx xs.length xs.length hi = xs.length
  · cases rx
    obtain ⟨its, r, ht, hz⟩ := I.tuple hx
    have hlen : its.toArray.size = xs.length := by rw [List.size_toArray]; exact r.length.symm
    refine ⟨"tuple", _, PyProof.Rows.slot_tuple_getitem.lookup, ht.typeIs, ?_⟩
    exact HT.getItem_tuple_whole ht hs pl pu (by rw [hlen]; exact hw) ⟨.ref a, H, I, rfl, q1 hw⟩
  · exact sl_tup pins s σ H (.ref a) v vl vu lo hi sl Q I rx hs pl pu ⟨a, xs, rfl, hx, hw, q2⟩
/-- t + u of any tuples; what is told stands for xs ++ ys -/
def rCatTA (K : PySem.W.Frag) : R2 := fun x y H Q => ∃ a b xs ys, x = .ref a ∧ y = .ref b ∧ SqT K H a xs ∧ SqT K H b ys ∧ xs.length + ys.length ≤ sizeLine ∧
  (ys = [] → Q (.ref a) H) ∧ (xs = [] → Q (.ref b) H) ∧ (∀ p, H p = none → Q (.ref p) (upd H p (.tup (xs ++ ys))))
theorem op_catTA : OpR X (binaryOp .Add) (rCatTA X.K) := by
  intro pins s σ H x y v u Q I rx ry h
  obtain ⟨a, b, xs, ys, rfl, rfl, ha, hb, hz, q1, q0, q2⟩ := h
  by_cases hx : xs = []
  · cases rx
    cases ry
    obtain ⟨its, r1, p1, _⟩ := I.tuple ha
    obtain ⟨its2, r2, p2, _⟩ := I.tuple hb
    exact HT.cat_tup0 p1 p2 (r1.nil_iff.mpr hx) ⟨.ref b, H, I, rfl, q0 hx⟩
  · exact op_catT pins s σ H _ _ v u Q I rx ry ⟨a, b, xs, ys, rfl, rfl, ha, hb, hx, hz, q1, fun _ => q2⟩
/-- a text times an int -/
def repS (x : Str) (n : Int) : Str := ⟨(List.replicate n.toNat x.cps.toList).flatten.toArray⟩
theorem rep_fold (l : Array Nat) : ∀ (m : Nat) (acc : Array Nat), (List.replicate m l).foldl (· ++ ·) acc = acc ++ ((List.replicate m l.toList).flatten).toArray
  | 0, acc => by simp
  | m + 1, acc => by
    rw [List.replicate_succ, List.foldl_cons, rep_fold l m, List.replicate_succ, List.flatten_cons, Array.append_assoc]
    congr 1
    apply Array.toList_inj.mp
    simp
theorem op_repS : OpR X (binaryOp .Mult) (fun x y H Q => ∃ z n, x = .str z ∧ y = .int n ∧ -(2 ^ 63) ≤ n ∧ n < 2 ^ 63 ∧ z.length ≤ sizeLine ∧ z.length * n.toNat ≤ sizeLine ∧ Q (.str (repS z n)) H) := by
  intro pins s σ H x y v u Q I rx ry h
  obtain ⟨z, n, rfl, rfl, h1, h2, hz0, hz, q⟩ := h
  obtain ⟨t, rfl⟩ := rx
  obtain ⟨t', rfl⟩ := ry
  refine PySem.P.mul_str ?_ (fun hn hc => ?_) (fun hn hc => ?_) ?_
  · have e1 : ¬ n < -(2 ^ 63 : Int) := by omega
    have e2 : ¬ n ≥ 2 ^ 63 := by omega
    rw [decide_eq_false e1, decide_eq_false e2]; rfl
  · intro hgt
    have h3 : (z.length : Int) * n ≤ sizeLine := by
      have : ((z.length * n.toNat : Nat) : Int) ≤ sizeLine := by exact_mod_cast hz
      have e : ((n.toNat : Nat) : Int) = n := by omega
      rw [Int.natCast_mul, e] at this
      exact this
    have h4 : (sizeLine : Int) ≤ 2 ^ 63 - 1 := by decide
    have h5 : (z.length : Int) * n ≤ 2 ^ 63 - 1 := by omega
    have h6 : (z.length : Int) ≤ (2 ^ 63 - 1) / n := (Int.le_ediv_iff_mul_le (by omega)).mpr h5
    omega
  · unfold Builtin.Str.tooLong
    exact decide_eq_false (by omega)
  · by_cases c1 : n < 1
    · rw [if_pos c1]
      have e : n.toNat = 0 := by omega
      refine ⟨by decide, .str (repS z n), H, I.tok _, ⟨s.toks, ?_⟩, q⟩
      unfold repS
      rw [e]
      rfl
    · rw [if_neg c1]
      by_cases c2 : (n == 1 || z.length == 0) = true
      · rw [if_pos c2]
        have e : repS z n = z := by
          unfold repS
          rcases Bool.or_eq_true _ _ ▸ c2 with c | c
          · have : n = 1 := by simpa using c
            subst this
            show Str.mk (List.replicate 1 z.cps.toList).flatten.toArray = z
            simp
          · have hl : z.cps.toList = [] := by
              have : z.cps.size = 0 := by simpa [Str.length] using c
              simpa using this
            obtain ⟨cps⟩ := z
            simp only at hl
            have : cps = #[] := by simpa using hl
            subst this
            simp
        exact ⟨.str (repS z n), H, I, ⟨t, by rw [e]⟩, q⟩
      · rw [if_neg c2]
        have e : (⟨(List.replicate n.toNat z.cps).foldl (· ++ ·) #[]⟩ : Str) = repS z n := by
          unfold repS
          rw [rep_fold]
          simp
        have hl : (repS z n).length ≤ sizeLine := by
          unfold repS
          show ((List.replicate n.toNat z.cps.toList).flatten.toArray).size ≤ sizeLine
          rw [List.size_toArray, List.length_flatten, List.map_replicate, List.sum_replicate_nat, Array.length_toList]
          rw [Nat.mul_comm]; exact hz
        rw [e]
        exact ⟨hl, .str _, H, I.tok _, ⟨_, rfl⟩, q⟩
end
end L2

set_option Elab.async false
set_option linter.all false
set_option maxRecDepth 100000
namespace PySem
open Sem (wp)
open Builtin
end PySem
namespace L2
open PySem PySem.Spec PyProof.Rows
section
variable {X : Cx}
end
end L2

set_option Elab.async false
set_option linter.all false
set_option maxRecDepth 100000
namespace L2
open PySem PySem.Spec PyProof.Rows
instance (priority := 5000) beqKey : BEq Key := ⟨fun a b => decide (a = b)⟩
instance (priority := 5000) lawKey : LawfulBEq Key where
  eq_of_beq := fun h => of_decide_eq_true h
  rfl := decide_eq_true rfl
/-- what a set of these keys holds, in the order in which they were met -/
def ddStep (σ : List Key) (k : Key) : List Key := if k ∈ σ then σ else σ ++ [k]
def dd (l : List Key) : List Key := l.foldl ddStep []
section
variable {prog : Program} {w : World} {A : Around} {R : Result → Shared → Prop} {I : Addr} {fp wr : List Addr} {G : Array GenState → Array GenState → Prop} {n : Nat} {P : Nat → Value → Prop} {St : Nat → Shared → Prop}
end
section
variable {prog : Program} {w : World} {A : Around} {E : Value → Shared → Prop} {s : Shared}
theorem paired_at {α β : Type} {F : α → β → Prop} : ∀ {xs : List α} {ys : List β} {i : Nat} {y : β}, Paired F xs ys → ys[i]? = some y → ∃ x, xs[i]? = some x ∧ F x y
  | _, _, i, _, .nil, e => by simp at e
  | _, _, 0, _, .cons r _, e => by simp at e; subst e; exact ⟨_, rfl, r⟩
  | _, _, i + 1, y, .cons _ t, e => by
    obtain ⟨u, h1, h2⟩ := paired_at (i := i) (y := y) t (by simpa using e)
    exact ⟨u, by simpa using h1, h2⟩
set_option maxHeartbeats 3200000 in
set_option maxHeartbeats 3200000 in
end
section
variable {X : Cx}
end
end L2

set_option Elab.async false
set_option linter.all false
set_option maxRecDepth 100000
namespace L2
open PySem PySem.Spec PyProof.Rows
section
variable {X : Cx}
/-- isinstance(x, T) for a built-in class T -/
theorem cr_isi : CallR X (.builtin "isinstance") (fun xs H Q => ∃ (x : V) (t : Value) (n : String) (b : Bool), xs = [x, .ty n] ∧ TyOf X.K H x t ∧ PySem.W.kitOne X.K t (.type n) = some b ∧ Q (.bl b) H) := by
  intro pins s σ H xs us Q I r h
  obtain ⟨x, t, n, b, rfl, ty, e, q⟩ := h
  cases r with
  | cons r1 rr =>
    cases rr with
    | cons r2 rr =>
      cases rr
      cases (show _ = Value.type n from r2)
      exact isinst_ok I r1 ty e fun tk => ⟨.bl b, H, I.tok _, rfl, q⟩
/-- isinstance(x, (S, T)) -/
theorem cr_isi2 : CallR X (.builtin "isinstance") (fun xs H Q => ∃ (x : V) (t : Value) (p : Addr) (ns : List String) (b : Bool), xs = [x, .ref p] ∧ H p = some (.tup (ns.map V.ty)) ∧ TyOf X.K H x t ∧ PySem.W.kitAny X.K t (ns.map Value.type) = some b ∧ Q (.bl b) H) := by
  intro pins s σ H xs us Q I r h
  obtain ⟨x, t, p, ns, b, rfl, hp, ty, e, q⟩ := h
  cases r with
  | cons r1 rr =>
    cases rr with
    | cons r2 rr =>
      cases rr
      cases (show _ = Value.ref p from r2)
      obtain ⟨hszz, its, rv, ⟨oc, od, odt, osl⟩, ho, hc, m, hd⟩ := (show ObjOk X.prog X.w H s.heap p (.tup (ns.map V.ty)) from I.hok p _ hp)
      simp only at hc hd
      subst hc hd
      have ei : its = ns.map Value.type := by
        clear ho e hp hszz
        induction ns generalizing its with
        | nil => cases rv; rfl
        | cons a r ih =>
          cases rv with
          | cons r1 rr =>
            cases (show _ = Value.type a from r1)
            rw [List.map_cons, ih _ rr]
      subst ei
      have fin : ∀ tk, EP X pins σ Q (.bool b) { s with toks := tk } := fun tk => ⟨.bl b, H, I.tok _, rfl, q⟩
      cases ty with
      | non => cases (show _ = Value.none from r1); exact PySem.W.kia_tup PySem.W.kitx_none I.kIn True.intro ho e (fun z => nomatch z) fin
      | bl y => cases (show _ = Value.bool y from r1); exact PySem.W.kia_tup PySem.W.kitx_bool I.kIn True.intro ho e (fun z => nomatch z) fin
      | int i => obtain ⟨t, q⟩ := (show ∃ t, _ = Value.int i t from r1); cases q; exact PySem.W.kia_tup PySem.W.kitx_int I.kIn True.intro ho e (fun z => nomatch z) fin
      | str y => obtain ⟨t, q⟩ := (show ∃ t, _ = Value.str y t from r1); cases q; exact PySem.W.kia_tup PySem.W.kitx_str I.kIn True.intro ho e (fun z => nomatch z) fin
      | flt y => obtain ⟨t, q⟩ := (show ∃ t, _ = Value.float y t from r1); cases q; exact PySem.W.kia_tup PySem.W.kitx_float I.kIn True.intro ho e (fun z => nomatch z) fin
      | @lst a xs ea =>
        cases (show _ = Value.ref a from r1)
        obtain ⟨_, _, n, _, h1⟩ := (show ObjOk X.prog X.w H s.heap a (.lst xs) from I.hok a _ ea)
        exact PySem.W.kia_tup PySem.W.kitx_list I.kIn ⟨_, h1, rfl⟩ ho e (fun z => nomatch z) fin
      | @frz a ob xs ea =>
        cases (show _ = Value.ref a from r1)
        obtain ⟨_, _, _, n, _, h1⟩ := (show ObjOk X.prog X.w H s.heap a (.frz ob (.lst xs)) from I.hok a _ ea)
        exact PySem.W.kia_tup PySem.W.kitx_list I.kIn ⟨_, h1, rfl⟩ ho e (fun z => nomatch z) fin
      | @tup a xs ea =>
        cases (show _ = Value.ref a from r1)
        obtain ⟨_, _, _, p⟩ := (show ObjOk X.prog X.w H s.heap a (.tup xs) from I.hok a _ ea)
        obtain ⟨o, h1, h2, _⟩ := p
        exact PySem.W.kia_tup PySem.W.kitx_tuple I.kIn ⟨o, h1, h2⟩ ho e (fun z => nomatch z) fin
      | @dK a kvs ea =>
        cases (show _ = Value.ref a from r1)
        obtain ⟨_, _, vs, _, p⟩ := (show ObjOk X.prog X.w H s.heap a (.dK kvs) from I.hok a _ ea)
        obtain ⟨o, es, ep, h1, h2, _⟩ := p
        exact PySem.W.kia_tup PySem.W.kitx_dict I.kIn ⟨o, h1, h2.1⟩ ho e (fun z => nomatch z) fin
      | @dT a kvs ea =>
        cases (show _ = Value.ref a from r1)
        obtain ⟨_, _, xs, _, o, es, ep, h1, h2, _⟩ := (show ObjOk X.prog X.w H s.heap a (.dT kvs) from I.hok a _ ea)
        exact PySem.W.kia_tup PySem.W.kitx_dict I.kIn ⟨o, h1, h2.1⟩ ho e (fun z => nomatch z) fin
      | @ins a C dx fs ea cl ha hn htk hm =>
        cases (show _ = Value.ref a from r1)
        obtain ⟨mA, O, _⟩ := ins_get I.hok ea
        obtain ⟨od, J, _⟩ := O.look
        exact PySem.W.kia_tup (PySem.W.kitx_own (cl.get _) cl.hd ha hn htk hm) I.kIn J ho e (fun z => nomatch z) fin
end
end L2

set_option Elab.async false
set_option linter.all false
set_option maxRecDepth 100000
namespace PySem
open Sem (wp)
open AutoSeq1 (wpAny_loadPart')
section
variable {prog : Program} {w : World} {A : Around} {E : Value → Shared → Prop} {s : Shared}
theorem nextOf_tuple_item {it t : Addr} {i : Nat} {items : Array Value} {x : Value} {Q : Value → Shared → Prop} (hit : s.heap.IsTupleIter it t i)
    (hl : s.heap.IsTuple t items) (hx : items[i]? = some x)
    (hQ : ∀ h', h'.IsTupleIter it t (i + 1) → Heap.SameBut it s.heap h' → Q x { s with heap := h' }) :
    wpAny (model prog w) A (Builtin.SmallTypes.nextOf (.ref it)) Q E s := by
  obtain ⟨o, ho, hc, hd⟩ := id hit
  obtain ⟨ol, hol, _, nl, hdl⟩ := hl
  unfold Builtin.SmallTypes.nextOf
  refine wpAny_bind (wpAny_callSpecial?_slot (name := Str.ofString "__next__") hit.typeIs F.slot_tuple_iterator_next
    (wpAny_call_entry F.slot_tuple_iterator_next hit.typeIs F.entry_tuple_iterator_next ?_ (F.args_tuple_iterator_next_1 _)))
  show wpAny _ _ (field (.ref it) 0 >>= _) _ _ s
  refine wpAny_bind (wpAny_field ho hd (x := .ref t) rfl ?_)
  show wpAny _ _ (if (Value.ref t == Value.none) = true then _ else _) _ _ s
  rw [if_neg (show ¬ ((Value.ref t == Value.none) = true) from Bool.false_ne_true)]
  show wpAny _ _ (field (.ref it) 1 >>= _) _ _ s
  refine wpAny_bind (wpAny_field ho hd (x := .int i 0) rfl ?_)
  show wpAny _ _ (seqItems? (.ref t) >>= _) _ _ s
  refine wpAny_bind (wpAny_seqItems hol hdl ?_)
  simp only [Int.toNat_natCast, hx]
  refine wpAny_bind (wpAny_setField ho hd (by simp) (wpAny_pure ⟨x, rfl, wpAny_pure (hQ _ ?_ (Heap.SameBut.update ..))⟩))
  exact ⟨_, Heap.get?_update_self _ ho (Obj.isFreed_of_fields (Obj.data_mapFields hd _)), (Obj.cls_mapFields ..).trans hc, by
    rw [Obj.data_mapFields hd]; simp [rawInt]⟩
theorem nextOf_tuple_end {it t : Addr} {i : Nat} {items : Array Value} {Q : Value → Shared → Prop} (hh : A.handled = none)
    (hit : s.heap.IsTupleIter it t i) (hl : s.heap.IsTuple t items) (hx : items[i]? = none)
    (hE : ∀ h' e, Heap.ExtBut it s.heap h' → (∃ o, h'.get? e = some o ∧ o.cls = .type "StopIteration") → E (.ref e) { s with heap := h' }) :
    wpAny (model prog w) A (Builtin.SmallTypes.nextOf (.ref it)) Q E s := by
  obtain ⟨o, ho, hc, hd⟩ := id hit
  obtain ⟨ol, hol, _, nl, hdl⟩ := hl
  unfold Builtin.SmallTypes.nextOf
  refine wpAny_bind (wpAny_callSpecial?_slot (name := Str.ofString "__next__") hit.typeIs F.slot_tuple_iterator_next
    (wpAny_call_entry F.slot_tuple_iterator_next hit.typeIs F.entry_tuple_iterator_next ?_ (F.args_tuple_iterator_next_1 _)))
  show wpAny _ _ (field (.ref it) 0 >>= _) _ _ s
  refine wpAny_bind (wpAny_field ho hd (x := .ref t) rfl ?_)
  show wpAny _ _ (if (Value.ref t == Value.none) = true then _ else _) _ _ s
  rw [if_neg (show ¬ ((Value.ref t == Value.none) = true) from Bool.false_ne_true)]
  show wpAny _ _ (field (.ref it) 1 >>= _) _ _ s
  refine wpAny_bind (wpAny_field ho hd (x := .int i 0) rfl ?_)
  show wpAny _ _ (seqItems? (.ref t) >>= _) _ _ s
  refine wpAny_bind (wpAny_seqItems hol hdl ?_)
  simp only [Int.toNat_natCast, hx]
  refine wpAny_bind (wpAny_rule (wpAny_bind (wpAny_setField ho hd (by simp) ?_)))
  show wpAny _ _ (newExc (.type "StopIteration") [] >>= _) _ _ _
  refine wpAny_bind ?_
  simp only [newExc, newTuple]
  refine wpAny_bind (wpAny_newObj_type ?_ (by size_fits))
  refine wpAny_bind (m := firstArgMember _ _) (wpAny_of_eq (a := Value.none) (by first | rfl | (simp only [firstArgMember]; rfl)) ?_)
  refine wpAny_newObj_type ?_ (by size_fits)
  simp only [raiseNew]
  refine wpAny_bind (wpAny_handled ?_)
  first | rw [show A.in1.handled = none from hh] | rw [hh]
  refine wpAny_bind (wpAny_pure (wpAny_throw ?_))
  exact hE _ _ (((Heap.SameBut.update ..).extBut.push _).push _) ⟨_, Heap.get?_push_size _ rfl, rfl⟩
end
theorem Draws.tupleD {prog : Program} {w : World} {A : Around} (hh : A.handled = none) (it l : Addr) (hne : l ≠ it) (items : Array Value) :
    Draws prog w A it [it, l] items.size (fun i v => items[i]? = some v) (fun i h => h.IsTupleIter it l i ∧ h.IsTuple l items) where
  live := fun _ _ st => let ⟨o, ho, _⟩ := st.1; ⟨o, ho⟩
  frame := fun _ _ _ st hk => ⟨st.1.at fun o e => hk it (by simp) o e, st.2.at fun o e => hk l (by simp) o e⟩
  item := fun i s Q E hi st hQ => by
    refine nextOf_tuple_item st.1 st.2 (x := items[i]) (by simp [hi]) fun h' hit' hs' => ?_
    exact hQ _ h' s.toks (by simp [hi]) ⟨hit', st.2.extBut hs'.extBut hne⟩ hs'
  done := fun s Q E st hE => nextOf_tuple_end hh st.1 st.2 (by simp) hE
theorem meets_enumerate_newT (l : Addr) (items : Array Value) (n : Nat) (dct : Option Addr) (sl : Array (Option Value)) :
    Meets (Builtin.«enumerate.__new__» ⟨[.type "enumerate", .ref l], []⟩) (fun _ R s => s.heap.get? l = some { cls := .type "tuple", dict := dct, data := .seq items n, slots := sl } ∧
      R (.ok (.ret (.ref (s.heap.push { cls := .type "tuple_iterator", data := .fields #[.ref l, .int 0 0] }).objs.size)))
        { s with heap := (s.heap.push { cls := .type "tuple_iterator", data := .fields #[.ref l, .int 0 0] }).push { cls := .type "enumerate", data := .fields #[.none, .bool false, .ref s.heap.objs.size, rawInt 0, .none, .none] } }) :=
  .of_wp fun prog w A R s h => by
    obtain ⟨hp, g, d, tk, os⟩ := s; obtain ⟨hl, h⟩ := h
    have hsub := sub_enumerate
    have hL : Heap.IsTuple (Shared.heap ⟨hp, g, d, tk, os⟩) l items := ⟨_, hl, rfl, n, rfl⟩
    wp_walk using wpAny_loadPart' hl
    refine wpAny_stack_any fun st => wpAny_pure ?_
    split
    · rename_i c _ _ _ _ _
      cases (c == Value.type "enumerate")
      · wp_walk using wpAny_loadPart' hl, wpAny_pyIter_tuple hL
        exact ⟨_, rfl, h⟩
      · wp_walk using wpAny_loadPart' hl, wpAny_pyIter_tuple hL
        exact ⟨_, rfl, h⟩
    · wp_walk using wpAny_loadPart' hl, wpAny_pyIter_tuple hL
      exact ⟨_, rfl, h⟩
section
variable {prog : Program} {w : World} {A : Around} {E : Value → Shared → Prop} {s : Shared}
theorem call_enumerate_tuple {l : Addr} {items : Array Value} {Q : Value → Shared → Prop} (hL : s.heap.IsTuple l items)
    (h : ∀ h', IsEnum h' (s.heap.objs.size + 1) s.heap.objs.size 0 .none → h'.IsTupleIter s.heap.objs.size l 0 → h'.objs.size = s.heap.objs.size + 2 →
      (∀ b o, s.heap.get? b = some o → h'.get? b = some o) → Q (.ref (s.heap.objs.size + 1)) { s with heap := h' }) :
    wpAny (model prog w) A (call (.type "enumerate") [.ref l]) Q E s := by
  obtain ⟨⟨c, dct, dt, sl⟩, hl, hc, n, hd⟩ := hL
  replace hc : c = .type "tuple" := hc
  replace hd : dt = .seq items n := hd
  subst hc hd
  refine callType_new F.called_enumerate (by decide) (F.typeCall_enumerate_1 _) (F.newCall_enumerate_1 _) (fun obj => F.args_object_init_2 obj _) F.entry_enumerate_new
    (meets_enumerate_newT l items n dct sl) ⟨hl, ?_⟩
  have hz : (s.heap.push { cls := .type "tuple_iterator", data := .fields #[.ref l, .int 0 0] }).objs.size = s.heap.objs.size + 1 := Heap.size_push ..
  show _ ∧ _
  rw [hz]
  have he : IsEnum ((s.heap.push { cls := .type "tuple_iterator", data := .fields #[.ref l, .int 0 0] }).push
      { cls := .type "enumerate", data := .fields #[.none, .bool false, .ref s.heap.objs.size, rawInt 0, .none, .none] }) (s.heap.objs.size + 1) s.heap.objs.size 0 .none := by
    have := Heap.get?_push_size (s.heap.push { cls := .type "tuple_iterator", data := .fields #[.ref l, .int 0 0] })
      (o := { cls := .type "enumerate", data := .fields #[.none, .bool false, .ref s.heap.objs.size, rawInt 0, .none, .none] }) rfl
    rw [hz] at this; exact this
  refine ⟨⟨_, he, rfl⟩, h _ he ⟨_, Heap.get?_push_of_some _ (Heap.get?_push_size _ rfl), rfl, rfl⟩ (by rw [Heap.size_push, hz]) fun b o x => Heap.get?_push_of_some _ (Heap.get?_push_of_some _ x)⟩
end
end PySem
namespace L2
open PySem PySem.Spec PyProof.Rows
theorem _root_.L2.isTuple_of {h : Heap} {a : Addr} {its : Array Value} (p : IsTup h a its) : h.IsTuple a its := p
/-- the tuple at a, each item in a new pair -/
def IteT (K : PySem.W.Frag) (a : Addr) : It :=
  ⟨fun i H => ∃ (xs : List V) (x : V), SqT K H a xs ∧ xs[i]? = some x, fun i H v H' => ∃ T x, v = .ref T ∧ H T = none ∧ H' = upd H T (.tup [.int (i : Nat), x]) ∧ ∀ xs, SqT K H a xs → xs[i]? = some x, fun i H => ∃ xs : List V, SqT K H a xs ∧ xs.length = i⟩
theorem turn_enumT {P : Program} {w : World} {K : PySem.W.Frag} {elts : List Expr} {kk : Nat} {tpos : Pos} (a e it : Addr) (hne : e ≠ it) (hai : a ≠ it) (hae : a ≠ e) :
    Turn P w K (.Tuple elts kk tpos) (IteT K a) [e, it] e (fun i h => (∃ old, IsEnum h e it ((i : Nat) : Int) old) ∧ h.IsTupleIter it a i) where
  mem := by simp
  obj := fun i h st b hb => by
    obtain ⟨⟨old, he⟩, ⟨o, ho, hc, hd⟩⟩ := st
    have e' : b = e ∨ b = it := by simpa using hb
    rcases e' with z | z
    · rw [z]; exact ⟨_, he, fun v q => nomatch q⟩
    · rw [z]; exact ⟨o, ho, fun v q => by rw [hd] at q; cases q⟩
  keep := fun i h h' st k => let ⟨⟨old, he⟩, hi⟩ := st; ⟨⟨old, k e (by simp) _ he⟩, hi.at fun o q => k it (by simp) o q⟩
  item := by
    intro X hP hw hK hc i pins s σ H E I hf st hg
    subst hP hw hK
    obtain ⟨⟨old, he⟩, hit⟩ := st
    obtain ⟨xs, x, hq, hx⟩ := hg
    obtain ⟨its, rv, p, hz⟩ := I.tuple hq
    obtain ⟨u, hu, ru⟩ := rv.get hx
    have hel : e < s.heap.objs.size := Heap.lt_size he
    have hil : it < s.heap.objs.size := by obtain ⟨_, q, _⟩ := hit; exact Heap.lt_size q
    have hh : X.A.in1.handled = none := I.ok.hd hc
    have hlt : i < its.toArray.size := by
      rw [List.size_toArray]
      exact (List.getElem?_eq_some_iff.mp hu).1
    refine wpAny_pyNext_enum_itemD (Draws.tupleD hh it a hai its.toArray) he ⟨hit, p⟩ hlt hne (by
      intro z
      have z' : e = it ∨ e = a := by simpa using z
      rcases z' with z | z
      · exact hne z
      · exact hae z.symm) fun y h' tk hy ho hit' hT hsz hk => ?_
    have ey : y = u := by
      have h1 : its.toArray[i]? = some y := hy
      have h2 : its.toArray[i]? = some u := by simpa using hu
      rw [h1] at h2
      exact Option.some.inj h2
    subst ey
    refine ⟨_, rfl, wpAny_letOwnedTupleGo_enum (s := { s with heap := h', toks := tk + 1 }) ho fun h'' he' sb => ?_⟩
    have hT2 : h''.get? s.heap.objs.size = some { cls := .type "tuple", data := .seq #[.int i tk, y] } := (sb.2 _ (Nat.ne_of_gt hel)).trans hT
    have new : ObjOk X.prog X.w (upd H s.heap.objs.size (.tup [.int (i : Nat), x])) h'' s.heap.objs.size (.tup [.int (i : Nat), x]) :=
      ⟨by show 2 ≤ sizeLine; decide, [.int i tk, y], .cons ⟨_, rfl⟩ (.cons ru .nil), ⟨_, hT2, rfl, _, rfl⟩⟩
    have I1 : Inv X pins σ (upd H s.heap.objs.size (.tup [.int (i : Nat), x])) { s with heap := h'', toks := tk + 1 } :=
      I.turnedNew (ch := [e, it]) (fun b ob hb q => (sb.2 b (fun z => hb (by simp [z]))).trans (hk b ob (fun z => hb (by simp [z])) (fun z => hb (by simp [z])) q)) hf (Nat.le_refl _) new
    refine ⟨.ref s.heap.objs.size, _, I1, rfl, ⟨_, x, rfl, I.hok.fresh (Nat.le_refl _), rfl, fun ys hy => by rw [I.tuple_inj hy hq]; exact hx⟩, ⟨⟨y, ?_⟩, hit'.1.at fun o q => (sb.2 it (Ne.symm hne)).trans q⟩, fun b hb => ?_⟩
    · have e1 : ((i + 1 : Nat) : Int) = (i : Int) + 1 := by omega
      rw [e1]; exact he'
    · have hb' : b < s.heap.objs.size := by
        have e' : b = e ∨ b = it := by simpa using hb
        rcases e' with z | z
        · rw [z]; exact hel
        · rw [z]; exact hil
      rw [upd_ne (Nat.ne_of_lt hb')]
      exact (hf b hb).1
  done := by
    intro X hP hw hK hc i pins s σ H E I hf st hg
    subst hP hw hK
    obtain ⟨⟨old, he⟩, hit⟩ := st
    obtain ⟨xs, hq, hx⟩ := hg
    obtain ⟨its, rv, p, hz⟩ := I.tuple hq
    obtain ⟨f0, f1, f2, f3, f4, f5⟩ := hf it (by simp)
    have hl := rv.length
    have hh : X.A.in1.handled = none := I.ok.hd hc
    have ei : its.toArray.size = i := by rw [List.size_toArray]; omega
    exact wpAny_pyNext_enum_endD (Draws.tupleD hh it a hai its.toArray) he ⟨by rw [ei]; exact hit, p⟩ fun h' eb => ⟨rfl, I.turned (t' := s.toks) (fun b o hb q => eb b o hb q) f0 f1 f3 f4 f5⟩
  self := fun A i s Q E st h => let ⟨⟨_, he⟩, _⟩ := st; wpAny_pyIter_enum he h
def iEnumT (K : PySem.W.Frag) (ta : TA) : TI := fun σ H R => ta σ H fun vs H1 => ∃ a xs, vs = [.ref a] ∧ SqT K H1 a xs ∧ R (IteT K a) H1
theorem pi_enumT {X : Cx} {e : Expr} {ta : TA} {p pos tpos : Pos} {elts : List Expr} {kk : Nat} (hg : Gl X "enumerate") (hm : X.mg "enumerate" = none) (ha : PA X [e] ta) (hs : starEach [e] X.env = [(false, eval e X.env)] := by rfl) :
    PI X (.Tuple elts kk tpos) (.Call (.Name "enumerate" p) [e] [] pos) (iEnumT X.K ta) := by
  intro pins s σ H R I h
  refine Call_ (ld_blt I hg hm boot_enumerate (PyProof.Rows.callWith_type1 (thn (ha pos pins s σ H _ I h) fun us s1 ⟨vs, H1, I1, r1, q1⟩ => ?_) hs rfl))
  obtain ⟨a, xs, ex, hq, q⟩ := q1
  subst ex
  cases r1 with
  | cons r rr =>
    cases rr
    cases r
    obtain ⟨its, rv, p', hz⟩ := I1.tuple hq
    have hal : a < s1.heap.objs.size := p'.lt
    refine call_enumerate_tuple (isTuple_of p') fun h' he hit hsz hk => wpAny_pyIter_enum he ?_
    have I2 : Inv X pins σ H1 { s1 with heap := h' } := I1.kept (t' := s1.toks) hk
    refine ⟨s1.heap.objs.size + 1, [s1.heap.objs.size + 1, s1.heap.objs.size], _, _, H1, rfl, I2, turn_enumT a (s1.heap.objs.size + 1) s1.heap.objs.size (Nat.succ_ne_self _) (Nat.ne_of_lt hal) (Nat.ne_of_lt (Nat.lt_succ_of_lt hal)), ⟨⟨.none, he⟩, hit⟩, fun b hb => ?_, q⟩
    have e' : b = s1.heap.objs.size + 1 ∨ b = s1.heap.objs.size := by simpa using hb
    have hle : s1.heap.objs.size ≤ b := by
      rcases e' with z | z
      · rw [z]; exact Nat.le_add_right _ _
      · rw [z]; exact Nat.le_refl _
    exact I1.fpOk hle (I1.hok.fresh hle)
/-- [.. for c in text] -/
theorem lc_str {x : Str} {g : TG} {tt : TT} {te : TE} {vs : List Nat} {σ : St} {H1 : Hp} {D : Addr} {Qd : Hp → Prop} (Pv : Nat → Hp → Prop) (h0 : Pv 0 (upd H1 D (.lst [])))
    (hs : ∀ i c H, x.cps.toList[i]? = some c → Pv i H → g (.str ⟨#[c]⟩) (wipe σ vs) H fun σ2 H2 => wipe σ2 vs = wipe σ vs ∧ tt σ2 H2 fun b H3 =>
      if b = true then te σ2 H3 fun y H4 => ∃ acc, H4 D = some (.lst acc) ∧ acc.length < sizeLine ∧ Pv (i + 1) (upd H4 D (.lst (acc ++ [y]))) else Pv (i + 1) H3) (hd : ∀ H, Pv x.cps.size H → Qd H) :
    ∃ W : Nat → Nat → Hp → Prop, (∃ m, W 0 m (upd H1 D (.lst []))) ∧ ∀ i m H, W i m H →
      ((Its x).stop i H ∧ Qd H) ∨ ((Its x).go i H ∧ ∃ Nx : Hp → Prop, (∀ H', Nx H' → ∃ m', m' < m ∧ W (i + 1) m' H') ∧ ∀ v H', (Its x).yld i H v H' → g v (wipe σ vs) H' fun σ2 H2 => wipe σ2 vs = wipe σ vs ∧ tt σ2 H2 fun b H3 =>
        if b = true then te σ2 H3 fun y H4 => ∃ acc, H4 D = some (.lst acc) ∧ acc.length < sizeLine ∧ Nx (upd H4 D (.lst (acc ++ [y]))) else Nx H3) := by
  refine ⟨fun i m H => m = x.cps.size - i ∧ i ≤ x.cps.size ∧ Pv i H, ⟨x.cps.size, by simp, Nat.zero_le _, h0⟩, ?_⟩
  rintro i m H ⟨rfl, hi, p⟩
  by_cases hlt : i < x.cps.size
  · refine .inr ⟨hlt, Pv (i + 1), fun H' p' => ⟨x.cps.size - (i + 1), by omega, rfl, hlt, p'⟩, fun v H' y => ?_⟩
    obtain ⟨e, c, hc, rfl⟩ := y
    subst e
    exact hs i c _ (by simpa using hc) p
  · have e : i = x.cps.size := by omega
    subst e
    exact .inl ⟨Nat.le_refl _, hd H p⟩
end L2

set_option Elab.async false
set_option linter.all false
set_option maxRecDepth 100000
namespace L2
open PySem PySem.Spec PyProof.Rows
theorem Same.seqT {K : PySem.W.Frag} {H H' : Hp} {a : Addr} {xs : List V} (e : Same H H') (h : SqT K H a xs) : SqT K H' a xs := by
  rcases h with (h | ⟨o, h⟩) | h
  · exact .inl (.inl (e _ _ h))
  · exact .inl (.inr ⟨o, e _ _ h⟩)
  · exact .inr h
theorem Same.new {H : Hp} {a : Addr} {o : HO} (h : H a = none) : Same H (upd H a o) := fun b u e => by rw [upd_ne (ne_of_none e h)]; exact e
theorem Same.updNew {H H' : Hp} {a : Addr} {o : HO} (s : Same H H') (h : H a = none) : Same H (upd H' a o) := fun b u e => by rw [upd_ne (ne_of_none e h)]; exact s b u e
/-- all but the thing at d is as it was -/
def SameB (d : Addr) (H H' : Hp) : Prop := ∀ b o, H b = some o → b ≠ d → H' b = some o
theorem SameB.refl (d : Addr) (H : Hp) : SameB d H H := fun _ _ h _ => h
theorem SameB.trans {d : Addr} {H H1 H2 : Hp} (a : SameB d H H1) (b : SameB d H1 H2) : SameB d H H2 := fun c o h n => b c o (a c o h n) n
theorem Same.but {d : Addr} {H H' : Hp} (a : Same H H') : SameB d H H' := fun c o h _ => a c o h
theorem SameB.same {d : Addr} {H H1 H2 : Hp} (a : SameB d H H1) (b : Same H1 H2) : SameB d H H2 := a.trans b.but
theorem SameB.upd {d : Addr} {H H' : Hp} {o : HO} (s : SameB d H H') : SameB d H (upd H' d o) := fun b u e n => by rw [upd_ne n]; exact s b u e n
theorem SameB.updNew {d a : Addr} {H H' : Hp} {o : HO} (s : SameB d H H') (h : H a = none) : SameB d H (L2.upd H' a o) := fun b u e n => by rw [upd_ne (ne_of_none e h)]; exact s b u e n
theorem SameB.free {d : Addr} {H H' : Hp} (e : SameB d H H') {l : Addr} (n : l ≠ d) (h : H' l = none) : H l = none := by
  cases q : H l with
  | none => rfl
  | some o => rw [e l o q n] at h; cases h
theorem SameB.seqT {K : PySem.W.Frag} {d : Addr} {H H' : Hp} {a : Addr} {xs ys : List V} (e : SameB d H H') (hd : H d = some (.lst ys)) (h : SqT K H a xs) : SqT K H' a xs := by
  rcases h with (h | ⟨o, h⟩) | h
  · exact .inl (.inl (e _ _ h (ne_of h hd (by intro z; cases z))))
  · exact .inl (.inr ⟨o, e _ _ h (ne_of h hd (by intro z; cases z))⟩)
  · exact .inr h
theorem Qb {Q : VK} {b c : Bool} {H : Hp} (h : Q (.bl b) H) (e : b = c) : Q (.bl c) H := e ▸ h
/-- the drawing bag at b, its cells at c -/
def Bag (H : Hp) (b c : Addr) : Prop := ∃ (i j z : Int) (cells : List Int), H b = some (.lst [.ref c, .int i, .int j, .int z]) ∧ H c = some (.lst (cells.map V.int)) ∧ c ≠ b ∧ 0 ≤ i
theorem Bag.lst {H : Hp} {b c : Addr} (B : Bag H b c) : ∃ ys, H b = some (.lst ys) := let ⟨_, _, _, _, h, _⟩ := B; ⟨_, h⟩
theorem Bag.same {H H' : Hp} {b c : Addr} (B : Bag H b c) (s : Same H H') : Bag H' b c := let ⟨i, j, z, cells, h, h2, h3, h4⟩ := B; ⟨i, j, z, cells, s _ _ h, s _ _ h2, h3, h4⟩
theorem Bag.ne {H : Hp} {b c l : Addr} (B : Bag H b c) (h : H l = none) : l ≠ b := fun e => by
  obtain ⟨_, _, _, _, hb, _⟩ := B
  rw [e, hb] at h; cases h
theorem Bag.neC {H : Hp} {b c l : Addr} (B : Bag H b c) (h : H l = none) : l ≠ c := fun e => by
  obtain ⟨_, _, _, _, _, hc, _⟩ := B
  rw [e, hc] at h; cases h
theorem Bag.new {H : Hp} {b c l : Addr} {o : HO} (B : Bag H b c) (h : H l = none) : Bag (upd H l o) b c := B.same (Same.new h)
theorem Bag.put {H : Hp} {b c l : Addr} {o : HO} (B : Bag H b c) (h1 : l ≠ b) (h2 : l ≠ c) : Bag (upd H l o) b c := let ⟨i, j, z, cells, g, g2, g3, g4⟩ := B; ⟨i, j, z, cells, by rw [upd_ne h1.symm]; exact g, by rw [upd_ne h2.symm]; exact g2, g3, g4⟩
/-- pull's promise: a number below n, the bag a bag again, all else as it was -/
def spPull : Sp := fun vs H Q _ => ∃ (b c : Addr) (n : Int), vs = [.ref b, .int n] ∧ Bag H b c ∧ 0 < n ∧ n < 1073741824 ∧ ∀ (r : Int) (H' : Hp), 0 ≤ r → r < n → Bag H' b c → SameB b H H' → Q (.int r) H'
theorem mod_lo {x m : Int} (h : 0 < m) : 0 ≤ x % m := Int.emod_nonneg _ (by omega)
theorem mod_hi {x m : Int} (h : 0 < m) : x % m < m := Int.emod_lt_of_pos _ h
/-- t * t of a rest by a number below 2^64 -/
theorem cmul_mod {x m y : Int} (h : 0 < m) (h' : m < 2 ^ 64) : CMul (x % m) y := .inl ⟨by have := mod_lo (x := x) h; omega, by have := mod_hi (x := x) h; omega⟩
end L2

set_option Elab.async false
set_option linter.all false
set_option maxRecDepth 100000
namespace L2
open PySem PySem.Spec PyProof.Rows
/-- an expression that is worth v and changes nothing; a test -/
def Is (t : TE) (σ : St) (H : Hp) (v : V) : Prop := ∀ Q : VK, Q v H → t σ H Q
def IsT (t : TT) (σ : St) (H : Hp) (b : Bool) : Prop := ∀ Q : Bool → Hp → Prop, Q b H → t σ H Q
section
variable {σ : St} {H : Hp} {ta tb tc : TE} {x y z : Int}
theorem Is.var {i : Nat} {v : V} (h : σ[i]? = some (some v)) : Is (tVar i) σ H v := fun _ q => ⟨v, h, q⟩
theorem Is.const {v : V} : Is (tC v) σ H v := fun _ q => q
theorem Is.un {g : Int → V} (a : Is ta σ H (.int x)) : Is (tUn (rU g) ta) σ H (g x) := fun _ q => a _ ⟨x, rfl, q⟩
theorem Is.chain {p q : Int → Int → Bool} (a : Is ta σ H (.int x)) (b : Is tb σ H (.int y)) (c : Is tc σ H (.int z)) :
    Is (tChain (rI0 fun i j => .bl (p i j)) (rI0 fun i j => .bl (q i j)) ta tb tc) σ H (.bl (p x y && q y z)) := fun Q h => by
  refine a _ (b _ ⟨x, y, rfl, rfl, _, rfl, ?_⟩)
  cases e : p x y with
  | true => rw [e, Bool.true_and] at h; exact iteT (c _ ⟨y, z, rfl, rfl, h⟩)
  | false => rw [e, Bool.false_and] at h; exact iteF h
theorem Is.neB {a b : Bool} (ha : Is ta σ H (.bl a)) (hb : Is tb σ H (.bl b)) : Is (tOp rNe ta tb) σ H (.bl (!decide (a = b))) := fun Q h => by
  refine ha _ (hb _ ⟨rfl, ?_⟩)
  have e : decide (V.bl a = V.bl b) = decide (a = b) := decide_eq_decide.mpr ⟨fun z => V.bl.inj z, fun z => by rw [z]⟩
  rw [e]; exact h
theorem Is.andV {a b : Bool} (ha : Is ta σ H (.bl a)) (hb : a = true → Is tb σ H (.bl b)) : Is (tAndV ta tb) σ H (.bl (a && b)) := fun Q h => by
  refine ha _ ⟨_, rfl, ?_⟩
  cases a with
  | true => exact iteT (hb rfl _ h)
  | false => exact iteF h
theorem Is.isN_t (ha : Is ta σ H .non) : Is (tOp (fun x y H Q => y = .non ∧ Q (.bl (decide (x = .non))) H) ta (tC .non)) σ H (.bl true) := fun Q h => ha _ ⟨rfl, by rw [decide_eq_true rfl]; exact h⟩
theorem Is.isN_f {v : V} (ha : Is ta σ H v) (hv : v ≠ .non) : Is (tOp (fun x y H Q => y = .non ∧ Q (.bl (decide (x = .non))) H) ta (tC .non)) σ H (.bl false) := fun Q h => ha _ ⟨rfl, by rw [decide_eq_false hv]; exact h⟩
theorem IsT.test {b : Bool} (h : Is ta σ H (.bl b)) : IsT (tTest ta) σ H b := fun Q q => h _ ⟨b, rfl, q⟩
theorem IsT.val {b : Bool} (h : Is ta σ H (.bl b)) : IsT (tB ta) σ H b := fun Q q => h _ ⟨b, rfl, q⟩
theorem IsT.not {t : TT} {b : Bool} (h : IsT t σ H b) : IsT (tNot t) σ H (!b) := fun Q q => h _ q
theorem IsT.and {t u : TT} {a b : Bool} (h : IsT t σ H a) (h' : a = true → IsT u σ H b) : IsT (tAnd t u) σ H (a && b) := fun Q q => by
  refine h _ ?_
  cases a with
  | true => exact iteT (h' rfl _ q)
  | false => exact iteF q
theorem IsT.or {t u : TT} {a b : Bool} (h : IsT t σ H a) (h' : a = false → IsT u σ H b) : IsT (tOr t u) σ H (a || b) := fun Q q => by
  refine h _ ?_
  cases a with
  | true => exact iteT q
  | false => exact iteF (h' rfl _ q)
theorem IsT.cast {t : TT} {a b : Bool} (h : IsT t σ H a) (e : a = b) : IsT t σ H b := e ▸ h
theorem Is.cast {a b : V} (h : Is ta σ H a) (e : a = b) : Is ta σ H b := e ▸ h
theorem Is.lenT {K : PySem.W.Frag} {p : Addr} {ys : List V} (a : Is ta σ H (.ref p)) (h : SqT K H p ys) :
    Is (tCB (fun xs H Q => ∃ p ys, xs = [.ref p] ∧ (SqL K H p ys ∨ SqT K H p ys) ∧ Q (.int ys.length) H) (tCons ta tNil)) σ H (.int ys.length) := fun _ q => a _ ⟨p, ys, rfl, .inr h, q⟩
theorem Is.lenS {s : Str} (a : Is ta σ H (.str s)) (h : s.length ≤ sizeLine) :
    Is (tCB (fun xs H Q => ∃ z, xs = [.str z] ∧ z.length ≤ sizeLine ∧ Q (.int z.length) H) (tCons ta tNil)) σ H (.int s.length) := fun _ q => a _ ⟨s, rfl, h, q⟩
theorem Is.isi {K : PySem.W.Frag} {v : V} {ty : Value} {n : String} {b : Bool} (a : Is ta σ H v) (h : TyOf K H v ty) (e : PySem.W.kitOne K ty (.type n) = some b) :
    Is (tCB (fun xs H Q => ∃ (x : V) (t : Value) (n : String) (b : Bool), xs = [x, .ty n] ∧ TyOf K H x t ∧ PySem.W.kitOne K t (.type n) = some b ∧ Q (.bl b) H) (tCons ta (tCons (tC (.ty n)) tNil))) σ H (.bl b) := fun _ q => a _ ⟨v, ty, n, b, rfl, h, e, q⟩
theorem rd_ifT {c : TT} {t u : TS} {D : Ends} (h : IsT c σ H true) (h1 : t D σ H) : tIfS c t u D σ H := h _ (iteT h1)
theorem rd_ifF {c : TT} {t u : TS} {D : Ends} (h : IsT c σ H false) (h1 : u D σ H) : tIfS c t u D σ H := h _ (iteF h1)
theorem Is.eqS {v : V} (a : Is ta σ H v) (b : Is tb σ H v) (h : scal v v = true) : Is (tOp rEq ta tb) σ H (.bl true) := fun Q q => a _ (b _ ⟨h, by rw [decide_eq_true rfl]; exact q⟩)
theorem rIx_of {K : PySem.W.Frag} {p : Addr} {xs : List V} {i : Int} {v : V} {Q : VK} (h : SqL K H p xs ∨ SqT K H p xs) (e : atI xs i = some v) (q : Q v H) : rIx K (.ref p) (.int i) H Q :=
  h.elim (fun h => .inl ⟨p, xs, i, v, rfl, rfl, h, e, q⟩) fun h => .inr (.inl ⟨p, xs, i, v, rfl, rfl, h, e, q⟩)
/-- an if by its test's worth -/
theorem rd_if {c : TT} {t u : TS} {D : Ends} {b : Bool} (h : IsT c σ H b) (h1 : b = true → t D σ H) (h2 : b = false → u D σ H) : tIfS c t u D σ H := by
  refine h _ ?_
  cases b with
  | true => exact iteT (h1 rfl)
  | false => exact iteF (h2 rfl)
end
theorem acc_step {α : Type} {l : List α} {f : α → Bool} {i : Nat} {x : α} (h : l[i]? = some x) : ((l.take i).map f).map V.bl ++ [V.bl (f x)] = ((l.take (i + 1)).map f).map V.bl := by
  rw [List.take_succ, h]; simp
theorem acc_len {α : Type} {l : List α} {f : α → Bool} {i : Nat} {x : α} (h : l[i]? = some x) (hl : l.length ≤ sizeLine) : (((l.take i).map f).map V.bl).length < sizeLine := by
  have := (List.getElem?_eq_some_iff.mp h).1
  rw [List.length_map, List.length_map, List.length_take]; omega
theorem all_map {α : Type} (l : List α) (f : α → Bool) : (l.map f).all id = l.all f := by rw [List.all_map]; rfl
/-- the letters -/
def az : Str := "abcdefghijklmnopqrstuvwxyz"
def nameB (z : Str) : Bool := (decide ((1 : Int) ≤ (z.length : Int)) && decide ((z.length : Int) ≤ 6)) && z.cps.toList.all fun c => decide (c ∈ az.cps.toList)
def namesB (ns : List Str) : Bool := decide (ns.length ≤ 40) && (decide ns.Nodup && ns.all nameB)
def arrowB (n : Nat) : List Int → Bool
  | [a, b, l, w] => ((decide (0 ≤ a) && decide (a < n)) && (decide (0 ≤ b) && decide (b < n))) && ((decide (1 ≤ l) && decide (l ≤ 3)) && (decide (1 ≤ w) && decide (w ≤ 9)))
  | _ => false
def sayingB (n : Nat) : List Int → Bool
  | [a, b, l] => ((decide (0 ≤ a) && decide (a < n)) && (decide (0 ≤ b) && decide (b < n))) && ((!decide (a = b)) && (decide (-9 ≤ l) && decide (l ≤ 9)))
  | _ => false
theorem sl_big : 1000000 ≤ sizeLine := by decide
theorem not_t {b : Bool} (h : (!b) = true) : b = false := by cases b <;> simp_all
theorem not_f {b : Bool} (h : (!b) = false) : b = true := by cases b <;> simp_all
structure Web where
  names : List Str
  arrows : List (List Int)
  sayings : List (List Int)
def webB (W : Web) : Bool := decide (W.arrows.length ≤ 80) && (decide (W.sayings.length ≤ 20) && (namesB W.names && (W.arrows.all (arrowB W.names.length) && W.sayings.all (sayingB W.names.length))))
def RowAt (K : PySem.W.Frag) (H : Hp) (p : Addr) (row : List Int) : Prop := SqT K H p (row.map V.int)
def RowsAt (K : PySem.W.Frag) (H : Hp) : List Addr → List (List Int) → Prop := Paired (RowAt K H)
/-- a tuple of rows stands at r -/
def RTup (K : PySem.W.Frag) (H : Hp) (r : Addr) (rows : List (List Int)) : Prop := ∃ ra : List Addr, SqT K H r (ra.map V.ref) ∧ RowsAt K H ra rows
/-- a web stands at a -/
def WebAt (K : PySem.W.Frag) (H : Hp) (a : Addr) (W : Web) : Prop := ∃ n r s : Addr, SqT K H a [.ref n, .ref r, .ref s] ∧ SqT K H n (W.names.map V.str) ∧ RTup K H r W.arrows ∧ RTup K H s W.sayings
section
variable {K : PySem.W.Frag} {H H' : Hp} {a d : Addr} {ys : List V}
theorem RTup.imp {r : Addr} {rows : List (List Int)} (f : ∀ a xs, SqT K H a xs → SqT K H' a xs) (h : RTup K H r rows) : RTup K H' r rows := let ⟨ra, h1, h2⟩ := h; ⟨ra, f _ _ h1, Paired.mapP h2 fun p row q => f _ _ q⟩
theorem WebAt.imp {W : Web} (f : ∀ a xs, SqT K H a xs → SqT K H' a xs) (h : WebAt K H a W) : WebAt K H' a W := let ⟨n, r, s, h1, h2, h3, h4⟩ := h; ⟨n, r, s, f _ _ h1, f _ _ h2, h3.imp f, h4.imp f⟩
theorem WebAt.same {W : Web} (h : WebAt K H a W) (e : Same H H') : WebAt K H' a W := h.imp fun _ _ => e.seqT
theorem WebAt.sameB {W : Web} (h : WebAt K H a W) (e : SameB d H H') (hd : H d = some (.lst ys)) : WebAt K H' a W := h.imp fun _ _ => e.seqT hd
theorem RTup.same {r : Addr} {rows : List (List Int)} (h : RTup K H r rows) (e : Same H H') : RTup K H' r rows := h.imp fun _ _ => e.seqT
theorem RTup.sameB {r : Addr} {rows : List (List Int)} (h : RTup K H r rows) (e : SameB d H H') (hd : H d = some (.lst ys)) : RTup K H' r rows := h.imp fun _ _ => e.seqT hd
end
/-! the promises of what judges webs -/
def spName : Sp := fun vs H Q _ => ∃ z : Str, vs = [.str z] ∧ z.length ≤ sizeLine ∧ ∀ H', Same H H' → Q (.bl (nameB z)) H'
end L2

set_option Elab.async false
set_option linter.all false
set_option maxRecDepth 100000
namespace L2
open PySem PySem.Spec PyProof.Rows
theorem Same.new2 {H H' : Hp} {p : Addr} {o : HO} (s : Same H H') (hp : H' p = none) : Same H (upd H' p o) := fun c u e => by rw [upd_ne (ne_of_none (s c u e) hp)]; exact s c u e
theorem SameB.new {d : Addr} {H H' : Hp} {p : Addr} {o : HO} (s : SameB d H H') (hp : H' p = none) : SameB d H (L2.upd H' p o) := fun c u e n => by rw [upd_ne (ne_of_none (s c u e n) hp)]; exact s c u e n
/-- tuples stay -/
def Tu (H H' : Hp) : Prop := ∀ a xs, H a = some (.tup xs) → H' a = some (.tup xs)
theorem Tu.refl (H : Hp) : Tu H H := fun _ _ h => h
theorem Tu.trans {H H1 H2 : Hp} (a : Tu H H1) (b : Tu H1 H2) : Tu H H2 := fun c x h => b c x (a c x h)
theorem Same.tu {H H' : Hp} (s : Same H H') : Tu H H' := fun a xs h => s a _ h
theorem SameB.tu {d : Addr} {H H' : Hp} {ys : List V} (s : SameB d H H') (hd : H d = some (.lst ys)) : Tu H H' := fun a xs h => s a _ h (ne_of h hd (by intro z; cases z))
theorem Bag.tu {b c : Addr} {H H' : Hp} (B : Bag H b c) (s : SameB b H H') : Tu H H' := let ⟨_, h⟩ := B.lst; s.tu h
theorem Tu.put {H : Hp} {l : Addr} {xs : List V} {o : HO} (hl : H l = some (.lst xs)) : Tu H (upd H l o) := (SameB.refl l H).upd.tu hl
/-! rows and webs, straight -/
def RowH (H : Hp) (p : Addr) (row : List Int) : Prop := H p = some (.tup (row.map V.int))
def RowsH (H : Hp) : List Addr → List (List Int) → Prop := Paired (RowH H)
def RTupH (H : Hp) (r : Addr) (rows : List (List Int)) : Prop := ∃ ra : List Addr, H r = some (.tup (ra.map V.ref)) ∧ RowsH H ra rows
structure WebH (H : Hp) (a : Addr) (W : Web) (n r s : Addr) : Prop where
  tup : H a = some (.tup [.ref n, .ref r, .ref s])
  nam : H n = some (.tup (W.names.map V.str))
  arr : RTupH H r W.arrows
  say : RTupH H s W.sayings
theorem RowsH.tu {H H' : Hp} {ra : List Addr} {rows : List (List Int)} (h : RowsH H ra rows) (s : Tu H H') : RowsH H' ra rows := Paired.mapP h fun p row q => s _ _ q
theorem RTupH.tu {H H' : Hp} {r : Addr} {rows : List (List Int)} (h : RTupH H r rows) (s : Tu H H') : RTupH H' r rows := let ⟨ra, h1, h2⟩ := h; ⟨ra, s _ _ h1, h2.tu s⟩
theorem WebH.tu {H H' : Hp} {a n r s : Addr} {W : Web} (h : WebH H a W n r s) (t : Tu H H') : WebH H' a W n r s := ⟨t _ _ h.tup, t _ _ h.nam, h.arr.tu t, h.say.tu t⟩
theorem RTupH.at {K : PySem.W.Frag} {H : Hp} {r : Addr} {rows : List (List Int)} (h : RTupH H r rows) : RTup K H r rows := let ⟨ra, h1, h2⟩ := h; ⟨ra, SqT.of h1, Paired.mapP h2 fun p row q => SqT.of q⟩
theorem WebH.at {K : PySem.W.Frag} {H : Hp} {a n r s : Addr} {W : Web} (h : WebH H a W n r s) : WebAt K H a W := ⟨n, r, s, SqT.of h.tup, SqT.of h.nam, h.arr.at, h.say.at⟩
theorem RowsH.snoc {H : Hp} {ra : List Addr} {rows : List (List Int)} {p : Addr} {row : List Int} (h : RowsH H ra rows) (q : RowH H p row) : RowsH H (ra ++ [p]) (rows ++ [row]) := by
  induction h with
  | nil => exact .cons q .nil
  | cons a b ih => exact .cons a ih
/-! slices of lists -/
theorem cutV_from {xs : List V} {a : Int} (h : 0 ≤ a) : cutV xs (some a) none = xs.drop (min a.toNat xs.length) := by
  unfold cutV HT.sIx
  simp only [if_neg (show ¬ a < 0 by omega)]
  rw [List.take_of_length_le]
  rw [List.length_drop]; omega
theorem cutV_to {xs : List V} {a : Int} (h : 0 ≤ a) : cutV xs none (some a) = xs.take (min a.toNat xs.length) := by
  unfold cutV HT.sIx
  simp only [if_neg (show ¬ a < 0 by omega), List.drop_zero, Nat.sub_zero]
theorem take_min {α : Type} (xs : List α) (n : Nat) : xs.take (min n xs.length) = xs.take n := by
  rcases Nat.le_total n xs.length with h | h
  · rw [Nat.min_eq_left h]
  · rw [Nat.min_eq_right h, List.take_of_length_le (Nat.le_refl _), List.take_of_length_le h]
theorem drop_min {α : Type} (xs : List α) (n : Nat) : xs.drop (min n xs.length) = xs.drop n := by
  rcases Nat.le_total n xs.length with h | h
  · rw [Nat.min_eq_left h]
  · rw [Nat.min_eq_right h, List.drop_of_length_le (Nat.le_refl _), List.drop_of_length_le h]
/-! the names that are drawn -/
def tails : List Str := ["", "", "x", "box", "zzzzz", "a"]
def fst (k : Nat) : Str := (⟨#[az.cps.toList.getD (k % 26) 0]⟩ : Str) ++ repS "q" ((0 + (k : Int)) / 26)
def nm (k r : Nat) : Str := cutS (fst k ++ tails.getD r "") none (some 6)
def keyOf (s : Str) : Nat := (az.cps.toList.idxOf (s.cps.toList.getD 0 0)) + (if s.cps.toList.getD 1 0 = 113 then 26 else 0)
theorem nm_facts : ∀ k, k < 40 → ∀ r, r < 6 → ((fst k).length + (tails.getD r "").length ≤ 100 ∧ (fst k ++ tails.getD r "").length ≤ 100) ∧ keyOf (nm k r) = k ∧ nameB (nm k r) = true ∧ (nm k r).length ≤ 6 := by decide +kernel
theorem fst_facts : ∀ k : Nat, k < 40 → (repS "q" ((0 + (k : Int)) / 26)).length ≤ 10 := by decide +kernel
theorem tails_at {r : Int} (h0 : 0 ≤ r) (h1 : r < 6) : atI (tails.map V.str) r = some (.str (tails.getD r.toNat "")) := by
  have : r = 0 ∨ r = 1 ∨ r = 2 ∨ r = 3 ∨ r = 4 ∨ r = 5 := by omega
  rcases this with e | e | e | e | e | e <;> (subst e; rfl)
theorem nodup_by_key {l : List Str} (h : ∀ j s, l[j]? = some s → keyOf s = j) : l.Nodup := by
  refine List.pairwise_iff_getElem.mpr fun i j hi hj hij e => ?_
  have k1 := h i _ (by simp [hi] : l[i]? = some l[i])
  have k2 := h j _ (by simp [hj] : l[j]? = some l[j])
  rw [e] at k1
  omega
def spBag (K : PySem.W.Frag) : Sp := fun vs H Q _ => ∃ (a : Addr) (ns : List Int), vs = [.ref a] ∧ SqL K H a (ns.map V.int) ∧ ns.length ≤ 63 ∧ ∀ (b c : Addr) (H' : Hp), Bag H' b c → Same H H' → H b = none → Q (.ref b) H'
/-! what the comparison of answers takes -/
def scl : V → Bool
  | .non => true | .bl _ => true | .int _ => true | .str _ => true | _ => false
def Alk (H : Hp) : Nat → V → V → Prop
  | 0, x, y => x = y ∧ scl x = true
  | n + 1, x, y => (x = y ∧ scl x = true) ∨ ∃ (p q : Addr) (xs ys : List V), x = .ref p ∧ y = .ref q ∧ ((H p = some (.lst xs) ∧ H q = some (.lst ys)) ∨ (H p = some (.tup xs) ∧ H q = some (.tup ys))) ∧ Paired (Alk H n) xs ys ∧ ys.length ≤ 100000
theorem Alk.same {H H' : Hp} (s : Same H H') : ∀ {n : Nat} {x y : V}, Alk H n x y → Alk H' n x y
  | 0, _, _, h => h
  | n + 1, x, y, h => by
    rcases h with h | ⟨p, q, xs, ys, e1, e2, h, pr, hl⟩
    · exact .inl h
    · refine .inr ⟨p, q, xs, ys, e1, e2, ?_, Paired.mapP pr fun a b z => Alk.same s z, hl⟩
      rcases h with ⟨h1, h2⟩ | ⟨h1, h2⟩
      · exact .inl ⟨s _ _ h1, s _ _ h2⟩
      · exact .inr ⟨s _ _ h1, s _ _ h2⟩
def spAlike (n : Nat) : Sp := fun vs H Q _ => ∃ x y : V, vs = [x, y] ∧ Alk H n x y ∧ ∀ H', Same H H' → Q (.bl true) H'
def spWhole : Sp := fun vs H Q _ => ∃ i : Int, vs = [.int i] ∧ Q (.bl true) H
end L2

set_option Elab.async false
set_option linter.all false
set_option maxRecDepth 100000
namespace L2
open PySem PySem.Spec PyProof.Rows
section
variable {X : Cx}
theorem Paired.rep {α β : Type} {F : α → β → Prop} {xs : List α} {ys : List β} (h : Paired F xs ys) : ∀ n : Nat, Paired F (List.replicate n xs).flatten (List.replicate n ys).flatten
  | 0 => .nil
  | n + 1 => by
    rw [List.replicate_succ, List.replicate_succ, List.flatten_cons, List.flatten_cons]
    exact Paired.app h (Paired.rep h n)
where Paired.app {α β : Type} {F : α → β → Prop} : ∀ {xs xs' : List α} {ys ys' : List β}, Paired F xs ys → Paired F xs' ys' → Paired F (xs ++ xs') (ys ++ ys')
  | _, _, _, _, .nil, h => h
  | _, _, _, _, .cons a t, h => .cons a (Paired.app t h)
end
end L2

set_option Elab.async false
set_option linter.all false
set_option maxRecDepth 100000
namespace L2
open PySem PySem.Spec PyProof.Rows
/-- one can go from a to the box -/
inductive Rch (E : Int → Int → Prop) (a : Int) : Int → Prop
  | refl : Rch E a a
  | step {b c : Int} : Rch E a b → E b c → Rch E a c
theorem Rch.mono {E F : Int → Int → Prop} (h : ∀ x y, E x y → F x y) {a b : Int} (r : Rch E a b) : Rch F a b := by
  induction r with
  | refl => exact .refl
  | step _ e ih => exact .step ih (h _ _ e)
theorem Rch.trans {E : Int → Int → Prop} {a b c : Int} (h : Rch E a b) (h' : Rch E b c) : Rch E a c := by
  induction h' with
  | refl => exact h
  | step _ e ih => exact .step ih e
/-! a dict by its int keys, in order -/
/-! pairs of numbers at tuples -/
def PairH (H : Hp) (p : Addr) (x : Int × Int) : Prop := H p = some (.tup [.int x.1, .int x.2])
def PairsH (H : Hp) : List Addr → List (Int × Int) → Prop := Paired (PairH H)
/-- a list of such tuples stands at l -/
def LPairs (H : Hp) (l : Addr) (ps : List (Int × Int)) : Prop := ∃ pa : List Addr, H l = some (.lst (pa.map V.ref)) ∧ PairsH H pa ps
theorem PairsH.tu {H H' : Hp} {pa : List Addr} {ps : List (Int × Int)} (h : PairsH H pa ps) (s : Tu H H') : PairsH H' pa ps := Paired.mapP h fun p x q => s _ _ q
theorem PairsH.snoc {H : Hp} {pa : List Addr} {ps : List (Int × Int)} {p : Addr} {x : Int × Int} (h : PairsH H pa ps) (q : PairH H p x) : PairsH H (pa ++ [p]) (ps ++ [x]) := by
  induction h with
  | nil => exact .cons q .nil
  | cons a b ih => exact .cons a ih
theorem LPairs.same {H H' : Hp} {l : Addr} {ps : List (Int × Int)} (h : LPairs H l ps) (s : Same H H') : LPairs H' l ps := let ⟨pa, h1, h2⟩ := h; ⟨pa, s _ _ h1, h2.tu s.tu⟩
/-- the arrows that may be gone along, as a relation -/
def EdP (ps : List (Int × Int)) (a b : Int) : Prop := (a, b) ∈ ps
/-- the lists of steps: for each box the pairs (arrow, next box) -/
def StepsH (H : Hp) (S : Addr) (sa : List Addr) (adj : List (List (Int × Int))) : Prop := H S = some (.lst (sa.map V.ref)) ∧ Paired (LPairs H) sa adj
theorem StepsH.same {H H' : Hp} {S : Addr} {sa : List Addr} {adj : List (List (Int × Int))} (h : StepsH H S sa adj) (s : Same H H') : StepsH H' S sa adj := ⟨s _ _ h.1, Paired.mapP h.2 fun a ps q => q.same s⟩
def EdA (adj : List (List (Int × Int))) (a b : Int) : Prop := 0 ≤ a ∧ ∃ p, (p, b) ∈ adj.getD a.toNat []
/-- where a walk came by, in order: the start first; each other by an arrow from one ahead of it -/
def Came (H : Hp) (adj : List (List (Int × Int))) (start : Int) (ks : List (Int × V)) : Prop :=
  (ks.map (·.1)).Nodup ∧ ks[0]? = some (start, .non) ∧ ∀ i k v, 0 < i → ks[i]? = some (k, v) → ∃ (t : Addr) (ar pr : Int) (j : Nat) (u : V), v = .ref t ∧ H t = some (.tup [.int ar, .int pr]) ∧ j < i ∧ ks[j]? = some (pr, u) ∧ 0 ≤ pr ∧ (ar, k) ∈ adj.getD pr.toNat []
theorem Came.tu {H H' : Hp} {adj : List (List (Int × Int))} {f : Int} {ks : List (Int × V)} (h : Came H adj f ks) (s : Tu H H') : Came H' adj f ks := by
  obtain ⟨h1, h2, h3⟩ := h
  refine ⟨h1, h2, fun i k v hi e => ?_⟩
  obtain ⟨t, ar, pr, j, u, e1, e2, r⟩ := h3 i k v hi e
  exact ⟨t, ar, pr, j, u, e1, s _ _ e2, r⟩
/-- one box more -/
theorem Came.snoc {H : Hp} {adj : List (List (Int × Int))} {f : Int} {ks : List (Int × V)} {k : Int} {t : Addr} {ar pr : Int} (h : Came H adj f ks) (hk : k ∉ ks.map (·.1)) (ht : H t = some (.tup [.int ar, .int pr])) (hp : pr ∈ ks.map (·.1)) (h0 : 0 ≤ pr) (hm : (ar, k) ∈ adj.getD pr.toNat []) : Came H adj f (ks ++ [(k, .ref t)]) := by
  obtain ⟨h1, h2, h3⟩ := h
  have hpos : 0 < ks.length := (List.getElem?_eq_some_iff.mp h2).1
  refine ⟨by rw [List.map_append]; exact nd_snoc h1 hk, by rw [List.getElem?_append_left hpos]; exact h2, fun i k' v hi e => ?_⟩
  by_cases hlt : i < ks.length
  · rw [List.getElem?_append_left hlt] at e
    obtain ⟨t, ar, pr, j, u, e1, e2, e3, e4, r⟩ := h3 i k' v hi e
    exact ⟨t, ar, pr, j, u, e1, e2, e3, by rw [List.getElem?_append_left (by omega)]; exact e4, r⟩
  · have hi0 : i - ks.length = 0 := by
      rw [List.getElem?_append_right (by omega)] at e
      cases q : i - ks.length with
      | zero => rfl
      | succ m => rw [q] at e; simp at e
    rw [List.getElem?_append_right (by omega), hi0] at e
    simp at e
    obtain ⟨e1, e2⟩ := e
    obtain ⟨p, hp, epr⟩ := List.mem_map.mp hp
    obtain ⟨j, hj⟩ := List.getElem?_of_mem hp
    have hjl : j < ks.length := (List.getElem?_eq_some_iff.mp hj).1
    refine ⟨t, ar, pr, j, p.2, e2.symm, ht, by omega, ?_, h0, e1 ▸ hm⟩
    rw [List.getElem?_append_left hjl, hj, ← epr]
end L2

set_option Elab.async false
set_option linter.all false
set_option maxRecDepth 100000
namespace L2
open PySem PySem.Spec PyProof.Rows
theorem paired_ix {α β : Type} {F : α → β → Prop} : ∀ {xs : List α} {ys : List β}, xs.length = ys.length → (∀ (i : Nat) (x : α) (y : β), xs[i]? = some x → ys[i]? = some y → F x y) → Paired F xs ys
  | [], [], _, _ => .nil
  | [], _ :: _, h, _ => by simp at h
  | _ :: _, [], h, _ => by simp at h
  | x :: xs, y :: ys, h, f => .cons (f 0 x y rfl rfl) (paired_ix (by simpa using h) fun i a b ha hb => f (i + 1) a b (by simpa using ha) (by simpa using hb))
/-- one pair more at the end of a list of steps -/
theorem StepsH.push {H : Hp} {S l tp : Addr} {sa pa : List Addr} {adj : List (List (Int × Int))} {ps : List (Int × Int)} {x : Nat} {p y : Int} (h : StepsH H S sa adj) (nd : sa.Nodup) (hS : S ∉ sa) (e : sa[x]? = some l) (hl : H l = some (.lst (pa.map V.ref)))
    (ea : adj[x]? = some ps) (hp : PairsH H pa ps) (ht : H tp = none) : StepsH (upd (upd H tp (.tup [.int p, .int y])) l (.lst (pa.map V.ref ++ [.ref tp]))) S sa (adj.set x (ps ++ [(p, y)])) := by
  have s1 : Same H (upd H tp (.tup [.int p, .int y])) := Same.new ht
  have tu : Tu H (upd (upd H tp (.tup [.int p, .int y])) l (.lst (pa.map V.ref ++ [.ref tp]))) := s1.tu.trans (Tu.put (s1 _ _ hl))
  have ml : l ∈ sa := List.mem_of_getElem? e
  have nlt : tp ≠ l := fun q => by rw [q, hl] at ht; cases ht
  refine ⟨by rw [upd_ne (show S ≠ l from fun q => hS (q.symm ▸ ml))]; exact s1 _ _ h.1, paired_ix (by rw [List.length_set]; exact Paired.length h.2) fun i a qs ha hq => ?_⟩
  by_cases hi : i = x
  · subst hi
    rw [e] at ha
    cases ha
    have hlt : i < adj.length := (List.getElem?_eq_some_iff.mp ea).1
    rw [List.getElem?_set_self hlt] at hq
    cases hq
    refine ⟨pa ++ [tp], by rw [upd_same, List.map_append]; rfl, (hp.tu tu).snoc ?_⟩
    show (upd _ l _) tp = _
    rw [upd_ne nlt]
    exact upd_same
  · rw [List.getElem?_set_ne (Ne.symm hi)] at hq
    obtain ⟨qs', e1, pa', g1, g2⟩ := paired_get h.2 ha
    rw [hq] at e1
    cases e1
    have hal : a ≠ l := fun q => hi (nd_ix nd (q ▸ ha) e)
    exact ⟨pa', by rw [upd_ne hal]; exact s1 _ _ g1, g2.tu tu⟩
/-! knots -/
/-! lists of numbers, lists of such lists -/
def LInts (H : Hp) (p : Addr) (l : List Int) : Prop := H p = some (.lst (l.map V.int))
def LLInts (H : Hp) (ls : List Addr) (kl : List (List Int)) : Prop := Paired (LInts H) ls kl
theorem LLInts.same {H H' : Hp} {ls : List Addr} {kl : List (List Int)} (h : LLInts H ls kl) (s : Same H H') : LLInts H' ls kl := Paired.mapP h fun p l q => s _ _ q
theorem LLInts.snoc {H : Hp} {ls : List Addr} {kl : List (List Int)} {p : Addr} {l : List Int} (h : LLInts H ls kl) (q : LInts H p l) : LLInts H (ls ++ [p]) (kl ++ [l]) := by
  induction h with
  | nil => exact .cons q .nil
  | cons a b ih => exact .cons a ih
/-- the arrows' ends -/
def endsOf (rows : List (List Int)) : List (Int × Int) := rows.map fun row => (row.getD 0 0, row.getD 1 0)
/-- steps that are just these arrows: box, place, other -/
def AdjIs (rows : List (List Int)) (keep : Nat → Bool) (adj : List (List (Int × Int))) : Prop := ∀ (x p y : Int), (0 ≤ x ∧ (p, y) ∈ adj.getD x.toNat []) ↔ ∃ (k : Nat) (row : List Int), rows[k]? = some row ∧ keep k = true ∧ p = k ∧ row.getD 0 0 = x ∧ row.getD 1 0 = y
theorem AdjIs.ed {rows : List (List Int)} {adj : List (List (Int × Int))} (h : AdjIs rows (fun _ => true) adj) (x y : Int) : EdA adj x y ↔ EdP (endsOf rows) x y := by
  constructor
  · rintro ⟨x0, p, hp⟩
    obtain ⟨k, row, e, _, _, e1, e2⟩ := (h x p y).mp ⟨x0, hp⟩
    exact List.mem_map.mpr ⟨row, List.mem_of_getElem? e, by rw [e1, e2]⟩
  · intro hm
    obtain ⟨row, hr, e⟩ := List.mem_map.mp hm
    obtain ⟨k, ek⟩ := List.getElem?_of_mem hr
    obtain ⟨x0, hp⟩ := (h x (k : Int) y).mpr ⟨k, row, ek, rfl, rfl, (Prod.mk.inj e).1, (Prod.mk.inj e).2⟩
    exact ⟨x0, _, hp⟩
end L2

set_option Elab.async false
set_option linter.all false
set_option maxRecDepth 100000
namespace L2
open PySem PySem.Spec PyProof.Rows
section
variable {X : Cx} {e k : Expr} {te : TE} {tk : TO} {pos p2 : Pos}
theorem Vals.rev : ∀ {xs : List V} {us : List Value}, Vals xs us → Vals xs.reverse us.reverse
  | _, _, .nil => .nil
  | _, _, .cons r t => by
    rw [List.reverse_cons, List.reverse_cons]
    exact (Vals.rev t).append (.cons r .nil)
end
/-- a path: the arrows l, one after another from the boxes ns to the end -/
def Path (adj : List (List (Int × Int))) (f e : Int) (l ns : List Int) : Prop :=
  l.length = ns.length ∧ (ns ++ [e]).Nodup ∧ (ns ++ [e])[0]? = some f ∧ ∀ (i : Nat) (p : Int), l[i]? = some p → ∃ x y, (ns ++ [e])[i]? = some x ∧ (ns ++ [e])[i + 1]? = some y ∧ 0 ≤ x ∧ (p, y) ∈ adj.getD x.toNat []
theorem Path.cons {adj : List (List (Int × Int))} {f e pr ar : Int} {l ns : List Int} (h : Path adj f e l ns) (hn : pr ∉ ns ++ [e]) (h0 : 0 ≤ pr) (hm : (ar, f) ∈ adj.getD pr.toNat []) : Path adj pr e (ar :: l) (pr :: ns) := by
  obtain ⟨h1, h2, h3, h4⟩ := h
  refine ⟨by rw [List.length_cons, List.length_cons, h1], by rw [List.cons_append]; exact List.nodup_cons.mpr ⟨hn, h2⟩, rfl, fun i p ep => ?_⟩
  cases i with
  | zero =>
    have : ar = p := by simpa using ep
    subst this
    exact ⟨pr, f, rfl, by rw [List.cons_append, List.getElem?_cons_succ]; exact h3, h0, hm⟩
  | succ i =>
    obtain ⟨x, y, e1, e2, r⟩ := h4 i p (by simpa using ep)
    exact ⟨x, y, by rw [List.cons_append, List.getElem?_cons_succ]; exact e1, by rw [List.cons_append, List.getElem?_cons_succ]; exact e2, r⟩
end L2

set_option Elab.async false
set_option linter.all false
set_option maxRecDepth 100000
namespace L2
open PySem PySem.Spec PyProof.Rows
noncomputable def goesB (E : Int → Int → Prop) (a b : Int) : Bool := @decide (Rch E a b) (Classical.propDecidable _)
/-- the arrows that are not turned, among the first ones -/
noncomputable def keptTo (ends : List (Int × Int)) : Nat → List (Int × Int)
  | 0 => []
  | i + 1 => match ends[i]? with
    | some (a, b) => if a = b then keptTo ends i else if goesB (EdP (keptTo ends i)) b a = true then keptTo ends i else keptTo ends i ++ [(a, b)]
    | none => keptTo ends i
noncomputable def turnB (ends : List (Int × Int)) (i : Nat) : Bool := match ends[i]? with
  | some (a, b) => (!decide (a = b)) && goesB (EdP (keptTo ends i)) b a
  | none => false
section
variable {ends : List (Int × Int)} {i : Nat} {a b : Int}
end
end L2

set_option Elab.async false
set_option linter.all false
set_option maxRecDepth 100000
namespace L2
open PySem PySem.Spec PyProof.Rows
/-! arrows left out -/
/-! homes -/
end L2

set_option Elab.async false
set_option linter.all false
set_option maxRecDepth 100000
namespace L2
open PySem PySem.Spec PyProof.Rows
section
variable {X : Cx}
end
/-! == of lists of ints, and of lists of those -/
theorem eqv_same {d : PyData} (h : SeqAt.shaped d = true) : PyData.eqv d d = true := PySem.SeqAt.eqv_refl d (SeqAt.canLay_of_shaped h)
end L2

set_option Elab.async false
set_option linter.all false
set_option maxRecDepth 100000
namespace L2
open PySem PySem.Spec PyProof.Rows
theorem ObjOk.got {P : Program} {w : World} {H : Hp} {h : Heap} {a : Addr} {o : HO} (x : ObjOk P w H h a o) : ∃ ob, h.get? a = some ob := by
  cases o with
  | lst xs => obtain ⟨_, _, _, _, e⟩ := x; exact ⟨_, e⟩
  | tup xs => obtain ⟨_, _, _, ob, e, _⟩ := x; exact ⟨_, e⟩
  | dK kvs => obtain ⟨_, _, _, _, o, _, _, e, _⟩ := x; exact ⟨_, e⟩
  | dT kvs => obtain ⟨_, _, _, _, o, _, _, e, _⟩ := x; exact ⟨_, e⟩
  | set S n => obtain ⟨o, _, _, _, e, _⟩ := x; exact ⟨_, e⟩
  | ins C dx fs => obtain ⟨_, _, _, e, _⟩ := x; exact ⟨_, e⟩
  | own y => exact x
  | xd fs => obtain ⟨_, ⟨_, _, _, e, _⟩, _⟩ := x; exact ⟨_, e⟩
  | rng lo hi => obtain ⟨_, _, _, e⟩ := x; exact ⟨_, e⟩
  | frz ob u => obtain ⟨e, _⟩ := x; exact ⟨_, e⟩
  | tbl ps => exact ⟨_, (show h.get? a = some _ from x)⟩
  | met f y => exact ⟨_, (show h.get? a = some _ from x)⟩
  | ext φ => obtain ⟨_, e, _⟩ := x; exact e
/-- how an exception of the class at C lies behind a call -/
structure Fly (P : Program) (w : World) (l : List Env) (H H' : Hp) (s s' : Shared) (e C t : Addr) (B : Heap) : Prop where
  os : s'.os = s.os
  bare : AllBare s'.gens
  un : Un (frs l) [] H H' s.heap s'.heap
  hok : HOk P w H' s'.heap
  fly : Heap.FlyingW B l e (.ref C) (.ref t) s'.heap
  inB : ∀ b u, H' b = some u → ∃ o, B.get? b = some o
  old : ∀ b o, s.heap.get? b = some o → b ∉ frs l → ∃ o', B.get? b = some o'
/-- behind a step that keeps B and all but slots -/
theorem Fly.move {P : Program} {w : World} {l : List Env} {H H' : Hp} {s s' : Shared} {e C t : Addr} {B h' : Heap} (F : Fly P w l H H' s s' e C t B) (st : B.StaysIn h') (up : s'.heap.UpToSlots h') :
    Un (frs l) [] H H' s.heap h' ∧ HOk P w H' h' := by
  have same : ∀ b o, s'.heap.get? b = some o → (∃ o', B.get? b = some o') → h'.get? b = some o := fun b o q ⟨o', q'⟩ => by
    have := F.fly.1 b o' q'
    rw [q] at this
    cases this
    exact st b _ q'
  refine ⟨⟨fun b o q n hb hx => same b o (F.un.keep b o q n hb hx) (F.old b o q hb), fun b o q n hb hx => ?_, F.un.free, fun b o q hx => ?_, F.un.tups, F.un.frzs, F.un.tbls⟩, fun a o q => (F.hok a o q).stay (fun b u hb z => same b u z ?_) (fun _ z => z) fun _ _ z => z⟩
  · obtain ⟨sl, e1⟩ := F.un.slot b o q n hb hx
    obtain ⟨_, o', e2, nf⟩ := F.fly.2.2.1.mem hb
    rw [e1] at e2
    cases e2
    obtain ⟨sl', e3⟩ := up b _ e1 nf
    exact ⟨sl', e3⟩
  · by_cases hb : b ∈ frs l
    · obtain ⟨_, o', e2, nf⟩ := F.fly.2.2.1.mem hb
      obtain ⟨sl', e3⟩ := up b _ e2 nf
      exact ⟨_, e3⟩
    · obtain ⟨o', e1⟩ := F.old b o q hb
      exact ⟨o', st b o' e1⟩
  · rcases hb with rfl | hb
    · exact F.inB b _ q
    · exact F.inB b _ hb
section
variable {P : Program} {w : World} {K : PySem.W.Frag} {mg : Str → Option Value} {base : Heap} {N : List Str} {qual : Str} {scope : Scope} {f : Addr} {cd : Value} {A : Around} {outer : List Env} {s : Shared} {H : Hp} {E E' : XK}
theorem not_locals {X : Cx} {pins : List (Addr × Obj)} {σ : St} {H1 : Hp} {s1 : Shared} (I : Inv X pins σ H1 s1) {b : Addr} {o : Obj} (e : X.s_0.heap.get? b = some o) (hb : b ∉ X.fs) : b ∉ frs X.stack := fun hm => by
  rcases List.mem_cons.mp (I.stkSub b hm) with q | q
  · have h1 := I.ok.above
    have h2 := Heap.lt_size e
    rw [q] at h2
    exact absurd (Nat.lt_of_lt_of_le h2 h1) (Nat.lt_irrefl _)
  · exact hb q
/-- raise C(text) -/
def sRaise (C : Addr) (E : XK) (t : TA) : TS := fun _ σ H => t σ H fun vs H2 => vs.length ≤ sizeLine ∧ E (.ref C) none H2
end
end L2

set_option Elab.async false
set_option linter.all false
set_option maxRecDepth 100000
namespace L2
open PySem PySem.Spec PyProof.Rows
/-- what a lambda that stands in the base is: its object, its code, its cells and their values -/
structure Lam (base : Heap) (lam : Addr) (name qual : Str) (params : Arguments) (body : Expr) (scope : Scope) (cl : List (Str × Addr)) (pm : Value) (c' : Addr) (ctv : Value) (N : List Str) (vals : List V) : Prop where
  obj : base.get? lam = some (PySem.W.kla_obj name qual params body scope cl pm c' ctv)
  code : base.CodeRec (.ref c') qual
  inj : ∀ x y c, cl.lookup x = some c → cl.lookup y = some c → x = y
  cells : ∀ x c, cl.lookup x = some c → ∃ v, base.IsCell c v
  len : vals.length = N.length
  at_ : ∀ (i : Nat) (x : Str) (v : V), N[i]? = some x → vals[i]? = some v → ∃ c u, scope.names.lookup x = some .free ∧ cl.lookup x = some c ∧ base.IsCell c (some u) ∧ RelV v u
structure LamScope (scope : Scope) (cl : List (Str × Addr)) : Prop where
  kind : scope.kind = .function
  co : scope.isCoroutine = false
  gen : scope.isGenerator = false
  nocell : ∀ x ∈ scope.names, x.2 ≠ .cell
  has : ∀ x, (scope.names.lookup x = some .cell ∨ scope.names.lookup x = some .free) → ∃ c, cl.lookup x = some c
end L2

set_option Elab.async false
set_option linter.all false
set_option maxRecDepth 100000
namespace L2
open PySem PySem.Spec PyProof.Rows
theorem Fly.step {P : Program} {w : World} {l : List Env} {H H' : Hp} {s s' : Shared} {e C t : Addr} {B h' : Heap} (F : Fly P w l H H' s s' e C t B) (fl : Heap.FlyingW B l e (.ref C) (.ref t) h') (up : s'.heap.UpToSlots h') :
    Fly P w l H H' s { s' with heap := h' } e C t B := by
  obtain ⟨un, hok⟩ := F.move fl.1 up
  exact ⟨F.os, F.bare, un, hok, fl, F.inB, F.old⟩
/-- within an except suite -/
def Cx.held (Y : Cx) (v : Value) : Cx := { Y with A := Y.A.mark (some v), calm := false }
theorem Inv.held {Y : Cx} {pins : List (Addr × Obj)} {σ : St} {H : Hp} {s : Shared} (I : Inv Y pins σ H s) (v : Value) : Inv (Y.held v) pins σ H s :=
  ⟨⟨I.ok.mod, I.ok.kind, I.ok.glob, I.ok.blt, I.ok.above, I.ok.inj, I.ok.has, I.ok.cab, fun z => absurd (show false = true from z) Bool.false_ne_true, I.ok.frames, I.ok.stk, I.ok.exf, I.ok.bs, I.ok.bsz, I.ok.noex, I.ok.exfs, I.ok.funs, I.ok.frf⟩, I.os, I.bare, I.base, I.loc, I.cell, I.free, I.freeC, I.pin, I.hok, I.len⟩
theorem Inv.unheld {Y : Cx} {pins : List (Addr × Obj)} {σ : St} {H : Hp} {s : Shared} {v : Value} (I : Inv (Y.held v) pins σ H s) (hd : Y.calm = true → Y.A.handled = none) : Inv Y pins σ H s :=
  ⟨⟨I.ok.mod, I.ok.kind, I.ok.glob, I.ok.blt, I.ok.above, I.ok.inj, I.ok.has, I.ok.cab, hd, I.ok.frames, I.ok.stk, I.ok.exf, I.ok.bs, I.ok.bsz, I.ok.noex, I.ok.exfs, I.ok.funs, I.ok.frf⟩, I.os, I.bare, I.base, I.loc, I.cell, I.free, I.freeC, I.pin, I.hok, I.len⟩
theorem SP.unheld {Y : Cx} {pins : List (Addr × Obj)} {D : Ends} {f : PySem.Flow} {s' : Shared} {v : Value} (h : SP (Y.held v) pins D f s') (hd : Y.calm = true → Y.A.handled = none) : SP Y pins D f s' := by
  cases f with
  | next => obtain ⟨σ', H', I, q⟩ := h; exact ⟨σ', H', I.unheld hd, q⟩
  | brk => obtain ⟨σ', H', I, q⟩ := h; exact ⟨σ', H', I.unheld hd, q⟩
  | cont => obtain ⟨σ', H', I, q⟩ := h; exact ⟨σ', H', I.unheld hd, q⟩
  | ret u => obtain ⟨v, σ', H', I, r, q⟩ := h; exact ⟨v, σ', H', I.unheld hd, r, q⟩
section
variable {Y : Cx} {pins : List (Addr × Obj)} {σ : St} {H H' : Hp} {s s' : Shared} {e C t Cn : Addr} {B : Heap} {x : Str} {np pos : Pos} {bd : List Stmt} {rest : List ExceptHandler} {D : Ends}
theorem Fly.inv (I : Inv Y pins σ H s) (F : Fly Y.prog Y.w Y.stack H H' s s' e C t B) : Inv Y pins σ H' s' := I.call' (ch := []) F.os F.un F.hok F.bare (fun b z => absurd z (by simp))
end
end L2

set_option Elab.async false
set_option linter.all false
set_option maxRecDepth 100000
namespace L2
open PySem PySem.Spec PyProof.Rows
def codeO (c' : Addr) (qual : Str) : HO := .ext fun h => h.CodeRec (.ref c') qual
/-- the table of the law's code at P: ps, the lambda at lpos there or not -/
def Tab (n0 : Nat) (P : Addr) (lpos : Pos) (qual : Str) (H : Hp) : Prop := ∃ ps : Array Value, H P = some (.tbl ps) ∧ TriplesOk ps.toList ∧ (codeAmong lpos ps.toList = none ∨ ∃ c', codeAmong lpos ps.toList = some (.ref c') ∧ H c' = some (codeO c' qual) ∧ n0 ≤ c')
/-- all but what lies at p -/
def SameP (p : Addr) (H H' : Hp) : Prop := ∀ b u, b ≠ p → H b = some u → H' b = some u
section
variable {X : Cx} {pins : List (Addr × Obj)} {σ : St} {H : Hp} {s : Shared} {c P : Addr} {params : Arguments} {body : Expr} {scope : Scope} {lpos : Pos} {clos : List (Str × Addr)} {Q : Value → Shared → Prop}
end
end L2

set_option Elab.async false
set_option linter.all false
set_option maxRecDepth 100000
namespace L2
open PySem PySem.Spec PyProof.Rows
/-- the base of a call: all that is neither tracked nor a frame -/
def baseOf (l : List Env) (H : Hp) (h : Heap) : Heap := PySem.W.hideAll h (trk h H ++ frs l)
theorem mem_trk {h : Heap} {H : Hp} {b : Addr} : b ∈ trk h H → ∃ u, H b = some u := fun hb => by
  unfold trk at hb
  exact Option.isSome_iff_exists.mp (List.mem_filter.mp hb).2
section
variable {X : Cx} {pins : List (Addr × Obj)} {σ : St} {H : Hp} {s : Shared}
theorem base_get {l : List Env} {h : Heap} {b : Addr} {o : Obj} (e : h.get? b = some o) (n : H b = none) (hf : b ∉ frs l) : (baseOf l H h).get? b = some o :=
  PySem.W.hideAll_get _ e fun hm => by
    rcases List.mem_append.mp hm with z | z
    · obtain ⟨u, q⟩ := mem_trk z
      rw [n] at q; cases q
    · exact hf z
theorem Inv.rebase (I : Inv X pins σ H s) : Env0 X.prog X.w X.K X.mg (baseOf X.stack H s.heap) X.A X.stack s H := by
  have sub : ∀ b o, X.base.get? b = some o → (baseOf X.stack H s.heap).get? b = some o := fun b o e => base_get (I.bs b o e).1 (I.bs b o e).2 fun hm => by
    have := (I.stack.mem hm).1
    rw [e] at this; cases this
  refine ⟨I.ok.frames, ⟨I.mod.kin.keeps sub, I.mod.glob.keeps sub, ?_, I.mod.nolimit.keeps sub⟩, fun b o e => ?_, Nat.le_of_eq (PySem.W.hideAll_size _ _), PySem.W.funFrames_hide I.stack fun env he a ha => List.mem_append_right _ (List.mem_filterMap.mpr ⟨env, he, ha⟩), I.stkFree, I.hok, I.bare⟩
  · obtain ⟨mb, h1, h2⟩ := I.mod.blt
    exact ⟨mb, h1.keeps sub, h2⟩
  · have e1 := PySem.W.of_hideAll _ e
    refine ⟨e1, ?_⟩
    cases q : H b with
    | none => rfl
    | some u =>
      have hm : b ∈ trk s.heap H := by
        unfold trk
        exact List.mem_filter.mpr ⟨List.mem_range.mpr (Heap.lt_size e1), by rw [q]; rfl⟩
      have := PySem.W.hideAll_none (trk s.heap H ++ frs X.stack) (h := s.heap) (List.mem_append_left _ hm)
      unfold baseOf at e
      rw [this] at e
      cases e
/-- the code at c' is no longer tracked -/
def offH (H : Hp) (c' : Addr) : Hp := fun b => if b = c' then none else H b
theorem offH_ne {H : Hp} {b c' : Addr} (h : b ≠ c') : offH H c' b = H b := if_neg h
theorem offH_same {H : Hp} {c' : Addr} : offH H c' c' = none := if_pos rfl
end
end L2

set_option Elab.async false
set_option linter.all false
set_option maxRecDepth 100000
namespace L2
open PySem PySem.Spec PyProof.Rows
/-- an own class of errors, by what the written part tells of it -/
theorem own_K {K : PySem.W.Frag} {h : Heap} {mg : Str → Option Value} {x : Str} {C : Addr} {bmB : List Value} {newId : String} (X : K.In h) (G : h.Ns mainGlobals mg) (e : PySem.W.nsIn K mainGlobals x = some (some (.ref C))) (q : PySem.W.excIn K C bmB newId = true) : OwnCls x C bmB newId mg h where
  bound := PySem.W.mg_of X G e
  obj := by
    cases hl : K.lookup C with
    | none => rw [PySem.W.excIn, hl] at q; cases q
    | some ob =>
      have there := X C ob hl
      rw [PySem.W.excIn, hl] at q
      split at q
      · next d9 k9 s9 e9 =>
        cases e9
        split at q
        · next C9 tl a0 a1 a2 a3 i9 a5 m9 l9 =>
          have parts := q
          repeat rw [Bool.and_eq_true] at parts
          obtain ⟨⟨⟨⟨⟨p1, p2⟩, p3⟩, p4⟩, p5⟩, p6⟩ := parts
          rw [beq_iff_eq] at p1 p2 p6
          rw [Bool.not_eq_true'] at p3
          cases k9
          cases s9
          simp only at m9 l9 p3 p5 p6
          subst p1 p2 m9 l9 p3
          exact ⟨_, _, _, _, _, _, _, _, _, _, _, _, _, _, _, _, _, there, Heap.Ns.of_isNs (PySem.W.isNs_of_in X p5), PySem.W.nsMap_none_of_in X p5 p6, PySem.W.tail_of_in X p4⟩
        · cases q
      · cases q
end L2

set_option Elab.async false
set_option linter.all false
set_option maxRecDepth 100000
namespace L2
open PySem PySem.Spec PyProof.Rows
section
variable {P : Program} {w : World} {K : PySem.W.Frag} {mg : Str → Option Value} {base : Heap}
theorem Fun.okX {CX : CXT} {x qual : Str} {st : Stmt} {f : Addr} {fd : FuncData} {N ps : List Str} {k : Nat} {sp : Sp} (F : Fun K x qual st f fd) (S : FnScope N ps (defScope st)) (len : ∀ vs H Q E, sp vs H Q E → vs.length = ps.length)
    (hbody : ∀ (cdv : Value) (A : Around) (outer : List Env) (s : Shared) (H : Hp) (vs : List V) (Q : VK) (E : XK), Room k (A.deeper (envOfC qual (defScope st) s.heap.objs.size f cdv)) → sp vs H Q E →
      ∃ t, PSs (cxOf CX P w K mg base N qual (defScope st) f cdv A outer s H E) (defBody st) t ∧ t { nx := fun _ H' => Q .non H', rt := Q } (start N vs) H) : FnOk P w K mg base CX (k + 1) f fd ps sp := by
  obtain ⟨oc, od, kV, doc, pm, an, cdv, ct, osl, rfl, lk, hcd⟩ := F.ex
  exact fn_of lk hcd S len fun A outer s H vs Q E hr hsp => hbody cdv A outer s H vs Q E hr hsp
end
end L2

set_option Elab.async false
set_option linter.all false
set_option maxRecDepth 100000
namespace L2
open PySem PySem.Spec PyProof.Rows
section
variable {prog : Program} {w : World} {A : Around} {E : Value → Shared → Prop} {h : Heap} {g : Array GenState} {d : Drawn} {t : Nat} {os : OsState}
  {nm q : Str} {C N : Addr} {bs bm bmB : List Value} {hdct : Bool} {sn : List Str} {sub : List Value} {ab : Bool} {col : Option Bool} {dd : Option Addr} {k0 k1 k2 k3 k5 : Option Value} {B newId initId : String}
end
end L2

set_option Elab.async false
set_option linter.all false
set_option maxRecDepth 100000
namespace L2
open PySem PySem.Spec PyProof.Rows Builtin Builtin.ObjectAttr
abbrev bmV : List Value := [.type "ValueError", .type "Exception", .type "BaseException", .type "object"]
section
variable {prog : Program} {w : World} {A : Around} {E : Value → Shared → Prop} {h : Heap} {g : Array GenState} {d : Drawn} {t : Nat} {os : OsState} {K : PySem.W.Frag} {C x : Addr} {cd : ClassData} {bm : List Value} {name : Str} {v : Value} {vs : Array Value}
/-- what the written part tells of the reading of a field of an exception -/
structure GetsE (K : PySem.W.Frag) (C : Addr) (name : Str) : Prop where
  dict : PySem.W.hasDictIn K C = true
  ga : PySem.W.findIn K (.ref C) "__getattribute__" = some (some (.builtin "BaseException.__getattribute__"))
  hook : PySem.W.findIn K (.ref C) "__getattr__" = some none
  no : PySem.W.findIn K (.ref C) name = some none
  exc : PySem.W.mroIn K C (.type "BaseException") = some true
end
end L2

set_option Elab.async false
set_option linter.all false
set_option maxRecDepth 100000
namespace L2
open PySem PySem.Spec PyProof.Rows
abbrev excObj (cls : Value) (dd : Option Addr) (vs : Array Value) : Obj := { cls := cls, dict := dd, data := .fields vs }
/-- an exception with its dict, its newest traceback entry and that entry's mark -/
def TrD (h base : Heap) (e : Addr) (cls a0 fl : Value) (dd : Option Addr) : Prop :=
  ∃ vs T oT ts, h.get? e = some (excObj cls dd vs) ∧ (vs[0]? = some a0 ∧ vs[2]? = some .none) ∧ vs[1]? = some (.ref T) ∧ base.get? T = none ∧ T ≠ e ∧ h.get? T = some oT ∧ oT.data = .fields ts ∧ ts[3]? = some fl
def FlyD (base : Heap) (l : List Env) (e : Addr) (cls a0 : Value) (dd : Option Addr) (fl : Value) (h : Heap) : Prop :=
  base.StaysIn h ∧ base.get? e = none ∧ h.FunFrames base l ∧ TrD h base e cls a0 fl dd
theorem FlyD.w {base h : Heap} {l : List Env} {e : Addr} {cls a0 : Value} {dd : Option Addr} (x : FlyD base l e cls a0 dd .none h) : Heap.FlyingW base l e cls a0 h := by
  obtain ⟨b1, b2, b3, vs, T, oT, ts, x1, x2, x3, x4, x5, x6, x7, x8⟩ := x
  exact ⟨b1, b2, b3, _, vs, T, oT, ts, x1, ⟨rfl, x2.1⟩, rfl, x3, x4, x5, x6, x7, x8⟩
section
variable {M : Model} {A : Around} {E : Value → Shared → Prop} {s : Shared} {base : Heap} {env : Env} {outer : List Env} {L e : Addr} {cls a0 : Value} {dd : Option Addr}
/-- a new entry is laid ahead of the others -/
theorem entryD {vs : Array Value} {head : Value} {hadNext : Bool} {Q : Unit → Shared → Prop} (hfr : A.frames = some (env :: outer)) (hl : s.heap.FunFrames base (env :: outer)) (hf : env.frame = some L)
    (he : s.heap.get? e = some (excObj cls dd vs)) (hkb : base.StaysIn s.heap) (hen : base.get? e = none) (hsz : 1 < vs.size) (h0 : vs[0]? = some a0 ∧ vs[2]? = some .none)
    (hQ : ∀ h', FlyD base (env :: outer) e cls a0 dd (rawInt L) h' → s.heap.UpToSlots h' → Q () { s with heap := h' }) :
    wpAny M A (do let a ← frameOf env; let pl ← entryPlaceOf L hadNext; let b ← EntryCells.newEntry head a .none (rawInt L) .none pl; setField (.ref e) 1 b) Q E s := by
  have notFr : e ∉ (env :: outer).filterMap (·.frame) := fun hm => by
    obtain ⟨_, o, ho, nf⟩ := hl.mem hm
    rw [he] at ho
    cases ho
    exact nf vs rfl
  refine wpAny_bind (wpAny_frameOf_fun hfr hl hf fun h1 sl => wpAny_bind (wpAny_entryPlaceOf fun pl hpl => ?_))
  unfold EntryCells.newEntry newFields
  refine wpAny_bind (wpAny_newObj_type ?_ (hpl.sizeOk5 _ _ _ _ _))
  generalize eT : ([head, Value.ref L, Value.none, rawInt L, Value.none] ++ (if pl.isEmpty then List.replicate 6 Value.none else pl)).toArray = ts
  have ts3 : ts[3]? = some (rawInt L) := by rw [← eT]; rfl
  have he1 : h1.get? e = some (excObj cls dd vs) := (sl.2.1 e notFr).trans he
  have apart : h1.objs.size ≠ e := Nat.ne_of_gt (Heap.lt_size he1)
  generalize e2 : h1.push { cls := .type "traceback", dict := none, data := .fields ts } = h2
  have up2 : ∀ b o, h1.get? b = some o → h2.get? b = some o := fun b o z => by rw [← e2]; exact Heap.get?_push_of_some _ z
  have hT2 : h2.get? h1.objs.size = some { cls := .type "traceback", dict := none, data := .fields ts } := by rw [← e2]; exact Heap.get?_push_size h1 rfl
  refine wpAny_setField (up2 _ _ he1) rfl hsz (hQ _ ?_ ?_)
  · generalize e3 : h2.update e (Obj.mapFields (·.setIfInBounds 1 (Value.ref h1.objs.size))) = h3
    have keep : ∀ b o, b ≠ e → h1.get? b = some o → h3.get? b = some o := fun b o nb z => by
      rw [← e3, Heap.get?_update_other _ _ (Ne.symm nb)]
      exact up2 b o z
    have stay1 : base.StaysIn h1 := fun b o z => (sl.2.1 b fun hm => by rw [(hl.mem hm).1] at z; cases z).trans (hkb b o z)
    refine ⟨fun b o z => keep b o (fun q => by rw [q, hen] at z; cases z) (stay1 b o z), hen, hl.of_keeps fun b o z nf => ?_, ?_⟩
    · obtain ⟨sl', q⟩ := sl.2.2 b o z
      exact ⟨_, keep b _ (fun q' => by rw [q', he] at z; cases z; exact nf vs rfl) q, rfl⟩
    · refine ⟨vs.setIfInBounds 1 (.ref h1.objs.size), h1.objs.size, { cls := .type "traceback", dict := none, data := .fields ts }, ts, ?_, ?_, by simp [hsz], stay1.fresh, apart, ?_, rfl, ts3⟩
      · rw [← e3]
        exact Heap.get?_update_self _ (up2 _ _ he1) rfl
      · exact ⟨by rw [Array.getElem?_setIfInBounds_ne (by decide)]; exact h0.1, by rw [Array.getElem?_setIfInBounds_ne (by decide)]; exact h0.2⟩
      · rw [← e3, Heap.get?_update_other _ _ (Ne.symm apart)]
        exact hT2
  · intro b o z nf
    obtain ⟨sl', q⟩ := sl.2.2 b o z
    refine ⟨sl', ?_⟩
    rw [Heap.get?_update_other _ _ (fun q' => by rw [← q', he] at z; cases z; exact nf vs rfl)]
    exact up2 _ _ q
/-- the mark of the newest entry is taken off -/
theorem landD {l : List Env} {fl : Value} {Q : Unit → Shared → Prop} (F : FlyD base l e cls a0 dd fl s.heap) (hQ : ∀ h', FlyD base l e cls a0 dd .none h' → s.heap.UpToSlots h' → Q () { s with heap := h' }) : wpAny M A (setFlight (.ref e) none) Q E s := by
  obtain ⟨b1, b2, b3, vs, T, oT, ts, x1, x2, x3, x4, x5, x6, x7, x8⟩ := F
  have sz : 3 < ts.size := (Array.getElem?_eq_some_iff.mp x8).1
  unfold setFlight
  refine wpAny_bind (wpAny_field x1 rfl x3 ?_)
  rw [if_pos (by simp)]
  refine wpAny_setField x6 x7 sz (hQ _ ?_ ?_)
  · have oth : ∀ b, b ≠ T → (s.heap.update T (Obj.mapFields (·.setIfInBounds 3 ((none : Option Addr).elim Value.none fun f => rawInt f)))).get? b = s.heap.get? b := fun b nb => Heap.get?_update_other _ _ (Ne.symm nb)
    refine ⟨fun b o z => (oth b fun q => by rw [q, x4] at z; cases z).trans (b1 b o z), b2, b3.of_keeps fun b o z nf => ⟨o, (oth b fun q => by rw [q, x6] at z; cases z; exact nf ts x7).trans z, rfl⟩, ?_⟩
    exact ⟨vs, T, _, _, (oth e (Ne.symm x5)).trans x1, x2, x3, x4, x5, Heap.get?_update_self _ x6 (Obj.isFreed_of_fields (Obj.data_mapFields x7 _)), Obj.data_mapFields x7 _, by simp [sz]⟩
  · intro b o z nf
    exact ⟨o.slots, (Heap.get?_update_other _ _ (fun q => by rw [← q, x6] at z; cases z; exact nf ts x7)).trans z⟩
/-- a frame is noted: the first one; a further one -/
theorem noteD_first {vs : Array Value} {Q : Unit → Shared → Prop} (hfr : A.frames = some (env :: outer)) (hl : s.heap.FunFrames base (env :: outer)) (hf : env.frame = some L)
    (he : s.heap.get? e = some (excObj cls dd vs)) (hkb : base.StaysIn s.heap) (hen : base.get? e = none) (h1 : vs[1]? = some .none) (h0 : vs[0]? = some a0 ∧ vs[2]? = some .none)
    (hQ : ∀ h', FlyD base (env :: outer) e cls a0 dd (rawInt L) h' → s.heap.UpToSlots h' → Q () { s with heap := h' }) : wpAny M A (noteFrame (.ref e) env) Q E s := by
  unfold noteFrame
  simp only [hf]
  refine wpAny_bind (wpAny_field he rfl h1 ?_)
  rw [if_neg (by decide)]
  exact entryD hfr hl hf he hkb hen (Array.getElem?_eq_some_iff.mp h1).1 h0 hQ
theorem noteD_next {Q : Unit → Shared → Prop} (hfr : A.frames = some (env :: outer)) (hf : env.frame = some L) (F : FlyD base (env :: outer) e cls a0 dd .none s.heap)
    (hQ : ∀ h', FlyD base (env :: outer) e cls a0 dd (rawInt L) h' → s.heap.UpToSlots h' → Q () { s with heap := h' }) : wpAny M A (noteFrame (.ref e) env) Q E s := by
  obtain ⟨b1, b2, b3, vs, T, oT, ts, x1, x2, x3, x4, x5, x6, x7, x8⟩ := F
  unfold noteFrame
  simp only [hf]
  refine wpAny_bind (wpAny_field x1 rfl x3 ?_)
  rw [if_pos (by simp)]
  refine wpAny_bind (wpAny_field x6 x7 x8 ?_)
  rw [if_neg (by simp [rawInt])]
  refine wpAny_bind (wpAny_setField x6 x7 (Array.getElem?_eq_some_iff.mp x8).1 ?_)
  have oth : ∀ b, b ≠ T → (s.heap.update T (Obj.mapFields (·.setIfInBounds 3 Value.none))).get? b = s.heap.get? b := fun b nb => Heap.get?_update_other _ _ (Ne.symm nb)
  have rec0 : ∀ b o, s.heap.get? b = some o → (∀ vs, o.data ≠ .fields vs) → b ≠ T := fun b o z nf q => by rw [q, x6] at z; cases z; exact nf ts x7
  refine entryD hfr (b3.of_keeps fun b o z nf => ⟨o, (oth b (rec0 b o z nf)).trans z, rfl⟩) hf ((oth e (Ne.symm x5)).trans x1) (fun b o z => (oth b fun q => by rw [q, x4] at z; cases z).trans (b1 b o z)) b2 (Array.getElem?_eq_some_iff.mp x3).1 x2 fun h' F' up => hQ h' F' fun b o z nf => ?_
  exact up b o ((oth b (rec0 b o z nf)).trans z) nf
/-- the exception leaves a frame -/
theorem FlyD.pop {l : List Env} {h : Heap} {fl : Value} (F : FlyD base (env :: l) e cls a0 dd fl h) : FlyD base l e cls a0 dd fl h := ⟨F.1, F.2.1, F.2.2.1.2.2, F.2.2.2⟩
theorem leaveD_on {Q : Unit → Shared → Prop} (hfr : A.frames = some (env :: outer)) (hf : env.frame = some L) (F : FlyD base (env :: outer) e cls a0 dd .none s.heap)
    (hQ : ∀ h', FlyD base outer e cls a0 dd .none h' → s.heap.UpToSlots h' → Q () { s with heap := h' }) : wpAny M A (leaving env (.ref e)) Q E s := by
  unfold leaving
  exact wpAny_bind (noteD_next hfr hf F fun h1 F1 u1 => landD (s := { s with heap := h1 }) F1 fun h2 F2 u2 => hQ h2 F2.pop (u1.trans u2))
theorem leaveD_first {vs : Array Value} {Q : Unit → Shared → Prop} (hfr : A.frames = some (env :: outer)) (hl : s.heap.FunFrames base (env :: outer)) (hf : env.frame = some L)
    (he : s.heap.get? e = some (excObj cls dd vs)) (hkb : base.StaysIn s.heap) (hen : base.get? e = none) (h1 : vs[1]? = some .none) (h0 : vs[0]? = some a0 ∧ vs[2]? = some .none)
    (hQ : ∀ h', FlyD base outer e cls a0 dd .none h' → s.heap.UpToSlots h' → Q () { s with heap := h' }) : wpAny M A (leaving env (.ref e)) Q E s := by
  unfold leaving
  exact wpAny_bind (noteD_first hfr hl hf he hkb hen h1 h0 fun h1 F1 u1 => landD (s := { s with heap := h1 }) F1 fun h2 F2 u2 => hQ h2 F2.pop (u1.trans u2))
end
end L2

set_option Elab.async false
set_option linter.all false
set_option maxRecDepth 100000
namespace L2
open PySem PySem.Spec PyProof.Rows
/-- an own class of errors that has an __init__ of its own, by what the written part tells -/
def excInI (K : PySem.W.Frag) (C fI : Addr) : Bool := match K.lookup C with
  | some ⟨.type "type", _, .cls cd, sl⟩ => (match cd.mro, sl.toList with
    | .ref C' :: bm, [_, _, _, _, some (.builtin n), _] => C' == C && (n == "ValueError.__new__") && !cd.hasDel && PySem.W.tailIn K bmV bm && PySem.W.nsOkIn K cd.ns && (PySem.W.nsIn K cd.ns "__init__" == some (some (.ref fI))) && cd.hasDict
    | _, _ => false)
  | _ => false
structure OwnI (K : PySem.W.Frag) (h : Heap) (C fI : Addr) : Prop where
  obj : ∃ cd bm N nm q bs sn sub ab col dd k0 k1 k2 k3 k5 mN, h.get? C = some (excClassObj nm q C N bs bm true sn sub ab col dd k0 k1 k2 k3 k5 "ValueError.__new__") ∧ h.Ns N mN ∧ mN "__init__" = some (.ref fI) ∧ OwnTail h bmV bm ∧ PySem.W.clsIn K C = some cd ∧ cd.mro = .ref C :: bm ∧ cd.hasDict = true
abbrev clC (cc : Addr) : List (Str × Addr) := [(("__class__" : Str), cc)]
/-- all that the written part tells of the own __init__ of the class at C -/
structure InitZ (P : Program) (K : PySem.W.Frag) (mg : Str → Option Value) (C fI cc cda : Addr) (an attr qual : Str) (scope : Scope) (fd : FuncData) (body : List Stmt) : Prop where
  own : excInI K C fI = true
  fn : ∃ oc od osl, K.lookup fI = some ⟨oc, od, .func fd, osl⟩ ∧ oc = .type "function"
  shape : fd.scope = scope ∧ fd.globals = mainGlobals ∧ fd.closure = (clC cc) ∧ fd.qualname = qual ∧ fd.code = .ref cda ∧ fd.builtins = builtinsNs ∧ fd.body = .stmts body ∧ ∃ a0 : Arg, (fd.params.posonlyargs ++ fd.params.args).head? = some a0 ∧ a0.arg = "self"
  bind : ∀ us : List Value, us.length = 2 → bindArgs fd ⟨us, []⟩ = pure ((["self", an] : List Str).zip us)
  code : ∃ ccl cdd ccs vs file tf, K.lookup cda = some ⟨ccl, cdd, .fields vs, ccs⟩ ∧ vs[2]? = some (.str file tf) ∧ ((P.main.file : Str) == file) = true
  codeR : PySem.W.codeIn K (.ref cda) qual = true
  cell : ∃ cl cld csl, K.lookup cc = some ⟨cl, cld, .cell (some (.ref C)), csl⟩
  nosup : mg "super" = none
  notop : (P.main.scope.names.lookup ("super" : Str)).isSome = false
  third : PySem.W.nsIn K cStatics "thirdparty.any" = some none
  sup : PySem.W.ks_superIn K C C "__init__" = some (some (.builtin "ValueError.__init__"))
  seta : PySem.W.findIn K (.ref C) "__setattr__" = some (some (.builtin "object.__setattr__"))
  taker : PySem.W.takerIn K C attr = some none
  kind : scope.kind = .function
  co : scope.isCoroutine = false
  gen : scope.isGenerator = false
  nocell : ∀ x ∈ scope.names, x.2 ≠ .cell
  free1 : ∀ x, scope.names.lookup x = some .free → x = "__class__"
  ksup : scope.names.lookup ("super" : Str) = some .globalImplicit
  kcls : scope.names.lookup ("__class__" : Str) = some .free
  kself : scope.names.lookup ("self" : Str) = some .local
  karg : scope.names.lookup an = some .local
  ne : an ≠ "self"
end L2

set_option Elab.async false
set_option linter.all false
set_option maxRecDepth 100000
namespace L2
open PySem PySem.Spec PyProof.Rows
/-- what is tracked by a word of its own is no longer tracked -/
theorem Inv.offX {X : Cx} {pins : List (Addr × Obj)} {σ : St} {H : Hp} {s : Shared} {e : Addr} {φ : Heap → Prop} (I : Inv X pins σ H s) (hc : H e = some (.ext φ)) : Inv X pins σ (offH H e) s := by
  have ne : ∀ b u, H b = some u → (∀ ψ, u ≠ .ext ψ) → b ≠ e := fun b u z n q => by
    rw [q, hc] at z
    exact n _ (Option.some.inj z).symm
  refine I.step (h' := s.heap) (g' := s.gens) (d' := s.drawn) (t' := s.toks) (ch := []) (fun _ z => nomatch z) (fun _ _ _ _ _ z _ => z) (fun _ o _ _ _ z _ => ⟨o.slots, z⟩) (fun b o _ z n => ?_) (fun b o _ z => ⟨o, z⟩) (fun b xs z => ?_) (fun b o u z => ?_) (fun b ps z => ?_) (fun _ hm => hm) (fun a o z => ?_) I.bare
  · by_cases q : b = e
    · rw [q]; exact offH_same
    · rw [offH_ne q]; exact n
  · rw [offH_ne (ne b _ z fun ψ y => by cases y)]; exact z
  · rw [offH_ne (ne b _ z fun ψ y => by cases y)]; exact z
  · exact ⟨#[], by rw [offH_ne (ne b _ z fun ψ y => by cases y), z]; simp⟩
  · by_cases q : a = e
    · rw [q, offH_same] at z; cases z
    · rw [offH_ne q] at z
      refine (I.hok a o z).stay (fun _ _ _ y => y) (fun b y => ?_) fun b xs y => ?_
      · rw [offH_ne (ne b _ y fun ψ x => by cases x)]; exact y
      · rw [offH_ne (ne b _ y fun ψ x => by cases x)]; exact y
section
variable {X : Cx} {pins : List (Addr × Obj)} {σ : St} {H H' : Hp} {s s' : Shared}
end
/-- how an exception of the class at C, with its own dict or none, lies behind a call -/
structure FlyX (P : Program) (w : World) (l : List Env) (H H' : Hp) (s s' : Shared) (e C t : Addr) (B : Heap) (dd : Option Addr) : Prop where
  os : s'.os = s.os
  bare : AllBare s'.gens
  un : Un (frs l) [] H H' s.heap s'.heap
  hok : HOk P w H' s'.heap
  fly : FlyD B l e (.ref C) (.ref t) dd .none s'.heap
  inB : ∀ b u, H' b = some u → ∃ o, B.get? b = some o
  old : ∀ b o, s.heap.get? b = some o → b ∉ frs l → ∃ o', B.get? b = some o'
abbrev CXD (P : Program) (w : World) : CXT := fun l H s E e s' => ∃ (ea C t : Addr) (B : Heap) (H' : Hp) (dd : Option Addr), e = .ref ea ∧ FlyX P w l H H' s s' ea C t B dd ∧ E (.ref C) dd H'
theorem FlyX.move {P : Program} {w : World} {l : List Env} {H H' : Hp} {s s' : Shared} {e C t : Addr} {B h' : Heap} {dd : Option Addr} (F : FlyX P w l H H' s s' e C t B dd) (st : B.StaysIn h') (up : s'.heap.UpToSlots h') :
    Un (frs l) [] H H' s.heap h' ∧ HOk P w H' h' := by
  have same : ∀ b o, s'.heap.get? b = some o → (∃ o', B.get? b = some o') → h'.get? b = some o := fun b o q ⟨o', q'⟩ => by
    have z := F.fly.1 b o' q'
    rw [q] at z
    cases z
    exact st b _ q'
  refine ⟨⟨fun b o q n hb hx => same b o (F.un.keep b o q n hb hx) (F.old b o q hb), fun b o q n hb hx => ?_, F.un.free, fun b o q hx => ?_, F.un.tups, F.un.frzs, F.un.tbls⟩, fun a o q => (F.hok a o q).stay (fun b u hb z => same b u z ?_) (fun _ z => z) fun _ _ z => z⟩
  · obtain ⟨sl, e1⟩ := F.un.slot b o q n hb hx
    obtain ⟨_, o', e2, nf⟩ := F.fly.2.2.1.mem hb
    rw [e1] at e2
    cases e2
    obtain ⟨sl', e3⟩ := up b _ e1 nf
    exact ⟨sl', e3⟩
  · by_cases hb : b ∈ frs l
    · obtain ⟨_, o', e2, nf⟩ := F.fly.2.2.1.mem hb
      obtain ⟨sl', e3⟩ := up b _ e2 nf
      exact ⟨_, e3⟩
    · obtain ⟨o', e1⟩ := F.old b o q hb
      exact ⟨o', st b o' e1⟩
  · rcases hb with rfl | hb
    · exact F.inB b _ q
    · exact F.inB b _ hb
theorem FlyX.step {P : Program} {w : World} {l : List Env} {H H' : Hp} {s s' : Shared} {e C t : Addr} {B h' : Heap} {dd : Option Addr} (F : FlyX P w l H H' s s' e C t B dd) (fl : FlyD B l e (.ref C) (.ref t) dd .none h') (up : s'.heap.UpToSlots h') :
    FlyX P w l H H' s { s' with heap := h' } e C t B dd := by
  obtain ⟨un, hok⟩ := F.move fl.1 up
  exact ⟨F.os, F.bare, un, hok, fl, F.inB, F.old⟩
/-- a context whose errors leave its frame and then lie as CXD tells -/
structure Leaves (X : Cx) (E : XK) : Prop where
  ex : X.ex = []
  stk : X.stack = X.env :: X.outer
  frm : X.env.frame = some X.env.locals
  xe : X.xe = fun e s' => wpAny (model X.prog X.w) X.A (leaving X.env e) (fun _ s'' => CXD X.prog X.w X.outer X.H_0 X.s_0 E e s'') (fun e' s'' => CXD X.prog X.w X.outer X.H_0 X.s_0 E e' s'') s'
section
variable {X : Cx} {pins : List (Addr × Obj)} {σ : St} {H H' : Hp} {s s' : Shared} {E E' : XK}
theorem leave_new (L : Leaves X E) (I : Inv X pins σ H s) {e C t0 : Addr} {dd : Option Addr} {vs : Array Value} (he : s.heap.get? e = some (excObj (.ref C) dd vs)) (hv1 : vs[1]? = some .none) (hv0 : vs[0]? = some (.ref t0) ∧ vs[2]? = some .none) (hn : H e = none) (h0 : ∀ o, X.s_0.heap.get? e ≠ some o) (hE : E (.ref C) dd H) :
    X.xe (.ref e) s := by
  rw [L.xe]
  have st : (PySem.W.hideAll s.heap (e :: frs X.stack)).StaysIn s.heap := fun b o z => PySem.W.of_hideAll _ z
  have ins : ∀ b o, s.heap.get? b = some o → b ≠ e → b ∉ frs X.stack → (PySem.W.hideAll s.heap (e :: frs X.stack)).get? b = some o := fun b o z n1 n2 => PySem.W.hideAll_get _ z fun hm => by
    rcases List.mem_cons.mp hm with q | q
    · exact n1 q
    · exact n2 q
  have nex : ∀ b : Addr, b ∉ X.ex := fun b z => by rw [L.ex] at z; cases z
  have old : ∀ b o, X.s_0.heap.get? b = some o → b ≠ e := fun b o z q => by rw [q] at z; exact h0 o z
  have fr := I.ok.frames
  have ff := PySem.W.funFrames_hide (as := e :: frs X.stack) I.stack fun env hm a ha => List.mem_cons_of_mem _ (List.mem_filterMap.mpr ⟨env, hm, ha⟩)
  rw [L.stk] at fr
  have ff2 : s.heap.FunFrames (PySem.W.hideAll s.heap (e :: frs X.stack)) (X.env :: X.outer) := by rw [← L.stk]; exact ff
  refine leaveD_first fr ff2 L.frm he st (PySem.W.hideAll_none _ List.mem_cons_self) hv1 hv0 fun h' F up => ?_
  refine ⟨e, C, t0, _, H, dd, rfl, ⟨I.os, I.bare, ⟨fun b o z n hb _ => ?_, fun b o z n hb _ => ?_, fun b o z n _ => I.base.free b o z n (nex b), fun b o z _ => ?_, I.base.tups, I.base.frzs, I.base.tbls⟩, fun a o z => (I.hok a o z).stay (fun b u hb y => ?_) (fun _ y => y) fun _ _ y => y, F, fun b u z => ?_, fun b o z hb => ?_⟩, hE⟩
  · exact F.1 b o (ins b o (I.base.keep b o z n hb (nex b)) (old b o z) (not_locals I (o := o) z hb))
  · obtain ⟨sl, e1⟩ := I.base.slot b o z n hb (nex b)
    obtain ⟨_, o', e2, nf⟩ := I.stack.mem (show b ∈ frs X.stack from by
      obtain ⟨env, hm, ha⟩ := List.mem_filterMap.mp hb
      rw [L.stk]
      exact List.mem_filterMap.mpr ⟨env, List.mem_cons_of_mem _ hm, ha⟩)
    rw [e1] at e2
    cases e2
    obtain ⟨sl', e3⟩ := up b _ e1 nf
    exact ⟨sl', e3⟩
  · obtain ⟨o', e1⟩ := I.base.there b o z (nex b)
    by_cases hb : b ∈ frs X.stack
    · obtain ⟨_, o2, e2, nf⟩ := I.stack.mem hb
      obtain ⟨sl', e3⟩ := up b _ e2 nf
      exact ⟨_, e3⟩
    · exact ⟨o', F.1 b o' (ins b o' e1 (old b o z) hb)⟩
  · have ht : ∃ u', H b = some u' := by
      rcases hb with rfl | hb
      · exact ⟨_, z⟩
      · exact ⟨_, hb⟩
    obtain ⟨u', hu'⟩ := ht
    exact F.1 b u (ins b u y (fun q => by rw [q, hn] at hu'; cases hu') fun hm => by rw [I.stkFree b hm] at hu'; cases hu')
  · obtain ⟨o, e1⟩ := (I.hok b u z).got
    exact ⟨o, ins b o e1 (fun q => by rw [q, hn] at z; cases z) fun hm => by rw [I.stkFree b hm] at z; cases z⟩
  · obtain ⟨o', e1⟩ := I.base.there b o z (nex b)
    exact ⟨o', ins b o' e1 (old b o z) (not_locals I (o := o) z hb)⟩
theorem pass_X (L : Leaves X E) (hE : ∀ c d h, E' c d h → E c d h) : Passes (CXD X.prog X.w) X E' := by
  intro pins σ H1 s1 e s' I ⟨ea, C, t, B, H', dd, he, F, hq⟩
  subst he
  rw [L.xe]
  have fr := I.ok.frames
  have fl0 := F.fly
  rw [L.stk] at fr fl0
  refine leaveD_on fr L.frm fl0 fun h' fl up => ?_
  obtain ⟨un, hok⟩ := F.move fl.1 up
  have J := I.call' (s' := { s' with heap := h' }) (ch := []) F.os un hok F.bare (fun b z => absurd z (by simp))
  refine ⟨ea, C, t, B, H', dd, rfl, ⟨J.os, J.bare, ?_, J.hok, fl, F.inB, fun b o q hb => ?_⟩, hE _ _ _ hq⟩
  · have := J.base
    rw [L.ex] at this
    exact this
  · obtain ⟨o', e1⟩ := I.base.there b o q (by rw [L.ex]; simp)
    exact F.old b o' e1 (not_locals I (o := o) q hb)
end
section
variable {P : Program} {w : World} {K : PySem.W.Frag} {mg : Str → Option Value} {base : Heap} {N : List Str} {qual : Str} {scope : Scope} {f c' : Addr} {cd : Value} {cl : List (Str × Addr)} {A : Around} {outer : List Env} {s : Shared} {H : Hp} {E E' : XK}
theorem leaves_of : Leaves (cxOf (CXD P w) P w K mg base N qual scope f cd A outer s H E) E := ⟨rfl, rfl, rfl, rfl⟩
theorem pass_onD (hE : ∀ c d h, E' c d h → E c d h) : Passes (CXD P w) (cxOf (CXD P w) P w K mg base N qual scope f cd A outer s H E) E' := pass_X leaves_of hE
end
end L2

set_option Elab.async false
set_option linter.all false
set_option maxRecDepth 100000
namespace L2
open PySem PySem.Spec PyProof.Rows
section
variable {X : Cx} {E : XK}
/-- raise C(e0), where C has no __init__ of its own -/
theorem ps_raiseD {x : Str} {C : Addr} {bm : List Value} {Bn newId initId : String} {e0 : Expr} {t : TA} {np cpos pos : Pos}
    (L : Leaves X E) (O : OwnCls x C bm newId X.mg X.base) (FB : ExcBaseFacts Bn newId initId bm) (hg : Gl X x) (ha : PA X [e0] t)
    (he : starEach [e0] X.env = [(false, eval e0 X.env)] := by rfl) (hcalm : X.calm = true := by rfl) (hd : (x == ("__debug__" : Str)) = false := by decide) :
    PS X (.Raise (some (.Call (.Name x np) [e0] [] cpos)) none pos) (sRaise C E t) := by
  intro pins s1 σ H1 D I h
  obtain ⟨tl, Nn, nm, q, bs, hdct, sn, sub, ab, col, dd, k0, k1, k2, k3, k5, mN, hC, hN, hni, TL⟩ := O.obj
  refine wpAny_Raise_call_subT (C := C) (nm := nm) (q := q) (N := Nn) (bs := bs) (bm := tl) (hdct := hdct) (sn := sn) (sub := sub) (ab := ab) (col := col) (dd := dd) (k0 := k0) (k1 := k1) (k2 := k2) (k3 := k3) (k5 := k5)
    FB (mN := mN) (TL.hasType FB.hasBase) (I.ok.hd hcalm) (by rw [he]; rfl) hni (ld_glob I hg O.bound ⟨rfl, ?_⟩ hd)
  have h0 := ha cpos pins s1 σ H1 _ I h
  rw [he] at h0 ⊢
  refine Calls.evalArgs_plain (wpAny_mono h0 (fun vs s2 ⟨xs, H2, I2, r, q2⟩ => ⟨rfl, ?_, I2.bk _ _ hC, hN.keeps I2.bk, TL.keeps I2.bk, fun h' e hx => ?_⟩) fun _ _ y => y)
  · rw [← r.length]; exact q2.1
  · obtain ⟨t0, ht, hn0, _⟩ := hx.there
    have I3 := I2.kept (t' := s2.toks) hx.keeps
    have nn : s2.heap.get? e = none := hx.new
    have hn : H2 e = none := by
      cases q : H2 e with
      | none => rfl
      | some o =>
        obtain ⟨o', z⟩ := (I2.hok e o q).got
        rw [nn] at z
        cases z
    refine leave_new L I3 ht rfl ⟨rfl, rfl⟩ hn (fun o z => ?_) q2.2
    obtain ⟨o', e1⟩ := I2.base.there e o z (by rw [L.ex]; simp)
    rw [nn] at e1
    cases e1
end
end L2

set_option Elab.async false
set_option linter.all false
set_option maxRecDepth 100000
namespace L2
open PySem PySem.Spec PyProof.Rows
/-- an exception that is held: its class and its dict -/
def exc2 (e C : Addr) (dd : Option Addr) (h : Heap) : Prop := ∃ vs, h.get? e = some (excObj (.ref C) dd vs) ∧ vs[2]? = some .none
theorem exc2_ok {P : Program} {w : World} {H : Hp} {h : Heap} {e C : Addr} {dd : Option Addr} (x : exc2 e C dd h) : ObjOk P w H h e (.ext (exc2 e C dd)) := by
  obtain ⟨vs, q, _⟩ := id x
  exact ⟨x, ⟨_, q⟩, fun h1 h2 ⟨v1, q1, q2⟩ k => ⟨v1, k _ q1, q2⟩⟩
section
variable {Y : Cx} {pins : List (Addr × Obj)} {σ : St} {H H' : Hp} {s s' : Shared} {e C t Cn : Addr} {B : Heap} {dd : Option Addr} {x : Str} {nm : Option Str} {np pos : Pos} {bd : List Stmt} {rest : List ExceptHandler} {D : Ends}
theorem FlyX.inv (I : Inv Y pins σ H s) (F : FlyX Y.prog Y.w Y.stack H H' s s' e C t B dd) : Inv Y pins σ H' s' := I.call' (ch := []) F.os F.un F.hok F.bare (fun b z => absurd z (by simp))
theorem FlyX.free (F : FlyX Y.prog Y.w Y.stack H H' s s' e C t B dd) : H' e = none := by
  cases q : H' e with
  | none => rfl
  | some u =>
    obtain ⟨o, z⟩ := F.inB e u q
    rw [F.fly.2.1] at z
    cases z
/-- the exception is tracked -/
theorem FlyX.invE (I : Inv Y pins σ H s) (F : FlyX Y.prog Y.w Y.stack H H' s s' e C t B dd) : Inv Y pins σ (upd H' e (.ext (exc2 e C dd))) s' := by
  obtain ⟨vs, T, oT, ts, x1, x2, _⟩ := F.fly.2.2.2
  have nn := F.free
  have ne : ∀ b u, H' b = some u → b ≠ e := fun b u z q => by rw [q, nn] at z; cases z
  refine I.call' (ch := []) F.os ⟨F.un.keep, F.un.slot, fun b o z n hx => ?_, F.un.there, fun b xs z => ?_, fun b o u z => ?_, fun b ps z => ?_⟩ (fun a o z => ?_) F.bare (fun b z => absurd z (by simp))
  · have : b ≠ e := fun q => by
      subst q
      by_cases hb : b ∈ frs Y.stack
      · obtain ⟨_, o', e2, nf⟩ := F.fly.2.2.1.mem hb
        rw [x1] at e2
        cases e2
        exact nf vs rfl
      · obtain ⟨o', z'⟩ := F.old b o z hb
        rw [F.fly.2.1] at z'
        cases z'
    rw [upd_ne this]
    exact F.un.free b o z n hx
  · have y := F.un.tups b xs z
    rw [upd_ne (ne b _ y)]; exact y
  · have y := F.un.frzs b o u z
    rw [upd_ne (ne b _ y)]; exact y
  · obtain ⟨more, y⟩ := F.un.tbls b ps z
    exact ⟨more, by rw [upd_ne (ne b _ y)]; exact y⟩
  · by_cases q : a = e
    · subst q
      rw [upd_same] at z
      cases z
      exact exc2_ok ⟨vs, x1, x2.2⟩
    · rw [upd_ne q] at z
      refine (F.hok a o z).stay (fun _ _ _ y => y) (fun b y => ?_) fun b xs y => ?_
      · rw [upd_ne (ne b _ y)]; exact y
      · rw [upd_ne (ne b _ y)]; exact y
theorem flyX_type (F : FlyX Y.prog Y.w Y.stack H H' s s' e C t B dd) {M : Model} : PySem.W.Looks M s'.heap (typeOf (.ref e)) (.ref C) := by
  obtain ⟨vs, T, oT, ts, x1, _⟩ := F.fly.2.2.2
  exact (PySem.W.Looks.ld x1).andThen .now
/-- a local name goes -/
theorem goes_ok {M : Model} {A : Around} {E : Value → Shared → Prop} {i : Nat} {n : Str} {Q : Unit → Shared → Prop} (I : Inv Y pins σ H s) (hN : Y.N.Nodup) (hi : Y.N[i]? = some n) (hk : Y.env.scope.names.lookup n = some .local)
    (h : ∀ s', Inv Y pins (σ.set i none) H s' → Q () s') : wpAny M A (do bindName Y.env n .none; unbindBehindTheSuite Y.env n pos) Q E s := by
  obtain ⟨m, hn, hl⟩ := id I.loc
  have hcls : (Y.env.scope.kind == .class || (Y.env.scope.kind == .module && Y.env.locals != Y.env.globals)) = false := by rw [I.ok.kind]; rfl
  have hiσ : i < σ.length := by rw [I.len]; exact (List.getElem?_eq_some_iff.mp hi).1
  have cne := I.cne
  obtain ⟨oL, _, _, hoL, _⟩ := id hn
  refine wpAny_nameGoes_keeps hk hn hcls fun h' v hn' hs => ?_
  have old : ∀ b o, Y.s_0.heap.get? b = some o → b ≠ Y.env.locals := fun b o z => Nat.ne_of_lt (Nat.lt_of_lt_of_le (Heap.lt_size z) I.ok.above)
  refine h _ ⟨I.ok, I.os, I.bare, ⟨fun b o z n hb hx => (hs.2 b (old b o z)).trans (I.base.keep b o z n hb hx), fun b o z n hb hx => ?_, I.base.free, fun b o z hx => ?_, I.base.tups, I.base.frzs, I.base.tbls⟩, ⟨_, hn', fun j y v' e1 e2 e3 => ?_⟩, fun y c z => ?_, I.free, I.freeC, fun p hp => ?_, fun b ob z => ?_, by simpa using I.len⟩
  · obtain ⟨sl, e1⟩ := I.base.slot b o z n hb hx
    exact ⟨sl, (hs.2 b (old b o z)).trans e1⟩
  · obtain ⟨o', e1⟩ := I.base.there b o z hx
    exact ⟨o', (hs.2 b (old b o z)).trans e1⟩
  · by_cases hj : j = i
    · subst hj
      rw [List.getElem?_set_self hiσ] at e2
      cases e2
    · rw [List.getElem?_set_ne (Ne.symm hj)] at e2
      obtain ⟨u', r', q⟩ := hl j y v' e1 e2 e3
      refine ⟨u', r', ?_⟩
      rcases q with ⟨k, z⟩ | ⟨k, c, z1, z2⟩
      · refine .inl ⟨k, ?_⟩
        have ny : y ≠ n := fun q => hj (nodup_ix hN e1 (q ▸ hi))
        simp [ny, z]
      · exact .inr ⟨k, c, z1, z2.sameBut hs (cne y c z1)⟩
  · obtain ⟨w', z'⟩ := I.cell y c z
    exact ⟨w', z'.sameBut hs (cne y c z)⟩
  · obtain ⟨q1, q2, q3, q4, q5⟩ := I.pin p hp
    exact ⟨(hs.2 p.1 q3).trans q1, q2, q3, q4, q5⟩
  · refine (I.hok b ob z).stay (fun c w' hc q => (hs.2 c ?_).trans q) (fun _ q => q) fun _ _ q => q
    rintro rfl
    rcases hc with rfl | hc
    · rw [I.free] at z; cases z
    · rw [I.free] at hc; cases hc
def Ends.less (D : Ends) (i : Nat) : Ends := ⟨fun σ H => D.nx (σ.set i none) H, D.rt, fun σ H => D.bk (σ.set i none) H, fun σ H => D.ct (σ.set i none) H⟩
/-- an expression that may raise, as it stands in a try -/
def PX (Y : Cx) (e : Expr) (t : St → Hp → VK → XK → Prop) : Prop := ∀ (pins : List (Addr × Obj)) (s : Shared) (σ : St) (H : Hp) (Q : VK) (E : XK), Inv Y pins σ H s → t σ H Q E →
  wpAny (model Y.prog Y.w) Y.A (eval e Y.env) (EP Y pins σ Q) (fun x s' => ∃ H1 s1, Inv Y pins σ H1 s1 ∧ CXD Y.prog Y.w Y.stack H1 s1 E x s') s
section
variable {c0 : Expr} {tc : St → Hp → VK → XK → Prop} {p3 tpos xpos : Pos} {h0 : ExceptHandler} {hs : List ExceptHandler} (Ok : Value → Option Addr → St → Hp → Ends → Prop)
/-- how an exception of the body comes to the handlers -/
theorem caught (hn : Y.xe = fun _ _ => False) (hstk : Y.stack = Y.env :: Y.outer) (hfr : Y.env.frame = some Y.env.locals)
    (hh : ∀ {pins : List (Addr × Obj)} {σ : St} {H H' : Hp} {s s' : Shared} {e C t : Addr} {B : Heap} {dd : Option Addr} {D : Ends}, Inv Y pins σ H s → FlyX Y.prog Y.w Y.stack H H' s s' e C t B dd → Ok (.ref C) dd σ H' D →
      wpAny (model Y.prog Y.w) Y.A (handleBy (.ref e) Y.env (h0 :: hs)) (SP Y pins D) Y.xe s')
    {x : Value} (h : ∃ H1 s1, Inv Y pins σ H1 s1 ∧ CXD Y.prog Y.w Y.stack H1 s1 (fun c dd H2 => Ok c dd σ H2 D) x s') :
    wpAny (model Y.prog Y.w) Y.A (noteFrame x Y.env) (fun _ s₂ => wpAny (model Y.prog Y.w) Y.A (setFlight x none) (fun _ s₃ => wpAny (model Y.prog Y.w) Y.A (handleBy x Y.env (h0 :: hs)) (SP Y pins D) Y.xe s₃) Y.xe s₂) Y.xe s' := by
  obtain ⟨H1, s1, I1, ea, C, t, B, H', dd, rfl, G, hE⟩ := h
  have hfl := G.fly
  have hfrm := I1.ok.frames
  rw [hstk] at hfl hfrm
  refine noteD_next hfrm hfr hfl fun h' hl up => ?_
  refine landD hl fun h2 fl2 up2 => ?_
  rw [← hstk] at fl2
  exact hh I1 (G.step fl2 (up.trans up2)) hE
theorem ps_tryXs {i : Nat} {xn : Str} (hc : PX Y c0 tc) (hn : Y.xe = fun _ _ => False) (hstk : Y.stack = Y.env :: Y.outer) (hfr : Y.env.frame = some Y.env.locals) (hN : Y.N.Nodup) (hi : Y.N[i]? = some xn) (hx : Loc Y.env.scope xn)
    (hh : ∀ {pins : List (Addr × Obj)} {σ : St} {H H' : Hp} {s s' : Shared} {e C t : Addr} {B : Heap} {dd : Option Addr} {D : Ends}, Inv Y pins σ H s → FlyX Y.prog Y.w Y.stack H H' s s' e C t B dd → Ok (.ref C) dd σ H' D →
      wpAny (model Y.prog Y.w) Y.A (handleBy (.ref e) Y.env (h0 :: hs)) (SP Y pins D) Y.xe s')
    (hsw : swapsWith c0 (some (.Name xn xpos)) p3.line Y.env = pure false := by rfl) (hf : Y.fn xn = true ∨ Y.env.scope.names.lookup xn = some .local := by first | exact .inl rfl | exact .inr rfl) :
    PS Y (.Try [.Assign [.Name xn xpos] c0 p3] (h0 :: hs) [] [] tpos) (fun D σ H => tc σ H (fun v H2 => D.nx (σ.set i (some v)) H2) fun c dd H2 => Ok c dd σ H2 D) := by
  intro pins s σ H D I h
  refine wpAny_Try_except ?_
  refine wpAny_execs_cons (wpAny_Assign_Name (wpAny_mono (hc pins s σ H _ _ I h) (fun v s1 ⟨x, H1, I1, r1, q1⟩ => ?_) fun x s1 z => caught Ok hn hstk hfr hh z) hsw)
  exact store_ok I1 hN hi hx r1 (fun s2 I2 => wpAny_execs_nil (wpAny_execs_nil ⟨_, H1, I2, q1⟩)) hf
end
end
end L2

set_option Elab.async false
set_option linter.all false
set_option maxRecDepth 100000
namespace L2
open PySem PySem.Spec PyProof.Rows
/-! Dicts of the text's top whose keys are texts: THINGS.get(w), w in THINGS, THINGS[w]. -/
def KD (w : World) (K : PySem.W.Frag) (a : Addr) : Prop := ∃ (es : Array DictEntry) (n : Nat), K.lookup a = some ⟨.type "dict", none, .dict es n, #[]⟩ ∧ PySem.W.KeysLit w.params es.toList ∧ (a == sysModules) = false
/-- what stands there under a text: nothing, or an object of the top -/
def KAt (K : PySem.W.Frag) (a : Addr) (z : Str) (o : Option Addr) : Prop := PySem.W.nsIn K a z = some (o.map Value.ref)
section
variable {X : Cx} {pins : List (Addr × Obj)} {σ : St} {H : Hp} {s : Shared} {a : Addr} {z : Str} {o : Option Addr} {t : Tok} {A : Around} {E : Value → Shared → Prop}
end
section
variable {X : Cx} {o e i : Expr} {apos cpos pos : Pos} {td ty : TE}
end
def tKNotIn (ty td : TE) (w : World) (K : PySem.W.Frag) : TE := fun σ H Q => ty σ H fun y H1 => td σ H1 fun x H2 => ∃ a z o, x = .ref a ∧ y = .str z ∧ KD w K a ∧ KAt K a z o ∧ Q (.bl (!o.isSome)) H2
def tKSub (td ty : TE) (w : World) (K : PySem.W.Frag) : TE := fun σ H Q => td σ H fun x H1 => ty σ H1 fun y H2 => ∃ a z b, x = .ref a ∧ KD w K a ∧ y = .str z ∧ KAt K a z (some b) ∧ Q (.ref b) H2
section
variable {X : Cx} {pins : List (Addr × Obj)} {σ : St} {H : Hp} {s : Shared} {a : Addr} {z : Str} {ov : Option Addr} {t : Tok} {A : Around} {E : Value → Shared → Prop} {o e i : Expr} {apos cpos pos : Pos} {td ty : TE}
theorem kd_notIn {Q : Value → Shared → Prop} (I : Inv X pins σ H s) (d : KD X.w X.K a) (g : KAt X.K a z ov) (h : ∀ s', Inv X pins σ H s' → Q (.bool (!ov.isSome)) s') :
    wpAny (model X.prog X.w) A (compareOp .NotIn (.str z t) (.ref a)) Q E s := by
  obtain ⟨es, n, hl, hk, hm⟩ := d
  refine PySem.wpAny_notIn_of (strKind_is _ _ z t) hm (PySem.W.mapOf_K (prog := X.prog) I.kIn hl hk) ?_
  rw [PySem.W.find_K hl g]
  have := h _ (I.tok (s.toks + 1))
  cases ov <;> exact this
theorem pc_knotin (hi : PE X i ty) (ho : PE X o td) : PC X .NotIn i o (tKNotIn ty td X.w X.K) := by
  intro pins s σ H Q I h
  refine thn (hi pins s σ H _ I h) fun iv s1 ⟨y, H1, I1, ry, q1⟩ => thn (ho pins s1 σ H1 _ I1 q1) fun u s2 ⟨x, H2, I2, rx, a, z, ov, ex, ey, d, g, q2⟩ => ?_
  subst ex
  subst ey
  obtain rfl : u = Value.ref a := rx
  obtain ⟨t, rfl⟩ := ry
  exact kd_notIn I2 d g fun s3 I3 => ⟨.bl (!ov.isSome), H2, I3, rfl, q2⟩
theorem pe_ksub (ho : PE X o td) (hi : PE X i ty) (hs : NoSl i) : PE X (.Subscript o i pos) (tKSub td ty X.w X.K) := by
  intro pins s σ H Q I h
  refine subD_of PySem.F.slot_dict_getitem.lookup hs (thn (ho pins s σ H _ I h) fun u s1 ⟨x, H1, I1, rx, q1⟩ => thn (hi pins s1 σ H1 _ I1 q1) fun iv s2 ⟨y, H2, I2, ry, a, z, b, ex, d, ey, g, q2⟩ => ?_)
  subst ex
  subst ey
  obtain rfl : u = Value.ref a := rx
  obtain ⟨t, rfl⟩ := ry
  obtain ⟨es, n, hl, hk, hm⟩ := d
  have m := PySem.W.mapOf_K (prog := X.prog) I2.kIn hl hk
  exact ⟨m.typeIs, PySem.wpAny_getItem_of (strKind_is _ _ z t) m (PySem.W.find_K hl g) ⟨.ref b, H2, I2.tok _, rfl, q2⟩⟩
end
end L2

set_option Elab.async false
set_option linter.all false
set_option maxRecDepth 100000
namespace L2
open PySem PySem.Spec PyProof.Rows
/-! boards: methods that may raise, calls of a function told by a dict, handlers of two classes -/
section
variable {Y : Cx} {pins : List (Addr × Obj)} {σ : St} {H H' : Hp} {s s' : Shared} {e C t C1 C2 : Addr} {B : Heap} {dd : Option Addr} {x1 x2 : Str} {np p1 p2 tpos pos : Pos} {bd : List Stmt} {rest : List ExceptHandler} {D : Ends}
theorem FlyX.keep {P : Program} {w : World} {l : List Env} {h' : Heap} (F : FlyX P w l H H' s s' e C t B dd) (k : ∀ b o, s'.heap.get? b = some o → h'.get? b = some o) : FlyX P w l H H' s { s' with heap := h' } e C t B dd := by
  obtain ⟨f1, f2, f3, vs, T, oT, ts, a1, a2, a3, a4, a5, a6, a7, a8⟩ := F.fly
  exact F.step ⟨fun b o z => k b o (f1 b o z), f2, Heap.FunFrames.of_keeps (fun b o z _ => ⟨o, k b o z, rfl⟩) f3, vs, T, oT, ts, k _ _ a1, a2, a3, a4, a5, k _ _ a6, a7, a8⟩ (Heap.UpToSlots.of_keeps k)
/-- except (A, B) as n -/
theorem hand_as2 {kk : Nat} {b0 : Stmt} {suite : List Stmt} {ts : TS} {i : Nat} {n : Str} (hn : Y.xe = fun _ _ => False) (hN : Y.N.Nodup) (hi : Y.N[i]? = some n) (hk : Y.env.scope.names.lookup n = some .local) (I : Inv Y pins σ H s) (F : FlyX Y.prog Y.w Y.stack H H' s s' e C t B dd)
    (hg1 : Gl Y x1) (hm1 : Y.mg x1 = some (.ref C1)) (hg2 : Gl Y x2) (hm2 : Y.mg x2 = some (.ref C2)) (hx : PySem.W.exmAny Y.K (.ref C) [.ref C1, .ref C2] = some true)
    (hs : PSs (Y.held (.ref e)) (b0 :: suite) ts) (h : ts (D.less i) (σ.set i (some (.ref e))) (upd H' e (.ext (exc2 e C dd)))) (hd1 : (x1 == ("__debug__" : Str)) = false := by decide) (hd2 : (x2 == ("__debug__" : Str)) = false := by decide) :
    wpAny (model Y.prog Y.w) Y.A (handleBy (.ref e) Y.env (.ExceptHandler (some (.Tuple [.Name x1 p1, .Name x2 p2] kk tpos)) (some n) (b0 :: suite) pos :: rest)) (SP Y pins D) Y.xe s' := by
  have J := (FlyX.inv I F).held (.ref e)
  refine wpAny_handleBy_cons (codeAny_handlers_test ?_) (by intro q; cases q)
  refine wpAny_Tuple ?_
  refine wpAny_items_cons (ld_glob (X := Y.held (.ref e)) J hg1 hm1 ?_ hd1)
  refine wpAny_items_cons (ld_glob (X := Y.held (.ref e)) J hg2 hm2 ?_ hd2)
  refine wpAny_items_nil ⟨by size_fits, ?_⟩
  have kp : ∀ q o, s'.heap.get? q = some o → (s'.heap.push { cls := .type "tuple", data := .seq [.ref C1, .ref C2].toArray }).get? q = some o := fun _ _ z => Heap.get?_push_of_some _ z
  refine (PySem.W.exm_tup2 (J.kIn.keeps kp) ((flyX_type F).keeps kp) (Heap.get?_push_size s'.heap rfl) hx).here ?_
  have F0 := F.keep kp
  refine codeAny_handlers_suite_as ?_
  refine landD F0.fly fun h' fl up => ?_
  have J2 := (FlyX.invE I (F0.step fl up)).held (.ref e)
  refine store_ok (X := Y.held (.ref e)) (v := .ref e) J2 hN hi (.inl hk) rfl (fun s3 J3 => ?_) (.inr hk)
  refine wpAny_mono (hs pins _ _ _ _ J3 h) (fun f s4 q => ?_) fun x s4 q => ?_
  · have q1 := q.unheld I.ok.hd
    cases f with
    | next => obtain ⟨σ', H2, I4, z⟩ := q1; exact goes_ok I4 hN hi hk fun s5 I5 => ⟨_, _, I5, z⟩
    | brk => obtain ⟨σ', H2, I4, z⟩ := q1; exact goes_ok I4 hN hi hk fun s5 I5 => ⟨_, _, I5, z⟩
    | cont => obtain ⟨σ', H2, I4, z⟩ := q1; exact goes_ok I4 hN hi hk fun s5 I5 => ⟨_, _, I5, z⟩
    | ret u => obtain ⟨v, σ', H2, I4, r4, z⟩ := q1; exact goes_ok I4 hN hi hk fun s5 I5 => ⟨v, _, _, I5, r4, z⟩
  · have q' : Y.xe x s4 := q
    rw [hn] at q'
    exact q'.elim
/-- o.m(e, ..) as it stands in a try -/
theorem px_meth {k : Nat} {f Cb : Addr} {fd : FuncData} {ps : List Str} {sp : Sp} {o a0 : Expr} {as : List Expr} {to : TE} {ta : TA} {apos p2 : Pos} {m : Str} {pl : Sem Bool} (hn : Y.xe = fun _ _ => False)
    (ho : PE Y o to) (c : Cls Y.K Cb) (hm : Meth Y.K Cb m f)
    (F : FnOk Y.prog Y.w Y.K Y.mg Y.base (CXD Y.prog Y.w) k f fd ps sp) (hr : Room k Y.A) (hb : Binds Y.K fd ps []) (ha : PA Y (a0 :: as) ta)
    (he : starEach (a0 :: as) Y.env = (false, eval a0 Y.env) :: starEach as Y.env := by rfl) (hpl : (backTo p2 (starEach as Y.env)).any (·.1) = false := by rfl)
    (ht : eval (.Call (.Attribute o m apos) (a0 :: as) [] p2) Y.env = (do
      let ov ← eval o Y.env
      standAt apos.atName
      let (f, first) ← holding [ov] (getMethod ov m pl)
      callWith p2 f first (backTo p2 (starEach (a0 :: as) Y.env)) (backToKw p2 (keywordEach [] Y.env))) := by rfl) :
    PX Y (.Call (.Attribute o m apos) (a0 :: as) [] p2) (fun σ H Q E => to σ H fun x H1 => ∃ a dx fs, x = .ref a ∧ H1 a = some (.ins Cb dx fs) ∧ fs.lookup m = none ∧ ta σ H1 fun vs H2 => sp (x :: vs) H2 Q E) := by
  intro pins s σ H Q E I h
  refine PySem.W.methodCall_KW (pl := pl) (thn (wpAny_mono (ho pins s σ H _ I h) (fun _ _ z => z) fun _ _ z => ?_) fun u s1 ⟨x, H1, I1, rx, a, dx, fs, ex, ea, l, q⟩ => ?_) ht
  · rw [hn] at z; exact z.elim
  subst ex
  obtain rfl : u = Value.ref a := rx
  refine getmeth_ok I1 ea c hm l ?_
  refine PySem.W.callWith_K (first := [.ref a]) (h₀ := Y.base) I.ok.mod.kin hm.kp (thn (wpAny_mono (ha p2 pins s1 σ H1 _ I1 q) (fun _ _ z => z) fun _ _ z => ?_) fun us s2 ⟨vs, H2, I2, r, q2⟩ => ⟨I2.kIn, ?_⟩) he hpl
  · rw [hn] at z; exact z.elim
  · have r2 : Vals (V.ref a :: vs) (Value.ref a :: us) := .cons rfl r
    have hl : (Value.ref a :: us).length = ps.length := by rw [← r2.length]; exact F.len _ _ _ _ q2
    refine wpAny_call (codeAny_mono (F.run Y.A Y.stack s2 H2 ⟨.ref a :: us, []⟩ (.ref a :: us) (.ref a :: vs) _ _ hr I2.env0 (by have := hb s2 (.ref a :: us) I2.kIn (by simpa using hl); simpa using this) r2 q2) fun r s' hq => ?_)
    cases r with
    | error e => exact ⟨H2, s2, I2, hq⟩
    | ok fl =>
      cases fl with
      | ret u => exact I2.after hq
      | next => exact False.elim hq
      | brk => exact False.elim hq
      | cont => exact False.elim hq
end
/-! f(e, *t), f a local name that holds a def -/
section
variable {X : Cx}
def tCallVS (P : Program) (w : World) (K : PySem.W.Frag) (mg : Str → Option Value) (base : Heap) (CX : CXT) (k : Nat) (E : XK) (tf te tt : TE) : TE := fun σ H Q => tf σ H fun x H1 => te σ H1 fun y H2 => tt σ H2 fun z H3 => ∃ (f a : Addr) (fd : FuncData) (ps : List Str) (sp : Sp) (zs : List V),
  x = .ref f ∧ z = .ref a ∧ SqT K H3 a zs ∧ FnOk P w K mg base CX k f fd ps sp ∧ Binds K fd ps [] ∧ PySem.W.keepIn K (.ref f) = true ∧ sp (y :: zs) H3 Q E
theorem star_tup {pins : List (Addr × Obj)} {σ : St} {H : Hp} {s : Shared} {a : Addr} {zs : List V} {A : Around} {E : Value → Shared → Prop} {Q : List Value → Shared → Prop} (I : Inv X pins σ H s) (h : SqT X.K H a zs) (hq : ∀ us s', Inv X pins σ H s' → Vals zs us → Q us s') :
    PySem.W.StarOf (model X.prog X.w) A E (.ref a) Q s := by
  obtain ⟨its, r, ⟨o, e, hc, n, hd⟩, hz⟩ := I.tuple h
  have D : s.TypeIs (.ref a) "tuple" := ⟨o, e, hc⟩
  unfold PySem.W.StarOf notIterableAtAll
  refine wpAny_bind (wpAny_specialOf D PySem.F.slot_tuple_iter.lookup (wpAny_pure ⟨rfl, ?_⟩))
  refine wpAny_collect_seq a (.inr rfl) e hc hd (fun h' hk => hq _ _ (I.kept hk) (by simpa using r)) (by have := r.length; simp; omega)
theorem pe_callVS {CX : CXT} {k : Nat} {E : XK} {x : Str} {e0 e1 : Expr} {tf te tt : TE} {np sp_ cpos : Pos} (hx : Passes CX X E) (hf : PE X (.Name x np) tf) (he : PE X e0 te) (ht : PE X e1 tt) (hr : Room k X.A)
    (hs : starEach [e0, .Starred e1 sp_] X.env = [(false, eval e0 X.env), (true, eval e1 X.env)] := by rfl) :
    PE X (.Call (.Name x np) [e0, .Starred e1 sp_] [] cpos) (tCallVS X.prog X.w X.K X.mg X.base CX k E tf te tt) := by
  intro pins s σ H Q I h
  refine wpAny_Call_Name_kw (thn (hf pins s σ H _ I h) fun u s1 ⟨xv, H1, I1, r1, q1⟩ => ?_)
  rw [hs]
  refine PySem.W.ks_call (P := fun h => ∃ k, (k = Keeper.frame ∨ k = Keeper.machine ∨ k = Keeper.boundFrame) ∧ PySem.W.Looks (model X.prog X.w) h (keeperOf u) k) rfl (fun _ z => z) (Calls.evalArgs_plain ?_)
  refine Calls.spliced_cons (thn (he pins s1 σ H1 _ I1 q1) fun u0 s2 ⟨y, H2, I2, r2, q2⟩ => ?_)
  refine PySem.W.ks_spliced (thn (ht pins s2 σ H2 _ I2 q2) fun u1 s3 ⟨z, H3, I3, r3, f, a, fd, ps, sp, zs, ex, ez, hz, F, hb, kp, q3⟩ => ?_)
  subst ex ez
  obtain rfl : u = Value.ref f := r1
  obtain rfl : u1 = Value.ref a := r3
  refine star_tup I3 hz fun us s4 I4 r4 => ?_
  refine Calls.spliced_nil ⟨PySem.W.keeps_K kp _ I4.kIn, ?_⟩
  have e : us ++ [] = us := List.append_nil us
  have r5 : Vals (y :: zs) (u0 :: (us ++ [])) := by rw [e]; exact .cons r2 r4
  exact run_fn (us := u0 :: (us ++ [])) (vs := y :: zs) (dvs := []) (ds := []) F hr hb .nil hx I4 r5 (by simpa using q3)
end

/-! o.m(e, .., k = v) -/
def tMethK (C : Addr) (m : Str) (sp : Sp) (gV : List V → List V → List V) (E : XK) (ta : TE) (t tk : TA) : TE := fun σ H Q => ta σ H fun x H1 => ∃ a dx fs, x = .ref a ∧ H1 a = some (.ins C dx fs) ∧ fs.lookup m = none ∧
  t σ H1 fun vs H2 => tk σ H2 fun zs H3 => sp (gV (x :: vs) zs) H3 Q E
section
variable {X : Cx}
theorem pe_methK {CX : CXT} {k : Nat} {f C : Addr} {fd : FuncData} {ps ks : List Str} {sp : Sp} {E : XK} {m : Str} {pos apos : Pos} {e o : Expr} {es : List Expr} {kws : List Keyword} {ta : TE} {t tk : TA} {g : List Value → List Value → List Value} {gV : List V → List V → List V} {pl : Sem Bool}
    (he : PE X o ta) (c : Cls X.K C) (hm : Meth X.K C m f) (F : FnOk X.prog X.w X.K X.mg X.base CX k f fd ps sp) (hr : Room k X.A) (hb : KBinds X.K fd ps ks g gV) (hx : Passes CX X E)
    (ha : PA X (e :: es) t) (hkw : PK X kws tk) (hall : (backToKw pos (keywordEach kws X.env)).all (·.1.isSome) = true := by rfl) (hks : (backToKw pos (keywordEach kws X.env)).filterMap (·.1) = ks := by rfl)
    (hst : starEach (e :: es) X.env = (false, eval e X.env) :: starEach es X.env := by rfl)
    (hpl : ((backTo pos (starEach (e :: es) X.env)).any (·.1) || (backToKw pos (keywordEach kws X.env)).any (·.1.isNone)) = false := by rfl)
    (ht : eval (.Call (.Attribute o m apos) (e :: es) kws pos) X.env = (do
      let ov ← eval o X.env
      standAt apos.atName
      let (f, first) ← holding [ov] (getMethod ov m pl)
      callWith pos f first (backTo pos (starEach (e :: es) X.env)) (backToKw pos (keywordEach kws X.env))) := by rfl) :
    PE X (.Call (.Attribute o m apos) (e :: es) kws pos) (tMethK C m sp gV E ta t tk) := by
  intro pins s σ H Q I h
  refine PySem.W.methodCall_KW (pl := pl) (thn (he pins s σ H _ I h) fun u s1 ⟨x, H1, I1, rx, a, dx, fs, ex, ea, l, q⟩ => ?_) ht
  subst ex
  obtain rfl : u = Value.ref a := rx
  refine getmeth_ok I1 ea c hm l ?_
  refine PySem.W.callWith_KW (first := [.ref a]) (h₀ := X.base) I.ok.mod.kin hm.kp hall (thn (ha pos pins s1 σ H1 _ I1 q) fun us s2 ⟨vs, H2, I2, r, q2⟩ => ?_) hpl hst
  refine thn (hkw pos pins s2 σ H2 _ I2 q2) fun ws s3 ⟨zs, H3, I3, rz, q3⟩ => ⟨I3.kIn, ?_⟩
  rw [hks]
  exact run_fnk (us := .ref a :: us) (vs := .ref a :: vs) F hr hb hx I3 (.cons rfl r) rz q3
end
/-! isinstance of an exception that is held -/
section
variable {prog : Program} {w : World} {A : Around} {E : Value → Shared → Prop} {s : Shared} {K : PySem.W.Frag} {x C : Addr} {ox : Obj} {od : Option Obj}
structure ExcK (K : PySem.W.Frag) (C : Addr) : Prop where
  dict : PySem.W.hasDictIn K C = true
  ga : PySem.W.findIn K (.ref C) "__getattribute__" = some (some (.builtin "BaseException.__getattribute__"))
  hook : PySem.W.findIn K (.ref C) "__getattr__" = some none
  exc : PySem.W.mroIn K C (.type "BaseException") = some true
  ha : PySem.W.findIn K (.ref C) "__class__" = some (some (.builtin "object.__class__"))
  hn : PySem.W.specialIn K (.builtin "object.__class__") "__get__" = some (some (.builtin "getset_descriptor.__get__"))
  htk : PySem.W.takesIn K (.builtin "object.__class__") = some true
  hm : PySem.W.mroIn K C (.type "object") = some true
theorem findObj_dataO {a g : Value} {name : Str} (hc : (PySem.W.clsIn K C).isSome = true) (ha : PySem.W.findIn K (.ref C) name = some (some a)) (hg : PySem.W.specialIn K a "__get__" = some (some g)) (ht : PySem.W.takesIn K a = some true) : PySem.W.findObj K C od name = some (.bind g a) := by
  obtain ⟨cd, hc⟩ := Option.isSome_iff_exists.mp hc
  unfold PySem.W.findObj
  rw [hc, Option.bind_some, ha, Option.bind_some]
  simp [hg, ht]
theorem any_someT {K : PySem.W.Frag} {C : Addr} (h : PySem.W.hasDictIn K C = true) : (PySem.W.clsIn K C).isSome = true := by
  obtain ⟨cd, hc, _⟩ := PySem.W.any_some h
  rw [hc]; rfl
theorem classE {Q : Option Value → Shared → Prop} (X : K.In s.heap) (Z : ExcK K C) (I : PySem.W.InstAt s.heap x ox C od) (h : Q (some (.ref C)) { s with toks := s.toks + 1 }) : wpAny (model prog w) A (getAttr? (.ref x) "__class__") Q E s := by
  obtain ⟨hh, g, d, t, os⟩ := s
  have found := PySem.W.looks_find (M := model prog w) X I (findObj_dataO (any_someT Z.dict) Z.ha Z.hn Z.htk)
  have FB := F.excAttr_ValueError
  have L0 := I.type (M := model prog w)
  have exc : PySem.W.Looks (model prog w) hh (isInstance (.ref x) (.type "BaseException")) true := L0.andThen (PySem.W.looks_mroIn X Z.exc)
  unfold getAttr? getAttrBy? getAttrBy
  refine wpAny_bind (wpAny_mkText (wpAny_bind (wpAny_attempt (wpAny_holding (wpAny_bind (L0.at (wpAny_bind ((PySem.W.looks_findIn X Z.ga).at ?_))))))))
  dsimp only
  rw [if_neg (by
    have n1 : (Value.builtin "BaseException.__getattribute__" == Value.builtin "object.__getattribute__") = false := by decide +kernel
    rw [n1]; simp)]
  unfold getAttrByItsOwn hookBefore callGetattribute boundAndCalled
  refine wpAny_bind ((PySem.W.looks_findIn X Z.hook).at (wpAny_bind (wpAny_attempt (wpAny_holding ?_))))
  rw [if_neg (by decide)]
  refine wpAny_bind (wpAny_of_eq (FB.ga.bind _) (wpAny_mono (Q := fun u s' => u = .ref C ∧ s' = ⟨hh, g, d, t + 1, os⟩) (E := fun _ _ => False) (wpAny_call (codeAny_call_builtin FB.ga.plain F.entry_bexc_ga (@PySem.W.check_slot (model prog w) _ _ ⟨hh, g, d, t + 1, os⟩ "BaseException.__getattribute__" "BaseException" "__getattribute__" (.ref x) [.str "__class__" t] [] _ (by decide +kernel) (by decide +kernel) exc (F.args_bexc_ga _ _) ?_))) (fun u s' hu => ?_) fun _ _ z => z.elim))
  · unfold Builtin.«object.__getattribute__»
    repeat (first
      | (with_reducible refine PySem.W.Looks.at L0 ?_)
      | (with_reducible refine PySem.W.Looks.at found ?_)
      | wp_step
      | dsimp only)
    exact PySem.W.class_get (s := ⟨hh, g, d, t + 1, os⟩) (od := od) X I Z.hm (show wpAny _ _ (ret (.ref C)) _ _ _ from wpAny_pure ⟨rfl, rfl⟩)
  · obtain ⟨rfl, rfl⟩ := hu
    show wpAny _ _ (handedOut (.ref C)) _ _ _
    rw [PySem.W.handedOut_of rfl]
    exact wpAny_pure (wpAny_pure h)
theorem kitx_exc (Z : ExcK K C) : PySem.W.KitX K (.ref x) (.ref C) (fun h => PySem.W.InstAt h x ox C od) where
  ty := fun _ _ _ I => I.type
  it := fun _ _ X _ => by
    obtain ⟨cdD, hcD, _⟩ := PySem.W.any_some Z.dict
    unfold PySem.W.clsIn at hcD
    split at hcD
    · rename_i c' d' cd' sl' ho
      intro A' Q' E' s' k q
      unfold isType loadHead
      exact wpAny_bind (wpAny_loadPart (k _ _ (X _ _ ho)) (wpAny_pure q))
    · cases hcD
  ne := fun h tp dd its n sl X htp => by
    obtain ⟨cdD, hcD, _⟩ := PySem.W.any_some Z.dict
    refine Bool.eq_false_iff.mpr fun q => ?_
    have e : C = tp := Value.ref.inj (beq_iff_eq.mp q)
    subst e
    unfold PySem.W.clsIn at hcD
    split at hcD
    · rename_i c' d' cd' sl' ho
      have z := (X _ _ ho).symm.trans htp
      cases z
    · cases hcD
  ca := fun X I k => classE X Z I k
end
section
variable {X : Cx}
end

/-! len(o) of an own class -/
section
variable {X : Cx} {CX : CXT} {k : Nat} {f C : Addr} {fd : FuncData} {sp : Sp} {E : XK}
theorem Room.one {k : Nat} {A : Around} (r : Room (k + 1) A) : Room k A.in1 := r.in1
theorem cr_lenO (hs : PySem.W.findIn X.K (.ref C) "__len__" = some (some (.ref f))) (hf : PySem.W.isFn X.K (.ref f) = true) (F : FnOk X.prog X.w X.K X.mg X.base CX k f fd ["self"] sp) (hr : Room (k + 1) X.A) (hb : Binds X.K fd ["self"] []) (hx : Passes CX X E) :
    CallR X (.builtin "len") (fun xs H Q => ∃ a dx fs, xs = [.ref a] ∧ H a = some (.ins C dx fs) ∧ sp [.ref a] H (fun v H' => ∃ n : Int, v = .int n ∧ 0 ≤ n ∧ n < 2 ^ 63 ∧ Q (.int n) H') E) := by
  intro pins s σ H xs us Q I r h
  obtain ⟨a, dx, fs, rfl, ea, q⟩ := h
  cases r with
  | cons r1 rr =>
    cases rr
    cases (show _ = Value.ref a from r1)
    obtain ⟨mA, O, _⟩ := ins_get I.hok ea
    obtain ⟨od, J, _⟩ := O.look
    obtain ⟨m, Fm⟩ := I.fr
    refine PySem.W.len_K Fm I.ok.mod.kin J hs hf ?_
    have e0 := I.env0
    refine wpAny_call (codeAny_mono (F.run X.A.in1 X.stack s H ⟨[.ref a], []⟩ [.ref a] [.ref a] _ _ hr.in1 ⟨e0.frames, e0.mod, e0.bs, e0.bsz, e0.funs, e0.frf, e0.hok, e0.bare⟩ (by have := hb s [.ref a] I.kIn rfl; simpa using this) (.cons rfl .nil) q) fun r s' hq => ?_)
    cases r with
    | error e => exact hx pins σ H s e s' I hq
    | ok fl =>
      cases fl with
      | ret u =>
        obtain ⟨v, H', I', rv, n, ev, n0, n1, qn⟩ := I.after hq
        subst ev
        obtain ⟨t, rfl⟩ := (show ∃ t, u = Value.int n t from rv)
        exact ⟨⟨n0, n1⟩, .int n, H', I'.tok _, ⟨_, rfl⟩, qn⟩
      | next => exact False.elim hq
      | brk => exact False.elim hq
      | cont => exact False.elim hq
end
end L2

set_option Elab.async false
set_option linter.all false
set_option maxRecDepth 100000
namespace L2
open PySem PySem.Spec PyProof.Rows
end L2

set_option Elab.async false
set_option linter.all false
set_option maxRecDepth 100000
namespace L2
/-! longest walks, as the program finds them -/
structure Step where
  s : Nat
  e : Nat
  g : Int
  t : Nat
  w : Int
def up {α : Type} (f : Nat → α) (v : Nat) (x : α) : Nat → α := fun i => if i = v then x else f i
theorem up_same {α : Type} (f : Nat → α) (v : Nat) (x : α) : up f v x v = x := if_pos rfl
theorem up_ne {α : Type} {f : Nat → α} {v i : Nat} {x : α} (h : i ≠ v) : up f v x i = f i := if_neg h
def gsum (l : List Step) : Int := (l.map Step.g).sum
theorem gsum_cons (p : Step) (l : List Step) : gsum (p :: l) = p.g + gsum l := rfl
theorem gsum_append (a b : List Step) : gsum (a ++ b) = gsum a + gsum b := by
  unfold gsum; rw [List.map_append, List.sum_append_int]
/-- going back from v to u -/
inductive Back (C : Nat → Option Step) : Nat → Nat → List Step → Prop
  | nil {v} : Back C v v []
  | cons {v u p l} : C v = some p → Back C p.s u l → Back C v u (p :: l)
theorem Back.append {C : Nat → Option Step} {v u x : Nat} {a b : List Step} (h : Back C v u a) (h' : Back C u x b) : Back C v x (a ++ b) := by
  induction h with
  | nil => exact h'
  | cons e _ ih => exact .cons e (ih h')
theorem Back.det {C : Nat → Option Step} {v u : Nat} {a : List Step} (h : Back C v u a) : ∀ {x : Nat} {b : List Step}, Back C v x b → a.length ≤ b.length → ∃ c, b = a ++ c ∧ Back C u x c := by
  induction h with
  | nil => intro x b hb _; exact ⟨b, rfl, hb⟩
  | @cons v u p l e _ ih =>
    intro x b hb hl
    cases hb with
    | nil => simp at hl
    | @cons _ _ q m e' hb' =>
      rw [e] at e'
      cases e'
      obtain ⟨c, rfl, hc⟩ := ih hb' (by simpa using hl)
      exact ⟨c, rfl, hc⟩
theorem Back.split {C : Nat → Option Step} {x u v : Nat} {l : List Step} (h : Back C x u l) (hv : v ∈ x :: l.map Step.s) : ∃ a b, l = a ++ b ∧ Back C x v a ∧ Back C v u b := by
  induction h with
  | @nil y =>
    have : v = y := by simpa using hv
    subst this
    exact ⟨[], [], rfl, .nil, .nil⟩
  | @cons y u p l e hb ih =>
    rcases List.mem_cons.mp hv with hv | hv
    · subst hv
      exact ⟨[], p :: l, rfl, .nil, .cons e hb⟩
    · obtain ⟨a, b, rfl, h1, h2⟩ := ih hv
      exact ⟨p :: a, b, rfl, .cons e h1, h2⟩
theorem Back.nodup {C : Nat → Option Step} {v u : Nat} {l : List Step} (h : Back C v u l) : (v :: l.map Step.s).Nodup ∨ ∃ x a b c, l = a ++ (b ++ c) ∧ b ≠ [] ∧ Back C v x a ∧ Back C x x b ∧ Back C x u c := by
  induction h with
  | nil => exact .inl (by simp)
  | @cons y u p l e hb ih =>
    rcases ih with ih | ⟨x, a, b, c, rfl, hne, h1, h2, h3⟩
    · by_cases hy : y ∈ p.s :: l.map Step.s
      · obtain ⟨a, b, rfl, h1, h2⟩ := hb.split hy
        exact .inr ⟨y, [], p :: a, b, rfl, by simp, .nil, .cons e h1, h2⟩
      · exact .inl (List.nodup_cons.mpr ⟨hy, ih⟩)
    · exact .inr ⟨x, p :: a, b, c, rfl, hne, .cons e h1, h2, h3⟩
theorem Back.all {C : Nat → Option Step} {v u : Nat} {l : List Step} (h : Back C v u l) : ∀ p ∈ l, C p.e = some p ∨ ∃ y, C y = some p := by
  induction h with
  | nil => intro p hp; simp at hp
  | cons e _ ih =>
    intro p hp
    rcases List.mem_cons.mp hp with rfl | hp
    · exact .inr ⟨_, e⟩
    · exact ih p hp
/-- so many steps back, or to a beginning -/
theorem Back.far (C : Nat → Option Step) (v : Nat) : ∀ k : Nat, (∃ u l, Back C v u l ∧ l.length = k) ∨ ∃ u l, Back C v u l ∧ C u = none ∧ l.length < k
  | 0 => .inl ⟨v, [], .nil, rfl⟩
  | k + 1 => by
    rcases Back.far C v k with ⟨u, l, h, hl⟩ | ⟨u, l, h, hn, hl⟩
    · cases e : C u with
      | none => exact .inr ⟨u, l, h, e, by omega⟩
      | some p => exact .inl ⟨p.s, l ++ [p], h.append (.cons e .nil), by simp [hl]⟩
    · exact .inr ⟨u, l, h, hn, by omega⟩
theorem Back.up {C : Nat → Option Step} {v : Nat} {p : Step} {x u : Nat} {l : List Step} (h : Back (up C v (some p)) x u l) :
    Back C x u l ∨ ∃ a b, l = a ++ p :: b ∧ Back C x v a ∧ Back (L2.up C v (some p)) p.s u b := by
  induction h with
  | nil => exact .inl .nil
  | @cons y u q l e hb ih =>
    by_cases hy : y = v
    · subst hy
      rw [up_same] at e
      cases e
      exact .inr ⟨[], l, rfl, .nil, hb⟩
    · rw [up_ne hy] at e
      rcases ih with ih | ⟨a, b, rfl, h1, h2⟩
      · exact .inl (.cons e ih)
      · exact .inr ⟨q :: a, b, rfl, .cons e h1, h2⟩
def Ge (o : Option Int) (x : Int) : Prop := ∃ g, o = some g ∧ x ≤ g
theorem Ge.le {o : Option Int} {x y : Int} (h : Ge o x) (l : y ≤ x) : Ge o y := let ⟨g, e, k⟩ := h; ⟨g, e, by omega⟩
/-- what stands at any time -/
structure LInv (S : List Step) (st : Nat → Prop) (G : Nat → Option Int) (C : Nat → Option Step) : Prop where
  c : ∀ v p, C v = some p → p ∈ S ∧ p.e = v ∧ ∃ gu gv, G p.s = some gu ∧ G v = some gv ∧ gv ≤ gu + p.g
  r : ∀ v g, C v = none → G v = some g → st v ∧ g = 0
  s : ∀ v, st v → Ge (G v) 0
  cyc : ∀ v l, Back C v v l → l ≠ [] → 0 < gsum l
theorem LInv.gain {S : List Step} {st : Nat → Prop} {G : Nat → Option Int} {C : Nat → Option Step} (I : LInv S st G C) {v u : Nat} {l : List Step} (h : Back C v u l) : ∀ {gv : Int}, G v = some gv → ∃ gu, G u = some gu ∧ gv ≤ gu + gsum l := by
  induction h with
  | nil => intro gv e; exact ⟨gv, e, by show gv ≤ gv + 0; omega⟩
  | @cons v u p l e _ ih =>
    intro gv ev
    obtain ⟨_, _, gu, gv', e1, e2, k⟩ := I.c _ _ e
    rw [ev] at e2
    cases e2
    obtain ⟨gx, e3, k3⟩ := ih e1
    exact ⟨gx, e3, by rw [gsum_cons]; omega⟩
/-- one step looked at -/
theorem LInv.relax {S : List Step} {st : Nat → Prop} {G : Nat → Option Int} {C : Nat → Option Step} (I : LInv S st G C) {p : Step} (hp : p ∈ S) {gs : Int} (e : G p.s = some gs) (hb : ¬ Ge (G p.e) (gs + p.g)) :
    LInv S st (up G p.e (some (gs + p.g))) (up C p.e (some p)) ∧ (∀ v x, Ge (G v) x → Ge (up G p.e (some (gs + p.g)) v) x) := by
  have mono : ∀ v x, Ge (G v) x → Ge (up G p.e (some (gs + p.g)) v) x := fun v x h => by
    by_cases hv : v = p.e
    · subst hv
      rw [up_same]
      obtain ⟨g, eg, k⟩ := h
      refine ⟨_, rfl, ?_⟩
      have : ¬ (gs + p.g ≤ g) := fun z => hb ⟨g, eg, z⟩
      omega
    · rw [up_ne hv]; exact h
  -- going back from the step's start, along what was, to its end sums up above
  have key : ∀ a, Back C p.s p.e a → 0 < gsum a + p.g := fun a ha => by
    obtain ⟨gu, e2, k⟩ := I.gain ha e
    have : ¬ (gs + p.g ≤ gu) := fun z => hb ⟨gu, e2, z⟩
    omega
  have hself : p.s ≠ p.e ∨ 0 < p.g := by
    by_cases h : p.s = p.e
    · refine .inr ?_
      have : ¬ (gs + p.g ≤ gs) := fun z => hb ⟨gs, h ▸ e, z⟩
      omega
    · exact .inl h
  have key2 : ∀ (k : Nat) (l : List Step), l.length ≤ k → Back (up C p.e (some p)) p.s p.e l → 0 < gsum l + p.g := by
    intro k
    induction k with
    | zero =>
      intro l hl h
      rcases h.up with h | ⟨a, b, rfl, _⟩
      · exact key _ h
      · simp at hl
    | succ k ih =>
      intro l hl h
      rcases h.up with h | ⟨a, b, rfl, h1, h2⟩
      · exact key _ h
      · have := key a h1
        have := ih b (by simp at hl; omega) h2
        rw [gsum_append, gsum_cons]
        omega
  refine ⟨⟨fun v q h => ?_, fun v g h1 h2 => ?_, fun v h => mono v 0 (I.s v h), fun v l h hne => ?_⟩, mono⟩
  · by_cases hv : v = p.e
    · subst hv
      rw [up_same] at h
      cases h
      refine ⟨hp, rfl, ?_⟩
      by_cases hs : p.s = p.e
      · refine ⟨gs + p.g, gs + p.g, by rw [hs, up_same], up_same _ _ _, ?_⟩
        rcases hself with h | h
        · exact absurd hs h
        · omega
      · exact ⟨gs, _, by rw [up_ne hs]; exact e, up_same _ _ _, Int.le_refl _⟩
    · rw [up_ne hv] at h
      obtain ⟨h1, h2, gu, gv, e1, e2, k⟩ := I.c _ _ h
      refine ⟨h1, h2, ?_⟩
      obtain ⟨gu', e1', k'⟩ := mono q.s gu ⟨gu, e1, Int.le_refl _⟩
      exact ⟨gu', gv, e1', by rw [up_ne hv]; exact e2, by omega⟩
  · by_cases hv : v = p.e
    · subst hv
      rw [up_same] at h1
      cases h1
    · rw [up_ne hv] at h1 h2
      exact I.r v g h1 h2
  · rcases h.up with h | ⟨a, b, rfl, h1, h2⟩
    · exact I.cyc v l h hne
    · -- turned about it is a way from the step's end to itself
      have h1' : Back (up C p.e (some p)) v p.e a ∨ ∃ a1 a2, a = a1 ++ a2 := .inr ⟨a, [], by simp⟩
      have lift : ∀ {y z : Nat} {m : List Step}, Back C y z m → z = p.e → ∃ m1 m2, m = m1 ++ m2 ∧ Back (up C p.e (some p)) y p.e m1 ∧ Back C p.e p.e m2 := by
        intro y z m hm
        induction hm with
        | nil => intro hz; subst hz; exact ⟨[], [], rfl, .nil, .nil⟩
        | @cons y z q m e' hb' ih =>
          intro hz
          by_cases hy : y = p.e
          · subst hy
            subst hz
            exact ⟨[], q :: m, rfl, .nil, .cons e' hb'⟩
          · obtain ⟨m1, m2, rfl, g1, g2⟩ := ih hz
            exact ⟨q :: m1, m2, rfl, .cons (by rw [up_ne hy]; exact e') g1, g2⟩
      obtain ⟨a1, a2, rfl, g1, g2⟩ := lift h1 rfl
      have ha2 : 0 ≤ gsum a2 := by
        by_cases hn : a2 = []
        · subst hn; exact Int.le_refl _
        · exact Int.le_of_lt (I.cyc _ _ g2 hn)
      have := key2 _ (b ++ a1) (Nat.le_refl _) (h2.append g1)
      rw [gsum_append] at this
      rw [gsum_append, gsum_append, gsum_cons]
      omega
/-- walks by steps, told backwards -/
inductive Chn (S : List Step) : Nat → Nat → List Step → Prop
  | nil {v} : Chn S v v []
  | cons {p u l} : p ∈ S → Chn S p.s u l → Chn S p.e u (p :: l)
/-- no walk of so many steps gains more -/
def Above (S : List Step) (st : Nat → Prop) (k : Nat) (G : Nat → Option Int) : Prop := ∀ v u l, Chn S v u l → l.length ≤ k → st u → Ge (G v) (gsum l)
def Stable (S : List Step) (G : Nat → Option Int) : Prop := ∀ p ∈ S, ∀ x, Ge (G p.s) x → Ge (G p.e) (x + p.g)
/-- in the midst of a trial: of the steps looked at -/
structure Trial (S : List Step) (st : Nat → Prop) (G0 : Nat → Option Int) (done : List Step) (G : Nat → Option Int) (C : Nat → Option Step) (late : Option Nat) : Prop where
  inv : LInv S st G C
  mono : ∀ v x, Ge (G0 v) x → Ge (G v) x
  seen : ∀ p ∈ done, ∀ x, Ge (G0 p.s) x → Ge (G p.e) (x + p.g)
  calm : late = none → G = G0
  new : ∀ v, late = some v → ∃ x, G v = some x ∧ ¬ Ge (G0 v) x
theorem Trial.skip {S : List Step} {st : Nat → Prop} {G0 G : Nat → Option Int} {C : Nat → Option Step} {done : List Step} {late : Option Nat} (I : Trial S st G0 done G C late) {p : Step} (h : ∀ g, G p.s = some g → Ge (G p.e) (g + p.g)) : Trial S st G0 (done ++ [p]) G C late :=
  ⟨I.inv, I.mono, fun q hq x hx => by
    rcases List.mem_append.mp hq with hq | hq
    · exact I.seen q hq x hx
    · have : q = p := by simpa using hq
      subst this
      obtain ⟨g, e, k⟩ := I.mono _ _ hx
      exact (h g e).le (by omega), I.calm, I.new⟩
theorem Trial.take {S : List Step} {st : Nat → Prop} {G0 G : Nat → Option Int} {C : Nat → Option Step} {done : List Step} {late : Option Nat} (I : Trial S st G0 done G C late) {p : Step} (hp : p ∈ S) {gs : Int} (e : G p.s = some gs) (hb : ¬ Ge (G p.e) (gs + p.g)) :
    Trial S st G0 (done ++ [p]) (up G p.e (some (gs + p.g))) (up C p.e (some p)) (some p.e) := by
  obtain ⟨I', mono⟩ := I.inv.relax hp e hb
  refine ⟨I', fun v x h => mono v x (I.mono v x h), fun q hq x hx => ?_, fun z => (nomatch z), fun v ev => ?_⟩
  · rcases List.mem_append.mp hq with hq | hq
    · exact mono _ _ (I.seen q hq x hx)
    · have : q = p := by simpa using hq
      subst this
      obtain ⟨g, e', k⟩ := I.mono _ _ hx
      rw [e] at e'
      cases e'
      exact ⟨_, up_same _ _ _, by omega⟩
  · cases ev
    exact ⟨_, up_same _ _ _, fun h => hb (I.mono _ _ h)⟩
theorem Trial.above {S : List Step} {st : Nat → Prop} {G0 G : Nat → Option Int} {C : Nat → Option Step} {late : Option Nat} {k : Nat} (I : Trial S st G0 S G C late) (h : Above S st k G0) : Above S st (k + 1) G := by
  intro v u l hc hl hu
  cases hc with
  | nil => exact I.mono _ _ (h v v [] .nil (by simp) hu)
  | @cons p u l hp hc =>
    have := I.seen p hp _ (h _ _ _ hc (by simpa using hl) hu)
    rw [gsum_cons, Int.add_comm]
    exact this
theorem nodup_below : ∀ {n : Nat} {l : List Nat}, l.Nodup → (∀ x ∈ l, x < n) → l.length ≤ n
  | 0, l, h, hb => by
    cases l with
    | nil => exact Nat.le_refl _
    | cons a r => exact absurd (hb a (by simp)) (by omega)
  | n + 1, l, h, hb => by
    have := nodup_below (n := n) (h.erase n) fun x hx => by
      obtain ⟨h1, h2⟩ := h.mem_erase_iff.mp hx
      have := hb x h2
      omega
    rw [List.length_erase] at this
    split at this <;> omega
/-- behind all trials -/
structure Best (n : Nat) (S : List Step) (st : Nat → Prop) (G : Nat → Option Int) (C : Nat → Option Step) (late : Option Nat) : Prop where
  inv : LInv S st G C
  fin : (late = none ∧ Stable S G) ∨ ∃ v, late = some v ∧ v < n ∧ ∀ u l, Back C v u l → C u ≠ none
theorem Back.lt {n : Nat} {S : List Step} {st : Nat → Prop} {G : Nat → Option Int} {C : Nat → Option Step} (I : LInv S st G C) (hS : ∀ p ∈ S, p.s < n ∧ p.e < n) {v u : Nat} {l : List Step} (h : Back C v u l) (hv : v < n) : (∀ x ∈ v :: l.map Step.s, x < n) ∧ u < n := by
  induction h with
  | nil => exact ⟨fun x hx => by simp at hx; omega, hv⟩
  | @cons v u p l e _ ih =>
    have := (hS p (I.c _ _ e).1).1
    obtain ⟨h1, h2⟩ := ih this
    exact ⟨fun x hx => by
      rcases List.mem_cons.mp hx with rfl | hx
      · exact hv
      · exact h1 x hx, h2⟩
/-- a box so many steps back lies on a ring -/
theorem back_ring {n : Nat} {S : List Step} {st : Nat → Prop} {G : Nat → Option Int} {C : Nat → Option Step} (I : LInv S st G C) (hS : ∀ p ∈ S, p.s < n ∧ p.e < n) {v u : Nat} {l : List Step} (hv : v < n) (h : Back C v u l) (hl : l.length = n) : ∃ c, c ≠ [] ∧ Back C u u c := by
  rcases h.nodup with nd | ⟨x, a, b, c, rfl, hne, h1, h2, h3⟩
  · exfalso
    have := nodup_below nd (h.lt I hS hv).1
    simp at this
    omega
  · have hb0 : b.length ≠ 0 := fun z => hne (List.eq_nil_of_length_eq_zero z)
    have wrap : ∀ (k : Nat) (c : List Step), c.length ≤ k → Back C x u c → ∃ m, Back C u x m := by
      intro k
      induction k with
      | zero =>
        intro c hc h
        have : c = [] := List.eq_nil_of_length_eq_zero (by omega)
        subst this
        cases h
        exact ⟨[], .nil⟩
      | succ k ih =>
        intro c hc h
        rcases Nat.le_total c.length b.length with hlt | hlt
        · obtain ⟨m, _, hm⟩ := h.det h2 hlt
          exact ⟨m, hm⟩
        · obtain ⟨m, e, hm⟩ := h2.det h hlt
          refine ih m ?_ hm
          have := congrArg List.length e
          simp at this
          omega
    obtain ⟨m, hm⟩ := wrap _ c (Nat.le_refl _) h3
    refine ⟨m ++ (b ++ c), ?_, hm.append (h2.append h3)⟩
    intro z
    simp at z
    exact hne z.2.1
/-- a paper that lets no ring gain -/
def Pot (S : List Step) (π : Nat → Int) : Prop := ∀ p ∈ S, π p.s + p.g ≤ π p.e
theorem Pot.back {S : List Step} {st : Nat → Prop} {G : Nat → Option Int} {C : Nat → Option Step} (I : LInv S st G C) {π : Nat → Int} (P : Pot S π) {v u : Nat} {l : List Step} (h : Back C v u l) : π u + gsum l ≤ π v := by
  induction h with
  | nil => show _ + 0 ≤ _; omega
  | cons e _ ih =>
    obtain ⟨h1, h2, _⟩ := I.c _ _ e
    have := P _ h1
    rw [h2] at this
    rw [gsum_cons]
    omega
theorem Pot.noring {S : List Step} {st : Nat → Prop} {G : Nat → Option Int} {C : Nat → Option Step} (I : LInv S st G C) {π : Nat → Int} (P : Pot S π) {v : Nat} {l : List Step} (h : Back C v v l) : l = [] := by
  by_cases hn : l = []
  · exact hn
  · have := I.cyc v l h hn
    have := P.back I h
    omega
theorem Pot.root {n : Nat} {S : List Step} {st : Nat → Prop} {G : Nat → Option Int} {C : Nat → Option Step} (I : LInv S st G C) {π : Nat → Int} (P : Pot S π) (hS : ∀ p ∈ S, p.s < n ∧ p.e < n) {v : Nat} (hv : v < n) : ∃ u l, Back C v u l ∧ C u = none ∧ l.length < n ∧ u < n := by
  rcases Back.far C v n with ⟨u, l, h, hl⟩ | ⟨u, l, h, hn, hl⟩
  · obtain ⟨c, hc, hr⟩ := back_ring I hS hv h hl
    exact absurd (P.noring I hr) hc
  · exact ⟨u, l, h, hn, hl, (h.lt I hS hv).2⟩
theorem Best.good {n : Nat} {S : List Step} {st : Nat → Prop} {G : Nat → Option Int} {C : Nat → Option Step} {late : Option Nat} (B : Best n S st G C late) {π : Nat → Int} (P : Pot S π) (hS : ∀ p ∈ S, p.s < n ∧ p.e < n) : late = none ∧ Stable S G := by
  rcases B.fin with h | ⟨v, _, hv, h⟩
  · exact h
  · obtain ⟨u, l, hb, hu, _⟩ := P.root B.inv hS hv
    exact absurd hu (h u l hb)
/-- the steps by which the walks came are just as long as told -/
theorem tight {S : List Step} {st : Nat → Prop} {G : Nat → Option Int} {C : Nat → Option Step} (I : LInv S st G C) (hs : Stable S G) {v : Nat} {p : Step} (e : C v = some p) : ∃ gu, G p.s = some gu ∧ G p.e = some (gu + p.g) := by
  obtain ⟨h1, h2, gu, gv, e1, e2, k⟩ := I.c _ _ e
  obtain ⟨g, e3, k3⟩ := hs p h1 gu ⟨gu, e1, Int.le_refl _⟩
  rw [h2] at e3 ⊢
  rw [e2] at e3
  cases e3
  have : gv = gu + p.g := by omega
  exact ⟨gu, e1, by rw [e2, this]⟩
end L2

set_option Elab.async false
set_option linter.all false
set_option maxRecDepth 100000
namespace L2
structure Tie where
  ar : Bool
  pl : Nat
  i : Nat
  o : Nat
  l : Int
  w : Int
def fwd (k : Nat) (t : Tie) : Step := ⟨t.i, t.o, t.l, k, 1⟩
def bwd (k : Nat) (t : Tie) : Step := ⟨t.o, t.i, -t.l, k, -1⟩
def stepAt (f : List Int) (k : Nat) (t : Tie) : List Step := if 0 < f.getD k 0 then [fwd k t, bwd k t] else [fwd k t]
/-- the steps of the first ties -/
def stepsTo (ts : List Tie) (f : List Int) : Nat → List Step
  | 0 => []
  | k + 1 => stepsTo ts f k ++ (match ts[k]? with | some t => stepAt f k t | none => [])
theorem mem_stepAt {f : List Int} {k : Nat} {t : Tie} {p : Step} : p ∈ stepAt f k t ↔ p = fwd k t ∨ (0 < f.getD k 0 ∧ p = bwd k t) := by
  unfold stepAt
  generalize f.getD k 0 = c
  by_cases h : 0 < c
  · rw [if_pos h]; simp [h]
  · rw [if_neg h]; simp [h]
theorem mem_stepsTo {ts : List Tie} {f : List Int} {p : Step} : ∀ {n : Nat}, p ∈ stepsTo ts f n ↔ ∃ k t, k < n ∧ ts[k]? = some t ∧ (p = fwd k t ∨ (0 < f.getD k 0 ∧ p = bwd k t))
  | 0 => by
    constructor
    · intro h; simp [stepsTo] at h
    · rintro ⟨k, t, hk, _⟩; omega
  | n + 1 => by
    unfold stepsTo
    rw [List.mem_append, mem_stepsTo (n := n)]
    constructor
    · rintro (⟨k, t, hk, h⟩ | h)
      · exact ⟨k, t, by omega, h⟩
      · cases e : ts[n]? with
        | none => rw [e] at h; simp at h
        | some t =>
          rw [e] at h
          exact ⟨n, t, by omega, e, mem_stepAt.mp h⟩
    · rintro ⟨k, t, hk, e, h⟩
      by_cases hn : k = n
      · subst hn
        refine .inr ?_
        rw [e]
        exact mem_stepAt.mpr h
      · exact .inl ⟨k, t, by omega, e, h⟩
def stepsOf (ts : List Tie) (f : List Int) : List Step := stepsTo ts f ts.length
theorem mem_stepsOf {ts : List Tie} {f : List Int} {p : Step} : p ∈ stepsOf ts f ↔ ∃ k t, ts[k]? = some t ∧ (p = fwd k t ∨ (0 < f.getD k 0 ∧ p = bwd k t)) := by
  unfold stepsOf
  rw [mem_stepsTo]
  constructor
  · rintro ⟨k, t, _, h⟩; exact ⟨k, t, h⟩
  · rintro ⟨k, t, e, h⟩; exact ⟨k, t, (List.getElem?_eq_some_iff.mp e).1, e, h⟩
def TiesIn (n : Nat) (ts : List Tie) : Prop := ∀ t ∈ ts, t.i < n ∧ t.o < n ∧ 0 ≤ t.w ∧ t.w ≤ 9 ∧ -9 ≤ t.l ∧ t.l ≤ 9
theorem steps_in {n : Nat} {ts : List Tie} {f : List Int} (h : TiesIn n ts) : ∀ p ∈ stepsOf ts f, p.s < n ∧ p.e < n := fun p hp => by
  obtain ⟨k, t, e, h1⟩ := mem_stepsOf.mp hp
  obtain ⟨a, b, _⟩ := h t (List.mem_of_getElem? e)
  rcases h1 with rfl | ⟨_, rfl⟩
  · exact ⟨a, b⟩
  · exact ⟨b, a⟩
/-- a layering that keeps all ties -/
def Keeps (ts : List Tie) (π : Nat → Int) : Prop := ∀ t ∈ ts, π t.i + t.l ≤ π t.o
/-- … and has just the least where some flow is -/
def Slack (ts : List Tie) (f : List Int) (π : Nat → Int) : Prop := ∀ k t, ts[k]? = some t → 0 < f.getD k 0 → π t.o ≤ π t.i + t.l
theorem pot_iff {ts : List Tie} {f : List Int} {π : Nat → Int} : Pot (stepsOf ts f) π ↔ Keeps ts π ∧ Slack ts f π := by
  constructor
  · intro P
    refine ⟨fun t ht => ?_, fun k t e hf => ?_⟩
    · obtain ⟨k, e⟩ := List.getElem?_of_mem ht
      exact P (fwd k t) (mem_stepsOf.mpr ⟨k, t, e, .inl rfl⟩)
    · have := P (bwd k t) (mem_stepsOf.mpr ⟨k, t, e, .inr ⟨hf, rfl⟩⟩)
      show π t.o ≤ _
      have h : π t.o + -t.l ≤ π t.i := this
      omega
  · rintro ⟨h1, h2⟩ p hp
    obtain ⟨k, t, e, rfl | ⟨hf, rfl⟩⟩ := mem_stepsOf.mp hp
    · exact h1 t (List.mem_of_getElem? e)
    · have := h2 k t e hf
      show π t.o + -t.l ≤ π t.i
      omega
/-! sums -/
/-- over the boxes -/
def dotF (lam : Nat → Int) : Nat → List Int → Int
  | _, [] => 0
  | b, x :: r => lam b * x + dotF lam (b + 1) r
def dot (lam : Nat → Int) (l : List Int) : Int := dotF lam 0 l
theorem dotF_set (lam : Nat → Int) (x : Int) : ∀ (l : List Int) (b k : Nat), k < l.length → dotF lam b (l.set k x) = dotF lam b l + lam (b + k) * (x - l.getD k 0)
  | [], b, k, h => by simp at h
  | y :: r, b, 0, h => by
    simp only [List.set_cons_zero, dotF, List.getD_cons_zero, Nat.add_zero]
    grind
  | y :: r, b, k + 1, h => by
    have := dotF_set lam x r (b + 1) k (by simpa using h)
    simp only [List.set_cons_succ, dotF, List.getD_cons_succ]
    rw [this, show b + 1 + k = b + (k + 1) by omega]
    omega
theorem dot_set {lam : Nat → Int} {x : Int} {l : List Int} {k : Nat} (h : k < l.length) : dot lam (l.set k x) = dot lam l + lam k * (x - l.getD k 0) := by
  have := dotF_set lam x l 0 k h
  rw [Nat.zero_add] at this
  exact this
theorem dotF_zero (lam : Nat → Int) : ∀ (n b : Nat), dotF lam b (List.replicate n 0) = 0
  | 0, b => rfl
  | n + 1, b => by
    rw [List.replicate_succ]
    show lam b * 0 + _ = 0
    rw [dotF_zero lam n]; omega
theorem dotF_nonpos {lam : Nat → Int} : ∀ {l : List Int} {b : Nat}, (∀ k x, l[k]? = some x → lam (b + k) * x ≤ 0) → dotF lam b l ≤ 0 ∧ ((∃ k x, l[k]? = some x ∧ lam (b + k) * x < 0) → dotF lam b l < 0)
  | [], b, h => ⟨Int.le_refl _, fun ⟨k, x, e, _⟩ => by simp at e⟩
  | y :: r, b, h => by
    have h0 := h 0 y rfl
    obtain ⟨h1, h2⟩ := dotF_nonpos (lam := lam) (l := r) (b := b + 1) fun k x e => by
      have := h (k + 1) x (by simpa using e)
      rw [show b + 1 + k = b + (k + 1) by omega]
      exact this
    refine ⟨?_, fun ⟨k, x, e, hk⟩ => ?_⟩
    · show lam b * y + _ ≤ 0
      rw [Nat.add_zero] at h0
      omega
    · show lam b * y + _ < 0
      rw [Nat.add_zero] at h0
      cases k with
      | zero =>
        simp at e
        subst e
        rw [Nat.add_zero] at hk
        omega
      | succ k =>
        have := h2 ⟨k, x, by simpa using e, by rw [show b + 1 + k = b + (k + 1) by omega]; exact hk⟩
        omega
/-- over the ties: what still lacks -/
def lack (lam : Nat → Int) : List Tie → List Int → Int
  | [], _ => 0
  | t :: ts, f => (t.w - f.headD 0) * (lam t.o - lam t.i) + lack lam ts f.tail
theorem lack_set (lam : Nat → Int) (x : Int) : ∀ (ts : List Tie) (f : List Int) (k : Nat) (t : Tie), ts[k]? = some t → k < f.length → lack lam ts (f.set k x) = lack lam ts f - (x - f.getD k 0) * (lam t.o - lam t.i)
  | [], f, k, t, e, h => by simp at e
  | u :: ts, [], k, t, e, h => by simp at h
  | u :: ts, y :: f, 0, t, e, h => by
    simp at e
    subst e
    simp only [List.set_cons_zero, lack, List.headD_cons, List.tail_cons, List.getD_cons_zero]
    grind
  | u :: ts, y :: f, k + 1, t, e, h => by
    have := lack_set lam x ts f k t (by simpa using e) (by simpa using h)
    simp only [List.set_cons_succ, lack, List.headD_cons, List.tail_cons, List.getD_cons_succ]
    rw [this]
    omega
theorem lack_zero (lam : Nat → Int) : ∀ (ts : List Tie) (n : Nat), lack lam ts (List.replicate n 0) = (ts.map fun t => t.w * (lam t.o - lam t.i)).sum
  | [], n => rfl
  | t :: ts, 0 => by
    have := lack_zero lam ts 0
    show (t.w - 0) * _ + _ = t.w * _ + (ts.map _).sum
    rw [← this, Int.sub_zero]
    rfl
  | t :: ts, n + 1 => by
    have := lack_zero lam ts n
    show (t.w - 0) * _ + _ = t.w * _ + (ts.map _).sum
    rw [← this, Int.sub_zero]
    rfl
def lenOf (ts : List Tie) (lam : Nat → Int) : Int := (ts.map fun t => t.w * (lam t.o - lam t.i)).sum
def worthOf : List Tie → List Int → Int
  | [], _ => 0
  | t :: ts, f => f.headD 0 * t.l + worthOf ts f.tail
/-- what a flow is worth, and how long layerings are -/
theorem lack_len {ts : List Tie} : ∀ {f : List Int} {lam : Nat → Int}, (∀ k, 0 ≤ f.getD k 0) → Keeps ts lam → worthOf ts f + lack lam ts f ≤ lenOf ts lam := by
  induction ts with
  | nil => intro f lam _ _; exact Int.le_refl _
  | cons t ts ih =>
    intro f lam h0 hk
    have h1 := ih (f := f.tail) (lam := lam) (fun k => by
      have := h0 (k + 1)
      cases f with
      | nil => exact Int.le_refl _
      | cons y f => simpa using this) (fun u hu => hk u (by simp [hu]))
    have h2 := hk t (by simp)
    have h3 := h0 0
    have e : f.getD 0 0 = f.headD 0 := by cases f <;> rfl
    rw [e] at h3
    show f.headD 0 * t.l + worthOf ts f.tail + ((t.w - f.headD 0) * (lam t.o - lam t.i) + lack lam ts f.tail) ≤ t.w * (lam t.o - lam t.i) + lenOf ts lam
    have h4 : f.headD 0 * t.l ≤ f.headD 0 * (lam t.o - lam t.i) := Int.mul_le_mul_of_nonneg_left (by omega) h3
    have h5 : (t.w - f.headD 0) * (lam t.o - lam t.i) = t.w * (lam t.o - lam t.i) - f.headD 0 * (lam t.o - lam t.i) := by grind
    omega
theorem slack_len {ts : List Tie} : ∀ {f : List Int} {lam : Nat → Int}, (∀ k, 0 ≤ f.getD k 0) → Keeps ts lam → Slack ts f lam → worthOf ts f + lack lam ts f = lenOf ts lam := by
  induction ts with
  | nil => intro f lam _ _ _; rfl
  | cons t ts ih =>
    intro f lam h0 hk hs
    have ht : ∀ k, f.tail.getD k 0 = f.getD (k + 1) 0 := fun k => by cases f <;> simp
    have h1 := ih (f := f.tail) (lam := lam) (fun k => by rw [ht]; exact h0 (k + 1)) (fun u hu => hk u (by simp [hu])) (fun k u e hf => hs (k + 1) u (by simpa using e) (by rw [← ht]; exact hf))
    have h2 := hk t (by simp)
    have h3 := h0 0
    have h6 := hs 0 t rfl
    have e : f.getD 0 0 = f.headD 0 := by cases f <;> rfl
    rw [e] at h3 h6
    show f.headD 0 * t.l + worthOf ts f.tail + ((t.w - f.headD 0) * (lam t.o - lam t.i) + lack lam ts f.tail) = t.w * (lam t.o - lam t.i) + lenOf ts lam
    have h4 : f.headD 0 * t.l = f.headD 0 * (lam t.o - lam t.i) := by
      by_cases hf : f.headD 0 = 0
      · rw [hf]; simp
      · have : lam t.o - lam t.i = t.l := by
          have := h6 (by omega)
          omega
        rw [this]
    have h5 : (t.w - f.headD 0) * (lam t.o - lam t.i) = t.w * (lam t.o - lam t.i) - f.headD 0 * (lam t.o - lam t.i) := by grind
    omega
/-- the told flow: the paper beside it shows that none is better -/
structure Flow (ts : List Tie) (f : List Int) : Prop where
  len : f.length = ts.length
  pos : ∀ k, 0 ≤ f.getD k 0
  bal : ∀ lam, lack lam ts f = 0
  pap : ∃ π, Keeps ts π ∧ Slack ts f π
theorem Flow.le {ts : List Tie} {f : List Int} (F : Flow ts f) {lam : Nat → Int} (h : Keeps ts lam) : worthOf ts f ≤ lenOf ts lam := by
  have := lack_len F.pos h
  rw [F.bal] at this
  omega
theorem Flow.eq {ts : List Tie} {f : List Int} (F : Flow ts f) {lam : Nat → Int} (h : Keeps ts lam) (hs : Slack ts f lam) : worthOf ts f = lenOf ts lam := by
  have := slack_len F.pos h hs
  rw [F.bal] at this
  omega
/-- two told flows are worth the same -/
theorem Flow.same {ts : List Tie} {f g : List Int} (F : Flow ts f) (G : Flow ts g) : worthOf ts f = worthOf ts g := by
  obtain ⟨π, h1, h2⟩ := F.pap
  obtain ⟨ρ, h3, h4⟩ := G.pap
  have := F.eq h1 h2
  have := G.eq h3 h4
  have := F.le h3
  have := G.le h1
  omega
end L2

set_option Elab.async false
set_option linter.all false
set_option maxRecDepth 100000
namespace L2
open Classical in
/-- what stands while flow is sent -/
structure Send (n : Nat) (ts : List Tie) (f needs : List Int) : Prop where
  len : f.length = ts.length
  nlen : needs.length = n
  pos : ∀ k, 0 ≤ f.getD k 0
  bal : ∀ lam, dot lam needs = lack lam ts f
  pap : ∃ π, Pot (stepsOf ts f) π
def mass (l : List Int) : Nat := (l.map Int.natAbs).sum
theorem mass_set (x : Int) : ∀ (l : List Int) (k : Nat), k < l.length → mass (l.set k x) + (l.getD k 0).natAbs = mass l + x.natAbs
  | [], k, h => by simp at h
  | y :: r, 0, h => by
    simp only [List.set_cons_zero, mass, List.map_cons, List.sum_cons, List.getD_cons_zero]
    omega
  | y :: r, k + 1, h => by
    have := mass_set x r k (by simpa using h)
    simp only [List.set_cons_succ, mass, List.map_cons, List.sum_cons, List.getD_cons_succ] at this ⊢
    omega
theorem lack_one (lam : Nat → Int) (hl : ∀ v, lam v = 1) : ∀ (ts : List Tie) (f : List Int), lack lam ts f = 0
  | [], f => rfl
  | t :: ts, f => by
    show (t.w - f.headD 0) * (lam t.o - lam t.i) + _ = 0
    rw [hl, hl, lack_one lam hl ts]
    simp
/-- some box must let flow out -/
theorem Send.low {n : Nat} {ts : List Tie} {f needs : List Int} (I : Send n ts f needs) (h : ∃ x ∈ needs, x ≠ 0) : ∃ (v : Nat) (y : Int), needs[v]? = some y ∧ y < 0 := by
  apply Classical.byContradiction
  intro hn
  have h0 : ∀ (k : Nat) (x : Int), needs[k]? = some x → 0 ≤ x := fun k x e => by
    apply Classical.byContradiction
    intro hx
    exact hn ⟨k, x, e, by omega⟩
  obtain ⟨x, hx, hne⟩ := h
  obtain ⟨k, e⟩ := List.getElem?_of_mem hx
  have hb := I.bal fun _ => 1
  rw [lack_one _ fun _ => rfl] at hb
  have neg : ∀ (l : List Int) (b : Nat), dotF (fun _ => -1) b l = - dotF (fun _ => 1) b l := by
    intro l
    induction l with
    | nil => intro b; rfl
    | cons y r ih =>
      intro b
      show -1 * y + _ = -(1 * y + _)
      rw [ih]; omega
  obtain ⟨_, h2⟩ := dotF_nonpos (lam := fun _ => -1) (l := needs) (b := 0) fun k x e => by
    have := h0 k x e
    show -1 * x ≤ 0
    omega
  have := h2 ⟨k, x, e, by
    have := h0 k x e
    show -1 * x < 0
    omega⟩
  rw [neg] at this
  unfold dot at hb
  omega
open Classical in
/-! sending -/
def sendF (m : Int) (road : List Step) (f : List Int) : List Int := road.foldl (fun f p => f.set p.t (f.getD p.t 0 + p.w * m)) f
theorem sendF_len (m : Int) : ∀ (road : List Step) (f : List Int), (sendF m road f).length = f.length
  | [], f => rfl
  | p :: r, f => by
    show (sendF m r _).length = _
    rw [sendF_len m r, List.length_set]
theorem sendF_ne (m : Int) {k : Nat} : ∀ (road : List Step) (f : List Int), k ∉ road.map Step.t → (sendF m road f).getD k 0 = f.getD k 0
  | [], f, h => rfl
  | p :: r, f, h => by
    have h1 : k ≠ p.t := fun z => h (by simp [z])
    show (sendF m r _).getD k 0 = _
    rw [sendF_ne m r _ (fun z => h (by simp at z ⊢; exact .inr z))]
    rw [List.getD_eq_getElem?_getD, List.getElem?_set_ne (Ne.symm h1), ← List.getD_eq_getElem?_getD]
theorem sendF_at (m : Int) {p : Step} : ∀ (road : List Step) (f : List Int), (road.map Step.t).Nodup → p ∈ road → p.t < f.length → (sendF m road f).getD p.t 0 = f.getD p.t 0 + p.w * m
  | [], f, h, hp, _ => by simp at hp
  | q :: r, f, h, hp, hl => by
    have nd := List.nodup_cons.mp (show (q.t :: r.map Step.t).Nodup from h)
    show (sendF m r _).getD p.t 0 = _
    rcases List.mem_cons.mp hp with rfl | hp
    · rw [sendF_ne m r _ nd.1, List.getD_eq_getElem?_getD, List.getElem?_set_self hl]
      rfl
    · have hne : q.t ≠ p.t := fun z => nd.1 (by rw [z]; exact List.mem_map_of_mem hp)
      rw [sendF_at m r _ nd.2 hp (by rw [List.length_set]; exact hl)]
      rw [List.getD_eq_getElem?_getD, List.getElem?_set_ne hne, ← List.getD_eq_getElem?_getD]
def tele (lam : Nat → Int) (l : List Step) : Int := (l.map fun p => lam p.e - lam p.s).sum
theorem tele_append (lam : Nat → Int) (a b : List Step) : tele lam (a ++ b) = tele lam a + tele lam b := by
  unfold tele; rw [List.map_append, List.sum_append_int]
theorem Back.tele {S : List Step} {st : Nat → Prop} {G : Nat → Option Int} {C : Nat → Option Step} (I : LInv S st G C) (lam : Nat → Int) {v u : Nat} {l : List Step} (h : Back C v u l) : tele lam l.reverse = lam v - lam u := by
  induction h with
  | nil => show (0 : Int) = _; omega
  | @cons v u p l e _ ih =>
    rw [List.reverse_cons, tele_append, ih]
    have := (I.c _ _ e).2.1
    show lam p.s - lam u + (lam p.e - lam p.s + 0) = _
    rw [this]; omega
theorem sendF_lack (lam : Nat → Int) (m : Int) {ts : List Tie} {f0 : List Int} : ∀ (road : List Step) (f : List Int), (∀ p ∈ road, p ∈ stepsOf ts f0) → f.length = ts.length → lack lam ts (sendF m road f) = lack lam ts f - m * tele lam road
  | [], f, h, hl => by
    show lack lam ts f = _ - m * 0
    omega
  | p :: r, f, h, hl => by
    show lack lam ts (sendF m r _) = _
    rw [sendF_lack lam m r _ (fun q hq => h q (by simp [hq])) (by rw [List.length_set]; exact hl)]
    obtain ⟨k, t, e, hp⟩ := mem_stepsOf.mp (h p (by simp))
    have hk := (List.getElem?_eq_some_iff.mp e).1
    have ht : p.t = k := by rcases hp with rfl | ⟨_, rfl⟩ <;> rfl
    show lack lam ts (f.set p.t (f.getD p.t 0 + p.w * m)) - _ = _
    rw [ht, lack_set lam _ ts f k t e (by omega)]
    show _ = _ - m * ((lam p.e - lam p.s) + tele lam r)
    rcases hp with rfl | ⟨_, rfl⟩
    · show _ - (f.getD k 0 + 1 * m - f.getD k 0) * (lam t.o - lam t.i) - _ = _ - m * ((lam t.o - lam t.i) + _)
      grind
    · show _ - (f.getD k 0 + -1 * m - f.getD k 0) * (lam t.o - lam t.i) - _ = _ - m * ((lam t.i - lam t.o) + _)
      grind
theorem sum_ge {l : List Int} (h : ∀ x ∈ l, 0 ≤ x) : 0 ≤ l.sum ∧ ∀ x ∈ l, x ≤ l.sum := by
  induction l with
  | nil => exact ⟨Int.le_refl _, fun x hx => by simp at hx⟩
  | cons y r ih =>
    obtain ⟨h1, h2⟩ := ih fun x hx => h x (by simp [hx])
    have h0 := h y (by simp)
    refine ⟨by rw [List.sum_cons]; omega, fun x hx => ?_⟩
    rw [List.sum_cons]
    rcases List.mem_cons.mp hx with rfl | hx
    · omega
    · have := h2 x hx; omega
/-- the road of the walk -/
structure Road (ts : List Tie) (f : List Int) (G : Nat → Option Int) (C : Nat → Option Step) (v u : Nat) (l : List Step) : Prop where
  back : Back C v u l
  root : C u = none
  inS : ∀ p ∈ l, p ∈ stepsOf ts f ∧ C p.e = some p
  ndt : (l.map Step.t).Nodup
open Classical in
/-- once sent, all stands again -/
theorem Send.next {n : Nat} {ts : List Tie} {f needs : List Int} (I : Send n ts f needs) {st : Nat → Prop} {G : Nat → Option Int} {C : Nat → Option Step} (L : LInv (stepsOf ts f) st G C) (hs : Stable (stepsOf ts f) G) {v u : Nat} {l : List Step} (R : Road ts f G C v u l) {a b m : Int}
    (eu : needs[u]? = some a) (ev : needs[v]? = some b) (ha : a < 0) (hb : 0 < b) (hm : 0 < m) (hma : m ≤ -a) (hmb : m ≤ b) (hmr : ∀ p ∈ l, p.w < 0 → m ≤ f.getD p.t 0) :
    Send n ts (sendF m l.reverse f) ((needs.set u (a + m)).set v (b - m)) ∧ mass ((needs.set u (a + m)).set v (b - m)) < mass needs := by
  have huv : u ≠ v := fun z => by rw [z, ev] at eu; cases eu; omega
  have hul : u < needs.length := (List.getElem?_eq_some_iff.mp eu).1
  have hvl : v < needs.length := (List.getElem?_eq_some_iff.mp ev).1
  have gu : needs.getD u 0 = a := by rw [List.getD_eq_getElem?_getD, eu]; rfl
  have gv : (needs.set u (a + m)).getD v 0 = b := by rw [List.getD_eq_getElem?_getD, List.getElem?_set_ne huv, ev]; rfl
  have gv0 : needs.getD v 0 = b := by rw [List.getD_eq_getElem?_getD, ev]; rfl
  have ndr : (l.reverse.map Step.t).Nodup := by
    rw [List.map_reverse]; exact List.pairwise_reverse.mpr (List.Pairwise.imp (fun h => Ne.symm h) R.ndt)
  have tl : ∀ p ∈ l, p.t < f.length := fun p hp => by
    obtain ⟨k, t, e, h⟩ := mem_stepsOf.mp (R.inS p hp).1
    have := (List.getElem?_eq_some_iff.mp e).1
    rcases h with rfl | ⟨_, rfl⟩ <;> (rw [I.len]; exact this)
  have at' : ∀ k, (k ∉ l.map Step.t ∧ (sendF m l.reverse f).getD k 0 = f.getD k 0) ∨ ∃ p ∈ l, p.t = k ∧ (sendF m l.reverse f).getD k 0 = f.getD k 0 + p.w * m := fun k => by
    by_cases hk : k ∈ l.map Step.t
    · obtain ⟨p, hp, rfl⟩ := List.mem_map.mp hk
      exact .inr ⟨p, hp, rfl, sendF_at m _ _ ndr (by simpa using hp) (tl p hp)⟩
    · exact .inl ⟨hk, sendF_ne m _ _ (by rw [List.map_reverse]; simpa using hk)⟩
  refine ⟨⟨by rw [sendF_len, I.len], by rw [List.length_set, List.length_set, I.nlen], fun k => ?_, fun lam => ?_, ?_⟩, ?_⟩
  · rcases at' k with ⟨_, e⟩ | ⟨p, hp, rfl, e⟩
    · rw [e]; exact I.pos k
    · rw [e]
      have h0 := I.pos p.t
      obtain ⟨k, t, ek, h⟩ := mem_stepsOf.mp (R.inS p hp).1
      rcases h with rfl | ⟨_, rfl⟩
      · show 0 ≤ _ + 1 * m
        omega
      · have := hmr _ hp (by show (-1 : Int) < 0; omega)
        show 0 ≤ _ + -1 * m
        omega
  · rw [dot_set (by rw [List.length_set]; exact hvl), dot_set hul, gu, gv, I.bal, sendF_lack lam m (ts := ts) (f0 := f) _ _ (fun p hp => (R.inS p (by simpa using hp)).1) I.len, R.back.tele L]
    grind
  · obtain ⟨π, P⟩ := I.pap
    obtain ⟨hk, hsl⟩ := pot_iff.mp P
    let g : Nat → Int := fun v => (G v).getD 0
    let M : Int := (ts.map fun t => ((π t.i + t.l - g t.o).natAbs : Int)).sum
    have hM : ∀ t ∈ ts, π t.i + t.l - g t.o ≤ M := fun t ht => by
      have := (sum_ge (l := ts.map fun t => ((π t.i + t.l - g t.o).natAbs : Int)) (fun x hx => by
        obtain ⟨t, _, rfl⟩ := List.mem_map.mp hx
        omega)).2 _ (List.mem_map_of_mem ht)
      show _ ≤ (ts.map fun t => ((π t.i + t.l - g t.o).natAbs : Int)).sum
      omega
    let Rr : Nat → Prop := fun v => ∃ g, G v = some g
    have cl : ∀ p ∈ stepsOf ts f, Rr p.s → Rr p.e ∧ g p.s + p.g ≤ g p.e := fun p hp ⟨x, e⟩ => by
      obtain ⟨y, e', k⟩ := hs p hp x ⟨x, e, Int.le_refl _⟩
      refine ⟨⟨y, e'⟩, ?_⟩
      show (G p.s).getD 0 + _ ≤ (G p.e).getD 0
      rw [e, e']
      exact k
    refine ⟨fun v => if Rr v then g v + M else π v, pot_iff.mpr ⟨fun t ht => ?_, fun k t e hf => ?_⟩⟩
    · obtain ⟨k, e⟩ := List.getElem?_of_mem ht
      have h1 := cl (fwd k t) (mem_stepsOf.mpr ⟨k, t, e, .inl rfl⟩)
      have h2 := hk t ht
      have h3 := hM t ht
      by_cases hi : Rr t.i
      · obtain ⟨ho, hg⟩ := h1 hi
        have ho' : Rr t.o := ho
        have hg' : g t.i + t.l ≤ g t.o := hg
        simp only [if_pos hi, if_pos ho']
        omega
      · by_cases ho : Rr t.o
        · simp only [if_neg hi, if_pos ho]
          omega
        · simp only [if_neg hi, if_neg ho]
          exact h2
    · have h1 := cl (fwd k t) (mem_stepsOf.mpr ⟨k, t, e, .inl rfl⟩)
      have old : 0 < f.getD k 0 → (if Rr t.o then g t.o + M else π t.o) ≤ (if Rr t.i then g t.i + M else π t.i) + t.l := fun hf => by
        have h2 := cl (bwd k t) (mem_stepsOf.mpr ⟨k, t, e, .inr ⟨hf, rfl⟩⟩)
        by_cases ho : Rr t.o
        · obtain ⟨hi, hg⟩ := h2 ho
          have hi' : Rr t.i := hi
          have hg' : g t.o + -t.l ≤ g t.i := hg
          rw [if_pos ho, if_pos hi']
          omega
        · have hi : ¬ Rr t.i := fun hi => ho (h1 hi).1
          rw [if_neg ho, if_neg hi]
          exact hsl k t e hf
      rcases at' k with ⟨_, ek⟩ | ⟨p, hp, rfl, ek⟩
      · rw [ek] at hf
        exact old hf
      · rw [ek] at hf
        obtain ⟨hpS, hC⟩ := R.inS p hp
        obtain ⟨k', t', ek', h⟩ := mem_stepsOf.mp hpS
        have hkt : p.t = k' := by rcases h with rfl | ⟨_, rfl⟩ <;> rfl
        rw [hkt, ek'] at e
        cases e
        rcases h with rfl | ⟨hfk, rfl⟩
        · obtain ⟨x, e1, e2⟩ := tight L hs hC
          have hi : Rr t.i := ⟨_, e1⟩
          have ho : Rr t.o := ⟨_, e2⟩
          have g1 : g t.i = x := by show (G t.i).getD 0 = x; rw [show G t.i = some x from e1]; rfl
          have g2 : g t.o = x + t.l := by show (G t.o).getD 0 = _; rw [show G t.o = some (x + t.l) from e2]; rfl
          show (if Rr t.o then _ else _) ≤ (if Rr t.i then _ else _) + _
          rw [if_pos ho, if_pos hi, g1, g2]
          omega
        · refine old hfk
  · have m1 := mass_set (a + m) needs u hul
    have m2 := mass_set (b - m) (needs.set u (a + m)) v (by rw [List.length_set]; exact hvl)
    rw [gu] at m1
    rw [gv] at m2
    omega
theorem Send.done {n : Nat} {ts : List Tie} {f needs : List Int} (I : Send n ts f needs) (h : ∀ x ∈ needs, x = 0) : Flow ts f := by
  refine ⟨I.len, I.pos, fun lam => ?_, ?_⟩
  · rw [← I.bal]
    have : needs = List.replicate needs.length 0 := List.eq_replicate_iff.mpr ⟨rfl, h⟩
    rw [this]
    exact dotF_zero lam _ _
  · obtain ⟨π, P⟩ := I.pap
    obtain ⟨h1, h2⟩ := pot_iff.mp P
    exact ⟨π, h1, h2⟩
/-! what the boxes need at first -/
def needAdd (needs : List Int) (t : Tie) : List Int := let a := needs.set t.i (needs.getD t.i 0 - t.w); a.set t.o (a.getD t.o 0 + t.w)
def needTo (n : Nat) (ts : List Tie) : List Int := ts.foldl needAdd (List.replicate n 0)
theorem needAdd_len (needs : List Int) (t : Tie) : (needAdd needs t).length = needs.length := by unfold needAdd; simp
theorem needFold (lam : Nat → Int) {n : Nat} : ∀ (ts : List Tie) (x : List Int), x.length = n → TiesIn n ts → dot lam (ts.foldl needAdd x) = dot lam x + lenOf ts lam ∧ (ts.foldl needAdd x).length = n
  | [], x, hx, _ => ⟨by show _ = _ + 0; simp, hx⟩
  | t :: ts, x, hx, h => by
    obtain ⟨hi, ho, _⟩ := h t (by simp)
    obtain ⟨h1, h2⟩ := needFold lam ts (needAdd x t) (by rw [needAdd_len]; exact hx) fun u hu => h u (by simp [hu])
    refine ⟨?_, h2⟩
    show dot lam (ts.foldl needAdd (needAdd x t)) = _
    rw [h1]
    unfold needAdd
    show dot lam ((x.set t.i _).set t.o _) + _ = _
    rw [dot_set (by rw [List.length_set]; omega), dot_set (by omega)]
    show _ = _ + (t.w * (lam t.o - lam t.i) + lenOf ts lam)
    grind
theorem Send.first {n : Nat} {ts : List Tie} (hT : TiesIn n ts) {π : Nat → Int} (hk : Keeps ts π) : Send n ts (List.replicate ts.length 0) (needTo n ts) := by
  have hz : ∀ k, (List.replicate ts.length (0 : Int)).getD k 0 = 0 := fun k => by
    rw [List.getD_eq_getElem?_getD, List.getElem?_replicate]
    split <;> rfl
  refine ⟨by simp, (needFold π ts _ (by simp) hT).2, fun k => by rw [hz]; exact Int.le_refl _, fun lam => ?_, π, pot_iff.mpr ⟨hk, fun k t e hf => ?_⟩⟩
  · rw [lack_zero]
    have := (needFold lam ts (List.replicate n 0) (by simp) hT).1
    unfold needTo
    rw [this]
    unfold dot
    rw [dotF_zero]
    show 0 + lenOf ts lam = lenOf ts lam
    omega
  · rw [hz] at hf
    omega
end L2

set_option Elab.async false
set_option linter.all false
set_option maxRecDepth 100000
namespace L2
open PySem PySem.Spec PyProof.Rows
def kindS (b : Bool) : Str := if b then "arrow" else "saying"
def tieV (t : Tie) : List V := [.str (kindS t.ar), .int t.pl, .int t.i, .int t.o, .int t.l, .int t.w]
def TieH (H : Hp) (p : Addr) (t : Tie) : Prop := H p = some (.tup (tieV t))
def TiesH (H : Hp) : List Addr → List Tie → Prop := Paired (TieH H)
def LTies (H : Hp) (a : Addr) (ts : List Tie) : Prop := ∃ pa : List Addr, H a = some (.lst (pa.map V.ref)) ∧ TiesH H pa ts
theorem TiesH.tu {H H' : Hp} {pa : List Addr} {ts : List Tie} (h : TiesH H pa ts) (s : Tu H H') : TiesH H' pa ts := Paired.mapP h fun p t q => s _ _ q
theorem TiesH.snoc {H : Hp} {pa : List Addr} {ts : List Tie} {p : Addr} {t : Tie} (h : TiesH H pa ts) (q : TieH H p t) : TiesH H (pa ++ [p]) (ts ++ [t]) := by
  induction h with
  | nil => exact .cons q .nil
  | cons a b ih => exact .cons a ih
theorem LTies.same {H H' : Hp} {a : Addr} {ts : List Tie} (h : LTies H a ts) (s : Same H H') : LTies H' a ts := let ⟨pa, h1, h2⟩ := h; ⟨pa, s _ _ h1, h2.tu s.tu⟩
noncomputable def arrTie (ends : List (Int × Int)) (i : Nat) (row : List Int) : List Tie :=
  if row.getD 0 0 = row.getD 1 0 then [] else
  [if turnB ends i = true then ⟨true, i, (row.getD 1 0).toNat, (row.getD 0 0).toNat, row.getD 2 0, row.getD 3 0⟩ else ⟨true, i, (row.getD 0 0).toNat, (row.getD 1 0).toNat, row.getD 2 0, row.getD 3 0⟩]
noncomputable def arrTies (rows : List (List Int)) : Nat → List Tie
  | 0 => []
  | i + 1 => arrTies rows i ++ (match rows[i]? with | some row => arrTie (endsOf rows) i row | none => [])
def sayTie (i : Nat) (row : List Int) : Tie := ⟨false, i, (row.getD 0 0).toNat, (row.getD 1 0).toNat, row.getD 2 0, 0⟩
def sayTies (rows : List (List Int)) : Nat → List Tie
  | 0 => []
  | i + 1 => sayTies rows i ++ (match rows[i]? with | some row => [sayTie i row] | none => [])
noncomputable def tiesOf (W : Web) : List Tie := arrTies W.arrows W.arrows.length ++ sayTies W.sayings W.sayings.length
theorem flat_ints (l : List Int) : (l.map V.int).all flatV = true := List.all_eq_true.mpr fun x hx => by
  obtain ⟨i, _, rfl⟩ := List.mem_map.mp hx
  rfl
end L2

set_option Elab.async false
set_option linter.all false
set_option maxRecDepth 100000
namespace L2
open PySem PySem.Spec PyProof.Rows
section
variable {X : Cx}
end
end L2

set_option Elab.async false
set_option linter.all false
set_option maxRecDepth 100000
namespace L2
open PySem PySem.Spec PyProof.Rows
def optV : Option Int → V
  | none => .non
  | some i => .int i
def stepV (p : Step) : List V := [.int p.s, .int p.e, .int p.g, .int p.t, .int p.w]
def StepH (H : Hp) (a : Addr) (p : Step) : Prop := H a = some (.tup (stepV p))
def StepsHs (H : Hp) : List Addr → List Step → Prop := Paired (StepH H)
def LSteps (H : Hp) (a : Addr) (S : List Step) : Prop := ∃ pa : List Addr, H a = some (.lst (pa.map V.ref)) ∧ StepsHs H pa S
theorem StepsHs.tu {H H' : Hp} {pa : List Addr} {S : List Step} (h : StepsHs H pa S) (s : Tu H H') : StepsHs H' pa S := Paired.mapP h fun p t q => s _ _ q
theorem StepsHs.snoc {H : Hp} {pa : List Addr} {S : List Step} {p : Addr} {t : Step} (h : StepsHs H pa S) (q : StepH H p t) : StepsHs H (pa ++ [p]) (S ++ [t]) := by
  induction h with
  | nil => exact .cons q .nil
  | cons a b ih => exact .cons a ih
theorem LSteps.same {H H' : Hp} {a : Addr} {S : List Step} (h : LSteps H a S) (s : Same H H') : LSteps H' a S := let ⟨pa, h1, h2⟩ := h; ⟨pa, s _ _ h1, h2.tu s.tu⟩
def CamV (H : Hp) (v : V) : Option Step → Prop
  | none => v = .non
  | some p => ∃ tp q, v = .ref tp ∧ H tp = some (.tup [.ref q, .int p.s]) ∧ StepH H q p
theorem CamV.tu {H H' : Hp} {v : V} : ∀ {o : Option Step}, CamV H v o → Tu H H' → CamV H' v o
  | none, h, _ => h
  | some p, ⟨tp, q, e, h1, h2⟩, s => ⟨tp, q, e, s _ _ h1, s _ _ h2⟩
def CamH (H : Hp) (n : Nat) (vs : List V) (C : Nat → Option Step) : Prop := vs.length = n ∧ ∀ i v, vs[i]? = some v → CamV H v (C i)
theorem CamH.tu {H H' : Hp} {n : Nat} {vs : List V} {C : Nat → Option Step} (h : CamH H n vs C) (s : Tu H H') : CamH H' n vs C := ⟨h.1, fun i v e => (h.2 i v e).tu s⟩
theorem CamH.set {H : Hp} {n : Nat} {vs : List V} {C : Nat → Option Step} {p : Step} {tp q : Addr} (h : CamH H n vs C) (h1 : H tp = some (.tup [.ref q, .int p.s])) (h2 : StepH H q p) (e : Nat) : CamH H n (vs.set e (.ref tp)) (up C e (some p)) := by
  refine ⟨by rw [List.length_set]; exact h.1, fun i v ei => ?_⟩
  by_cases hi : i = e
  · subst hi
    rw [up_same]
    have hl : i < vs.length := by have := (List.getElem?_eq_some_iff.mp ei).1; rw [List.length_set] at this; exact this
    rw [List.getElem?_set_self hl] at ei
    cases ei
    exact ⟨tp, q, rfl, h1, h2⟩
  · rw [List.getElem?_set_ne (Ne.symm hi)] at ei
    rw [up_ne hi]
    exact h.2 i v ei
def Gf (gl : List (Option Int)) : Nat → Option Int := fun v => gl.getD v none
/-- what stands of the walks -/
structure LongH (H : Hp) (GA CA : Addr) (n : Nat) (gl : List (Option Int)) (C : Nat → Option Step) : Prop where
  g : H GA = some (.lst (gl.map optV))
  len : gl.length = n
  c : ∃ vs, H CA = some (.lst vs) ∧ CamH H n vs C
  ne : GA ≠ CA
theorem LongH.same {H H' : Hp} {GA CA : Addr} {n : Nat} {gl : List (Option Int)} {C : Nat → Option Step} (h : LongH H GA CA n gl C) (s : Same H H') : LongH H' GA CA n gl C := by
  obtain ⟨vs, h1, h2⟩ := h.c
  exact ⟨s _ _ h.g, h.len, ⟨vs, s _ _ h1, h2.tu s.tu⟩, h.ne⟩
theorem take_snoc {α : Type} {l : List α} {i : Nat} {x : α} (e : l[i]? = some x) : l.take (i + 1) = l.take i ++ [x] := by
  rw [List.take_succ, e]
  rfl
end L2

set_option Elab.async false
set_option linter.all false
set_option maxRecDepth 100000
namespace L2
open PySem PySem.Spec PyProof.Rows
theorem wipe_get {σ : St} {i : Nat} : ∀ {vs : List Nat}, i ∈ vs → i < σ.length → (wipe σ vs)[i]? = some none
  | [], h, _ => by simp at h
  | v :: vs, h, hl => by
    show ((wipe σ vs).set v none)[i]? = _
    by_cases e : v = i
    · subst e
      rw [List.getElem?_set_self (by rw [wipe_length]; exact hl)]
    · rw [List.getElem?_set_ne e]
      exact wipe_get ((List.mem_cons.mp h).resolve_left (Ne.symm e)) hl
theorem wipe_big {σ : St} {i : Nat} {vs : List Nat} (hl : ¬ i < σ.length) : (wipe σ vs)[i]? = none := List.getElem?_eq_none (by rw [wipe_length]; omega)
theorem wipe_eq {σ τ : St} {vs : List Nat} (hl : σ.length = τ.length) (h : ∀ i, i ∉ vs → σ[i]? = τ[i]?) : wipe σ vs = wipe τ vs := by
  refine List.ext_getElem? fun i => ?_
  by_cases hi : i ∈ vs
  · by_cases hb : i < σ.length
    · rw [wipe_get hi hb, wipe_get hi (by omega)]
    · rw [wipe_big hb, wipe_big (by omega)]
  · rw [wipe_out hi, wipe_out hi, h i hi]
theorem wipe_set {σ τ : St} {i : Nat} {x : Option V} {vs : List Nat} (h : i ∈ vs) (k : wipe σ vs = τ) : wipe (σ.set i x) vs = τ := by
  rw [← k]
  refine wipe_eq (by simp) fun j hj => ?_
  have hne : i ≠ j := fun z => hj (by rw [← z]; exact h)
  exact List.getElem?_set_ne hne
theorem wipe_idem {σ : St} {vs : List Nat} : wipe (wipe σ vs) vs = wipe σ vs := wipe_eq (wipe_length σ vs) fun j hj => wipe_out hj
/-- boxes hang together by ties -/
inductive Hang (ts : List Tie) : Nat → Nat → Prop
  | refl {v} : Hang ts v v
  | fwd {v t} : t ∈ ts → Hang ts v t.i → Hang ts v t.o
  | bwd {v t} : t ∈ ts → Hang ts v t.o → Hang ts v t.i
theorem Hang.back {ts : List Tie} {f : List Int} {st : Nat → Prop} {G : Nat → Option Int} {C : Nat → Option L2.Step} (I : LInv (stepsOf ts f) st G C) {v u : Nat} {l : List L2.Step} (h : Back C v u l) : ∀ {x}, Hang ts x v → Hang ts x u := by
  induction h with
  | nil => exact fun h => h
  | @cons v u p l e _ ih =>
    intro x hx
    refine ih ?_
    obtain ⟨h1, h2, _⟩ := I.c _ _ e
    obtain ⟨k, t, ek, hp⟩ := mem_stepsOf.mp h1
    have ht := List.mem_of_getElem? ek
    subst h2
    rcases hp with rfl | ⟨_, rfl⟩
    · exact .bwd ht hx
    · exact .fwd ht hx
theorem Chn.mem {S : List L2.Step} {v u : Nat} {l : List L2.Step} (h : Chn S v u l) : ∀ p ∈ l, p ∈ S := by
  induction h with
  | nil => intro p hp; simp at hp
  | cons hp _ ih =>
    intro q hq
    rcases List.mem_cons.mp hq with rfl | hq
    · exact hp
    · exact ih q hq
theorem gsum_le {n : Nat} {ts : List Tie} {f : List Int} (hT : TiesIn n ts) : ∀ {l : List L2.Step}, (∀ p ∈ l, p ∈ stepsOf ts f) → gsum l ≤ 9 * l.length
  | [], _ => by show (0 : Int) ≤ _; simp
  | p :: l, h => by
    have := gsum_le (n := n) hT (l := l) fun q hq => h q (by simp [hq])
    obtain ⟨k, t, e, hp⟩ := mem_stepsOf.mp (h p (by simp))
    obtain ⟨_, _, _, _, h1, h2⟩ := hT t (List.mem_of_getElem? e)
    have hg : p.g ≤ 9 := by
      rcases hp with rfl | ⟨_, rfl⟩
      · exact h2
      · show -t.l ≤ 9; omega
    rw [gsum_cons, List.length_cons]
    omega
/-- the told layering -/
structure Told (n : Nat) (ts : List Tie) (lam : Nat → Int) : Prop where
  keeps : Keeps ts lam
  pap : ∃ f, Flow ts f ∧ Slack ts f lam
  pos : ∀ v, v < n → 0 ≤ lam v
  top : ∀ v, v < n → lam v ≤ 9 * n
  lot : ∀ v, v < n → ∃ u, u < n ∧ lam u = 0 ∧ Hang ts v u
theorem Told.le {n : Nat} {ts : List Tie} {lam mu : Nat → Int} (T : Told n ts lam) (h : Keeps ts mu) : lenOf ts lam ≤ lenOf ts mu := by
  obtain ⟨f, F, S⟩ := T.pap
  have := F.eq T.keeps S
  have := F.le h
  omega
theorem Told.worth {n : Nat} {ts : List Tie} {lam : Nat → Int} {f : List Int} (T : Told n ts lam) (F : Flow ts f) : worthOf ts f = lenOf ts lam := by
  obtain ⟨g, G, S⟩ := T.pap
  have := G.eq T.keeps S
  have := F.same G
  omega
def gains (gl : List (Option Int)) : Nat → Int := fun v => (Gf gl v).getD 0
/-- a ring of ties that gains -/
structure Gain (ts : List Tie) (fl : List L2.Step) : Prop where
  ne : fl ≠ []
  ring : ∃ (C : Nat → Option L2.Step) (b : Nat), Back C b b fl ∧ (∀ v p, C v = some p → p ∈ stepsOf ts (List.replicate ts.length 0) ∧ p.e = v) ∧ (fl.map L2.Step.s).Nodup
  sum : 0 < gsum fl
theorem Gain.clash {ts : List Tie} {fl : List L2.Step} (G : Gain ts fl) (π : Nat → Int) : ¬ Keeps ts π := by
  intro h
  obtain ⟨C, b, hb, hc, _⟩ := G.ring
  have P : Pot (stepsOf ts (List.replicate ts.length 0)) π := pot_iff.mpr ⟨h, fun k t e hf => by
    rw [List.getD_eq_getElem?_getD, List.getElem?_replicate] at hf
    split at hf <;> simp at hf⟩
  have key : ∀ {v u : Nat} {l : List L2.Step}, Back C v u l → π u + gsum l ≤ π v := by
    intro v u l h
    induction h with
    | nil => show _ + 0 ≤ _; omega
    | cons e _ ih =>
      obtain ⟨h1, h2⟩ := hc _ _ e
      have := P _ h1
      rw [h2] at this
      rw [gsum_cons]
      omega
  have := key hb
  have := G.sum
  omega
theorem Back.last {C : Nat → Option L2.Step} {v u : Nat} {l : List L2.Step} (h : Back C v u l) : l ≠ [] → ∃ l' p, l = l' ++ [p] ∧ p.s = u := by
  induction h with
  | nil => intro z; exact absurd rfl z
  | @cons v u p l e hb ih =>
    intro _
    by_cases hl : l = []
    · subst hl
      cases hb
      exact ⟨[], p, rfl, rfl⟩
    · obtain ⟨l', q, rfl, eq⟩ := ih hl
      exact ⟨p :: l', q, rfl, eq⟩
def ClashFree (ts : List Tie) : Prop := ∃ π, Keeps ts π
end L2

set_option Elab.async false
set_option linter.all false
set_option maxRecDepth 100000
namespace L2
open PySem PySem.Spec PyProof.Rows
/-- a def with defaults: they lie in a tuple -/
structure FunD (K : PySem.W.Frag) (x qual : Str) (st : Stmt) (f : Addr) (fd : FuncData) (its : Array Value) : Prop where
  ex : ∃ (oc : Value) (od : Option Addr) (kV doc pm : Value) (an : Option Addr) (cdv ct : Value) (osl : Array (Option Value)) (dt : Addr) (ot : Obj) (nt : Nat),
    fd = PySem.W.fnOf x qual (defArgs st) (defBody st) (defScope st) (.ref dt) kV doc pm an cdv ct ∧ K.lookup f = some ⟨oc, od, .func fd, osl⟩ ∧ PySem.W.codeIn K cdv qual = true ∧ K.lookup dt = some ot ∧ ot.data = .seq its nt
  kp : PySem.W.keepIn K (.ref f) = true
section
variable {P : Program} {w : World} {K : PySem.W.Frag} {mg : Str → Option Value} {base : Heap}
theorem FunD.ok {x qual : Str} {st : Stmt} {f : Addr} {fd : FuncData} {its : Array Value} {N ps : List Str} {k : Nat} {sp : Sp} (F : FunD K x qual st f fd its) (S : FnScope N ps (defScope st)) (len : ∀ vs H Q E, sp vs H Q E → vs.length = ps.length)
    (hbody : ∀ (cdv : Value) (A : Around) (outer : List Env) (s : Shared) (H : Hp) (vs : List V) (Q : VK) (E : XK), Room k (A.deeper (envOfC qual (defScope st) s.heap.objs.size f cdv)) → sp vs H Q E →
      ∃ t, PSs (cxOf CX0 P w K mg base N qual (defScope st) f cdv A outer s H E).nox (defBody st) t ∧ t { nx := fun _ H' => Q .non H', rt := Q } (start N vs) H) : FnOk P w K mg base CX0 (k + 1) f fd ps sp := by
  obtain ⟨oc, od, kV, doc, pm, an, cdv, ct, osl, dt, ot, nt, rfl, lk, hcd, _, _⟩ := F.ex
  refine fn_of lk hcd S len fun A outer s H vs Q E hr hsp => ?_
  obtain ⟨t, h, q⟩ := hbody cdv A outer s H vs Q E hr hsp
  exact ⟨t, h.nox, q⟩
theorem funD_mk {x qual : Str} {st : Stmt} {f dt : Addr} {oc : Value} {od an : Option Addr} {osl : Array (Option Value)} {kV doc pm cdv ct : Value} {ot : Obj} {its : Array Value} {nt : Nat} (l : K.lookup f = some ⟨oc, od, .func (PySem.W.fnOf x qual (defArgs st) (defBody st) (defScope st) (.ref dt) kV doc pm an cdv ct), osl⟩)
    (c : PySem.W.codeIn K cdv qual = true) (k : PySem.W.keepIn K (.ref f) = true) (q : K.lookup dt = some ot) (qd : ot.data = .seq its nt) : FunD K x qual st f (PySem.W.fnOf x qual (defArgs st) (defBody st) (defScope st) (.ref dt) kV doc pm an cdv ct) its := ⟨⟨oc, od, kV, doc, pm, an, cdv, ct, osl, dt, ot, nt, rfl, l, c, q, qd⟩, k⟩
/-- its arguments all told by place -/
theorem FunD.b2 {x qual : Str} {st : Stmt} {f : Addr} {fd : FuncData} {its : Array Value} {a b : Str} (F : FunD K x qual st f fd its)
    (h : ∀ (dt : Addr) (kV doc pm : Value) (an : Option Addr) (cdv ct : Value) (u v : Value), ∃ k, bindArgs (PySem.W.fnOf x qual (defArgs st) (defBody st) (defScope st) (.ref dt) kV doc pm an cdv ct) ⟨[u, v], []⟩ = (seqItems? (.ref dt) >>= k) ∧ k (some its) = pure [(a, u), (b, v)]) : Binds K fd [a, b] [] := fun s us X hl => by
  obtain ⟨oc, od, kV, doc, pm, an, cdv, ct, osl, dt, ot, nt, rfl, lk, hcd, q, qd⟩ := F.ex
  match us, hl with
  | [u, v], _ =>
    obtain ⟨k, h1, h2⟩ := h dt kV doc pm an cdv ct u v
    exact PySem.W.binds_K X rfl q qd h1 h2
theorem FunD.b1 {x qual : Str} {st : Stmt} {f : Addr} {fd : FuncData} {d : Value} {a b : Str} (F : FunD K x qual st f fd #[d])
    (h : ∀ (dt : Addr) (kV doc pm : Value) (an : Option Addr) (cdv ct : Value) (u : Value), ∃ k, bindArgs (PySem.W.fnOf x qual (defArgs st) (defBody st) (defScope st) (.ref dt) kV doc pm an cdv ct) ⟨[u], []⟩ = (seqItems? (.ref dt) >>= k) ∧ k (some #[d]) = pure [(a, u), (b, d)]) : Binds K fd [a, b] [d] := fun s us X hl => by
  obtain ⟨oc, od, kV, doc, pm, an, cdv, ct, osl, dt, ot, nt, rfl, lk, hcd, q, qd⟩ := F.ex
  have hl' : us.length = 1 := by simpa using hl
  match us, hl' with
  | [u], _ =>
    obtain ⟨k, h1, h2⟩ := h dt kV doc pm an cdv ct u
    exact PySem.W.binds_K X rfl q qd h1 h2
def kOne {α : Type} : List α → List α → List α
  | [u], [v] => [u, v]
  | _, _ => []
theorem kOne_vals : ∀ {vs : List V} {us : List Value} {zs : List V} {ws : List Value}, Vals vs us → Vals zs ws → Vals (kOne vs zs) (kOne us ws)
  | [_], [_], [_], [_], .cons a .nil, .cons b .nil => .cons a (.cons b .nil)
  | [], [], _, _, .nil, _ => .nil
  | _ :: _ :: _, _ :: _ :: _, _, _, .cons _ (.cons _ _), _ => .nil
  | [_], [_], [], [], .cons _ .nil, .nil => .nil
  | [_], [_], _ :: _ :: _, _ :: _ :: _, .cons _ .nil, .cons _ (.cons _ _) => .nil
theorem FunD.bk {x qual : Str} {st : Stmt} {f : Addr} {fd : FuncData} {its : Array Value} {a b : Str} (F : FunD K x qual st f fd its)
    (h : ∀ (dt : Addr) (kV doc pm : Value) (an : Option Addr) (cdv ct : Value) (u v : Value), ∃ k, bindArgs (PySem.W.fnOf x qual (defArgs st) (defBody st) (defScope st) (.ref dt) kV doc pm an cdv ct) ⟨[u], [(b, v)]⟩ = (seqItems? (.ref dt) >>= k) ∧ k (some its) = pure [(a, u), (b, v)])
    : KBinds K fd [a, b] [b] kOne kOne := by
  refine ⟨fun s us ws X hl => ?_, kOne_vals⟩
  obtain ⟨oc, od, kV, doc, pm, an, cdv, ct, osl, dt, ot, nt, rfl, lk, hcd, q, qd⟩ := F.ex
  match us, ws, hl with
  | [u], [v], _ =>
    obtain ⟨k, h1, h2⟩ := h dt kV doc pm an cdv ct u v
    exact PySem.W.binds_K X rfl q qd h1 h2
end
end L2

set_option Elab.async false
set_option linter.all false
set_option maxRecDepth 100000
namespace L2
open PySem PySem.Spec PyProof.Rows
/-! layerings that are raised till they keep all ties -/
theorem Chn.append {S : List L2.Step} {v u x : Nat} {a b : List L2.Step} (h : Chn S v u a) (h' : Chn S u x b) : Chn S v x (a ++ b) := by
  induction h with
  | nil => exact h'
  | cons e _ ih => exact .cons e (ih h')
theorem Chn.split {S : List L2.Step} {x u v : Nat} {l : List L2.Step} (h : Chn S x u l) (hv : v ∈ x :: l.map L2.Step.s) : ∃ a b, l = a ++ b ∧ Chn S x v a ∧ Chn S v u b := by
  induction h with
  | @nil y =>
    have : v = y := by simpa using hv
    subst this
    exact ⟨[], [], rfl, .nil, .nil⟩
  | @cons p u l e hb ih =>
    rcases List.mem_cons.mp hv with hv | hv
    · subst hv
      exact ⟨[], p :: l, rfl, .nil, .cons e hb⟩
    · obtain ⟨a, b, rfl, h1, h2⟩ := ih hv
      exact ⟨p :: a, b, rfl, .cons e h1, h2⟩
theorem Chn.nodup {S : List L2.Step} {v u : Nat} {l : List L2.Step} (h : Chn S v u l) : (v :: l.map L2.Step.s).Nodup ∨ ∃ x a b c, l = a ++ (b ++ c) ∧ b ≠ [] ∧ Chn S v x a ∧ Chn S x x b ∧ Chn S x u c := by
  induction h with
  | nil => exact .inl (by simp)
  | @cons p u l e hb ih =>
    rcases ih with ih | ⟨x, a, b, c, rfl, hne, h1, h2, h3⟩
    · by_cases hy : p.e ∈ p.s :: l.map L2.Step.s
      · obtain ⟨a, b, rfl, h1, h2⟩ := hb.split hy
        exact .inr ⟨p.e, [], p :: a, b, rfl, by simp, .nil, .cons e h1, h2⟩
      · exact .inl (List.nodup_cons.mpr ⟨hy, ih⟩)
    · exact .inr ⟨x, p :: a, b, c, rfl, hne, .cons e h1, h2, h3⟩
theorem Chn.pot {S : List L2.Step} {π : Nat → Int} (P : Pot S π) {v u : Nat} {l : List L2.Step} (h : Chn S v u l) : π u + gsum l ≤ π v := by
  induction h with
  | nil => show _ + 0 ≤ _; omega
  | cons e _ ih => have := P _ e; rw [gsum_cons]; omega
theorem Chn.lt {n : Nat} {S : List L2.Step} (hS : ∀ p ∈ S, p.s < n ∧ p.e < n) {v u : Nat} {l : List L2.Step} (h : Chn S v u l) (hv : v < n) : ∀ x ∈ v :: l.map L2.Step.s, x < n := by
  induction h with
  | nil => intro x hx; simp at hx; omega
  | cons e _ ih =>
    intro x hx
    rcases List.mem_cons.mp hx with rfl | hx
    · exact hv
    · exact ih (hS _ e).1 x hx
/-- a walk may be cut short -/
theorem Chn.short {n : Nat} {S : List L2.Step} {π : Nat → Int} (hS : ∀ p ∈ S, p.s < n ∧ p.e < n) (P : Pot S π) : ∀ (k : Nat) {v u : Nat} {l : List L2.Step}, l.length ≤ k → v < n → Chn S v u l → ∃ l', Chn S v u l' ∧ l'.length < n ∧ gsum l ≤ gsum l'
  | 0, v, u, l, hk, hv, h => ⟨l, h, by omega, Int.le_refl _⟩
  | k + 1, v, u, l, hk, hv, h => by
    rcases h.nodup with nd | ⟨x, a, b, c, rfl, hne, h1, h2, h3⟩
    · have := nodup_below nd (h.lt hS hv)
      simp at this
      exact ⟨l, h, by omega, Int.le_refl _⟩
    · have hb0 : b.length ≠ 0 := fun z => hne (List.eq_nil_of_length_eq_zero z)
      obtain ⟨l', g1, g2, g3⟩ := Chn.short hS P k (l := a ++ c) (by simp at hk ⊢; omega) hv (h1.append h3)
      refine ⟨l', g1, g2, ?_⟩
      have := h2.pot P
      rw [gsum_append] at g3
      rw [gsum_append, gsum_append]
      omega
def lift (g : List Int) (t : Tie) : List Int := g.set t.o (if g.getD t.i 0 + t.l > g.getD t.o 0 then g.getD t.i 0 + t.l else g.getD t.o 0)
theorem lift_len (g : List Int) (t : Tie) : (lift g t).length = g.length := by unfold lift; rw [List.length_set]
theorem lift_get {g : List Int} {t : Tie} (h : t.o < g.length) (v : Nat) : (lift g t).getD v 0 = if v = t.o then (if g.getD t.i 0 + t.l > g.getD t.o 0 then g.getD t.i 0 + t.l else g.getD t.o 0) else g.getD v 0 := by
  unfold lift
  by_cases e : v = t.o
  · subst e
    rw [if_pos rfl, List.getD_eq_getElem?_getD, List.getElem?_set_self h]
    rfl
  · rw [if_neg e, List.getD_eq_getElem?_getD, List.getElem?_set_ne (Ne.symm e), ← List.getD_eq_getElem?_getD]
structure Lift (n : Nat) (ts : List Tie) (h g0 g : List Int) (done : List Tie) : Prop where
  len : g.length = n
  mono : ∀ v : Nat, g0.getD v 0 ≤ g.getD v 0
  seen : ∀ t ∈ done, g0.getD t.i 0 + t.l ≤ g.getD t.o 0
  real : ∀ v, v < n → ∃ u l, u < n ∧ Chn (stepsOf ts []) v u l ∧ g.getD v 0 ≤ h.getD u 0 + gsum l
theorem Lift.next {n : Nat} {ts : List Tie} {h g0 g : List Int} {done : List Tie} (L : Lift n ts h g0 g done) (hT : TiesIn n ts) {k : Nat} {t : Tie} (e : ts[k]? = some t) : Lift n ts h g0 (lift g t) (done ++ [t]) := by
  obtain ⟨hi, ho, _⟩ := hT t (List.mem_of_getElem? e)
  have get := lift_get (g := g) (t := t) (by rw [L.len]; exact ho)
  have mono : ∀ v : Nat, g.getD v 0 ≤ (lift g t).getD v 0 := fun v => by
    rw [get]
    split
    · rename_i z; subst z; split <;> omega
    · omega
  refine ⟨by rw [lift_len]; exact L.len, fun v => Int.le_trans (L.mono v) (mono v), fun u hu => ?_, fun v hv => ?_⟩
  · rcases List.mem_append.mp hu with hu | hu
    · exact Int.le_trans (L.seen u hu) (mono _)
    · have : u = t := by simpa using hu
      subst this
      have := L.mono u.i
      rw [get, if_pos rfl]
      split <;> omega
  · rw [get]
    split
    · rename_i z
      subst z
      split
      · obtain ⟨u, l, h1, h2, h3⟩ := L.real t.i hi
        refine ⟨u, fwd k t :: l, h1, .cons (p := fwd k t) (mem_stepsOf.mpr ⟨k, t, e, .inl rfl⟩) h2, ?_⟩
        rw [gsum_cons]
        show _ ≤ _ + (t.l + _)
        omega
      · exact L.real _ hv
    · exact L.real v hv
/-- no walk of so many steps leads higher -/
def Over (n : Nat) (ts : List Tie) (h : List Int) (k : Nat) (g : List Int) : Prop := ∀ v u l, Chn (stepsOf ts []) v u l → l.length ≤ k → u < n → h.getD u 0 + gsum l ≤ g.getD v 0
theorem Lift.over {n : Nat} {ts : List Tie} {h g0 g : List Int} {k : Nat} (L : Lift n ts h g0 g ts) (O : Over n ts h k g0) : Over n ts h (k + 1) g := by
  intro v u l hc hl hu
  cases hc with
  | nil => exact Int.le_trans (O v v [] .nil (by simp) hu) (L.mono _)
  | @cons p u l hp hc =>
    have h1 := O _ _ _ hc (by simpa using hl) hu
    obtain ⟨k', t, e, hp' | ⟨hf, _⟩⟩ := mem_stepsOf.mp hp
    · subst hp'
      have h2 := L.seen t (List.mem_of_getElem? e)
      rw [gsum_cons]
      show _ + (t.l + _) ≤ g.getD t.o 0
      have : (fwd k' t).s = t.i := rfl
      rw [this] at h1
      omega
    · simp at hf
end L2

set_option Elab.async false
set_option linter.all false
set_option maxRecDepth 100000
namespace L2
open PySem PySem.Spec PyProof.Rows
end L2

set_option Elab.async false
set_option linter.all false
set_option maxRecDepth 100000
namespace L2
open PySem PySem.Spec PyProof.Rows
section
variable {X : Cx}
end
/-! arrows that rise in some way are not turned -/
end L2

set_option Elab.async false
set_option linter.all false
set_option maxRecDepth 100000
namespace L2
open PySem PySem.Spec PyProof.Rows
/-! farthest sums by way of more and more boxes -/
theorem Chn.of_nil {S : List L2.Step} {v u : Nat} (h : Chn S v u []) : v = u := by
  cases h
  rfl
theorem Chn.ends {S : List L2.Step} {v u : Nat} {l : List L2.Step} (h : Chn S v u l) (hne : l ≠ []) : (∃ p r, l = p :: r ∧ p.e = v ∧ p ∈ S) ∧ ∃ r p, l = r ++ [p] ∧ p.s = u ∧ p ∈ S := by
  induction h with
  | nil => exact absurd rfl hne
  | @cons p u l hp hc ih =>
    refine ⟨⟨p, l, rfl, rfl, hp⟩, ?_⟩
    by_cases hl : l = []
    · subst hl
      exact ⟨[], p, rfl, hc.of_nil, hp⟩
    · obtain ⟨r, q, rfl, h1, h2⟩ := (ih hl).2
      exact ⟨p :: r, q, rfl, h1, h2⟩
def inner (l : List L2.Step) : List Nat := l.dropLast.map L2.Step.s
def FLow (S : List L2.Step) (F : Nat → Nat → Option Int) : Prop := ∀ u v x, F u v = some x → ∃ l, l ≠ [] ∧ Chn S v u l ∧ x ≤ gsum l
def FHi (n : Nat) (S : List L2.Step) (k : Nat) (F : Nat → Nat → Option Int) : Prop := ∀ v u l, Chn S v u l → l ≠ [] → (inner l).Nodup → (∀ x ∈ inner l, x < k) → l.length ≤ n → Ge (F u v) (gsum l)
def put2 (F : Nat → Nat → Option Int) (u v : Nat) (x : Int) : Nat → Nat → Option Int := fun a b => if a = u ∧ b = v then some x else F a b
theorem put2_same (F : Nat → Nat → Option Int) (u v : Nat) (x : Int) : put2 F u v x u v = some x := if_pos ⟨rfl, rfl⟩
theorem put2_mono {F : Nat → Nat → Option Int} {u v : Nat} {x y : Int} (hx : x ≤ y) (h : ∀ z, F u v = some z → z ≤ y) : ∀ a b w, Ge (F a b) w → Ge (put2 F u v y a b) w := fun a b w ⟨g, e, k⟩ => by
  unfold put2
  by_cases hc : a = u ∧ b = v
  · rw [if_pos hc]
    obtain ⟨rfl, rfl⟩ := hc
    exact ⟨y, rfl, by have := h g e; omega⟩
  · rw [if_neg hc]
    exact ⟨g, e, k⟩
/-- what is put at a pair: no less than what was there, nor than what comes anew -/
def best2 (o : Option Int) (x : Int) : Int := if x > o.getD x then x else o.getD x
theorem best2_ge (o : Option Int) (x : Int) : x ≤ best2 o x := by
  unfold best2
  split <;> omega
theorem best2_old {o : Option Int} {x z : Int} (h : o = some z) : z ≤ best2 o x := by
  subst h
  unfold best2
  show z ≤ if x > z then x else z
  split <;> omega
theorem best2_or (o : Option Int) (x : Int) : best2 o x = x ∨ o = some (best2 o x) := by
  unfold best2
  cases o with
  | none => left; show (if x > x then x else x) = x; split <;> rfl
  | some z =>
    show (if x > z then x else z) = x ∨ some z = some (if x > z then x else z)
    split
    · exact .inl rfl
    · exact .inr rfl
theorem FLow.put {S : List L2.Step} {F : Nat → Nat → Option Int} (h : FLow S F) {u v : Nat} {x : Int} (hx : ∃ l, l ≠ [] ∧ Chn S v u l ∧ x ≤ gsum l) : FLow S (put2 F u v (best2 (F u v) x)) := fun a b y e => by
  unfold put2 at e
  by_cases hc : a = u ∧ b = v
  · rw [if_pos hc] at e
    obtain ⟨rfl, rfl⟩ := hc
    rcases best2_or (F a b) x with h1 | h1
    · rw [h1] at e
      cases e
      exact hx
    · rw [← h1] at e
      exact h _ _ _ e
  · rw [if_neg hc] at e
    exact h _ _ _ e
/-- at first: the ties themselves -/
structure FTies (ts : List Tie) (done : List Tie) (F : Nat → Nat → Option Int) : Prop where
  low : FLow (stepsOf ts []) F
  hi : ∀ t ∈ done, Ge (F t.i t.o) t.l
theorem FTies.next {ts done : List Tie} {F : Nat → Nat → Option Int} (h : FTies ts done F) {k : Nat} {t : Tie} (e : ts[k]? = some t) : FTies ts (done ++ [t]) (put2 F t.i t.o (best2 (F t.i t.o) t.l)) := by
  refine ⟨h.low.put ⟨[fwd k t], by simp, .cons (p := fwd k t) (mem_stepsOf.mpr ⟨k, t, e, .inl rfl⟩) .nil, ?_⟩, fun u hu => ?_⟩
  · rw [gsum_cons]
    show t.l ≤ t.l + 0
    omega
  · rcases List.mem_append.mp hu with hu | hu
    · exact put2_mono (best2_ge (F t.i t.o) t.l) (fun z ez => best2_old ez) _ _ _ (h.hi u hu)
    · have : u = t := by simpa using hu
      subst this
      exact ⟨_, put2_same _ _ _ _, best2_ge _ _⟩
theorem FTies.fhi {n : Nat} {ts : List Tie} {F : Nat → Nat → Option Int} (h : FTies ts ts F) : FHi n (stepsOf ts []) 0 F := by
  intro v u l hc hne hnd hin hl
  have hi : inner l = [] := by
    cases e : inner l with
    | nil => rfl
    | cons x r => exact absurd (hin x (by rw [e]; simp)) (by omega)
  cases hc with
  | nil => exact absurd rfl hne
  | @cons p u l hp hc =>
    cases l with
    | nil =>
      have hps := hc.of_nil
      obtain ⟨k, t, e, hpp | ⟨hf, _⟩⟩ := mem_stepsOf.mp hp
      · subst hpp
        obtain ⟨g, eg, hg⟩ := h.hi t (List.mem_of_getElem? e)
        rw [← hps]
        exact ⟨g, eg, by rw [gsum_cons]; show t.l + 0 ≤ g; omega⟩
      · simp at hf
    | cons q l => simp [inner] at hi
/-- by way of one box more -/
structure FMid (n : Nat) (S : List L2.Step) (k : Nat) (F0 F : Nat → Nat → Option Int) (done : Nat → Nat → Prop) : Prop where
  low : FLow S F
  mono : ∀ u v x, Ge (F0 u v) x → Ge (F u v) x
  seen : ∀ u v, done u v → ∀ x y, Ge (F0 u k) x → Ge (F0 k v) y → Ge (F u v) (if x + y < 1000000 then x + y else 1000000)
theorem FMid.skip {n : Nat} {S : List L2.Step} {k : Nat} {F0 F : Nat → Nat → Option Int} {done : Nat → Nat → Prop} (h : FMid n S k F0 F done) {u v : Nat} (hn : F u k = none ∨ F k v = none) : FMid n S k F0 F (fun a b => done a b ∨ (a = u ∧ b = v)) :=
  ⟨h.low, h.mono, fun a b hab x y hx hy => by
    rcases hab with hab | ⟨rfl, rfl⟩
    · exact h.seen a b hab x y hx hy
    · obtain ⟨g1, e1, _⟩ := h.mono _ _ _ hx
      obtain ⟨g2, e2, _⟩ := h.mono _ _ _ hy
      rcases hn with hn | hn
      · rw [hn] at e1; cases e1
      · rw [hn] at e2; cases e2⟩
def cap (z : Int) : Int := if z < 1000000 then z else 1000000
theorem FMid.take {n : Nat} {S : List L2.Step} {k : Nat} {F0 F : Nat → Nat → Option Int} {done : Nat → Nat → Prop} (h : FMid n S k F0 F done) {u v : Nat} {x y : Int} (ex : F u k = some x) (ey : F k v = some y) : FMid n S k F0 (put2 F u v (best2 (F u v) (cap (x + y)))) (fun a b => done a b ∨ (a = u ∧ b = v)) := by
  have mono := put2_mono (F := F) (u := u) (v := v) (best2_ge (F u v) (cap (x + y))) (fun z ez => best2_old ez)
  refine ⟨h.low.put ?_, fun a b w hw => mono _ _ _ (h.mono a b w hw), fun a b hab p q hp hq => ?_⟩
  · obtain ⟨l1, n1, c1, g1⟩ := h.low _ _ _ ex
    obtain ⟨l2, n2, c2, g2⟩ := h.low _ _ _ ey
    refine ⟨l2 ++ l1, by simp [n2], c2.append c1, ?_⟩
    rw [gsum_append]
    unfold cap
    split <;> omega
  · rcases hab with hab | ⟨rfl, rfl⟩
    · exact mono _ _ _ (h.seen a b hab p q hp hq)
    · obtain ⟨g1, e1, k1⟩ := h.mono _ _ _ hp
      obtain ⟨g2, e2, k2⟩ := h.mono _ _ _ hq
      rw [ex] at e1
      cases e1
      rw [ey] at e2
      cases e2
      refine ⟨_, put2_same _ _ _ _, Int.le_trans ?_ (best2_ge _ _)⟩
      unfold cap
      split <;> split <;> omega
theorem FMid.fhi {n k : Nat} {ts : List Tie} {F0 F : Nat → Nat → Option Int} {done : Nat → Nat → Prop} (hT : TiesIn n ts) (hn : n ≤ 1000) (h : FMid n (stepsOf ts []) k F0 F done) (hd : ∀ u v, u < n → v < n → done u v) (h0 : FHi n (stepsOf ts []) k F0) : FHi n (stepsOf ts []) (k + 1) F := by
  intro v u l hc hne hnd hin hl
  by_cases hk : k ∈ inner l
  · obtain ⟨⟨p1, r1, el1, ep1, hp1⟩, r2, p2, el2, ep2, hp2⟩ := hc.ends hne
    have hS := steps_in (f := []) hT
    have hv : v < n := by rw [← ep1]; exact (hS p1 hp1).2
    have hu : u < n := by rw [← ep2]; exact (hS p2 hp2).1
    have hsub : k ∈ v :: l.map L2.Step.s := by
      refine List.mem_cons_of_mem _ ?_
      rw [el2]
      unfold inner at hk
      rw [el2, List.dropLast_concat] at hk
      rw [List.map_append]
      exact List.mem_append.mpr (.inl hk)
    -- split at the first place
    obtain ⟨a, b, hab, ca, cb, han, hbn⟩ : ∃ a b, l = a ++ b ∧ Chn (stepsOf ts []) v k a ∧ Chn (stepsOf ts []) k u b ∧ a ≠ [] ∧ b ≠ [] := by
      obtain ⟨r, hr1, hr2⟩ := List.mem_map.mp hk
      obtain ⟨x, y, exy⟩ := List.append_of_mem hr1
      have hld : l = l.dropLast ++ [p2] := by rw [el2, List.dropLast_concat]
      have hl2 : l = (x ++ [r]) ++ (y ++ [p2]) := by rw [hld, exy]; simp
      have cut : ∀ {S : List L2.Step} {v u : Nat} (a b : List L2.Step) (r : L2.Step), Chn S v u ((a ++ [r]) ++ b) → Chn S v r.s (a ++ [r]) ∧ Chn S r.s u b := by
        intro S v u a b r hc
        induction a generalizing v with
        | nil =>
          cases hc with
          | cons hp hc => exact ⟨.cons hp .nil, hc⟩
        | cons q a ih =>
          cases hc with
          | cons hp hc =>
            obtain ⟨i1, i2⟩ := ih hc
            exact ⟨.cons hp i1, i2⟩
      rw [hl2] at hc
      obtain ⟨c1, c2⟩ := cut x (y ++ [p2]) r hc
      rw [hr2] at c1 c2
      exact ⟨x ++ [r], y ++ [p2], hl2, c1, c2, by simp, by simp⟩
    have hinner : inner l = a.map L2.Step.s ++ inner b := by
      unfold inner
      rw [hab, List.dropLast_append_of_ne_nil hbn, List.map_append]
    have ha2 : a.map L2.Step.s = inner a ++ [k] := by
      obtain ⟨_, r, p, er, ep, _⟩ := ca.ends han
      unfold inner
      rw [er, List.dropLast_concat, List.map_append]
      simp [ep]
    rw [hinner, ha2] at hnd hin
    have hnd' := List.nodup_append.mp hnd
    have hnda := List.nodup_append.mp hnd'.1
    have hka : ∀ x ∈ inner a, x < k := fun x hx => by
      have h1 := hin x (by simp [hx])
      have h2 : x ≠ k := fun z => hnda.2.2 x hx k (by simp) z
      omega
    have hkb : ∀ x ∈ inner b, x < k := fun x hx => by
      have h1 := hin x (by simp [hx])
      have h2 : k ≠ x := fun z => hnd'.2.2 k (by simp) x hx z
      omega
    have hlen : a.length + b.length ≤ n := by rw [hab, List.length_append] at hl; exact hl
    have g1 := h0 v k a ca han hnda.1 hka (by omega)
    have g2 := h0 k u b cb hbn hnd'.2.1 hkb (by omega)
    obtain ⟨g, eg, hg⟩ := h.seen u v (hd u v hu hv) _ _ g2 g1
    refine ⟨g, eg, ?_⟩
    have hle : gsum l ≤ 9 * l.length := gsum_le (n := n) hT (f := []) hc.mem
    rw [hab, gsum_append]
    rw [hab, gsum_append, List.length_append] at hle
    split at hg <;> omega
  · refine h.mono _ _ _ (h0 v u l hc hne hnd (fun x hx => ?_) hl)
    have h1 := hin x hx
    have : x ≠ k := fun z => hk (z ▸ hx)
    omega
/-! the table as it lies -/
def key2 (u v : Nat) : List Key := [Sum.inl (u : Int), Sum.inl (v : Int)]
theorem key2_inj {a b u v : Nat} (h : key2 a b = key2 u v) : a = u ∧ b = v := by
  unfold key2 at h
  simp only [List.cons.injEq, Sum.inl.injEq, and_true] at h
  omega
def FarH (H : Hp) (d : Addr) (m : Nat) (F : Nat → Nat → Option Int) : Prop := ∃ kvs : List (List Key × V), H d = some (.dT kvs) ∧ kvs.length ≤ m ∧ ∀ u v : Nat, valV kvs (key2 u v) = (F u v).map V.int
theorem FarH.get {H : Hp} {d p : Addr} {m : Nat} {F : Nat → Nat → Option Int} (h : FarH H d m F) {u v : Nat} (hp : H p = some (.tup [.int (u : Int), .int (v : Int)])) : DGet H d (.ref p) ((F u v).map V.int) := by
  obtain ⟨kvs, h1, _, h3⟩ := h
  have := DGet.t (k := key2 u v) h1 hp
  rw [h3] at this
  exact this
theorem FarH.put {H : Hp} {d p : Addr} {m : Nat} {F : Nat → Nat → Option Int} (h : FarH H d m F) {u v : Nat} (hp : H p = some (.tup [.int (u : Int), .int (v : Int)])) (hm : m < sizeLine) (x : Int) : ∃ H', DPut H d (.ref p) (.int x) H' ∧ FarH H' d (m + 1) (put2 F u v x) ∧ ∃ o, H' = upd H d o := by
  obtain ⟨kvs, h1, h2, h3⟩ := h
  refine ⟨_, DPut.t (k := key2 u v) h1 hp (by omega), ⟨_, upd_same, ?_, fun a b => ?_⟩, _, rfl⟩
  · have := length_putK kvs (key2 u v) (V.int x)
    omega
  · rw [valV_put, h3]
    unfold put2
    by_cases hc : key2 a b = key2 u v
    · rw [if_pos hc, if_pos (key2_inj hc)]
      rfl
    · rw [if_neg hc, if_neg (fun z => hc (by rw [z.1, z.2]))]
theorem FarH.same {H H' : Hp} {d : Addr} {m : Nat} {F : Nat → Nat → Option Int} (h : FarH H d m F) (s : Same H H') : FarH H' d m F := let ⟨kvs, h1, h2⟩ := h; ⟨kvs, s _ _ h1, h2⟩
theorem FarH.le {H : Hp} {d : Addr} {m m' : Nat} {F : Nat → Nat → Option Int} (h : FarH H d m F) (l : m ≤ m') : FarH H d m' F := let ⟨kvs, h1, h2, h3⟩ := h; ⟨kvs, h1, by omega, h3⟩
theorem FMid.sub {n : Nat} {S : List L2.Step} {k : Nat} {F0 F : Nat → Nat → Option Int} {done done' : Nat → Nat → Prop} (h : FMid n S k F0 F done) (hs : ∀ a b, done' a b → done a b) : FMid n S k F0 F done' := ⟨h.low, h.mono, fun u v hd => h.seen u v (hs u v hd)⟩
theorem FMid.first {n : Nat} {S : List L2.Step} {k : Nat} {F : Nat → Nat → Option Int} {done : Nat → Nat → Prop} (h : FLow S F) (hn : ∀ a b, ¬ done a b) : FMid n S k F F done := ⟨h, fun _ _ _ z => z, fun u v hd => absurd hd (hn u v)⟩
end L2

set_option Elab.async false
set_option linter.all false
set_option maxRecDepth 100000
namespace HT
open PySem PyProof.Rows
section
variable {prog : Program} {w : World} {A : Around} {E : Value → Shared → Prop} {s : Shared}
end
end HT
namespace L2
open PySem PySem.Spec PyProof.Rows
section
variable {X : Cx} {pos : Pos}
end
end L2

set_option Elab.async false
set_option linter.all false
set_option maxRecDepth 100000
namespace HT
open PySem PyProof.Rows
section
variable {prog : Program} {w : World} {A : Around} {R : Result → Shared → Prop} {I : Addr} {fp wr : List Addr} {n : Nat} {P : Nat → Value → Prop} {St : Nat → Heap → Prop}
end
section
variable {prog : Program} {w : World} {A : Around} {E : Value → Shared → Prop} {s : Shared} {l : Addr} {its : List Value} {ns : List Int} {Q : Value → Shared → Prop}
end
end HT
namespace L2
open PySem PySem.Spec PyProof.Rows
section
variable {X : Cx} {x : Str} {p pos : Pos} {e : Expr} {es : List Expr} {kws : List Keyword} {t tk : TA} {id : String} {ks : List Str}
end
end L2

set_option Elab.async false
set_option linter.all false
set_option maxRecDepth 100000
namespace L2
open PySem PySem.Spec PyProof.Rows
/-- a list of rows (items are rows of numbers) -/
def LRows (H : Hp) (p : Addr) (rows : List (List Int)) : Prop := ∃ pa : List Addr, H p = some (.lst (pa.map V.ref)) ∧ RowsH H pa rows
theorem LRows.same {H H' : Hp} {p : Addr} {rows : List (List Int)} (h : LRows H p rows) (s : Same H H') : LRows H' p rows := let ⟨pa, h1, h2⟩ := h; ⟨pa, s _ _ h1, h2.tu s.tu⟩
/-- the bends between two layers -/
def bendsTo (place : Nat) (lo : Int) : Nat → List (List Int)
  | 0 => []
  | k + 1 => bendsTo place lo k ++ [[1, (place : Int), lo + (k : Int)]]
def chainUL (place u v : Nat) (g : Nat → Int) : List (List Int) := [[0, (u : Int)]] ++ bendsTo place (g u + 1) (g v - (g u + 1)).toNat ++ [[0, (v : Int)]]
def chainL (place one other : Nat) (g : Nat → Int) : List (List Int) :=
  if one = other then [] else if g one < g other then chainUL place one other g else chainUL place other one g
def LLRows (H : Hp) (p : Addr) (cs : List (List (List Int))) : Prop := ∃ la : List Addr, H p = some (.lst (la.map V.ref)) ∧ Paired (LRows H) la cs
theorem LLRows.same {H H' : Hp} {p : Addr} {cs : List (List (List Int))} (h : LLRows H p cs) (s : Same H H') : LLRows H' p cs := let ⟨la, h1, h2⟩ := h; ⟨la, s _ _ h1, Paired.mapP h2 fun a c q => q.same s⟩
def chainAt (g : Nat → Int) (k : Nat) (row : List Int) : List (List Int) := chainL k (row.getD 0 0).toNat (row.getD 1 0).toNat g
def chainsTo (rows : List (List Int)) (g : Nat → Int) : Nat → List (List (List Int))
  | 0 => []
  | k + 1 => chainsTo rows g k ++ (match rows[k]? with | some row => [chainAt g k row] | none => [])
end L2

set_option Elab.async false
set_option linter.all false
set_option maxRecDepth 100000
namespace L2
open PySem PySem.Spec PyProof.Rows
/-- rows that grow: the table T of the lists sl -/
structure Grow (H0 H : Hp) (T : Addr) (sl : List Addr) (R : List (List (List Int))) : Prop where
  tab : H T = some (.lst (sl.map V.ref))
  nd : sl.Nodup
  out : T ∉ sl
  new : ∀ p ∈ sl, H0 p = none
  rows : Paired (LRows H) sl R
theorem Grow.same {H0 H H' : Hp} {T : Addr} {sl : List Addr} {R : List (List (List Int))} (G : Grow H0 H T sl R) (s : Same H H') : Grow H0 H' T sl R := ⟨s _ _ G.tab, G.nd, G.out, G.new, Paired.mapP G.rows fun p c z => z.same s⟩
/-- one item more in one row -/
theorem Grow.push {H0 H : Hp} {T l p : Addr} {sl pa : List Addr} {R : List (List (List Int))} {i : Nat} {row : List (List Int)} {it : List Int} (G : Grow H0 H T sl R) (e : sl[i]? = some l) (er : R[i]? = some row) (hl : H l = some (.lst (pa.map V.ref))) (hr : RowsH H pa row) (hp : RowH H p it) :
    Grow H0 (upd H l (.lst (pa.map V.ref ++ [.ref p]))) T sl (R.set i (row ++ [it])) := by
  have hmem : l ∈ sl := List.mem_of_getElem? e
  have nTl : T ≠ l := fun z => G.out (z ▸ hmem)
  have tu : Tu H (upd H l (.lst (pa.map V.ref ++ [.ref p]))) := Tu.put hl
  refine ⟨by rw [upd_ne nTl]; exact G.tab, G.nd, G.out, G.new, paired_ix (by rw [List.length_set]; exact Paired.length G.rows) fun j q c e1 e2 => ?_⟩
  by_cases hj : j = i
  · subst hj
    rw [e] at e1
    cases e1
    have hjl : j < R.length := (List.getElem?_eq_some_iff.mp er).1
    rw [List.getElem?_set_self hjl] at e2
    cases e2
    exact ⟨pa ++ [p], by rw [upd_same, List.map_append]; rfl, RowsH.snoc (hr.tu tu) (tu _ _ hp)⟩
  · rw [List.getElem?_set_ne (Ne.symm hj)] at e2
    obtain ⟨c', e3, pa', h1, h2⟩ := paired_get G.rows e1
    rw [e2] at e3
    cases e3
    have hne : q ≠ l := fun z => by
      subst z
      have := (List.getElem?_inj (by exact (List.getElem?_eq_some_iff.mp e1).1) G.nd).mp (e1.trans e.symm)
      exact hj this
    exact ⟨pa', by rw [upd_ne hne]; exact h1, h2.tu tu⟩
def boxRow (g : Nat → Int) (i : Nat) (ly : Nat) : List (List Int) := ((List.range i).filter fun b => decide (g b = (ly : Int))).map fun (b : Nat) => ([0, (b : Int)] : List Int)
def isBend (ly : Nat) (it : List Int) : Bool := decide (it.getD 0 0 = 1) && decide (it.getD 2 0 = (ly : Int))
def rowsOf (n m : Nat) (g : Nat → Int) (its : List (List Int)) : List (List (List Int)) := (List.range m).map fun l => boxRow g n l ++ its.filter (isBend l)
end L2

set_option Elab.async false
set_option linter.all false
set_option maxRecDepth 100000
namespace PySem
open Sem (wp)
section
variable {prog : Program} {w : World} {A : Around} {E : Value → Shared → Prop} {s : Shared}
end
section
variable {prog : Program} {w : World} {A : Around} {E : Value → Shared → Prop} {s : Shared}
end
end PySem
namespace L2
open PySem PySem.Spec PyProof.Rows
section
variable {X : Cx}
end
end L2

set_option Elab.async false
set_option linter.all false
set_option maxRecDepth 100000
namespace PyProof.Rows
open PySem
section
variable {prog : Program} {w : World} {A : Around} {E : Value → Shared → Prop} {s : Shared}
end
end PyProof.Rows
namespace L2
open PySem PySem.Spec PyProof.Rows
section
variable {X : Cx}
end
end L2

set_option Elab.async false
set_option linter.all false
set_option maxRecDepth 100000
namespace L2
open PySem PySem.Spec PyProof.Rows
/-- the number of rows -/
structure TopN (g : List Int) (m : Nat) : Prop where
  lt : ∀ x ∈ g, x < (m : Int)
  at_ : m = 0 ∨ ∃ x ∈ g, x + 1 = (m : Int)
theorem TopN.one {g : List Int} {m m' : Nat} (h : TopN g m) (h' : TopN g m') : m = m' := by
  have key : ∀ {a b : Nat}, TopN g a → TopN g b → a ≤ b := fun {a b} p q => by
    rcases p.at_ with e | ⟨x, hx, e⟩
    · omega
    · have := q.lt x hx; omega
  exact Nat.le_antisymm (key h h') (key h' h)
def innerC (c : List (List Int)) : List (List Int) := (c.drop 1).dropLast
/-- all bends, by arrows -/
def bendsAll (cs : List (List (List Int))) : List (List Int) := cs.flatMap innerC
/-- the plain rows -/
def plainRows (W : Web) (g : List Int) (m : Nat) : List (List (List Int)) := rowsOf g.length m (fun v => g.getD v 0) (bendsAll (chainsTo W.arrows (fun v => g.getD v 0) W.arrows.length))
end L2

set_option Elab.async false
set_option linter.all false
set_option maxRecDepth 100000
namespace L2
open PySem PySem.Spec PyProof.Rows
/-- a word between two statements: what stands behind is read once -/
theorem seq_cut {t u : TS} {D : Ends} {σ : St} {H : Hp} (Mid : St → Hp → Prop) (h1 : ∀ N : St → Hp → Prop, (∀ σ' H', Mid σ' H' → N σ' H') → t { D with nx := N } σ H) (h2 : ∀ σ' H', Mid σ' H' → u D σ' H') : tSeq t u D σ H := h1 _ h2
/-- the slots as a written list -/
theorem st_at {t : TS} {D : Ends} {σ σ' : St} {H : Hp} (e : σ = σ') (h : t D σ' H) : t D σ H := e ▸ h
/-! lists of rows beside the bag -/
theorem Bag.noRefs {H : Hp} {b c p : Addr} {pa : List Addr} (B : Bag H b c) (h : H p = some (.lst (pa.map V.ref))) : p ≠ b := fun e => by
  obtain ⟨i, j, z, cells, hb, _⟩ := B
  rw [e, hb] at h
  have h := HO.lst.inj (Option.some.inj h)
  cases pa with
  | nil => cases h
  | cons x xs => cases xs with
    | nil => cases h
    | cons y ys => cases h
theorem Bag.noInts {H : Hp} {b c p : Addr} {g : List Int} (B : Bag H b c) (h : H p = some (.lst (g.map V.int))) : p ≠ b := fun e => by
  obtain ⟨i, j, z, cells, hb, _⟩ := B
  rw [e, hb] at h
  have h := HO.lst.inj (Option.some.inj h)
  cases g with
  | nil => cases h
  | cons x xs => cases h
theorem LRows.bag {H H' : Hp} {b c p : Addr} {rows : List (List Int)} (h : LRows H p rows) (B : Bag H b c) (s : SameB b H H') : LRows H' p rows := let ⟨pa, h1, h2⟩ := h; ⟨pa, s _ _ h1 (B.noRefs h1), h2.tu (B.tu s)⟩
theorem LLRows.bag {H H' : Hp} {b c p : Addr} {cs : List (List (List Int))} (h : LLRows H p cs) (B : Bag H b c) (s : SameB b H H') : LLRows H' p cs := let ⟨la, h1, h2⟩ := h; ⟨la, s _ _ h1 (B.noRefs h1), Paired.mapP h2 fun a c q => q.bag B s⟩
theorem Paired.erase {α β : Type} {F : α → β → Prop} {xs : List α} {ys : List β} (h : Paired F xs ys) : ∀ k : Nat, Paired F (xs.eraseIdx k) (ys.eraseIdx k) := by
  induction h with
  | nil => intro k; exact .nil
  | cons a b ih =>
    intro k
    cases k with
    | zero => exact b
    | succ k => exact .cons a (ih k)
/-- the same rows in another order -/
def PermRows : List (List (List Int)) → List (List (List Int)) → Prop := Paired List.Perm
/-- a web, a layering that keeps its ties, its chains, its rows in some order -/
structure Setting (H : Hp) (aW TI LC LO : Addr) (W : Web) (n r s : Addr) (g : List Int) (m : Nat) (R : List (List (List Int))) : Prop where
  web : WebH H aW W n r s
  ok : webB W = true
  sm : ∀ z ∈ W.names, z.length ≤ 6
  free : ClashFree (tiesOf W)
  ti : H TI = some (.lst (g.map V.int))
  len : g.length = W.names.length
  keeps : Keeps (tiesOf W) (fun v => g.getD v 0)
  bnd : ∀ v : Nat, 0 ≤ g.getD v 0 ∧ g.getD v 0 ≤ 1000
  top : TopN g m
  lc : LLRows H LC (chainsTo W.arrows (fun v => g.getD v 0) W.arrows.length)
  lo : LLRows H LO R
  pm : PermRows R (plainRows W g m)
theorem Setting.same {H H' : Hp} {aW TI LC LO : Addr} {W : Web} {n r s : Addr} {g : List Int} {m : Nat} {R : List (List (List Int))} (S : Setting H aW TI LC LO W n r s g m R) (z : Same H H') : Setting H' aW TI LC LO W n r s g m R :=
  { S with web := S.web.tu z.tu, ti := z _ _ S.ti, lc := S.lc.same z, lo := S.lo.same z }
theorem Setting.bag {H H' : Hp} {b c aW TI LC LO : Addr} {W : Web} {n r s : Addr} {g : List Int} {m : Nat} {R : List (List (List Int))} (S : Setting H aW TI LC LO W n r s g m R) (B : Bag H b c) (z : SameB b H H') : Setting H' aW TI LC LO W n r s g m R :=
  { S with web := S.web.tu (B.tu z), ti := z _ _ S.ti (B.noInts S.ti), lc := S.lc.bag B z, lo := S.lo.bag B z }
theorem TopN.le {g : List Int} {m : Nat} (h : TopN g m) (hgb : ∀ v : Nat, 0 ≤ g.getD v 0 ∧ g.getD v 0 ≤ 1000) : m ≤ 1001 := by
  rcases h.at_ with e | ⟨x, hx, e⟩
  · omega
  · obtain ⟨j, ej⟩ := List.getElem?_of_mem hx
    have := hgb j
    rw [List.getD_eq_getElem?_getD, ej] at this
    have this : 0 ≤ x ∧ x ≤ 1000 := this
    omega
end L2

set_option Elab.async false
set_option linter.all false
set_option maxRecDepth 100000
namespace L2
open PySem PySem.Spec PyProof.Rows
section
variable {X : Cx}
end
end L2

set_option Elab.async false
set_option linter.all false
set_option maxRecDepth 100000
namespace L2
open PySem PySem.W PyProof.Rows
/-- what a tree of questions comes to, asked by c, all asked below n -/
def KRun {α : Type} (c : Nat → Nat → Bool) (n : Nat) : KasT α → (α → Prop) → Prop
  | .ret a, P => P a
  | .ask i j k, P => i < n ∧ j < n ∧ KRun c n (k (c i j)) P
theorem KRun.mono {α : Type} {c : Nat → Nat → Bool} {n : Nat} {P P' : α → Prop} (hp : ∀ a, P a → P' a) : ∀ (t : KasT α), KRun c n t P → KRun c n t P'
  | .ret a, h => hp a h
  | .ask i j k, h => ⟨h.1, h.2.1, KRun.mono hp _ h.2.2⟩
theorem KRun.bind {α β : Type} {c : Nat → Nat → Bool} {n : Nat} {P : β → Prop} {f : α → KasT β} : ∀ (t : KasT α), KRun c n t (fun a => KRun c n (f a) P) → KRun c n (t.bind f) P
  | .ret _, h => h
  | .ask i j k, h => ⟨h.1, h.2.1, KRun.bind _ h.2.2⟩
theorem KRun.wp {α : Type} {c : Nat → Nat → Bool} {n : Nat} {cmp : Nat → Nat → (Bool → Shared → Prop) → Shared → Prop} {s : Shared} (hc : ∀ i j (C : Bool → Shared → Prop), i < n → j < n → C (c i j) s → cmp i j C s) {P : α → Prop} {Q : α → Shared → Prop} (hq : ∀ a, P a → Q a s) : ∀ (t : KasT α), KRun c n t P → t.kasWp cmp Q s
  | .ret a, h => hq a h
  | .ask i j k, h => hc i j _ h.1 h.2.1 (KRun.wp hc hq _ h.2.2)
section
variable {n : Nat} (key : Nat → Int)
def KY (p : Array Nat) (i : Nat) : Int := key (p.getD i 0)
structure POk (n : Nat) (p : Array Nat) : Prop where
  size : p.size = n
  perm : p.toList.Perm (List.range n)
theorem POk.lt {p : Array Nat} (h : POk n p) (h0 : 0 < n) (i : Nat) : p.getD i 0 < n := by
  rw [Array.getD_eq_getD_getElem?]
  by_cases hi : i < p.size
  · rw [Array.getElem?_eq_getElem hi]
    show p[i] < n
    have : p[i] ∈ p.toList := by simp
    exact List.mem_range.mp (h.perm.mem_iff.mp this)
  · rw [Array.getElem?_eq_none (by omega)]
    exact h0
theorem POk.rev {p : Array Nat} (h : POk n p) (i j : Nat) : POk n (kas_rev p i j) := ⟨by unfold kas_rev; rw [mirror_size]; exact h.size, (Array.perm_iff_toList_perm.mp (mirror_perm p i j _)).trans h.perm⟩
def KUp (p : Array Nat) (m : Nat) : Prop := ∀ i, 1 ≤ i → i < m → KY key p (i - 1) ≤ KY key p i
variable {key}
theorem KUp.le {p : Array Nat} {m : Nat} (h : KUp key p m) : ∀ {i j : Nat}, i ≤ j → j < m → KY key p i ≤ KY key p j := by
  intro i j hij hj
  induction j with
  | zero => have : i = 0 := by omega
            subst this; exact Int.le_refl _
  | succ j ih =>
    by_cases e : i = j + 1
    · subst e; exact Int.le_refl _
    · have h1 := ih (by omega) (by omega)
      have h2 := h (j + 1) (by omega) hj
      rw [Nat.add_sub_cancel] at h2
      omega
end
end L2

set_option Elab.async false
set_option linter.all false
set_option maxRecDepth 100000
namespace PyProof.Rows
open PySem PySem.W
section
variable {prog : Program} {w : World} {A : Around} {E : Value → Shared → Prop} {s : Shared}
end
end PyProof.Rows

set_option Elab.async false
set_option linter.all false
set_option maxRecDepth 100000
namespace L2
open PySem PySem.Spec PyProof.Rows
section
variable {prog : Program} {w : World} {A : Around} {E : Value → Shared → Prop} {s : Shared}
end
section
variable {X : Cx}
end
end L2

set_option Elab.async false
set_option linter.all false
set_option maxRecDepth 100000
namespace L2
open PySem PySem.Spec PyProof.Rows
abbrev Pos2 := List Int → Option (Nat × Nat)
def putP (F : Pos2) (it : List Int) (x : Nat × Nat) : Pos2 := fun z => if z = it then some x else F z
/-- places of items: behind the first items of a row, behind the first rows -/
def posRow (F : Pos2) (num : Nat) (row : List (List Int)) : Nat → Pos2
  | 0 => F
  | k + 1 => match row[k]? with | some it => putP (posRow F num row k) it (num, k) | none => posRow F num row k
def posAll (R : List (List (List Int))) : Nat → Pos2
  | 0 => fun _ => none
  | k + 1 => match R[k]? with | some row => posRow (posAll R k) k row row.length | none => posAll R k
theorem posRow_succ {F : Pos2} {num k : Nat} {row : List (List Int)} {it : List Int} (e : row[k]? = some it) : posRow F num row (k + 1) = putP (posRow F num row k) it (num, k) := by
  show (match row[k]? with | some it => _ | none => _) = _
  rw [e]
theorem posAll_succ {R : List (List (List Int))} {k : Nat} {row : List (List Int)} (e : R[k]? = some row) : posAll R (k + 1) = posRow (posAll R k) k row row.length := by
  show (match R[k]? with | some row => _ | none => _) = _
  rw [e]
theorem posRow_has {F : Pos2} {num : Nat} {row : List (List Int)} {it : List Int} : ∀ (k : Nat), ((∃ x, F it = some x) ∨ it ∈ row.take k) → ∃ x, posRow F num row k it = some x
  | 0, h => by
    rcases h with h | h
    · exact h
    · simp at h
  | k + 1, h => by
    cases e : row[k]? with
    | none =>
      have : posRow F num row (k + 1) = posRow F num row k := by show (match row[k]? with | some it => _ | none => _) = _; rw [e]
      rw [this]
      refine posRow_has k ?_
      rcases h with h | h
      · exact .inl h
      · rw [List.take_of_length_le (by have := List.getElem?_eq_none_iff.mp e; omega)] at h
        refine .inr ?_
        rw [List.take_of_length_le (List.getElem?_eq_none_iff.mp e)]
        exact h
    | some z =>
      rw [posRow_succ e]
      unfold putP
      by_cases c : it = z
      · rw [if_pos c]; exact ⟨_, rfl⟩
      · rw [if_neg c]
        refine posRow_has k ?_
        rcases h with h | h
        · exact .inl h
        · rw [take_snoc e] at h
          rcases List.mem_append.mp h with h | h
          · exact .inr h
          · exact absurd (List.mem_singleton.mp h) c
theorem posAll_has {R : List (List (List Int))} {it : List Int} : ∀ (k : Nat), (∃ row ∈ R.take k, it ∈ row) → ∃ x, posAll R k it = some x
  | 0, ⟨_, h, _⟩ => by simp at h
  | k + 1, ⟨row, h, hm⟩ => by
    cases e : R[k]? with
    | none =>
      have : posAll R (k + 1) = posAll R k := by show (match R[k]? with | some row => _ | none => _) = _; rw [e]
      rw [this]
      rw [List.take_of_length_le (by have := List.getElem?_eq_none_iff.mp e; omega)] at h
      exact posAll_has k ⟨row, by rw [List.take_of_length_le (List.getElem?_eq_none_iff.mp e)]; exact h, hm⟩
    | some r2 =>
      rw [posAll_succ e]
      rw [take_snoc e] at h
      rcases List.mem_append.mp h with h | h
      · exact posRow_has _ (.inl (posAll_has k ⟨row, h, hm⟩))
      · have := List.mem_singleton.mp h
        subst this
        exact posRow_has _ (.inr (by rw [List.take_of_length_le (Nat.le_refl _)]; exact hm))
/-! the segments -/
/-- a chain among rows: its items lie in rows one below the other, the lowest one in a row that is there -/
def Falls (F : Pos2) (n : Nat) (c : List (List Int)) : Prop := ∃ L : Nat, ∀ k it, c[k]? = some it → ∃ b, F it = some (L + k, b) ∧ L + k < n
structure SegOk (n : Nat) (B : List (List (List Int))) (m : Nat) : Prop where
  len : B.length = n
  lt : ∀ (a : Nat) (row : List (List Int)), B[a]? = some row → row.length ≤ m
  three : ∀ row ∈ B, ∀ x ∈ row, ∃ p q r : Int, x = [p, q, r] ∧ 0 ≤ p ∧ 0 ≤ q
  last : ∀ (a : Nat) (row : List (List Int)), B[a]? = some row → a + 1 = n → row = []
/-! crossings -/
def crossB (x y : List Int) : Bool := decide ((x.getD 0 0 - y.getD 0 0) * (x.getD 1 0 - y.getD 1 0) < 0)
end L2

set_option Elab.async false
set_option linter.all false
set_option maxRecDepth 100000
namespace L2
open PySem PySem.Spec PyProof.Rows
/-! the dict of places as it lies -/
def kI (it : List Int) : List Key := it.map Sum.inl
theorem kI_kV : ∀ it : List Int, (kI it).map kV = it.map V.int
  | [] => rfl
  | x :: it => by
    show V.int x :: (kI it).map kV = V.int x :: it.map V.int
    rw [kI_kV it]
theorem kI_inj {x y : List Int} (h : kI x = kI y) : x = y := by
  unfold kI at h
  exact (List.map_inj_right fun a b e => Sum.inl.inj e).mp h
def PosH (H : Hp) (d : Addr) (m : Nat) (F : Pos2) : Prop := ∃ kvs : List (List Key × V), H d = some (.dT kvs) ∧ kvs.length ≤ m ∧ ∀ it : List Int, (F it = none ∧ valV kvs (kI it) = none) ∨ ∃ a b p, F it = some (a, b) ∧ valV kvs (kI it) = some (.ref p) ∧ H p = some (.tup [.int (a : Nat), .int (b : Nat)])
theorem PosH.get {H : Hp} {d q : Addr} {m : Nat} {F : Pos2} (h : PosH H d m F) {it : List Int} {a b : Nat} (e : F it = some (a, b)) (hq : RowH H q it) : ∃ p, DGet H d (.ref q) (some (.ref p)) ∧ H p = some (.tup [.int (a : Nat), .int (b : Nat)]) := by
  obtain ⟨kvs, h1, _, h3⟩ := h
  rcases h3 it with ⟨z, _⟩ | ⟨a', b', p, z1, z2, z3⟩
  · rw [e] at z; cases z
  · rw [e] at z1
    cases z1
    have := DGet.t (k := kI it) h1 (by rw [kI_kV]; exact hq)
    rw [z2] at this
    exact ⟨p, this, z3⟩
theorem PosH.put {H : Hp} {d q p : Addr} {m : Nat} {F : Pos2} (h : PosH H d m F) {it : List Int} {a b : Nat} (hq : RowH H q it) (hp : H p = some (.tup [.int (a : Nat), .int (b : Nat)])) (hm : m < sizeLine) : ∃ H', DPut H d (.ref q) (.ref p) H' ∧ PosH H' d (m + 1) (putP F it (a, b)) ∧ ∃ o, H' = upd H d o := by
  obtain ⟨kvs, h1, h2, h3⟩ := h
  refine ⟨_, DPut.t (k := kI it) h1 (by rw [kI_kV]; exact hq) (by omega), ⟨_, upd_same, ?_, fun z => ?_⟩, _, rfl⟩
  · have := length_putK kvs (kI it) (V.ref p)
    omega
  · have nd : ∀ {x : Addr} {xs : List V}, H x = some (.tup xs) → x ≠ d := fun {x xs} hx => ne_of hx h1 (by intro z; cases z)
    rw [valV_put]
    unfold putP
    by_cases c : z = it
    · subst c
      rw [if_pos rfl, if_pos rfl]
      exact .inr ⟨a, b, p, rfl, rfl, by rw [upd_ne (nd hp)]; exact hp⟩
    · rw [if_neg c, if_neg (fun e => c (kI_inj e))]
      rcases h3 z with z1 | ⟨a', b', p', z1, z2, z3⟩
      · exact .inl z1
      · exact .inr ⟨a', b', p', z1, z2, by rw [upd_ne (nd z3)]; exact z3⟩
theorem PosH.same {H H' : Hp} {d : Addr} {m : Nat} {F : Pos2} (h : PosH H d m F) (s : Same H H') : PosH H' d m F := by
  obtain ⟨kvs, h1, h2, h3⟩ := h
  refine ⟨kvs, s _ _ h1, h2, fun it => ?_⟩
  rcases h3 it with z | ⟨a, b, p, z1, z2, z3⟩
  · exact .inl z
  · exact .inr ⟨a, b, p, z1, z2, s _ _ z3⟩
theorem PosH.le {H : Hp} {d : Addr} {m m' : Nat} {F : Pos2} (h : PosH H d m F) (l : m ≤ m') : PosH H d m' F := let ⟨kvs, h1, h2, h3⟩ := h; ⟨kvs, h1, by omega, h3⟩
/-- a dict's places stay where but new lists change -/
theorem PosH.but {H H' : Hp} {d l : Addr} {ys : List V} {o : HO} {m : Nat} {F : Pos2} (h : PosH H d m F) (hl : H l = some (.lst ys)) : PosH (upd H l o) d m F := by
  obtain ⟨kvs, h1, h2, h3⟩ := h
  refine ⟨kvs, by rw [upd_ne (ne_of h1 hl (by intro z; cases z))]; exact h1, h2, fun it => ?_⟩
  rcases h3 it with z | ⟨a, b, p, z1, z2, z3⟩
  · exact .inl z
  · exact .inr ⟨a, b, p, z1, z2, by rw [upd_ne (ne_of z3 hl (by intro z; cases z))]; exact z3⟩
structure SegIn (R cs : List (List (List Int))) : Prop where
  rl : R.length ≤ 2000
  rb : ∀ row ∈ R, row.length ≤ 100000
  tot : ∀ k, ((R.take k).map List.length).sum ≤ 1000000
  cl : cs.length ≤ 63
  cb : ∀ c ∈ cs, c.length ≤ 2000 ∧ ∀ it ∈ c, it ≠ []
  fall : ∀ c ∈ cs, Falls (posAll R R.length) R.length c
end L2

set_option Elab.async false
set_option linter.all false
set_option maxRecDepth 100000
namespace L2
open PySem PySem.Spec PyProof.Rows
end L2

set_option Elab.async false
set_option linter.all false
set_option maxRecDepth 100000
namespace L2
open PySem PySem.Spec PyProof.Rows
structure Fine (n : Nat) (d : PyData) : Prop where
  sh : d.showable = true
  nd : d.hasDict = false
  dp : d.depth ≤ n
  lv : d.leavesShort 13 = true
structure SmallIt (it : List Int) : Prop where
  ne : it ≠ []
  len : it.length ≤ 3
  all : ∀ x ∈ it, (-999999999999 : Int) ≤ x ∧ x ≤ 999999999999
section
variable {X : Cx}
end
/-! a call with its last argument by keyword -/
end L2

set_option Elab.async false
set_option linter.all false
set_option maxRecDepth 100000
namespace L2
open PySem PySem.Spec PyProof.Rows
end L2

set_option Elab.async false
set_option linter.all false
set_option maxRecDepth 100000
namespace L2
open PySem PySem.Spec PyProof.Rows
section
variable {X : Cx}
end
end L2

set_option Elab.async false
set_option linter.all false
set_option maxRecDepth 100000
namespace L2
open PySem PySem.Spec PyProof.Rows
end L2

set_option Elab.async false
set_option linter.all false
set_option maxRecDepth 100000
namespace L2
open PySem PySem.Spec PyProof.Rows
abbrev Itm := List Int
/-! sums of ints over lists -/
def sumI {α : Type} (l : List α) (f : α → Int) : Int := (l.map f).sum
/-! two neighbours exchanged -/
def gI (p : Itm → Int) (x y : Itm) : Int := (if p y < p x then 1 else 0) - (if p x < p y then 1 else 0)
def few (p : Itm → Int) (fs ss : List Itm) : Int := sumI fs fun x => sumI ss fun y => gI p x y
def crI (p : Itm → Int) (s t : Itm × Itm) : Int := if (p s.1 - p t.1) * (p s.2 - p t.2) < 0 then 1 else 0
def XX (S : List (Itm × Itm)) (p : Itm → Int) : Int := sumI S fun s => sumI S fun t => crI p s t
/-- p' is p with the neighbours a, b exchanged -/
structure Exch (p p' : Itm → Int) (a b : Itm) : Prop where
  ne : a ≠ b
  nx : p b = p a + 1
  ea : p' a = p b
  eb : p' b = p a
  ot : ∀ z, z ≠ a → z ≠ b → p' z = p z
def nbrLo (S : List (Itm × Itm)) (a : Itm) : List Itm := (S.filter fun s => decide (s.1 = a)).map (·.2)
def nbrUp (S : List (Itm × Itm)) (a : Itm) : List Itm := (S.filter fun s => decide (s.2 = a)).map (·.1)
end L2

set_option Elab.async false
set_option linter.all false
set_option maxRecDepth 100000
namespace L2
open PySem PySem.Spec PyProof.Rows
/-! the law's count of crossings, by sums -/
def cB (x y : List Int) : Int := if crossB x y = true then 1 else 0
/-! segments as pairs of items -/
def Lf (F : Pos2) (it : Itm) : Nat := ((F it).getD (0, 0)).1
def pf (F : Pos2) (it : Itm) : Int := (((F it).getD (0, 0)).2 : Nat)
def at2 (S : List (Itm × Itm)) (F : Pos2) (a : Nat) : List (Itm × Itm) := S.filter fun s => decide (Lf F s.1 = a)
end L2

set_option Elab.async false
set_option linter.all false
set_option maxRecDepth 100000
namespace L2
open PySem PySem.Spec PyProof.Rows
abbrev Rws := List (List Itm)
def AtR (R : Rws) (n k : Nat) (it : Itm) : Prop := ∃ row, R[n]? = some row ∧ row[k]? = some it
def UniqR (R : Rws) : Prop := ∀ n k n' k' it, AtR R n k it → AtR R n' k' it → n = n' ∧ k = k'
theorem posRow_at {F : Pos2} {num : Nat} {row : List Itm} : ∀ (k : Nat) {it : Itm} {a b : Nat}, posRow F num row k it = some (a, b) → (a = num ∧ row[b]? = some it) ∨ F it = some (a, b)
  | 0, it, a, b, h => .inr h
  | k + 1, it, a, b, h => by
    cases e : row[k]? with
    | none =>
      have : posRow F num row (k + 1) = posRow F num row k := by show (match row[k]? with | some it => _ | none => _) = _; rw [e]
      rw [this] at h
      exact posRow_at k h
    | some z =>
      rw [posRow_succ e] at h
      unfold putP at h
      by_cases c : it = z
      · rw [if_pos c] at h
        cases h
        exact .inl ⟨rfl, by rw [e, c]⟩
      · rw [if_neg c] at h
        exact posRow_at k h
theorem posAll_at {R : Rws} : ∀ (k : Nat) {it : Itm} {a b : Nat}, posAll R k it = some (a, b) → AtR R a b it
  | 0, it, a, b, h => by cases h
  | k + 1, it, a, b, h => by
    cases e : R[k]? with
    | none =>
      have : posAll R (k + 1) = posAll R k := by show (match R[k]? with | some row => _ | none => _) = _; rw [e]
      rw [this] at h
      exact posAll_at k h
    | some row =>
      rw [posAll_succ e] at h
      rcases posRow_at _ h with ⟨rfl, hm⟩ | h
      · exact ⟨row, e, hm⟩
      · exact posAll_at k h
abbrev posF (R : Rws) : Pos2 := posAll R R.length
theorem pos_of {R : Rws} (U : UniqR R) {n k : Nat} {it : Itm} (h : AtR R n k it) : posF R it = some (n, k) := by
  obtain ⟨row, e1, e2⟩ := id h
  obtain ⟨⟨a, b⟩, ex⟩ := posAll_has (R := R) (it := it) R.length ⟨row, by rw [List.take_of_length_le (Nat.le_refl _)]; exact List.mem_of_getElem? e1, List.mem_of_getElem? e2⟩
  obtain ⟨r1, r2⟩ := U _ _ _ _ _ (posAll_at _ ex) h
  show posAll R R.length it = _
  rw [ex, r1, r2]
/-- two items of a row change places -/
def swp (row : List Itm) (k : Nat) : List Itm := (row.set k (row.getD (k + 1) [])).set (k + 1) (row.getD k [])
def swR (R : Rws) (n k : Nat) : Rws := R.set n (swp (R.getD n []) k)
section
variable {R : Rws} {n k : Nat} {row : List Itm}
theorem at_row (hr : R[n]? = some row) {i : Nat} {it : Itm} (e : row[i]? = some it) : AtR R n i it := ⟨row, hr, e⟩
theorem pf_at (U : UniqR R) {m i : Nat} {it : Itm} (h : AtR R m i it) : pf (posF R) it = (i : Int) ∧ Lf (posF R) it = m := by
  unfold pf Lf
  rw [pos_of U h]
  exact ⟨rfl, rfl⟩
end
/-! sides, gains, potentials -/
inductive Sd where | up | lo
  deriving DecidableEq
def nbr (S : List (Itm × Itm)) : Sd → Itm → List Itm
  | .up => nbrUp S
  | .lo => nbrLo S
/-- segments that hang on rows: each goes from a row to the next one -/
def HangR (S : List (Itm × Itm)) (R : Rws) : Prop := ∀ s ∈ S, ∃ l i j, AtR R l i s.1 ∧ AtR R (l + 1) j s.2
def Dsd (S : List (Itm × Itm)) (R : Rws) (n : Nat) : Sd → Int
  | .up => if n = 0 then 0 else XX (at2 S (posF R) (n - 1)) (pf (posF R))
  | .lo => XX (at2 S (posF R) n) (pf (posF R))
section
variable {S : List (Itm × Itm)} {R : Rws} {n k : Nat} {row : List Itm} {a b : Itm}
theorem far (U : UniqR R) (hr : R[n]? = some row) (ea : row[k]? = some a) (eb : row[k + 1]? = some b) {m i : Nat} {z : Itm} (Z : AtR R m i z) : (m ≠ n → z ≠ a ∧ z ≠ b) ∧ (m = n → z ≠ a → z ≠ b → pf (posF R) z ≠ pf (posF R) a ∧ pf (posF R) z ≠ pf (posF R) b) := by
  have A := at_row hr ea
  have B := at_row hr eb
  refine ⟨fun hm => ⟨fun e => hm ?_, fun e => hm ?_⟩, fun hm za zb => ?_⟩
  · rw [e] at Z; exact (U _ _ _ _ _ Z A).1
  · rw [e] at Z; exact (U _ _ _ _ _ Z B).1
  · subst hm
    rw [(pf_at U Z).1, (pf_at U A).1, (pf_at U B).1]
    obtain ⟨r, e1, e2⟩ := Z
    rw [hr] at e1
    cases e1
    refine ⟨fun q => za ?_, fun q => zb ?_⟩
    · have : i = k := by omega
      subst this
      rw [ea] at e2
      exact (Option.some.inj e2).symm
    · have : i = k + 1 := by omega
      subst this
      rw [eb] at e2
      exact (Option.some.inj e2).symm
/-- what an exchange gains by some sides -/
def gain (S : List (Itm × Itm)) (sds : List Sd) (R : Rws) (a b : Itm) : Int := sumI sds fun sd => few (pf (posF R)) (nbr S sd a) (nbr S sd b)
def pot (S : List (Itm × Itm)) (sds : List Sd) (R : Rws) (n : Nat) : Int := sumI sds fun sd => Dsd S R n sd
/-- all crossings, twice -/
def allX (S : List (Itm × Itm)) (R : Rws) : Int := sumI (List.range R.length) fun l => XX (at2 S (posF R) l) (pf (posF R))
end
end L2

set_option Elab.async false
set_option linter.all false
set_option maxRecDepth 100000
namespace L2
open PySem PySem.Spec PyProof.Rows
abbrev Held := List (Itm × Itm)
def lft (R : Rws) (n k : Nat) : Itm := (R.getD n []).getD k []
/-- the gain that settle sees: none for a held pair -/
def gainH (S : List (Itm × Itm)) (sds : List Sd) (held : Held) (R : Rws) (n k : Nat) : Int := if (lft R n k, lft R n (k + 1)) ∈ held then 0 else gain S sds R (lft R n k) (lft R n (k + 1))
section
variable (S : List (Itm × Itm)) (sds : List Sd) (held : Held) (n : Nat)
inductive SRun : Rws → Nat → Bool → Rws → Bool → Prop
  | stop {R : Rws} {k : Nat} {ch : Bool} : ¬ k + 1 < (R.getD n []).length → SRun R k ch R ch
  | swap {R R' : Rws} {k : Nat} {ch ch' : Bool} : k + 1 < (R.getD n []).length → 0 < gainH S sds held R n k → SRun (swR R n k) (k - 1) true R' ch' → SRun R k ch R' ch'
  | go {R R' : Rws} {k : Nat} {ch ch' : Bool} : k + 1 < (R.getD n []).length → ¬ 0 < gainH S sds held R n k → SRun R (k + 1) ch R' ch' → SRun R k ch R' ch'
end
section
variable {S : List (Itm × Itm)} {sds : List Sd} {held : Held} {n : Nat}
structure RowEq (n : Nat) (R R' : Rws) : Prop where
  len : R'.length = R.length
  ot : ∀ m, m ≠ n → R'[m]? = R[m]?
  pm : ∀ row, R[n]? = some row → ∃ row', R'[n]? = some row' ∧ row'.Perm row
theorem RowEq.refl (n : Nat) (R : Rws) : RowEq n R R := ⟨rfl, fun _ _ => rfl, fun row h => ⟨row, h, .refl _⟩⟩
theorem RowEq.trans {n : Nat} {R R1 R2 : Rws} (a : RowEq n R R1) (b : RowEq n R1 R2) : RowEq n R R2 := ⟨b.len.trans a.len, fun m h => (b.ot m h).trans (a.ot m h), fun row h => by
  obtain ⟨r1, e1, p1⟩ := a.pm row h
  obtain ⟨r2, e2, p2⟩ := b.pm r1 e1
  exact ⟨r2, e2, p2.trans p1⟩⟩
def RowDone (S : List (Itm × Itm)) (sds : List Sd) (held : Held) (R : Rws) (n : Nat) : Prop := ∀ k, k + 1 < (R.getD n []).length → ¬ 0 < gainH S sds held R n k
end
/-! functions of values -/
section
variable (S : List (Itm × Itm)) (held : Held)
noncomputable def settleF (sds : List Sd) (R : Rws) (n : Nat) : Rws × Bool := @dite (Rws × Bool) (∃ x : Rws × Bool, SRun S sds held n R 0 false x.1 x.2) (Classical.propDecidable _) (fun h => Classical.choose h) (fun _ => (R, false))
def calm (rl : List Bool) (i : Nat) (ch : Bool) : List Bool := if ch = true then (if i + 1 < rl.length then (if 1 ≤ i then (rl.set i false).set (i - 1) true else rl.set i false).set (i + 1) true else (if 1 ≤ i then (rl.set i false).set (i - 1) true else rl.set i false)) else rl.set i false
noncomputable def passTo (st : Rws × List Bool) : Nat → Rws × List Bool
  | 0 => st
  | i + 1 => if (passTo st i).2.getD i false = true then ((settleF S held [.up, .lo] (passTo st i).1 i).1, calm (passTo st i).2 i (settleF S held [.up, .lo] (passTo st i).1 i).2) else passTo st i
inductive WRun : Rws × List Bool → Rws → Prop
  | stop {st : Rws × List Bool} : st.2.any id = false → WRun st st.1
  | turn {st : Rws × List Bool} {R' : Rws} : st.2.any id = true → WRun (passTo S held st st.1.length) R' → WRun st R'
end
end L2

set_option Elab.async false
set_option linter.all false
set_option maxRecDepth 100000
namespace L2
open PySem PySem.Spec PyProof.Rows
section
variable {S : List (Itm × Itm)} {sds : List Sd} {held : Held} {n : Nat}
end
def PermR (R0 R : Rws) : Prop := R.length = R0.length ∧ ∀ (n : Nat) (row0 : List Itm), R0[n]? = some row0 → ∃ row : List Itm, R[n]? = some row ∧ row.Perm row0
theorem PermR.refl (R : Rws) : PermR R R := ⟨rfl, fun n row e => ⟨row, e, .refl _⟩⟩
theorem PermR.trans {A B C : Rws} (a : PermR A B) (b : PermR B C) : PermR A C := ⟨b.1.trans a.1, fun n row e => by
  obtain ⟨r1, e1, p1⟩ := a.2 n row e
  obtain ⟨r2, e2, p2⟩ := b.2 n r1 e1
  exact ⟨r2, e2, p2.trans p1⟩⟩
theorem RowEq.perm {n : Nat} {R R' : Rws} (E : RowEq n R R') : PermR R R' := ⟨E.len, fun m row e => by
  by_cases c : m = n
  · subst c; exact E.pm row e
  · exact ⟨row, (E.ot m c).trans e, .refl _⟩⟩
section
variable {S : List (Itm × Itm)} {held : Held}
/-- what stands while rows are settled -/
structure PInv (S : List (Itm × Itm)) (held : Held) (R0 : Rws) (st : Rws × List Bool) : Prop where
  un : UniqR st.1
  hg : HangR S st.1
  pm : PermR R0 st.1
  ln : st.2.length = R0.length
  le : allX S st.1 ≤ allX S R0
  dn : ∀ i, i < R0.length → st.2.getD i false = false → RowDone S [.up, .lo] held st.1 i
end
end L2

set_option Elab.async false
set_option linter.all false
set_option maxRecDepth 100000
namespace L2
open PySem PySem.Spec PyProof.Rows
section
variable {prog : Program} {w : World} {K : Type} [DecidableEq K] {knd : HeapKind prog w K} {A : Around} {E : Value → Shared → Prop} {s : Shared}
end
section
variable {X : Cx} {pins : List (Addr × Obj)} {σ : St} {H : Hp} {s : Shared} {a : Addr} {y d : V} {u r : Value} {o : Option V} {A : Around} {E : Value → Shared → Prop}
end
section
variable {X : Cx} {o e f : Expr} {apos cpos : Pos} {td ty tx : TE}
end
end L2

set_option Elab.async false
set_option linter.all false
set_option maxRecDepth 100000
namespace L2
open PySem PySem.Spec PyProof.Rows
section
variable {X : Cx} {pins : List (Addr × Obj)} {σ : St} {H : Hp} {s : Shared} {a : Addr} {y v : V} {u r : Value} {o : Option V} {A : Around} {E : Value → Shared → Prop}
/-- a key and its value go into a tracked dict -/
theorem d_dictSet {H' : Hp} {Q : Unit → Shared → Prop} (hu : A.units < cLine) (I : Inv X pins σ H s) (g : DPut H a y v H') (ry : RelV y u) (rv : RelV v r) (h : ∀ s', Inv X pins σ H' s' → Q () s') :
    wpAny (model X.prog X.w) A (dictSet a u r) Q E s := by
  rcases g with ⟨kvs, k, e, ey, l, eH⟩ | ⟨kvs, k, b, e, ey, eb, l, eH⟩
  · subst ey eH
    obtain ⟨z, hd, vs, rel, dd⟩ := dk_of I.hok e
    have hz : vs.length ≤ sizeLine := by rw [← rel.length]; exact z
    have hl : (putK kvs k v).length ≤ sizeLine := by have := length_putK kvs k v; omega
    refine wpAny_dictSet_pairs (hsz := hz) (kV_is ry) dd fun h' dd' hs => h _ ?_
    have he : ∃ q, h'.get? a = some q := let ⟨q, _, _, hq, _⟩ := dd'; ⟨q, hq⟩
    exact d_write I (by rw [e]; exact True.intro) hs he (dk_new hl hd (rel.put k rv) dd')
  · subst ey eH
    cases (show u = Value.ref b from ry)
    obtain ⟨z, hd, xs, rel, dd⟩ := dt_of I.hok e
    have hz : xs.length ≤ sizeLine := by rw [← Paired.length rel]; exact z
    have hl : (putK kvs k v).length ≤ sizeLine := by have := length_putK kvs k v; omega
    refine wpAny_dictSet_heap (hsz := hz) hu (key_of I.hok eb) dd fun h' dd' hs => h _ ?_
    obtain ⟨q, es, ep, hq, h2, h3, h4, _, h5⟩ := dd'
    refine d_write I (by rw [e]; exact True.intro) hs ⟨q, hq⟩ ⟨hl, hd, _, (rel.put k eb rv).keeps fun c ys ec => ?_, q, es, ep, hq, h2, h3, h4, h5⟩
    rw [upd_ne (ne_of ec e (fun z => nomatch z))]
    exact ec
end
theorem dc_compTurn_list (ke ve target iter : Expr) (ifs : List Expr) (scope : Scope) (pos : Pos) (it : Value) (D : Addr) (env : Env) :
    compTurn (.DictComp ke ve [⟨target, iter, ifs, 0⟩] scope pos) 0 it (.ref D) env = (do
      standAt iter.pos
      match ← pyNext it with
      | none => pure (.done .next)
      | some v =>
        letOwnedTupleGo target it v
        assign target env v
        let mut ok := true
        for c in ifs do
          if ok then ok ← isTrue c env (eval c env)
        if ok then
          (do let kv ← eval ke env; let vv ← holding [kv] (eval ve env); standAt { ke.pos with endLine := ve.pos.endLine, endCol := ve.pos.endCol }; holding [kv, vv] (dictSet D kv vv))
        again (.compLoop (.DictComp ke ve [⟨target, iter, ifs, 0⟩] scope pos) 0 it (.ref D) env)) := by rfl
theorem dc_start {prog : Program} {w : World} {A : Around} {R : Result → Shared → Prop} {s : Shared} {ke ve target iter : Expr} {ifs : List Expr} {rest : List Comprehension} {scope : Scope} {pos : Pos} {it : Value} {D : Addr} {env : Env}
    (h0 : codeAny (model prog w) A (.compLoop (.DictComp ke ve (⟨target, iter, ifs, 0⟩ :: rest) scope pos) 0 it (.ref D) env) R s)
    (h : wpAny (model prog w) A (pyIter it) (fun it' s' => codeAny (model prog w) A (.compLoop (.DictComp ke ve (⟨target, iter, ifs, 0⟩ :: rest) scope pos) 0 it' (.ref D) env) R s')
      (notedBy (model prog w) A env fun x s' => R (.error x) s') s) :
    codeAny (model prog w) A (.compStart (.DictComp ke ve (⟨target, iter, ifs, 0⟩ :: rest) scope pos) 0 it (.ref D) env) R s := by
  refine codeAny_of_tree ?_
  show wpAny _ _ ((compStart (.DictComp ke ve (⟨target, iter, ifs, 0⟩ :: rest) scope pos) 0 it (.ref D) env).onRaise (fun x => do noteFrame x env; standAt theWindowsPlace)) _ _ s
  refine wpAny_notedAt ?_
  unfold compStart
  show wpAny _ _ (ask >>= _) _ _ s
  refine wpAny_bind (wpAny_askSetting (wpAny_ite ?_))
  split
  · first
      | exact wpAny_bind (wpAny_pure (wpAny_pure (And.intro rfl h0)))
      | exact wpAny_pure (And.intro rfl h0)
  · first
      | exact wpAny_bind (wpAny_rule (wpAny_bind (wpAny_standAt (wpAny_bind (wpAny_mono h (fun it' s' h' => wpAny_pure (And.intro rfl h')) fun _ _ x => x)))))
      | (refine wpAny_bind (wpAny_rule ?_); show wpAny _ _ (standAt iter.pos >>= _) _ _ s; exact wpAny_bind (wpAny_standAt (wpAny_bind (wpAny_mono h (fun it' s' h' => wpAny_pure (And.intro rfl h')) fun _ _ x => x))))
theorem eval_DictComp (k v : Expr) (g : Comprehension) (gs : List Comprehension) (scope : Scope) (pos : Pos) (env : Env) :
    eval (.DictComp k v (g :: gs) scope pos) env = comprehension (.DictComp k v (g :: gs) scope pos) scope env (firstIterPos (g :: gs) pos) newDict (firstAsync (g :: gs)) (firstIter (g :: gs) env) := by rfl
/-- the loop of a list comprehension's block, the target of any form (codeAny_compLoop_tests asks a target that no tuple goes to; statement and proof follow it, PyProof/CompMap.lean:41-61, with the step letOwnedTupleGo kept) -/
theorem dc_compLoop_any {prog : Program} {w : World} {A : Around} {R : Result → Shared → Prop} {s : Shared} {ke ve target iter : Expr} {ifs : List Expr} {scope : Scope} {pos : Pos} {it : Value} {D : Addr} {env : Env} (I : Nat → Shared → Prop)
    (turn : ∀ n s, I n s → wpAny (model prog w) A (pyNext it) (fun r s₁ => match r with
      | none => R (.ok .next) s₁
      | some v => wpAny (model prog w) A (letOwnedTupleGo target it v) (fun _ s₁' => wpAny (model prog w) A (assign target env v) (fun _ s₂ =>
          wpAny (model prog w) A (forIn ifs true fun c r => if r = true then do let ok ← isTrue c env (eval c env); pure (ForInStep.yield ok) else pure (ForInStep.yield r)) (fun ok s₃ =>
            if ok = true then wpAny (model prog w) A (eval ke env) (fun x s₄ => wpAny (model prog w) A (eval ve env) (fun y s₅ =>
              wpAny (model prog w) A (dictSet D x y) (fun _ s₆ => ∃ m, m < n ∧ I m s₆) (notedBy (model prog w) A env fun e s' => R (.error e) s') s₅) (notedBy (model prog w) A env fun e s' => R (.error e) s') s₄) (notedBy (model prog w) A env fun e s' => R (.error e) s') s₃
            else ∃ m, m < n ∧ I m s₃) (notedBy (model prog w) A env fun e s' => R (.error e) s') s₂) (notedBy (model prog w) A env fun e s' => R (.error e) s') s₁') (notedBy (model prog w) A env fun e s' => R (.error e) s') s₁) (notedBy (model prog w) A env fun e s' => R (.error e) s') s)
    (n : Nat) (h : I n s) :
    codeAny (model prog w) A (.compLoop (.DictComp ke ve [⟨target, iter, ifs, 0⟩] scope pos) 0 it (.ref D) env) R s := by
  refine codeAny_loop rfl I (fun n s hI => ?_) n h
  show wpAny _ A ((compTurn (.DictComp ke ve [⟨target, iter, ifs, 0⟩] scope pos) 0 it (.ref D) env).onRaise (fun x => do noteFrame x env; theTreesLotGoes x)) _ _ s
  refine wpAny_noted ?_
  rw [dc_compTurn_list]
  refine wpAny_bind (wpAny_standAt (wpAny_bind (wpAny_mono (turn n s hI) (fun r s₁ h₁ => ?_) fun _ _ h' => h')))
  cases r with
  | none => exact wpAny_pure h₁
  | some v =>
    refine wpAny_bind (wpAny_mono h₁ (fun _ s₁' h₁' => ?_) fun _ _ h' => h')
    refine wpAny_bind (wpAny_mono h₁' (fun _ s₂ h₂ => wpAny_bind (wpAny_mono h₂ (fun ok s₃ h₃ => ?_) fun _ _ h' => h')) fun _ _ h' => h')
    cases ok with
    | false => exact wpAny_pure ⟨rfl, h₃⟩
    | true =>
      exact wpAny_bind (wpAny_bind (wpAny_mono h₃ (fun x s₄ h₄ => wpAny_bind (wpAny_holding (wpAny_mono h₄ (fun y s₅ h₅ => wpAny_bind (wpAny_standAt (wpAny_holding (wpAny_mono h₅ (fun _ s₆ h₆ => wpAny_pure ⟨rfl, h₆⟩) fun _ _ h' => h')))) fun _ _ h' => h'))) fun _ _ h' => h'))

section
variable {X : Cx}
end
section
variable {prog : Program} {w : World} {A : Around} {R : Result → Shared → Prop} {s : Shared} {ke ve t0 i0 t1 i1 : Expr} {ifs0 ifs1 : List Expr} {scope : Scope} {pos : Pos} {it : Value} {D : Addr} {env : Env}
end

section
variable {X : Cx}
end
end L2

set_option Elab.async false
set_option linter.all false
set_option maxRecDepth 100000
namespace L2
open PySem PySem.Spec PyProof.Rows
section
variable {X : Cx}
end
end L2

set_option Elab.async false
set_option linter.all false
set_option maxRecDepth 100000
namespace L2
open PySem PySem.Spec PyProof.Rows
/-! tuples whose items are keys that are objects themselves -/
section
variable {prog : Program} {w : World} {K : Type} [DecidableEq K] (kd : HeapKind prog w K)
def ItemsH (hp : Heap) : List K → List Value → Prop := Paired fun k v => ∃ b, v = .ref b ∧ kd.is hp k b
def NestAt (hp : Heap) (ks : List K) (a : Addr) : Prop := ∃ ob its c, hp.get? a = some ob ∧ ob.cls = .type "tuple" ∧ ob.data = .seq its c ∧ ItemsH kd hp ks its.toList
def nestHash (ks : List K) : Int := reduceHash (Builtin.Tuple.tupleHashOf (ks.map kd.hash))
def nestDraws (ks : List K) : Nat := (ks.map kd.draws).sum + 1
variable {kd}
theorem itemsH_inj {hp : Heap} : ∀ {xs ys : List K} {vs : List Value}, ItemsH kd hp xs vs → ItemsH kd hp ys vs → xs = ys
  | _, _, _, .nil, .nil => rfl
  | _, _, _, .cons ⟨b, e1, p1⟩ r1, .cons ⟨b', e2, p2⟩ r2 => by
    rw [e1] at e2
    cases e2
    rw [kd.inj p1 p2, itemsH_inj r1 r2]
theorem nest_inj {hp : Heap} {a : Addr} {x y : List K} (p : NestAt kd hp x a) (q : NestAt kd hp y a) : x = y := by
  obtain ⟨o1, i1, c1, g1, _, d1, r1⟩ := p
  obtain ⟨o2, i2, c2, g2, _, d2, r2⟩ := q
  rw [g1] at g2
  cases g2
  rw [d1] at d2
  cases d2
  exact itemsH_inj r1 r2
theorem nest_type {s : Shared} {ks : List K} {a : Addr} (p : NestAt kd s.heap ks a) : s.TypeIs (.ref a) "tuple" := let ⟨ob, _, _, g, c, _⟩ := p; ⟨ob, g, c⟩
theorem nest_keeps {h h' : Heap} {ks : List K} {a d : Addr} {ob : Obj} {es ep} (p : NestAt kd h ks a) (hd : h.get? d = some ob) (hk : ob.data = .dict es ep) (sb : Heap.SameBut d h h') : NestAt kd h' ks a := by
  obtain ⟨o1, its, c, g1, c1, d1, r1⟩ := p
  have ne : a ≠ d := fun e => by
    rw [e, hd] at g1
    cases g1
    rw [hk] at d1
    cases d1
  exact ⟨o1, its, c, (sb.2 a ne).trans g1, c1, d1, Paired.mapP r1 fun k v ⟨b, e, q⟩ => ⟨b, e, kd.keeps q hd hk sb⟩⟩
variable {A : Around} {E : Value → Shared → Prop} {s : Shared}
theorem nest_hash (mono : kd.room A.in1) {ks : List K} {a : Addr} {Q : Int → Shared → Prop} (hu : A.units < cLine) (p : NestAt kd s.heap ks a) (h : Q (nestHash kd ks) { s with toks := s.toks + nestDraws kd ks }) :
    wpAny (model prog w) A (pyHash (.ref a)) Q E s := by
  have tt := nest_type p
  obtain ⟨ob, its, c, g1, c1, d1, r1⟩ := p
  unfold pyHash
  first | unfold pyHashByItsType | skip
  first | refine wpAny_bind (wpAny_cRoomFor_or (.inr hu) ?_) | skip
  refine wpAny_bind (wpAny_specialOf tt F.slot_tuple_hash.lookup ?_)
  show wpAny _ _ (if (some (Value.builtin "tuple.__hash__") == some .none) = true then _ else _) Q E s
  rw [if_neg (by rw [beq_builtin_none]; simp)]
  refine wpAny_bind (wpAny_specialOf tt F.slot_tuple_hash.lookup ?_)
  show wpAny _ _ (callSpecialIfBoundUnlessNone? (.ref a) (Str.ofString "__hash__") _ >>= _) Q E s
  refine wpAny_bind (wpAny_callSpecialIfBoundUnlessNone?_slot tt F.slot_tuple_hash (wpAny_call_entry F.slot_tuple_hash tt F.entry_tuple_hash ?_ (F.args_tuple_hash_1 _)))
  show wpAny _ _ (Builtin.Tuple.tupleItemsOf (Value.ref a) >>= _) _ _ s
  refine wpAny_bind (wpAny_tupleItemsOf g1 d1 (wpAny_bind ?_))
  rw [← Array.forIn_toList]
  refine wpAny_forIn_list _ (fun rest (b : Array Int) s' => ∃ old left, ks = old ++ left ∧ ItemsH kd s.heap left rest ∧ b.toList = old.map kd.hash ∧ s' = { s with toks := s.toks + (old.map kd.draws).sum }) _ ?_ ?_ _ _ ⟨[], ks, rfl, r1, rfl, rfl⟩
  · rintro x rest b s' ⟨old, left, rfl, hl, hb, rfl⟩
    cases hl with
    | @cons k _ left' _ h1 hl' =>
      obtain ⟨ad, rfl, hk⟩ := h1
      refine wpAny_bind (kd.pyHash (s := { s with toks := s.toks + (old.map kd.draws).sum }) mono hk ?_)
      first
        | exact wpAny_pure ⟨old ++ [k], left', by simp, hl', by simp [hb], by simp [Nat.add_assoc]⟩
        | exact wpAny_bind (wpAny_pure (wpAny_pure ⟨old ++ [k], left', by simp, hl', by simp [hb], by simp [Nat.add_assoc]⟩))
  · rintro b s' ⟨old, left, rfl, hl, hb, rfl⟩
    cases hl
    rw [List.append_nil] at h
    show wpAny _ _ (retInt (Builtin.Tuple.tupleHashOf b.toList)) _ _ { s with toks := s.toks + (old.map kd.draws).sum }
    rw [hb]
    refine wpAny_ret_mkInt ?_
    show wpAny _ _ (if (decide (-(2 : Int) ^ 63 ≤ Builtin.Tuple.tupleHashOf (old.map kd.hash)) && decide (Builtin.Tuple.tupleHashOf (old.map kd.hash) < 2 ^ 63)) = true then _ else _) Q E _
    unfold nestHash nestDraws reduceHash at h
    by_cases hr : (decide (-(2 : Int) ^ 63 ≤ Builtin.Tuple.tupleHashOf (old.map kd.hash)) && decide (Builtin.Tuple.tupleHashOf (old.map kd.hash) < 2 ^ 63)) = true
    · rw [if_pos hr] at h ⊢
      exact wpAny_pure (by simpa [Nat.add_assoc] using h)
    · rw [if_neg hr] at h ⊢
      exact wpAny_bind (wpAny_rule (wpAny_pure (by simpa [Nat.add_assoc] using h)))
end
section
variable {prog : Program} {w : World} {K : Type} [DecidableEq K] {kd : HeapKind prog w K} {A : Around} {E : Value → Shared → Prop} {s : Shared}
theorem nest_tree (mono : kd.room A) {x y : List K} {a b : Addr} {P : Fin → Shared → Prop} (p : NestAt kd s.heap x a) (q : NestAt kd s.heap y b) (h : P (.done (.ret (.bool (decide (x = y))))) s) :
    wpAny (model prog w) A (Builtin.«tuple.__eq__» ⟨[.ref a, .ref b], []⟩) P E s := by
  have tb := nest_type q
  obtain ⟨o1, i1, c1, g1, _, d1, r1⟩ := p
  obtain ⟨o2, i2, c2, g2, _, d2, r2⟩ := q
  show wpAny _ _ (isInstance (.ref b) (.type "tuple") >>= _) _ E s
  refine wpAny_bind (wpAny_isInstance tb isSubtype_tuple_tuple ?_)
  simp only [Bool.not_true, Bool.false_eq_true, if_false]
  refine wpAny_bind (wpAny_tupleItemsOf g1 d1 (wpAny_bind (wpAny_tupleItemsOf g2 d2 (wpAny_bind ?_))))
  refine wpAny_forIn_list _ (fun rest r s' => r.1 = none ∧ s' = s ∧ ∃ x1 y1 us vs, rest = List.zip us vs ∧ ItemsH kd s.heap x1 us ∧ ItemsH kd s.heap y1 vs ∧ decide (x1 = y1) = decide (x = y) ∧ (us.length == vs.length) = (i1.size == i2.size)) _ ?_ ?_ _ _ ⟨rfl, rfl, x, y, i1.toList, i2.toList, rfl, r1, r2, rfl, by simp⟩
  · rintro ⟨u, v⟩ rest r s' ⟨hr, rfl, x1, y1, us, vs, hz, hx, hy, hdec, hlen⟩
    cases hx with
    | nil => simp at hz
    | @cons k1 u' x2 us2 h1 hx2 =>
      cases hy with
      | nil => simp at hz
      | @cons k2 v' y2 vs2 h2 hy2 =>
        simp only [List.zip_cons_cons, List.cons.injEq, Prod.mk.injEq] at hz
        obtain ⟨⟨rfl, rfl⟩, rfl⟩ := hz
        obtain ⟨b1, rfl, h1⟩ := h1
        obtain ⟨b2, rfl, h2⟩ := h2
        refine wpAny_bind (kd.eqBool (x := k1) (y := k2) mono h1 h2 ?_)
        by_cases hk : k1 = k2
        · subst hk
          rw [decide_eq_true rfl]
          simp only [Bool.not_true, Bool.false_eq_true, if_false]
          refine wpAny_pure ⟨rfl, rfl, x2, y2, us2, vs2, rfl, hx2, hy2, ?_, by simpa using hlen⟩
          rw [← hdec]
          by_cases e : x2 = y2 <;> simp [e]
        · rw [decide_eq_false hk]
          simp only [Bool.not_false, if_true]
          have hf : decide (x = y) = false := by rw [← hdec]; simp [hk]
          rw [hf] at h
          exact wpAny_bind (wpAny_pure (wpAny_pure (wpAny_pure h)))
  · rintro ⟨e1, e2⟩ s' ⟨hr, rfl, x1, y1, us, vs, hz, hx, hy, hdec, hlen⟩
    simp only at hr
    subst hr
    refine wpAny_pure ?_
    have fin : (i1.size == i2.size) = decide (x = y) := by
      rw [← hdec, ← hlen]
      cases hx with
      | nil => cases hy <;> simp
      | cons _ _ =>
        cases hy with
        | nil => simp
        | cons _ _ => simp at hz
    show P (.done (.ret (.bool (i1.size == i2.size)))) s'
    rw [fin]
    exact h
theorem nest_eq (mono : kd.room A.in1) {x y : List K} {a b : Addr} {Q : Bool → Shared → Prop} (hu : A.units < cLine) (p : NestAt kd s.heap x a) (q : NestAt kd s.heap y b) (h : Q (decide (x = y)) s) :
    wpAny (model prog w) A (PySem.eqBool (.ref a) (.ref b)) Q E s := by
  unfold PySem.eqBool
  try with_reducible refine wpAny_holding ?_
  show wpAny _ _ (if (Value.ref a == Value.ref b) = true then _ else _) Q E s
  by_cases ab : (Value.ref a == Value.ref b) = true
  · rw [if_pos ab]
    have e : a = b := by have := eq_of_beq ab; injection this
    subst e
    obtain rfl := nest_inj p q
    exact wpAny_bind (wpAny_rule (wpAny_pure (by simpa using h)))
  · rw [if_neg ab]
    exact wpAny_bind (wpAny_richCompare_same_room (op := .Eq) (nest_type p) (nest_type q) F.slot_tuple_eq
      (wpAny_call_entry F.slot_tuple_eq (nest_type p) F.entry_tuple_eq (nest_tree mono p q ⟨_, rfl, (fun e => nomatch e), wpAny_truthy_bool h⟩) (F.args_tuple_eq_2 _ _)) hu)
end
section
variable {prog : Program} {w : World} {A : Around} {E : Value → Shared → Prop} {s : Shared}
theorem flat_quiet {n : Nat} {ks : List Key} {a : Addr} {Q : Bool → Shared → Prop} (p : IsTupleKey (mixKind prog w) s.heap ks a) (h : Q true s) : wpAny (model prog w) A (eqIsQuiet (n + 1) (.ref a)) Q E s := by
  have tt := p.typeIs
  obtain ⟨ob, its, c, g1, _, d1, r1⟩ := p
  unfold eqIsQuiet
  refine wpAny_bind (wpAny_specialOf tt F.slot_tuple_eq.lookup ?_)
  show wpAny _ _ (isInstance (.ref a) (.type "tuple") >>= _) _ E s
  refine wpAny_bind (wpAny_isInstance tt isSubtype_tuple_tuple ?_)
  simp only [Bool.not_true, Bool.false_eq_true, if_false]
  refine wpAny_bind (wpAny_seqItems g1 d1 (wpAny_bind ?_))
  show wpAny _ _ (forIn its _ _) _ _ s
  rw [← Array.forIn_toList]
  refine wpAny_forIn_list _ (fun rest r s' => r.1 = none ∧ s' = s ∧ ∀ v ∈ rest, carriedByValue v = true) _ ?_ ?_ _ _ ⟨rfl, rfl, r1.byValue⟩
  · rintro v rest r s' ⟨hr, rfl, hall⟩
    rw [eqIsQuiet_byValue _ (hall v List.mem_cons_self)]
    refine wpAny_bind (wpAny_pure ?_)
    simp only [Bool.not_true, Bool.false_eq_true, if_false]
    exact wpAny_pure ⟨rfl, rfl, fun u m => hall u (List.mem_cons_of_mem _ m)⟩
  · rintro ⟨e1, e2⟩ s' ⟨hr, rfl, _⟩
    simp only at hr
    subst hr
    exact wpAny_pure h
theorem nest_quiet {ks : List (List Key)} {a : Addr} {Q : Bool → Shared → Prop} (p : NestAt (tupleKind (mixKind prog w)) s.heap ks a) (h : Q true s) : wpAny (model prog w) A (eqIsQuiet 8 (.ref a)) Q E s := by
  have tt := nest_type p
  obtain ⟨ob, its, c, g1, _, d1, r1⟩ := p
  unfold eqIsQuiet
  refine wpAny_bind (wpAny_specialOf tt F.slot_tuple_eq.lookup ?_)
  show wpAny _ _ (isInstance (.ref a) (.type "tuple") >>= _) _ E s
  refine wpAny_bind (wpAny_isInstance tt isSubtype_tuple_tuple ?_)
  simp only [Bool.not_true, Bool.false_eq_true, if_false]
  refine wpAny_bind (wpAny_seqItems g1 d1 (wpAny_bind ?_))
  show wpAny _ _ (forIn its _ _) _ _ s
  rw [← Array.forIn_toList]
  refine wpAny_forIn_list _ (fun rest r s' => r.1 = none ∧ s' = s ∧ ∃ left, ItemsH (tupleKind (mixKind prog w)) s.heap left rest) _ ?_ ?_ _ _ ⟨rfl, rfl, ks, r1⟩
  · rintro v rest r s' ⟨hr, rfl, left, hall⟩
    cases hall with
    | @cons k _ left' _ h1 hl' =>
      obtain ⟨ad, rfl, hk⟩ := h1
      refine wpAny_bind (flat_quiet (n := 6) hk ?_)
      simp only [Bool.not_true, Bool.false_eq_true, if_false]
      exact wpAny_pure ⟨rfl, rfl, left', hl'⟩
  · rintro ⟨e1, e2⟩ s' ⟨hr, rfl, _⟩
    simp only at hr
    subst hr
    exact wpAny_pure h
end
/-- keys that are tuples of tuples of ints and texts -/
def nestKind (prog : Program) (w : World) : HeapKind prog w (List (List Key)) where
  is := NestAt (tupleKind (mixKind prog w))
  hash := nestHash (tupleKind (mixKind prog w))
  draws := nestDraws (tupleKind (mixKind prog w))
  room := fun A => A.units + 1 < cLine
  inj := fun p q => nest_inj p q
  keeps := fun p hd hk sb => nest_keeps p hd hk sb
  pyHash := fun hu p h => nest_hash (kd := tupleKind (mixKind prog w)) (tupleKind_room_in1 hu) (Nat.lt_of_succ_lt hu) p h
  eqBool := fun hu p q h => nest_eq (kd := tupleKind (mixKind prog w)) (tupleKind_room_in1 hu) (Nat.lt_of_succ_lt hu) p q h
  quiet := fun p h => nest_quiet p h
end L2

set_option Elab.async false
set_option linter.all false
set_option maxRecDepth 100000
namespace L2
open PySem PySem.Spec PyProof.Rows
/-! held pairs: a dict whose keys are pairs of items -/
def nestPhi (P : Program) (w : World) (a : Addr) (xs : List (List (List Key) × Addr)) : Heap → Prop := fun h => (a == sysModules) = false ∧ xs.length ≤ sizeLine ∧ ∃ o es ep, h.get? a = some o ∧ o.ExactDict ∧ o.data = .dict es ep ∧ es.toList = (xs.map fun x => (x.1, x.2, Value.bool true)).map (entryOfKey (nestKind P w)) ∧ (xs.map (·.1)).Nodup
def NestO (P : Program) (w : World) (a : Addr) (xs : List (List (List Key) × Addr)) : HO := .ext (nestPhi P w a xs)
/-- a tuple of tuples of ints and texts as it lies -/
def TupN (H : Hp) (b : Addr) (kk : List (List Key)) : Prop := ∃ bs : List Addr, H b = some (.tup (bs.map V.ref)) ∧ Paired (fun c k => H c = some (.tup (k.map kV))) bs kk
theorem TupN.tu {H H' : Hp} {b : Addr} {kk : List (List Key)} (h : TupN H b kk) (t : Tu H H') : TupN H' b kk := let ⟨bs, h1, h2⟩ := h; ⟨bs, t _ _ h1, Paired.mapP h2 fun c k q => t _ _ q⟩
structure KpH (P : Program) (w : World) (H : Hp) (a : Addr) (held : Held) : Prop where
  ex : ∃ xs : List (List (List Key) × Addr), (H a = some (NestO P w a xs) ∨ (xs = [] ∧ H a = some (.dT []))) ∧ (∀ x ∈ xs, TupN H x.2 x.1) ∧ ∀ p q : Itm, (p, q) ∈ held ↔ [kI p, kI q] ∈ xs.map (·.1)
theorem KpH.keep {P : Program} {w : World} {H H' : Hp} {a : Addr} {held : Held} (h : KpH P w H a held) (e : ∀ u, H a = some u → H' a = some u) (t : Tu H H') : KpH P w H' a held := by
  obtain ⟨xs, h1, h2, h3⟩ := h.ex
  refine ⟨xs, ?_, fun x hx => (h2 x hx).tu t, h3⟩
  rcases h1 with h1 | ⟨q, h1⟩
  · exact .inl (e _ h1)
  · exact .inr ⟨q, e _ h1⟩
theorem KpH.nil {P : Program} {w : World} {H : Hp} {a : Addr} (h : H a = some (.dT [])) : KpH P w H a [] := ⟨[], .inr ⟨rfl, h⟩, fun x hx => (by cases hx), fun p q => ⟨fun z => (by cases z), fun z => (by cases z)⟩⟩
section
variable {X : Cx} {i o : Expr} {ty td : TE}
end
end L2

set_option Elab.async false
set_option linter.all false
set_option maxRecDepth 100000
namespace L2
open PySem PySem.Spec PyProof.Rows
section
variable {X : Cx}
end
/-! dicts of pairs of items -/
end L2

set_option Elab.async false
set_option linter.all false
set_option maxRecDepth 100000
namespace L2
open PySem PySem.Spec PyProof.Rows
/-! pairs of items in lists -/
def PairAt (H : Hp) (t : Addr) (pq : List Int × List Int) : Prop := ∃ l r : Addr, H t = some (.tup [.ref l, .ref r]) ∧ RowH H l pq.1 ∧ RowH H r pq.2
theorem PairAt.tu {H H' : Hp} {t : Addr} {pq : List Int × List Int} (h : PairAt H t pq) (s : Tu H H') : PairAt H' t pq := let ⟨l, r, h1, h2, h3⟩ := h; ⟨l, r, s _ _ h1, s _ _ h2, s _ _ h3⟩
def PrsH (H : Hp) (pa : List Addr) (prs : List (List Int × List Int)) : Prop := Paired (PairAt H) pa prs
theorem PrsH.tu {H H' : Hp} {pa : List Addr} {prs : List (List Int × List Int)} (h : PrsH H pa prs) (s : Tu H H') : PrsH H' pa prs := Paired.mapP h fun _ _ q => q.tu s
section
variable {X : Cx}
end
end L2

set_option Elab.async false
set_option linter.all false
set_option maxRecDepth 100000
namespace L2
open PySem PySem.Spec PyProof.Rows
section
variable {K : PySem.W.Frag}
/-- a def of three arguments, the last one with a default -/
theorem FunD.c3 {x qual : Str} {st : Stmt} {f : Addr} {fd : FuncData} {its : Array Value} {a b c : Str} (F : FunD K x qual st f fd its)
    (h : ∀ (dt : Addr) (kV doc pm : Value) (an : Option Addr) (cdv ct : Value) (u v w : Value), ∃ k, bindArgs (PySem.W.fnOf x qual (defArgs st) (defBody st) (defScope st) (.ref dt) kV doc pm an cdv ct) ⟨[u, v, w], []⟩ = (seqItems? (.ref dt) >>= k) ∧ k (some its) = pure [(a, u), (b, v), (c, w)]) : Binds K fd [a, b, c] [] := fun s us X hl => by
  obtain ⟨oc, od, kV, doc, pm, an, cdv, ct, osl, dt, ot, nt, rfl, lk, hcd, q, qd⟩ := F.ex
  match us, hl with
  | [u, v, w], _ =>
    obtain ⟨k, h1, h2⟩ := h dt kV doc pm an cdv ct u v w
    exact PySem.W.binds_K X rfl q qd h1 h2
theorem FunD.c2 {x qual : Str} {st : Stmt} {f : Addr} {fd : FuncData} {d : Value} {a b c : Str} (F : FunD K x qual st f fd #[d])
    (h : ∀ (dt : Addr) (kV doc pm : Value) (an : Option Addr) (cdv ct : Value) (u v : Value), ∃ k, bindArgs (PySem.W.fnOf x qual (defArgs st) (defBody st) (defScope st) (.ref dt) kV doc pm an cdv ct) ⟨[u, v], []⟩ = (seqItems? (.ref dt) >>= k) ∧ k (some #[d]) = pure [(a, u), (b, v), (c, d)]) : Binds K fd [a, b, c] [d] := fun s us X hl => by
  obtain ⟨oc, od, kV, doc, pm, an, cdv, ct, osl, dt, ot, nt, rfl, lk, hcd, q, qd⟩ := F.ex
  have hl' : us.length = 2 := by simpa using hl
  match us, hl' with
  | [u, v], _ =>
    obtain ⟨k, h1, h2⟩ := h dt kV doc pm an cdv ct u v
    exact PySem.W.binds_K X rfl q qd h1 h2
end
end L2

set_option Elab.async false
set_option linter.all false
set_option maxRecDepth 100000
namespace L2
open PySem PySem.Spec PyProof.Rows
/-- no code at a place yet -/
def NoAt (P : Addr) (lp : Pos) (H : Hp) : Prop := ∃ ps : Array Value, H P = some (.tbl ps) ∧ TriplesOk ps.toList ∧ codeAmong lp ps.toList = none
theorem NoAt.tab {n0 : Nat} {P : Addr} {lp : Pos} {qual : Str} {H : Hp} (h : NoAt P lp H) : Tab n0 P lp qual H := let ⟨ps, h1, h2, h3⟩ := h; ⟨ps, h1, h2, .inl h3⟩
section
variable {X : Cx} {pins : List (Addr × Obj)} {σ : St} {H : Hp} {s : Shared} {c P : Addr} {params : Arguments} {body : Expr} {scope : Scope} {lpos : Pos} {clos : List (Str × Addr)} {Q : Value → Shared → Prop}
end
section
variable {X : Cx} {pins : List (Addr × Obj)} {σ : St} {H : Hp} {s : Shared}
end
end L2

set_option Elab.async false
set_option linter.all false
set_option maxRecDepth 100000
namespace L2
open PySem PySem.Spec PyProof.Rows
/-- a lambda that is tracked -/
def lamO (lam : Addr) (o : Obj) : HO := .ext fun h => h.get? lam = some o
/-- tracked at the entry or made since -/
def Trk (X : Cx) (c' : Addr) : Prop := X.H_0 c' ≠ none ∨ X.s_0.heap.objs.size ≤ c'
/-- the table at P, the lambdas' places among lps -/
def Tabs (T : Addr → Prop) (P : Addr) (lps : List Pos) (qual : Str) (H : Hp) : Prop := ∃ ps : Array Value, H P = some (.tbl ps) ∧ TriplesOk ps.toList ∧ ∀ lp ∈ lps, codeAmong lp ps.toList = none ∨ ∃ c', codeAmong lp ps.toList = some (.ref c') ∧ H c' = some (codeO c' qual) ∧ T c'
section
variable {X : Cx} {pins : List (Addr × Obj)} {σ : St} {H : Hp} {s : Shared} {c P : Addr} {params : Arguments} {body : Expr} {scope : Scope} {lpos : Pos} {clos : List (Str × Addr)}
def kob (X : Cx) (params : Arguments) (body : Expr) (scope : Scope) (clos : List (Str × Addr)) (c' : Addr) (ctv : Value) : Obj := PySem.W.kla_obj "<lambda>" (X.env.qual ++ "<lambda>") params body scope clos ((X.mg "__name__").getD .none) c' ctv
/-- a written lambda -/
structure LamE where
  params : Arguments
  body : Expr
  scope : Scope
  lpos : Pos
def LamE.e (b : LamE) : Expr := .Lambda b.params b.body b.scope b.lpos
def LamE.of : Expr → List LamE
  | .Lambda p b s q => [⟨p, b, s, q⟩]
  | _ => []
/-- the lambda b, made, lies at lam -/
def Lamb (X : Cx) (clos : List (Str × Addr)) (H : Hp) (lam : Addr) (b : LamE) : Prop := ∃ c' ctv, H lam = some (lamO lam (kob X b.params b.body b.scope clos c' ctv)) ∧ H c' = some (codeO c' (X.env.qual ++ "<lambda>")) ∧ Trk X c' ∧ X.s_0.heap.objs.size ≤ lam ∧ lam ≠ c'
theorem Lamb.keep {H1 : Hp} {lam : Addr} {b : LamE} {ps : Array Value} (h : Lamb X clos H lam b) (s : SameP P H H1) (hP : H P = some (.tbl ps)) : Lamb X clos H1 lam b := by
  obtain ⟨c', ctv, h1, h2, h3, h4, h5⟩ := h
  exact ⟨c', ctv, s _ _ (fun q => by rw [q, hP] at h1; unfold lamO at h1; cases h1) h1, s _ _ (fun q => by rw [q, hP] at h2; unfold codeO at h2; cases h2) h2, h3, h4, h5⟩
end
section
variable {X : Cx} {pins : List (Addr × Obj)} {σ : St} {H : Hp} {s : Shared}
end
section
variable {P : Program} {w : World} {K : PySem.W.Frag} {mg : Str → Option Value} {base : Heap}
theorem FunD.okX {CX : CXT} {x qual : Str} {st : Stmt} {f : Addr} {fd : FuncData} {its : Array Value} {N ps : List Str} {k : Nat} {sp : Sp} (F : FunD K x qual st f fd its) (S : FnScope N ps (defScope st)) (len : ∀ vs H Q E, sp vs H Q E → vs.length = ps.length)
    (hbody : ∀ (cdv : Value) (A : Around) (outer : List Env) (s : Shared) (H : Hp) (vs : List V) (Q : VK) (E : XK), Room k (A.deeper (envOfC qual (defScope st) s.heap.objs.size f cdv)) → sp vs H Q E →
      ∃ t, PSs (cxOf CX P w K mg base N qual (defScope st) f cdv A outer s H E) (defBody st) t ∧ t { nx := fun _ H' => Q .non H', rt := Q } (start N vs) H) : FnOk P w K mg base CX (k + 1) f fd ps sp := by
  obtain ⟨oc, od, kV, doc, pm, an, cdv, ct, osl, dt, ot, nt, rfl, lk, hcd, _, _⟩ := F.ex
  exact fn_of lk hcd S len fun A outer s H vs Q E hr hsp => hbody cdv A outer s H vs Q E hr hsp
end
theorem Tabs.same {T T' : Addr → Prop} {P : Addr} {lps : List Pos} {qual : Str} {H H' : Hp} (h : Tabs T P lps qual H) (s : Same H H') (k : ∀ c, H c ≠ none → T c → T' c) : Tabs T' P lps qual H' := by
  obtain ⟨ps, h1, h2, h3⟩ := h
  refine ⟨ps, s _ _ h1, h2, fun lp hm => ?_⟩
  rcases h3 lp hm with z | ⟨c', z1, z2, z3⟩
  · exact .inl z
  · exact .inr ⟨c', z1, s _ _ z2, k c' (by rw [z2]; exact Option.some_ne_none _) z3⟩
end L2

set_option Elab.async false
set_option linter.all false
set_option maxRecDepth 100000
namespace L2
open PySem PySem.Spec PyProof.Rows
/-! boards: states, deeds, what a deed makes of a state -/
abbrev Arw := Int × Str × Str × Int × Int
abbrev Syg := Int × Str × Str × Int
structure BS where
  ns : List Str
  ar : List Arw
  sy : List Syg
  ga : Int
  gs : Int
  hv : V
inductive Kin | badName | taken | full | tied | badLeast | badWeight | same | badDeed | clash | noBox | noArrow | noSaying
  deriving DecidableEq
def Kin.name : Kin → Str
  | .badName => "BadName" | .taken => "Taken" | .full => "Full" | .tied => "Tied" | .badLeast => "BadLeast" | .badWeight => "BadWeight" | .same => "Same" | .badDeed => "BadDeed" | .clash => "Clash" | .noBox => "NoBox" | .noArrow => "NoArrow" | .noSaying => "NoSaying"
inductive Dd
  | box (x : Str) | drop (x : Str) | arrow (x y : Str) (l w : Int) | cut (n : Int) | alter (n l w : Int) | say (x y : Str) (l : Int) | unsay (n : Int) | free
def Dd.word : Dd → Str
  | .box _ => "box" | .drop _ => "drop" | .arrow .. => "arrow" | .cut _ => "cut" | .alter .. => "alter" | .say .. => "say" | .unsay _ => "unsay" | .free => "free"
def Dd.things : Dd → List V
  | .box x => [.str x] | .drop x => [.str x] | .arrow x y l w => [.str x, .str y, .int l, .int w] | .cut n => [.int n] | .alter n l w => [.int n, .int l, .int w] | .say x y l => [.str x, .str y, .int l] | .unsay n => [.int n] | .free => []
def Dd.vs (d : Dd) : List V := .str d.word :: d.things
def arV : Arw → List V := fun (n, x, y, l, w) => [.int n, .str x, .str y, .int l, .int w]
def syV : Syg → List V := fun (n, x, y, l) => [.int n, .str x, .str y, .int l]
def okL (l : Int) : Bool := decide (1 ≤ l) && decide (l ≤ 3)
def okW (w : Int) : Bool := decide (1 ≤ w) && decide (w ≤ 9)
def okS (l : Int) : Bool := decide (-9 ≤ l) && decide (l ≤ 9)
def needLW (l w : Int) {α : Type} (r : Sum Kin α) : Sum Kin α := if okL l = false then .inl .badLeast else if okW w = false then .inl .badWeight else r
def act (S : BS) : Dd → Sum Kin (BS × V)
  | .box x => if nameB x = false then .inl .badName else if decide (x ∈ S.ns) = true then .inl .taken else if 40 ≤ S.ns.length then .inl .full else .inr ({ S with ns := S.ns ++ [x] }, .non)
  | .drop x => if decide (x ∈ S.ns) = false then .inl .noBox else if (S.ar.any fun a => a.2.1 == x || a.2.2.1 == x) || (S.sy.any fun a => a.2.1 == x || a.2.2.1 == x) then .inl .tied else .inr ({ S with ns := S.ns.filter fun z => decide (z ≠ x) }, .non)
  | .arrow x y l w => if decide (x ∈ S.ns) = false then .inl .noBox else if decide (y ∈ S.ns) = false then .inl .noBox else needLW l w (if 80 ≤ S.ar.length then .inl .full else .inr ({ S with ar := S.ar ++ [(S.ga + 1, x, y, l, w)], ga := S.ga + 1 }, .int (S.ga + 1)))
  | .cut n => if decide (n ∈ S.ar.map (·.1)) = false then .inl .noArrow else .inr ({ S with ar := S.ar.filter fun a => decide (a.1 ≠ n) }, .non)
  | .alter n l w => if decide (n ∈ S.ar.map (·.1)) = false then .inl .noArrow else needLW l w (.inr ({ S with ar := S.ar.map fun a => if a.1 = n then (a.1, a.2.1, a.2.2.1, l, w) else a }, .non))
  | .say x y l => if decide (x ∈ S.ns) = false then .inl .noBox else if decide (y ∈ S.ns) = false then .inl .noBox else if decide (x = y) = true then .inl .same else if okS l = false then .inl .badLeast else if 20 ≤ S.sy.length then .inl .full else .inr ({ S with sy := S.sy ++ [(S.gs + 1, x, y, l)], gs := S.gs + 1 }, .int (S.gs + 1))
  | .unsay n => if decide (n ∈ S.sy.map (·.1)) = false then .inl .noSaying else .inr ({ S with sy := S.sy.filter fun a => decide (a.1 ≠ n) }, .non)
  | .free => .inr ({ S with hv := .non }, .non)
structure BS.Ok (S : BS) : Prop where
  n : S.ns.length ≤ 40
  a : S.ar.length ≤ 80
  s : S.sy.length ≤ 20
/-- a tuple that stands: in the heap, or in the text's top -/
def TpT (K : PySem.W.Frag) (H : Hp) (a : Addr) (xs : List V) : Prop :=
  H a = some (.tup xs) ∨ ∃ (o : Obj) (its : Array Value) (n : Nat), K.lookup a = some o ∧ o.cls = .type "tuple" ∧ o.data = .seq its n ∧ its.size ≤ sizeLine ∧ Vals xs its.toList
theorem TpT.at {K : PySem.W.Frag} {H : Hp} {a : Addr} {xs : List V} (h : TpT K H a xs) : SqT K H a xs := h.imp .inl id
theorem TpT.tu {K : PySem.W.Frag} {H H' : Hp} {a : Addr} {xs : List V} (h : TpT K H a xs) (t : Tu H H') : TpT K H' a xs := h.imp (t a xs) id
theorem TpT.of {K : PySem.W.Frag} {H : Hp} {a : Addr} {xs : List V} (h : H a = some (.tup xs)) : TpT K H a xs := .inl h
/-- a tuple of tuples -/
def TpTs (K : PySem.W.Frag) (H : Hp) (a : Addr) (rows : List (List V)) : Prop := ∃ qs : List Addr, TpT K H a (qs.map V.ref) ∧ Paired (fun q r => TpT K H q r) qs rows
theorem TpTs.tu {K : PySem.W.Frag} {H H' : Hp} {a : Addr} {rows : List (List V)} (h : TpTs K H a rows) (t : Tu H H') : TpTs K H' a rows := let ⟨qs, h1, h2⟩ := h; ⟨qs, h1.tu t, Paired.mapP h2 fun _ _ z => z.tu t⟩
structure StH (K : PySem.W.Frag) (H : Hp) (p : Addr) (S : BS) (n a s g : Addr) : Prop where
  t : TpT K H p [.ref n, .ref a, .ref s, .ref g, S.hv]
  n : TpT K H n (S.ns.map V.str)
  a : TpTs K H a (S.ar.map arV)
  s : TpTs K H s (S.sy.map syV)
  g : TpT K H g [.int S.ga, .int S.gs]
theorem StH.tu {K : PySem.W.Frag} {H H' : Hp} {p n a s g : Addr} {S : BS} (h : StH K H p S n a s g) (t : Tu H H') : StH K H' p S n a s g := ⟨h.t.tu t, h.n.tu t, h.a.tu t, h.s.tu t, h.g.tu t⟩
/-- what an action promises: the classes of the refusals stand at ca -/
def spAct (ca : Kin → Addr) (K : PySem.W.Frag) (d : Dd) : Sp := fun vs H Q E => ∃ (p n a s g : Addr) (S : BS), vs = .ref p :: d.things ∧ StH K H p S n a s g ∧ S.Ok ∧
  match act S d with
  | .inl k => ∀ H', Same H H' → E (.ref (ca k)) none H'
  | .inr (S', r) => ∀ q p' n' a' s' g' H', Same H H' → H' q = some (.tup [.ref p', r]) → StH K H' p' S' n' a' s' g' → S'.Ok → Q (.ref q) H'
def spDone (ca : Kin → Addr) (K : PySem.W.Frag) (d : Dd) : Sp := fun vs H Q E => ∃ (p q n a s g : Addr) (S : BS), vs = [.ref p, .ref q] ∧ StH K H p S n a s g ∧ S.Ok ∧ TpT K H q d.vs ∧
  match act S d with
  | .inl k => ∀ H', Same H H' → E (.ref (ca k)) none H'
  | .inr (S', r) => ∀ q p' n' a' s' g' H', Same H H' → H' q = some (.tup [.ref p', r]) → StH K H' p' S' n' a' s' g' → S'.Ok → Q (.ref q) H'
theorem act_ok {S S' : BS} {d : Dd} {r : V} (o : S.Ok) (h : act S d = .inr (S', r)) : S'.Ok := by
  obtain ⟨o1, o2, o3⟩ := o
  have fl : ∀ {α : Type} (p : α → Bool) (l : List α), (l.filter p).length ≤ l.length := fun p l => List.length_filter_le p l
  cases d <;> simp only [act, needLW] at h <;> (repeat' split at h) <;> cases h <;> refine ⟨?_, ?_, ?_⟩ <;> simp only [List.length_append, List.length_cons, List.length_nil, List.length_map] <;> first | omega | assumption | (exact Nat.le_trans (fl _ _) (by assumption))
/-! small reading lemmas -/
theorem inV_str (z : Str) (l : List Str) : inV (.str z) (l.map V.str) = decide (z ∈ l) := by
  induction l with
  | nil => rfl
  | cons a l ih =>
    show (eqV (V.str a) (V.str z) || inV (.str z) (l.map V.str)) = _
    rw [ih]
    by_cases h : a = z
    · subst h; simp [eqV]
    · have h' : ¬ z = a := fun q => h q.symm
      have e : eqV (V.str a) (V.str z) = false := by simpa [eqV] using h
      rw [e]
      simp [h']
theorem inV_int (z : Int) (l : List Int) : inV (.int z) (l.map V.int) = decide (z ∈ l) := by
  induction l with
  | nil => rfl
  | cons a l ih =>
    show (eqV (V.int a) (V.int z) || inV (.int z) (l.map V.int)) = _
    rw [ih]
    by_cases h : a = z
    · subst h; simp [eqV]
    · have h' : ¬ z = a := fun q => h q.symm
      have e : eqV (V.int a) (V.int z) = false := by simpa [eqV] using h
      rw [e]
      simp [h']
theorem flat_strs (l : List Str) : (l.map V.str).all flatV = true := by simp [flatV]
section
variable {X : Cx}
/-- t + u of tuples that stand -/
def rCatTT (K : PySem.W.Frag) : R2 := fun x y H Q => ∃ a b xs ys, x = .ref a ∧ y = .ref b ∧ TpT K H a xs ∧ TpT K H b ys ∧ xs.length + ys.length ≤ sizeLine ∧ ∀ p H', Same H H' → TpT K H' p (xs ++ ys) → Q (.ref p) H'
theorem op_catTT : OpR X (binaryOp .Add) (rCatTT X.K) := by
  intro pins s σ H x y v u Q I rx ry h
  obtain ⟨a, b, xs, ys, rfl, rfl, ha, hb, hz, q⟩ := h
  refine op_catTA pins s σ H _ _ v u Q I rx ry ⟨a, b, xs, ys, rfl, rfl, ha.at, hb.at, hz, fun e => q a H (Same.refl H) ?_, fun e => q b H (Same.refl H) ?_, fun p hp => q p _ (Same.new hp) (.inl upd_same)⟩
  · rw [e, List.append_nil]; exact ha
  · rw [e, List.nil_append]; exact hb
def rSlTT (K : PySem.W.Frag) : V → Option Int → Option Int → Hp → VK → Prop := fun x lo hi H Q => ∃ a xs, x = .ref a ∧ TpT K H a xs ∧ ∀ p H', Same H H' → TpT K H' p (cutV xs lo hi) → Q (.ref p) H'
theorem sl_tupT : SlR X (rSlTT X.K) := by
  intro pins s σ H x v vl vu lo hi sl Q I rx hs pl pu h
  obtain ⟨a, xs, rfl, hx, q⟩ := h
  refine sl_tupA pins s σ H (.ref a) v vl vu lo hi sl Q I rx hs pl pu ⟨a, xs, rfl, hx.at, fun hw => q a H (Same.refl H) ?_, fun p hp => q p _ (Same.new hp) (.inl upd_same)⟩
  have e : cutV xs lo hi = xs := by
    unfold cutV
    rw [hw.1, hw.2, List.drop_zero, Nat.sub_zero, List.take_of_length_le (Nat.le_refl _)]
  rw [e]; exact hx
end
/-! walks over tuples of tuples -/
theorem tp_get {K : PySem.W.Frag} {H : Hp} {qs : List Addr} {rows : List (List V)} (h : Paired (fun q r => TpT K H q r) qs rows) : ∀ {i : Nat} {q : Addr}, qs[i]? = some q → ∃ r, rows[i]? = some r ∧ TpT K H q r := by
  induction h with
  | nil => intro i q e; simp at e
  | cons a b ih =>
    intro i q e
    cases i with
    | zero => cases e; exact ⟨_, rfl, a⟩
    | succ i => exact ih e
theorem tp_row {α : Type} {f : α → List V} {rs : List α} {K : PySem.W.Frag} {H : Hp} {qs : List Addr} (h : Paired (fun q r => TpT K H q r) qs (rs.map f)) {i : Nat} {x : V} (hx : (qs.map V.ref)[i]? = some x) : ∃ q a, x = .ref q ∧ qs[i]? = some q ∧ rs[i]? = some a ∧ TpT K H q (f a) := by
  rw [List.getElem?_map] at hx
  cases e : qs[i]? with
  | none => rw [e] at hx; cases hx
  | some q =>
    rw [e] at hx
    cases hx
    obtain ⟨r, er, hr⟩ := tp_get h e
    rw [List.getElem?_map] at er
    cases e2 : rs[i]? with
    | none => rw [e2] at er; cases er
    | some a => rw [e2] at er; cases er; exact ⟨q, a, rfl, rfl, rfl, hr⟩
theorem tp_len {α : Type} {f : α → List V} {rs : List α} {K : PySem.W.Frag} {H : Hp} {qs : List Addr} (h : Paired (fun q r => TpT K H q r) qs (rs.map f)) : qs.length = rs.length := by
  have := Paired.length h
  simpa using this
theorem take_step {α β : Type} {l : List α} (f : α → β) {i : Nat} {x : α} (h : l[i]? = some x) : (l.take i).map f ++ [f x] = (l.take (i + 1)).map f := by
  rw [List.take_add_one, h, List.map_append]; rfl
theorem take_filt {α : Type} {l : List α} (p : α → Bool) {i : Nat} {x : α} (h : l[i]? = some x) : (l.take (i + 1)).filter p = if p x = true then (l.take i).filter p ++ [x] else (l.take i).filter p := by
  rw [List.take_add_one, h, List.filter_append]
  by_cases e : p x = true
  · rw [if_pos e]; simp [e]
  · rw [if_neg e]; simp [e]
theorem take_lt {α : Type} {l : List α} {i : Nat} {x : α} (h : l[i]? = some x) {n : Nat} (hn : l.length ≤ n) : (l.take i).length < n := by
  have := (List.getElem?_eq_some_iff.mp h).1
  rw [List.length_take]; omega
theorem prd_snoc {α β : Type} {F : α → β → Prop} {x : α} {y : β} : ∀ {xs : List α} {ys : List β}, Paired F xs ys → F x y → Paired F (xs ++ [x]) (ys ++ [y])
  | _, _, .nil, h => .cons h .nil
  | _, _, .cons r t, h => .cons r (prd_snoc t h)
/-- the end of an action: the new state and the pair of it and a number -/
theorem st_fin {K : PySem.W.Frag} {H H3 : Hp} {Q : VK} {n a s g p' q : Addr} {S' : BS} {r : V} (s4 : Same H H3) (hn : TpT K H3 n (S'.ns.map V.str)) (ha : TpTs K H3 a (S'.ar.map arV)) (hs : TpTs K H3 s (S'.sy.map syV)) (hg : TpT K H3 g [.int S'.ga, .int S'.gs]) (ok : S'.Ok)
    (k : ∀ q p' n' a' s' g' H', Same H H' → H' q = some (.tup [.ref p', r]) → StH K H' p' S' n' a' s' g' → S'.Ok → Q (.ref q) H') (hp : H3 p' = none) (hq : upd H3 p' (.tup [.ref n, .ref a, .ref s, .ref g, S'.hv]) q = none) :
    Q (.ref q) (upd (upd H3 p' (.tup [.ref n, .ref a, .ref s, .ref g, S'.hv])) q (.tup [.ref p', r])) := by
  have u : Same H3 (upd (upd H3 p' (.tup [.ref n, .ref a, .ref s, .ref g, S'.hv])) q (.tup [.ref p', r])) := Same.new2 (Same.new hp) hq
  refine k q p' n a s g _ (s4.trans u) upd_same ⟨.inl ?_, hn.tu u.tu, ha.tu u.tu, hs.tu u.tu, hg.tu u.tu⟩ ok
  rw [upd_ne (ne_of_none upd_same hq)]; exact upd_same
theorem iteFF1 {A B : Prop} (h : A) : if false = false then A else B := by rw [if_pos rfl]; exact h
theorem iteTF1 {A B : Prop} (h : B) : if true = false then A else B := by rw [if_neg (by decide)]; exact h
end L2

set_option Elab.async false
set_option linter.all false
set_option maxRecDepth 100000
namespace L2
open PySem PySem.Spec PyProof.Rows
section
variable {X : Cx}
/-- [elt for target in iter if ..]: D the new list; W by the turn and a measure, Nx what a turn is to reach -/
def dk_tLc (wi : TI) (g : TG) (tt : TT) (tk tv : TE) (vs : List Nat) : TE := fun σ H Q => wi σ H fun J H1 => ∀ D, H1 D = none → ∃ W : Nat → Nat → Hp → Prop, (∃ m, W 0 m (upd H1 D (.dK []))) ∧ ∀ i m H, W i m H →
  (J.stop i H ∧ Q (.ref D) H) ∨ (J.go i H ∧ ∃ Nx : Hp → Prop, (∀ H', Nx H' → ∃ m', m' < m ∧ W (i + 1) m' H') ∧ ∀ x H', J.yld i H x H' → g x (wipe σ vs) H' fun σ2 H2 => wipe σ2 vs = wipe σ vs ∧ tt σ2 H2 fun b H3 =>
    if b = true then tk σ2 H3 fun y H4 => tv σ2 H4 fun v H5 => ∃ H6, DPut H5 D y v H6 ∧ Nx H6 else Nx H3)
theorem dk_lc_core {pins : List (Addr × Obj)} {s : Shared} {σ : St} {H : Hp} {Q : VK} {ke ve tg iter : Expr} {ifs : List Expr} {scope : Scope} {own : List (Str × Nat)} {pos pos' : Pos} {wi : TI} {g : TG} {tt : TT} {tk tv : TE} {use : Option (Value → Sem Unit)} {Qf : Value → Shared → Prop}
    (hu : X.A.units < cLine) (hc : X.calm = true) (hN : X.N.Nodup) (I : Inv X pins σ H s) (hi : PI X tg iter wi) (ok : BlkOk X.N X.env.scope scope own)
    (hg : ∀ (s : Shared) (H : Hp) (C : Addr) (cl : List (Str × Addr)) (fp : List Addr), PG (X.blk s H scope (compEnvC scope cl C X.env) fp) tg g) (ht : ∀ (s : Shared) (H : Hp) (C : Addr) (cl : List (Str × Addr)) (fp : List Addr), PTs (X.blk s H scope (compEnvC scope cl C X.env) fp) ifs tt)
    (he : ∀ (s : Shared) (H : Hp) (C : Addr) (cl : List (Str × Addr)) (fp : List Addr), PE (X.blk s H scope (compEnvC scope cl C X.env) fp) ke tk) (hev : ∀ (s : Shared) (H : Hp) (C : Addr) (cl : List (Str × Addr)) (fp : List Addr), PE (X.blk s H scope (compEnvC scope cl C X.env) fp) ve tv) (hs : ∀ x, foldedSetIterable iter X.env x = pure x)
    (h : dk_tLc wi g tt tk tv (own.map (·.2)) σ H Q)
    (hRR : ∀ D C s' m H', Inv X pins σ H' s' → Q (.ref D) H' → s'.heap.Ns C m → FpOk X pins H' C → compPost (model X.prog X.w) X.A X.xe use Qf (.ref D) C (.ok .next) s') :
    wpAny (model X.prog X.w) X.A (comprehension (.DictComp ke ve [⟨tg, iter, ifs, 0⟩] scope pos) scope X.env pos' newDict false (eval iter X.env) use) Qf X.xe s := by
  have hfree : ∀ y ∈ scope.names, y.2 = .free → ∃ c, X.env.cells.lookup y.1 = some c := fun y hy e => by
    rcases ok.free y hy e with k | k
    · exact I.ok.has _ (.inl k)
    · exact I.ok.has _ (.inr k)
  refine wpAny_comprehension_free (use := use) rfl hs (closure_ok hfree) ok.kind (fun y hy e => by rw [ok.uniq y hy, e])
    (thn (hi pins s σ H _ I h) fun xv s1 hx => thn hx fun itv s2 h2 => ?_)
  obtain ⟨it, fp, tn, J, H2, e, I2, T, st2, f2, q⟩ := h2
  subst e
  refine wpAny_newObj_type (newEnv_comp ?_) (by size_fits)
  generalize hD : s2.heap.objs.size = D
  have hDn : H2 D = none := I2.hok.fresh (Nat.le_of_eq hD)
  obtain ⟨W, ⟨m0, w0⟩, turn⟩ := q D hDn
  -- the new list
  generalize hs3 : ({ s2 with heap := s2.heap.push { cls := .type "dict", data := .dict #[] } } : Shared) = s3
  have I3 : Inv X pins σ (upd H2 D (.dK [])) s3 := by
    rw [← hs3]
    rw [← hD]
    exact I2.laid (t' := s2.toks) (fun b o e => Heap.get?_push_of_some _ e) (Nat.le_refl _) (dk_empty s2.heap I2.big)
  have h3 : s3.heap = s2.heap.push { cls := .type "dict", data := .dict #[] } := by rw [← hs3]
  have sz : ∀ b ∈ fp, b < s2.heap.objs.size := fun b hb => by
    obtain ⟨o, e, _⟩ := T.obj _ _ st2 b hb
    exact Heap.lt_size e
  have f3 : ∀ b ∈ fp, FpOk X pins (upd H2 D (.dK [])) b ∧ b < s3.heap.objs.size := fun b hb => by
    have hlt := sz b hb
    refine ⟨⟨?_, (f2 b hb).2⟩, by rw [h3, Heap.size_push]; exact Nat.lt_succ_of_lt hlt⟩
    rw [upd_ne (by rw [← hD]; exact Nat.ne_of_lt hlt)]
    exact (f2 b hb).1
  have st3 : tn 0 s3.heap := T.keep _ _ _ st2 fun b _ o e => by rw [h3]; exact Heap.get?_push_of_some _ e
  have I4 := block_start I3 ok hN f3
  have pg := hg s3 (upd H2 D (.dK [])) s3.heap.objs.size (cellsFrom (s3.heap.objs.size + 1) scope.names (cloFrom X.env.cells scope.names [])) fp
  have pt := ht s3 (upd H2 D (.dK [])) s3.heap.objs.size (cellsFrom (s3.heap.objs.size + 1) scope.names (cloFrom X.env.cells scope.names [])) fp
  have pe := he s3 (upd H2 D (.dK [])) s3.heap.objs.size (cellsFrom (s3.heap.objs.size + 1) scope.names (cloFrom X.env.cells scope.names [])) fp
  have pev := hev s3 (upd H2 D (.dK [])) s3.heap.objs.size (cellsFrom (s3.heap.objs.size + 1) scope.names (cloFrom X.env.cells scope.names [])) fp
  show codeAny _ _ (.compStart (.DictComp ke ve [⟨tg, iter, ifs, 0⟩] scope pos) 0 (.ref it) (.ref D) (compEnvC scope (cellsFrom (s3.heap.objs.size + 1) scope.names (cloFrom X.env.cells scope.names [])) s3.heap.objs.size X.env)) (compPost (model X.prog X.w) X.A X.xe use Qf (.ref D) s3.heap.objs.size) { s3 with heap := pushCells (s3.heap.push { cls := .type "dict", data := .dict #[] }) scope.names }
  have nfp : ∀ b ∈ fp, (upd H2 D (.dK [])) b = none := fun b hb => (f3 b hb).1.1
  generalize hce : compEnvC scope (cellsFrom (s3.heap.objs.size + 1) scope.names (cloFrom X.env.cells scope.names [])) s3.heap.objs.size X.env = ce at I4 pg pt pe pev ⊢
  have cL : ce.locals = s3.heap.objs.size := by subst hce; rfl
  generalize hH3 : upd H2 D (.dK []) = H3 at I3 I4 pg pt pe pev w0 nfp f3
  generalize hs4 : ({ s3 with heap := pushCells (s3.heap.push { cls := .type "dict", data := .dict #[] }) scope.names } : Shared) = s4 at I4 ⊢
  have st4 : tn 0 s4.heap := T.keep _ _ _ st3 fun b _ o e => by rw [← hs4]; exact pushCells_keeps _ _ _ _ (Heap.get?_push_of_some _ e)
  have stat : ∀ {σ' : St} {H' : Hp} {s' : Shared}, Inv (X.blk s3 H3 scope ce fp) [] σ' H' s' → (∀ b ∈ fp, H' b = none) → ∀ b ∈ fp, FpOk (X.blk s3 H3 scope ce fp) [] H' b := fun {σ' H' s'} I' hn b hb =>
    ⟨hn b hb, (I'.ok.exf b hb).1, I'.ok.exfs b hb, .inl hb, fun x c e => (I'.ok.exf b hb).2 x c e, fun p hp => absurd (show p ∈ ([] : List (Addr × Obj)) ++ [] from hp) (by simp)⟩
  have loop : codeAny (model X.prog X.w) X.A (.compLoop (.DictComp ke ve [⟨tg, iter, ifs, 0⟩] scope pos) 0 (.ref it) (.ref D) ce) (compPost (model X.prog X.w) X.A X.xe use Qf (.ref D) s3.heap.objs.size) s4 := by
    refine dc_compLoop_any (fun n s' => ∃ i H', Inv (X.blk s3 H3 scope ce fp) [] (wipe σ (own.map (·.2))) H' s' ∧ tn i s'.heap ∧ (∀ b ∈ fp, H' b = none) ∧ W i n H') ?_ m0 ⟨0, H3, I4, st4, nfp, w0⟩
    rintro n s5 ⟨i, H5, I5, st5, n5, w5⟩
    rcases turn i n H5 w5 with ⟨stop, qq⟩ | ⟨go, Nx, hNx, step⟩
    · have td := T.done (X.blk s3 H3 scope ce fp) rfl rfl rfl hc i [] s5 _ H5 (fun _ _ => False) I5 (stat I5 n5) st5 stop
      refine thnF td fun r s6 ⟨hr, I6⟩ => ?_
      subst hr
      -- back in the def's context
      have I7 : Inv X pins σ H5 s6 := I3.call' (ch := fp) I6.os I6.base I6.hok I6.bare fun b hb => ⟨(f3 b hb).1.2.2.2.1, (f3 b hb).1.2.1, (f3 b hb).1.2.2.2.2.1, (f3 b hb).1.2.2.2.2.2⟩
      have nC : H5 s3.heap.objs.size = none := by
        have z : H5 ce.locals = none := I6.free
        rw [cL] at z
        exact z
      obtain ⟨m, hn, _⟩ := I6.loc
      have hn : s6.heap.Ns ce.locals m := hn
      rw [cL] at hn
      exact hRR D s3.heap.objs.size s6 m H5 I7 qq hn (I3.fpOk (Nat.le_refl _) nC)
    · have ti := T.item (X.blk s3 H3 scope ce fp) rfl rfl rfl hc i [] s5 _ H5 (fun _ _ => False) I5 (stat I5 n5) st5 go
      refine thnF ti fun r s6 ⟨u, hr, h6⟩ => ?_
      subst hr
      refine thnF h6 fun _ s7 ⟨x, H7, I7, r7, y7, st7, n7⟩ => ?_
      have I7' := I7.pinned (stat I7 n7) (T.obj _ _ st7)
      refine thnF (pg _ s7 _ H7 x u _ I7' r7 (step x H7 y7)) fun _ s8 ⟨σ8, H8, I8, hw8, q8⟩ => ?_
      refine thnF (pt _ s8 σ8 H8 _ I8 q8) fun b s9 ⟨H9, I9, q9⟩ => ?_
      -- the turn's end
      have fin : ∀ {s' : Shared} {H' : Hp}, Inv (X.blk s3 H3 scope ce fp) ([] ++ pinsAt fp s7.heap) σ8 H' s' → Nx H' → ∃ m, m < n ∧ ∃ i H', Inv (X.blk s3 H3 scope ce fp) [] (wipe σ (own.map (·.2))) H' s' ∧ tn i s'.heap ∧ (∀ b ∈ fp, H' b = none) ∧ W i m H' := fun {s' H'} I' nx => by
        obtain ⟨m', hm, w'⟩ := hNx H' nx
        have pin' : ∀ b ∈ fp, ∀ o, s7.heap.get? b = some o → s'.heap.get? b = some o ∧ H' b = none := fun b hb o e =>
          let z := I'.pin (b, o) (List.mem_append_right _ (List.mem_append_right _ (mem_pinsAt hb e)))
          ⟨z.1, z.2.1⟩
        have hl : (wipe σ (own.map (·.2))).length = σ8.length := by rw [← hw8, wipe_length]
        refine ⟨m', hm, i + 1, H', (I'.unpinned (pins := [])).weak hl (fun j v e => ?_), T.keep _ _ _ st7 fun b hb o e => (pin' b hb o e).1, fun b hb => ?_, w'⟩
        · rw [← hw8] at e
          exact (wipe_some e).1
        · obtain ⟨o, e, _⟩ := T.obj _ _ st7 b hb
          exact (pin' b hb o e).2
      cases b with
      | false =>
        simp only [Bool.false_eq_true, if_false] at q9 ⊢
        exact fin I9 q9
      | true =>
        simp only [if_true] at q9 ⊢
        refine thnF (pe _ s9 σ8 H9 _ I9 q9) fun z s10 ⟨yv, H10, I10, r10, q10⟩ => thnF (pev _ s10 σ8 H10 _ I10 q10) fun z2 s11 ⟨yv2, H11, I11, r11, H12, hp, nx⟩ => ?_
        exact d_dictSet (X := X.blk s3 H3 scope ce fp) hu I11 hp r10 r11 fun s12 I12 => fin I12 nx
  exact dc_start loop (T.self X.A 0 _ _ _ st4 loop)
/-- as a value -/
theorem dk_pe_lc {ke ve tg iter : Expr} {ifs : List Expr} {scope : Scope} {own : List (Str × Nat)} {pos : Pos} {wi : TI} {g : TG} {tt : TT} {tk tv : TE} (hu : X.A.units < cLine) (hc : X.calm = true) (hN : X.N.Nodup) (hi : PI X tg iter wi) (ok : BlkOk X.N X.env.scope scope own)
    (hg : ∀ (s : Shared) (H : Hp) (C : Addr) (cl : List (Str × Addr)) (fp : List Addr), PG (X.blk s H scope (compEnvC scope cl C X.env) fp) tg g) (ht : ∀ (s : Shared) (H : Hp) (C : Addr) (cl : List (Str × Addr)) (fp : List Addr), PTs (X.blk s H scope (compEnvC scope cl C X.env) fp) ifs tt)
    (he : ∀ (s : Shared) (H : Hp) (C : Addr) (cl : List (Str × Addr)) (fp : List Addr), PE (X.blk s H scope (compEnvC scope cl C X.env) fp) ke tk) (hev : ∀ (s : Shared) (H : Hp) (C : Addr) (cl : List (Str × Addr)) (fp : List Addr), PE (X.blk s H scope (compEnvC scope cl C X.env) fp) ve tv) (hs : ∀ x, foldedSetIterable iter X.env x = pure x := by intro _; rfl) :
    PE X (.DictComp ke ve [⟨tg, iter, ifs, 0⟩] scope pos) (dk_tLc wi g tt tk tv (own.map (·.2))) := by
  intro pins s σ H Q I h
  rw [eval_DictComp]
  refine dk_lc_core hu hc hN I hi ok hg ht he hev hs h fun D C s' m H' I' q hn f => ⟨m, hn, fun h'' sb => ?_⟩
  obtain ⟨f0, f1, f2, f3, f4, f5⟩ := f
  exact ⟨.ref D, H', I'.turned (t' := s'.toks) (fun b o hb e => (sb.2 b hb).trans e) f0 f1 f3 f4 f5, rfl, q⟩
end
/-- {.. for i, x in enumerate(tuple)} -/
theorem dk_enumT {K : PySem.W.Frag} {a : Addr} {xs : List V} {g : TG} {tt : TT} {tk tv : TE} {vs : List Nat} {σ : St} {H1 : Hp} {D : Addr} {Qd : Hp → Prop} (Pv : Nat → Hp → Prop) (h0 : Pv 0 (upd H1 D (.dK []))) (hl : ∀ i H, i ≤ xs.length → Pv i H → SqT K H a xs)
    (hs : ∀ i x H T, xs[i]? = some x → Pv i H → H T = none → g (.ref T) (wipe σ vs) (upd H T (.tup [.int (i : Nat), x])) fun σ2 H2 => wipe σ2 vs = wipe σ vs ∧ tt σ2 H2 fun b H3 =>
      if b = true then tk σ2 H3 fun y H4 => tv σ2 H4 fun v H5 => ∃ H6, DPut H5 D y v H6 ∧ Pv (i + 1) H6 else Pv (i + 1) H3) (hd : ∀ H, Pv xs.length H → Qd H) :
    ∃ W : Nat → Nat → Hp → Prop, (∃ m, W 0 m (upd H1 D (.dK []))) ∧ ∀ i m H, W i m H →
      ((IteT K a).stop i H ∧ Qd H) ∨ ((IteT K a).go i H ∧ ∃ Nx : Hp → Prop, (∀ H', Nx H' → ∃ m', m' < m ∧ W (i + 1) m' H') ∧ ∀ x H', (IteT K a).yld i H x H' → g x (wipe σ vs) H' fun σ2 H2 => wipe σ2 vs = wipe σ vs ∧ tt σ2 H2 fun b H3 =>
        if b = true then tk σ2 H3 fun y H4 => tv σ2 H4 fun v H5 => ∃ H6, DPut H5 D y v H6 ∧ Nx H6 else Nx H3) := by
  refine ⟨fun i m H => m = xs.length - i ∧ i ≤ xs.length ∧ Pv i H, ⟨xs.length, by simp, Nat.zero_le _, h0⟩, ?_⟩
  rintro i m H ⟨rfl, hi, p⟩
  have q := hl i H hi p
  by_cases hlt : i < xs.length
  · refine .inr ⟨⟨xs, xs[i], q, by simp [hlt]⟩, Pv (i + 1), fun H' p' => ⟨xs.length - (i + 1), by omega, rfl, hlt, p'⟩, fun x H' y => ?_⟩
    obtain ⟨T, z, rfl, hT, rfl, y⟩ := y
    exact hs i z H T (y xs q) p hT
  · have e : i = xs.length := by omega
    subst e
    exact .inl ⟨⟨xs, q, rfl⟩, hd H p⟩
end L2

set_option Elab.async false
set_option linter.all false
set_option maxRecDepth 100000
namespace L2
open PySem PySem.Spec PyProof.Rows
/-! a board in the heap -/
/-- all but two things stand -/
def Off (b l : Addr) (H H' : Hp) : Prop := ∀ a o, H a = some o → a ≠ b → a ≠ l → H' a = some o
theorem Off.of {b l : Addr} {H H' : Hp} (s : Same H H') : Off b l H H' := fun a o e _ _ => s a o e
theorem Off.trans {b l : Addr} {H H1 H2 : Hp} (s : Off b l H H1) (u : Off b l H1 H2) : Off b l H H2 := fun a o e h1 h2 => u a o (s a o e h1 h2) h1 h2
theorem Off.tu {b l C dx : Addr} {H H' : Hp} {fs : List (Str × V)} {xs : List V} (s : Off b l H H') (hb : H b = some (.ins C dx fs)) (hl : H l = some (.lst xs)) : Tu H H' := fun a ys e =>
  s a _ e (fun q => by rw [q, hb] at e; cases e) (fun q => by rw [q, hl] at e; cases e)
def fldB (p l fu : Addr) : List (Str × V) := [("now", .ref p), ("past", .ref l), ("future", .ref fu)]
structure BrI (K : PySem.W.Frag) (H : Hp) (C b dx l fu p n a s g : Addr) (S : BS) (qs : List Addr) (ds : List (List V)) (ff : List Addr) : Prop where
  ins : H b = some (.ins C dx (fldB p l fu))
  st : StH K H p S n a s g
  ok : S.Ok
  past : H l = some (.lst (qs.map V.ref))
  pr : Paired (fun q d => ∃ dq st, H q = some (.tup [.ref dq, .ref st]) ∧ H dq = some (.tup d)) qs ds
  fut : H fu = some (.lst (ff.map V.ref))
  ne : l ≠ fu
def BrH (K : PySem.W.Frag) (H : Hp) (C b l : Addr) (S : BS) (ds : List (List V)) : Prop := ∃ dx fu p n a s g qs ff, BrI K H C b dx l fu p n a s g S qs ds ff
theorem BrH.same {K : PySem.W.Frag} {H H' : Hp} {C b l : Addr} {S : BS} {ds : List (List V)} (h : BrH K H C b l S ds) (s : Same H H') : BrH K H' C b l S ds := by
  obtain ⟨dx, fu, p, n, a, sy, g, qs, ff, B⟩ := h
  exact ⟨dx, fu, p, n, a, sy, g, qs, ff, s _ _ B.ins, B.st.tu s.tu, B.ok, s _ _ B.past, Paired.mapP B.pr fun q d ⟨x, y, h1, h2⟩ => ⟨x, y, s _ _ h1, s _ _ h2⟩, s _ _ B.fut, B.ne⟩
/-- the deeds that are read here -/
def easy : Dd → Prop
  | .box x => x.length ≤ 1000 | .drop _ => False | .free => False | _ => True
def spDoneE (ca : Kin → Addr) (K : PySem.W.Frag) : Sp := fun vs H Q E => ∃ d, easy d ∧ spDone ca K d vs H Q E
/-- what a deed does to a board -/
def BrDo (ca : Kin → Addr) (K : PySem.W.Frag) (C b l : Addr) (S : BS) (ds : List (List V)) (d : Dd) (H : Hp) (Q : VK) (E : XK) : Prop :=
  match act S d with
  | .inl k => ∀ H', Same H H' → E (.ref (ca k)) none H'
  | .inr (S', r) => ∀ H', Off b l H H' → BrH K H' C b l S' (ds ++ [d.vs]) → Q r H'
theorem BrDo.mono {ca : Kin → Addr} {K : PySem.W.Frag} {C b l : Addr} {S : BS} {ds : List (List V)} {d : Dd} {H H1 : Hp} {Q : VK} {E : XK} (h : BrDo ca K C b l S ds d H Q E) (s : Same H H1) : BrDo ca K C b l S ds d H1 Q E := by
  unfold BrDo at h ⊢
  split at h
  · exact fun H' s' => h H' (s.trans s')
  · exact fun H' s' B => h H' ((Off.of s).trans s') B
def spBDo (ca : Kin → Addr) (K : PySem.W.Frag) (C : Addr) : Sp := fun vs H Q E => ∃ (d : Dd) (b l q : Addr) (S : BS) (ds : List (List V)), easy d ∧ vs = [.ref b, .ref q] ∧ BrH K H C b l S ds ∧ ds.length < 100000 ∧ H q = some (.tup d.vs) ∧ BrDo ca K C b l S ds d H Q E
def spBM (ca : Kin → Addr) (K : PySem.W.Frag) (C : Addr) (word : Str) : Sp := fun vs H Q E => ∃ (d : Dd) (b l : Addr) (S : BS) (ds : List (List V)), easy d ∧ d.word = word ∧ vs = .ref b :: d.things ∧ BrH K H C b l S ds ∧ ds.length < 100000 ∧ BrDo ca K C b l S ds d H Q E
section
variable {P : Program} {w : World} {K : PySem.W.Frag} {mg : Str → Option Value} {base : Heap}
theorem FnOk.exP {α : Type} {CX : CXT} {k : Nat} {f : Addr} {fd : FuncData} {ps : List Str} {C : α → Prop} {sp : α → Sp} (h : ∀ d, C d → FnOk P w K mg base CX k f fd ps (sp d)) : FnOk P w K mg base CX k f fd ps (fun vs H Q E => ∃ d, C d ∧ sp d vs H Q E) :=
  ⟨fun vs H Q E ⟨d, c, z⟩ => (h d c).len vs H Q E z, fun A outer s H a us vs Q E hr e hb r ⟨d, c, z⟩ => (h d c).run A outer s H a us vs Q E hr e hb r z⟩
end
/-- arguments by place, then what is left out, then a keyword's, then what is left out -/
def kgA {α : Type} (a b : Nat) (pre mid : List α) (us ws : List α) : List α := if us.length = a ∧ ws.length = b then us ++ (pre ++ (ws ++ mid)) else []
theorem kgA_vals {a b : Nat} {pre mid : List V} {pre' mid' : List Value} (hp : Vals pre pre') (hm : Vals mid mid') {vs : List V} {us : List Value} {zs : List V} {ws : List Value} (r : Vals vs us) (q : Vals zs ws) : Vals (kgA a b pre mid vs zs) (kgA a b pre' mid' us ws) := by
  have e1 := r.length
  have e2 := q.length
  unfold kgA
  by_cases h : vs.length = a ∧ zs.length = b
  · rw [if_pos h, if_pos (by rw [← e1, ← e2]; exact h)]
    exact r.append (hp.append (q.append hm))
  · rw [if_neg h, if_neg (by rw [← e1, ← e2]; exact h)]
    exact .nil
theorem kgA_len {α : Type} {a b n : Nat} {pre mid us ws : List α} (h : (kgA a b pre mid us ws).length = n + 1) : us.length = a ∧ ws.length = b := by
  unfold kgA at h
  by_cases c : us.length = a ∧ ws.length = b
  · exact c
  · rw [if_neg c] at h; cases h
end L2

set_option Elab.async false
set_option linter.all false
set_option maxRecDepth 100000
namespace L2
open PySem PySem.Spec PyProof.Rows
/-! ends of walks while an exception is handled -/
theorem entry_unch : entryFor table "proto.unchain" = some Builtin.«proto.unchain» := entryFor_of_tree (by kernel_rfl)
section
variable {prog : Program} {w : World} {A : Around} {E : Value → Shared → Prop} {s : Shared}
theorem unch {e h : Addr} {oh : Obj} {vs : Array Value} {Q : Value → Shared → Prop} (ho : s.heap.get? h = some oh) (hd : oh.data = .fields vs) (hv : vs[2]? = some .none) (hq : Q .none s) :
    wpAny (model prog w) A (runValue (.builtin "proto.unchain" ⟨[.ref e, .ref h, .ref h, .bool false], []⟩)) Q E s := by
  refine wpAny_runValue (codeAny_builtin entry_unch ?_)
  unfold Builtin.«proto.unchain»
  refine wpAny_bind (wpAny_field ho hd (x := .none) hv ?_)
  rw [if_pos (show (Value.none == Value.none) = true from rfl)]
  exact wpAny_pure hq
theorem stopH {α : Type} {h : Addr} {oh : Obj} {vs : Array Value} {Q : α → Shared → Prop} (hA : A.handled = some (.ref h)) (ho : s.heap.get? h = some oh) (hd : oh.data = .fields vs) (hv : vs[2]? = some .none)
    (hE : ∀ h' e, (∀ b o, s.heap.get? b = some o → h'.get? b = some o) → (∃ o, h'.get? e = some o ∧ o.cls = .type "StopIteration") → E (.ref e) { s with heap := h' }) : wpAny (model prog w) A (newExc (.type "StopIteration") [] >>= fun e => raiseNew (α := α) e) Q E s := by
  refine wpAny_bind ?_
  simp only [newExc, newTuple]
  refine wpAny_bind (wpAny_newObj_type ?_ (by size_fits))
  refine wpAny_bind (m := firstArgMember _ _) (wpAny_of_eq (a := Value.none) (by first | rfl | (simp only [firstArgMember]; rfl)) (wpAny_newObj_type ?_ (by size_fits)))
  simp only [raiseNew]
  refine wpAny_bind (wpAny_handled ?_)
  rw [hA]
  have hlt := Heap.lt_size ho
  have hne : (Value.ref h != Value.ref (s.heap.push { cls := Value.type "tuple", data := Data.seq #[] }).objs.size) = true := by
    rw [bne_iff_ne]; intro q; have e := Value.ref.inj q; rw [Heap.size_push] at e; exact absurd hlt (by rw [e]; exact Nat.not_lt.mpr (Nat.le_succ _))
  dsimp only
  rw [if_pos hne]
  have k2 : ∀ b o, s.heap.get? b = some o → ((s.heap.push { cls := Value.type "tuple", data := Data.seq #[] }).push { cls := Value.type "StopIteration", data := Data.fields (#[Value.ref s.heap.objs.size, .none, .none, .none, .bool false, .none] ++ ownMembersOf (.type "StopIteration") []) }).get? b = some o := fun b o z => Heap.get?_push_of_some _ (Heap.get?_push_of_some _ z)
  refine wpAny_bind (wpAny_holding (unch (k2 h oh ho) hd hv ?_))
  have he := Heap.get?_push_size (s.heap.push { cls := Value.type "tuple", data := Data.seq #[] }) (o := { cls := Value.type "StopIteration", data := Data.fields (#[Value.ref s.heap.objs.size, .none, .none, .none, .bool false, .none] ++ ownMembersOf (.type "StopIteration") []) }) rfl
  show wpAny _ _ (setField (.ref (s.heap.push { cls := Value.type "tuple", data := Data.seq #[] }).objs.size) 2 (.ref h) >>= fun _ => throw _) _ _ _
  refine wpAny_bind (wpAny_setField he rfl (Nat.lt_of_lt_of_le (by decide : 2 < 6) (by simp)) (wpAny_throw (hE _ _ (fun b o z => ?_) ?_)))
  · refine (Heap.get?_update_ne _ _ _ _ (fun q => ?_)).trans (k2 b o z)
    have hb := Heap.lt_size z
    rw [q, Heap.size_push] at hb
    exact absurd hb (Nat.not_lt.mpr (Nat.le_succ _))
  · exact ⟨_, Heap.get?_update_self _ he rfl, rfl⟩
/-- what is handled: an exception behind which no other one stands -/
structure Hld (A : Around) (g : Heap) : Prop where
  ex : ∃ (h : Addr) (oh : Obj) (vs : Array Value), A.handled = some (.ref h) ∧ g.get? h = some oh ∧ oh.data = .fields vs ∧ vs[2]? = some .none
theorem Hld.keeps {g g' : Heap} (x : Hld A g) (k : ∀ b o, g.get? b = some o → g'.get? b = some o) : Hld A g' := let ⟨h, oh, vs, a, b, c, d⟩ := x.ex; ⟨h, oh, vs, a, k _ _ b, c, d⟩
theorem list_endH {it l : Addr} {i : Nat} {items : Array Value} {Q : Option Value → Shared → Prop} (hH : ∀ g, (∀ b o, b ≠ it → s.heap.get? b = some o → g.get? b = some o) → Hld A.in1 g) (hit : s.heap.IsListIter it l i) (hl : s.heap.IsList l items) (hx : items[i]? = none)
    (hQ : ∀ h', Heap.ExtBut it s.heap h' → Q none { s with heap := h' }) : wpAny (model prog w) A (pyNext (.ref it)) Q E s := by
  obtain ⟨oi, hoi, hci, hdi⟩ := id hit
  obtain ⟨ol, hol, _, nl, hdl⟩ := hl
  unfold pyNext
  refine wpAny_bind (wpAny_attempt (wpAny_callSpecial?_slot (name := Str.ofString "__next__") hit.typeIs slot_listiter_next (wpAny_call_entry slot_listiter_next hit.typeIs entry_listiter_next ?_ (args_listiter_next _))))
  refine (show wpAny _ _ (field (.ref it) 0 >>= _) _ _ s from wpAny_bind (wpAny_field hoi hdi (x := .ref l) rfl ?_))
  refine (show wpAny _ _ (if (Value.ref l == Value.none) = true then _ else _) _ _ s from ?_)
  rw [if_neg (fun q : (Value.ref l == Value.none) = true => Bool.false_ne_true q)]
  refine (show wpAny _ _ (field (.ref it) 1 >>= _) _ _ s from wpAny_bind (wpAny_field hoi hdi (x := .int i 0) rfl ?_))
  refine (show wpAny _ _ (seqItems? (.ref l) >>= _) _ _ s from wpAny_bind (wpAny_seqItems hol hdl ?_))
  simp only [Int.toNat_natCast, hx]
  refine wpAny_bind (wpAny_rule (wpAny_bind (wpAny_setField hoi hdi (by simp) ?_)))
  obtain ⟨h, oh, vs, a, b, c, d⟩ := (hH (s.heap.update it (Obj.mapFields (·.setIfInBounds 0 .none))) fun b o nb z => (Heap.get?_update_ne _ _ _ _ nb).trans z).ex
  refine (show wpAny _ _ (newExc (.type "StopIteration") [] >>= fun e => raiseNew e) _ _ _ from stopH a b c d fun h' e k ⟨o, he, hce⟩ => ?_)
  refine wpAny_bind (wpAny_isInstance (T := "StopIteration") (b := true) ⟨o, he, hce⟩ isSubtype_stop ?_)
  exact wpAny_pure (hQ _ fun b o nb z => k b o ((Heap.get?_update_ne _ _ _ _ nb).trans z))
theorem tup_endH {it u : Addr} {i : Nat} {items : Array Value} {Q : Option Value → Shared → Prop} (hH : ∀ g, (∀ b o, b ≠ it → s.heap.get? b = some o → g.get? b = some o) → Hld A.in1 g) (hit : IsTupIter s.heap it u i) (hl : IsTup s.heap u items) (hx : items[i]? = none)
    (hQ : ∀ h', Heap.ExtBut it s.heap h' → Q none { s with heap := h' }) : wpAny (model prog w) A (pyNext (.ref it)) Q E s := by
  obtain ⟨oi, hoi, hci, hdi⟩ := id hit
  obtain ⟨ol, hol, _, nl, hdl⟩ := hl
  unfold pyNext
  refine wpAny_bind (wpAny_attempt (wpAny_callSpecial?_slot (name := Str.ofString "__next__") hit.typeIs slot_tupleiter_next (wpAny_call_entry slot_tupleiter_next hit.typeIs entry_tupleiter_next ?_ (args_tupleiter_next _))))
  refine (show wpAny _ _ (field (.ref it) 0 >>= _) _ _ s from wpAny_bind (wpAny_field hoi hdi (x := .ref u) rfl ?_))
  refine (show wpAny _ _ (if (Value.ref u == Value.none) = true then _ else _) _ _ s from ?_)
  rw [if_neg (fun q : (Value.ref u == Value.none) = true => Bool.false_ne_true q)]
  refine (show wpAny _ _ (field (.ref it) 1 >>= _) _ _ s from wpAny_bind (wpAny_field hoi hdi (x := .int i 0) rfl ?_))
  refine (show wpAny _ _ (seqItems? (.ref u) >>= _) _ _ s from wpAny_bind (wpAny_seqItems hol hdl ?_))
  simp only [Int.toNat_natCast, hx]
  refine wpAny_bind (wpAny_rule (wpAny_bind (wpAny_setField hoi hdi (by simp) ?_)))
  obtain ⟨h, oh, vs, a, b, c, d⟩ := (hH (s.heap.update it (Obj.mapFields (·.setIfInBounds 0 .none))) fun b o nb z => (Heap.get?_update_ne _ _ _ _ nb).trans z).ex
  refine (show wpAny _ _ (newExc (.type "StopIteration") [] >>= fun e => raiseNew e) _ _ _ from stopH a b c d fun h' e k ⟨o, he, hce⟩ => ?_)
  refine wpAny_bind (wpAny_isInstance (T := "StopIteration") (b := true) ⟨o, he, hce⟩ isSubtype_stop ?_)
  exact wpAny_pure (hQ _ fun b o nb z => k b o ((Heap.get?_update_ne _ _ _ _ nb).trans z))
theorem unpackH {u : Addr} {items : Array Value} {Q : List Value → Shared → Prop} (hH : ∀ g, (∀ b o, s.heap.get? b = some o → g.get? b = some o) → Hld A.in1 g) (ht : IsTup s.heap u items)
    (hQ : ∀ h', Heap.ExtBut s.heap.objs.size s.heap h' → Q items.toList { s with heap := h' }) : wpAny (model prog w) A (unpackItems (.ref u) items.size none) Q E s := by
  have hlt : u ≠ s.heap.objs.size := let ⟨o, ho, _⟩ := ht; Nat.ne_of_lt (Heap.lt_size ho)
  unfold unpackItems
  refine wpAny_bind (show wpAny _ _ (notIterableAtAll (.ref u)) _ _ s from ?_)
  unfold notIterableAtAll
  refine wpAny_bind (wpAny_specialOf ht.typeIs slot_tuple_iter.lookup (wpAny_pure ?_))
  simp only [Bool.false_eq_true, if_false]
  refine wpAny_bind (wpAny_holding (iter_tuple ht (wpAny_bind (wpAny_holding (draw_tuple hlt items.size 0 _ _ ⟨_, Heap.get?_push_size _ rfl, rfl, rfl⟩ (ht.push _) (by omega) fun h1 hit1 hs1 => ?_)))))
  rw [show List.take items.size (List.drop 0 items.toList) = items.toList from by rw [List.drop_zero]; exact List.take_of_length_le (by simp), if_neg (by simp)]
  have ht1 : IsTup h1 u items := (ht.push _).extBut hs1.extBut hlt
  refine wpAny_bind (wpAny_holding (tup_endH (fun g k => hH g fun b o z => k b o (Nat.ne_of_lt (Heap.lt_size z)) (hs1.extBut b o (Nat.ne_of_lt (Heap.lt_size z)) (Heap.get?_push_of_some _ z))) hit1 ht1 (by simp) fun h2 he2 => ?_))
  simp only [Option.isSome_none, Bool.false_eq_true, if_false]
  exact wpAny_pure (hQ h2 fun b o hb e => he2 b o hb (hs1.extBut b o hb (Heap.get?_push_of_some _ e)))
theorem assign_tupH {env : Env} {elts : List Expr} {x1 : Nat} {pos : Pos} {u : Addr} {items : Array Value} {Q : Unit → Shared → Prop} (hH : ∀ g, (∀ b o, s.heap.get? b = some o → g.get? b = some o) → Hld A.in1 g) (ht : IsTup s.heap u items)
    (hn : (assignEach elts env).length = items.size) (hstar : (assignEach elts env).findIdx? (·.1) = none)
    (h : ∀ h', Heap.ExtBut s.heap.objs.size s.heap h' → wpAny (model prog w) A (assignInOrder ((assignEach elts env).map (·.2)) items.toList) Q E { s with heap := h' }) : wpAny (model prog w) A (assign (.Tuple elts x1 pos) env (.ref u)) Q E s := by
  rw [assign_Tuple]
  refine wpAny_bind (wpAny_standAt ?_)
  unfold unpack
  rw [hn, hstar]
  exact wpAny_bind (wpAny_holding (unpackH hH ht h))
end
end L2

set_option Elab.async false
set_option linter.all false
set_option maxRecDepth 100000
namespace L2
open PySem PySem.Spec PyProof.Rows
def HldX (X : Cx) : Prop := Hld X.A.in1 X.base
theorem HldX.at_it {X : Cx} {pins : List (Addr × Obj)} {σ : St} {H : Hp} {s : Shared} {g : Heap} {it a : Addr} {i : Nat} (hc : HldX X) (I : Inv X pins σ H s) (st : s.heap.IsListIter it a i) (k : ∀ b o, b ≠ it → s.heap.get? b = some o → g.get? b = some o) : Hld X.A.in1 g := by
  obtain ⟨h, oh, vs, e1, e2, e3, e4⟩ := hc.ex
  have e5 := I.bk _ _ e2
  refine ⟨h, oh, vs, e1, k h oh (fun q => ?_) e5, e3, e4⟩
  obtain ⟨o, z1, z2, z3⟩ := id st
  rw [q, z1] at e5
  cases e5
  rw [e3] at z3
  cases z3
  cases e4
structure TurnH (P : Program) (w : World) (K : PySem.W.Frag) (tg : Expr) (J : It) (fp : List Addr) (it : Addr) (tn : Nat → Heap → Prop) : Prop where
  mem : it ∈ fp
  obj : ∀ i h, tn i h → ∀ b ∈ fp, ∃ o, h.get? b = some o ∧ ∀ v, o.data ≠ .cell v
  keep : ∀ i h h', tn i h → (∀ b ∈ fp, ∀ o, h.get? b = some o → h'.get? b = some o) → tn i h'
  item : ∀ (X : Cx), X.prog = P → X.w = w → X.K = K → HldX X → ∀ (i : Nat) (pins : List (Addr × Obj)) (s : Shared) (σ : St) (H : Hp) (E : Value → Shared → Prop), Inv X pins σ H s → (∀ b ∈ fp, FpOk X pins H b) → tn i s.heap → J.go i H →
    wpAny (model P w) X.A (pyNext (.ref it)) (fun r s1 => ∃ u, r = some u ∧
      wpAny (model P w) X.A (letOwnedTupleGo tg (.ref it) u) (fun _ s2 => ∃ x H', Inv X pins σ H' s2 ∧ RelV x u ∧ J.yld i H x H' ∧ tn (i + 1) s2.heap ∧ ∀ b ∈ fp, H' b = none) E s1) E s
  done : ∀ (X : Cx), X.prog = P → X.w = w → X.K = K → HldX X → ∀ (i : Nat) (pins : List (Addr × Obj)) (s : Shared) (σ : St) (H : Hp) (E : Value → Shared → Prop), Inv X pins σ H s → (∀ b ∈ fp, FpOk X pins H b) → tn i s.heap → J.stop i H →
    wpAny (model P w) X.A (pyNext (.ref it)) (fun r s1 => r = none ∧ Inv X pins σ H s1) E s
  self : ∀ (A : Around) (i : Nat) (s : Shared) (Q : Value → Shared → Prop) (E : Value → Shared → Prop), tn i s.heap → Q (.ref it) s → wpAny (model P w) A (pyIter (.ref it)) Q E s
/-- an iterator has come -/
def PIEH (X : Cx) (pins : List (Addr × Obj)) (σ : St) (tg : Expr) (R : It → Hp → Prop) (itv : Value) (s2 : Shared) : Prop :=
  ∃ (it : Addr) (fp : List Addr) (tn : Nat → Heap → Prop) (J : It) (H' : Hp), itv = .ref it ∧ Inv X pins σ H' s2 ∧ TurnH X.prog X.w X.K tg J fp it tn ∧ tn 0 s2.heap ∧ (∀ b ∈ fp, FpOk X pins H' b) ∧ R J H'
def PIH (X : Cx) (tg iter : Expr) (wi : TI) : Prop :=
  ∀ (pins : List (Addr × Obj)) (s : Shared) (σ : St) (H : Hp) (R : It → Hp → Prop), Inv X pins σ H s → wi σ H R →
    wpAny (model X.prog X.w) X.A (eval iter X.env) (fun v s1 => wpAny (model X.prog X.w) X.A (pyIter v) (PIEH X pins σ tg R) X.xe s1) X.xe s

theorem turn_listH {P : Program} {w : World} {K : PySem.W.Frag} {tg : Expr} (a it : Addr) : TurnH P w K tg (Itl K a) [it] it (fun i h => h.IsListIter it a i) where
  mem := by simp
  obj := fun i h st b hb => by
    have e : b = it := by simpa using hb
    subst e
    obtain ⟨o, e, c, d⟩ := st
    exact ⟨o, e, fun v z => by rw [d] at z; cases z⟩
  keep := fun i h h' st k => st.at fun o e => k it (by simp) o e
  item := by
    intro X hP hw hK hc i pins s σ H E I hf st hg
    subst hP hw hK
    obtain ⟨xs, x, hq, hx⟩ := hg
    obtain ⟨its, rv, p, hz⟩ := I.list hq
    obtain ⟨u, hu, ru⟩ := rv.get hx
    obtain ⟨f0, f1, f2, f3, f4, f5⟩ := hf it (by simp)
    refine wpAny_pyNext_list_item st p.isList (x := u) (by simpa using hu) fun h' st' sb => ?_
    have I1 : Inv X pins σ H { s with heap := h' } := I.turned (t' := s.toks) (fun b o hb e => (sb.2 b hb).trans e) f0 f1 f3 f4 f5
    obtain ⟨o, e, c, d⟩ := id st'
    exact ⟨u, rfl, go_of (s := { s with heap := h' }) e c d (by decide) ⟨x, H, I1, ru, ⟨rfl, fun ys hy => by rw [I.list_inj hy hq]; exact hx⟩, st', fun b hb => (hf b hb).1⟩⟩
  done := by
    intro X hP hw hK hc i pins s σ H E I hf st hg
    subst hP hw hK
    obtain ⟨xs, hq, hx⟩ := hg
    obtain ⟨its, rv, p, hz⟩ := I.list hq
    obtain ⟨f0, f1, f2, f3, f4, f5⟩ := hf it (by simp)
    have hl := rv.length
    exact list_endH (fun g k => hc.at_it I st k) st p.isList (by simp; omega) fun h' eb => ⟨rfl, I.turned (t' := s.toks) (fun b o hb e => eb b o hb e) f0 f1 f3 f4 f5⟩
  self := fun _ _ _ _ _ st h => wpAny_pyIter_listiter st h
section
variable {X : Cx} {tg : Expr}
theorem pi_listH {l : Expr} {tl : TE} (hl : PE X l tl) : PIH X tg l (iList X.K tl) := by
  intro pins s σ H R I h
  refine thn (hl pins s σ H _ I h) fun v s1 ⟨x, H1, I1, r1, q1⟩ => ?_
  obtain ⟨a, e, ⟨xs, hq⟩, q⟩ := q1
  subst e
  cases r1
  obtain ⟨its, rv, p, hz⟩ := I1.list hq
  refine wpAny_pyIter_list p.isList ?_
  refine ⟨s1.heap.objs.size, [s1.heap.objs.size], _, _, H1, rfl, I1.kept (t' := s1.toks) fun b o e => Heap.get?_push_of_some _ e, turn_listH a _, ⟨_, Heap.get?_push_size _ rfl, rfl, rfl⟩, fun b hb => ?_, q⟩
  have e : b = s1.heap.objs.size := by simpa using hb
  subst e
  exact I1.fpOk (Nat.le_refl _) (I1.hok.fresh (Nat.le_refl _))
end
section
variable {X : Cx} {pos : Pos}
theorem pg_tupH {es : List Expr} {k : Nat} {t : TGs} {n : Nat} (hc : HldX X) (h : PGs X es t)
    (hn : (assignEach es X.env).length = n := by rfl) (hst : (assignEach es X.env).findIdx? (·.1) = none := by rfl) : PG X (.Tuple es k pos) (gTup X.K n t) := by
  intro pins s σ H v u Q I r hw
  obtain ⟨a, xs, e1, hq, hl, hw⟩ := hw
  subst e1
  cases r
  obtain ⟨its, rv, ht, hz⟩ := I.tuple hq
  refine assign_tupH (fun g k => Hld.keeps (Hld.keeps hc I.bk) k) ht (by simp [hn, ← hl, rv.length]) hst fun h' hx => ?_
  have I1 : Inv X pins σ H { s with heap := h' } := I.kept (t' := s.toks) fun b o e => hx b o (Nat.ne_of_lt (Heap.lt_size e)) e
  exact h pins _ σ H xs _ Q I1 (by simpa using rv) hw
end
section
variable {X : Cx}
theorem lc_coreH {pins : List (Addr × Obj)} {s : Shared} {σ : St} {H : Hp} {Q : VK} {elt tg iter : Expr} {ifs : List Expr} {scope : Scope} {own : List (Str × Nat)} {pos pos' : Pos} {wi : TI} {g : TG} {tt : TT} {te : TE} {use : Option (Value → Sem Unit)} {Qf : Value → Shared → Prop}
    (hc : HldX X) (hN : X.N.Nodup) (I : Inv X pins σ H s) (hi : PIH X tg iter wi) (ok : BlkOk X.N X.env.scope scope own)
    (hg : ∀ (s : Shared) (H : Hp) (C : Addr) (cl : List (Str × Addr)) (fp : List Addr), PG (X.blk s H scope (compEnvC scope cl C X.env) fp) tg g) (ht : ∀ (s : Shared) (H : Hp) (C : Addr) (cl : List (Str × Addr)) (fp : List Addr), PTs (X.blk s H scope (compEnvC scope cl C X.env) fp) ifs tt)
    (he : ∀ (s : Shared) (H : Hp) (C : Addr) (cl : List (Str × Addr)) (fp : List Addr), PE (X.blk s H scope (compEnvC scope cl C X.env) fp) elt te) (hs : ∀ x, foldedSetIterable iter X.env x = pure x)
    (h : tLc wi g tt te (own.map (·.2)) σ H Q)
    (hRR : ∀ D C s' m H', Inv X pins σ H' s' → Q (.ref D) H' → s'.heap.Ns C m → FpOk X pins H' C → compPost (model X.prog X.w) X.A X.xe use Qf (.ref D) C (.ok .next) s') :
    wpAny (model X.prog X.w) X.A (comprehension (.ListComp elt [⟨tg, iter, ifs, 0⟩] scope pos) scope X.env pos' (newList []) false (eval iter X.env) use) Qf X.xe s := by
  have hfree : ∀ y ∈ scope.names, y.2 = .free → ∃ c, X.env.cells.lookup y.1 = some c := fun y hy e => by
    rcases ok.free y hy e with k | k
    · exact I.ok.has _ (.inl k)
    · exact I.ok.has _ (.inr k)
  refine wpAny_comprehension_free (use := use) rfl hs (closure_ok hfree) ok.kind (fun y hy e => by rw [ok.uniq y hy, e])
    (thn (hi pins s σ H _ I h) fun xv s1 hx => thn hx fun itv s2 h2 => ?_)
  obtain ⟨it, fp, tn, J, H2, e, I2, T, st2, f2, q⟩ := h2
  subst e
  refine wpAny_newObj_type (newEnv_comp ?_) (by show 0 ≤ sizeLine; decide)
  generalize hD : s2.heap.objs.size = D
  have hDn : H2 D = none := I2.hok.fresh (Nat.le_of_eq hD)
  obtain ⟨W, ⟨m0, w0⟩, turn⟩ := q D hDn
  -- the new list
  generalize hs3 : ({ s2 with heap := s2.heap.push { cls := .type "list", data := .seq ([] : List Value).toArray } } : Shared) = s3
  have I3 : Inv X pins σ (upd H2 D (.lst [])) s3 := by
    rw [← hs3]
    refine I2.laid (t' := s2.toks) (fun b o e => Heap.get?_push_of_some _ e) (Nat.le_of_eq hD) ⟨Nat.zero_le _, [], 0, .nil, ?_⟩
    rw [← hD]
    exact Heap.get?_push_size _ rfl
  have h3 : s3.heap = s2.heap.push { cls := .type "list", data := .seq ([] : List Value).toArray } := by rw [← hs3]
  have sz : ∀ b ∈ fp, b < s2.heap.objs.size := fun b hb => by
    obtain ⟨o, e, _⟩ := T.obj _ _ st2 b hb
    exact Heap.lt_size e
  have f3 : ∀ b ∈ fp, FpOk X pins (upd H2 D (.lst [])) b ∧ b < s3.heap.objs.size := fun b hb => by
    have hlt := sz b hb
    refine ⟨⟨?_, (f2 b hb).2⟩, by rw [h3, Heap.size_push]; exact Nat.lt_succ_of_lt hlt⟩
    rw [upd_ne (by rw [← hD]; exact Nat.ne_of_lt hlt)]
    exact (f2 b hb).1
  have st3 : tn 0 s3.heap := T.keep _ _ _ st2 fun b _ o e => by rw [h3]; exact Heap.get?_push_of_some _ e
  have I4 := block_start I3 ok hN f3
  have pg := hg s3 (upd H2 D (.lst [])) s3.heap.objs.size (cellsFrom (s3.heap.objs.size + 1) scope.names (cloFrom X.env.cells scope.names [])) fp
  have pt := ht s3 (upd H2 D (.lst [])) s3.heap.objs.size (cellsFrom (s3.heap.objs.size + 1) scope.names (cloFrom X.env.cells scope.names [])) fp
  have pe := he s3 (upd H2 D (.lst [])) s3.heap.objs.size (cellsFrom (s3.heap.objs.size + 1) scope.names (cloFrom X.env.cells scope.names [])) fp
  show codeAny _ _ (.compStart (.ListComp elt [⟨tg, iter, ifs, 0⟩] scope pos) 0 (.ref it) (.ref D) (compEnvC scope (cellsFrom (s3.heap.objs.size + 1) scope.names (cloFrom X.env.cells scope.names [])) s3.heap.objs.size X.env)) (compPost (model X.prog X.w) X.A X.xe use Qf (.ref D) s3.heap.objs.size) { s3 with heap := pushCells (s3.heap.push { cls := .type "dict", data := .dict #[] }) scope.names }
  have nfp : ∀ b ∈ fp, (upd H2 D (.lst [])) b = none := fun b hb => (f3 b hb).1.1
  generalize hce : compEnvC scope (cellsFrom (s3.heap.objs.size + 1) scope.names (cloFrom X.env.cells scope.names [])) s3.heap.objs.size X.env = ce at I4 pg pt pe ⊢
  have cL : ce.locals = s3.heap.objs.size := by subst hce; rfl
  generalize hH3 : upd H2 D (.lst []) = H3 at I3 I4 pg pt pe w0 nfp f3
  generalize hs4 : ({ s3 with heap := pushCells (s3.heap.push { cls := .type "dict", data := .dict #[] }) scope.names } : Shared) = s4 at I4 ⊢
  have st4 : tn 0 s4.heap := T.keep _ _ _ st3 fun b _ o e => by rw [← hs4]; exact pushCells_keeps _ _ _ _ (Heap.get?_push_of_some _ e)
  have stat : ∀ {σ' : St} {H' : Hp} {s' : Shared}, Inv (X.blk s3 H3 scope ce fp) [] σ' H' s' → (∀ b ∈ fp, H' b = none) → ∀ b ∈ fp, FpOk (X.blk s3 H3 scope ce fp) [] H' b := fun {σ' H' s'} I' hn b hb =>
    ⟨hn b hb, (I'.ok.exf b hb).1, I'.ok.exfs b hb, .inl hb, fun x c e => (I'.ok.exf b hb).2 x c e, fun p hp => absurd (show p ∈ ([] : List (Addr × Obj)) ++ [] from hp) (by simp)⟩
  have loop : codeAny (model X.prog X.w) X.A (.compLoop (.ListComp elt [⟨tg, iter, ifs, 0⟩] scope pos) 0 (.ref it) (.ref D) ce) (compPost (model X.prog X.w) X.A X.xe use Qf (.ref D) s3.heap.objs.size) s4 := by
    refine compLoop_any (fun n s' => ∃ i H', Inv (X.blk s3 H3 scope ce fp) [] (wipe σ (own.map (·.2))) H' s' ∧ tn i s'.heap ∧ (∀ b ∈ fp, H' b = none) ∧ W i n H') ?_ m0 ⟨0, H3, I4, st4, nfp, w0⟩
    rintro n s5 ⟨i, H5, I5, st5, n5, w5⟩
    rcases turn i n H5 w5 with ⟨stop, qq⟩ | ⟨go, Nx, hNx, step⟩
    · have td := T.done (X.blk s3 H3 scope ce fp) rfl rfl rfl hc i [] s5 _ H5 (fun _ _ => False) I5 (stat I5 n5) st5 stop
      refine thnF td fun r s6 ⟨hr, I6⟩ => ?_
      subst hr
      -- back in the def's context
      have I7 : Inv X pins σ H5 s6 := I3.call' (ch := fp) I6.os I6.base I6.hok I6.bare fun b hb => ⟨(f3 b hb).1.2.2.2.1, (f3 b hb).1.2.1, (f3 b hb).1.2.2.2.2.1, (f3 b hb).1.2.2.2.2.2⟩
      have nC : H5 s3.heap.objs.size = none := by
        have z : H5 ce.locals = none := I6.free
        rw [cL] at z
        exact z
      obtain ⟨m, hn, _⟩ := I6.loc
      have hn : s6.heap.Ns ce.locals m := hn
      rw [cL] at hn
      exact hRR D s3.heap.objs.size s6 m H5 I7 qq hn (I3.fpOk (Nat.le_refl _) nC)
    · have ti := T.item (X.blk s3 H3 scope ce fp) rfl rfl rfl hc i [] s5 _ H5 (fun _ _ => False) I5 (stat I5 n5) st5 go
      refine thnF ti fun r s6 ⟨u, hr, h6⟩ => ?_
      subst hr
      refine thnF h6 fun _ s7 ⟨x, H7, I7, r7, y7, st7, n7⟩ => ?_
      have I7' := I7.pinned (stat I7 n7) (T.obj _ _ st7)
      refine thnF (pg _ s7 _ H7 x u _ I7' r7 (step x H7 y7)) fun _ s8 ⟨σ8, H8, I8, hw8, q8⟩ => ?_
      refine thnF (pt _ s8 σ8 H8 _ I8 q8) fun b s9 ⟨H9, I9, q9⟩ => ?_
      -- the turn's end
      have fin : ∀ {s' : Shared} {H' : Hp}, Inv (X.blk s3 H3 scope ce fp) ([] ++ pinsAt fp s7.heap) σ8 H' s' → Nx H' → ∃ m, m < n ∧ ∃ i H', Inv (X.blk s3 H3 scope ce fp) [] (wipe σ (own.map (·.2))) H' s' ∧ tn i s'.heap ∧ (∀ b ∈ fp, H' b = none) ∧ W i m H' := fun {s' H'} I' nx => by
        obtain ⟨m', hm, w'⟩ := hNx H' nx
        have pin' : ∀ b ∈ fp, ∀ o, s7.heap.get? b = some o → s'.heap.get? b = some o ∧ H' b = none := fun b hb o e =>
          let z := I'.pin (b, o) (List.mem_append_right _ (List.mem_append_right _ (mem_pinsAt hb e)))
          ⟨z.1, z.2.1⟩
        have hl : (wipe σ (own.map (·.2))).length = σ8.length := by rw [← hw8, wipe_length]
        refine ⟨m', hm, i + 1, H', (I'.unpinned (pins := [])).weak hl (fun j v e => ?_), T.keep _ _ _ st7 fun b hb o e => (pin' b hb o e).1, fun b hb => ?_, w'⟩
        · rw [← hw8] at e
          exact (wipe_some e).1
        · obtain ⟨o, e, _⟩ := T.obj _ _ st7 b hb
          exact (pin' b hb o e).2
      cases b with
      | false =>
        simp only [Bool.false_eq_true, if_false] at q9 ⊢
        exact fin I9 q9
      | true =>
        simp only [if_true] at q9 ⊢
        refine thnF (pe _ s9 σ8 H9 _ I9 q9) fun z s10 ⟨yv, H10, I10, r10, acc, hD10, hz10, nx⟩ => ?_
        exact app_ok (X := X.blk s3 H3 scope ce fp) I10 hD10 hz10 r10 fun s11 I11 => fin I11 nx
  exact codeAny_compStart_list loop (T.self X.A 0 _ _ _ st4 loop)
theorem pe_lcH {elt tg iter : Expr} {ifs : List Expr} {scope : Scope} {own : List (Str × Nat)} {pos : Pos} {wi : TI} {g : TG} {tt : TT} {te : TE} (hc : HldX X) (hN : X.N.Nodup) (hi : PIH X tg iter wi) (ok : BlkOk X.N X.env.scope scope own)
    (hg : ∀ (s : Shared) (H : Hp) (C : Addr) (cl : List (Str × Addr)) (fp : List Addr), PG (X.blk s H scope (compEnvC scope cl C X.env) fp) tg g) (ht : ∀ (s : Shared) (H : Hp) (C : Addr) (cl : List (Str × Addr)) (fp : List Addr), PTs (X.blk s H scope (compEnvC scope cl C X.env) fp) ifs tt)
    (he : ∀ (s : Shared) (H : Hp) (C : Addr) (cl : List (Str × Addr)) (fp : List Addr), PE (X.blk s H scope (compEnvC scope cl C X.env) fp) elt te) (hs : ∀ x, foldedSetIterable iter X.env x = pure x := by intro _; rfl) :
    PE X (.ListComp elt [⟨tg, iter, ifs, 0⟩] scope pos) (tLc wi g tt te (own.map (·.2))) := by
  intro pins s σ H Q I h
  rw [eval_ListComp]
  refine lc_coreH hc hN I hi ok hg ht he hs h fun D C s' m H' I' q hn f => ⟨m, hn, fun h'' sb => ?_⟩
  obtain ⟨f0, f1, f2, f3, f4, f5⟩ := f
  exact ⟨.ref D, H', I'.turned (t' := s'.toks) (fun b o hb e => (sb.2 b hb).trans e) f0 f1 f3 f4 f5, rfl, q⟩
end
end L2

set_option Elab.async false
set_option linter.all false
set_option maxRecDepth 100000
namespace L2
open PySem PySem.Spec PyProof.Rows
structure RoomN (k : Nat) (A : Around) : Prop where
  dp : A.depth + 3 * k + 5 < recursionLimit
theorem RoomN.depth {k : Nat} {A : Around} (r : RoomN k A) : A.depth < recursionLimit := by have := r.dp; omega
theorem RoomN.deeper {k : Nat} {A : Around} (r : RoomN (k + 1) A) (env : Env) : RoomN k (A.deeper env) := ⟨by have := r.dp; show A.depth + 1 + 3 * k + 5 < _; omega⟩
theorem Hld.deep {A : Around} {env : Env} {g : Heap} (x : Hld A.in1 g) : Hld (A.deeper env).in1 g := let ⟨h, oh, vs, a, b, c, d⟩ := x.ex; ⟨h, oh, vs, a, b, c, d⟩
/-- a def that is called while an exception is handled -/
structure FnOkH (P : Program) (w : World) (K : PySem.W.Frag) (mg : Str → Option Value) (base : Heap) (CX : CXT) (k : Nat) (f : Addr) (fd : FuncData) (ps : List Str) (sp : Sp) : Prop where
  len : ∀ vs H Q E, sp vs H Q E → vs.length = ps.length
  run : ∀ (A : Around) (outer : List Env) (s : Shared) (H : Hp) (args : Args) (us : List Value) (vs : List V) (Q : VK) (E : XK), RoomN k A → Hld A.in1 base → Env0 P w K mg base A outer s H → BindsTo s fd args (ps.zip us) → Vals vs us → sp vs H Q E →
    codeAny (model P w) A (.call (.ref f) args) (CR CX outer P w H s Q E) s
/-- the context of a def's body, at its entry; an exception leaves the frame, then lies as CX says -/
def cxOfN (CX : CXT) (P : Program) (w : World) (K : PySem.W.Frag) (mg : Str → Option Value) (base : Heap) (N : List Str) (qual : Str) (scope : Scope) (f : Addr) (cd : Value) (A : Around) (outer : List Env) (s : Shared) (H : Hp) (E : XK) : Cx where
  prog := P
  w := w
  K := K
  mg := mg
  base := base
  A := A.deeper (envOfC qual scope s.heap.objs.size f cd)
  N := N
  s_0 := s
  H_0 := H
  env := envOfC qual scope s.heap.objs.size f cd
  outer := outer
  stack := envOfC qual scope s.heap.objs.size f cd :: outer
  ex := []
  calm := false
  fn := fun _ => true
  pn := []
  xe := fun e s' => wpAny (model P w) (A.deeper (envOfC qual scope s.heap.objs.size f cd)) (leaving (envOfC qual scope s.heap.objs.size f cd) e) (fun _ s'' => CX outer H s E e s'') (fun e' s'' => CX outer H s E e' s'') s'

theorem inv_startN {CX : CXT} {P : Program} {w : World} {K : PySem.W.Frag} {mg : Str → Option Value} {base : Heap} {N ps : List Str} {qual : Str} {scope : Scope} {f : Addr} {cd : Value} {A : Around} {outer : List Env} {s s1 : Shared} {H : Hp} {E : XK} {us : List Value} {vs : List V}
    (S : FnScope N ps scope) (e0 : Env0 P w K mg base A outer s H) (hl : vs.length = ps.length) (r : Vals vs us)
    (x : InCallC s s.heap.objs.size (bindL (envOfC qual scope s.heap.objs.size f cd).kindOf (ps.zip us) fun _ => none) (cellsFrom (s.heap.objs.size + 1) scope.names []) (bindC (envOfC qual scope s.heap.objs.size f cd).kindOf (ps.zip us) fun _ => none) s1) :
    Inv (cxOfN CX P w K mg base N qual scope f cd A outer s H E) [] (start N vs) H s1 := by
  have hpl : ps.length ≤ N.length := by have := congrArg List.length S.pre; rw [List.length_take] at this; omega
  obtain ⟨h1, tk, rfl, hk⟩ := x.done
  have noA : ∀ b : Addr, b ∉ (cxOfN CX P w K mg base N qual scope f cd A outer s H E).ex := fun b z => absurd (show b ∈ ([] : List Addr) from z) (by simp)
  refine ⟨⟨e0.mod, S.kind, rfl, rfl, Nat.le_refl _, fun y z c h1 h2 => ?_, fun y hy => ?_, fun y c _ h => ?_, (fun z => nomatch z), Around.frames_deeper e0.frames, .inr ⟨rfl, rfl⟩, fun b z => absurd z (noA b), e0.bs, e0.bsz, fun b _ _ => noA b, fun b z => absurd z (noA b), e0.funs, e0.frf⟩,
    rfl, e0.bare, Un.kept hk, ⟨_, x.toInCall.ns, fun i y v h1 h2 h3 => ?_⟩, fun y c h => ⟨_, x.cell y c h⟩, e0.hok.fresh (Nat.le_refl _), fun y c h => ?_, fun p hp => absurd (show p ∈ ([] : List (Addr × Obj)) from hp) (by simp), e0.hok.kept hk, ?_⟩
  · exact name_of_addr x.apart (PySem.mem_of_lookup h1) (PySem.mem_of_lookup h2)
  · have hy : scope.names.lookup y = some .cell ∨ scope.names.lookup y = some .free := hy
    rcases hy with hy | hy
    · exact cell_has hy
    · exact absurd rfl (S.nofree _ (PySem.mem_of_lookup hy))
  · exact Nat.le_of_lt (x.above y c (PySem.mem_of_lookup h))
  · have hi : i < vs.length := by
      unfold start at h2
      by_cases hi : i < vs.length
      · exact hi
      · rw [List.getElem?_append_right (by simpa using hi)] at h2
        rw [List.getElem?_replicate] at h2
        split at h2 <;> cases h2
    have ha : vs[i]? = some v := by
      unfold start at h2
      rw [List.getElem?_append_left (by simpa using hi), List.getElem?_map] at h2
      cases e : vs[i]? with
      | none => rw [e] at h2; cases h2
      | some a => rw [e] at h2; cases h2; rfl
    obtain ⟨u, hu, rv⟩ := r.get ha
    have hp : ps[i]? = some y := by
      rw [← S.pre, List.getElem?_take_of_lt (by omega)]; exact h1
    have ndP : ps.Nodup := by rw [← S.pre]; exact S.nd.sublist (List.take_sublist _ _)
    refine ⟨u, rv, ?_⟩
    rcases S.par y (List.mem_of_getElem? hp) with k | k
    · exact .inl ⟨k, bindL_get ndP hp hu k⟩
    · obtain ⟨c, e⟩ := cell_has (n := s.heap.objs.size + 1) k
      refine .inr ⟨.inl k, c, e, ?_⟩
      have q := x.cell y c e
      rw [bindC_get ndP hp hu (by show scope.names.lookup y ≠ _; rw [k]; decide)] at q
      exact q
  · exact e0.hok.fresh (Nat.le_of_lt (x.above y c (PySem.mem_of_lookup h)))
  · unfold start
    show _ = N.length
    rw [List.length_append, List.length_map, List.length_replicate]
    omega

theorem fn_ofN {CX : CXT} {P : Program} {w : World} {K : PySem.W.Frag} {mg : Str → Option Value} {base : Heap} {k : Nat} {f : Addr} {name qual : Str} {params : Arguments} {body : List Stmt} {scope : Scope} {dV kV doc pm cdv ct oc : Value} {an od : Option Addr}
    {osl : Array (Option Value)} {N ps : List Str} {sp : Sp} (lk : K.lookup f = some ⟨oc, od, .func (PySem.W.fnOf name qual params body scope dV kV doc pm an cdv ct), osl⟩) (hcd : PySem.W.codeIn K cdv qual = true) (S : FnScope N ps scope)
    (len : ∀ vs H Q E, sp vs H Q E → vs.length = ps.length)
    (hbody : ∀ (A : Around) (outer : List Env) (s : Shared) (H : Hp) (vs : List V) (Q : VK) (E : XK), RoomN k (A.deeper (envOfC qual scope s.heap.objs.size f cdv)) → HldX (cxOfN CX P w K mg base N qual scope f cdv A outer s H E) → sp vs H Q E →
      ∃ t, PSs (cxOfN CX P w K mg base N qual scope f cdv A outer s H E) body t ∧ t { nx := fun _ H' => Q .non H', rt := Q } (start N vs) H) :
    FnOkH P w K mg base CX (k + 1) f (PySem.W.fnOf name qual params body scope dV kV doc pm an cdv ct) ps sp := by
  refine ⟨len, fun A outer s H args us vs Q E hr hH e0 hb r hsp => ?_⟩
  have hl := len _ _ _ _ hsp
  have KX : K.In s.heap := e0.mod.kin.keeps fun b o e => (e0.bs b o e).1
  have lim : s.heap.NoLimit := e0.mod.nolimit.keeps fun b o e => (e0.bs b o e).1
  have hkind : ∀ y ∈ ps.zip us, scope.names.lookup y.1 = some .local ∨ (scope.names.lookup y.1 = some .cell ∧ ((cellsFrom (s.heap.objs.size + 1) scope.names []).lookup y.1).isSome = true) := fun ⟨n, v⟩ hy => by
    rcases S.par n (List.of_mem_zip hy).1 with q | q
    · exact .inl q
    · exact .inr ⟨q, PySem.W.cellsFrom_some _ _ _ (.inl q)⟩
  refine codeAny_call_function hr.depth (KX _ _ lk) rfl S.co S.gen rfl (PySem.W.codeRec_of KX hcd) (hb _ _ _ _ ?_)
  refine wpAny_newFunctionEnv_cells S.kind hkind fun env he s1 x => ?_
  subst he
  refine ⟨lim.keeps x.toInCall.keep, codeAny_func ?_⟩
  obtain ⟨t, ht, hq⟩ := hbody A outer s H vs Q E (hr.deeper _) (Hld.deep hH) hsp
  have I : Inv (cxOfN CX P w K mg base N qual scope f cdv A outer s H E) [] (start N vs) H s1 := inv_startN S e0 hl r x
  refine wpAny_mono (ht [] s1 (start N vs) H _ I hq) (fun fl s' hs => ?_) fun e s' hs => hs
  have fin : ∀ {σ' : St} {H' : Hp} {v : V} {u : Value}, Inv (cxOfN CX P w K mg base N qual scope f cdv A outer s H E) [] σ' H' s' → RelV v u → Q v H' → CE outer P w H s Q u s' :=
    fun {σ' H' v u} J rv q => ⟨v, H', J.os, J.bare, J.base, J.hok, rv, q⟩
  cases fl with
  | ret u =>
    obtain ⟨v, σ', H', J, rv, q⟩ := hs
    exact fin J rv q
  | next =>
    obtain ⟨σ', H', J, q⟩ := hs
    exact fin (v := V.non) (u := Value.none) J rfl q
  | brk =>
    obtain ⟨_, _, _, q⟩ := hs
    exact False.elim q
  | cont =>
    obtain ⟨_, _, _, q⟩ := hs
    exact False.elim q
section
variable {P : Program} {w : World} {K : PySem.W.Frag} {mg : Str → Option Value} {base : Heap}
theorem Fun.okH {x qual : Str} {st : Stmt} {f : Addr} {fd : FuncData} {N ps : List Str} {k : Nat} {sp : Sp} (F : Fun K x qual st f fd) (S : FnScope N ps (defScope st)) (len : ∀ vs H Q E, sp vs H Q E → vs.length = ps.length)
    (hbody : ∀ (cdv : Value) (A : Around) (outer : List Env) (s : Shared) (H : Hp) (vs : List V) (Q : VK) (E : XK), RoomN k (A.deeper (envOfC qual (defScope st) s.heap.objs.size f cdv)) → HldX (cxOfN CX0 P w K mg base N qual (defScope st) f cdv A outer s H E).nox → sp vs H Q E →
      ∃ t, PSs (cxOfN CX0 P w K mg base N qual (defScope st) f cdv A outer s H E).nox (defBody st) t ∧ t { nx := fun _ H' => Q .non H', rt := Q } (start N vs) H) : FnOkH P w K mg base CX0 (k + 1) f fd ps sp := by
  obtain ⟨oc, od, kV, doc, pm, an, cdv, ct, osl, rfl, lk, hcd⟩ := F.ex
  refine fn_ofN lk hcd S len fun A outer s H vs Q E hr hH hsp => ?_
  obtain ⟨t, h, q⟩ := hbody cdv A outer s H vs Q E hr hH hsp
  exact ⟨t, h.nox, q⟩
end
end L2

set_option Elab.async false
set_option linter.all false
set_option maxRecDepth 100000
namespace L2
open PySem PySem.Spec PyProof.Rows
/-! a call within an except suite; what is asked of the exception there -/
section
variable {X : Cx}
/-- the exception stands in the base -/
def ExcB (base : Heap) (e C : Addr) : Prop := ∃ vs, base.get? e = some (excObj (.ref C) none vs)
/-- isinstance(e, D) of an exception that stands in the base, D an own class -/
theorem cr_isiB : CallR X (.builtin "isinstance") (fun xs H Q => ∃ (e C D : Addr) (b : Bool), xs = [.ref e, .ref D] ∧ ExcB X.base e C ∧ ExcK X.K C ∧ PySem.W.kitOne X.K (.ref C) (.ref D) = some b ∧ Q (.bl b) H) := by
  intro pins s σ H xs us Q I r h
  obtain ⟨e, C, D, b, rfl, ⟨vs, he⟩, Z, hk, q⟩ := h
  cases r with
  | cons r1 rr =>
    cases rr with
    | cons r2 rr =>
      cases rr
      cases (show _ = Value.ref e from r1)
      cases (show _ = Value.ref D from r2)
      have J : PySem.W.InstAt s.heap e (excObj (.ref C) none vs) C none := ⟨I.bk _ _ he, rfl, rfl, True.intro⟩
      exact PySem.W.kia_one (kitx_exc Z) I.kIn J hk (fun z => nomatch z) fun tk => ⟨.bl b, H, I.tok _, rfl, q⟩
/-- f(..) within an except suite: f runs over all that is not tracked, the exception among it -/
theorem pe_callH {k : Nat} {f e : Addr} {fd : FuncData} {ps : List Str} {sp : Heap → Sp} {a0 : Expr} {as : List Expr} {ta : TA} {p pos : Pos} {x : Str} (hA : X.A.handled = some (.ref e))
    (F : ∀ base2, X.K.In base2 → base2.Ns mainGlobals X.mg → FnOkH X.prog X.w X.K X.mg base2 CX0 k f fd ps (sp base2)) (hr : RoomN k X.A) (hg : Gl X x) (hm : X.mg x = some (.ref f)) (hk : PySem.W.keepIn X.K (.ref f) = true) (hb : Binds X.K fd ps []) (ha : PA X (a0 :: as) ta)
    (hdb : (x == ("__debug__" : Str)) = false := by decide) (he : starEach (a0 :: as) X.env = (false, eval a0 X.env) :: starEach as X.env := by rfl) (hpl : (backTo pos (starEach as X.env)).any (·.1) = false := by rfl) :
    PE X (.Call (.Name x p) (a0 :: as) [] pos) (fun σ H Q => ta σ H fun vs H1 => ∃ C, H1 e = some (.ext (exc2 e C none)) ∧ ∀ base2, ExcB base2 e C → sp base2 vs (offH H1 e) Q E0) := by
  intro pins s σ H Q I h
  refine wpAny_Call_Name_kw (ld_glob I hg hm ?_ hdb)
  refine PySem.W.callWith_K (h₀ := X.base) I.ok.mod.kin hk (thn (ha pos pins s σ H _ I h) fun us s1 ⟨vs, H1, I1, r, C, hC, q⟩ => ⟨I1.kIn, ?_⟩) he hpl
  obtain ⟨⟨vx, x1, x2⟩, _, _⟩ := I1.hok e _ hC
  have hstk : e ∉ frs X.stack := fun hm => by
    obtain ⟨_, o, ho, nf⟩ := I1.stack.mem hm
    rw [x1] at ho
    cases ho
    exact nf _ rfl
  have I2 := I1.offX hC
  have e0 := I2.rebase
  have hB : (baseOf X.stack (offH H1 e) s1.heap).get? e = some (excObj (.ref C) none vx) := base_get x1 offH_same hstk
  have q2 := q _ ⟨vx, hB⟩
  have FF := F _ e0.mod.kin e0.mod.glob
  have hl : us.length = ps.length := by rw [← r.length]; exact FF.len _ _ _ _ q2
  refine wpAny_call (codeAny_mono (FF.run X.A X.stack s1 (offH H1 e) ⟨us, []⟩ us vs _ _ hr ⟨e, _, vx, hA, hB, rfl, x2⟩ e0 (by have := hb s1 us I1.kIn (by simpa using hl); simpa using this) r q2) fun r s' hq => ?_)
  cases r with
  | error e => exact hq.elim
  | ok fl =>
    cases fl with
    | ret u => exact I2.after hq
    | next => exact False.elim hq
    | brk => exact False.elim hq
    | cont => exact False.elim hq
end
theorem same_off {H H3 : Hp} {e : Addr} {o : HO} (n : H e = none) (s : Same (offH (upd H e o) e) H3) : Same H H3 := fun b u z => s b u (by
  have ne : b ≠ e := fun q => by rw [q, n] at z; cases z
  rw [offH_ne ne, upd_ne ne]; exact z)
theorem RoomN.held {Y : Cx} {v : Value} {j k : Nat} (r : Room k Y.A) (h : j ≤ k) : RoomN j (Y.held v).A := ⟨by have := r.dp; show Y.A.depth + 3 * j + 5 < _; omega⟩
end L2

set_option Elab.async false
set_option linter.all false
set_option maxRecDepth 100000
namespace L2
open PySem PySem.Spec PyProof.Rows
/-! a board beside a bag -/
theorem BrH.sameB {K : PySem.W.Frag} {H H' : Hp} {C b l d c : Addr} {S : BS} {ds : List (List V)} (h : BrH K H C b l S ds) (B : Bag H d c) (s : SameB d H H') : BrH K H' C b l S ds := by
  obtain ⟨dx, fu, p, n, a, sy, g, qs, ff, I⟩ := h
  have tu := B.tu s
  obtain ⟨xs, hd⟩ := B.lst
  exact ⟨dx, fu, p, n, a, sy, g, qs, ff, s _ _ I.ins (ne_of I.ins hd (by intro q; cases q)), I.st.tu tu, I.ok, s _ _ I.past (B.noRefs I.past), Paired.mapP I.pr fun q d ⟨x, y, h1, h2⟩ => ⟨x, y, tu _ _ h1, tu _ _ h2⟩, s _ _ I.fut (B.noRefs I.fut), I.ne⟩
theorem Bag.off {H H' : Hp} {d c b l C dx : Addr} {fs : List (Str × V)} {qs : List Addr} (B : Bag H d c) (o : Off b l H H') (hb : H b = some (.ins C dx fs)) (hl : H l = some (.lst (qs.map V.ref))) (hc : c ≠ l) : Bag H' d c := by
  have nl := B.noRefs hl
  obtain ⟨i, j, z, cells, h1, h2, h3, h4⟩ := B
  exact ⟨i, j, z, cells, o _ _ h1 (ne_of h1 hb (by intro q; cases q)) nl.symm, o _ _ h2 (ne_of h2 hb (by intro q; cases q)) hc, h3, h4⟩
/-- the bag, the board, a list of names -/
structure CW (K : PySem.W.Frag) (H : Hp) (C d c b l nl : Addr) (ns : List Str) (S : BS) (ds : List (List V)) : Prop where
  bag : Bag H d c
  brd : BrH K H C b l S ds
  nam : H nl = some (.lst (ns.map V.str))
  cl : c ≠ l
section
variable {K : PySem.W.Frag} {H H' : Hp} {C d c b l nl : Addr} {ns : List Str} {S S' : BS} {ds ds' : List (List V)}
theorem CW.nb (h : CW K H C d c b l nl ns S ds) (hn : ns ≠ []) : nl ≠ d := fun q => by
  obtain ⟨i, j, z, cells, h1, _⟩ := h.bag
  have e := h.nam
  rw [q, h1] at e
  cases ns with
  | nil => exact hn rfl
  | cons x r => cases e
theorem CW.pull (h : CW K H C d c b l nl ns S ds) (hn : ns ≠ []) (B : Bag H' d c) (s : SameB d H H') : CW K H' C d c b l nl ns S ds :=
  ⟨B, h.brd.sameB h.bag s, s _ _ h.nam (h.nb hn), h.cl⟩
theorem CW.same (h : CW K H C d c b l nl ns S ds) (s : Same H H') : CW K H' C d c b l nl ns S ds := ⟨h.bag.same s, h.brd.same s, s _ _ h.nam, h.cl⟩
theorem CW.deed (h : CW K H C d c b l nl ns S ds) (hn : ns ≠ []) (o : Off b l H H') (B : BrH K H' C b l S' ds') : CW K H' C d c b l nl ns S' ds' := by
  obtain ⟨dx, fu, p, n, a, sy, g, qs, ff, I⟩ := id h.brd
  refine ⟨h.bag.off o I.ins I.past h.cl, B, o _ _ h.nam (ne_of h.nam I.ins (by intro q; cases q)) (fun q => ?_), h.cl⟩
  have e := h.nam
  rw [q, I.past] at e
  cases ns with
  | nil => exact hn rfl
  | cons x r =>
    cases qs with
    | nil => cases e
    | cons y z => cases e
end
/-! what is put in -/
def numb (n : Nat) : List Int := (List.range n).map fun i : Nat => (i : Int) + 1
theorem numb_succ (n : Nat) : numb (n + 1) = numb n ++ [(n : Int) + 1] := by unfold numb; rw [List.range_succ, List.map_append]; rfl
theorem numb_mem {n : Nat} {z : Int} : z ∈ numb n ↔ 1 ≤ z ∧ z ≤ n := by
  unfold numb
  rw [List.mem_map]
  constructor
  · rintro ⟨i, hi, rfl⟩
    have := List.mem_range.mp hi
    omega
  · rintro ⟨h1, h2⟩
    exact ⟨(z - 1).toNat, List.mem_range.mpr (by omega), by omega⟩
structure Fll (ns : List Str) (ka ks : Nat) (S : BS) : Prop where
  n : S.ns = ns
  a : S.ar.map (·.1) = numb ka
  s : S.sy.map (·.1) = numb ks
  ga : S.ga = ka
  gs : S.gs = ks
  ia : ∀ z ∈ S.ar, z.2.1 ∈ ns ∧ z.2.2.1 ∈ ns
  is : ∀ z ∈ S.sy, z.2.1 ∈ ns ∧ z.2.2.1 ∈ ns
theorem Fll.la {ns : List Str} {ka ks : Nat} {S : BS} (f : Fll ns ka ks S) : S.ar.length = ka := by have := congrArg List.length f.a; simpa [numb] using this
theorem Fll.ls {ns : List Str} {ka ks : Nat} {S : BS} (f : Fll ns ka ks S) : S.sy.length = ks := by have := congrArg List.length f.s; simpa [numb] using this
theorem Fll.arrow {ns : List Str} {ka ks : Nat} {S : BS} (f : Fll ns ka ks S) {x y : Str} {l w : Int} (hx : x ∈ ns) (hy : y ∈ ns) (hl : okL l = true) (hw : okW w = true) (hk : ka < 80) : ∃ S', act S (.arrow x y l w) = .inr (S', .int ((ka : Int) + 1)) ∧ Fll ns (ka + 1) ks S' := by
  have hx' : x ∈ S.ns := f.n ▸ hx
  have hy' : y ∈ S.ns := f.n ▸ hy
  refine ⟨{ S with ar := S.ar ++ [(S.ga + 1, x, y, l, w)], ga := S.ga + 1 }, ?_, f.n, ?_, f.s, ?_, f.gs, ?_, f.is⟩
  · simp only [act, needLW]
    rw [if_neg (by simp [hx']), if_neg (by simp [hy']), if_neg (by rw [hl]; decide), if_neg (by rw [hw]; decide), if_neg (by rw [f.la]; omega), f.ga]
  · rw [List.map_append, f.a, numb_succ, f.ga]; rfl
  · show S.ga + 1 = _
    rw [f.ga]; rfl
  · intro z hz
    rcases List.mem_append.mp hz with h | h
    · exact f.ia z h
    · have : z = (S.ga + 1, x, y, l, w) := by simpa using h
      subst this
      exact ⟨hx, hy⟩
theorem Fll.say {ns : List Str} {ka ks : Nat} {S : BS} (f : Fll ns ka ks S) {x y : Str} {l : Int} (hx : x ∈ ns) (hy : y ∈ ns) (hxy : x ≠ y) (hl : okS l = true) (hk : ks < 20) : ∃ S', act S (.say x y l) = .inr (S', .int ((ks : Int) + 1)) ∧ Fll ns ka (ks + 1) S' := by
  have hx' : x ∈ S.ns := f.n ▸ hx
  have hy' : y ∈ S.ns := f.n ▸ hy
  refine ⟨{ S with sy := S.sy ++ [(S.gs + 1, x, y, l)], gs := S.gs + 1 }, ?_, f.n, f.a, ?_, f.ga, ?_, f.ia, ?_⟩
  · simp only [act]
    rw [if_neg (by simp [hx']), if_neg (by simp [hy']), if_neg (by simp [hxy]), if_neg (by rw [hl]; decide), if_neg (by rw [f.ls]; omega), f.gs]
  · rw [List.map_append, f.s, numb_succ, f.gs]; rfl
  · show S.gs + 1 = _
    rw [f.gs]; rfl
  · intro z hz
    rcases List.mem_append.mp hz with h | h
    · exact f.is z h
    · have : z = (S.gs + 1, x, y, l) := by simpa using h
      subst this
      exact ⟨hx, hy⟩
theorem act_box {ns : List Str} {i : Nat} {x : Str} (hn : ns.Nodup) (hk : i < 40) (e : ns[i]? = some x) (hx : nameB x = true) {S : BS} (hS : S.ns = ns.take i) : act S (.box x) = .inr ({ S with ns := ns.take (i + 1) }, .non) := by
  have hi := (List.getElem?_eq_some_iff.mp e).1
  have nin : ¬ x ∈ ns.take i := fun hm => by
    obtain ⟨j, hj⟩ := List.getElem?_of_mem hm
    rw [List.getElem?_take] at hj
    split at hj
    · have := nd_ix hn hj e; omega
    · cases hj
  simp only [act]
  rw [if_neg (by rw [hx]; decide), if_neg (by rw [hS]; simp [nin]), if_neg (by rw [hS, List.length_take]; omega), hS, List.take_add_one, e]
  rfl
variable {P : Program} {w : World}
/-- a callee that raises nothing -/
theorem passNo {X : Cx} : Passes (CXD P w) X E0 := fun pins σ H s e s' I h => by
  obtain ⟨_, _, _, _, _, _, _, _, h⟩ := h
  exact h.elim
end L2

set_option Elab.async false
set_option linter.all false
set_option maxRecDepth 100000
set_option maxHeartbeats 1000000
namespace W1
open PySem PySem.Spec PyProof.Rows L2
def top (i : Nat) : Stmt := PySem.Challenge.pw_layerink_k30_boards_filled.main.body.getD i (.Pass ⟨0, 0, 0, 0⟩)
abbrev s_is_name : Stmt := top 26
abbrev s_web_of : Stmt := top 67
abbrev s_need_box : Stmt := top 79
abbrev s_need_arrow : Stmt := top 80
abbrev s_need_bounds : Stmt := top 81
abbrev s_need_room : Stmt := top 82
abbrev s_do_box : Stmt := top 83
abbrev s_do_arrow : Stmt := top 85
abbrev s_do_cut : Stmt := top 86
abbrev s_do_alter : Stmt := top 87
abbrev s_do_say : Stmt := top 88
abbrev s_do_unsay : Stmt := top 89
abbrev s_done : Stmt := top 94
abbrev s__law_alike : Stmt := top 101
abbrev s__law_bag : Stmt := top 102
abbrev s__law_crammed : Stmt := top 103
abbrev s__law_do : Stmt := top 104
abbrev s__law_kin : Stmt := top 105
abbrev s__law_names : Stmt := top 106
abbrev s__law_pull : Stmt := top 107
abbrev s__law_whole : Stmt := top 108
abbrev s_law : Stmt := top 109
theorem sc_is_name : FnScope ["name", "sign"] ["name"] (defScope s_is_name) := ⟨rfl, rfl, rfl, by decide +kernel, rfl, by decide +kernel, by decide +kernel⟩
theorem sc_web_of : FnScope ["state", "names", "arrows", "sayings", "given", "held", "boxes", "place", "name", "plain_arrows", "number", "one", "other", "least", "weight", "plain_sayings"] ["state"] (defScope s_web_of) := ⟨rfl, rfl, rfl, by decide +kernel, rfl, by decide +kernel, by decide +kernel⟩
theorem sc_need_box : FnScope ["names", "name"] ["names", "name"] (defScope s_need_box) := ⟨rfl, rfl, rfl, by decide +kernel, rfl, by decide +kernel, by decide +kernel⟩
theorem sc_need_arrow : FnScope ["arrows", "number", "arrow"] ["arrows", "number"] (defScope s_need_arrow) := ⟨rfl, rfl, rfl, by decide +kernel, rfl, by decide +kernel, by decide +kernel⟩
theorem sc_need_bounds : FnScope ["least", "weight"] ["least", "weight"] (defScope s_need_bounds) := ⟨rfl, rfl, rfl, by decide +kernel, rfl, by decide +kernel, by decide +kernel⟩
theorem sc_need_room : FnScope ["some", "most"] ["some", "most"] (defScope s_need_room) := ⟨rfl, rfl, rfl, by decide +kernel, rfl, by decide +kernel, by decide +kernel⟩
theorem sc_do_box : FnScope ["state", "name", "names", "arrows", "sayings", "given", "held"] ["state", "name"] (defScope s_do_box) := ⟨rfl, rfl, rfl, by decide +kernel, rfl, by decide +kernel, by decide +kernel⟩
theorem sc_do_arrow : FnScope ["state", "one", "other", "least", "weight", "names", "arrows", "sayings", "given", "held", "number", "arrow"] ["state", "one", "other", "least", "weight"] (defScope s_do_arrow) := ⟨rfl, rfl, rfl, by decide +kernel, rfl, by decide +kernel, by decide +kernel⟩
theorem sc_do_cut : FnScope ["state", "number", "names", "arrows", "sayings", "given", "held", "left", "arrow"] ["state", "number"] (defScope s_do_cut) := ⟨rfl, rfl, rfl, by decide +kernel, rfl, by decide +kernel, by decide +kernel⟩
theorem sc_do_alter : FnScope ["state", "number", "least", "weight", "names", "arrows", "sayings", "given", "held", "altered", "arrow"] ["state", "number", "least", "weight"] (defScope s_do_alter) := ⟨rfl, rfl, rfl, by decide +kernel, rfl, by decide +kernel, by decide +kernel⟩
theorem sc_do_say : FnScope ["state", "one", "other", "least", "names", "arrows", "sayings", "given", "held", "number", "saying"] ["state", "one", "other", "least"] (defScope s_do_say) := ⟨rfl, rfl, rfl, by decide +kernel, rfl, by decide +kernel, by decide +kernel⟩
theorem sc_do_unsay : FnScope ["state", "number", "names", "arrows", "sayings", "given", "held", "saying", "left"] ["state", "number"] (defScope s_do_unsay) := ⟨rfl, rfl, rfl, by decide +kernel, rfl, by decide +kernel, by decide +kernel⟩
theorem sc_done : FnScope ["state", "deed", "action", "things"] ["state", "deed"] (defScope s_done) := ⟨rfl, rfl, rfl, by decide +kernel, rfl, by decide +kernel, by decide +kernel⟩
theorem sc__law_alike : FnScope ["_law_found", "_law_due", "_law_at"] ["_law_found", "_law_due"] (defScope s__law_alike) := ⟨rfl, rfl, rfl, by decide +kernel, rfl, by decide +kernel, by decide +kernel⟩
theorem sc__law_bag : FnScope ["_law_script", "_law_cells", "_law_one", "_law_salt"] ["_law_script"] (defScope s__law_bag) := ⟨rfl, rfl, rfl, by decide +kernel, rfl, by decide +kernel, by decide +kernel⟩
theorem sc__law_crammed : FnScope ["_law_bag_here", "_law_board", "_law_names_here", "_law_name", "_law_k", "_law_told_now", "_law_one", "_law_other", "_law_at"] ["_law_bag_here", "_law_board", "_law_names_here"] (defScope s__law_crammed) := ⟨rfl, rfl, rfl, by decide +kernel, rfl, by decide +kernel, by decide +kernel⟩
theorem sc__law_do : FnScope ["_law_board", "_law_deed", "_law_word", "_law_told_now", "_law_e"] ["_law_board", "_law_deed"] (defScope s__law_do) := ⟨rfl, rfl, rfl, by decide +kernel, rfl, by decide +kernel, by decide +kernel⟩
theorem sc__law_kin : FnScope ["_law_e", "_law_words", "_law_word", "_law_so"] ["_law_e"] (defScope s__law_kin) := ⟨rfl, rfl, rfl, by decide +kernel, rfl, by decide +kernel, by decide +kernel⟩
theorem sc__law_names : FnScope ["_law_bag_here", "_law_many", "_law_found", "_law_tail", "_law_k", "_law_first", "_law_at"] ["_law_bag_here", "_law_many"] (defScope s__law_names) := ⟨rfl, rfl, rfl, by decide +kernel, rfl, by decide +kernel, by decide +kernel⟩
theorem sc__law_pull : FnScope ["_law_bag_here", "_law_many", "_law_seed", "_law_blend", "_law_drawn"] ["_law_bag_here", "_law_many"] (defScope s__law_pull) := ⟨rfl, rfl, rfl, by decide +kernel, rfl, by decide +kernel, by decide +kernel⟩
theorem sc__law_whole : FnScope ["_law_found"] ["_law_found"] (defScope s__law_whole) := ⟨rfl, rfl, rfl, by decide +kernel, rfl, by decide +kernel, by decide +kernel⟩
theorem sc_law : FnScope ["_law_script", "_law_bag_here", "_law_board", "_law_names_here", "_law_tries", "_law_due", "_law_deed", "_law_gone", "_law_late"] ["_law_script"] (defScope s_law) := ⟨rfl, rfl, rfl, by decide +kernel, rfl, by decide +kernel, by decide +kernel⟩
/-- where the defs stand -/
structure Ad where
  f_is_name : Addr
  d_is_name : FuncData
  f_web_of : Addr
  d_web_of : FuncData
  f_need_box : Addr
  d_need_box : FuncData
  f_need_arrow : Addr
  d_need_arrow : FuncData
  f_need_bounds : Addr
  d_need_bounds : FuncData
  f_need_room : Addr
  d_need_room : FuncData
  f_do_box : Addr
  d_do_box : FuncData
  f_do_arrow : Addr
  d_do_arrow : FuncData
  f_do_cut : Addr
  d_do_cut : FuncData
  f_do_alter : Addr
  d_do_alter : FuncData
  f_do_say : Addr
  d_do_say : FuncData
  f_do_unsay : Addr
  d_do_unsay : FuncData
  f_done : Addr
  d_done : FuncData
  f__law_alike : Addr
  d__law_alike : FuncData
  f__law_bag : Addr
  d__law_bag : FuncData
  f__law_crammed : Addr
  d__law_crammed : FuncData
  f__law_do : Addr
  d__law_do : FuncData
  f__law_kin : Addr
  d__law_kin : FuncData
  f__law_names : Addr
  d__law_names : FuncData
  f__law_pull : Addr
  d__law_pull : FuncData
  f__law_whole : Addr
  d__law_whole : FuncData
  f_law : Addr
  d_law : FuncData
structure Txt (K : PySem.W.Frag) (mg : Str → Option Value) (t : Ad) : Prop where
  F_is_name : Fun K "is_name" "is_name" s_is_name t.f_is_name t.d_is_name
  b_is_name : Binds K t.d_is_name ["name"] []
  m_is_name : mg "is_name" = some (.ref t.f_is_name)
  F_web_of : Fun K "web_of" "web_of" s_web_of t.f_web_of t.d_web_of
  b_web_of : Binds K t.d_web_of ["state"] []
  m_web_of : mg "web_of" = some (.ref t.f_web_of)
  F_need_box : Fun K "need_box" "need_box" s_need_box t.f_need_box t.d_need_box
  b_need_box : Binds K t.d_need_box ["names", "name"] []
  m_need_box : mg "need_box" = some (.ref t.f_need_box)
  F_need_arrow : Fun K "need_arrow" "need_arrow" s_need_arrow t.f_need_arrow t.d_need_arrow
  b_need_arrow : Binds K t.d_need_arrow ["arrows", "number"] []
  m_need_arrow : mg "need_arrow" = some (.ref t.f_need_arrow)
  F_need_bounds : Fun K "need_bounds" "need_bounds" s_need_bounds t.f_need_bounds t.d_need_bounds
  b_need_bounds : Binds K t.d_need_bounds ["least", "weight"] []
  m_need_bounds : mg "need_bounds" = some (.ref t.f_need_bounds)
  F_need_room : Fun K "need_room" "need_room" s_need_room t.f_need_room t.d_need_room
  b_need_room : Binds K t.d_need_room ["some", "most"] []
  m_need_room : mg "need_room" = some (.ref t.f_need_room)
  F_do_box : Fun K "do_box" "do_box" s_do_box t.f_do_box t.d_do_box
  b_do_box : Binds K t.d_do_box ["state", "name"] []
  m_do_box : mg "do_box" = some (.ref t.f_do_box)
  F_do_arrow : Fun K "do_arrow" "do_arrow" s_do_arrow t.f_do_arrow t.d_do_arrow
  b_do_arrow : Binds K t.d_do_arrow ["state", "one", "other", "least", "weight"] []
  m_do_arrow : mg "do_arrow" = some (.ref t.f_do_arrow)
  F_do_cut : Fun K "do_cut" "do_cut" s_do_cut t.f_do_cut t.d_do_cut
  b_do_cut : Binds K t.d_do_cut ["state", "number"] []
  m_do_cut : mg "do_cut" = some (.ref t.f_do_cut)
  F_do_alter : Fun K "do_alter" "do_alter" s_do_alter t.f_do_alter t.d_do_alter
  b_do_alter : Binds K t.d_do_alter ["state", "number", "least", "weight"] []
  m_do_alter : mg "do_alter" = some (.ref t.f_do_alter)
  F_do_say : Fun K "do_say" "do_say" s_do_say t.f_do_say t.d_do_say
  b_do_say : Binds K t.d_do_say ["state", "one", "other", "least"] []
  m_do_say : mg "do_say" = some (.ref t.f_do_say)
  F_do_unsay : Fun K "do_unsay" "do_unsay" s_do_unsay t.f_do_unsay t.d_do_unsay
  b_do_unsay : Binds K t.d_do_unsay ["state", "number"] []
  m_do_unsay : mg "do_unsay" = some (.ref t.f_do_unsay)
  F_done : Fun K "done" "done" s_done t.f_done t.d_done
  b_done : Binds K t.d_done ["state", "deed"] []
  m_done : mg "done" = some (.ref t.f_done)
  F__law_alike : Fun K "_law_alike" "_law_alike" s__law_alike t.f__law_alike t.d__law_alike
  b__law_alike : Binds K t.d__law_alike ["_law_found", "_law_due"] []
  m__law_alike : mg "_law_alike" = some (.ref t.f__law_alike)
  F__law_bag : Fun K "_law_bag" "_law_bag" s__law_bag t.f__law_bag t.d__law_bag
  b__law_bag : Binds K t.d__law_bag ["_law_script"] []
  m__law_bag : mg "_law_bag" = some (.ref t.f__law_bag)
  F__law_crammed : Fun K "_law_crammed" "_law_crammed" s__law_crammed t.f__law_crammed t.d__law_crammed
  b__law_crammed : Binds K t.d__law_crammed ["_law_bag_here", "_law_board", "_law_names_here"] []
  m__law_crammed : mg "_law_crammed" = some (.ref t.f__law_crammed)
  F__law_do : Fun K "_law_do" "_law_do" s__law_do t.f__law_do t.d__law_do
  b__law_do : Binds K t.d__law_do ["_law_board", "_law_deed"] []
  m__law_do : mg "_law_do" = some (.ref t.f__law_do)
  F__law_kin : Fun K "_law_kin" "_law_kin" s__law_kin t.f__law_kin t.d__law_kin
  b__law_kin : Binds K t.d__law_kin ["_law_e"] []
  m__law_kin : mg "_law_kin" = some (.ref t.f__law_kin)
  F__law_names : Fun K "_law_names" "_law_names" s__law_names t.f__law_names t.d__law_names
  b__law_names : Binds K t.d__law_names ["_law_bag_here", "_law_many"] []
  m__law_names : mg "_law_names" = some (.ref t.f__law_names)
  F__law_pull : Fun K "_law_pull" "_law_pull" s__law_pull t.f__law_pull t.d__law_pull
  b__law_pull : Binds K t.d__law_pull ["_law_bag_here", "_law_many"] []
  m__law_pull : mg "_law_pull" = some (.ref t.f__law_pull)
  F__law_whole : Fun K "_law_whole" "_law_whole" s__law_whole t.f__law_whole t.d__law_whole
  b__law_whole : Binds K t.d__law_whole ["_law_found"] []
  m__law_whole : mg "_law_whole" = some (.ref t.f__law_whole)
  F_law : Fun K "law" "law" s_law t.f_law t.d_law
  b_law : Binds K t.d_law ["_law_script"] []
  m_law : mg "law" = some (.ref t.f_law)
  c_LETTERS : ∃ tk, mg "LETTERS" = some (.str "abcdefghijklmnopqrstuvwxyz" tk)
  c_MOST_LETTERS : ∃ tk, mg "MOST_LETTERS" = some (.int 6 tk)
  c_MOST_BOXES : ∃ tk, mg "MOST_BOXES" = some (.int 40 tk)
  c_MOST_ARROWS : ∃ tk, mg "MOST_ARROWS" = some (.int 80 tk)
  c_MOST_SAYINGS : ∃ tk, mg "MOST_SAYINGS" = some (.int 20 tk)
  c_MOST_ARROW_LEAST : ∃ tk, mg "MOST_ARROW_LEAST" = some (.int 3 tk)
  c_MOST_WEIGHT : ∃ tk, mg "MOST_WEIGHT" = some (.int 9 tk)
  c_MOST_SAYING_LEAST : ∃ tk, mg "MOST_SAYING_LEAST" = some (.int 9 tk)
  b_abs : mg "abs" = none
  b_all : mg "all" = none
  b_bool : mg "bool" = none
  enumerate : mg "enumerate" = none
  b_int : mg "int" = none
  b_isinstance : mg "isinstance" = none
  b_len : mg "len" = none
  b_list : mg "list" = none
  b_max : mg "max" = none
  range : mg "range" = none
  b_str : mg "str" = none
  b_tuple : mg "tuple" = none

end W1

set_option Elab.async false
set_option linter.all false
set_option maxRecDepth 100000
set_option maxHeartbeats 1000000
namespace W1
open PySem PySem.Spec PyProof.Rows L2
section
variable {P : Program} {w : World} {K : PySem.W.Frag} {mg : Str → Option Value} {base : Heap} {t : Ad}
theorem ok_name (T : Txt K mg t) : FnOk P w K mg base CX0 1 t.f_is_name t.d_is_name ["name"] spName := by
  obtain ⟨tk1, C_LETTERS⟩ := T.c_LETTERS
  obtain ⟨tk2, C_MOST_LETTERS⟩ := T.c_MOST_LETTERS
  refine T.F_is_name.ok sc_is_name (fun vs H Q E h => ?_) (fun cdv A outer s H vs Q E hr h => ?_)
  · obtain ⟨z, rfl, _⟩ := h
    rfl
  · obtain ⟨z, rfl, hz, k⟩ := h
    have nd := sc_is_name.nd
    refine ⟨_, (pss_one (ps_ret (pe_and (pe_chain op_le op_le pe_int (pe_callB call_len_str (by rfl) T.b_len (by decide +kernel) (pa_cons (pv 0) pa_nil)) (pe_glob (v := V.int 6) (by rfl) C_MOST_LETTERS ⟨_, rfl⟩)) (pe_one (pe_callB (cr_all rfl) (by rfl) T.b_all (by decide +kernel) (pa_cons (pe_lc (own := [("sign", 1)]) (g := (gName 1)) (by rfl) nd (pi_str (pv 0)) (blkOk_by (own := [("sign", 1)]) (N := ["name", "sign"]) (sc := defScope s_is_name) (by decide +kernel)) (fun _ _ _ _ _ => (pg_name (i := 1) nd rfl (Or.inl rfl))) (fun _ _ _ _ _ => pts_nil) (fun _ _ _ _ _ => (pe_cmpR op_in_sign (pv 1) (pe_glob (v := V.str "abcdefghijklmnopqrstuvwxyz") (by rfl) C_LETTERS ⟨_, rfl⟩) (by rfl)))) pa_nil)))))), ?_⟩
    refine Is.chain (x := 1) (y := z.length) (z := 6) Is.const (Is.lenS (Is.var rfl) hz) Is.const _ ⟨_, rfl, ?_⟩
    refine ite2 (fun c1 => ?_) (fun c1 => ?_)
    · refine ⟨_, rfl, z, rfl, fun D hD => ?_⟩
      refine lc_str (x := z) (fun i H' => Same H H' ∧ H' D = some (.lst (((z.cps.toList.take i).map fun c => decide (c ∈ az.cps.toList)).map V.bl))) ⟨Same.new hD, upd_same⟩ ?_ ?_
      · rintro i c H' hc ⟨s1, h1⟩
        refine ⟨rfl, ?_⟩
        refine ⟨_, rfl, c, _, rfl, rfl, _, h1, acc_len hc (by rw [Array.length_toList]; exact hz), s1.updNew hD, ?_⟩
        rw [upd_same]
        exact congrArg (fun l => some (HO.lst l)) (acc_step hc)
      · rintro H' ⟨s1, h1⟩
        refine ⟨D, _, rfl, SqL.of h1, Qb (k H' s1) ?_⟩
        rw [all_map, List.take_of_length_le (by rw [Array.length_toList]; exact Nat.le_refl _)]
        unfold nameB
        rw [c1, Bool.true_and]
    · refine Qb (k H (Same.refl H)) ?_
      unfold nameB
      rw [Bool.eq_false_iff.mpr c1, Bool.false_and]
end

end W1

set_option Elab.async false
set_option linter.all false
set_option maxRecDepth 100000
set_option maxHeartbeats 1000000
namespace W1
open PySem PySem.Spec PyProof.Rows L2
/-- the bases of the refusals -/
def kinBm : Kin → List Value
  | .noBox => [.type "LookupError", .type "Exception", .type "BaseException", .type "object"] | .noArrow => [.type "LookupError", .type "Exception", .type "BaseException", .type "object"] | .noSaying => [.type "LookupError", .type "Exception", .type "BaseException", .type "object"]
  | _ => [.type "ValueError", .type "Exception", .type "BaseException", .type "object"]
def kinNw : Kin → String
  | .noBox => "LookupError.__new__" | .noArrow => "LookupError.__new__" | .noSaying => "LookupError.__new__" | _ => "ValueError.__new__"
structure KinC (K : PySem.W.Frag) (ca : Kin → Addr) : Prop where
  w : ∀ k, PySem.W.nsIn K mainGlobals k.name = some (some (.ref (ca k)))
  x : ∀ k, k ≠ .clash → PySem.W.excIn K (ca k) (kinBm k) (kinNw k) = true
def spNeedBox (ca : Kin → Addr) (K : PySem.W.Frag) : Sp := fun vs H Q E => ∃ (n : Addr) (ns : List Str) (x : Str), vs = [.ref n, .str x] ∧ TpT K H n (ns.map V.str) ∧ (if decide (x ∈ ns) = false then E (.ref (ca .noBox)) none H else Q .non H)
def spNeedArrow (ca : Kin → Addr) (K : PySem.W.Frag) : Sp := fun vs H Q E => ∃ (a : Addr) (rs : List Arw) (n : Int), vs = [.ref a, .int n] ∧ TpTs K H a (rs.map arV) ∧ rs.length ≤ 1000 ∧ ∀ H', Same H H' → (if decide (n ∈ rs.map (·.1)) = false then E (.ref (ca .noArrow)) none H' else Q .non H')
def spNeedBounds (ca : Kin → Addr) : Sp := fun vs H Q E => ∃ (l w : Int), vs = [.int l, .int w] ∧ (if okL l = false then E (.ref (ca .badLeast)) none H else if okW w = false then E (.ref (ca .badWeight)) none H else Q .non H)
def spNeedRoom (ca : Kin → Addr) (K : PySem.W.Frag) : Sp := fun vs H Q E => ∃ (a : Addr) (xs : List V) (m : Nat), vs = [.ref a, .int m] ∧ TpT K H a xs ∧ (if m ≤ xs.length then E (.ref (ca .full)) none H else Q .non H)
section
variable {P : Program} {w : World} {K : PySem.W.Frag} {mg : Str → Option Value} {base : Heap} {t : Ad} {ca : Kin → Addr}
theorem ok_need_box (T : Txt K mg t) (Z : KinC K ca) (KX : K.In base) (G : base.Ns mainGlobals mg) : FnOk P w K mg base (CXD P w) 1 t.f_need_box t.d_need_box ["names", "name"] (spNeedBox ca K) := by
  refine T.F_need_box.okX sc_need_box (fun vs H Q E h => ?_) (fun cdv A outer s H vs Q E hr h => ?_)
  · obtain ⟨n, ns, x, rfl, _⟩ := h
    rfl
  · obtain ⟨n, ns, x, rfl, hn, k⟩ := h
    have nd := sc_need_box.nd
    refine ⟨_, (pss_one (ps_if (pt_cmpR op_notIn_seq (pv 1) (pv 0) (by rfl)) (pss_one (ps_raiseD leaves_of (own_K KX G (Z.w .noBox) (Z.x .noBox (by decide))) PySem.F.excBase_LookupError (by rfl) (pa_cons pe_str pa_nil))) pss_nil)), ?_⟩
    refine ⟨_, rfl, _, rfl, n, _, rfl, .inr hn.at, rfl, flat_strs ns, _, rfl, ?_⟩
    rw [inV_str]
    cases h : decide (x ∈ ns) with
    | false => rw [h] at k; exact iteT ⟨by show 1 ≤ sizeLine; decide, k⟩
    | true => rw [h] at k; exact iteF k
theorem ok_need_arrow (T : Txt K mg t) (Z : KinC K ca) (KX : K.In base) (G : base.Ns mainGlobals mg) : FnOk P w K mg base (CXD P w) 1 t.f_need_arrow t.d_need_arrow ["arrows", "number"] (spNeedArrow ca K) := by
  refine T.F_need_arrow.okX sc_need_arrow (fun vs H Q E h => ?_) (fun cdv A outer s H vs Q E hr h => ?_)
  · obtain ⟨a, rs, n, rfl, _⟩ := h
    rfl
  · obtain ⟨a, rs, n, rfl, ha, hl, k⟩ := h
    have nd := sc_need_arrow.nd
    refine ⟨_, (pss_one (ps_if (pt_cmpR op_notIn_seq (pv 1) (pe_lc (own := [("arrow", 2)]) (g := (gName 2)) (by rfl) nd (pi_tup (pv 0)) (blkOk_by (own := [("arrow", 2)]) (N := ["arrows", "number", "arrow"]) (sc := defScope s_need_arrow) (by decide +kernel)) (fun _ _ _ _ _ => (pg_name (i := 2) nd rfl (Or.inl rfl))) (fun _ _ _ _ _ => pts_nil) (fun _ _ _ _ _ => (pe_ix (show IxR _ (rIxT K) from ix_tup) (pv 2) pe_int (fun _ _ => rfl)))) (by rfl)) (pss_one (ps_raiseD leaves_of (own_K KX G (Z.w .noArrow) (Z.x .noArrow (by decide))) PySem.F.excBase_LookupError (by rfl) (pa_cons pe_str pa_nil))) pss_nil)), ?_⟩
    obtain ⟨qs, hq, hp⟩ := id ha
    refine ⟨_, rfl, _, rfl, a, rfl, ⟨_, hq.at⟩, fun D hD => ?_⟩
    refine lc_tup (K := K) (a := a) (xs := qs.map V.ref) (fun i H' => Same H H' ∧ H' D = some (.lst ((rs.take i).map fun r => V.int r.1))) ⟨Same.new hD, upd_same⟩ (fun i H' _ ⟨s1, _⟩ => (hq.tu s1.tu).at) ?_ ?_
    · rintro i x H' hx ⟨s1, g1⟩
      obtain ⟨q, r, rfl, eq, er, hr⟩ := tp_row hp hx
      refine ⟨rfl, ?_⟩
      refine ⟨_, rfl, q, _, _, _, rfl, rfl, (hr.tu s1.tu).at, (show atI (arV r) 0 = some (V.int r.1) from rfl), _, g1, ?_, s1.updNew hD, ?_⟩
      · rw [List.length_map]; exact Nat.lt_of_lt_of_le (take_lt er hl) (by decide)
      · rw [upd_same, take_step (fun r : Arw => V.int r.1) er]
    · rintro H' ⟨s1, g1⟩
      rw [List.length_map, tp_len hp, List.take_of_length_le (Nat.le_refl _)] at g1
      have e0 : rs.map (fun r => V.int r.1) = (rs.map (·.1)).map V.int := by rw [List.map_map]; rfl
      rw [e0] at g1
      refine ⟨D, _, rfl, .inl (SqL.of g1), rfl, flat_ints _, _, rfl, ?_⟩
      rw [inV_int]
      have k' := k H' s1
      cases h : decide (n ∈ rs.map (·.1)) with
      | false => rw [h] at k'; exact iteT ⟨by show 1 ≤ sizeLine; decide, k'⟩
      | true => rw [h] at k'; exact iteF k'
theorem ok_need_bounds (T : Txt K mg t) (Z : KinC K ca) (KX : K.In base) (G : base.Ns mainGlobals mg) : FnOk P w K mg base (CXD P w) 1 t.f_need_bounds t.d_need_bounds ["least", "weight"] (spNeedBounds ca) := by
  obtain ⟨tk1, C_MOST_ARROW_LEAST⟩ := T.c_MOST_ARROW_LEAST
  obtain ⟨tk2, C_MOST_WEIGHT⟩ := T.c_MOST_WEIGHT
  refine T.F_need_bounds.okX sc_need_bounds (fun vs H Q E h => ?_) (fun cdv A outer s H vs Q E hr h => ?_)
  · obtain ⟨l, w, rfl, _⟩ := h
    rfl
  · obtain ⟨l, wt, rfl, k⟩ := h
    have nd := sc_need_bounds.nd
    refine ⟨_, (pss_cons (ps_if (pt_not (pt_chain op_le op_le pe_int (pv 0) (pe_glob (v := V.int 3) (by rfl) C_MOST_ARROW_LEAST ⟨_, rfl⟩))) (pss_one (ps_raiseD leaves_of (own_K KX G (Z.w .badLeast) (Z.x .badLeast (by decide))) PySem.F.excBase_ValueError (by rfl) (pa_cons pe_str pa_nil))) pss_nil)
      (pss_one (ps_if (pt_not (pt_chain op_le op_le pe_int (pv 1) (pe_glob (v := V.int 9) (by rfl) C_MOST_WEIGHT ⟨_, rfl⟩))) (pss_one (ps_raiseD leaves_of (own_K KX G (Z.w .badWeight) (Z.x .badWeight (by decide))) PySem.F.excBase_ValueError (by rfl) (pa_cons pe_str pa_nil))) pss_nil))), ?_⟩
    refine rd_if (b := !okL l) (IsT.not (IsT.test (Is.chain (p := fun i j => decide (i ≤ j)) (q := fun i j => decide (i ≤ j)) (x := 1) (y := l) (z := 3) Is.const (Is.var rfl) Is.const))) (fun c => ?_) fun c => ?_
    · rw [if_pos (not_t c)] at k
      exact ⟨by show 1 ≤ sizeLine; decide, k⟩
    · rw [if_neg (by rw [not_f c]; decide)] at k
      refine rd_if (b := !okW wt) (IsT.not (IsT.test (Is.chain (p := fun i j => decide (i ≤ j)) (q := fun i j => decide (i ≤ j)) (x := 1) (y := wt) (z := 9) Is.const (Is.var rfl) Is.const))) (fun c => ?_) fun c => ?_
      · rw [if_pos (not_t c)] at k
        exact ⟨by show 1 ≤ sizeLine; decide, k⟩
      · rw [if_neg (by rw [not_f c]; decide)] at k
        exact k
theorem ok_need_room (T : Txt K mg t) (Z : KinC K ca) (KX : K.In base) (G : base.Ns mainGlobals mg) : FnOk P w K mg base (CXD P w) 1 t.f_need_room t.d_need_room ["some", "most"] (spNeedRoom ca K) := by
  refine T.F_need_room.okX sc_need_room (fun vs H Q E h => ?_) (fun cdv A outer s H vs Q E hr h => ?_)
  · obtain ⟨a, xs, m, rfl, _⟩ := h
    rfl
  · obtain ⟨a, xs, m, rfl, ha, k⟩ := h
    have nd := sc_need_room.nd
    refine ⟨_, (pss_one (ps_if (pt_cmpR op_ge (pe_callB call_len_seq (by rfl) T.b_len (by decide +kernel) (pa_cons (pv 0) pa_nil)) (pv 1) (nomark _)) (pss_one (ps_raiseD leaves_of (own_K KX G (Z.w .full) (Z.x .full (by decide))) PySem.F.excBase_ValueError (by rfl) (pa_cons pe_str pa_nil))) pss_nil)), ?_⟩
    refine ⟨_, rfl, a, _, rfl, .inr ha.at, _, rfl, _, _, rfl, rfl, _, rfl, ?_⟩
    refine ite2 (fun c => ?_) (fun c => ?_)
    · have c' : m ≤ xs.length := by have := of_decide_eq_true c; omega
      rw [if_pos c'] at k
      exact ⟨by show 1 ≤ sizeLine; decide, k⟩
    · have c' : ¬ m ≤ xs.length := fun q => c (decide_eq_true (by omega))
      rw [if_neg c'] at k
      exact k
end

end W1

set_option Elab.async false
set_option linter.all false
set_option maxRecDepth 100000
set_option maxHeartbeats 1000000
namespace W1
open PySem PySem.Spec PyProof.Rows L2
/-- what of the text the classes of the refusals must have, when one is held -/
structure KinX (K : PySem.W.Frag) (ca : Kin → Addr) : Prop where
  e : ∀ k, ExcK K (ca k)
  i : ∀ k k', PySem.W.kitOne K (.ref (ca k)) (.ref (ca k')) = some (decide (k = k'))
def allKin : List Kin := [.badName, .taken, .full, .tied, .badLeast, .badWeight, .same, .badDeed, .clash, .noBox, .noArrow, .noSaying]
def KW (k : Kin) (H : Hp) : List Addr → List Kin → Prop := Paired fun z kk => H z = some (.tup [.str kk.name, .bl (decide (k = kk))])
theorem KW.same {k : Kin} {H H' : Hp} {zs : List Addr} {ks : List Kin} (h : KW k H zs ks) (s : Same H H') : KW k H' zs ks := Paired.mapP h fun _ _ z => s _ _ z
theorem KW.app {k : Kin} {H : Hp} : ∀ {zs ys : List Addr} {ks js : List Kin}, KW k H zs ks → KW k H ys js → KW k H (zs ++ ys) (ks ++ js)
  | _, _, _, _, .nil, h => h
  | _, _, _, _, .cons a b, h => .cons a (KW.app b h)
theorem kw_one {k kk : Kin} {H : Hp} {z : Addr} (h : H z = none) : KW k (upd H z (.tup [.str kk.name, .bl (decide (k = kk))])) [z] [kk] := .cons upd_same .nil
theorem kw_more {k kk : Kin} {H : Hp} {z : Addr} {zs : List Addr} {ks : List Kin} (g : KW k H zs ks) (h : H z = none) : KW k (upd H z (.tup [.str kk.name, .bl (decide (k = kk))])) (zs ++ [z]) (ks ++ [kk]) := (g.same (Same.new h)).app (kw_one h)
theorem upd_lst {H : Hp} {l : Addr} {zs : List Addr} (h : H l = none) : upd H l (.lst (zs.map V.ref)) l = some (.lst (zs.map V.ref)) := upd_same
theorem upd_lst2 {H : Hp} {l : Addr} {zs ys : List Addr} (h : H l = none) : upd H l (.lst (zs.map V.ref ++ ys.map V.ref)) l = some (.lst ((zs ++ ys).map V.ref)) := by rw [List.map_append]; exact upd_same
theorem KW.tuK {k : Kin} {H H' : Hp} {zs : List Addr} {ks : List Kin} (h : KW k H zs ks) (s : Tu H H') : KW k H' zs ks := Paired.mapP h fun _ _ z => s _ _ z
theorem upd_lst3 {H : Hp} {l z : Addr} {zs : List Addr} (h : H l = some (.lst (zs.map V.ref))) : upd H l (.lst (zs.map V.ref ++ [.ref z])) l = some (.lst ((zs ++ [z]).map V.ref)) := by rw [List.map_append]; exact upd_same
def spKin (ca : Kin → Addr) (base : Heap) : Sp := fun vs H Q _ => ∃ (e : Addr) (k : Kin), vs = [.ref e] ∧ ExcB base e (ca k) ∧ ∀ H', Same H H' → Q (.str k.name) H'
section
variable {P : Program} {w : World} {K : PySem.W.Frag} {mg : Str → Option Value} {base : Heap} {t : Ad} {ca : Kin → Addr}
theorem ok__law_kin (T : Txt K mg t) (Z : KinC K ca) (Y : KinX K ca) (KX : K.In base) (G : base.Ns mainGlobals mg) : FnOkH P w K mg base CX0 1 t.f__law_kin t.d__law_kin ["_law_e"] (spKin ca base) := by
  have kinM : ∀ k : Kin, mg k.name = some (.ref (ca k)) := fun k => PySem.W.mg_of KX G (Z.w k)
  refine T.F__law_kin.okH sc__law_kin (fun vs H Q E h => ?_) (fun cdv A outer s H vs Q E hr hH h => ?_)
  · obtain ⟨e, k, rfl, _⟩ := h
    rfl
  · obtain ⟨e, k, rfl, he, kk⟩ := h
    have nd := sc__law_kin.nd
    refine ⟨_, (pss_cons (ps_set (i := 1) nd rfl (Or.inl rfl) (pe_lst (pa_cons (pe_tup (pa_cons pe_str (pa_cons (pe_callB cr_isiB (by rfl) T.b_isinstance (by decide +kernel) (pa_cons (pv 0) (pa_cons (pe_glob (v := V.ref (ca .badName)) (by rfl) (kinM .badName) rfl) pa_nil))) pa_nil))) (pa_cons (pe_tup (pa_cons pe_str (pa_cons (pe_callB cr_isiB (by rfl) T.b_isinstance (by decide +kernel) (pa_cons (pv 0) (pa_cons (pe_glob (v := V.ref (ca .taken)) (by rfl) (kinM .taken) rfl) pa_nil))) pa_nil))) (pa_cons (pe_tup (pa_cons pe_str (pa_cons (pe_callB cr_isiB (by rfl) T.b_isinstance (by decide +kernel) (pa_cons (pv 0) (pa_cons (pe_glob (v := V.ref (ca .full)) (by rfl) (kinM .full) rfl) pa_nil))) pa_nil))) pa_nil)))))
      (pss_cons (ps_set (i := 1) nd rfl (Or.inl rfl) (pe_op op_cat (pv 1) (pe_lst (pa_cons (pe_tup (pa_cons pe_str (pa_cons (pe_callB cr_isiB (by rfl) T.b_isinstance (by decide +kernel) (pa_cons (pv 0) (pa_cons (pe_glob (v := V.ref (ca .tied)) (by rfl) (kinM .tied) rfl) pa_nil))) pa_nil))) (pa_cons (pe_tup (pa_cons pe_str (pa_cons (pe_callB cr_isiB (by rfl) T.b_isinstance (by decide +kernel) (pa_cons (pv 0) (pa_cons (pe_glob (v := V.ref (ca .badLeast)) (by rfl) (kinM .badLeast) rfl) pa_nil))) pa_nil))) pa_nil)))))
      (pss_cons (ps_set (i := 1) nd rfl (Or.inl rfl) (pe_op op_cat (pv 1) (pe_lst (pa_cons (pe_tup (pa_cons pe_str (pa_cons (pe_callB cr_isiB (by rfl) T.b_isinstance (by decide +kernel) (pa_cons (pv 0) (pa_cons (pe_glob (v := V.ref (ca .badWeight)) (by rfl) (kinM .badWeight) rfl) pa_nil))) pa_nil))) (pa_cons (pe_tup (pa_cons pe_str (pa_cons (pe_callB cr_isiB (by rfl) T.b_isinstance (by decide +kernel) (pa_cons (pv 0) (pa_cons (pe_glob (v := V.ref (ca .same)) (by rfl) (kinM .same) rfl) pa_nil))) pa_nil))) pa_nil)))))
      (pss_cons (ps_set (i := 1) nd rfl (Or.inl rfl) (pe_op op_cat (pv 1) (pe_lst (pa_cons (pe_tup (pa_cons pe_str (pa_cons (pe_callB cr_isiB (by rfl) T.b_isinstance (by decide +kernel) (pa_cons (pv 0) (pa_cons (pe_glob (v := V.ref (ca .badDeed)) (by rfl) (kinM .badDeed) rfl) pa_nil))) pa_nil))) (pa_cons (pe_tup (pa_cons pe_str (pa_cons (pe_callB cr_isiB (by rfl) T.b_isinstance (by decide +kernel) (pa_cons (pv 0) (pa_cons (pe_glob (v := V.ref (ca .clash)) (by rfl) (kinM .clash) rfl) pa_nil))) pa_nil))) pa_nil)))))
      (pss_cons (ps_set (i := 1) nd rfl (Or.inl rfl) (pe_op op_cat (pv 1) (pe_lst (pa_cons (pe_tup (pa_cons pe_str (pa_cons (pe_callB cr_isiB (by rfl) T.b_isinstance (by decide +kernel) (pa_cons (pv 0) (pa_cons (pe_glob (v := V.ref (ca .noBox)) (by rfl) (kinM .noBox) rfl) pa_nil))) pa_nil))) (pa_cons (pe_tup (pa_cons pe_str (pa_cons (pe_callB cr_isiB (by rfl) T.b_isinstance (by decide +kernel) (pa_cons (pv 0) (pa_cons (pe_glob (v := V.ref (ca .noArrow)) (by rfl) (kinM .noArrow) rfl) pa_nil))) pa_nil))) pa_nil)))))
      (pss_cons (ps_expr (pe_bm PySem.F.plainAttrs_list PySem.F.slot_list_append PySem.F.type_list_append mt_append (pv 1) (pa_cons (pe_tup (pa_cons pe_str (pa_cons (pe_callB cr_isiB (by rfl) T.b_isinstance (by decide +kernel) (pa_cons (pv 0) (pa_cons (pe_glob (v := V.ref (ca .noSaying)) (by rfl) (kinM .noSaying) rfl) pa_nil))) pa_nil))) pa_nil)))
      (pss_one (ps_ret (pe_join pe_str (pe_lcH (own := [("_law_word", 2), ("_law_so", 3)]) (g := (gTup K 2 (gCons (gName 2) (gCons (gName 3) gNil)))) hH nd (pi_listH (pv 1)) (blkOk_by (own := [("_law_word", 2), ("_law_so", 3)]) (N := ["_law_e", "_law_words", "_law_word", "_law_so"]) (sc := defScope s__law_kin) (by decide +kernel)) (fun _ _ _ _ _ => (pg_tupH hH (pgs_cons (pg_name (i := 2) nd rfl (Or.inl rfl)) (pgs_cons (pg_name (i := 3) nd rfl (Or.inl rfl)) pgs_nil)))) (fun _ _ _ _ _ => (pts_one (pt_val (pv 3)))) (fun _ _ _ _ _ => (pv 2)))))))))))), ?_⟩
    have s := Same.refl H
    refine ⟨_, rfl, e, ca k, ca .badName, _, rfl, he, Y.e k, Y.i k .badName, by show 2 ≤ sizeLine; decide, fun z1 h1 => ?_⟩
    have kg := kw_one (k := k) (kk := .badName) h1
    have s := s.new2 (o := (.tup [.str (Kin.name .badName), .bl (decide (k = .badName))])) h1
    refine ⟨_, rfl, e, ca k, ca .taken, _, rfl, he, Y.e k, Y.i k .taken, by show 2 ≤ sizeLine; decide, fun z2 h2 => ?_⟩
    have kg := kw_more (kk := .taken) kg h2
    have s := s.new2 (o := (.tup [.str (Kin.name .taken), .bl (decide (k = .taken))])) h2
    refine ⟨_, rfl, e, ca k, ca .full, _, rfl, he, Y.e k, Y.i k .full, by show 2 ≤ sizeLine; decide, fun z3 h3 => ?_⟩
    have kg := kw_more (kk := .full) kg h3
    have s := s.new2 (o := (.tup [.str (Kin.name .full), .bl (decide (k = .full))])) h3
    refine ⟨by show 3 ≤ sizeLine; decide, fun l0 hl => ?_⟩
    have kg := kg.same (Same.new (o := .lst [.ref z1, .ref z2, .ref z3]) hl)
    have s := s.new2 (o := .lst [.ref z1, .ref z2, .ref z3]) hl
    have al := upd_lst (zs := [z1, z2, z3]) hl
    have ko := kg
    refine ⟨_, rfl, _, rfl, e, ca k, ca .tied, _, rfl, he, Y.e k, Y.i k .tied, by show 2 ≤ sizeLine; decide, fun z4 h4 => ?_⟩
    have kg := kw_one (k := k) (kk := .tied) h4
    have al := (Same.new (o := (.tup [.str (Kin.name .tied), .bl (decide (k = .tied))])) h4) _ _ al
    have ko := ko.same (Same.new (o := (.tup [.str (Kin.name .tied), .bl (decide (k = .tied))])) h4)
    have s := s.new2 (o := (.tup [.str (Kin.name .tied), .bl (decide (k = .tied))])) h4
    refine ⟨_, rfl, e, ca k, ca .badLeast, _, rfl, he, Y.e k, Y.i k .badLeast, by show 2 ≤ sizeLine; decide, fun z5 h5 => ?_⟩
    have kg := kw_more (kk := .badLeast) kg h5
    have al := (Same.new (o := (.tup [.str (Kin.name .badLeast), .bl (decide (k = .badLeast))])) h5) _ _ al
    have ko := ko.same (Same.new (o := (.tup [.str (Kin.name .badLeast), .bl (decide (k = .badLeast))])) h5)
    have s := s.new2 (o := (.tup [.str (Kin.name .badLeast), .bl (decide (k = .badLeast))])) h5
    refine ⟨by show 2 ≤ sizeLine; decide, fun l1 hl => ?_⟩
    have kg := kg.same (Same.new (o := .lst [.ref z4, .ref z5]) hl)
    have s := s.new2 (o := .lst [.ref z4, .ref z5]) hl
    have al := (Same.new (o := .lst [.ref z4, .ref z5]) hl) _ _ al
    have ko := ko.same (Same.new (o := .lst [.ref z4, .ref z5]) hl)
    have ag := upd_lst (zs := [z4, z5]) hl
    refine ⟨_, _, _, _, rfl, rfl, al, ag, by simp only [List.length_map, List.length_cons, List.length_nil, List.length_append]; decide, fun m1 hm => ?_⟩
    have ko := (ko.app kg).same (Same.new (o := .lst ([z1, z2, z3].map V.ref ++ [z4, z5].map V.ref)) hm)
    have s := s.new2 (o := .lst ([z1, z2, z3].map V.ref ++ [z4, z5].map V.ref)) hm
    have al := upd_lst2 (zs := [z1, z2, z3]) (ys := [z4, z5]) hm
    refine ⟨_, rfl, _, rfl, e, ca k, ca .badWeight, _, rfl, he, Y.e k, Y.i k .badWeight, by show 2 ≤ sizeLine; decide, fun z6 h6 => ?_⟩
    have kg := kw_one (k := k) (kk := .badWeight) h6
    have al := (Same.new (o := (.tup [.str (Kin.name .badWeight), .bl (decide (k = .badWeight))])) h6) _ _ al
    have ko := ko.same (Same.new (o := (.tup [.str (Kin.name .badWeight), .bl (decide (k = .badWeight))])) h6)
    have s := s.new2 (o := (.tup [.str (Kin.name .badWeight), .bl (decide (k = .badWeight))])) h6
    refine ⟨_, rfl, e, ca k, ca .same, _, rfl, he, Y.e k, Y.i k .same, by show 2 ≤ sizeLine; decide, fun z7 h7 => ?_⟩
    have kg := kw_more (kk := .same) kg h7
    have al := (Same.new (o := (.tup [.str (Kin.name .same), .bl (decide (k = .same))])) h7) _ _ al
    have ko := ko.same (Same.new (o := (.tup [.str (Kin.name .same), .bl (decide (k = .same))])) h7)
    have s := s.new2 (o := (.tup [.str (Kin.name .same), .bl (decide (k = .same))])) h7
    refine ⟨by show 2 ≤ sizeLine; decide, fun l2 hl => ?_⟩
    have kg := kg.same (Same.new (o := .lst [.ref z6, .ref z7]) hl)
    have s := s.new2 (o := .lst [.ref z6, .ref z7]) hl
    have al := (Same.new (o := .lst [.ref z6, .ref z7]) hl) _ _ al
    have ko := ko.same (Same.new (o := .lst [.ref z6, .ref z7]) hl)
    have ag := upd_lst (zs := [z6, z7]) hl
    refine ⟨_, _, _, _, rfl, rfl, al, ag, by simp only [List.length_map, List.length_cons, List.length_nil, List.length_append]; decide, fun m2 hm => ?_⟩
    have ko := (ko.app kg).same (Same.new (o := .lst (([z1, z2, z3] ++ [z4, z5]).map V.ref ++ [z6, z7].map V.ref)) hm)
    have s := s.new2 (o := .lst (([z1, z2, z3] ++ [z4, z5]).map V.ref ++ [z6, z7].map V.ref)) hm
    have al := upd_lst2 (zs := ([z1, z2, z3] ++ [z4, z5])) (ys := [z6, z7]) hm
    refine ⟨_, rfl, _, rfl, e, ca k, ca .badDeed, _, rfl, he, Y.e k, Y.i k .badDeed, by show 2 ≤ sizeLine; decide, fun z8 h8 => ?_⟩
    have kg := kw_one (k := k) (kk := .badDeed) h8
    have al := (Same.new (o := (.tup [.str (Kin.name .badDeed), .bl (decide (k = .badDeed))])) h8) _ _ al
    have ko := ko.same (Same.new (o := (.tup [.str (Kin.name .badDeed), .bl (decide (k = .badDeed))])) h8)
    have s := s.new2 (o := (.tup [.str (Kin.name .badDeed), .bl (decide (k = .badDeed))])) h8
    refine ⟨_, rfl, e, ca k, ca .clash, _, rfl, he, Y.e k, Y.i k .clash, by show 2 ≤ sizeLine; decide, fun z9 h9 => ?_⟩
    have kg := kw_more (kk := .clash) kg h9
    have al := (Same.new (o := (.tup [.str (Kin.name .clash), .bl (decide (k = .clash))])) h9) _ _ al
    have ko := ko.same (Same.new (o := (.tup [.str (Kin.name .clash), .bl (decide (k = .clash))])) h9)
    have s := s.new2 (o := (.tup [.str (Kin.name .clash), .bl (decide (k = .clash))])) h9
    refine ⟨by show 2 ≤ sizeLine; decide, fun l3 hl => ?_⟩
    have kg := kg.same (Same.new (o := .lst [.ref z8, .ref z9]) hl)
    have s := s.new2 (o := .lst [.ref z8, .ref z9]) hl
    have al := (Same.new (o := .lst [.ref z8, .ref z9]) hl) _ _ al
    have ko := ko.same (Same.new (o := .lst [.ref z8, .ref z9]) hl)
    have ag := upd_lst (zs := [z8, z9]) hl
    refine ⟨_, _, _, _, rfl, rfl, al, ag, by simp only [List.length_map, List.length_cons, List.length_nil, List.length_append]; decide, fun m3 hm => ?_⟩
    have ko := (ko.app kg).same (Same.new (o := .lst ((([z1, z2, z3] ++ [z4, z5]) ++ [z6, z7]).map V.ref ++ [z8, z9].map V.ref)) hm)
    have s := s.new2 (o := .lst ((([z1, z2, z3] ++ [z4, z5]) ++ [z6, z7]).map V.ref ++ [z8, z9].map V.ref)) hm
    have al := upd_lst2 (zs := (([z1, z2, z3] ++ [z4, z5]) ++ [z6, z7])) (ys := [z8, z9]) hm
    refine ⟨_, rfl, _, rfl, e, ca k, ca .noBox, _, rfl, he, Y.e k, Y.i k .noBox, by show 2 ≤ sizeLine; decide, fun z10 h10 => ?_⟩
    have kg := kw_one (k := k) (kk := .noBox) h10
    have al := (Same.new (o := (.tup [.str (Kin.name .noBox), .bl (decide (k = .noBox))])) h10) _ _ al
    have ko := ko.same (Same.new (o := (.tup [.str (Kin.name .noBox), .bl (decide (k = .noBox))])) h10)
    have s := s.new2 (o := (.tup [.str (Kin.name .noBox), .bl (decide (k = .noBox))])) h10
    refine ⟨_, rfl, e, ca k, ca .noArrow, _, rfl, he, Y.e k, Y.i k .noArrow, by show 2 ≤ sizeLine; decide, fun z11 h11 => ?_⟩
    have kg := kw_more (kk := .noArrow) kg h11
    have al := (Same.new (o := (.tup [.str (Kin.name .noArrow), .bl (decide (k = .noArrow))])) h11) _ _ al
    have ko := ko.same (Same.new (o := (.tup [.str (Kin.name .noArrow), .bl (decide (k = .noArrow))])) h11)
    have s := s.new2 (o := (.tup [.str (Kin.name .noArrow), .bl (decide (k = .noArrow))])) h11
    refine ⟨by show 2 ≤ sizeLine; decide, fun l4 hl => ?_⟩
    have kg := kg.same (Same.new (o := .lst [.ref z10, .ref z11]) hl)
    have s := s.new2 (o := .lst [.ref z10, .ref z11]) hl
    have al := (Same.new (o := .lst [.ref z10, .ref z11]) hl) _ _ al
    have ko := ko.same (Same.new (o := .lst [.ref z10, .ref z11]) hl)
    have ag := upd_lst (zs := [z10, z11]) hl
    refine ⟨_, _, _, _, rfl, rfl, al, ag, by simp only [List.length_map, List.length_cons, List.length_nil, List.length_append]; decide, fun m4 hm => ?_⟩
    have ko := (ko.app kg).same (Same.new (o := .lst (((([z1, z2, z3] ++ [z4, z5]) ++ [z6, z7]) ++ [z8, z9]).map V.ref ++ [z10, z11].map V.ref)) hm)
    have hm4 := s.free hm
    have s := s.new2 (o := .lst (((([z1, z2, z3] ++ [z4, z5]) ++ [z6, z7]) ++ [z8, z9]).map V.ref ++ [z10, z11].map V.ref)) hm
    have al := upd_lst2 (zs := ((([z1, z2, z3] ++ [z4, z5]) ++ [z6, z7]) ++ [z8, z9])) (ys := [z10, z11]) hm
    refine ⟨_, rfl, .inl ⟨rfl, _, SqL.of al⟩, _, rfl, e, ca k, ca .noSaying, _, rfl, he, Y.e k, Y.i k .noSaying, by show 2 ≤ sizeLine; decide, fun z12 h12 => ?_⟩
    have kg := kw_one (k := k) (kk := .noSaying) h12
    have al := (Same.new (o := (.tup [.str (Kin.name .noSaying), .bl (decide (k = .noSaying))])) h12) _ _ al
    have ko := ko.same (Same.new (o := (.tup [.str (Kin.name .noSaying), .bl (decide (k = .noSaying))])) h12)
    have s := s.new2 (o := (.tup [.str (Kin.name .noSaying), .bl (decide (k = .noSaying))])) h12
    refine ⟨m4, _, _, rfl, rfl, al, by simp only [List.length_map, List.length_cons, List.length_nil, List.length_append]; decide, ?_⟩
    have tp := Tu.put (o := .lst ((((([z1, z2, z3] ++ [z4, z5]) ++ [z6, z7]) ++ [z8, z9]) ++ [z10, z11]).map V.ref ++ [.ref z12])) al
    have kf := (ko.app kg).tuK tp
    have sf := s.updNew (o := .lst ((((([z1, z2, z3] ++ [z4, z5]) ++ [z6, z7]) ++ [z8, z9]) ++ [z10, z11]).map V.ref ++ [.ref z12])) hm4
    have af := upd_lst3 (z := z12) al
    clear al ko kg tp s
    refine ⟨⟨_, rfl⟩, _, rfl, m4, rfl, ⟨_, SqL.of af⟩, fun D hD => ?_⟩
    have kf : KW k _ _ allKin := kf
    have hlen := Paired.length kf
    refine lc_list (K := K) (a := m4) (xs := ((((([z1, z2, z3] ++ [z4, z5]) ++ [z6, z7]) ++ [z8, z9]) ++ [z10, z11]) ++ [z12]).map V.ref) (fun i H' => Same _ H' ∧ H' D = some (.lst (((allKin.take i).filter fun kk => decide (k = kk)).map fun kk => V.str kk.name))) ⟨Same.new hD, upd_same⟩ (fun i H' _ ⟨s2, _⟩ => SqL.of (s2 _ _ af)) ?_ ?_
    · rintro i x H' hx ⟨s2, g2⟩
      rw [List.getElem?_map] at hx
      cases ex : (((((([z1, z2, z3] ++ [z4, z5]) ++ [z6, z7]) ++ [z8, z9]) ++ [z10, z11]) ++ [z12]) : List Addr)[i]? with
      | none => rw [ex] at hx; cases hx
      | some q =>
        rw [ex] at hx
        cases hx
        obtain ⟨kk2, ek, hq⟩ := paired_get kf ex
        have st := take_filt (fun kk => decide (k = kk)) ek
        refine ⟨q, _, rfl, SqT.of (s2 _ _ hq), rfl, _, _, rfl, _, _, rfl, rfl, rfl, _, rfl, _, rfl, ?_⟩
        refine ite2 (fun c => ?_) (fun c => ?_)
        · refine ⟨_, rfl, _, g2, ?_, s2.updNew hD, ?_⟩
          · rw [List.length_map]
            exact Nat.lt_of_le_of_lt (Nat.le_trans (List.length_filter_le _ _) (by rw [List.length_take]; exact Nat.min_le_right _ _)) (by decide)
          · rw [upd_same, st, if_pos c, List.map_append]; rfl
        · refine ⟨s2, ?_⟩
          rw [st, if_neg c]
          exact g2
    · rintro H' ⟨s2, g2⟩
      rw [List.take_of_length_le (by rw [List.length_map]; show 12 ≤ 12; decide)] at g2
      have ef : (allKin.filter fun kk => decide (k = kk)) = [k] := by cases k <;> rfl
      rw [ef] at g2
      refine ⟨_, D, [k.name], rfl, rfl, .inl (SqL.of g2), (by cases k <;> decide), ?_⟩
      have ej : Txt.join " " [k.name] = k.name := by cases k <;> decide +kernel
      rw [ej]
      exact kk _ (sf.trans s2)
end

end W1

set_option Elab.async false
set_option linter.all false
set_option maxRecDepth 100000
set_option maxHeartbeats 1000000
namespace W1
open PySem PySem.Spec PyProof.Rows L2
abbrev s_b_do : Stmt := inClass (top 99) 1
abbrev s_b_box : Stmt := inClass (top 99) 2
abbrev s_b_arrow : Stmt := inClass (top 99) 4
abbrev s_b_cut : Stmt := inClass (top 99) 5
abbrev s_b_alter : Stmt := inClass (top 99) 6
abbrev s_b_say : Stmt := inClass (top 99) 7
abbrev s_b_unsay : Stmt := inClass (top 99) 8
abbrev s_b_deeds : Stmt := inClass (top 99) 13
abbrev s_b_web : Stmt := inClass (top 99) 15
abbrev s_b_len : Stmt := inClass (top 99) 25
abbrev s_b_init : Stmt := inClass (top 99) 0
theorem sc_b_do : FnScope ["self", "deed", "after", "number"] ["self", "deed"] (defScope s_b_do) := ⟨rfl, rfl, rfl, by decide +kernel, rfl, by decide +kernel, by decide +kernel⟩
theorem sc_b_box : FnScope ["self", "name"] ["self", "name"] (defScope s_b_box) := ⟨rfl, rfl, rfl, by decide +kernel, rfl, by decide +kernel, by decide +kernel⟩
theorem sc_b_arrow : FnScope ["self", "one", "other", "least", "weight"] ["self", "one", "other", "least", "weight"] (defScope s_b_arrow) := ⟨rfl, rfl, rfl, by decide +kernel, rfl, by decide +kernel, by decide +kernel⟩
theorem sc_b_cut : FnScope ["self", "number"] ["self", "number"] (defScope s_b_cut) := ⟨rfl, rfl, rfl, by decide +kernel, rfl, by decide +kernel, by decide +kernel⟩
theorem sc_b_alter : FnScope ["self", "number", "least", "weight"] ["self", "number", "least", "weight"] (defScope s_b_alter) := ⟨rfl, rfl, rfl, by decide +kernel, rfl, by decide +kernel, by decide +kernel⟩
theorem sc_b_say : FnScope ["self", "one", "other", "least"] ["self", "one", "other", "least"] (defScope s_b_say) := ⟨rfl, rfl, rfl, by decide +kernel, rfl, by decide +kernel, by decide +kernel⟩
theorem sc_b_unsay : FnScope ["self", "number"] ["self", "number"] (defScope s_b_unsay) := ⟨rfl, rfl, rfl, by decide +kernel, rfl, by decide +kernel, by decide +kernel⟩
theorem sc_b_deeds : FnScope ["self", "deed", "before"] ["self"] (defScope s_b_deeds) := ⟨rfl, rfl, rfl, by decide +kernel, rfl, by decide +kernel, by decide +kernel⟩
theorem sc_b_web : FnScope ["self"] ["self"] (defScope s_b_web) := ⟨rfl, rfl, rfl, by decide +kernel, rfl, by decide +kernel, by decide +kernel⟩
theorem sc_b_len : FnScope ["self"] ["self"] (defScope s_b_len) := ⟨rfl, rfl, rfl, by decide +kernel, rfl, by decide +kernel, by decide +kernel⟩
theorem sc_b_init : FnScope ["self"] ["self"] (defScope s_b_init) := ⟨rfl, rfl, rfl, by decide +kernel, rfl, by decide +kernel, by decide +kernel⟩
structure BAd where
  f_do : Addr
  d_do : FuncData
  f_box : Addr
  d_box : FuncData
  f_arrow : Addr
  d_arrow : FuncData
  t1_arrow : Tok
  t2_arrow : Tok
  f_cut : Addr
  d_cut : FuncData
  f_alter : Addr
  d_alter : FuncData
  t1_alter : Tok
  t2_alter : Tok
  f_say : Addr
  d_say : FuncData
  t1_say : Tok
  f_unsay : Addr
  d_unsay : FuncData
  f_deeds : Addr
  d_deeds : FuncData
  f_web : Addr
  d_web : FuncData
  f_len : Addr
  d_len : FuncData
  f_init : Addr
  d_init : FuncData
/-- the class Board -/
structure BrdC (K : PySem.W.Frag) (mg : Str → Option Value) (C : Addr) (aS : Addr) (bd : BAd) : Prop where
  cl : Cls K C
  ma : Mk K C bd.f_init
  nN : NoAttr K C "now"
  nP : NoAttr K C "past"
  nF : NoAttr K C "future"
  m : mg "Board" = some (.ref C)
  mS : mg "START" = some (.ref aS)
  st : ∀ H, ∃ n a s g, StH K H aS ⟨[], [], [], 0, 0, .non⟩ n a s g
  at_do : Meth K C "do" bd.f_do
  F_do : Fun K "do" "Board.do" s_b_do bd.f_do bd.d_do
  b_do : Binds K bd.d_do ["self", "deed"] []
  at_box : Meth K C "box" bd.f_box
  F_box : Fun K "box" "Board.box" s_b_box bd.f_box bd.d_box
  b_box : Binds K bd.d_box ["self", "name"] []
  at_arrow : Meth K C "arrow" bd.f_arrow
  F_arrow : FunD K "arrow" "Board.arrow" s_b_arrow bd.f_arrow bd.d_arrow #[.int 1 bd.t1_arrow, .int 1 bd.t2_arrow]
  at_cut : Meth K C "cut" bd.f_cut
  F_cut : Fun K "cut" "Board.cut" s_b_cut bd.f_cut bd.d_cut
  b_cut : Binds K bd.d_cut ["self", "number"] []
  at_alter : Meth K C "alter" bd.f_alter
  F_alter : FunD K "alter" "Board.alter" s_b_alter bd.f_alter bd.d_alter #[.int 1 bd.t1_alter, .int 1 bd.t2_alter]
  at_say : Meth K C "say" bd.f_say
  F_say : FunD K "say" "Board.say" s_b_say bd.f_say bd.d_say #[.int 1 bd.t1_say]
  at_unsay : Meth K C "unsay" bd.f_unsay
  F_unsay : Fun K "unsay" "Board.unsay" s_b_unsay bd.f_unsay bd.d_unsay
  b_unsay : Binds K bd.d_unsay ["self", "number"] []
  at_deeds : Meth K C "deeds" bd.f_deeds
  F_deeds : Fun K "deeds" "Board.deeds" s_b_deeds bd.f_deeds bd.d_deeds
  b_deeds : Binds K bd.d_deeds ["self"] []
  at_web : Meth K C "web" bd.f_web
  F_web : Fun K "web" "Board.web" s_b_web bd.f_web bd.d_web
  b_web : Binds K bd.d_web ["self"] []
  at_len : Meth K C "__len__" bd.f_len
  F_len : Fun K "__len__" "Board.__len__" s_b_len bd.f_len bd.d_len
  b_len : Binds K bd.d_len ["self"] []
  F_init : Fun K "__init__" "Board.__init__" s_b_init bd.f_init bd.d_init
  b_init : Binds K bd.d_init ["self"] []
section
variable {K : PySem.W.Frag} {mg : Str → Option Value} {C aS : Addr} {bd : BAd}
theorem BrdC.bd_arrow (B : BrdC K mg C aS bd) : Binds K bd.d_arrow ["self", "one", "other", "least", "weight"] [.int 1 bd.t1_arrow, .int 1 bd.t2_arrow] := fun s us X hl => by
  obtain ⟨oc, od, kV, doc, pm, an, cdv, ct, osl, dt, ot, nt, e, lk, hcd, q, qd⟩ := B.F_arrow.ex
  have hl' : us.length = 3 := by simpa using hl
  match us, hl' with
  | [u0, u1, u2], _ => rw [e]; exact PySem.W.binds_K X rfl q qd rfl rfl
theorem BrdC.bd_say (B : BrdC K mg C aS bd) : Binds K bd.d_say ["self", "one", "other", "least"] [.int 1 bd.t1_say] := fun s us X hl => by
  obtain ⟨oc, od, kV, doc, pm, an, cdv, ct, osl, dt, ot, nt, e, lk, hcd, q, qd⟩ := B.F_say.ex
  have hl' : us.length = 3 := by simpa using hl
  match us, hl' with
  | [u0, u1, u2], _ => rw [e]; exact PySem.W.binds_K X rfl q qd rfl rfl
theorem BrdC.bk_arrow_weight (B : BrdC K mg C aS bd) : KBinds K bd.d_arrow ["self", "one", "other", "least", "weight"] ["weight"] (kgA 3 1 [.int 1 bd.t1_arrow] []) (kgA 3 1 [V.int 1] []) := by
  refine ⟨fun s us ws X hl => ?_, kgA_vals (.cons (show RelV (.int 1) (.int 1 bd.t1_arrow) from ⟨_, rfl⟩) .nil) .nil⟩
  obtain ⟨oc, od, kV, doc, pm, an, cdv, ct, osl, dt, ot, nt, e, lk, hcd, q, qd⟩ := B.F_arrow.ex
  obtain ⟨h1, h2⟩ := kgA_len hl
  match us, ws, h1, h2 with
  | [u0, u1, u2], [w0], _, _ => rw [e]; exact PySem.W.binds_K X rfl q qd rfl rfl
theorem BrdC.bk_arrow_least (B : BrdC K mg C aS bd) : KBinds K bd.d_arrow ["self", "one", "other", "least", "weight"] ["least"] (kgA 3 1 [] [.int 1 bd.t2_arrow]) (kgA 3 1 [] [V.int 1]) := by
  refine ⟨fun s us ws X hl => ?_, kgA_vals .nil (.cons (show RelV (.int 1) (.int 1 bd.t2_arrow) from ⟨_, rfl⟩) .nil)⟩
  obtain ⟨oc, od, kV, doc, pm, an, cdv, ct, osl, dt, ot, nt, e, lk, hcd, q, qd⟩ := B.F_arrow.ex
  obtain ⟨h1, h2⟩ := kgA_len hl
  match us, ws, h1, h2 with
  | [u0, u1, u2], [w0], _, _ => rw [e]; exact PySem.W.binds_K X rfl q qd rfl rfl
theorem BrdC.bk_say_least (B : BrdC K mg C aS bd) : KBinds K bd.d_say ["self", "one", "other", "least"] ["least"] (kgA 3 1 [] []) (kgA 3 1 [] []) := by
  refine ⟨fun s us ws X hl => ?_, kgA_vals .nil .nil⟩
  obtain ⟨oc, od, kV, doc, pm, an, cdv, ct, osl, dt, ot, nt, e, lk, hcd, q, qd⟩ := B.F_say.ex
  obtain ⟨h1, h2⟩ := kgA_len hl
  match us, ws, h1, h2 with
  | [u0, u1, u2], [w0], _, _ => rw [e]; exact PySem.W.binds_K X rfl q qd rfl rfl
theorem BrdC.bk_alter_least (B : BrdC K mg C aS bd) : KBinds K bd.d_alter ["self", "number", "least", "weight"] ["least"] (kgA 2 1 [] [.int 1 bd.t2_alter]) (kgA 2 1 [] [V.int 1]) := by
  refine ⟨fun s us ws X hl => ?_, kgA_vals .nil (.cons (show RelV (.int 1) (.int 1 bd.t2_alter) from ⟨_, rfl⟩) .nil)⟩
  obtain ⟨oc, od, kV, doc, pm, an, cdv, ct, osl, dt, ot, nt, e, lk, hcd, q, qd⟩ := B.F_alter.ex
  obtain ⟨h1, h2⟩ := kgA_len hl
  match us, ws, h1, h2 with
  | [u0, u1], [w0], _, _ => rw [e]; exact PySem.W.binds_K X rfl q qd rfl rfl
end

end W1

set_option Elab.async false
set_option linter.all false
/-! Texts of webs as tokens: what is written, and how it is read. -/
namespace L2
/-- a link: what ties two names, or nothing -/
inductive Lk where
  | semi
  | arr (l w : Nat)
  | say (neg : Bool) (d : Nat)
namespace Lk
def good : Lk → Prop
  | semi => True
  | arr l w => (1 ≤ l ∧ l ≤ 3) ∧ 1 ≤ w ∧ w ≤ 9
  | say neg d => d ≤ 9 ∧ (neg = true → 1 ≤ d)
/-- without the blanks around it -/
def core : Lk → List Nat
  | semi => [59]
  | arr l w => 62 :: ((if l = 1 then [] else [48 + l]) ++ (if w = 1 then [] else [120, 48 + w]))
  | say neg d => 60 :: ((if neg = true then [45] else []) ++ [48 + d])
def pre : Lk → List Nat
  | semi => []
  | _ => [32]
def sep (k : Lk) : List Nat := k.pre ++ (k.core ++ [32])
def least : Lk → Int
  | semi => 0
  | arr l _ => l
  | say neg d => if neg = true then -(d : Int) else d
def weight : Lk → Int
  | arr _ w => w
  | _ => 0
def sign : Lk → Nat
  | semi => 59
  | arr _ _ => 62
  | say _ _ => 60
end Lk
/-- the blanks, the letters at the head -/
def blnk (r : List Nat) : Nat := (r.takeWhile fun c => decide (c = 32)).length
def letterB (c : Nat) : Bool := decide (97 ≤ c) && decide (c ≤ 122)
def nlen (r : List Nat) : Nat := ((r.take 6).takeWhile letterB).length
def hdIn (r S : List Nat) : Bool := match r with | [] => false | c :: _ => decide (c ∈ S)
section
variable {α : Type} (f : α → List Nat)
def toks : List (Lk × α) → List Nat
  | [] => []
  | (k, n) :: r => k.sep ++ (f n ++ toks r)
end
theorem nl_le (r : List Nat) : nlen r ≤ 6 := by
  unfold nlen
  exact Nat.le_trans (List.takeWhile_prefix letterB).length_le (by simp; omega)
/-! ### the web of the tokens -/
section
variable {α : Type} [DecidableEq α]
structure RSt (α : Type) where
  ns : List α
  ar : List (List Int)
  sa : List (List Int)
  ah : List Nat
def nsAdd (ns : List α) (n : α) : List α := if n ∈ ns then ns else ns ++ [n]
/-- the tokens of a tie -/
structure TkA where
  a : Nat
  b : Nat
  k : Lk
def TkA.row (t : TkA) : List Int := match t.k with | .arr l w => [(t.a : Int), (t.b : Int), (l : Int), (w : Int)] | k => [(t.a : Int), (t.b : Int), k.least]
def TkA.two (ns : List α) (d : α) (t : TkA) : List (Lk × α) := [(.semi, ns.getD t.a d), (t.k, ns.getD t.b d)]
end
end L2

set_option Elab.async false
set_option linter.all false
set_option maxRecDepth 100000
namespace L2
open PySem PySem.Spec PyProof.Rows
/-- the parts of an f-string, from the left -/
abbrev TJ := Str → St → Hp → (Str → Hp → Prop) → Prop
section
variable {X : Cx} {e v1 v2 value : Expr} {es : List Expr} {te : TE} {tj : TJ} {pos : Pos}
end
end L2

set_option Elab.async false
set_option linter.all false
set_option maxRecDepth 100000
namespace L2
open PySem PySem.Spec PyProof.Rows
theorem drop_hd {l : List Nat} {i : Nat} {S : List Nat} : hdIn (l.drop i) S = (match l[i]? with | some c => decide (c ∈ S) | none => false) := by
  cases e : l[i]? with
  | none =>
    rw [List.drop_eq_nil_of_le (List.getElem?_eq_none_iff.mp e)]
    rfl
  | some c =>
    obtain ⟨h, rfl⟩ := List.getElem?_eq_some_iff.mp e
    rw [List.drop_eq_getElem_cons h]
    rfl
theorem len_tl' (z : Str) : (TL.tl z).length = z.length := (TL.len_tl z).symm
/-- a part of a text -/
def partS (z : Str) (a n : Nat) : Str := ⟨(((TL.tl z).drop a).take n).toArray⟩
/-- the sign of a link -/
def sgS (k : Lk) : Str := ⟨#[k.sign]⟩
def lkV (k : Lk) : List V := [.str (sgS k), .int k.least, .int k.weight]
/-- a step: a link and the one name behind it -/
def TkStep (H : Hp) (p : Addr) (t : Lk × Str) : Prop := ∃ q g, H p = some (.tup [.ref q, .ref g]) ∧ H q = some (.tup (lkV t.1)) ∧ H g = some (.lst [.str t.2])
theorem TkStep.same {H H' : Hp} {p : Addr} {t : Lk × Str} (h : TkStep H p t) (s : Same H H') : TkStep H' p t := let ⟨q, g, h1, h2, h3⟩ := h; ⟨q, g, s _ _ h1, s _ _ h2, s _ _ h3⟩
theorem TkStep.upd {H : Hp} {p L : Addr} {t : Lk × Str} {xs ys : List V} {h0 : Hp} (h : TkStep H p t) (hL : H L = some (.lst xs)) (hg : ∀ q g, H p = some (.tup [.ref q, .ref g]) → g ≠ L) : TkStep (upd H L (.lst ys)) p t := by
  obtain ⟨q, g, h1, h2, h3⟩ := h
  refine ⟨q, g, ?_, ?_, ?_⟩
  · rw [upd_ne (fun e => by rw [e, hL] at h1; cases h1)]; exact h1
  · rw [upd_ne (fun e => by rw [e, hL] at h2; cases h2)]; exact h2
  · rw [upd_ne (hg q g h1)]; exact h3
/-- the state of the reading -/
structure RH (H : Hp) (LN LA LS LH : Addr) (s : RSt Str) : Prop where
  nam : H LN = some (.lst (s.ns.map V.str))
  arr : ∃ ra, H LA = some (.lst (ra.map V.ref)) ∧ RowsH H ra s.ar
  say : ∃ sa, H LS = some (.lst (sa.map V.ref)) ∧ RowsH H sa s.sa
  ah : H LH = some (.lst (s.ah.map fun i : Nat => V.int (i : Int)))
end L2

set_option Elab.async false
set_option linter.all false
set_option maxRecDepth 100000
namespace L2
open PySem PySem.Spec PyProof.Rows
/-- what is told by an error of the class at cC: a ring that gains -/
def Clashes (cC : Addr) (ts : List Tie) (H : Hp) (E : XK) : Prop := ∀ (fl : List L2.Step) (dx R : Addr) (H' : Hp), Same H H' → Gain ts fl → fl.length ≤ 1000 → H' R = some (.lst (fl.reverse.map fun p => V.int (p.t : Int))) → H R = none → H' dx = some (.xd [("ring", .ref R)]) → E (.ref cC) (some dx) H'
theorem Clashes.later {cC : Addr} {ts : List Tie} {H H1 : Hp} {E : XK} (h : Clashes cC ts H E) (s : Same H H1) : Clashes cC ts H1 E := fun fl dx R H' s1 G l e1 f e2 => h fl dx R H' (s.trans s1) G l e1 (s.free f) e2
end L2

set_option Elab.async false
set_option linter.all false
set_option maxRecDepth 100000
namespace L2
open PySem PySem.Spec PyProof.Rows
/-- what is told of an error with a place -/
def BadAt (cB : Addr) (H : Hp) (E : XK) (n : Nat) : Prop := ∀ (dx : Addr) (H' : Hp), Same H H' → H' dx = some (.xd [("at", .int (n : Int))]) → E (.ref cB) (some dx) H'
theorem BadAt.later {cB : Addr} {H H1 : Hp} {E : XK} {n : Nat} (h : BadAt cB H E n) (s : Same H H1) : BadAt cB H1 E n := fun dx H' s1 e => h dx H' (s.trans s1) e
/-- the place behind the blanks; the length of a name -/
def blp (z : Str) (a : Nat) : Nat := a + blnk ((TL.tl z).drop a)
def nmp (z : Str) (a : Nat) : Nat := nlen ((TL.tl z).drop a)
def hdp (z : Str) (a : Nat) (S : List Nat) : Bool := hdIn ((TL.tl z).drop a) S
theorem blnk_len (r : List Nat) : blnk r ≤ r.length := by
  unfold blnk
  exact (List.takeWhile_sublist _).length_le
theorem nlen_len (r : List Nat) : nlen r ≤ r.length := by
  unfold nlen
  exact Nat.le_trans (List.takeWhile_sublist _).length_le (by rw [List.length_take]; omega)
theorem blp_le {z : Str} {a : Nat} (h : a ≤ z.length) : blp z a ≤ z.length := by
  have := blnk_len ((TL.tl z).drop a)
  rw [List.length_drop, len_tl'] at this
  unfold blp
  omega
theorem nmp_le {z : Str} {a : Nat} (h : a ≤ z.length) : a + nmp z a ≤ z.length := by
  have := nlen_len ((TL.tl z).drop a)
  rw [List.length_drop, len_tl'] at this
  unfold nmp
  omega
theorem hdp_at {z : Str} {a : Nat} {S : List Nat} (h : hdp z a S = true) : ∃ c, (TL.tl z)[a]? = some c ∧ c ∈ S ∧ a < z.length := by
  unfold hdp at h
  rw [drop_hd] at h
  cases e : (TL.tl z)[a]? with
  | none => rw [e] at h; cases h
  | some c =>
    rw [e] at h
    have := (List.getElem?_eq_some_iff.mp e).1
    rw [len_tl'] at this
    exact ⟨c, rfl, of_decide_eq_true h, this⟩
theorem hdp_one {z : Str} {a c : Nat} (h : hdp z a [c] = true) : (TL.tl z)[a]? = some c ∧ a < z.length := by
  obtain ⟨d, e, m, l⟩ := hdp_at h
  have : d = c := by simpa using m
  subst this
  exact ⟨e, l⟩
theorem hdp_of {z : Str} {a c : Nat} {S : List Nat} (h : (TL.tl z)[a]? = some c) : hdp z a S = decide (c ∈ S) := by
  unfold hdp
  rw [drop_hd, h]
abbrev GRes := Option (List Str) × Nat
/-- a group in brackets, read from its sign on -/
inductive GrpL (z : Str) : Nat → Nat → List Str → GRes → Prop
  | bad1 {n a ns} : nmp z (blp z (a + 1)) = 0 → GrpL z n a ns (none, blp z (a + 1))
  | bad2 {n a ns} : nmp z (blp z (a + 1)) ≠ 0 → hdp z (blp z (blp z (a + 1) + nmp z (blp z (a + 1)))) [44, 41] = false → GrpL z n a ns (none, blp z (blp z (a + 1) + nmp z (blp z (a + 1))))
  | more {n a ns res} : nmp z (blp z (a + 1)) ≠ 0 → hdp z (blp z (blp z (a + 1) + nmp z (blp z (a + 1)))) [44] = true → GrpL z n (blp z (blp z (a + 1) + nmp z (blp z (a + 1)))) (ns ++ [partS z (blp z (a + 1)) (nmp z (blp z (a + 1)))]) res → GrpL z (n + 1) a ns res
  | fin {n a ns} : nmp z (blp z (a + 1)) ≠ 0 → hdp z (blp z (blp z (a + 1) + nmp z (blp z (a + 1)))) [41] = true → GrpL z n a ns (some (ns ++ [partS z (blp z (a + 1)) (nmp z (blp z (a + 1)))]), blp z (blp z (a + 1) + nmp z (blp z (a + 1))) + 1)
inductive Grp (z : Str) (n a : Nat) : GRes → Prop
  | lone : hdp z a [40] = false → nmp z a ≠ 0 → Grp z n a (some [partS z a (nmp z a)], a + nmp z a)
  | none : hdp z a [40] = false → nmp z a = 0 → Grp z n a (none, a)
  | many {res} : hdp z a [40] = true → GrpL z n a [] res → Grp z n a res
/-- a link: its sign, least and weight -/
structure Ln where
  sg : Nat
  l : Int
  w : Int
abbrev lnV (k : Ln) : List V := [.str ⟨#[k.sg]⟩, .int k.l, .int k.w]
def dig (z : Str) (a : Nat) : Int := ((TL.tl z).getD a 0 : Int) - 48
abbrev leastsL : List Nat := [49, 50, 51]
abbrev weightsL : List Nat := [49, 50, 51, 52, 53, 54, 55, 56, 57]
abbrev figsL : List Nat := [48, 49, 50, 51, 52, 53, 54, 55, 56, 57]
def arr1 (z : Str) (a : Nat) : Nat := a + (if hdp z a leastsL = true then 1 else 0)
def arrX (z : Str) (a : Nat) : Bool := hdp z (arr1 z a) [120] && hdp z (arr1 z a + 1) weightsL
def arrN (z : Str) (a : Nat) : Ln := ⟨62, if hdp z a leastsL = true then dig z a else 1, if arrX z a = true then dig z (arr1 z a + 1) else 1⟩
def arrE (z : Str) (a : Nat) : Nat := arr1 z a + (if arrX z a = true then 2 else 0)
def say1 (z : Str) (a : Nat) : Nat := a + (if hdp z a [45] = true then 1 else 0)
def sayN (z : Str) (a : Nat) : Ln := ⟨60, if hdp z a [45] = true then -(dig z (say1 z a)) else dig z (say1 z a), 0⟩
def lnkF (z : Str) (a : Nat) : Option Ln × Nat :=
  if hdp z a [62] = true then (some (arrN z (a + 1)), arrE z (a + 1))
  else if hdp z a [60] = true then (if hdp z (say1 z (a + 1)) figsL = true then (some (sayN z (a + 1)), say1 z (a + 1) + 1) else (none, say1 z (a + 1)))
  else if hdp z a [61, 59] = true then (some ⟨(TL.tl z).getD a 0, 0, 0⟩, a + 1)
  else (none, a)
abbrev SRes := Option (List (Ln × List Str)) × Nat
/-- the steps of a text, from a group on -/
inductive PrsL (z : Str) : Nat → Nat → Ln → List (Ln × List Str) → SRes → Prop
  | bad {m n a k st e} : Grp z m a (none, e) → PrsL z n a k st (none, e)
  | fin {m n a k st ns e} : Grp z m a (some ns, e) → blp z e = z.length → PrsL z n a k st (some (st ++ [(k, ns)]), z.length)
  | badl {m n a k st ns e e'} : Grp z m a (some ns, e) → blp z e ≠ z.length → lnkF z (blp z e) = (none, e') → PrsL z n a k st (none, e')
  | more {m n a k st ns e e' k' res} : Grp z m a (some ns, e) → blp z e ≠ z.length → lnkF z (blp z e) = (some k', e') → PrsL z n (blp z e') k' (st ++ [(k, ns)]) res → PrsL z (n + 1) a k st res
inductive Prs (z : Str) (n : Nat) : SRes → Prop
  | nil : blp z 0 = z.length → Prs z n (some [], z.length)
  | some {res} : blp z 0 ≠ z.length → PrsL z n (blp z 0) ⟨59, 0, 0⟩ [] res → Prs z n res
end L2

set_option Elab.async false
set_option linter.all false
set_option maxRecDepth 100000
namespace L2
open PySem PySem.Spec PyProof.Rows
theorem PrsL.inv {z : Str} {n a : Nat} {k : Ln} {st : List (Ln × List Str)} {res : SRes} (h : PrsL z n a k st res) :
    (∃ m e, Grp z m a (none, e) ∧ res = (none, e)) ∨ ∃ m ns e, Grp z m a (some ns, e) ∧ (blp z e = z.length → res = (some (st ++ [(k, ns)]), z.length)) ∧
      (blp z e ≠ z.length → (∀ e', lnkF z (blp z e) = (none, e') → res = (none, e')) ∧ ∀ k' e', lnkF z (blp z e) = (some k', e') → ∃ n', n = n' + 1 ∧ PrsL z n' (blp z e') k' (st ++ [(k, ns)]) res) := by
  cases h with
  | bad G => exact .inl ⟨_, _, G, rfl⟩
  | fin G hb => exact .inr ⟨_, _, _, G, fun _ => rfl, fun h => absurd hb h⟩
  | badl G hb hl => exact .inr ⟨_, _, _, G, fun h => absurd h hb, fun _ => ⟨(fun e' h => by rw [hl] at h; cases h; rfl), (fun k' e' h => by rw [hl] at h; cases h)⟩⟩
  | more G hb hl P => exact .inr ⟨_, _, _, G, fun h => absurd h hb, fun _ => ⟨(fun e' h => by rw [hl] at h; cases h), (fun k' e' h => by rw [hl] at h; cases h; exact ⟨_, rfl, P⟩)⟩⟩
theorem GrpL.le {z : Str} {n a : Nat} {ns : List Str} {res : GRes} (h : GrpL z n a ns res) (ha : a < z.length) : res.2 ≤ z.length ∧ ∀ l, res.1 = some l → a < res.2 ∧ l.length + a ≤ ns.length + res.2 ∧ l ≠ [] := by
  induction h with
  | @bad1 n a ns h => exact ⟨blp_le ha, fun l q => by cases q⟩
  | @bad2 n a ns h h2 => exact ⟨blp_le (nmp_le (blp_le ha)), fun l q => by cases q⟩
  | @more n a ns res h h2 _ ih =>
    have b := (hdp_one h2).2
    obtain ⟨i1, i2⟩ := ih b
    refine ⟨i1, fun l q => ?_⟩
    obtain ⟨j1, j2, j3⟩ := i2 l q
    have u1 : a + 1 ≤ blp z (a + 1) := Nat.le_add_right _ _
    have u2 : blp z (a + 1) + nmp z (blp z (a + 1)) ≤ blp z (blp z (a + 1) + nmp z (blp z (a + 1))) := Nat.le_add_right _ _
    rw [List.length_append, List.length_singleton] at j2
    exact ⟨by omega, by omega, j3⟩
  | @fin n a ns h h2 =>
    have b := (hdp_one h2).2
    have u1 : a + 1 ≤ blp z (a + 1) := Nat.le_add_right _ _
    have u2 : blp z (a + 1) + nmp z (blp z (a + 1)) ≤ blp z (blp z (a + 1) + nmp z (blp z (a + 1))) := Nat.le_add_right _ _
    refine ⟨b, fun l q => ?_⟩
    cases q
    dsimp only
    rw [List.length_append, List.length_singleton]
    exact ⟨by omega, by omega, by simp⟩
theorem Grp.le {z : Str} {n a : Nat} {res : GRes} (h : Grp z n a res) (ha : a ≤ z.length) : res.2 ≤ z.length ∧ ∀ l, res.1 = some l → a < res.2 ∧ l.length + a ≤ res.2 ∧ l ≠ [] := by
  cases h with
  | lone h1 h2 =>
    refine ⟨nmp_le ha, fun l q => ?_⟩
    cases q
    dsimp only
    rw [List.length_singleton]
    exact ⟨by omega, by omega, by simp⟩
  | none h1 h2 => exact ⟨ha, fun l q => by cases q⟩
  | many h1 GL =>
    obtain ⟨i1, i2⟩ := GL.le (hdp_one h1).2
    refine ⟨i1, fun l q => ?_⟩
    obtain ⟨j1, j2, j3⟩ := i2 l q
    exact ⟨j1, by simpa using j2, j3⟩
theorem arrE_le {z : Str} {a : Nat} (ha : a ≤ z.length) : a ≤ arrE z a ∧ arrE z a ≤ z.length := by
  have h1 : a ≤ arr1 z a ∧ arr1 z a ≤ z.length := by
    unfold arr1
    split
    · next c => obtain ⟨_, _, _, l⟩ := hdp_at c; omega
    · omega
  unfold arrE
  split
  · next c =>
    unfold arrX at c
    rw [Bool.and_eq_true] at c
    obtain ⟨_, _, _, l⟩ := hdp_at c.2
    omega
  · omega
theorem say1_le {z : Str} {a : Nat} (ha : a ≤ z.length) : a ≤ say1 z a ∧ say1 z a ≤ z.length := by
  unfold say1
  split
  · next c => have := (hdp_one c).2; omega
  · omega
theorem lnkF_le {z : Str} {a : Nat} (ha : a < z.length) : (lnkF z a).2 ≤ z.length ∧ ∀ k, (lnkF z a).1 = some k → a < (lnkF z a).2 := by
  have h1 := arrE_le (z := z) (a := a + 1) ha
  have h2 := say1_le (z := z) (a := a + 1) ha
  unfold lnkF
  split
  · exact ⟨h1.2, fun k _ => by dsimp only; omega⟩
  · split
    · split
      · next c =>
        obtain ⟨_, _, _, l⟩ := hdp_at c
        exact ⟨l, fun k _ => by dsimp only; omega⟩
      · exact ⟨h2.2, fun k q => by cases q⟩
    · split
      · exact ⟨ha, fun k _ => by dsimp only; omega⟩
      · exact ⟨Nat.le_of_lt ha, fun k q => by cases q⟩
/-- every text is read to its end, or to where it can't be read -/
theorem GrpL.total {z : Str} : ∀ (d a : Nat) (ns : List Str), z.length - a ≤ d → a < z.length → ∃ n res, GrpL z n a ns res
  | 0, a, ns, h, ha => by omega
  | d + 1, a, ns, h, ha => by
    by_cases h1 : nmp z (blp z (a + 1)) = 0
    · exact ⟨0, _, .bad1 h1⟩
    · cases h2 : hdp z (blp z (blp z (a + 1) + nmp z (blp z (a + 1)))) [44, 41] with
      | false => exact ⟨0, _, .bad2 h1 h2⟩
      | true =>
        obtain ⟨c, e, m, l⟩ := hdp_at h2
        have u1 : a + 1 ≤ blp z (a + 1) := Nat.le_add_right _ _
        have u2 : blp z (a + 1) + nmp z (blp z (a + 1)) ≤ blp z (blp z (a + 1) + nmp z (blp z (a + 1))) := Nat.le_add_right _ _
        have m' : c = 44 ∨ c = 41 := by simpa using m
        rcases m' with rfl | rfl
        · obtain ⟨n, res, G⟩ := GrpL.total d (blp z (blp z (a + 1) + nmp z (blp z (a + 1)))) (ns ++ [partS z (blp z (a + 1)) (nmp z (blp z (a + 1)))]) (by omega) l
          exact ⟨n + 1, res, .more h1 ((hdp_of e).trans (by decide)) G⟩
        · exact ⟨0, _, .fin h1 ((hdp_of e).trans (by decide))⟩
theorem Grp.total (z : Str) (a : Nat) : ∃ n res, Grp z n a res := by
  cases h1 : hdp z a [40] with
  | true =>
    obtain ⟨n, res, G⟩ := GrpL.total (z := z) (z.length - a) a [] (Nat.le_refl _) (hdp_one h1).2
    exact ⟨n, res, .many h1 G⟩
  | false =>
    by_cases h2 : nmp z a = 0
    · exact ⟨0, _, .none h1 h2⟩
    · exact ⟨0, _, .lone h1 h2⟩
theorem PrsL.total {z : Str} : ∀ (d a : Nat) (k : Ln) (st : List (Ln × List Str)), z.length - a ≤ d → a ≤ z.length → ∃ n res, PrsL z n a k st res
  | d, a, k, st, h, ha => by
    obtain ⟨m, ⟨r, e⟩, G⟩ := Grp.total z a
    cases r with
    | none => exact ⟨0, _, .bad G⟩
    | some ns =>
      obtain ⟨i1, i2⟩ := G.le ha
      obtain ⟨j1, _⟩ := i2 ns rfl
      have i1 : e ≤ z.length := i1
      have j1 : a < e := j1
      have b1 := blp_le i1
      have u1 : e ≤ blp z e := Nat.le_add_right _ _
      by_cases hb : blp z e = z.length
      · exact ⟨0, _, .fin G hb⟩
      · obtain ⟨l1, l2⟩ := lnkF_le (z := z) (a := blp z e) (by omega)
        cases hl : lnkF z (blp z e) with
        | mk kr e' =>
          rw [hl] at l1 l2
          cases kr with
          | none => exact ⟨0, _, .badl G hb hl⟩
          | some k' =>
            have l3 : blp z e < e' := l2 k' rfl
            have u2 : e' ≤ blp z e' := Nat.le_add_right _ _
            match d, h with
            | 0, h => omega
            | d + 1, h =>
              obtain ⟨n, res, P⟩ := PrsL.total d (blp z e') k' (st ++ [(k, ns)]) (by omega) (blp_le l1)
              exact ⟨n + 1, res, .more G hb hl P⟩
theorem Prs.total (z : Str) : ∃ n res, Prs z n res := by
  by_cases h : blp z 0 = z.length
  · exact ⟨0, _, .nil h⟩
  · obtain ⟨n, res, P⟩ := PrsL.total (z := z) z.length (blp z 0) ⟨59, 0, 0⟩ [] (by omega) (blp_le (Nat.zero_le _))
    exact ⟨n, res, .some h P⟩
def TkS (H : Hp) (p : Addr) (t : Ln × List Str) : Prop := ∃ q g, H p = some (.tup [.ref q, .ref g]) ∧ H q = some (.tup (lnV t.1)) ∧ H g = some (.lst (t.2.map V.str))
theorem TkS.same {H H' : Hp} {p : Addr} {t : Ln × List Str} (h : TkS H p t) (s : Same H H') : TkS H' p t := let ⟨q, g, h1, h2, h3⟩ := h; ⟨q, g, s _ _ h1, s _ _ h2, s _ _ h3⟩
theorem TkS.upd {H : Hp} {p L : Addr} {t : Ln × List Str} {xs ys : List V} (h : TkS H p t) (hL : H L = some (.lst xs)) (hg : ∀ q g, H p = some (.tup [.ref q, .ref g]) → g ≠ L) : TkS (upd H L (.lst ys)) p t := by
  obtain ⟨q, g, h1, h2, h3⟩ := h
  exact ⟨q, g, by rw [upd_ne (fun e => by rw [e, hL] at h1; cases h1)]; exact h1, by rw [upd_ne (fun e => by rw [e, hL] at h2; cases h2)]; exact h2, by rw [upd_ne (hg q g h1)]; exact h3⟩
end L2

set_option Elab.async false
set_option linter.all false
set_option maxRecDepth 100000
namespace L2
open PySem PySem.Spec PyProof.Rows
def nsAll (ns g : List Str) : List Str := g.foldl nsAdd ns
def bxOf (ns g : List Str) : List Nat := g.map fun n => ns.idxOf n
def prOf (ah bx : List Nat) : List (Nat × Nat) := ah.flatMap fun a => bx.map fun b => (a, b)
def arOf (k : Ln) (ps : List (Nat × Nat)) : List (List Int) := if k.sg = 62 then ps.map fun p => [(p.1 : Int), (p.2 : Int), k.l, k.w] else []
def twoOf (ps : List (Nat × Nat)) : List (List Int) := ps.flatMap fun p => [[(p.1 : Int), (p.2 : Int), 0], [(p.2 : Int), (p.1 : Int), 0]]
def saOf (k : Ln) (ps : List (Nat × Nat)) : List (List Int) := if k.sg = 62 then [] else if k.sg = 60 then ps.map fun p => [(p.1 : Int), (p.2 : Int), k.l] else if k.sg = 61 then twoOf ps else []
/-- one step of the reading, by groups -/
def rstepG (s : RSt Str) (t : Ln × List Str) : RSt Str :=
  ⟨nsAll s.ns t.2, s.ar ++ arOf t.1 (prOf s.ah (bxOf (nsAll s.ns t.2) t.2)), s.sa ++ saOf t.1 (prOf s.ah (bxOf (nsAll s.ns t.2) t.2)), bxOf (nsAll s.ns t.2) t.2⟩
def cntG (st : List (Ln × List Str)) : Nat := (st.map fun t => t.2.length).sum
theorem cntG_snoc (l : List (Ln × List Str)) (x : Ln × List Str) : cntG (l ++ [x]) = cntG l + x.2.length := by
  unfold cntG
  rw [List.map_append, List.sum_append]
  simp
theorem nsAdd_len (ns : List Str) (n : Str) : (nsAdd ns n).length ≤ ns.length + 1 := by
  unfold nsAdd
  split
  · omega
  · rw [List.length_append]; simp
theorem nsAll_len (ns : List Str) : ∀ g : List Str, (nsAll ns g).length ≤ ns.length + g.length := by
  intro g
  induction g generalizing ns with
  | nil => exact Nat.le_refl _
  | cons n g ih =>
    have h1 := ih (nsAdd ns n)
    have h2 := nsAdd_len ns n
    rw [List.length_cons]
    show (nsAll (nsAdd ns n) g).length ≤ _
    omega
theorem prOf_len (ah bx : List Nat) : (prOf ah bx).length = ah.length * bx.length := by
  unfold prOf
  induction ah with
  | nil => simp
  | cons a ah ih => rw [List.flatMap_cons, List.length_append, ih, List.length_map, List.length_cons, Nat.succ_mul, Nat.add_comm]
theorem twoOf_len (ps : List (Nat × Nat)) : (twoOf ps).length = 2 * ps.length := by
  unfold twoOf
  induction ps with
  | nil => rfl
  | cons p ps ih => rw [List.flatMap_cons, List.length_append, ih]; simp; omega
theorem arOf_len (k : Ln) (ps : List (Nat × Nat)) : (arOf k ps).length ≤ ps.length := by
  unfold arOf
  split <;> simp
theorem saOf_len (k : Ln) (ps : List (Nat × Nat)) : (saOf k ps).length ≤ 2 * ps.length := by
  unfold saOf
  split
  · simp
  · split
    · simp; omega
    · split
      · rw [twoOf_len]; omega
      · simp
/-- how great the reading's lists are -/
structure Small (c : Nat) (s : RSt Str) : Prop where
  ns : s.ns.length ≤ c
  ah : s.ah.length ≤ c
  ar : s.ar.length ≤ c * c
  sa : s.sa.length ≤ 2 * (c * c)
theorem Small.step {c : Nat} {s : RSt Str} (h : Small c s) (t : Ln × List Str) : Small (c + t.2.length) (rstepG s t) := by
  have p := prOf_len s.ah (bxOf (nsAll s.ns t.2) t.2)
  have lb : (bxOf (nsAll s.ns t.2) t.2).length = t.2.length := by unfold bxOf; simp
  rw [lb] at p
  have a1 := h.ah
  have m1 : s.ah.length * t.2.length ≤ c * t.2.length := Nat.mul_le_mul_right _ a1
  have e : (c + t.2.length) * (c + t.2.length) = c * c + c * t.2.length + (t.2.length * c + t.2.length * t.2.length) := by rw [Nat.add_mul, Nat.mul_add, Nat.mul_add]
  refine ⟨?_, ?_, ?_, ?_⟩
  · have h1 := nsAll_len s.ns t.2
    have h2 := h.ns
    show (nsAll s.ns t.2).length ≤ _
    omega
  · show (bxOf (nsAll s.ns t.2) t.2).length ≤ _
    omega
  · show (s.ar ++ arOf t.1 (prOf s.ah (bxOf (nsAll s.ns t.2) t.2))).length ≤ _
    have h1 := arOf_len t.1 (prOf s.ah (bxOf (nsAll s.ns t.2) t.2))
    have h2 := h.ar
    rw [List.length_append]
    omega
  · show (s.sa ++ saOf t.1 (prOf s.ah (bxOf (nsAll s.ns t.2) t.2))).length ≤ _
    have h1 := saOf_len t.1 (prOf s.ah (bxOf (nsAll s.ns t.2) t.2))
    have h2 := h.sa
    rw [List.length_append]
    omega
theorem partS_len (z : Str) (a n : Nat) : (partS z a n).length ≤ n := by
  unfold partS Str.length
  simp [List.length_take]
  omega
theorem GrpL.nm {z : Str} {n a : Nat} {ns : List Str} {res : GRes} (h : GrpL z n a ns res) (h0 : ∀ m ∈ ns, m.length ≤ 6) : ∀ l, res.1 = some l → ∀ m ∈ l, m.length ≤ 6 := by
  have one : ∀ b, (partS z b (nmp z b)).length ≤ 6 := fun b => Nat.le_trans (partS_len _ _ _) (nl_le _)
  induction h with
  | bad1 h => intro l q; cases q
  | bad2 h h2 => intro l q; cases q
  | more h h2 _ ih =>
    refine ih fun m hm => ?_
    rcases List.mem_append.mp hm with hm | hm
    · exact h0 m hm
    · rw [List.mem_singleton.mp hm]; exact one _
  | fin h h2 =>
    intro l q m hm
    cases q
    rcases List.mem_append.mp hm with hm | hm
    · exact h0 m hm
    · rw [List.mem_singleton.mp hm]; exact one _
theorem Grp.nm {z : Str} {n a : Nat} {res : GRes} (h : Grp z n a res) : ∀ l, res.1 = some l → ∀ m ∈ l, m.length ≤ 6 := by
  cases h with
  | lone h1 h2 =>
    intro l q m hm
    cases q
    rw [List.mem_singleton.mp hm]
    exact Nat.le_trans (partS_len _ _ _) (nl_le _)
  | none h1 h2 => intro l q; cases q
  | many h1 GL => exact GL.nm (fun m hm => by cases hm)
def GrpOk (t : Ln × List Str) : Prop := t.2 ≠ [] ∧ ∀ m ∈ t.2, m.length ≤ 6
theorem PrsL.grp {z : Str} {n a : Nat} {k : Ln} {st : List (Ln × List Str)} {res : SRes} (h : PrsL z n a k st res) (h0 : ∀ t ∈ st, GrpOk t) (hc : cntG st ≤ a) (ha : a ≤ z.length) : ∀ l, res.1 = some l → (∀ t ∈ l, GrpOk t) ∧ cntG l ≤ z.length := by
  have add : ∀ {k : Ln} {m a e : Nat} {ns : List Str} {st : List (Ln × List Str)}, Grp z m a (some ns, e) → a ≤ z.length → (∀ t ∈ st, GrpOk t) → cntG st ≤ a → (∀ t ∈ st ++ [(k, ns)], GrpOk t) ∧ cntG (st ++ [(k, ns)]) ≤ e ∧ e ≤ z.length := by
    intro k m a e ns st G ha h0 hc
    obtain ⟨i1, i2⟩ := G.le ha
    obtain ⟨j1, j2, j3⟩ := i2 ns rfl
    refine ⟨fun t ht => ?_, ?_, i1⟩
    · rcases List.mem_append.mp ht with ht | ht
      · exact h0 t ht
      · rw [List.mem_singleton.mp ht]; exact ⟨j3, G.nm ns rfl⟩
    · rw [cntG_snoc]
      have : ns.length + a ≤ e := j2
      show cntG st + ns.length ≤ e
      omega
  induction h with
  | bad G => intro l q; cases q
  | fin G hb =>
    intro l q
    cases q
    obtain ⟨a1, a2, a3⟩ := add G ha h0 hc
    exact ⟨a1, by omega⟩
  | badl G hb hl => intro l q; cases q
  | @more m n a k st ns e e' k' res G hb hl P ih =>
    obtain ⟨a1, a2, a3⟩ := add (k := k) G ha h0 hc
    have b1 := blp_le a3
    obtain ⟨l1, l2⟩ := lnkF_le (z := z) (a := blp z e) (by omega)
    rw [hl] at l1 l2
    have l2 : blp z e < e' := l2 k' rfl
    have u1 : e ≤ blp z e := Nat.le_add_right _ _
    have u2 : e' ≤ blp z e' := Nat.le_add_right _ _
    exact ih a1 (by omega) (blp_le l1)
theorem Prs.grp {z : Str} {n e : Nat} {st : List (Ln × List Str)} (h : Prs z n (Option.some st, e)) : (∀ t ∈ st, GrpOk t) ∧ cntG st ≤ z.length := by
  cases h with
  | nil h0 => exact ⟨(fun t ht => by cases ht), Nat.zero_le _⟩
  | some h0 P => exact P.grp (fun t ht => by cases ht) (Nat.zero_le _) (blp_le (Nat.zero_le _)) st rfl
end L2

set_option Elab.async false
set_option linter.all false
set_option maxRecDepth 100000
namespace L2
open PySem PySem.Spec PyProof.Rows
/-- a draft of a web: its names, and rows of either kind -/
structure Drf (H : Hp) (d d0 d1 d2 : Addr) (ns : List Str) (M : Nat) : Prop where
  top : H d = some (.lst [.ref d0, .ref d1, .ref d2])
  nam : H d0 = some (.lst (ns.map V.str))
  arr : ∃ xs, H d1 = some (.lst xs) ∧ xs.length ≤ M
  say : ∃ xs, H d2 = some (.lst xs) ∧ xs.length ≤ M
structure Apt (b c d d0 d1 d2 : Addr) : Prop where
  h01 : d0 ≠ d1
  h02 : d0 ≠ d2
  h12 : d1 ≠ d2
  t0 : d ≠ d0
  t1 : d ≠ d1
  t2 : d ≠ d2
  b_ : d ≠ b
  b0 : d0 ≠ b
  b1 : d1 ≠ b
  b2 : d2 ≠ b
  c0 : d0 ≠ c
  c1 : d1 ≠ c
  c2 : d2 ≠ c
def KeepD (b d0 d1 d2 : Addr) (H H' : Hp) : Prop := ∀ x o, H x = some o → x ≠ b → x ≠ d0 → x ≠ d1 → x ≠ d2 → H' x = some o
theorem KeepD.refl {b d0 d1 d2 : Addr} {H : Hp} : KeepD b d0 d1 d2 H H := fun _ _ h _ _ _ _ => h
theorem KeepD.trans {b d0 d1 d2 : Addr} {H H1 H2 : Hp} (h : KeepD b d0 d1 d2 H H1) (h' : KeepD b d0 d1 d2 H1 H2) : KeepD b d0 d1 d2 H H2 := fun x o e h0 h1 h2 h3 => h' x o (h x o e h0 h1 h2 h3) h0 h1 h2 h3
theorem SameB.kd {b d0 d1 d2 : Addr} {H H' : Hp} (s : SameB b H H') : KeepD b d0 d1 d2 H H' := fun x o e h0 _ _ _ => s x o e h0
theorem Same.kd {b d0 d1 d2 : Addr} {H H' : Hp} (s : Same H H') : KeepD b d0 d1 d2 H H' := fun x o e _ _ _ _ => s x o e
theorem Drf.same {H H' : Hp} {d d0 d1 d2 : Addr} {ns : List Str} {M : Nat} (h : Drf H d d0 d1 d2 ns M) (s : Same H H') : Drf H' d d0 d1 d2 ns M := by
  obtain ⟨h1, h2, ⟨xs, h3, l3⟩, ⟨ys, h4, l4⟩⟩ := h
  exact ⟨s _ _ h1, s _ _ h2, ⟨xs, s _ _ h3, l3⟩, ⟨ys, s _ _ h4, l4⟩⟩
theorem Drf.sameB {H H' : Hp} {b c d d0 d1 d2 : Addr} {ns : List Str} {M : Nat} (h : Drf H d d0 d1 d2 ns M) (s : SameB b H H') (A : Apt b c d d0 d1 d2) : Drf H' d d0 d1 d2 ns M := by
  obtain ⟨h1, h2, ⟨xs, h3, l3⟩, ⟨ys, h4, l4⟩⟩ := h
  exact ⟨s _ _ h1 A.b_, s _ _ h2 A.b0, ⟨xs, s _ _ h3 A.b1, l3⟩, ⟨ys, s _ _ h4 A.b2, l4⟩⟩
theorem Drf.more {H : Hp} {b c d d0 d1 d2 : Addr} {ns : List Str} {M : Nat} (h : Drf H d d0 d1 d2 ns M) (A : Apt b c d d0 d1 d2) (n : Str) : Drf (upd H d0 (.lst (ns.map V.str ++ [.str n]))) d d0 d1 d2 (ns ++ [n]) M := by
  obtain ⟨h1, h2, ⟨xs, h3, l3⟩, ⟨ys, h4, l4⟩⟩ := h
  exact ⟨by rw [upd_ne A.t0]; exact h1, by rw [upd_same, List.map_append]; rfl, ⟨xs, by rw [upd_ne A.h01.symm]; exact h3, l3⟩, ⟨ys, by rw [upd_ne A.h02.symm]; exact h4, l4⟩⟩
theorem Drf.le {H : Hp} {d d0 d1 d2 : Addr} {ns : List Str} {M M' : Nat} (h : Drf H d d0 d1 d2 ns M) (l : M ≤ M') : Drf H d d0 d1 d2 ns M' := by
  obtain ⟨h1, h2, ⟨xs, h3, l3⟩, ⟨ys, h4, l4⟩⟩ := h
  exact ⟨h1, h2, ⟨xs, h3, by omega⟩, ⟨ys, h4, by omega⟩⟩
theorem Drf.arrow {H : Hp} {b c d d0 d1 d2 : Addr} {ns : List Str} {M : Nat} (h : Drf H d d0 d1 d2 ns M) (A : Apt b c d d0 d1 d2) {xs : List V} (e : H d1 = some (.lst xs)) (v : V) : Drf (upd H d1 (.lst (xs ++ [v]))) d d0 d1 d2 ns (M + 1) := by
  obtain ⟨h1, h2, ⟨ys, h3, l3⟩, ⟨zs, h4, l4⟩⟩ := h
  rw [e] at h3
  cases h3
  exact ⟨by rw [upd_ne A.t1]; exact h1, by rw [upd_ne A.h01]; exact h2, ⟨_, upd_same, by rw [List.length_append, List.length_singleton]; omega⟩, ⟨zs, by rw [upd_ne A.h12.symm]; exact h4, by omega⟩⟩
theorem Drf.saying {H : Hp} {b c d d0 d1 d2 : Addr} {ns : List Str} {M : Nat} (h : Drf H d d0 d1 d2 ns M) (A : Apt b c d d0 d1 d2) {xs : List V} (e : H d2 = some (.lst xs)) (v : V) : Drf (upd H d2 (.lst (xs ++ [v]))) d d0 d1 d2 ns (M + 1) := by
  obtain ⟨h1, h2, ⟨ys, h3, l3⟩, ⟨zs, h4, l4⟩⟩ := h
  rw [e] at h4
  cases h4
  exact ⟨by rw [upd_ne A.t2]; exact h1, by rw [upd_ne A.h02]; exact h2, ⟨ys, by rw [upd_ne A.h12]; exact h3, by omega⟩, ⟨_, upd_same, by rw [List.length_append, List.length_singleton]; omega⟩⟩
theorem KeepD.put2 {b d0 d1 d2 : Addr} {H G : Hp} {o : HO} (h : KeepD b d0 d1 d2 H G) : KeepD b d0 d1 d2 H (upd G d2 o) := fun x o' e h0 h1 h2 h3 => by rw [upd_ne h3]; exact h x o' e h0 h1 h2 h3
theorem KeepD.new {b d0 d1 d2 p : Addr} {H G : Hp} {o : HO} (h : KeepD b d0 d1 d2 H G) (hp : G p = none) : KeepD b d0 d1 d2 H (upd G p o) := h.trans (Same.kd (Same.new hp))
/-- a list of names of a draft, apart from what changes -/
structure GLst (H : Hp) (S b d0 d1 d2 : Addr) (gs ns : List Str) : Prop where
  at_ : H S = some (.lst (gs.map V.str))
  len : gs.length ≤ 3
  sub : ∀ x ∈ gs, x ∈ ns
  nb : S ≠ b
  n0 : S ≠ d0
  n1 : S ≠ d1
  n2 : S ≠ d2
theorem GLst.kd {H H' : Hp} {S b d0 d1 d2 : Addr} {gs ns : List Str} (h : GLst H S b d0 d1 d2 gs ns) (k : KeepD b d0 d1 d2 H H') : GLst H' S b d0 d1 d2 gs ns := ⟨k _ _ h.at_ h.nb h.n0 h.n1 h.n2, h.len, h.sub, h.nb, h.n0, h.n1, h.n2⟩
theorem GLst.mono {H : Hp} {S b d0 d1 d2 : Addr} {gs ns ns' : List Str} (h : GLst H S b d0 d1 d2 gs ns) (s : ∀ x ∈ ns, x ∈ ns') : GLst H S b d0 d1 d2 gs ns' := ⟨h.at_, h.len, fun x hx => s x (h.sub x hx), h.nb, h.n0, h.n1, h.n2⟩
theorem SameB.keep {b d0 d1 d2 : Addr} {H H' H2 : Hp} (s : SameB b H H') (k : KeepD b d0 d1 d2 H' H2) (h0 : H d0 = none) (h1 : H d1 = none) (h2 : H d2 = none) : SameB b H H2 := fun x o e n =>
  k x o (s x o e n) n (ne_of_none e h0) (ne_of_none e h1) (ne_of_none e h2)
end L2

set_option Elab.async false
set_option linter.all false
set_option maxRecDepth 100000
namespace PySem
open Sem (wp)
section
variable {prog : Program} {w : World} {A : Around} {E : Value → Shared → Prop} {s : Shared}
end
set_option maxHeartbeats 4000000 in
section
variable {prog : Program} {w : World} {A : Around} {E : Value → Shared → Prop} {s : Shared}
end
end PySem
namespace L2
open PySem PySem.Spec PyProof.Rows
end L2

set_option Elab.async false
set_option linter.all false
set_option maxRecDepth 100000
namespace L2
open PySem PySem.Spec PyProof.Rows
/-! d.update(e), both dicts of ints and texts -/
section
variable {X : Cx} {o e : Expr} {apos cpos : Pos} {td te : TE}
end
end L2

set_option Elab.async false
set_option linter.all false
set_option maxRecDepth 100000
namespace HT
open PySem PyProof.Rows
section
variable {prog : Program} {w : World} {A : Around} {E : Value → Shared → Prop} {s : Shared}
end
end HT
namespace L2
open PySem PySem.Spec PyProof.Rows
section
variable {X : Cx} {pos : Pos}
end
end L2

set_option Elab.async false
set_option linter.all false
set_option maxRecDepth 100000
namespace L2
open PySem PySem.Spec PyProof.Rows
/-! Deeds as texts: what is written, and how it is read. -/
def formsL : List (Str × List Bool) := [("box", [true]), ("drop", [true]), ("arrow", [true, true, false, false]), ("cut", [false]), ("alter", [false, false, false]), ("say", [true, true, false]), ("unsay", [false]), ("hold", []), ("free", [])]
def formOf (w : Str) : Option (List Bool) := (formsL.find? fun p => decide (p.1 = w)).map (·.2)
theorem form_mem {w : Str} {ks : List Bool} (h : formOf w = some ks) : (w, ks) ∈ formsL := by
  unfold formOf at h
  obtain ⟨p, hp, rfl⟩ := Option.map_eq_some_iff.mp h
  have := List.mem_of_find?_eq_some hp
  have e := List.find?_some hp
  have e : p.1 = w := of_decide_eq_true e
  rw [← e]
  exact this
def figsOf (w : Str) : List Nat := if hdIn (TL.tl w) [45] = true then (TL.tl w).drop 1 else TL.tl w
def numB (w : Str) : Bool := (decide (1 ≤ (figsOf w).length) && decide ((figsOf w).length ≤ 3)) && ((figsOf w).all (fun c => decide (c ∈ figsL)) && (decide (w = "0") || !decide ((figsOf w).head? = some 48)))
def numV (w : Str) : Int := (PySem.intText? w).getD 0
def itemV (k : Bool) (w : Str) : Option V := if k = true then (if nameB w = true then some (.str w) else none) else if numB w = true then some (.int (numV w)) else none
def items : List Bool → List Str → Option (List V)
  | [], [] => some []
  | k :: ks, w :: ws => (itemV k w).bind fun v => (items ks ws).map (v :: ·)
  | _, _ => none
/-- what may be written -/
inductive ItOk : Bool → V → Prop
  | name {z : Str} : nameB z = true → z.length ≤ 6 → ItOk true (.str z)
  | num {i : Int} : -999 ≤ i → i ≤ 999 → ItOk false (.int i)
end L2

set_option Elab.async false
set_option linter.all false
set_option maxRecDepth 100000
namespace L2
open PySem PySem.Spec PyProof.Rows
theorem dp_strs {K : PySem.W.Frag} {H : Hp} : ∀ l : List Str, DpAll K H (l.map V.str) (l.map PyData.str)
  | [] => .nil
  | i :: r => .cons (.str i) (dp_strs r)
section
variable {X : Cx}
/-- a list of texts written out -/
def isStr : Expr → Bool
  | .Constant (.str _) _ _ => true
  | _ => false
def strOf : Expr → Str
  | .Constant (.str x) _ _ => x
  | _ => Str.empty
theorem pa_lits : ∀ {l : List Expr}, l.all isStr = true → PA X l (fun _ H Q => Q ((l.map strOf).map V.str) H)
  | [], _ => pa_nil
  | e :: es, h => by
    rw [List.all_cons, Bool.and_eq_true] at h
    have ih := pa_lits h.2
    obtain ⟨h1, _⟩ := h
    unfold isStr at h1
    split at h1
    · exact pa_cons pe_str ih
    · cases h1
end
end L2

set_option Elab.async false
set_option linter.all false
set_option maxRecDepth 100000
namespace L2
open PySem PySem.Spec PyProof.Rows
/-! Judgements that nothing unfolds: for a body with long displays. -/
inductive PSsI (X : Cx) (st : List Stmt) (t : TS) : Prop
  | mk : PSs X st t → PSsI X st t
inductive PSI (X : Cx) (st : Stmt) (t : TS) : Prop
  | mk : PS X st t → PSI X st t
section
variable {X : Cx}
theorem PSsI.out {st : List Stmt} {t : TS} (h : PSsI X st t) : PSs X st t := h.1
theorem pssi_cons {st : Stmt} {rest : List Stmt} {t u : TS} (h1 : PSI X st t) (h2 : PSsI X rest u) : PSsI X (st :: rest) (tSeq t u) := ⟨pss_cons h1.1 h2.1⟩
theorem psi_lits {i : Nat} {x : Str} {es : List Expr} {pos' pos p2 : Pos} (hN : X.N.Nodup) (hi : X.N[i]? = some x) (hx : Loc X.env.scope x) (hl : es.all isStr = true) (hf : X.fn x = true ∨ X.env.scope.names.lookup x = some .local) :
    PSI X (.Assign [.Name x pos'] (.List es p2) pos) (tAsg (tLst (fun _ H Q => Q ((es.map strOf).map V.str) H)) (gName i)) := ⟨ps_set hN hi hx (pe_lst (pa_lits hl)) rfl hf⟩
end
end L2

set_option Elab.async false
set_option linter.all false
set_option maxRecDepth 100000
namespace L2
open PySem PySem.Spec PyProof.Rows
section
variable {X : Cx}
end
theorem exI {X : Cx} {st : List Stmt} {D : Ends} {σ : L2.St} {H : Hp} {t : TS} (h : PSsI X st t) (q : t D σ H) : ∃ t, PSs X st t ∧ t D σ H := ⟨t, h.out, q⟩
def kindV (k : Bool) : V := .str (if k = true then "name" else "number")
/-- THINGS, as it stands behind the top -/
structure ThingsZ (w : World) (K : PySem.W.Frag) (mg : Str → Option Value) (aT : Addr) : Prop where
  m : mg "THINGS" = some (.ref aT)
  d : KD w K aT
  none_ : ∀ z, formOf z = none → KAt K aT z none
  some_ : ∀ z ks, formOf z = some ks → ∃ b, KAt K aT z (some b) ∧ ∀ H, SqT K H b (ks.map kindV)
end L2

set_option Elab.async false
set_option linter.all false
set_option maxRecDepth 100000
set_option maxHeartbeats 1000000
namespace L2
open PySem PySem.Spec PyProof.Rows
/-! THINGS: how the dict of the top is told to the law. -/
def keyS (e : DictEntry) : Option Str := match e.key with
  | .str x _ => some x
  | _ => none
theorem abs_str {z : Str} {u : Value} (h : absV u = some (.str z)) : RelV (.str z) u := by
  cases u <;> first | (cases h; done) | skip
  injection h with h
  injection h with h
  subst h
  exact ⟨_, rfl⟩
theorem vals_abs : ∀ {xs : List Str} {its : List Value}, its.map absV = xs.map (fun x => some (V.str x)) → Vals (xs.map V.str) its
  | [], [], _ => .nil
  | [], _ :: _, h => by cases h
  | _ :: _, [], h => by cases h
  | x :: xs, u :: us, h => by
    injection h with h1 h2
    exact .cons (abs_str h1) (vals_abs h2)
theorem kd_none {K : PySem.W.Frag} {a : Addr} {es : Array DictEntry} {n : Nat} {ks : List Str} (hl : K.lookup a = some ⟨.type "dict", none, .dict es n, #[]⟩) (hk : es.toList.map keyS = ks.map some) {z : Str} (hz : z ∉ ks) : KAt K a z none := by
  have mem : ∀ e ∈ es.toList, ∃ x, keyS e = some x ∧ x ∈ ks := fun e m => by
    have : keyS e ∈ ks.map some := hk ▸ List.mem_map.mpr ⟨e, m, rfl⟩
    obtain ⟨x, mx, ex⟩ := List.mem_map.mp this
    exact ⟨x, ex.symm, mx⟩
  have key : ∀ e ∈ es.toList, ∃ x t, e.key = .str x t ∧ x ∈ ks := fun e m => by
    obtain ⟨x, ex, mx⟩ := mem e m
    unfold keyS at ex
    split at ex
    · rename_i y t q
      cases ex
      exact ⟨_, t, q, mx⟩
    · cases ex
  unfold KAt PySem.W.nsIn
  rw [hl]
  have f : es.toList.find? (·.key.isStr z) = none := List.find?_eq_none.mpr fun e m => by
    obtain ⟨x, t, q, mx⟩ := key e m
    rw [q]
    show ¬ (x == z) = true
    intro h
    exact hz ((eq_of_beq h) ▸ mx)
  have g : es.toList.any (·.refKey) = false := List.any_eq_false.mpr fun e m => by
    obtain ⟨x, t, q, mx⟩ := key e m
    unfold DictEntry.refKey
    rw [q]
    simp
  show (match es.toList.find? (·.key.isStr z) with
      | some e => some (some e.val)
      | none => if es.toList.any (·.refKey) then none else some none) = some none
  rw [f, g]
  rfl
def kindT (ks : List Bool) : List Str := ks.map fun k => if k = true then "name" else "number"
/-- one of THINGS' kinds -/
structure KindAt (K : PySem.W.Frag) (aT : Addr) (z : Str) (ks : List Bool) : Prop where
  at_ : ∃ b od its n sl, PySem.W.nsIn K aT z = some (some (.ref b)) ∧ K.lookup b = some ⟨.type "tuple", od, .seq its n, sl⟩ ∧ its.toList.map absV = (kindT ks).map (fun x => some (V.str x))
theorem KindAt.mk3 {K : PySem.W.Frag} {aT b : Addr} {z : Str} {ks : List Bool} {od : Option Addr} {its : Array Value} {n : Nat} {sl : Array (Option Value)} (g : PySem.W.nsIn K aT z = some (some (.ref b))) (h : K.lookup b = some ⟨.type "tuple", od, .seq its n, sl⟩) (v : its.toList.map absV = (kindT ks).map (fun x => some (V.str x))) : KindAt K aT z ks := ⟨_, _, _, _, _, g, h, v⟩
theorem KindAt.some_ {K : PySem.W.Frag} {aT : Addr} {z : Str} {ks : List Bool} (k : KindAt K aT z ks) (hk : ks.length ≤ 100) : ∃ b, KAt K aT z (some b) ∧ ∀ H, SqT K H b (ks.map kindV) := by
  obtain ⟨b, od, its, n, sl, g, h, v⟩ := k.at_
  have e : ks.map kindV = (kindT ks).map V.str := by
    unfold kindT
    rw [List.map_map]
    rfl
  refine ⟨b, g, fun H => .inr ⟨_, its, n, h, rfl, rfl, ?_, ?_⟩⟩
  · have := congrArg List.length v
    rw [List.length_map, List.length_map] at this
    unfold kindT at this
    rw [List.length_map, Array.length_toList] at this
    have := sl_big
    omega
  · rw [e]
    exact vals_abs v
theorem things_mk {w : World} {K : PySem.W.Frag} {mg : Str → Option Value} {aT : Addr} {es : Array DictEntry} {n : Nat} (hm : mg "THINGS" = some (.ref aT)) (hl : K.lookup aT = some ⟨.type "dict", none, .dict es n, #[]⟩) (hk : PySem.W.KeysLit w.params es.toList) (hs : (aT == sysModules) = false) (hn : es.toList.map keyS = (formsL.map (·.1)).map some) (h : ∀ p ∈ formsL, KindAt K aT p.1 p.2) : ThingsZ w K mg aT := by
  refine ⟨hm, ⟨_, _, hl, hk, hs⟩, fun z hz => kd_none hl hn fun m => ?_, fun z ks hz => (h _ (form_mem hz)).some_ ?_⟩
  · obtain ⟨p, mp, rfl⟩ := List.mem_map.mp m
    have : ∀ p ∈ formsL, formOf p.1 ≠ none := by decide +kernel
    exact this p mp hz
  · have : ∀ p ∈ formsL, p.2.length ≤ 100 := by decide +kernel
    exact this _ (form_mem hz)
theorem nine_kinds {K : PySem.W.Frag} {aT : Addr} (h0 : KindAt K aT "box" [true]) (h1 : KindAt K aT "drop" [true]) (h2 : KindAt K aT "arrow" [true, true, false, false]) (h3 : KindAt K aT "cut" [false]) (h4 : KindAt K aT "alter" [false, false, false]) (h5 : KindAt K aT "say" [true, true, false]) (h6 : KindAt K aT "unsay" [false]) (h7 : KindAt K aT "hold" []) (h8 : KindAt K aT "free" []) : ∀ p ∈ formsL, KindAt K aT p.1 p.2 := by
  intro p m
  unfold formsL at m
  simp only [List.mem_cons, List.not_mem_nil, or_false] at m
  rcases m with rfl | rfl | rfl | rfl | rfl | rfl | rfl | rfl | rfl <;> assumption
end L2

set_option Elab.async false
set_option linter.all false
set_option maxRecDepth 100000
set_option maxHeartbeats 1000000
namespace W1
open PySem PySem.Spec PyProof.Rows L2
/-- what a word's action is -/
def ActD (P : Program) (w : World) (K : PySem.W.Frag) (mg : Str → Option Value) (base : Heap) (ca : Kin → Addr) (aA : Addr) (d : Dd) : Prop :=
  ∃ (f : Addr) (fd : FuncData) (ps : List Str), KAt K aA d.word (some f) ∧ FnOk P w K mg base (CXD P w) 3 f fd ps (spAct ca K d) ∧ Binds K fd ps [] ∧ PySem.W.keepIn K (.ref f) = true
structure ActsZ (w : World) (K : PySem.W.Frag) (mg : Str → Option Value) (aA : Addr) : Prop where
  m : mg "ACTIONS" = some (.ref aA)
  d : KD w K aA
theorem form_word (d : Dd) : ∃ ks, formOf d.word = some ks ∧ ks.length = d.things.length := by
  cases d with
  | box x => exact ⟨[true], (by show formOf "box" = some [true]; decide +kernel), rfl⟩
  | drop x => exact ⟨[true], (by show formOf "drop" = some [true]; decide +kernel), rfl⟩
  | arrow x y l w => exact ⟨[true, true, false, false], (by show formOf "arrow" = some [true, true, false, false]; decide +kernel), rfl⟩
  | cut n => exact ⟨[false], (by show formOf "cut" = some [false]; decide +kernel), rfl⟩
  | alter n l w => exact ⟨[false, false, false], (by show formOf "alter" = some [false, false, false]; decide +kernel), rfl⟩
  | say x y l => exact ⟨[true, true, false], (by show formOf "say" = some [true, true, false]; decide +kernel), rfl⟩
  | unsay n => exact ⟨[false], (by show formOf "unsay" = some [false]; decide +kernel), rfl⟩
  | free => exact ⟨[], (by show formOf "free" = some []; decide +kernel), rfl⟩
theorem things_len (d : Dd) : d.things.length ≤ 4 := by cases d <;> simp [Dd.things]
section
variable {P : Program} {w : World} {K : PySem.W.Frag} {mg : Str → Option Value} {base : Heap} {t : Ad} {ca : Kin → Addr} {aT aA : Addr}
theorem ok_done (T : Txt K mg t) (TH : ThingsZ w K mg aT) (AC : ActsZ w K mg aA) (d : Dd) (A0 : ActD P w K mg base ca aA d) : FnOk P w K mg base (CXD P w) 4 t.f_done t.d_done ["state", "deed"] (spDone ca K d) := by
  refine T.F_done.okX sc_done (fun vs H Q E h => ?_) (fun cdv A outer s H vs Q E hr h => ?_)
  · obtain ⟨p, q, n, a, s, g, S, rfl, _⟩ := h
    rfl
  · obtain ⟨p, q, n, a, sy, g, S, rfl, hS, oS, hq, k⟩ := h
    have nd := sc_done.nd
    refine ⟨_, (pss_cons (ps_if (PW.pt (pw_or (pt_cmpR op_eq (pe_callB call_len_seq (by rfl) T.b_len (by decide +kernel) (pa_cons (pv 1) pa_nil)) pe_int (nomark _)) (pw_or (pt_cmp (pc_knotin (pe_ix ix_tup (pv 1) pe_int (fun _ _ => rfl)) (pe_glob (v := V.ref aT) (by rfl) TH.m rfl))) (pw_or1 (pt_cmpR op_ne (pe_callB call_len_seq (by rfl) T.b_len (by decide +kernel) (pa_cons (pv 1) pa_nil)) (pe_op op_add (pe_callB call_len_seq (by rfl) T.b_len (by decide +kernel) (pa_cons (pe_ksub (pe_glob (v := V.ref aT) (by rfl) TH.m rfl) (pe_ix ix_tup (pv 1) pe_int (fun _ _ => rfl)) (fun _ _ => rfl)) pa_nil)) pe_int) (nomark _)))))) (pss_one ps_never) pss_nil)
      (pss_cons (ps_set (i := 2) nd rfl (Or.inl rfl) (pe_ksub (pe_glob (v := V.ref aA) (by rfl) AC.m rfl) (pe_ix ix_tup (pv 1) pe_int (fun _ _ => rfl)) (fun _ _ => rfl)))
      (pss_cons (ps_set (i := 3) nd rfl (Or.inl rfl) (pe_slice sl_tupT (pv 1) (po_some pe_int) po_none))
      (pss_one (ps_ret (pe_callVS (k := 3) (pass_onD fun _ _ _ h => h) (pv 2) (pv 0) (pv 3) (hr.mono (by omega)))))))), ?_⟩
    obtain ⟨f, fd, ps, kf, F, B, kp⟩ := A0
    obtain ⟨ks, hks, hkl⟩ := form_word d
    obtain ⟨b, kb, hb⟩ := TH.some_ _ _ hks
    have hvl : d.vs.length = d.things.length + 1 := rfl
    have h4 := things_len d
    have a0 : atI d.vs 0 = some (.str d.word) := at_of (j := 0) rfl rfl
    refine ⟨_, rfl, q, _, rfl, .inr hq.at, rfl, _, rfl, ?_⟩
    refine ite2 (fun c => ?_) (fun _ => ?_)
    · have := V.int.inj (of_decide_eq_true c)
      omega
    refine ⟨_, rfl, q, _, _, _, rfl, rfl, hq.at, a0, aT, d.word, some b, rfl, rfl, TH.d, kb, _, rfl, ?_⟩
    refine ite2 (fun c => by cases c) (fun _ => ?_)
    refine ⟨_, rfl, q, _, rfl, .inr hq.at, _, rfl, q, _, _, _, rfl, rfl, hq.at, a0, aT, d.word, b, rfl, TH.d, rfl, kb, b, _, rfl, .inr (hb H), _, _, rfl, rfl, rfl, _, rfl, ?_⟩
    refine ite2 (fun c => ?_) (fun _ => ?_)
    · have e : (d.vs.length : Int) = ((ks.map kindV).length : Int) + 1 := by rw [List.length_map, hkl, hvl]; simp
      rw [show decide (V.int (d.vs.length : Int) = V.int (((ks.map kindV).length : Int) + 1)) = true from decide_eq_true (congrArg V.int e)] at c
      cases c
    refine ⟨_, rfl, q, _, _, _, rfl, rfl, hq.at, a0, aA, d.word, f, rfl, AC.d, rfl, kf, ?_⟩
    refine ⟨_, rfl, 1, rfl, q, _, rfl, hq, fun p1 H1 s1 h1 => ?_⟩
    have e1 : cutV d.vs (some 1) none = d.things := by
      rw [cutV_from (by decide)]
      show (V.str d.word :: d.things).drop (min 1 (d.things.length + 1)) = d.things
      rw [Nat.min_eq_left (by omega)]; rfl
    rw [e1] at h1
    refine ⟨_, rfl, _, rfl, _, rfl, f, p1, fd, ps, spAct ca K d, d.things, rfl, rfl, h1.at, F, B, kp, p, n, a, sy, g, S, rfl, hS.tu s1.tu, oS, ?_⟩
    cases ea : act S d with
    | inl kk =>
      rw [ea] at k
      exact fun H' s2 => k H' (s1.trans s2)
    | inr z =>
      obtain ⟨S', r⟩ := z
      rw [ea] at k
      exact fun q1 p' n' a' s' g' H' s2 => k q1 p' n' a' s' g' H' (s1.trans s2)
end

end W1

set_option Elab.async false
set_option linter.all false
set_option maxRecDepth 100000
set_option maxHeartbeats 1000000
namespace W1
open PySem PySem.Spec PyProof.Rows L2
section
variable {P : Program} {w : World} {K : PySem.W.Frag} {mg : Str → Option Value} {base : Heap} {t : Ad} {ca : Kin → Addr}
theorem ok_do_box (T : Txt K mg t) (Z : KinC K ca) (KX : K.In base) (G : base.Ns mainGlobals mg) (x : Str) (hx : x.length ≤ 1000) : FnOk P w K mg base (CXD P w) 3 t.f_do_box t.d_do_box ["state", "name"] (spAct ca K (.box x)) := by
  have G_is_name : FnOk P w K mg base CX0 1 t.f_is_name t.d_is_name ["name"] spName := ok_name T
  have G_need_room : FnOk P w K mg base (CXD P w) 1 t.f_need_room t.d_need_room ["some", "most"] (spNeedRoom ca K) := ok_need_room T Z KX G
  obtain ⟨tk1, C_MOST_BOXES⟩ := T.c_MOST_BOXES
  refine T.F_do_box.okX sc_do_box (fun vs H Q E h => ?_) (fun cdv A outer s H vs Q E hr h => ?_)
  · obtain ⟨p, n, a, s, g, S, rfl, _⟩ := h
    rfl
  · obtain ⟨p, n, a, sy, g, S, rfl, hS, oS, k⟩ := h
    have nd := sc_do_box.nd
    refine ⟨_, (pss_cons (ps_asg (pv 0) (pg_tup (by rfl) (pgs_cons (pg_name (i := 2) nd rfl (Or.inl rfl)) (pgs_cons (pg_name (i := 3) nd rfl (Or.inl rfl)) (pgs_cons (pg_name (i := 4) nd rfl (Or.inl rfl)) (pgs_cons (pg_name (i := 5) nd rfl (Or.inl rfl)) (pgs_cons (pg_name (i := 6) nd rfl (Or.inl rfl)) pgs_nil)))))))
      (pss_cons (ps_if (pt_not (pt_val (pe_call G_is_name (hr.mono (by omega)) (by rfl) T.m_is_name T.F_is_name.kp T.b_is_name .nil pass0 (pa_cons (pv 1) pa_nil)))) (pss_one (ps_raiseD leaves_of (own_K KX G (Z.w .badName) (Z.x .badName (by decide))) PySem.F.excBase_ValueError (by rfl) (pa_cons pe_str pa_nil))) pss_nil)
      (pss_cons (ps_if (pt_cmpR op_in_seq (pv 1) (pv 2) (by rfl)) (pss_one (ps_raiseD leaves_of (own_K KX G (Z.w .taken) (Z.x .taken (by decide))) PySem.F.excBase_ValueError (by rfl) (pa_cons pe_str pa_nil))) pss_nil)
      (pss_cons (ps_expr (pe_call G_need_room (hr.mono (by omega)) (by rfl) T.m_need_room T.F_need_room.kp T.b_need_room .nil (pass_onD fun _ _ _ h => h) (pa_cons (pv 2) (pa_cons (pe_glob (v := V.int 40) (by rfl) C_MOST_BOXES ⟨_, rfl⟩) pa_nil))))
      (pss_one (ps_ret (pe_tup (pa_cons (pe_tup (pa_cons (pe_op op_catTT (pv 2) (pe_tup (pa_cons (pv 1) pa_nil))) (pa_cons (pv 3) (pa_cons (pv 4) (pa_cons (pv 5) (pa_cons (pv 6) pa_nil)))))) (pa_cons pe_non pa_nil))))))))), ?_⟩
    refine ⟨_, rfl, p, _, rfl, hS.t.at, rfl, _, _, rfl, _, _, rfl, _, _, rfl, _, _, rfl, _, _, rfl, rfl, ?_⟩
    refine ⟨_, rfl, x, rfl, Nat.le_trans hx (by decide), fun H1 s1 => ⟨_, rfl, ?_⟩⟩
    cases c1 : nameB x with
    | false =>
      have e : act S (.box x) = .inl .badName := by simp only [act]; rw [if_pos c1]
      rw [e] at k
      exact iteT ⟨by show 1 ≤ sizeLine; decide, k _ s1⟩
    | true =>
      refine iteF ?_
      refine ⟨_, rfl, _, rfl, n, _, rfl, .inr (hS.n.tu s1.tu).at, rfl, flat_strs _, _, rfl, ?_⟩
      rw [inV_str]
      cases c2 : decide (x ∈ S.ns) with
      | true =>
        have e : act S (.box x) = .inl .taken := by simp only [act]; rw [if_neg (by rw [c1]; decide), if_pos c2]
        rw [e] at k
        exact iteT ⟨by show 1 ≤ sizeLine; decide, k _ s1⟩
      | false =>
        refine iteF ?_
        refine ⟨_, rfl, n, _, 40, rfl, hS.n.tu s1.tu, ?_⟩
        by_cases c3 : 40 ≤ S.ns.length
        · have e : act S (.box x) = .inl .full := by simp only [act]; rw [if_neg (by rw [c1]; decide), if_neg (by rw [c2]; decide), if_pos c3]
          rw [e] at k
          rw [if_pos (by rw [List.length_map]; exact c3)]
          exact k _ s1
        · have e : act S (.box x) = .inr ({ S with ns := S.ns ++ [x] }, .non) := by simp only [act]; rw [if_neg (by rw [c1]; decide), if_neg (by rw [c2]; decide), if_neg c3]
          have oS' := act_ok oS e
          rw [e] at k
          rw [if_neg (by rw [List.length_map]; exact c3)]
          refine ⟨_, rfl, _, rfl, by show 1 ≤ sizeLine; decide, fun z hz => ?_⟩
          have s2 := s1.new2 (o := .tup [.str x]) hz
          refine ⟨n, z, _, _, rfl, rfl, hS.n.tu s2.tu, .inl upd_same, ?_, fun m H3 s3 hm => ?_⟩
          · rw [List.length_map]
            show S.ns.length + 1 ≤ sizeLine
            exact Nat.le_trans (by omega : S.ns.length + 1 ≤ 41) (by decide)
          have s4 := s2.trans s3
          have u := hS.tu s4.tu
          refine ⟨_, rfl, _, rfl, _, rfl, _, rfl, by show 5 ≤ sizeLine; decide, fun p' hp => ?_⟩
          refine ⟨by show 2 ≤ sizeLine; decide, fun q hq => ?_⟩
          exact st_fin (S' := { S with ns := S.ns ++ [x] }) s4 (by rw [List.map_append]; exact hm) u.a u.s u.g oS' k hp hq
theorem ok_do_arrow (T : Txt K mg t) (Z : KinC K ca) (KX : K.In base) (G : base.Ns mainGlobals mg) (x y : Str) (l wt : Int) : FnOk P w K mg base (CXD P w) 3 t.f_do_arrow t.d_do_arrow ["state", "one", "other", "least", "weight"] (spAct ca K (.arrow x y l wt)) := by
  have G_need_box : FnOk P w K mg base (CXD P w) 1 t.f_need_box t.d_need_box ["names", "name"] (spNeedBox ca K) := ok_need_box T Z KX G
  have G_need_bounds : FnOk P w K mg base (CXD P w) 1 t.f_need_bounds t.d_need_bounds ["least", "weight"] (spNeedBounds ca) := ok_need_bounds T Z KX G
  have G_need_room : FnOk P w K mg base (CXD P w) 1 t.f_need_room t.d_need_room ["some", "most"] (spNeedRoom ca K) := ok_need_room T Z KX G
  obtain ⟨tk1, C_MOST_ARROWS⟩ := T.c_MOST_ARROWS
  refine T.F_do_arrow.okX sc_do_arrow (fun vs H Q E h => ?_) (fun cdv A outer s H vs Q E hr h => ?_)
  · obtain ⟨p, n, a, s, g, S, rfl, _⟩ := h
    rfl
  · obtain ⟨p, n, a, sy, g, S, rfl, hS, oS, k⟩ := h
    have nd := sc_do_arrow.nd
    refine ⟨_, (pss_cons (ps_asg (pv 0) (pg_tup (by rfl) (pgs_cons (pg_name (i := 5) nd rfl (Or.inl rfl)) (pgs_cons (pg_name (i := 6) nd rfl (Or.inl rfl)) (pgs_cons (pg_name (i := 7) nd rfl (Or.inl rfl)) (pgs_cons (pg_name (i := 8) nd rfl (Or.inl rfl)) (pgs_cons (pg_name (i := 9) nd rfl (Or.inl rfl)) pgs_nil)))))))
      (pss_cons (ps_expr (pe_call G_need_box (hr.mono (by omega)) (by rfl) T.m_need_box T.F_need_box.kp T.b_need_box .nil (pass_onD fun _ _ _ h => h) (pa_cons (pv 5) (pa_cons (pv 1) pa_nil))))
      (pss_cons (ps_expr (pe_call G_need_box (hr.mono (by omega)) (by rfl) T.m_need_box T.F_need_box.kp T.b_need_box .nil (pass_onD fun _ _ _ h => h) (pa_cons (pv 5) (pa_cons (pv 2) pa_nil))))
      (pss_cons (ps_expr (pe_call G_need_bounds (hr.mono (by omega)) (by rfl) T.m_need_bounds T.F_need_bounds.kp T.b_need_bounds .nil (pass_onD fun _ _ _ h => h) (pa_cons (pv 3) (pa_cons (pv 4) pa_nil))))
      (pss_cons (ps_expr (pe_call G_need_room (hr.mono (by omega)) (by rfl) T.m_need_room T.F_need_room.kp T.b_need_room .nil (pass_onD fun _ _ _ h => h) (pa_cons (pv 6) (pa_cons (pe_glob (v := V.int 80) (by rfl) C_MOST_ARROWS ⟨_, rfl⟩) pa_nil))))
      (pss_cons (ps_set (i := 10) nd rfl (Or.inl rfl) (pe_op op_add (pe_ix ix_tup (pv 8) pe_int (fun _ _ => rfl)) pe_int))
      (pss_cons (ps_set (i := 11) nd rfl (Or.inl rfl) (pe_tup (pa_cons (pv 10) (pa_cons (pv 1) (pa_cons (pv 2) (pa_cons (pv 3) (pa_cons (pv 4) pa_nil)))))))
      (pss_one (ps_ret (pe_tup (pa_cons (pe_tup (pa_cons (pv 5) (pa_cons (pe_op op_catTT (pv 6) (pe_tup (pa_cons (pv 11) pa_nil))) (pa_cons (pv 7) (pa_cons (pe_tup (pa_cons (pv 10) (pa_cons (pe_ix ix_tup (pv 8) pe_int (fun _ _ => rfl)) pa_nil))) (pa_cons (pv 9) pa_nil)))))) (pa_cons (pv 10) pa_nil)))))))))))), ?_⟩
    refine ⟨_, rfl, p, _, rfl, hS.t.at, rfl, _, _, rfl, _, _, rfl, _, _, rfl, _, _, rfl, _, _, rfl, rfl, ?_⟩
    refine ⟨_, rfl, _, rfl, n, _, x, rfl, hS.n, ?_⟩
    cases c1 : decide (x ∈ S.ns) with
    | false =>
      have e : act S (.arrow x y l wt) = .inl .noBox := by simp only [act]; rw [if_pos c1]
      rw [e] at k
      exact iteFF1 (k _ (Same.refl H))
    | true =>
      refine iteTF1 ?_
      refine ⟨_, rfl, _, rfl, n, _, y, rfl, hS.n, ?_⟩
      cases c2 : decide (y ∈ S.ns) with
      | false =>
        have e : act S (.arrow x y l wt) = .inl .noBox := by simp only [act]; rw [if_neg (by rw [c1]; decide), if_pos c2]
        rw [e] at k
        exact iteFF1 (k _ (Same.refl H))
      | true =>
        refine iteTF1 ?_
        refine ⟨_, rfl, _, rfl, l, wt, rfl, ?_⟩
        have e0 : act S (.arrow x y l wt) = needLW l wt (if 80 ≤ S.ar.length then .inl .full else .inr ({ S with ar := S.ar ++ [(S.ga + 1, x, y, l, wt)], ga := S.ga + 1 }, .int (S.ga + 1))) := by simp only [act]; rw [if_neg (by rw [c1]; decide), if_neg (by rw [c2]; decide)]
        cases c3 : okL l with
        | false =>
          have e : act S (.arrow x y l wt) = .inl .badLeast := by rw [e0]; unfold needLW; rw [if_pos c3]
          rw [e] at k
          exact iteFF1 (k _ (Same.refl H))
        | true =>
          refine iteTF1 ?_
          cases c4 : okW wt with
          | false =>
            have e : act S (.arrow x y l wt) = .inl .badWeight := by rw [e0]; unfold needLW; rw [if_neg (by rw [c3]; decide), if_pos c4]
            rw [e] at k
            exact iteFF1 (k _ (Same.refl H))
          | true =>
            refine iteTF1 ?_
            obtain ⟨qs0, hq0, hp0⟩ := id hS.a
            have hl0 := tp_len hp0
            refine ⟨_, rfl, a, _, 80, rfl, hq0, ?_⟩
            rw [List.length_map, hl0]
            by_cases c5 : 80 ≤ S.ar.length
            · have e : act S (.arrow x y l wt) = .inl .full := by rw [e0]; unfold needLW; rw [if_neg (by rw [c3]; decide), if_neg (by rw [c4]; decide), if_pos c5]
              rw [e] at k
              rw [if_pos c5]
              exact k _ (Same.refl H)
            · have e : act S (.arrow x y l wt) = .inr ({ S with ar := S.ar ++ [(S.ga + 1, x, y, l, wt)], ga := S.ga + 1 }, .int (S.ga + 1)) := by rw [e0]; unfold needLW; rw [if_neg (by rw [c3]; decide), if_neg (by rw [c4]; decide), if_neg c5]
              have oS' := act_ok oS e
              rw [e] at k
              rw [if_neg c5]
              refine ⟨_, rfl, g, _, _, _, rfl, rfl, hS.g.at, (show atI [V.int S.ga, V.int S.gs] 0 = some (V.int S.ga) from rfl), _, _, rfl, rfl, ?_⟩
              refine ⟨_, rfl, _, rfl, _, rfl, _, rfl, _, rfl, by show 5 ≤ sizeLine; decide, fun r hr1 => ?_⟩
              have s1 := Same.new (H := H) (o := .tup [.int (S.ga + 1), .str x, .str y, .int l, .int wt]) hr1
              refine ⟨_, rfl, _, rfl, _, rfl, by show 1 ≤ sizeLine; decide, fun z hz => ?_⟩
              have s2 := s1.new2 (o := .tup [.ref r]) hz
              refine ⟨a, z, _, _, rfl, rfl, hq0.tu s2.tu, .inl upd_same, ?_, fun m H3 s3 hm => ?_⟩
              · rw [List.length_map, hl0]
                show S.ar.length + 1 ≤ sizeLine
                exact Nat.le_trans (by omega : S.ar.length + 1 ≤ 81) (by decide)
              have s4 := s2.trans s3
              have hr3 : TpT K H3 r (arV (S.ga + 1, x, y, l, wt)) := .inl (s3 _ _ (by rw [upd_ne (ne_of_none upd_same hz)]; exact upd_same))
              refine ⟨_, rfl, _, rfl, _, rfl, g, _, _, _, rfl, rfl, (hS.g.tu s4.tu).at, (show atI [V.int S.ga, V.int S.gs] 1 = some (V.int S.gs) from rfl), by show 2 ≤ sizeLine; decide, fun g' hg => ?_⟩
              have s5 := s4.new2 (o := .tup [.int (S.ga + 1), .int S.gs]) hg
              have s35 := Same.new (H := H3) (o := .tup [.int (S.ga + 1), .int S.gs]) hg
              have u := hS.tu s5.tu
              have hp5 : Paired (fun q r => TpT K (upd H3 g' (.tup [.int (S.ga + 1), .int S.gs])) q r) (qs0 ++ [r]) ((S.ar ++ [(S.ga + 1, x, y, l, wt)]).map arV) := by
                rw [List.map_append]
                exact prd_snoc (Paired.mapP hp0 fun _ _ z => z.tu s5.tu) (hr3.tu s35.tu)
              refine ⟨_, rfl, by show 5 ≤ sizeLine; decide, fun p' hp => ?_⟩
              refine ⟨_, rfl, by show 2 ≤ sizeLine; decide, fun q hq => ?_⟩
              exact st_fin (S' := { S with ar := S.ar ++ [(S.ga + 1, x, y, l, wt)], ga := S.ga + 1 }) s5 u.n ⟨qs0 ++ [r], by rw [List.map_append]; exact hm.tu s35.tu, hp5⟩ u.s (.inl upd_same) oS' k hp hq
end

end W1

set_option Elab.async false
set_option linter.all false
set_option maxRecDepth 100000
set_option maxHeartbeats 1000000
namespace W1
open PySem PySem.Spec PyProof.Rows L2
section
variable {P : Program} {w : World} {K : PySem.W.Frag} {mg : Str → Option Value} {base : Heap} {t : Ad} {ca : Kin → Addr}
theorem ok_do_say (T : Txt K mg t) (Z : KinC K ca) (KX : K.In base) (G : base.Ns mainGlobals mg) (x y : Str) (l : Int) : FnOk P w K mg base (CXD P w) 3 t.f_do_say t.d_do_say ["state", "one", "other", "least"] (spAct ca K (.say x y l)) := by
  have G_need_box : FnOk P w K mg base (CXD P w) 1 t.f_need_box t.d_need_box ["names", "name"] (spNeedBox ca K) := ok_need_box T Z KX G
  have G_need_room : FnOk P w K mg base (CXD P w) 1 t.f_need_room t.d_need_room ["some", "most"] (spNeedRoom ca K) := ok_need_room T Z KX G
  obtain ⟨tk1, C_MOST_SAYINGS⟩ := T.c_MOST_SAYINGS
  obtain ⟨tk2, C_MOST_SAYING_LEAST⟩ := T.c_MOST_SAYING_LEAST
  refine T.F_do_say.okX sc_do_say (fun vs H Q E h => ?_) (fun cdv A outer s H vs Q E hr h => ?_)
  · obtain ⟨p, n, a, s, g, S, rfl, _⟩ := h
    rfl
  · obtain ⟨p, n, a, sy, g, S, rfl, hS, oS, k⟩ := h
    have nd := sc_do_say.nd
    refine ⟨_, (pss_cons (ps_asg (pv 0) (pg_tup (by rfl) (pgs_cons (pg_name (i := 4) nd rfl (Or.inl rfl)) (pgs_cons (pg_name (i := 5) nd rfl (Or.inl rfl)) (pgs_cons (pg_name (i := 6) nd rfl (Or.inl rfl)) (pgs_cons (pg_name (i := 7) nd rfl (Or.inl rfl)) (pgs_cons (pg_name (i := 8) nd rfl (Or.inl rfl)) pgs_nil)))))))
      (pss_cons (ps_expr (pe_call G_need_box (hr.mono (by omega)) (by rfl) T.m_need_box T.F_need_box.kp T.b_need_box .nil (pass_onD fun _ _ _ h => h) (pa_cons (pv 4) (pa_cons (pv 1) pa_nil))))
      (pss_cons (ps_expr (pe_call G_need_box (hr.mono (by omega)) (by rfl) T.m_need_box T.F_need_box.kp T.b_need_box .nil (pass_onD fun _ _ _ h => h) (pa_cons (pv 4) (pa_cons (pv 2) pa_nil))))
      (pss_cons (ps_if (pt_cmpR op_eq (pv 1) (pv 2) (nomark _)) (pss_one (ps_raiseD leaves_of (own_K KX G (Z.w .same) (Z.x .same (by decide))) PySem.F.excBase_ValueError (by rfl) (pa_cons pe_str pa_nil))) pss_nil)
      (pss_cons (ps_if (pt_not (pt_chain op_le op_le (pe_un un_neg (pe_glob (v := V.int 9) (by rfl) C_MOST_SAYING_LEAST ⟨_, rfl⟩)) (pv 3) (pe_glob (v := V.int 9) (by rfl) C_MOST_SAYING_LEAST ⟨_, rfl⟩))) (pss_one (ps_raiseD leaves_of (own_K KX G (Z.w .badLeast) (Z.x .badLeast (by decide))) PySem.F.excBase_ValueError (by rfl) (pa_cons pe_str pa_nil))) pss_nil)
      (pss_cons (ps_expr (pe_call G_need_room (hr.mono (by omega)) (by rfl) T.m_need_room T.F_need_room.kp T.b_need_room .nil (pass_onD fun _ _ _ h => h) (pa_cons (pv 6) (pa_cons (pe_glob (v := V.int 20) (by rfl) C_MOST_SAYINGS ⟨_, rfl⟩) pa_nil))))
      (pss_cons (ps_set (i := 9) nd rfl (Or.inl rfl) (pe_op op_add (pe_ix ix_tup (pv 7) pe_int (fun _ _ => rfl)) pe_int))
      (pss_cons (ps_set (i := 10) nd rfl (Or.inl rfl) (pe_tup (pa_cons (pv 9) (pa_cons (pv 1) (pa_cons (pv 2) (pa_cons (pv 3) pa_nil))))))
      (pss_one (ps_ret (pe_tup (pa_cons (pe_tup (pa_cons (pv 4) (pa_cons (pv 5) (pa_cons (pe_op op_catTT (pv 6) (pe_tup (pa_cons (pv 10) pa_nil))) (pa_cons (pe_tup (pa_cons (pe_ix ix_tup (pv 7) pe_int (fun _ _ => rfl)) (pa_cons (pv 9) pa_nil))) (pa_cons (pv 8) pa_nil)))))) (pa_cons (pv 9) pa_nil))))))))))))), ?_⟩
    refine ⟨_, rfl, p, _, rfl, hS.t.at, rfl, _, _, rfl, _, _, rfl, _, _, rfl, _, _, rfl, _, _, rfl, rfl, ?_⟩
    refine ⟨_, rfl, _, rfl, n, _, x, rfl, hS.n, ?_⟩
    cases c1 : decide (x ∈ S.ns) with
    | false =>
      have e : act S (.say x y l) = .inl .noBox := by simp only [act]; rw [if_pos c1]
      rw [e] at k
      exact iteFF1 (k _ (Same.refl H))
    | true =>
      refine iteTF1 ?_
      refine ⟨_, rfl, _, rfl, n, _, y, rfl, hS.n, ?_⟩
      cases c2 : decide (y ∈ S.ns) with
      | false =>
        have e : act S (.say x y l) = .inl .noBox := by simp only [act]; rw [if_neg (by rw [c1]; decide), if_pos c2]
        rw [e] at k
        exact iteFF1 (k _ (Same.refl H))
      | true =>
        refine iteTF1 ?_
        refine ⟨_, rfl, _, rfl, rfl, _, rfl, ?_⟩
        refine ite2 (fun c3' => ?_) (fun c3' => ?_)
        · have c3 : decide (x = y) = true := decide_eq_true (V.str.inj (of_decide_eq_true c3'))
          have e : act S (.say x y l) = .inl .same := by simp only [act]; rw [if_neg (by rw [c1]; decide), if_neg (by rw [c2]; decide), if_pos c3]
          rw [e] at k
          exact ⟨by show 1 ≤ sizeLine; decide, k _ (Same.refl H)⟩
        have c3 : ¬ decide (x = y) = true := fun q => c3' (decide_eq_true (congrArg V.str (of_decide_eq_true q)))
        refine rd_if (b := !okS l) (IsT.not (IsT.test (Is.chain (p := fun i j => decide (i ≤ j)) (q := fun i j => decide (i ≤ j)) (x := -9) (y := l) (z := 9) (Is.un (x := 9) (g := fun i => V.int (-i)) Is.const) (Is.var (i := 3) rfl) Is.const))) (fun c4 => ?_) fun c4 => ?_
        · have e : act S (.say x y l) = .inl .badLeast := by simp only [act]; rw [if_neg (by rw [c1]; decide), if_neg (by rw [c2]; decide), if_neg c3, if_pos (not_t c4)]
          rw [e] at k
          exact ⟨by show 1 ≤ sizeLine; decide, k _ (Same.refl H)⟩
        have c4' : ¬ okS l = false := by rw [not_f c4]; decide
        obtain ⟨qs0, hq0, hp0⟩ := id hS.s
        have hl0 := tp_len hp0
        refine ⟨_, rfl, sy, _, 20, rfl, hq0, ?_⟩
        rw [List.length_map, hl0]
        by_cases c5 : 20 ≤ S.sy.length
        · have e : act S (.say x y l) = .inl .full := by simp only [act]; rw [if_neg (by rw [c1]; decide), if_neg (by rw [c2]; decide), if_neg c3, if_neg c4', if_pos c5]
          rw [e] at k
          rw [if_pos c5]
          exact k _ (Same.refl H)
        · have e : act S (.say x y l) = .inr ({ S with sy := S.sy ++ [(S.gs + 1, x, y, l)], gs := S.gs + 1 }, .int (S.gs + 1)) := by simp only [act]; rw [if_neg (by rw [c1]; decide), if_neg (by rw [c2]; decide), if_neg c3, if_neg c4', if_neg c5]
          have oS' := act_ok oS e
          rw [e] at k
          rw [if_neg c5]
          refine ⟨_, rfl, g, _, _, _, rfl, rfl, hS.g.at, (show atI [V.int S.ga, V.int S.gs] 1 = some (V.int S.gs) from rfl), _, _, rfl, rfl, ?_⟩
          refine ⟨_, rfl, _, rfl, _, rfl, _, rfl, by show 4 ≤ sizeLine; decide, fun r hr1 => ?_⟩
          have s1 := Same.new (H := H) (o := .tup [.int (S.gs + 1), .str x, .str y, .int l]) hr1
          refine ⟨_, rfl, _, rfl, _, rfl, _, rfl, by show 1 ≤ sizeLine; decide, fun z hz => ?_⟩
          have s2 := s1.new2 (o := .tup [.ref r]) hz
          refine ⟨sy, z, _, _, rfl, rfl, hq0.tu s2.tu, .inl upd_same, ?_, fun m H3 s3 hm => ?_⟩
          · rw [List.length_map, hl0]
            show S.sy.length + 1 ≤ sizeLine
            exact Nat.le_trans (by omega : S.sy.length + 1 ≤ 81) (by decide)
          have s4 := s2.trans s3
          have hr3 : TpT K H3 r (syV (S.gs + 1, x, y, l)) := .inl (s3 _ _ (by rw [upd_ne (ne_of_none upd_same hz)]; exact upd_same))
          refine ⟨_, rfl, g, _, _, _, rfl, rfl, (hS.g.tu s4.tu).at, (show atI [V.int S.ga, V.int S.gs] 0 = some (V.int S.ga) from rfl), _, rfl, by show 2 ≤ sizeLine; decide, fun g' hg => ?_⟩
          have s5 := s4.new2 (o := .tup [.int S.ga, .int (S.gs + 1)]) hg
          have s35 := Same.new (H := H3) (o := .tup [.int S.ga, .int (S.gs + 1)]) hg
          have u := hS.tu s5.tu
          have hp5 : Paired (fun q r => TpT K (upd H3 g' (.tup [.int S.ga, .int (S.gs + 1)])) q r) (qs0 ++ [r]) ((S.sy ++ [(S.gs + 1, x, y, l)]).map syV) := by
            rw [List.map_append]
            exact prd_snoc (Paired.mapP hp0 fun _ _ z => z.tu s5.tu) (hr3.tu s35.tu)
          refine ⟨_, rfl, by show 5 ≤ sizeLine; decide, fun p' hp => ?_⟩
          refine ⟨_, rfl, by show 2 ≤ sizeLine; decide, fun q hq => ?_⟩
          exact st_fin (S' := { S with sy := S.sy ++ [(S.gs + 1, x, y, l)], gs := S.gs + 1 }) s5 u.n u.a ⟨qs0 ++ [r], by rw [List.map_append]; exact hm.tu s35.tu, hp5⟩ (.inl upd_same) oS' k hp hq
end

end W1

set_option Elab.async false
set_option linter.all false
set_option maxRecDepth 100000
set_option maxHeartbeats 1000000
namespace W1
open PySem PySem.Spec PyProof.Rows L2
section
variable {P : Program} {w : World} {K : PySem.W.Frag} {mg : Str → Option Value} {base : Heap} {t : Ad} {ca : Kin → Addr}
/-- the addresses of the rows that are kept -/
def keepA {α : Type} (p : α → Bool) : List Addr → List α → List Addr
  | q :: qs, r :: rs => if p r = true then q :: keepA p qs rs else keepA p qs rs
  | _, _ => []
theorem keepA_pair {α : Type} {f : α → List V} {p : α → Bool} {H : Hp} : ∀ {qs : List Addr} {rs : List α}, Paired (fun q r => TpT K H q r) qs (rs.map f) → Paired (fun q r => TpT K H q r) (keepA p qs rs) ((rs.filter p).map f)
  | [], [], _ => .nil
  | q :: qs, r :: rs, .cons a b => by
    have ih := keepA_pair (p := p) b
    unfold keepA
    by_cases e : p r = true
    · rw [if_pos e, List.filter_cons_of_pos e, List.map_cons]
      exact .cons a ih
    · rw [if_neg e, List.filter_cons_of_neg e]
      exact ih
theorem keepA_step {α : Type} {p : α → Bool} : ∀ {qs : List Addr} {rs : List α} {i : Nat} {q : Addr} {r : α}, qs[i]? = some q → rs[i]? = some r → keepA p (qs.take (i + 1)) (rs.take (i + 1)) = if p r = true then keepA p (qs.take i) (rs.take i) ++ [q] else keepA p (qs.take i) (rs.take i)
  | q0 :: qs, r0 :: rs, 0, q, r, e1, e2 => by
    cases e1; cases e2
    simp only [List.take_succ_cons, List.take_zero, keepA]
    split <;> rfl
  | q0 :: qs, r0 :: rs, i + 1, q, r, e1, e2 => by
    have ih := keepA_step (p := p) (qs := qs) (rs := rs) (i := i) (q := q) (r := r) (by simpa using e1) (by simpa using e2)
    simp only [List.take_succ_cons]
    unfold keepA
    rw [ih]
    by_cases e : p r0 = true
    · simp only [if_pos e]; split <;> rfl
    · simp only [if_neg e]
  | [], _, i, q, r, e1, e2 => by simp at e1
  | _ :: _, [], i, q, r, e1, e2 => by simp at e2
theorem keepA_len {α : Type} {p : α → Bool} : ∀ {qs : List Addr} {rs : List α}, (keepA p qs rs).length ≤ qs.length
  | [], [] => Nat.le_refl _
  | [], _ :: _ => Nat.le_refl _
  | _ :: _, [] => Nat.zero_le _
  | q :: qs, r :: rs => by
    have := keepA_len (p := p) (qs := qs) (rs := rs)
    unfold keepA
    split <;> simp <;> omega
theorem ok_do_cut (T : Txt K mg t) (Z : KinC K ca) (KX : K.In base) (G : base.Ns mainGlobals mg) (m : Int) : FnOk P w K mg base (CXD P w) 3 t.f_do_cut t.d_do_cut ["state", "number"] (spAct ca K (.cut m)) := by
  have G_need_arrow : FnOk P w K mg base (CXD P w) 1 t.f_need_arrow t.d_need_arrow ["arrows", "number"] (spNeedArrow ca K) := ok_need_arrow T Z KX G
  refine T.F_do_cut.okX sc_do_cut (fun vs H Q E h => ?_) (fun cdv A outer s H vs Q E hr h => ?_)
  · obtain ⟨p, n, a, s, g, S, rfl, _⟩ := h
    rfl
  · obtain ⟨p, n, a, sy, g, S, rfl, hS, oS, k⟩ := h
    have nd := sc_do_cut.nd
    refine ⟨_, (pss_cons (ps_asg (pv 0) (pg_tup (by rfl) (pgs_cons (pg_name (i := 2) nd rfl (Or.inl rfl)) (pgs_cons (pg_name (i := 3) nd rfl (Or.inl rfl)) (pgs_cons (pg_name (i := 4) nd rfl (Or.inl rfl)) (pgs_cons (pg_name (i := 5) nd rfl (Or.inl rfl)) (pgs_cons (pg_name (i := 6) nd rfl (Or.inl rfl)) pgs_nil)))))))
      (pss_cons (ps_expr (pe_call G_need_arrow (hr.mono (by omega)) (by rfl) T.m_need_arrow T.F_need_arrow.kp T.b_need_arrow .nil (pass_onD fun _ _ _ h => h) (pa_cons (pv 3) (pa_cons (pv 1) pa_nil))))
      (pss_cons (ps_setLc (i := 7) (own := [("arrow", 8)]) (g := (gName 8)) (by rfl) nd rfl rfl (sw_true rfl rfl rfl (by decide +kernel)) (pi_tup (pv 3)) (blkOk_by (own := [("arrow", 8)]) (N := ["state", "number", "names", "arrows", "sayings", "given", "held", "left", "arrow"]) (sc := defScope s_do_cut) (by decide +kernel)) (fun _ _ _ _ _ => (pg_name (i := 8) nd rfl (Or.inl rfl))) (fun _ _ _ _ _ => (pts_one (pt_cmpR op_ne (pe_ix (show IxR _ (rIxT K) from ix_tup) (pv 8) pe_int (fun _ _ => rfl)) (pv 1) (nomark _)))) (fun _ _ _ _ _ => (pv 8)))
      (pss_one (ps_ret (pe_tup (pa_cons (pe_tup (pa_cons (pv 2) (pa_cons (pe_callTy call_tuple_of (by rfl) T.b_tuple (by decide +kernel) (pa_cons (pv 7) pa_nil)) (pa_cons (pv 4) (pa_cons (pv 5) (pa_cons (pv 6) pa_nil)))))) (pa_cons pe_non pa_nil)))))))), ?_⟩
    refine ⟨_, rfl, p, _, rfl, hS.t.at, rfl, _, _, rfl, _, _, rfl, _, _, rfl, _, _, rfl, _, _, rfl, rfl, ?_⟩
    have hl := oS.a
    refine ⟨_, rfl, _, rfl, a, _, m, rfl, hS.a, by omega, fun H1 s1 => ?_⟩
    cases c1 : decide (m ∈ S.ar.map (·.1)) with
    | false =>
      have e : act S (.cut m) = .inl .noArrow := by simp only [act]; rw [if_pos c1]
      rw [e] at k
      exact iteFF1 (k _ s1)
    | true =>
      refine iteTF1 ?_
      have e : act S (.cut m) = .inr ({ S with ar := S.ar.filter fun a => decide (a.1 ≠ m) }, .non) := by simp only [act]; rw [if_neg (by rw [c1]; decide)]
      have oS' := act_ok oS e
      rw [e] at k
      obtain ⟨qs, hq, hp⟩ := id hS.a
      have hlen := tp_len hp
      refine ⟨_, rfl, a, rfl, ⟨_, (hq.tu s1.tu).at⟩, fun D hD => ?_⟩
      refine lc_tup (K := K) (a := a) (xs := qs.map V.ref) (fun i H' => Same H1 H' ∧ H' D = some (.lst ((keepA (fun a => decide (a.1 ≠ m)) (qs.take i) (S.ar.take i)).map V.ref))) ⟨Same.new hD, upd_same⟩ (fun i H' _ ⟨s2, _⟩ => (hq.tu (s1.trans s2).tu).at) ?_ ?_
      · rintro i x H' hx ⟨s2, g1⟩
        obtain ⟨q, r, rfl, eq, er, hr⟩ := tp_row hp hx
        have st := keepA_step (p := fun a : Arw => decide (a.1 ≠ m)) eq er
        refine ⟨rfl, ?_⟩
        refine ⟨_, rfl, q, _, _, _, rfl, rfl, (hr.tu (s1.trans s2).tu).at, (show atI (arV r) 0 = some (V.int r.1) from rfl), _, rfl, rfl, _, rfl, ?_⟩
        refine ite2 (fun c' => ?_) (fun c' => ?_)
        · have c : ¬ r.1 = m := fun q => by rw [q] at c'; simp at c'
          refine ⟨_, rfl, _, g1, ?_, s2.updNew hD, ?_⟩
          · rw [List.length_map]
            refine Nat.lt_of_le_of_lt (keepA_len) (Nat.lt_of_lt_of_le (take_lt eq (Nat.le_refl _)) ?_)
            rw [hlen]; exact Nat.le_trans hl (by decide)
          · rw [upd_same, st, if_pos (by simp [c]), List.map_append]; rfl
        · have c : r.1 = m := Classical.byContradiction fun q => c' (by simp [q])
          refine ⟨s2, ?_⟩
          rw [st, if_neg (by rw [c]; simp)]
          exact g1
      · rintro H' ⟨s2, g1⟩
        rw [List.length_map, List.take_of_length_le (Nat.le_refl _), List.take_of_length_le (by omega)] at g1
        have hk := keepA_pair (K := K) (p := fun a : Arw => decide (a.1 ≠ m)) (Paired.mapP hp fun _ _ z => z.tu (s1.trans s2).tu)
        refine ⟨_, rfl, _, rfl, D, _, rfl, .inl ⟨SqL.of g1, fun l2 hl2 => ?_⟩⟩
        have s3 := s2.new2 (o := .tup ((keepA (fun a : Arw => decide (a.1 ≠ m)) qs S.ar).map V.ref)) hl2
        have s4 := s1.trans s3
        have u := hS.tu s4.tu
        refine ⟨_, rfl, _, rfl, _, rfl, by show 5 ≤ sizeLine; decide, fun p' hp' => ?_⟩
        refine ⟨by show 2 ≤ sizeLine; decide, fun q hq' => ?_⟩
        exact st_fin (S' := { S with ar := S.ar.filter fun a => decide (a.1 ≠ m) }) s4 u.n ⟨_, .inl upd_same, Paired.mapP hk fun _ _ z => z.tu (Same.new hl2).tu⟩ u.s u.g oS' k hp' hq'
theorem ok_do_unsay (T : Txt K mg t) (Z : KinC K ca) (KX : K.In base) (G : base.Ns mainGlobals mg) (m : Int) : FnOk P w K mg base (CXD P w) 3 t.f_do_unsay t.d_do_unsay ["state", "number"] (spAct ca K (.unsay m)) := by
  refine T.F_do_unsay.okX sc_do_unsay (fun vs H Q E h => ?_) (fun cdv A outer s H vs Q E hr h => ?_)
  · obtain ⟨p, n, a, s, g, S, rfl, _⟩ := h
    rfl
  · obtain ⟨p, n, a, sy, g, S, rfl, hS, oS, k⟩ := h
    have nd := sc_do_unsay.nd
    refine ⟨_, (pss_cons (ps_asg (pv 0) (pg_tup (by rfl) (pgs_cons (pg_name (i := 2) nd rfl (Or.inl rfl)) (pgs_cons (pg_name (i := 3) nd rfl (Or.inl rfl)) (pgs_cons (pg_name (i := 4) nd rfl (Or.inl rfl)) (pgs_cons (pg_name (i := 5) nd rfl (Or.inl rfl)) (pgs_cons (pg_name (i := 6) nd rfl (Or.inl rfl)) pgs_nil)))))))
      (pss_cons (ps_if (pt_cmpR op_notIn_seq (pv 1) (pe_lc (own := [("saying", 7)]) (g := (gName 7)) (by rfl) nd (pi_tup (pv 4)) (blkOk_by (own := [("saying", 7)]) (N := ["state", "number", "names", "arrows", "sayings", "given", "held", "saying", "left"]) (sc := defScope s_do_unsay) (by decide +kernel)) (fun _ _ _ _ _ => (pg_name (i := 7) nd rfl (Or.inl rfl))) (fun _ _ _ _ _ => pts_nil) (fun _ _ _ _ _ => (pe_ix (show IxR _ (rIxT K) from ix_tup) (pv 7) pe_int (fun _ _ => rfl)))) (by rfl)) (pss_one (ps_raiseD leaves_of (own_K KX G (Z.w .noSaying) (Z.x .noSaying (by decide))) PySem.F.excBase_LookupError (by rfl) (pa_cons pe_str pa_nil))) pss_nil)
      (pss_cons (ps_setLc (i := 8) (own := [("saying", 7)]) (g := (gName 7)) (by rfl) nd rfl rfl (sw_true rfl rfl rfl (by decide +kernel)) (pi_tup (pv 4)) (blkOk_by (own := [("saying", 7)]) (N := ["state", "number", "names", "arrows", "sayings", "given", "held", "saying", "left"]) (sc := defScope s_do_unsay) (by decide +kernel)) (fun _ _ _ _ _ => (pg_name (i := 7) nd rfl (Or.inl rfl))) (fun _ _ _ _ _ => (pts_one (pt_cmpR op_ne (pe_ix (show IxR _ (rIxT K) from ix_tup) (pv 7) pe_int (fun _ _ => rfl)) (pv 1) (nomark _)))) (fun _ _ _ _ _ => (pv 7)))
      (pss_one (ps_ret (pe_tup (pa_cons (pe_tup (pa_cons (pv 2) (pa_cons (pv 3) (pa_cons (pe_callTy call_tuple_of (by rfl) T.b_tuple (by decide +kernel) (pa_cons (pv 8) pa_nil)) (pa_cons (pv 5) (pa_cons (pv 6) pa_nil)))))) (pa_cons pe_non pa_nil)))))))), ?_⟩
    refine ⟨_, rfl, p, _, rfl, hS.t.at, rfl, _, _, rfl, _, _, rfl, _, _, rfl, _, _, rfl, _, _, rfl, rfl, ?_⟩
    have hl := oS.s
    obtain ⟨qs, hq, hp⟩ := id hS.s
    have hlen := tp_len hp
    refine ⟨_, rfl, _, rfl, sy, rfl, ⟨_, hq.at⟩, fun D0 hD0 => ?_⟩
    refine lc_tup (K := K) (a := sy) (xs := qs.map V.ref) (fun i H' => Same H H' ∧ H' D0 = some (.lst ((S.sy.take i).map fun r => V.int r.1))) ⟨Same.new hD0, upd_same⟩ (fun i H' _ ⟨s1, _⟩ => (hq.tu s1.tu).at) ?_ ?_
    · rintro i x H' hx ⟨s1, g1⟩
      obtain ⟨q, r, rfl, eq, er, hr⟩ := tp_row hp hx
      refine ⟨rfl, ?_⟩
      refine ⟨_, rfl, q, _, _, _, rfl, rfl, (hr.tu s1.tu).at, (show atI (syV r) 0 = some (V.int r.1) from rfl), _, g1, ?_, s1.updNew hD0, ?_⟩
      · rw [List.length_map]; exact Nat.lt_of_lt_of_le (take_lt er hl) (by decide)
      · rw [upd_same, take_step (fun r : Syg => V.int r.1) er]
    rintro H1 ⟨s1, g1⟩
    rw [List.length_map, hlen, List.take_of_length_le (Nat.le_refl _)] at g1
    have e0 : S.sy.map (fun r => V.int r.1) = (S.sy.map (·.1)).map V.int := by rw [List.map_map]; rfl
    rw [e0] at g1
    refine ⟨D0, _, rfl, .inl (SqL.of g1), rfl, flat_ints _, _, rfl, ?_⟩
    rw [inV_int]
    cases c1 : decide (m ∈ S.sy.map (·.1)) with
    | false =>
      have e : act S (.unsay m) = .inl .noSaying := by simp only [act]; rw [if_pos c1]
      rw [e] at k
      exact iteT ⟨by show 1 ≤ sizeLine; decide, k _ s1⟩
    | true =>
      refine iteF ?_
      have e : act S (.unsay m) = .inr ({ S with sy := S.sy.filter fun a => decide (a.1 ≠ m) }, .non) := by simp only [act]; rw [if_neg (by rw [c1]; decide)]
      have oS' := act_ok oS e
      rw [e] at k
      refine ⟨_, rfl, sy, rfl, ⟨_, (hq.tu s1.tu).at⟩, fun D hD => ?_⟩
      refine lc_tup (K := K) (a := sy) (xs := qs.map V.ref) (fun i H' => Same H1 H' ∧ H' D = some (.lst ((keepA (fun a => decide (a.1 ≠ m)) (qs.take i) (S.sy.take i)).map V.ref))) ⟨Same.new hD, upd_same⟩ (fun i H' _ ⟨s2, _⟩ => (hq.tu (s1.trans s2).tu).at) ?_ ?_
      · rintro i x H' hx ⟨s2, g1⟩
        obtain ⟨q, r, rfl, eq, er, hr⟩ := tp_row hp hx
        have st := keepA_step (p := fun a : Syg => decide (a.1 ≠ m)) eq er
        refine ⟨rfl, ?_⟩
        refine ⟨_, rfl, q, _, _, _, rfl, rfl, (hr.tu (s1.trans s2).tu).at, (show atI (syV r) 0 = some (V.int r.1) from rfl), _, rfl, rfl, _, rfl, ?_⟩
        refine ite2 (fun c' => ?_) (fun c' => ?_)
        · have c : ¬ r.1 = m := fun q => by rw [q] at c'; simp at c'
          refine ⟨_, rfl, _, g1, ?_, s2.updNew hD, ?_⟩
          · rw [List.length_map]
            refine Nat.lt_of_le_of_lt (keepA_len) (Nat.lt_of_lt_of_le (take_lt eq (Nat.le_refl _)) ?_)
            rw [hlen]; exact Nat.le_trans hl (by decide)
          · rw [upd_same, st, if_pos (by simp [c]), List.map_append]; rfl
        · have c : r.1 = m := Classical.byContradiction fun q => c' (by simp [q])
          refine ⟨s2, ?_⟩
          rw [st, if_neg (by rw [c]; simp)]
          exact g1
      · rintro H' ⟨s2, g1⟩
        rw [List.length_map, List.take_of_length_le (Nat.le_refl _), List.take_of_length_le (by omega)] at g1
        have hk := keepA_pair (K := K) (p := fun a : Syg => decide (a.1 ≠ m)) (Paired.mapP hp fun _ _ z => z.tu (s1.trans s2).tu)
        refine ⟨_, rfl, _, rfl, _, rfl, D, _, rfl, .inl ⟨SqL.of g1, fun l2 hl2 => ?_⟩⟩
        have s3 := s2.new2 (o := .tup ((keepA (fun a : Syg => decide (a.1 ≠ m)) qs S.sy).map V.ref)) hl2
        have s4 := s1.trans s3
        have u := hS.tu s4.tu
        refine ⟨_, rfl, _, rfl, by show 5 ≤ sizeLine; decide, fun p' hp' => ?_⟩
        refine ⟨by show 2 ≤ sizeLine; decide, fun q hq' => ?_⟩
        exact st_fin (S' := { S with sy := S.sy.filter fun a => decide (a.1 ≠ m) }) s4 u.n u.a ⟨_, .inl upd_same, Paired.mapP hk fun _ _ z => z.tu (Same.new hl2).tu⟩ u.g oS' k hp' hq'
end

end W1

set_option Elab.async false
set_option linter.all false
set_option maxRecDepth 100000
set_option maxHeartbeats 1000000
namespace W1
open PySem PySem.Spec PyProof.Rows L2
section
variable {P : Program} {w : World} {K : PySem.W.Frag} {mg : Str → Option Value} {base : Heap} {t : Ad} {ca : Kin → Addr}
theorem ok_do_alter (T : Txt K mg t) (Z : KinC K ca) (KX : K.In base) (G : base.Ns mainGlobals mg) (m l wt : Int) : FnOk P w K mg base (CXD P w) 3 t.f_do_alter t.d_do_alter ["state", "number", "least", "weight"] (spAct ca K (.alter m l wt)) := by
  have G_need_arrow : FnOk P w K mg base (CXD P w) 1 t.f_need_arrow t.d_need_arrow ["arrows", "number"] (spNeedArrow ca K) := ok_need_arrow T Z KX G
  have G_need_bounds : FnOk P w K mg base (CXD P w) 1 t.f_need_bounds t.d_need_bounds ["least", "weight"] (spNeedBounds ca) := ok_need_bounds T Z KX G
  refine T.F_do_alter.okX sc_do_alter (fun vs H Q E h => ?_) (fun cdv A outer s H vs Q E hr h => ?_)
  · obtain ⟨p, n, a, s, g, S, rfl, _⟩ := h
    rfl
  · obtain ⟨p, n, a, sy, g, S, rfl, hS, oS, k⟩ := h
    have nd := sc_do_alter.nd
    refine ⟨_, (pss_cons (ps_asg (pv 0) (pg_tup (by rfl) (pgs_cons (pg_name (i := 4) nd rfl (Or.inl rfl)) (pgs_cons (pg_name (i := 5) nd rfl (Or.inl rfl)) (pgs_cons (pg_name (i := 6) nd rfl (Or.inl rfl)) (pgs_cons (pg_name (i := 7) nd rfl (Or.inl rfl)) (pgs_cons (pg_name (i := 8) nd rfl (Or.inl rfl)) pgs_nil)))))))
      (pss_cons (ps_expr (pe_call G_need_arrow (hr.mono (by omega)) (by rfl) T.m_need_arrow T.F_need_arrow.kp T.b_need_arrow .nil (pass_onD fun _ _ _ h => h) (pa_cons (pv 5) (pa_cons (pv 1) pa_nil))))
      (pss_cons (ps_expr (pe_call G_need_bounds (hr.mono (by omega)) (by rfl) T.m_need_bounds T.F_need_bounds.kp T.b_need_bounds .nil (pass_onD fun _ _ _ h => h) (pa_cons (pv 2) (pa_cons (pv 3) pa_nil))))
      (pss_cons (ps_setLc (i := 9) (own := [("arrow", 10)]) (g := (gName 10)) (by rfl) nd rfl rfl (sw_true rfl rfl rfl (by decide +kernel)) (pi_tup (pv 5)) (blkOk_by (own := [("arrow", 10)]) (N := ["state", "number", "least", "weight", "names", "arrows", "sayings", "given", "held", "altered", "arrow"]) (sc := defScope s_do_alter) (by decide +kernel)) (fun _ _ _ _ _ => (pg_name (i := 10) nd rfl (Or.inl rfl))) (fun _ _ _ _ _ => pts_nil) (fun _ _ _ _ _ => (pe_ifExp (pt_cmpR op_eq (pe_ix (show IxR _ (rIxT K) from ix_tup) (pv 10) pe_int (fun _ _ => rfl)) (pv 1) (nomark _)) (pe_op (show OpR _ (binaryOp .Add) (rCatTT K) from op_catTT) (pe_slice (show SlR _ (rSlTT K) from sl_tupT) (pv 10) po_none (po_some pe_int)) (pe_tup (pa_cons (pv 2) (pa_cons (pv 3) pa_nil)))) (pv 10))))
      (pss_one (ps_ret (pe_tup (pa_cons (pe_tup (pa_cons (pv 4) (pa_cons (pe_callTy call_tuple_of (by rfl) T.b_tuple (by decide +kernel) (pa_cons (pv 9) pa_nil)) (pa_cons (pv 6) (pa_cons (pv 7) (pa_cons (pv 8) pa_nil)))))) (pa_cons pe_non pa_nil))))))))), ?_⟩
    refine ⟨_, rfl, p, _, rfl, hS.t.at, rfl, _, _, rfl, _, _, rfl, _, _, rfl, _, _, rfl, _, _, rfl, rfl, ?_⟩
    have hl := oS.a
    refine ⟨_, rfl, _, rfl, a, _, m, rfl, hS.a, by omega, fun H1 s1 => ?_⟩
    cases c1 : decide (m ∈ S.ar.map (·.1)) with
    | false =>
      have e : act S (.alter m l wt) = .inl .noArrow := by simp only [act]; rw [if_pos c1]
      rw [e] at k
      exact iteFF1 (k _ s1)
    | true =>
      refine iteTF1 ?_
      refine ⟨_, rfl, _, rfl, l, wt, rfl, ?_⟩
      have e0 : act S (.alter m l wt) = needLW l wt (.inr ({ S with ar := S.ar.map fun a => if a.1 = m then (a.1, a.2.1, a.2.2.1, l, wt) else a }, .non)) := by simp only [act]; rw [if_neg (by rw [c1]; decide)]
      cases c3 : okL l with
      | false =>
        have e : act S (.alter m l wt) = .inl .badLeast := by rw [e0]; unfold needLW; rw [if_pos c3]
        rw [e] at k
        exact iteFF1 (k _ s1)
      | true =>
        refine iteTF1 ?_
        cases c4 : okW wt with
        | false =>
          have e : act S (.alter m l wt) = .inl .badWeight := by rw [e0]; unfold needLW; rw [if_neg (by rw [c3]; decide), if_pos c4]
          rw [e] at k
          exact iteFF1 (k _ s1)
        | true =>
          refine iteTF1 ?_
          have e : act S (.alter m l wt) = .inr ({ S with ar := S.ar.map fun a => if a.1 = m then (a.1, a.2.1, a.2.2.1, l, wt) else a }, .non) := by rw [e0]; unfold needLW; rw [if_neg (by rw [c3]; decide), if_neg (by rw [c4]; decide)]
          have oS' := act_ok oS e
          rw [e] at k
          obtain ⟨qs, hq, hp⟩ := id hS.a
          have hlen := tp_len hp
          refine ⟨_, rfl, a, rfl, ⟨_, (hq.tu s1.tu).at⟩, fun D hD => ?_⟩
          refine lc_tup (K := K) (a := a) (xs := qs.map V.ref) (fun i H' => Same H1 H' ∧ ∃ zs : List Addr, H' D = some (.lst (zs.map V.ref)) ∧ Paired (fun q r => TpT K H' q r) zs (((S.ar.map fun a => if a.1 = m then (a.1, a.2.1, a.2.2.1, l, wt) else a).take i).map arV)) ⟨Same.new hD, [], upd_same, by rw [List.take_zero]; exact .nil⟩ (fun i H' _ ⟨s2, _⟩ => (hq.tu (s1.trans s2).tu).at) ?_ ?_
          · rintro i x H' hx ⟨s2, zs, g1, hz⟩
            obtain ⟨q, r, rfl, eq, er, hr⟩ := tp_row hp hx
            refine ⟨rfl, ?_⟩
            have st := take_step (fun a : Arw => arV (if a.1 = m then (a.1, a.2.1, a.2.2.1, l, wt) else a)) er
            have st' : ∀ j, ((S.ar.map fun a => if a.1 = m then (a.1, a.2.1, a.2.2.1, l, wt) else a).take j).map arV = (S.ar.take j).map fun a : Arw => arV (if a.1 = m then (a.1, a.2.1, a.2.2.1, l, wt) else a) := fun j => by rw [← List.map_take, List.map_map]; rfl
            rw [st'] at hz
            have hzl : zs.length < sizeLine := by
              have := Paired.length hz
              rw [List.length_map] at this
              rw [this]
              exact Nat.lt_of_lt_of_le (take_lt er hl) (by decide)
            have hr2 := hr.tu (s1.trans s2).tu
            refine ⟨_, rfl, q, _, _, _, rfl, rfl, hr2.at, (show atI (arV r) 0 = some (V.int r.1) from rfl), _, rfl, rfl, _, rfl, ?_⟩
            refine ite2 (fun c' => ?_) (fun c' => ?_)
            · have c : r.1 = m := V.int.inj (of_decide_eq_true c')
              refine ⟨_, rfl, 3, rfl, q, _, rfl, hr2, fun p1 H2 s3 h1 => ?_⟩
              refine ⟨_, rfl, _, rfl, by show 2 ≤ sizeLine; decide, fun z hz1 => ?_⟩
              have s4 := Same.new (H := H2) (o := .tup [.int l, .int wt]) hz1
              refine ⟨p1, z, _, _, rfl, rfl, h1.tu s4.tu, .inl upd_same, (by show 5 ≤ sizeLine; decide), fun m2 H5 s5 hm => ?_⟩
              have s6 := s3.trans (s4.trans s5)
              refine ⟨_, s6 _ _ g1, by rw [List.length_map]; exact hzl, (s2.trans s6).updNew hD, zs ++ [m2], ?_, ?_⟩
              · rw [upd_same, List.map_append]; rfl
              · rw [st', ← st]
                have tu5 : Tu H5 (upd H5 D (.lst (zs.map V.ref ++ [.ref m2]))) := Tu.put (s6 _ _ g1)
                refine prd_snoc (Paired.mapP hz fun _ _ z => (z.tu s6.tu).tu tu5) ?_
                rw [if_pos c]
                exact hm.tu tu5
            · have c : ¬ r.1 = m := fun q => c' (decide_eq_true (congrArg V.int q))
              refine ⟨_, rfl, _, g1, by rw [List.length_map]; exact hzl, s2.updNew hD, zs ++ [q], ?_, ?_⟩
              · rw [upd_same, List.map_append]; rfl
              · rw [st', ← st]
                have tu5 : Tu H' (upd H' D (.lst (zs.map V.ref ++ [.ref q]))) := Tu.put g1
                refine prd_snoc (Paired.mapP hz fun _ _ z => z.tu tu5) ?_
                rw [if_neg c]
                exact hr2.tu tu5
          · rintro H' ⟨s2, zs, g1, hz⟩
            rw [List.length_map, List.take_of_length_le (by rw [List.length_map]; omega)] at hz
            refine ⟨_, rfl, _, rfl, D, _, rfl, .inl ⟨SqL.of g1, fun l2 hl2 => ?_⟩⟩
            have s3 := s2.new2 (o := .tup (zs.map V.ref)) hl2
            have s4 := s1.trans s3
            have u := hS.tu s4.tu
            refine ⟨_, rfl, _, rfl, _, rfl, by show 5 ≤ sizeLine; decide, fun p' hp' => ?_⟩
            refine ⟨by show 2 ≤ sizeLine; decide, fun q hq' => ?_⟩
            exact st_fin (S' := { S with ar := S.ar.map fun a => if a.1 = m then (a.1, a.2.1, a.2.2.1, l, wt) else a }) s4 u.n ⟨zs, .inl upd_same, Paired.mapP hz fun _ _ z => z.tu (Same.new hl2).tu⟩ u.s u.g oS' k hp' hq'
end

end W1

set_option Elab.async false
set_option linter.all false
set_option maxRecDepth 100000
set_option maxHeartbeats 1000000
namespace W1
open PySem PySem.Spec PyProof.Rows L2
structure ActsD (w : World) (K : PySem.W.Frag) (mg : Str → Option Value) (t : Ad) (aA : Addr) : Prop where
  z : ActsZ w K mg aA
  box : KAt K aA "box" (some t.f_do_box)
  arrow : KAt K aA "arrow" (some t.f_do_arrow)
  cut : KAt K aA "cut" (some t.f_do_cut)
  alter : KAt K aA "alter" (some t.f_do_alter)
  say : KAt K aA "say" (some t.f_do_say)
  unsay : KAt K aA "unsay" (some t.f_do_unsay)
section
variable {P : Program} {w : World} {K : PySem.W.Frag} {mg : Str → Option Value} {base : Heap} {t : Ad} {ca : Kin → Addr} {aT aA C aS : Addr} {bd : BAd}
theorem actD (T : Txt K mg t) (Z : KinC K ca) (A : ActsD w K mg t aA) (KX : K.In base) (G : base.Ns mainGlobals mg) : ∀ d, easy d → ActD P w K mg base ca aA d
  | .box x, h => ⟨_, _, _, A.box, ok_do_box T Z KX G x h, T.b_do_box, T.F_do_box.kp⟩
  | .arrow x y l wt, h => ⟨_, _, _, A.arrow, ok_do_arrow T Z KX G x y l wt, T.b_do_arrow, T.F_do_arrow.kp⟩
  | .cut n, h => ⟨_, _, _, A.cut, ok_do_cut T Z KX G n, T.b_do_cut, T.F_do_cut.kp⟩
  | .alter n l wt, h => ⟨_, _, _, A.alter, ok_do_alter T Z KX G n l wt, T.b_do_alter, T.F_do_alter.kp⟩
  | .say x y l, h => ⟨_, _, _, A.say, ok_do_say T Z KX G x y l, T.b_do_say, T.F_do_say.kp⟩
  | .unsay n, h => ⟨_, _, _, A.unsay, ok_do_unsay T Z KX G n, T.b_do_unsay, T.F_do_unsay.kp⟩
theorem ok_doneE (T : Txt K mg t) (Z : KinC K ca) (TH : ThingsZ w K mg aT) (A : ActsD w K mg t aA) (KX : K.In base) (G : base.Ns mainGlobals mg) : FnOk P w K mg base (CXD P w) 4 t.f_done t.d_done ["state", "deed"] (spDoneE ca K) :=
  FnOk.exP fun d h => ok_done T TH A.z d (actD T Z A KX G d h)
theorem ok_b_do (T : Txt K mg t) (Z : KinC K ca) (TH : ThingsZ w K mg aT) (A : ActsD w K mg t aA) (KX : K.In base) (G : base.Ns mainGlobals mg) (B : BrdC K mg C aS bd) : FnOk P w K mg base (CXD P w) 5 bd.f_do bd.d_do ["self", "deed"] (spBDo ca K C) := by
  have G_done : FnOk P w K mg base (CXD P w) 4 t.f_done t.d_done ["state", "deed"] (spDoneE ca K) := ok_doneE T Z TH A KX G
  refine B.F_do.okX sc_b_do (fun vs H Q E h => ?_) (fun cdv A outer s H vs Q E hr h => ?_)
  · obtain ⟨d, b, l, q, S, ds, _, rfl, _⟩ := h
    rfl
  · obtain ⟨d, b, l, q, S, ds, he, rfl, hB, hlen, hq, k⟩ := h
    have nd := sc_b_do.nd
    obtain ⟨dx, fu, p, n, a, sy, g, qs, ff, I⟩ := hB
    refine ⟨_, (pss_cons (ps_asg (pe_call G_done (hr.mono (by omega)) (by rfl) T.m_done T.F_done.kp T.b_done .nil (pass_onD fun _ _ _ h => h) (pa_cons (pe_fld (pv 0) (by rfl)) (pa_cons (pv 1) pa_nil))) (pg_tup (by rfl) (pgs_cons (pg_name (i := 2) nd rfl (Or.inl rfl)) (pgs_cons (pg_name (i := 3) nd rfl (Or.inl rfl)) pgs_nil))))
      (pss_cons (ps_expr (pe_bm PySem.F.plainAttrs_list PySem.F.slot_list_append PySem.F.type_list_append mt_append (pe_fld (pv 0) (by rfl)) (pa_cons (pe_tup (pa_cons (pv 1) (pa_cons (pe_fld (pv 0) (by rfl)) pa_nil))) pa_nil)))
      (pss_cons (ps_fld (pv 0) (pe_lst pa_nil) rfl)
      (pss_cons (ps_fld (pv 0) (pv 2) rfl)
      (pss_one (ps_ret (pv 3))))))), ?_⟩
    refine ⟨_, rfl, b, C, dx, _, _, rfl, I.ins, B.cl, B.nN, rfl, _, rfl, d, he, p, q, n, a, sy, g, S, rfl, I.st, I.ok, .inl hq, ?_⟩
    unfold BrDo at k
    cases ea : act S d with
    | inl kk => rw [ea] at k; exact k
    | inr zz =>
      obtain ⟨S', r⟩ := zz
      rw [ea] at k
      intro r1 p' n' a' s' g' H1 s1 h1 st1 ok1
      refine ⟨r1, _, rfl, SqT.of h1, rfl, _, _, rfl, _, _, rfl, rfl, ?_⟩
      have i1 := s1 _ _ I.ins
      have pa1 := s1 _ _ I.past
      refine ⟨_, rfl, b, C, dx, _, _, rfl, i1, B.cl, B.nP, rfl, .inl ⟨rfl, _, SqL.of pa1⟩, _, rfl, _, rfl, b, C, dx, _, _, rfl, i1, B.cl, B.nN, rfl, by show 2 ≤ sizeLine; decide, fun z hz => ?_⟩
      have nlz : l ≠ z := ne_of_none pa1 hz
      have nbz : b ≠ z := ne_of_none i1 hz
      have nbl : b ≠ l := ne_of i1 pa1 (by intro q; cases q)
      have ql : qs.length = ds.length := Paired.length I.pr
      refine ⟨l, _, _, rfl, rfl, by rw [upd_ne nlz]; exact pa1, by rw [List.length_map, ql]; exact Nat.lt_of_lt_of_le hlen (by decide), ?_⟩
      refine ⟨by show 0 ≤ sizeLine; decide, fun f1 hf => ?_⟩
      have bz : upd (upd H1 z (.tup [.ref q, .ref p])) l (.lst (qs.map V.ref ++ [.ref z])) b = some (.ins C dx (fldB p l fu)) := by rw [upd_ne nbl, upd_ne nbz]; exact i1
      have nbf : b ≠ f1 := ne_of_none bz hf
      have nlf : l ≠ f1 := ne_of_none upd_same hf
      refine ⟨_, rfl, b, C, dx, _, rfl, by rw [upd_ne nbf]; exact bz, B.cl, B.nF, by show 3 < 1000; decide, ?_⟩
      refine ⟨_, rfl, _, rfl, b, C, dx, _, rfl, upd_same, B.cl, B.nN, by show 3 < 1000; decide, ?_⟩
      refine ⟨_, rfl, ?_⟩
      have off : Off b l H (upd (upd (upd (upd (upd H1 z (.tup [.ref q, .ref p])) l (.lst (qs.map V.ref ++ [.ref z]))) f1 (.lst [])) b (.ins C dx (putF "future" (.ref f1) (fldB p l fu)))) b (.ins C dx (putF "now" (.ref p') (putF "future" (.ref f1) (fldB p l fu))))) := by
        intro c o e h1 h2
        have e1 := s1 c o e
        have cz : c ≠ z := ne_of_none e1 hz
        have cf : c ≠ f1 := ne_of_none (show upd (upd H1 z (.tup [.ref q, .ref p])) l (.lst (qs.map V.ref ++ [.ref z])) c = some o by rw [upd_ne h2, upd_ne cz]; exact e1) hf
        rw [upd_ne h1, upd_ne h1, upd_ne cf, upd_ne h2, upd_ne cz]
        exact e1
      have off1 : ∀ c o, H1 c = some o → c ≠ b → c ≠ l → (upd (upd (upd (upd (upd H1 z (.tup [.ref q, .ref p])) l (.lst (qs.map V.ref ++ [.ref z]))) f1 (.lst [])) b (.ins C dx (putF "future" (.ref f1) (fldB p l fu)))) b (.ins C dx (putF "now" (.ref p') (putF "future" (.ref f1) (fldB p l fu))))) c = some o := by
        intro c o e1 h1 h2
        have cz : c ≠ z := ne_of_none e1 hz
        have cf : c ≠ f1 := ne_of_none (show upd (upd H1 z (.tup [.ref q, .ref p])) l (.lst (qs.map V.ref ++ [.ref z])) c = some o by rw [upd_ne h2, upd_ne cz]; exact e1) hf
        rw [upd_ne h1, upd_ne h1, upd_ne cf, upd_ne h2, upd_ne cz]
        exact e1
      have tu := Off.tu off1 i1 pa1
      have nzf : z ≠ f1 := ne_of_none (show upd (upd H1 z (.tup [.ref q, .ref p])) l (.lst (qs.map V.ref ++ [.ref z])) z = some (.tup [.ref q, .ref p]) by rw [upd_ne nlz.symm]; exact upd_same) hf
      refine k _ off ⟨dx, f1, p', n', a', s', g', qs ++ [z], [], upd_same, st1.tu tu, ok1, ?_, ?_, ?_, nlf⟩
      · rw [upd_ne nbl.symm, upd_ne nbl.symm, upd_ne nlf, List.map_append]; exact upd_same
      · refine prd_snoc (Paired.mapP I.pr fun x y ⟨u, v, h1, h2⟩ => ⟨u, v, tu _ _ (s1 _ _ h1), tu _ _ (s1 _ _ h2)⟩) ⟨q, p, ?_, tu _ _ (s1 _ _ hq)⟩
        rw [upd_ne nbz.symm, upd_ne nbz.symm, upd_ne nzf, upd_ne nlz.symm]; exact upd_same
      · rw [upd_ne nbf.symm, upd_ne nbf.symm]; exact upd_same
end

end W1

set_option Elab.async false
set_option linter.all false
set_option maxRecDepth 100000
set_option maxHeartbeats 1000000
namespace W1
open PySem PySem.Spec PyProof.Rows L2
section
variable {P : Program} {w : World} {K : PySem.W.Frag} {mg : Str → Option Value} {base : Heap} {t : Ad} {ca : Kin → Addr} {aT aA C aS : Addr} {bd : BAd}
theorem ok_b_box (T : Txt K mg t) (Z : KinC K ca) (TH : ThingsZ w K mg aT) (A : ActsD w K mg t aA) (KX : K.In base) (G : base.Ns mainGlobals mg) (B : BrdC K mg C aS bd) : FnOk P w K mg base (CXD P w) 6 bd.f_box bd.d_box ["self", "name"] (spBM ca K C "box") := by
  have G_b_do : FnOk P w K mg base (CXD P w) 5 bd.f_do bd.d_do ["self", "deed"] (spBDo ca K C) := ok_b_do T Z TH A KX G B
  refine B.F_box.okX sc_b_box (fun vs H Q E h => ?_) (fun cdv A outer s H vs Q E hr h => ?_)
  · obtain ⟨d, b, l, S, ds, _, hw, rfl, _⟩ := h
    cases d <;> first | rfl | exact absurd hw (by simp only [Dd.word]; decide)
  · obtain ⟨d, b, l, S, ds, he, hw, rfl, hB, hlen, k⟩ := h
    have nd := sc_b_box.nd
    cases d with
    | box x =>
      refine ⟨_, (pss_one (ps_ret (pe_meth (pv 0) B.cl B.at_do G_b_do (hr.mono (by omega)) B.b_do .nil (pass_onD fun _ _ _ h => h) (pa_cons (pe_tup (pa_cons pe_str (pa_cons (pv 1) pa_nil))) pa_nil)))), ?_⟩
      obtain ⟨dx, fu, p, n, a, sy, g, qs, ff, I⟩ := id hB
      refine ⟨_, rfl, b, dx, _, rfl, I.ins, rfl, _, rfl, by show 2 ≤ sizeLine; decide, fun z hz => ?_⟩
      exact ⟨.box x, b, l, z, S, ds, he, rfl, hB.same (Same.new hz), hlen, upd_same, k.mono (Same.new hz)⟩
    | _ => exact absurd hw (by simp only [Dd.word]; decide)
theorem ok_b_arrow (T : Txt K mg t) (Z : KinC K ca) (TH : ThingsZ w K mg aT) (A : ActsD w K mg t aA) (KX : K.In base) (G : base.Ns mainGlobals mg) (B : BrdC K mg C aS bd) : FnOk P w K mg base (CXD P w) 6 bd.f_arrow bd.d_arrow ["self", "one", "other", "least", "weight"] (spBM ca K C "arrow") := by
  have G_b_do : FnOk P w K mg base (CXD P w) 5 bd.f_do bd.d_do ["self", "deed"] (spBDo ca K C) := ok_b_do T Z TH A KX G B
  refine B.F_arrow.okX sc_b_arrow (fun vs H Q E h => ?_) (fun cdv A outer s H vs Q E hr h => ?_)
  · obtain ⟨d, b, l, S, ds, _, hw, rfl, _⟩ := h
    cases d <;> first | rfl | exact absurd hw (by simp only [Dd.word]; decide)
  · obtain ⟨d, b, l, S, ds, he, hw, rfl, hB, hlen, k⟩ := h
    have nd := sc_b_arrow.nd
    cases d with
    | arrow x y lw ww =>
      refine ⟨_, (pss_one (ps_ret (pe_meth (pv 0) B.cl B.at_do G_b_do (hr.mono (by omega)) B.b_do .nil (pass_onD fun _ _ _ h => h) (pa_cons (pe_tup (pa_cons pe_str (pa_cons (pv 1) (pa_cons (pv 2) (pa_cons (pv 3) (pa_cons (pv 4) pa_nil)))))) pa_nil)))), ?_⟩
      obtain ⟨dx, fu, p, n, a, sy, g, qs, ff, I⟩ := id hB
      refine ⟨_, rfl, b, dx, _, rfl, I.ins, rfl, _, rfl, _, rfl, _, rfl, _, rfl, by show 5 ≤ sizeLine; decide, fun z hz => ?_⟩
      exact ⟨.arrow x y lw ww, b, l, z, S, ds, he, rfl, hB.same (Same.new hz), hlen, upd_same, k.mono (Same.new hz)⟩
    | _ => exact absurd hw (by simp only [Dd.word]; decide)
theorem ok_b_cut (T : Txt K mg t) (Z : KinC K ca) (TH : ThingsZ w K mg aT) (A : ActsD w K mg t aA) (KX : K.In base) (G : base.Ns mainGlobals mg) (B : BrdC K mg C aS bd) : FnOk P w K mg base (CXD P w) 6 bd.f_cut bd.d_cut ["self", "number"] (spBM ca K C "cut") := by
  have G_b_do : FnOk P w K mg base (CXD P w) 5 bd.f_do bd.d_do ["self", "deed"] (spBDo ca K C) := ok_b_do T Z TH A KX G B
  refine B.F_cut.okX sc_b_cut (fun vs H Q E h => ?_) (fun cdv A outer s H vs Q E hr h => ?_)
  · obtain ⟨d, b, l, S, ds, _, hw, rfl, _⟩ := h
    cases d <;> first | rfl | exact absurd hw (by simp only [Dd.word]; decide)
  · obtain ⟨d, b, l, S, ds, he, hw, rfl, hB, hlen, k⟩ := h
    have nd := sc_b_cut.nd
    cases d with
    | cut m =>
      refine ⟨_, (pss_one (ps_ret (pe_meth (pv 0) B.cl B.at_do G_b_do (hr.mono (by omega)) B.b_do .nil (pass_onD fun _ _ _ h => h) (pa_cons (pe_tup (pa_cons pe_str (pa_cons (pv 1) pa_nil))) pa_nil)))), ?_⟩
      obtain ⟨dx, fu, p, n, a, sy, g, qs, ff, I⟩ := id hB
      refine ⟨_, rfl, b, dx, _, rfl, I.ins, rfl, _, rfl, by show 2 ≤ sizeLine; decide, fun z hz => ?_⟩
      exact ⟨.cut m, b, l, z, S, ds, he, rfl, hB.same (Same.new hz), hlen, upd_same, k.mono (Same.new hz)⟩
    | _ => exact absurd hw (by simp only [Dd.word]; decide)
theorem ok_b_alter (T : Txt K mg t) (Z : KinC K ca) (TH : ThingsZ w K mg aT) (A : ActsD w K mg t aA) (KX : K.In base) (G : base.Ns mainGlobals mg) (B : BrdC K mg C aS bd) : FnOk P w K mg base (CXD P w) 6 bd.f_alter bd.d_alter ["self", "number", "least", "weight"] (spBM ca K C "alter") := by
  have G_b_do : FnOk P w K mg base (CXD P w) 5 bd.f_do bd.d_do ["self", "deed"] (spBDo ca K C) := ok_b_do T Z TH A KX G B
  refine B.F_alter.okX sc_b_alter (fun vs H Q E h => ?_) (fun cdv A outer s H vs Q E hr h => ?_)
  · obtain ⟨d, b, l, S, ds, _, hw, rfl, _⟩ := h
    cases d <;> first | rfl | exact absurd hw (by simp only [Dd.word]; decide)
  · obtain ⟨d, b, l, S, ds, he, hw, rfl, hB, hlen, k⟩ := h
    have nd := sc_b_alter.nd
    cases d with
    | alter m lw ww =>
      refine ⟨_, (pss_one (ps_ret (pe_meth (pv 0) B.cl B.at_do G_b_do (hr.mono (by omega)) B.b_do .nil (pass_onD fun _ _ _ h => h) (pa_cons (pe_tup (pa_cons pe_str (pa_cons (pv 1) (pa_cons (pv 2) (pa_cons (pv 3) pa_nil))))) pa_nil)))), ?_⟩
      obtain ⟨dx, fu, p, n, a, sy, g, qs, ff, I⟩ := id hB
      refine ⟨_, rfl, b, dx, _, rfl, I.ins, rfl, _, rfl, _, rfl, _, rfl, by show 4 ≤ sizeLine; decide, fun z hz => ?_⟩
      exact ⟨.alter m lw ww, b, l, z, S, ds, he, rfl, hB.same (Same.new hz), hlen, upd_same, k.mono (Same.new hz)⟩
    | _ => exact absurd hw (by simp only [Dd.word]; decide)
theorem ok_b_say (T : Txt K mg t) (Z : KinC K ca) (TH : ThingsZ w K mg aT) (A : ActsD w K mg t aA) (KX : K.In base) (G : base.Ns mainGlobals mg) (B : BrdC K mg C aS bd) : FnOk P w K mg base (CXD P w) 6 bd.f_say bd.d_say ["self", "one", "other", "least"] (spBM ca K C "say") := by
  have G_b_do : FnOk P w K mg base (CXD P w) 5 bd.f_do bd.d_do ["self", "deed"] (spBDo ca K C) := ok_b_do T Z TH A KX G B
  refine B.F_say.okX sc_b_say (fun vs H Q E h => ?_) (fun cdv A outer s H vs Q E hr h => ?_)
  · obtain ⟨d, b, l, S, ds, _, hw, rfl, _⟩ := h
    cases d <;> first | rfl | exact absurd hw (by simp only [Dd.word]; decide)
  · obtain ⟨d, b, l, S, ds, he, hw, rfl, hB, hlen, k⟩ := h
    have nd := sc_b_say.nd
    cases d with
    | say x y lw =>
      refine ⟨_, (pss_one (ps_ret (pe_meth (pv 0) B.cl B.at_do G_b_do (hr.mono (by omega)) B.b_do .nil (pass_onD fun _ _ _ h => h) (pa_cons (pe_tup (pa_cons pe_str (pa_cons (pv 1) (pa_cons (pv 2) (pa_cons (pv 3) pa_nil))))) pa_nil)))), ?_⟩
      obtain ⟨dx, fu, p, n, a, sy, g, qs, ff, I⟩ := id hB
      refine ⟨_, rfl, b, dx, _, rfl, I.ins, rfl, _, rfl, _, rfl, _, rfl, by show 4 ≤ sizeLine; decide, fun z hz => ?_⟩
      exact ⟨.say x y lw, b, l, z, S, ds, he, rfl, hB.same (Same.new hz), hlen, upd_same, k.mono (Same.new hz)⟩
    | _ => exact absurd hw (by simp only [Dd.word]; decide)
theorem ok_b_unsay (T : Txt K mg t) (Z : KinC K ca) (TH : ThingsZ w K mg aT) (A : ActsD w K mg t aA) (KX : K.In base) (G : base.Ns mainGlobals mg) (B : BrdC K mg C aS bd) : FnOk P w K mg base (CXD P w) 6 bd.f_unsay bd.d_unsay ["self", "number"] (spBM ca K C "unsay") := by
  have G_b_do : FnOk P w K mg base (CXD P w) 5 bd.f_do bd.d_do ["self", "deed"] (spBDo ca K C) := ok_b_do T Z TH A KX G B
  refine B.F_unsay.okX sc_b_unsay (fun vs H Q E h => ?_) (fun cdv A outer s H vs Q E hr h => ?_)
  · obtain ⟨d, b, l, S, ds, _, hw, rfl, _⟩ := h
    cases d <;> first | rfl | exact absurd hw (by simp only [Dd.word]; decide)
  · obtain ⟨d, b, l, S, ds, he, hw, rfl, hB, hlen, k⟩ := h
    have nd := sc_b_unsay.nd
    cases d with
    | unsay m =>
      refine ⟨_, (pss_one (ps_ret (pe_meth (pv 0) B.cl B.at_do G_b_do (hr.mono (by omega)) B.b_do .nil (pass_onD fun _ _ _ h => h) (pa_cons (pe_tup (pa_cons pe_str (pa_cons (pv 1) pa_nil))) pa_nil)))), ?_⟩
      obtain ⟨dx, fu, p, n, a, sy, g, qs, ff, I⟩ := id hB
      refine ⟨_, rfl, b, dx, _, rfl, I.ins, rfl, _, rfl, by show 2 ≤ sizeLine; decide, fun z hz => ?_⟩
      exact ⟨.unsay m, b, l, z, S, ds, he, rfl, hB.same (Same.new hz), hlen, upd_same, k.mono (Same.new hz)⟩
    | _ => exact absurd hw (by simp only [Dd.word]; decide)
end

end W1

set_option Elab.async false
set_option linter.all false
set_option maxRecDepth 100000
set_option maxHeartbeats 1000000
namespace W1
open PySem PySem.Spec PyProof.Rows L2
theorem nd_idx : ∀ {l : List Str} {i : Nat} {x : Str}, l.Nodup → l[i]? = some x → l.idxOf x = i := by
  intro l i x hn e
  have hm : x ∈ l := List.mem_of_getElem? e
  have h1 := List.getElem_idxOf (List.idxOf_lt_length_iff.mpr hm)
  have h2 : l[l.idxOf x]? = some x := by rw [List.getElem?_eq_getElem (List.idxOf_lt_length_iff.mpr hm), h1]
  exact nd_ix hn h2 e
def arI (ns : List Str) : Arw → List Int := fun (_, x, y, l, w) => [(ns.idxOf x : Int), (ns.idxOf y : Int), l, w]
def syI (ns : List Str) : Syg → List Int := fun (_, x, y, l) => [(ns.idxOf x : Int), (ns.idxOf y : Int), l]
/-- all things' boxes are there -/
structure BsGood (S : BS) : Prop where
  nd : S.ns.Nodup
  a : ∀ z ∈ S.ar, z.2.1 ∈ S.ns ∧ z.2.2.1 ∈ S.ns
  s : ∀ z ∈ S.sy, z.2.1 ∈ S.ns ∧ z.2.2.1 ∈ S.ns
def spWebOf (K : PySem.W.Frag) : Sp := fun vs H Q _ => ∃ (p n a s g : Addr) (S : BS), vs = [.ref p] ∧ StH K H p S n a s g ∧ S.Ok ∧ BsGood S ∧
  ∀ q r sa H', Same H H' → H' q = some (.tup [.ref n, .ref r, .ref sa]) → RTupH H' r (S.ar.map (arI S.ns)) → RTupH H' sa (S.sy.map (syI S.ns)) → Q (.ref q) H'
section
variable {P : Program} {w : World} {K : PySem.W.Frag} {mg : Str → Option Value} {base : Heap} {t : Ad}
theorem ok_web_of (T : Txt K mg t) : FnOk P w K mg base CX0 2 t.f_web_of t.d_web_of ["state"] (spWebOf K) := by
  refine T.F_web_of.ok sc_web_of (fun vs H Q E h => ?_) (fun cdv A outer s H vs Q E hr h => ?_)
  · obtain ⟨p, n, a, s, g, S, rfl, _⟩ := h
    rfl
  · obtain ⟨p, n, a, sy, g, S, rfl, hS, oS, gS, k⟩ := h
    have nd := sc_web_of.nd
    have hu := hu_of hr
    refine ⟨_, (pss_cons (ps_asg (pv 0) (pg_tup (by rfl) (pgs_cons (pg_name (i := 1) nd rfl (Or.inl rfl)) (pgs_cons (pg_name (i := 2) nd rfl (Or.inl rfl)) (pgs_cons (pg_name (i := 3) nd rfl (Or.inl rfl)) (pgs_cons (pg_name (i := 4) nd rfl (Or.inl rfl)) (pgs_cons (pg_name (i := 5) nd rfl (Or.inl rfl)) pgs_nil)))))))
      (pss_cons (ps_set (i := 6) nd rfl (Or.inr rfl) (dk_pe_lc (own := [("place", 7), ("name", 8)]) (g := (gTup K 2 (gCons (gName 7) (gCons (gName 8) gNil)))) (Nat.lt_of_succ_lt hu) (by rfl) nd (pi_enumT (by rfl) T.enumerate (pa_cons (pv 1) pa_nil)) (blkOk_by (own := [("place", 7), ("name", 8)]) (N := ["state", "names", "arrows", "sayings", "given", "held", "boxes", "place", "name", "plain_arrows", "number", "one", "other", "least", "weight", "plain_sayings"]) (sc := defScope s_web_of) (by decide +kernel)) (fun _ _ _ _ _ => (pg_tup (by rfl) (pgs_cons (pg_name (i := 7) nd rfl (Or.inl rfl)) (pgs_cons (pg_name (i := 8) nd rfl (Or.inl rfl)) pgs_nil)))) (fun _ _ _ _ _ => pts_nil) (fun _ _ _ _ _ => (pv 8)) (fun _ _ _ _ _ => (pv 7))))
      (pss_cons (ps_setLc (i := 9) (own := [("number", 10), ("one", 11), ("other", 12), ("least", 13), ("weight", 14)]) (g := (gTup K 5 (gCons (gName 10) (gCons (gName 11) (gCons (gName 12) (gCons (gName 13) (gCons (gName 14) gNil))))))) (by rfl) nd rfl rfl (sw_true rfl rfl rfl (by decide +kernel)) (pi_tup (pv 2)) (blkOk_by (own := [("number", 10), ("one", 11), ("other", 12), ("least", 13), ("weight", 14)]) (N := ["state", "names", "arrows", "sayings", "given", "held", "boxes", "place", "name", "plain_arrows", "number", "one", "other", "least", "weight", "plain_sayings"]) (sc := defScope s_web_of) (by decide +kernel)) (fun _ _ _ _ _ => (pg_tup (by rfl) (pgs_cons (pg_name (i := 10) nd rfl (Or.inl rfl)) (pgs_cons (pg_name (i := 11) nd rfl (Or.inl rfl)) (pgs_cons (pg_name (i := 12) nd rfl (Or.inl rfl)) (pgs_cons (pg_name (i := 13) nd rfl (Or.inl rfl)) (pgs_cons (pg_name (i := 14) nd rfl (Or.inl rfl)) pgs_nil))))))) (fun _ _ _ _ _ => pts_nil) (fun _ _ _ _ _ => (pe_tup (pa_cons (pe_dget hu (pv 6) (pv 11) (fun _ _ => rfl)) (pa_cons (pe_dget hu (pv 6) (pv 12) (fun _ _ => rfl)) (pa_cons (pv 13) (pa_cons (pv 14) pa_nil)))))))
      (pss_cons (ps_setLc (i := 15) (own := [("number", 10), ("one", 11), ("other", 12), ("least", 13)]) (g := (gTup K 4 (gCons (gName 10) (gCons (gName 11) (gCons (gName 12) (gCons (gName 13) gNil)))))) (by rfl) nd rfl rfl (sw_true rfl rfl rfl (by decide +kernel)) (pi_tup (pv 3)) (blkOk_by (own := [("number", 10), ("one", 11), ("other", 12), ("least", 13)]) (N := ["state", "names", "arrows", "sayings", "given", "held", "boxes", "place", "name", "plain_arrows", "number", "one", "other", "least", "weight", "plain_sayings"]) (sc := defScope s_web_of) (by decide +kernel)) (fun _ _ _ _ _ => (pg_tup (by rfl) (pgs_cons (pg_name (i := 10) nd rfl (Or.inl rfl)) (pgs_cons (pg_name (i := 11) nd rfl (Or.inl rfl)) (pgs_cons (pg_name (i := 12) nd rfl (Or.inl rfl)) (pgs_cons (pg_name (i := 13) nd rfl (Or.inl rfl)) pgs_nil)))))) (fun _ _ _ _ _ => pts_nil) (fun _ _ _ _ _ => (pe_tup (pa_cons (pe_dget hu (pv 6) (pv 11) (fun _ _ => rfl)) (pa_cons (pe_dget hu (pv 6) (pv 12) (fun _ _ => rfl)) (pa_cons (pv 13) pa_nil))))))
      (pss_one (ps_ret (pe_tup (pa_cons (pv 1) (pa_cons (pe_callTy call_tuple_of (by rfl) T.b_tuple (by decide +kernel) (pa_cons (pv 9) pa_nil)) (pa_cons (pe_callTy call_tuple_of (by rfl) T.b_tuple (by decide +kernel) (pa_cons (pv 15) pa_nil)) pa_nil)))))))))), ?_⟩
    refine ⟨_, rfl, p, _, rfl, hS.t.at, rfl, _, _, rfl, _, _, rfl, _, _, rfl, _, _, rfl, _, _, rfl, rfl, ?_⟩
    refine ⟨_, rfl, n, _, rfl, hS.n.at, fun D hD => ?_⟩
    refine dk_enumT (K := K) (a := n) (xs := S.ns.map V.str) (fun i H' => Same H H' ∧ ∃ kvs, H' D = some (.dK kvs) ∧ kvs.length ≤ i ∧ ∀ x : Str, valV kvs (.inr x) = if x ∈ S.ns.take i then some (.int (S.ns.idxOf x : Int)) else none) ⟨Same.new hD, [], upd_same, Nat.le_refl _, fun x => by simp [valV]⟩ (fun i H' _ ⟨s1, _⟩ => (hS.n.tu s1.tu).at) ?_ ?_
    · rintro i x H' T1 hx ⟨s1, kvs, g1, hl, hv⟩ hT
      rw [List.getElem?_map] at hx
      cases ex : S.ns[i]? with
      | none => rw [ex] at hx; cases hx
      | some z =>
        rw [ex] at hx
        cases hx
        have g2 : upd H' T1 (.tup [.int (i : Nat), .str z]) D = some (.dK kvs) := by rw [upd_ne (ne_of_none g1 hT)]; exact g1
        have hil := (List.getElem?_eq_some_iff.mp ex).1
        have o40 := oS.n
        refine ⟨T1, _, rfl, SqT.of upd_same, rfl, _, _, rfl, _, _, rfl, rfl, rfl, ?_⟩
        refine ⟨_, rfl, _, rfl, _, DPut.k (k := Sum.inr z) g2 (Nat.lt_of_le_of_lt (Nat.le_trans hl (by omega : i ≤ 40)) (by decide)), (s1.new2 hT).updNew hD, _, upd_same, ?_, fun y => ?_⟩
        · have := length_putK kvs (Sum.inr z : Key) (V.int (i : Nat)); omega
        · rw [valV_put, hv, List.take_add_one, ex]
          by_cases e : y = z
          · subst e
            rw [if_pos rfl, if_pos (by simp), nd_idx gS.nd ex]
          · rw [if_neg (fun q => e (Sum.inr.inj q))]
            simp [e]
    · rintro H1 ⟨s1, kvs, g1, hl, hv⟩
      rw [List.length_map, List.take_of_length_le (Nat.le_refl _)] at hv
      have o80 := oS.a
      dsimp only [gName]
      refine st_at (σ' := [some (.ref p), some (.ref n), some (.ref a), some (.ref sy), some (.ref g), some S.hv, some (.ref D), none, none, none, none, none, none, none, none, none]) rfl ?_
      obtain ⟨qa, hqa, hpa⟩ := id hS.a
      obtain ⟨qy, hqy, hpy⟩ := id hS.s
      refine ⟨_, rfl, a, rfl, ⟨_, (hqa.tu s1.tu).at⟩, fun DA hDA => ?_⟩
      refine lc_tup (K := K) (a := a) (xs := qa.map V.ref) (fun i H' => Same H1 H' ∧ ∃ zs : List Addr, H' DA = some (.lst (zs.map V.ref)) ∧ RowsH H' zs ((S.ar.take i).map (arI S.ns))) ⟨Same.new hDA, [], upd_same, by rw [List.take_zero]; exact .nil⟩ (fun i H' _ ⟨s2, _⟩ => (hqa.tu (s1.trans s2).tu).at) ?_ ?_
      · rintro i x H' hx ⟨s2, zs, g2, hz⟩
        obtain ⟨q, r, rfl, eq, er, hr⟩ := tp_row hpa hx
        have hm := gS.a r (List.mem_of_getElem? er)
        have st := take_step (arI S.ns) er
        obtain ⟨no, x, y, l, wt⟩ := r
        refine ⟨q, _, rfl, (hr.tu (s1.trans s2).tu).at, rfl, _, _, rfl, _, _, rfl, _, _, rfl, _, _, rfl, _, _, rfl, rfl, wipe_set (by decide) (wipe_set (by decide) (wipe_set (by decide) (wipe_set (by decide) (wipe_set (by decide) wipe_idem)))), ?_⟩
        dsimp only [tYes]
        rw [if_pos rfl]
        show (tTup (tCons (tDGet (tVar 6) (tVar 11)) (tCons (tDGet (tVar 6) (tVar 12)) (tCons (tVar 13) (tCons (tVar 14) tNil))))) [some (.ref p), some (.ref n), some (.ref a), some (.ref sy), some (.ref g), some S.hv, some (.ref D), none, none, none, some (.int no), some (.str x), some (.str y), some (.int l), some (.int wt), none] _ _
        have gx : DGet H' D (.str x) (some (.int (S.ns.idxOf x : Int))) := by
          have := DGet.k (k := (Sum.inr x : Key)) (s2 _ _ g1); rw [hv, if_pos hm.1] at this; exact this
        have gy : DGet H' D (.str y) (some (.int (S.ns.idxOf y : Int))) := by
          have := DGet.k (k := (Sum.inr y : Key)) (s2 _ _ g1); rw [hv, if_pos hm.2] at this; exact this
        refine ⟨_, rfl, _, rfl, D, _, rfl, gx, _, rfl, _, rfl, D, _, rfl, gy, _, rfl, _, rfl, by show 4 ≤ sizeLine; decide, fun z1 hz1 => ?_⟩
        have ng : DA ≠ z1 := ne_of_none g2 hz1
        have sz := Same.new (H := H') (o := .tup [.int (S.ns.idxOf x : Int), .int (S.ns.idxOf y : Int), .int l, .int wt]) hz1
        have hzl : zs.length < sizeLine := by
          have := Paired.length hz
          rw [List.length_map] at this
          rw [this]
          exact Nat.lt_of_lt_of_le (take_lt er o80) (by decide)
        have tu5 : Tu (upd H' z1 (.tup [.int (S.ns.idxOf x : Int), .int (S.ns.idxOf y : Int), .int l, .int wt])) (upd (upd H' z1 (.tup [.int (S.ns.idxOf x : Int), .int (S.ns.idxOf y : Int), .int l, .int wt])) DA (.lst (zs.map V.ref ++ [.ref z1]))) := Tu.put (xs := zs.map V.ref) (by rw [upd_ne ng]; exact g2)
        refine ⟨_, by rw [upd_ne ng]; exact g2, by rw [List.length_map]; exact hzl, (s2.new2 hz1).updNew hDA, zs ++ [z1], ?_, ?_⟩
        · rw [upd_same, List.map_append]; rfl
        · rw [← st]
          exact (hz.tu sz.tu).tu tu5 |>.snoc (tu5 _ _ upd_same)
      · rintro H2 ⟨s2, za, g2, hza⟩
        rw [List.length_map, tp_len hpa, List.take_of_length_le (Nat.le_refl _)] at hza
        have s12 := s1.trans s2
        dsimp only [gName]
        refine st_at (σ' := [some (.ref p), some (.ref n), some (.ref a), some (.ref sy), some (.ref g), some S.hv, some (.ref D), none, none, some (.ref DA), none, none, none, none, none, none]) rfl ?_
        refine ⟨_, rfl, sy, rfl, ⟨_, (hqy.tu s12.tu).at⟩, fun DB hDB => ?_⟩
        refine lc_tup (K := K) (a := sy) (xs := qy.map V.ref) (fun i H' => Same H2 H' ∧ ∃ zs : List Addr, H' DB = some (.lst (zs.map V.ref)) ∧ RowsH H' zs ((S.sy.take i).map (syI S.ns))) ⟨Same.new hDB, [], upd_same, by rw [List.take_zero]; exact .nil⟩ (fun i H' _ ⟨s3, _⟩ => (hqy.tu (s12.trans s3).tu).at) ?_ ?_
        · rintro i x H' hx ⟨s3, zs, g3, hz⟩
          obtain ⟨q, r, rfl, eq, er, hr⟩ := tp_row hpy hx
          have hm := gS.s r (List.mem_of_getElem? er)
          have st := take_step (syI S.ns) er
          have o20 := oS.s
          obtain ⟨no, x, y, l⟩ := r
          refine ⟨q, _, rfl, (hr.tu (s12.trans s3).tu).at, rfl, _, _, rfl, _, _, rfl, _, _, rfl, _, _, rfl, rfl, wipe_set (by decide) (wipe_set (by decide) (wipe_set (by decide) (wipe_set (by decide) wipe_idem))), ?_⟩
          dsimp only [tYes]
          rw [if_pos rfl]
          show (tTup (tCons (tDGet (tVar 6) (tVar 11)) (tCons (tDGet (tVar 6) (tVar 12)) (tCons (tVar 13) tNil)))) [some (.ref p), some (.ref n), some (.ref a), some (.ref sy), some (.ref g), some S.hv, some (.ref D), none, none, some (.ref DA), some (.int no), some (.str x), some (.str y), some (.int l), none, none] _ _
          have g1' := s3 _ _ (s2 _ _ g1)
          have gx : DGet H' D (.str x) (some (.int (S.ns.idxOf x : Int))) := by
            have := DGet.k (k := (Sum.inr x : Key)) g1'; rw [hv, if_pos hm.1] at this; exact this
          have gy : DGet H' D (.str y) (some (.int (S.ns.idxOf y : Int))) := by
            have := DGet.k (k := (Sum.inr y : Key)) g1'; rw [hv, if_pos hm.2] at this; exact this
          refine ⟨_, rfl, _, rfl, D, _, rfl, gx, _, rfl, _, rfl, D, _, rfl, gy, _, rfl, by show 3 ≤ sizeLine; decide, fun z1 hz1 => ?_⟩
          have ng : DB ≠ z1 := ne_of_none g3 hz1
          have sz := Same.new (H := H') (o := .tup [.int (S.ns.idxOf x : Int), .int (S.ns.idxOf y : Int), .int l]) hz1
          have hzl : zs.length < sizeLine := by
            have := Paired.length hz
            rw [List.length_map] at this
            rw [this]
            exact Nat.lt_of_lt_of_le (take_lt er o20) (by decide)
          have tu5 : Tu (upd H' z1 (.tup [.int (S.ns.idxOf x : Int), .int (S.ns.idxOf y : Int), .int l])) (upd (upd H' z1 (.tup [.int (S.ns.idxOf x : Int), .int (S.ns.idxOf y : Int), .int l])) DB (.lst (zs.map V.ref ++ [.ref z1]))) := Tu.put (xs := zs.map V.ref) (by rw [upd_ne ng]; exact g3)
          refine ⟨_, by rw [upd_ne ng]; exact g3, by rw [List.length_map]; exact hzl, (s3.new2 hz1).updNew hDB, zs ++ [z1], ?_, ?_⟩
          · rw [upd_same, List.map_append]; rfl
          · rw [← st]
            exact (hz.tu sz.tu).tu tu5 |>.snoc (tu5 _ _ upd_same)
        · rintro H3 ⟨s3, zb, g3, hzb⟩
          rw [List.length_map, tp_len hpy, List.take_of_length_le (Nat.le_refl _)] at hzb
          refine ⟨_, rfl, _, rfl, DA, _, rfl, .inl ⟨SqL.of (s3 _ _ g2), fun r hr1 => ?_⟩⟩
          have s4 := s3.new2 (o := .tup (za.map V.ref)) hr1
          refine ⟨_, rfl, DB, _, rfl, .inl ⟨SqL.of (by rw [upd_ne (ne_of_none g3 hr1)]; exact g3), fun sa hsa => ?_⟩⟩
          have s5 := s4.new2 (o := .tup (zb.map V.ref)) hsa
          refine ⟨by show 3 ≤ sizeLine; decide, fun q hq => ?_⟩
          have s6 := s5.new2 (o := .tup [.ref n, .ref r, .ref sa]) hq
          have rsa : r ≠ sa := ne_of_none upd_same hsa
          have rq : r ≠ q := ne_of_none (show upd (upd H3 r (.tup (za.map V.ref))) sa (.tup (zb.map V.ref)) r = some (.tup (za.map V.ref)) by rw [upd_ne rsa]; exact upd_same) hq
          have saq : sa ≠ q := ne_of_none upd_same hq
          refine k q r sa _ (s12.trans s6) upd_same ⟨za, ?_, hza.tu s6.tu⟩ ⟨zb, ?_, hzb.tu ?_⟩
          · rw [upd_ne rq, upd_ne rsa]; exact upd_same
          · rw [upd_ne saq]; exact upd_same
          · exact (Same.new2 (Same.new2 (Same.new hr1) hsa) hq).tu
end

end W1

set_option Elab.async false
set_option linter.all false
set_option maxRecDepth 100000
set_option maxHeartbeats 1000000
namespace W1
open PySem PySem.Spec PyProof.Rows L2
def S0 : BS := ⟨[], [], [], 0, 0, .non⟩
def spBWeb (K : PySem.W.Frag) (C : Addr) : Sp := fun vs H Q _ => ∃ (b l : Addr) (S : BS) (ds : List (List V)), vs = [.ref b] ∧ BrH K H C b l S ds ∧ BsGood S ∧
  ∀ q n r sa H', Same H H' → H' q = some (.tup [.ref n, .ref r, .ref sa]) → TpT K H' n (S.ns.map V.str) → RTupH H' r (S.ar.map (arI S.ns)) → RTupH H' sa (S.sy.map (syI S.ns)) → Q (.ref q) H'
def spBLen (K : PySem.W.Frag) (C : Addr) : Sp := fun vs H Q _ => ∃ (b l : Addr) (S : BS) (ds : List (List V)), vs = [.ref b] ∧ BrH K H C b l S ds ∧ Q (.int (S.ns.length : Nat)) H
def spBDeeds (K : PySem.W.Frag) (C : Addr) : Sp := fun vs H Q _ => ∃ (b l : Addr) (S : BS) (ds : List (List V)), vs = [.ref b] ∧ BrH K H C b l S ds ∧ ds.length ≤ 100000 ∧
  ∀ (D : Addr) (zs : List Addr) H', Same H H' → H' D = some (.lst (zs.map V.ref)) → Paired (fun q d => H' q = some (.tup d)) zs ds → Q (.ref D) H'
def spBInit (K : PySem.W.Frag) (C : Addr) : Sp := fun vs H Q _ => ∃ (p dx : Addr), vs = [.ref p] ∧ H p = some (.ins C dx []) ∧ ∀ (l : Addr) (H' : Hp), (∀ b o, H b = some o → b ≠ p → H' b = some o) → (∀ b o, H b = some o → b ≠ l) → BrH K H' C p l S0 [] → Q .non H'
section
variable {P : Program} {w : World} {K : PySem.W.Frag} {mg : Str → Option Value} {base : Heap} {t : Ad} {C aS : Addr} {bd : BAd}
theorem ok_b_web (T : Txt K mg t) (B : BrdC K mg C aS bd) : FnOk P w K mg base CX0 3 bd.f_web bd.d_web ["self"] (spBWeb K C) := by
  have G_web_of : FnOk P w K mg base CX0 2 t.f_web_of t.d_web_of ["state"] (spWebOf K) := ok_web_of T
  refine B.F_web.ok sc_b_web (fun vs H Q E h => ?_) (fun cdv A outer s H vs Q E hr h => ?_)
  · obtain ⟨b, l, S, ds, rfl, _⟩ := h
    rfl
  · obtain ⟨b, l, S, ds, rfl, hB, gS, k⟩ := h
    have nd := sc_b_web.nd
    obtain ⟨dx, fu, p, n, a, sy, g, qs, ff, I⟩ := id hB
    refine ⟨_, (pss_one (ps_ret (pe_call G_web_of (hr.mono (by omega)) (by rfl) T.m_web_of T.F_web_of.kp T.b_web_of .nil pass0 (pa_cons (pe_fld (pv 0) (by rfl)) pa_nil)))), ?_⟩
    refine ⟨_, rfl, b, C, dx, _, _, rfl, I.ins, B.cl, B.nN, rfl, p, n, a, sy, g, S, rfl, I.st, I.ok, gS, fun q r sa H' s1 h1 hr1 hsa => ?_⟩
    exact k q n r sa H' s1 h1 (I.st.n.tu s1.tu) hr1 hsa
theorem ok_b_len (T : Txt K mg t) (B : BrdC K mg C aS bd) : FnOk P w K mg base CX0 1 bd.f_len bd.d_len ["self"] (spBLen K C) := by
  refine B.F_len.ok sc_b_len (fun vs H Q E h => ?_) (fun cdv A outer s H vs Q E hr h => ?_)
  · obtain ⟨b, l, S, ds, rfl, _⟩ := h
    rfl
  · obtain ⟨b, l, S, ds, rfl, hB, k⟩ := h
    have nd := sc_b_len.nd
    obtain ⟨dx, fu, p, n, a, sy, g, qs, ff, I⟩ := id hB
    refine ⟨_, (pss_one (ps_ret (pe_callB call_len_seq (by rfl) T.b_len (by decide +kernel) (pa_cons (pe_ix ix_tup (pe_fld (pv 0) (by rfl)) pe_int (fun _ _ => rfl)) pa_nil)))), ?_⟩
    refine ⟨_, rfl, b, C, dx, _, _, rfl, I.ins, B.cl, B.nN, rfl, p, _, _, _, rfl, rfl, I.st.t.at, (show atI [V.ref n, V.ref a, V.ref sy, V.ref g, S.hv] 0 = some (V.ref n) from rfl), n, _, rfl, .inr I.st.n.at, ?_⟩
    rw [List.length_map]
    exact k
theorem ok_b_deeds (T : Txt K mg t) (B : BrdC K mg C aS bd) : FnOk P w K mg base CX0 1 bd.f_deeds bd.d_deeds ["self"] (spBDeeds K C) := by
  refine B.F_deeds.ok sc_b_deeds (fun vs H Q E h => ?_) (fun cdv A outer s H vs Q E hr h => ?_)
  · obtain ⟨b, l, S, ds, rfl, _⟩ := h
    rfl
  · obtain ⟨b, l, S, ds, rfl, hB, hl, k⟩ := h
    have nd := sc_b_deeds.nd
    obtain ⟨dx, fu, p, n, a, sy, g, qs, ff, I⟩ := id hB
    refine ⟨_, (pss_one (ps_ret (pe_lc (own := [("deed", 1), ("before", 2)]) (g := (gTup K 2 (gCons (gName 1) (gCons (gName 2) gNil)))) (by rfl) nd (pi_list (pe_fld (pv 0) (by rfl))) (blkOk_by (own := [("deed", 1), ("before", 2)]) (N := ["self", "deed", "before"]) (sc := defScope s_b_deeds) (by decide +kernel)) (fun _ _ _ _ _ => (pg_tup (by rfl) (pgs_cons (pg_name (i := 1) nd rfl (Or.inl rfl)) (pgs_cons (pg_name (i := 2) nd rfl (Or.inl rfl)) pgs_nil)))) (fun _ _ _ _ _ => pts_nil) (fun _ _ _ _ _ => (pv 1))))), ?_⟩
    have ql : qs.length = ds.length := Paired.length I.pr
    refine ⟨_, rfl, b, C, dx, _, _, rfl, I.ins, B.cl, B.nP, rfl, l, rfl, ⟨_, SqL.of I.past⟩, fun D hD => ?_⟩
    refine lc_list (K := K) (a := l) (xs := qs.map V.ref) (fun i H' => Same H H' ∧ ∃ zs : List Addr, H' D = some (.lst (zs.map V.ref)) ∧ Paired (fun q d => H' q = some (.tup d)) zs (ds.take i)) ⟨Same.new hD, [], upd_same, by rw [List.take_zero]; exact .nil⟩ (fun i H' _ ⟨s2, _⟩ => SqL.of (s2 _ _ I.past)) ?_ ?_
    · rintro i x H' hx ⟨s2, zs, g2, hz⟩
      rw [List.getElem?_map] at hx
      cases ex : qs[i]? with
      | none => rw [ex] at hx; cases hx
      | some q =>
        rw [ex] at hx
        cases hx
        obtain ⟨d, ed, dq, st, h1, h2⟩ := paired_get I.pr ex
        have hil := (List.getElem?_eq_some_iff.mp ex).1
        refine ⟨q, _, rfl, SqT.of (s2 _ _ h1), rfl, _, _, rfl, _, _, rfl, rfl, rfl, ?_⟩
        have hzl : zs.length = i := by
          have := Paired.length hz
          rw [List.length_take] at this
          omega
        refine ⟨_, rfl, _, g2, by rw [List.length_map, hzl]; exact Nat.lt_of_lt_of_le hil (Nat.le_trans (by omega : qs.length ≤ 100000) (by decide)), s2.updNew hD, zs ++ [dq], ?_, ?_⟩
        · rw [upd_same, List.map_append]; rfl
        · have tu5 : Tu H' (upd H' D (.lst (zs.map V.ref ++ [.ref dq]))) := Tu.put g2
          rw [List.take_add_one, ed]
          exact prd_snoc (Paired.mapP hz fun _ _ z => tu5 _ _ z) (tu5 _ _ (s2 _ _ h2))
    · rintro H' ⟨s2, zs, g2, hz⟩
      rw [List.length_map, List.take_of_length_le (by omega)] at hz
      exact k D zs H' s2 g2 hz
theorem ok_b_init (T : Txt K mg t) (B : BrdC K mg C aS bd) : FnOk P w K mg base CX0 1 bd.f_init bd.d_init ["self"] (spBInit K C) := by
  refine B.F_init.ok sc_b_init (fun vs H Q E h => ?_) (fun cdv A outer s H vs Q E hr h => ?_)
  · obtain ⟨p, dx, rfl, _⟩ := h
    rfl
  · obtain ⟨p, dx, rfl, hp, k⟩ := h
    have nd := sc_b_init.nd
    refine ⟨_, (pss_cons (ps_fld (pv 0) (pe_glob (v := V.ref aS) (by rfl) B.mS rfl) rfl)
      (pss_cons (ps_fld (pv 0) (pe_lst pa_nil) rfl)
      (pss_one (ps_fld (pv 0) (pe_lst pa_nil) rfl)))), ?_⟩
    refine ⟨_, rfl, p, C, dx, [], rfl, hp, B.cl, B.nN, (by show 0 < 1000; decide), ?_⟩
    refine ⟨by show 0 ≤ sizeLine; decide, fun l1 h1 => ?_⟩
    have n1 : p ≠ l1 := ne_of_none upd_same h1
    refine ⟨_, rfl, p, C, dx, _, rfl, (by rw [upd_ne n1]; exact upd_same), B.cl, B.nP, (by show 1 < 1000; decide), ?_⟩
    refine ⟨by show 0 ≤ sizeLine; decide, fun l2 h2 => ?_⟩
    have n2 : p ≠ l2 := ne_of_none upd_same h2
    refine ⟨_, rfl, p, C, dx, _, rfl, (by rw [upd_ne n2]; exact upd_same), B.cl, B.nF, (by show 2 < 1000; decide), ?_⟩
    have n12 : l1 ≠ l2 := ne_of_none (by rw [upd_ne n1.symm]; exact upd_same) h2
    refine k l1 _ (fun b o e hb => ?_) ?_ ?_
    · have b1 : b ≠ l1 := fun q => by rw [← q, upd_ne hb, e] at h1; cases h1
      have b2 : b ≠ l2 := fun q => by rw [← q, upd_ne hb, upd_ne b1, upd_ne hb, e] at h2; cases h2
      rw [upd_ne hb, upd_ne b2, upd_ne hb, upd_ne b1, upd_ne hb]
      exact e
    · intro b o e q
      by_cases hb : b = p
      · exact n1 (hb.symm.trans q)
      · rw [← q, upd_ne hb, e] at h1; cases h1
    · obtain ⟨n, a, sy, g, st⟩ := B.st (upd (upd (upd (upd (upd H p (.ins C dx (putF "now" (.ref aS) []))) l1 (.lst [])) p (.ins C dx (putF "past" (.ref l1) (putF "now" (.ref aS) [])))) l2 (.lst [])) p (.ins C dx (putF "future" (.ref l2) (putF "past" (.ref l1) (putF "now" (.ref aS) [])))))
      refine ⟨dx, l2, aS, n, a, sy, g, [], [], upd_same, st, ⟨by decide, by decide, by decide⟩, ?_, .nil, ?_, n12⟩
      · rw [upd_ne n1.symm, upd_ne n12, upd_ne n1.symm]; exact upd_same
      · rw [upd_ne n2.symm]; exact upd_same
end

end W1

set_option Elab.async false
set_option linter.all false
set_option maxRecDepth 100000
set_option maxHeartbeats 1000000
namespace W1
open PySem PySem.Spec PyProof.Rows L2
/-- the classes above the refusals -/
structure KinT (K : PySem.W.Frag) (ca : Kin → Addr) (cI cM : Addr) : Prop where
  mI : PySem.W.nsIn K mainGlobals "InkError" = some (some (.ref cI))
  mM : PySem.W.nsIn K mainGlobals "Missing" = some (some (.ref cM))
  any : ∀ k, PySem.W.exmAny K (.ref (ca k)) [.ref cI, .ref cM] = some true
def spLDo (K : PySem.W.Frag) (C : Addr) : Sp := fun vs H Q _ => ∃ (d : Dd) (b l q : Addr) (S : BS) (ds : List (List V)), easy d ∧ vs = [.ref b, .ref q] ∧ BrH K H C b l S ds ∧ ds.length < 100000 ∧ H q = some (.tup d.vs) ∧
  match act S d with
  | .inl k => ∀ r H', Same H H' → H' r = some (.tup [.str k.name, .non]) → Q (.ref r) H'
  | .inr (S', v) => ∀ r H', Off b l H H' → BrH K H' C b l S' (ds ++ [d.vs]) → H' r = some (.tup [.str "", v]) → Q (.ref r) H'
section
variable {P : Program} {w : World} {K : PySem.W.Frag} {mg : Str → Option Value} {base : Heap} {t : Ad} {ca : Kin → Addr} {aT aA C aS cI cM : Addr} {bd : BAd}
theorem ok__law_do (T : Txt K mg t) (Z : KinC K ca) (Y : KinX K ca) (ZT : KinT K ca cI cM) (TH : ThingsZ w K mg aT) (A : ActsD w K mg t aA) (KX : K.In base) (G : base.Ns mainGlobals mg) (B : BrdC K mg C aS bd) : FnOk P w K mg base CX0 6 t.f__law_do t.d__law_do ["_law_board", "_law_deed"] (spLDo K C) := by
  have G_b_do : FnOk P w K mg base (CXD P w) 5 bd.f_do bd.d_do ["self", "deed"] (spBDo ca K C) := ok_b_do T Z TH A KX G B
  have FH : ∀ base2, K.In base2 → base2.Ns mainGlobals mg → FnOkH P w K mg base2 CX0 1 t.f__law_kin t.d__law_kin ["_law_e"] (spKin ca base2) := fun base2 K2 G2 => ok__law_kin T Z Y K2 G2
  have mI := PySem.W.mg_of KX G ZT.mI
  have mM := PySem.W.mg_of KX G ZT.mM
  refine T.F__law_do.ok sc__law_do (fun vs H Q E h => ?_) (fun cdv A' outer s H vs Q E hr h => ?_)
  · obtain ⟨d, b, l, q, S, ds, _, rfl, _⟩ := h
    rfl
  · obtain ⟨d, b, l, q, S, ds, hd, rfl, hB, hlen, hq, k⟩ := h
    have nd := sc__law_do.nd
    refine ⟨_, (pss_cons (ps_set (i := 2) nd rfl (Or.inl rfl) pe_str)
      (pss_cons (ps_set (i := 3) nd rfl (Or.inl rfl) pe_non)
      (pss_cons (ps_tryXs (i := 3) (fun c dd σ H2 D => ∃ kk : Kin, c = .ref (ca kk) ∧ dd = none ∧ σ = [some (.ref b), some (.ref q), some (.str ""), some .non, none] ∧ ∀ H3, Same H2 H3 → D.nx [some (.ref b), some (.ref q), some (.str kk.name), some .non, none] H3) (px_meth rfl (pv 0) B.cl B.at_do G_b_do (hr.mono (by omega)) B.b_do (pa_cons (pv 1) pa_nil)) rfl rfl rfl nd rfl (Or.inl rfl) (fun I F2 h => by obtain ⟨kk, eC, ed, eσ, hnx⟩ := h; cases eC; subst ed eσ; exact hand_as2 (i := 4) rfl nd rfl rfl I F2 (by rfl) mI (by rfl) mM (ZT.any kk) (pss_one (ps_set (i := 2) nd rfl (Or.inl rfl) (pe_callH rfl FH (RoomN.held (j := 1) (k := 5) hr (by omega)) (by rfl) T.m__law_kin T.F__law_kin.kp T.b__law_kin (pa_cons (pv 4) pa_nil)))) ⟨_, rfl, _, upd_same, fun base2 hB2 => ⟨_, kk, rfl, hB2, fun H3 s3 => hnx _ (same_off F2.free s3)⟩⟩))
      (pss_one (ps_ret (pe_tup (pa_cons (pv 2) (pa_cons (pv 3) pa_nil)))))))), ?_⟩
    obtain ⟨dx, fu, p, n, a, sy, g, qs, ff, I⟩ := id hB
    refine ⟨_, rfl, b, dx, _, rfl, I.ins, rfl, _, rfl, d, b, l, q, S, ds, hd, rfl, hB, hlen, hq, ?_⟩
    unfold BrDo
    cases ea : act S d with
    | inl kk =>
      rw [ea] at k
      refine fun H1 s1 => ⟨kk, rfl, rfl, rfl, fun H2 s2 => ⟨_, rfl, _, rfl, by show 2 ≤ sizeLine; decide, fun z hz => ?_⟩⟩
      exact k z _ ((s1.trans s2).new2 hz) upd_same
    | inr zz =>
      obtain ⟨S', v⟩ := zz
      rw [ea] at k
      refine fun H1 o1 B1 => ⟨_, rfl, _, rfl, by show 2 ≤ sizeLine; decide, fun z hz => ?_⟩
      exact k z _ (o1.trans (Off.of (Same.new hz))) (B1.same (Same.new hz)) upd_same
end

end W1

set_option Elab.async false
set_option linter.all false
set_option maxRecDepth 100000
set_option maxHeartbeats 1000000
namespace W1
open PySem PySem.Spec PyProof.Rows L2
section
variable {P : Program} {w : World} {K : PySem.W.Frag} {mg : Str → Option Value} {base : Heap} {t : Ad}
theorem ok_pull (T : Txt K mg t) : FnOk P w K mg base CX0 1 t.f__law_pull t.d__law_pull ["_law_bag_here", "_law_many"] spPull := by
  refine T.F__law_pull.ok sc__law_pull (fun vs H Q E h => ?_) (fun cdv A outer s H vs Q E hr h => ?_)
  · obtain ⟨b, c, n, rfl, _⟩ := h
    rfl
  · obtain ⟨b, c, n, rfl, ⟨i, j, z, cells, hb, hc, hcb, hi⟩, hn0, hn1, k⟩ := h
    have nd := sc__law_pull.nd
    refine ⟨_, (pss_cons (ps_if (pt_cmpR op_lt (pe_ix ix_list (pv 0) pe_int (fun _ _ => rfl)) pe_int (nomark _)) (pss_cons (ps_augS (pv 0) pe_int get_list pe_int ip_add set_list)
      (pss_cons (ps_set (i := 2) nd rfl (Or.inl rfl) (pe_ix ix_list (pv 0) pe_int (fun _ _ => rfl)))
      (pss_cons (ps_if (pt_cmpR op_le (pe_ix ix_list (pv 0) pe_int (fun _ _ => rfl)) (pe_callB call_len_seq (by rfl) T.b_len (by decide +kernel) (pa_cons (pe_ix ix_list (pv 0) pe_int (fun _ _ => rfl)) pa_nil)) (nomark _)) (pss_cons (ps_set (i := 2) nd rfl (Or.inl rfl) (pe_ix ix_list (pe_ix ix_list (pv 0) pe_int (fun _ _ => rfl)) (pe_op op_sub (pe_ix ix_list (pv 0) pe_int (fun _ _ => rfl)) pe_int) (fun _ _ => rfl)))
      (pss_one (ps_if (pt_cmpR op_ge (pv 2) (pe_op op_pow pe_int pe_int) (nomark _)) (pss_cons (ps_asg (pe_op op_fdiv (pv 2) (pv 1)) (pg_sub (pv 0) pe_int set_list))
      (pss_one (ps_ret (pe_op op_mod (pv 2) (pv 1))))) pss_nil))) pss_nil)
      (pss_cons (ps_set (i := 3) nd rfl (Or.inl rfl) (pe_op op_mod (pe_op op_add (pe_op op_add (pv 2) (pe_op op_mul (pe_ix ix_list (pv 0) pe_int (fun _ _ => rfl)) pe_int)) (pe_op op_mul (pe_ix ix_list (pv 0) pe_int (fun _ _ => rfl)) pe_int)) pe_int))
      (pss_cons (ps_set (i := 3) nd rfl (Or.inl rfl) (pe_op op_mod (pe_op op_add (pe_op op_mul (pv 3) (pv 3)) pe_int) pe_int))
      (pss_one (ps_ret (pe_op op_mod (pe_op op_fdiv (pe_op op_mod (pe_op op_add (pe_op op_mul (pv 3) (pv 3)) (pe_ix ix_list (pv 0) pe_int (fun _ _ => rfl))) pe_int) pe_int) (pv 1))))))))) pss_nil)
      (pss_cons (ps_set (i := 4) nd rfl (Or.inl rfl) (pe_op op_mod (pe_ix ix_list (pv 0) pe_int (fun _ _ => rfl)) (pv 1)))
      (pss_cons (ps_asg (pe_op op_fdiv (pe_ix ix_list (pv 0) pe_int (fun _ _ => rfl)) (pv 1)) (pg_sub (pv 0) pe_int set_list))
      (pss_one (ps_ret (pv 4)))))), ?_⟩
    refine ⟨_, rfl, b, _, _, _, rfl, rfl, SqL.of hb, rfl, _, _, rfl, rfl, _, rfl, ?_⟩
    refine ite2 (fun c0 => ?_) (fun c0 => ?_)
    · -- bag[1] += 1; seed = bag[1]
      refine ⟨_, rfl, b, _, _, _, rfl, rfl, SqL.of hb, rfl, _, _, rfl, rfl, b, _, _, _, rfl, rfl, hb, rfl, ?_⟩
      have hb1 : (upd H b (.lst [.ref c, .int (i + 1), .int j, .int z])) b = some (.lst [.ref c, .int (i + 1), .int j, .int z]) := upd_same
      have hc1 : (upd H b (.lst [.ref c, .int (i + 1), .int j, .int z])) c = some (.lst (cells.map V.int)) := by rw [upd_ne hcb]; exact hc
      have s1 : SameB b H (upd H b (.lst [.ref c, .int (i + 1), .int j, .int z])) := (SameB.refl b H).upd
      have B1 : Bag (upd H b (.lst [.ref c, .int (i + 1), .int j, .int z])) b c := ⟨i + 1, j, z, cells, hb1, hc1, hcb, by omega⟩
      refine ⟨_, rfl, b, _, _, _, rfl, rfl, SqL.of hb1, rfl, ?_⟩
      refine ⟨_, rfl, b, _, _, _, rfl, rfl, SqL.of hb1, rfl, _, rfl, b, _, _, _, rfl, rfl, SqL.of hb1, rfl, c, _, rfl, .inl (SqL.of hc1), _, _, rfl, rfl, _, rfl, ?_⟩
      refine ite2 (fun c1 => ?_) (fun c1 => ?_)
      · have c1' : i + 1 ≤ ((cells.map V.int).length : Int) := of_decide_eq_true c1
        rw [List.length_map] at c1'
        have hlt : i.toNat < cells.length := by omega
        refine ⟨_, rfl, b, _, _, _, rfl, rfl, SqL.of hb1, rfl, _, rfl, b, _, _, _, rfl, rfl, SqL.of hb1, rfl, _, _, rfl, rfl, c, _, _, _, rfl, rfl, SqL.of hc1, at_of (j := i.toNat) (v := V.int cells[i.toNat]) (by omega) (by simp [hlt]), ?_⟩
        refine ⟨_, rfl, _, _, rfl, rfl, ⟨by decide, by decide, by decide⟩, _, _, rfl, rfl, _, rfl, ?_⟩
        refine ite2 (fun c2 => ?_) (fun c2 => ?_)
        · refine ⟨_, rfl, _, rfl, _, _, rfl, rfl, ⟨hn0, hn1⟩, _, rfl, b, _, _, _, rfl, rfl, hb1, rfl, ?_⟩
          refine ⟨_, rfl, _, rfl, _, _, rfl, rfl, hn0, ?_⟩
          refine k _ _ (mod_lo hn0) (mod_hi hn0) ⟨i + 1, _, z, cells, upd_same, by rw [upd_ne hcb]; exact hc1, hcb, by omega⟩ s1.upd
        · refine ⟨_, rfl, _, rfl, b, _, _, _, rfl, rfl, SqL.of hb1, rfl, _, _, rfl, rfl, .inr ⟨by decide, by decide⟩, _, _, rfl, rfl, _, rfl, b, _, _, _, rfl, rfl, SqL.of hb1, rfl, _, _, rfl, rfl, .inr ⟨by decide, by decide⟩, _, _, rfl, rfl, _, _, rfl, rfl, (by show (0 : Int) < 2147483629; decide), ?_⟩
          refine ⟨_, rfl, _, rfl, _, _, rfl, rfl, cmul_mod (by decide) (by decide), _, _, rfl, rfl, _, _, rfl, rfl, (by show (0 : Int) < 2147483587; decide), ?_⟩
          refine ⟨_, rfl, _, rfl, _, _, rfl, rfl, cmul_mod (by decide) (by decide), _, rfl, b, _, _, _, rfl, rfl, SqL.of hb1, rfl, _, _, rfl, rfl, _, _, rfl, rfl, (by show (0 : Int) < 1073741789; decide), _, _, rfl, rfl, ⟨by decide, by decide⟩, _, rfl, _, _, rfl, rfl, hn0, ?_⟩
          exact k _ _ (mod_lo hn0) (mod_hi hn0) B1 s1
      · refine ⟨_, rfl, _, rfl, b, _, _, _, rfl, rfl, SqL.of hb1, rfl, _, _, rfl, rfl, .inr ⟨by decide, by decide⟩, _, _, rfl, rfl, _, rfl, b, _, _, _, rfl, rfl, SqL.of hb1, rfl, _, _, rfl, rfl, .inr ⟨by decide, by decide⟩, _, _, rfl, rfl, _, _, rfl, rfl, (by show (0 : Int) < 2147483629; decide), ?_⟩
        refine ⟨_, rfl, _, rfl, _, _, rfl, rfl, cmul_mod (by decide) (by decide), _, _, rfl, rfl, _, _, rfl, rfl, (by show (0 : Int) < 2147483587; decide), ?_⟩
        refine ⟨_, rfl, _, rfl, _, _, rfl, rfl, cmul_mod (by decide) (by decide), _, rfl, b, _, _, _, rfl, rfl, SqL.of hb1, rfl, _, _, rfl, rfl, _, _, rfl, rfl, (by show (0 : Int) < 1073741789; decide), _, _, rfl, rfl, ⟨by decide, by decide⟩, _, rfl, _, _, rfl, rfl, hn0, ?_⟩
        exact k _ _ (mod_lo hn0) (mod_hi hn0) B1 s1
    · -- drawn = bag[2] % many; bag[2] = bag[2] // many; return drawn
      refine ⟨_, rfl, b, _, _, _, rfl, rfl, SqL.of hb, rfl, _, rfl, _, _, rfl, rfl, hn0, ?_⟩
      refine ⟨_, rfl, b, _, _, _, rfl, rfl, SqL.of hb, rfl, _, rfl, _, _, rfl, rfl, ⟨hn0, hn1⟩, _, rfl, b, _, _, _, rfl, rfl, hb, rfl, ?_⟩
      refine ⟨_, rfl, ?_⟩
      exact k _ _ (mod_lo hn0) (mod_hi hn0) ⟨i, _, z, cells, upd_same, by rw [upd_ne hcb]; exact hc, hcb, hi⟩ (SameB.refl b H).upd
end

end W1

set_option Elab.async false
set_option linter.all false
set_option maxRecDepth 100000
set_option maxHeartbeats 1000000
namespace W1
open PySem PySem.Spec PyProof.Rows L2
section
variable {P : Program} {w : World} {K : PySem.W.Frag} {mg : Str → Option Value} {base : Heap} {t : Ad}
end

end W1

set_option Elab.async false
set_option linter.all false
set_option maxRecDepth 100000
set_option maxHeartbeats 1000000
namespace W1
open PySem PySem.Spec PyProof.Rows L2
section
variable {P : Program} {w : World} {K : PySem.W.Frag} {mg : Str → Option Value} {base : Heap} {t : Ad}
theorem ok_bag (T : Txt K mg t) : FnOk P w K mg base CX0 1 t.f__law_bag t.d__law_bag ["_law_script"] (spBag K) := by
  refine T.F__law_bag.ok sc__law_bag (fun vs H Q E h => ?_) (fun cdv A outer s H vs Q E hr h => ?_)
  · obtain ⟨a, ns, rfl, _⟩ := h
    rfl
  · obtain ⟨a, ns, rfl, hS, hlen, k⟩ := h
    have nd := sc__law_bag.nd
    have sb := sl_big
    refine ⟨_, (pss_cons (ps_setLc (i := 1) (own := [("_law_one", 2)]) (g := (gName 2)) (by rfl) nd rfl rfl (sw_true rfl rfl rfl (by decide +kernel)) (pi_list (pe_slice sl_list (pv 0) po_none (po_some pe_int))) (blkOk_by (own := [("_law_one", 2)]) (N := ["_law_script", "_law_cells", "_law_one", "_law_salt"]) (sc := defScope s__law_bag) (by decide +kernel)) (fun _ _ _ _ _ => (pg_name (i := 2) nd rfl (Or.inl rfl))) (fun _ _ _ _ _ => pts_nil) (fun _ _ _ _ _ => (pe_callB call_abs (by rfl) T.b_abs (by decide +kernel) (pa_cons (pv 2) pa_nil))))
      (pss_cons (ps_set (i := 3) nd rfl (Or.inl rfl) (pe_op op_add pe_int (pe_callB call_len_seq (by rfl) T.b_len (by decide +kernel) (pa_cons (pv 1) pa_nil))))
      (pss_cons (ps_for PassesOwn.never rfl (pi_list (pe_slice sl_list (pv 0) po_none (po_some pe_int))) (pg_name (i := 2) nd rfl (Or.inl rfl))
      (pss_one (ps_set (i := 3) nd rfl (Or.inl rfl) (pe_op op_mod (pe_op op_add (pe_op op_add (pe_op op_mul (pv 3) pe_int) (pe_callB call_abs (by rfl) T.b_abs (by decide +kernel) (pa_cons (pv 2) pa_nil))) (pe_op op_mul pe_int (pe_callTy call_int1 (by rfl) T.b_int (by decide +kernel) (pa_cons (pe_cmpR op_lt (pv 2) pe_int (nomark _)) pa_nil)))) pe_int))))
      (pss_one (ps_ret (pe_lst (pa_cons (pv 1) (pa_cons pe_int (pa_cons pe_int (pa_cons (pv 3) pa_nil)))))))))), ?_⟩
    have ecut : cutV (ns.map V.int) none (some 63) = (ns.take 63).map V.int := by
      rw [cutV_to (by decide), take_min, List.map_take]
      rfl
    refine ⟨_, rfl, 63, rfl, a, _, rfl, hS, fun p hp => ⟨p, rfl, ⟨_, SqL.of upd_same⟩, fun D hD => ?_⟩⟩
    rw [ecut] at hD ⊢
    have nDp : D ≠ p := (ne_of_none (H := upd H p (.lst ((ns.take 63).map V.int))) upd_same hD).symm
    have hD0 : H D = none := (Same.new hp).free hD
    refine lc_list (K := K) (a := p) (xs := (ns.take 63).map V.int) (fun i H' => Same H H' ∧ H' p = some (.lst ((ns.take 63).map V.int)) ∧ ∃ cs : List Int, H' D = some (.lst (cs.map V.int)) ∧ cs.length = i) ⟨(Same.new hp).new2 hD, by rw [upd_ne nDp.symm]; exact upd_same, [], upd_same, rfl⟩ (fun i H' _ ⟨_, h, _⟩ => SqL.of h) ?_ ?_
    · rintro i x H' hx ⟨s1, h1, cs, h2, hc⟩
      rw [List.getElem?_map] at hx
      cases e : (ns.take 63)[i]? with
      | none => rw [e] at hx; cases hx
      | some z =>
        rw [e] at hx
        cases hx
        have hi63 : i < 63 := by
          have := (List.getElem?_eq_some_iff.mp e).1
          rw [List.length_take] at this
          omega
        refine ⟨rfl, ?_⟩
        refine ⟨_, rfl, _, rfl, _, h2, by rw [List.length_map]; omega, s1.updNew hD0, by rw [upd_ne nDp.symm]; exact h1, cs ++ [if z < 0 then -z else z], ?_, by simp [hc]⟩
        rw [upd_same, List.map_append]
        rfl
    · rintro H1 ⟨s1, h1, cs, h2, hc⟩
      refine ⟨_, rfl, D, _, rfl, .inl (SqL.of h2), _, _, rfl, rfl, ?_⟩
      refine ⟨_, rfl, 63, rfl, a, _, rfl, s1.seq hS, fun p2 hp2 => ⟨p2, rfl, ⟨_, SqL.of upd_same⟩, ?_⟩⟩
      have n2 : p2 ≠ D := (ne_of_none h2 hp2).symm
      refine for_list (K := K) (a := p2) (xs := cutV (ns.map V.int) none (some 63)) (fun i σ H' => ∃ (z : Int) (o : Option V), σ = [some (.ref a), some (.ref D), o, some (.int z)] ∧ Same H H' ∧ H' D = some (.lst (cs.map V.int)) ∧ H' p2 = some (.lst (cutV (ns.map V.int) none (some 63)))) ⟨_, _, rfl, s1.new2 hp2, by rw [upd_ne n2.symm]; exact h2, upd_same⟩ (fun i σ H' _ ⟨_, _, _, _, _, h⟩ => SqL.of h) ?_ ?_
      · rintro i x σ H' hx ⟨z, o, rfl, s3, g1, g2⟩
        rw [ecut, List.getElem?_map] at hx
        cases e : (ns.take 63)[i]? with
        | none => rw [e] at hx; cases hx
        | some y =>
          rw [e] at hx
          cases hx
          refine ⟨_, rfl, _, _, rfl, rfl, .inr ⟨by decide, by decide⟩, _, rfl, _, rfl, _, _, rfl, rfl, _, rfl, _, _, rfl, rfl, .inr ⟨_, rfl, _, _, rfl, rfl, .inl ⟨by decide, by decide⟩, _, _, rfl, rfl, _, _, rfl, rfl, (by show (0 : Int) < 2147483629; decide), ?_⟩⟩
          exact ⟨_, _, rfl, s3, g1, g2⟩
      · rintro σ H' ⟨z, o, rfl, s3, g1, g2⟩
        refine ⟨_, rfl, _, rfl, (by show 4 ≤ sizeLine; decide), fun b hb => ?_⟩
        exact k b D _ ⟨0, 0, z, cs, upd_same, by rw [upd_ne (ne_of_none g1 hb)]; exact g1, ne_of_none g1 hb, by decide⟩ (s3.new2 hb) (s3.free hb)
end

end W1

set_option Elab.async false
set_option linter.all false
set_option maxRecDepth 100000
set_option maxHeartbeats 1000000
namespace W1
open PySem PySem.Spec PyProof.Rows L2
section
variable {P : Program} {w : World} {K : PySem.W.Frag} {mg : Str → Option Value} {base : Heap} {t : Ad}
theorem ok_whole (T : Txt K mg t) : FnOk P w K mg base CX0 1 t.f__law_whole t.d__law_whole ["_law_found"] spWhole := by
  refine T.F__law_whole.ok sc__law_whole (fun vs H Q E h => ?_) (fun cdv A outer s H vs Q E hr h => ?_)
  · obtain ⟨i, rfl, _⟩ := h
    rfl
  · obtain ⟨i, rfl, k⟩ := h
    have nd := sc__law_whole.nd
    refine ⟨_, (pss_one (ps_ret (pe_and (pe_callB cr_isi (by rfl) T.b_isinstance (by decide +kernel) (pa_cons (pv 0) (pa_cons (pe_bltn (v := V.ty "int") (by rfl) T.b_int (by decide +kernel) rfl) pa_nil))) (pe_one (pe_not (pe_callB cr_isi (by rfl) T.b_isinstance (by decide +kernel) (pa_cons (pv 0) (pa_cons (pe_bltn (v := V.ty "bool") (by rfl) T.b_bool (by decide +kernel) rfl) pa_nil)))))))), ?_⟩
    refine ⟨_, rfl, _, _, _, true, rfl, TyOf.int i, rfl, _, rfl, ?_⟩
    refine iteT ?_
    exact ⟨_, rfl, _, _, _, false, rfl, TyOf.int i, rfl, _, rfl, k⟩
def spA (R : Hp → V → V → Prop) : Sp := fun vs H Q _ => ∃ x y : V, vs = [x, y] ∧ R H x y ∧ ∀ H', Same H H' → Q (.bl true) H'
def stepA (R : Hp → V → V → Prop) (H : Hp) (x y : V) : Prop := (x = y ∧ scl x = true) ∨ ∃ (p q : Addr) (xs ys : List V), x = .ref p ∧ y = .ref q ∧ ((H p = some (.lst xs) ∧ H q = some (.lst ys)) ∨ (H p = some (.tup xs) ∧ H q = some (.tup ys))) ∧ Paired (R H) xs ys ∧ ys.length ≤ 100000
theorem alike_step (T : Txt K mg t) {k : Nat} {R : Hp → V → V → Prop} (mono : ∀ {H H' x y}, Same H H' → R H x y → R H' x y)
    (G__law_alike : FnOk P w K mg base CX0 (k + 1) t.f__law_alike t.d__law_alike ["_law_found", "_law_due"] (spA R)) : FnOk P w K mg base CX0 (k + 2) t.f__law_alike t.d__law_alike ["_law_found", "_law_due"] (spA (stepA R)) := by
  have G__law_whole : FnOk P w K mg base CX0 1 t.f__law_whole t.d__law_whole ["_law_found"] spWhole := ok_whole T
  refine T.F__law_alike.ok sc__law_alike (fun vs H Q E h => ?_) (fun cdv A outer s H vs Q E hr h => ?_)
  · obtain ⟨x, y, rfl, _⟩ := h
    rfl
  · obtain ⟨x, y, rfl, h, k⟩ := h
    have nd := sc__law_alike.nd
    have sb := sl_big
    refine ⟨_, (pss_cons (ps_if (pt_cmpR op_isN (pv 1) pe_non (nomark _)) (pss_one (ps_ret (pe_cmpR op_isN (pv 0) pe_non (nomark _)))) pss_nil)
      (pss_cons (ps_if (pt_val (pe_callB cr_isi (by rfl) T.b_isinstance (by decide +kernel) (pa_cons (pv 1) (pa_cons (pe_bltn (v := V.ty "bool") (by rfl) T.b_bool (by decide +kernel) rfl) pa_nil)))) (pss_one (ps_ret (pe_and (pe_callB cr_isi (by rfl) T.b_isinstance (by decide +kernel) (pa_cons (pv 0) (pa_cons (pe_bltn (v := V.ty "bool") (by rfl) T.b_bool (by decide +kernel) rfl) pa_nil))) (pe_one (pe_cmpR op_eq (pv 0) (pv 1) (nomark _)))))) pss_nil)
      (pss_cons (ps_if (pt_val (pe_callB cr_isi (by rfl) T.b_isinstance (by decide +kernel) (pa_cons (pv 1) (pa_cons (pe_bltn (v := V.ty "int") (by rfl) T.b_int (by decide +kernel) rfl) pa_nil)))) (pss_one (ps_ret (pe_and (pe_call G__law_whole (hr.mono (by omega)) (by rfl) T.m__law_whole T.F__law_whole.kp T.b__law_whole .nil pass0 (pa_cons (pv 0) pa_nil)) (pe_one (pe_cmpR op_eq (pv 0) (pv 1) (nomark _)))))) pss_nil)
      (pss_cons (ps_if (pt_val (pe_callB cr_isi (by rfl) T.b_isinstance (by decide +kernel) (pa_cons (pv 1) (pa_cons (pe_bltn (v := V.ty "str") (by rfl) T.b_str (by decide +kernel) rfl) pa_nil)))) (pss_one (ps_ret (pe_and (pe_callB cr_isi (by rfl) T.b_isinstance (by decide +kernel) (pa_cons (pv 0) (pa_cons (pe_bltn (v := V.ty "str") (by rfl) T.b_str (by decide +kernel) rfl) pa_nil))) (pe_one (pe_cmpR op_eq (pv 0) (pv 1) (nomark _)))))) pss_nil)
      (pss_cons (ps_if (PW.pt (pw_or (pt_cmpR op_ne (pe_callB cr_isi (by rfl) T.b_isinstance (by decide +kernel) (pa_cons (pv 1) (pa_cons (pe_bltn (v := V.ty "list") (by rfl) T.b_list (by decide +kernel) rfl) pa_nil))) (pe_callB cr_isi (by rfl) T.b_isinstance (by decide +kernel) (pa_cons (pv 0) (pa_cons (pe_bltn (v := V.ty "list") (by rfl) T.b_list (by decide +kernel) rfl) pa_nil))) (nomark _)) (pw_or1 (pt_cmpR op_ne (pe_callB cr_isi (by rfl) T.b_isinstance (by decide +kernel) (pa_cons (pv 1) (pa_cons (pe_bltn (v := V.ty "tuple") (by rfl) T.b_tuple (by decide +kernel) rfl) pa_nil))) (pe_callB cr_isi (by rfl) T.b_isinstance (by decide +kernel) (pa_cons (pv 0) (pa_cons (pe_bltn (v := V.ty "tuple") (by rfl) T.b_tuple (by decide +kernel) rfl) pa_nil))) (nomark _))))) (pss_one (ps_ret pe_bl)) pss_nil)
      (pss_cons (ps_if (PW.pt (pw_or (pt_not (pt_val (pe_callB cr_isi2 (by rfl) T.b_isinstance (by decide +kernel) (pa_cons (pv 0) (pa_cons (pe_tup (pa_cons (pe_bltn (v := V.ty "list") (by rfl) T.b_list (by decide +kernel) rfl) (pa_cons (pe_bltn (v := V.ty "tuple") (by rfl) T.b_tuple (by decide +kernel) rfl) pa_nil))) pa_nil))))) (pw_or1 (pt_cmpR op_ne (pe_callB call_len_seq (by rfl) T.b_len (by decide +kernel) (pa_cons (pv 0) pa_nil)) (pe_callB call_len_seq (by rfl) T.b_len (by decide +kernel) (pa_cons (pv 1) pa_nil)) (nomark _))))) (pss_one (ps_ret pe_bl)) pss_nil)
      (pss_one (ps_ret (pe_callB (cr_all rfl) (by rfl) T.b_all (by decide +kernel) (pa_cons (pe_lc (own := [("_law_at", 2)]) (g := (gName 2)) (by rfl) nd (pi_range1 (by rfl) T.range (pa_cons (pe_callB call_len_seq (by rfl) T.b_len (by decide +kernel) (pa_cons (pv 1) pa_nil)) pa_nil)) (blkOk_by (own := [("_law_at", 2)]) (N := ["_law_found", "_law_due", "_law_at"]) (sc := defScope s__law_alike) (by decide +kernel)) (fun _ _ _ _ _ => (pg_name (i := 2) nd rfl (Or.inl rfl))) (fun _ _ _ _ _ => pts_nil) (fun _ _ _ _ _ => (pe_call G__law_alike (hr.mono (by omega)) (by rfl) T.m__law_alike T.F__law_alike.kp T.b__law_alike .nil pass0 (pa_cons (pe_ix (show IxR _ (rIx K) from ix_seq) (pv 0) (pv 2) (fun _ _ => rfl)) (pa_cons (pe_ix (show IxR _ (rIx K) from ix_seq) (pv 1) (pv 2) (fun _ _ => rfl)) pa_nil))))) pa_nil)))))))))), ?_⟩
    have kH := k H (Same.refl H)
    rcases h with ⟨rfl, hs⟩ | ⟨p, q, xs, ys, rfl, rfl, hpq, pr, hy⟩
    · cases x with
      | non => exact rd_ifT (IsT.test (Is.isN_t (Is.var rfl))) (Is.isN_t (Is.var rfl) _ kH)
      | bl y =>
        refine rd_ifF (IsT.test (Is.isN_f (Is.var rfl) (by intro z; cases z))) ?_
        exact rd_ifT (IsT.val (Is.isi (Is.var rfl) (TyOf.bl y) rfl)) (Is.andV (a := true) (b := true) (Is.isi (Is.var rfl) (TyOf.bl y) rfl) (fun _ => Is.eqS (Is.var rfl) (Is.var rfl) rfl) _ kH)
      | int i =>
        refine rd_ifF (IsT.test (Is.isN_f (Is.var rfl) (by intro z; cases z))) ?_
        refine rd_ifF (IsT.val (Is.isi (Is.var rfl) (TyOf.int i) rfl)) ?_
        refine rd_ifT (IsT.val (Is.isi (Is.var rfl) (TyOf.int i) rfl)) ?_
        refine ⟨_, rfl, i, rfl, _, rfl, ?_⟩
        exact iteT (Is.eqS (Is.var rfl) (Is.var rfl) rfl _ kH)
      | str z =>
        refine rd_ifF (IsT.test (Is.isN_f (Is.var rfl) (by intro z; cases z))) ?_
        refine rd_ifF (IsT.val (Is.isi (Is.var rfl) (TyOf.str z) rfl)) ?_
        refine rd_ifF (IsT.val (Is.isi (Is.var rfl) (TyOf.str z) rfl)) ?_
        exact rd_ifT (IsT.val (Is.isi (Is.var rfl) (TyOf.str z) rfl)) (Is.andV (a := true) (b := true) (Is.isi (Is.var rfl) (TyOf.str z) rfl) (fun _ => Is.eqS (Is.var rfl) (Is.var rfl) rfl) _ kH)
      | byt _ => cases hs
      | flt _ => cases hs
      | ref _ => cases hs
      | ty _ => cases hs
    · obtain ⟨ty, bL, bT, ty1, ty2, hq1, hq2, e1, e2, e3, e4, e5, e6, ty3⟩ : ∃ (ty : Value) (bL bT : Bool), TyOf K H (.ref p) ty ∧ TyOf K H (.ref q) ty ∧ (SqL K H p xs ∨ SqT K H p xs) ∧ (SqL K H q ys ∨ SqT K H q ys) ∧ PySem.W.kitOne K ty (.type "list") = some bL ∧ PySem.W.kitOne K ty (.type "tuple") = some bT ∧
          PySem.W.kitAny K ty [.type "list", .type "tuple"] = some true ∧ PySem.W.kitOne K ty (.type "bool") = some false ∧ PySem.W.kitOne K ty (.type "int") = some false ∧ PySem.W.kitOne K ty (.type "str") = some false ∧ (∀ H', Same H H' → TyOf K H' (.ref p) ty) := by
        rcases hpq with ⟨h1, h2⟩ | ⟨h1, h2⟩
        · exact ⟨_, _, _, TyOf.lst h1, TyOf.lst h2, .inl (SqL.of h1), .inl (SqL.of h2), rfl, rfl, rfl, rfl, rfl, rfl, fun H' s => TyOf.lst (s _ _ h1)⟩
        · exact ⟨_, _, _, TyOf.tup h1, TyOf.tup h2, .inr (SqT.of h1), .inr (SqT.of h2), rfl, rfl, rfl, rfl, rfl, rfl, fun H' s => TyOf.tup (s _ _ h1)⟩
      refine rd_ifF (IsT.test (Is.isN_f (Is.var rfl) (by intro z; cases z))) ?_
      refine rd_ifF (IsT.val (Is.isi (Is.var rfl) ty2 e4)) ?_
      refine rd_ifF (IsT.val (Is.isi (Is.var rfl) ty2 e5)) ?_
      refine rd_ifF (IsT.val (Is.isi (Is.var rfl) ty2 e6)) ?_
      refine rd_ifF (IsT.cast (IsT.or (IsT.test (Is.neB (Is.isi (Is.var rfl) ty2 e1) (Is.isi (Is.var rfl) ty1 e1))) fun _ => IsT.test (Is.neB (Is.isi (Is.var rfl) ty2 e2) (Is.isi (Is.var rfl) ty1 e2))) (by simp)) ?_
      refine ⟨_, rfl, (by show 2 ≤ sizeLine; decide), fun tp hp => ⟨_, ty, tp, ["list", "tuple"], true, rfl, upd_same, ty3 _ (Same.new hp), e3, _, rfl, ?_⟩⟩
      refine iteF ?_
      have s1 : Same H (upd H tp (.tup [.ty "list", .ty "tuple"])) := Same.new hp
      have up : ∀ {H'}, Same H H' → (SqL K H' p xs ∨ SqT K H' p xs) := fun s => hq1.elim (fun h => .inl (s.seq h)) fun h => .inr (s.seqT h)
      have uq : ∀ {H'}, Same H H' → (SqL K H' q ys ∨ SqT K H' q ys) := fun s => hq2.elim (fun h => .inl (s.seq h)) fun h => .inr (s.seqT h)
      have hl : xs.length = ys.length := Paired.length pr
      refine ⟨_, rfl, p, _, rfl, up s1, _, rfl, q, _, rfl, uq s1, rfl, _, rfl, ?_⟩
      rw [hl]
      refine iteNS rfl ?_
      refine ⟨_, rfl, q, _, rfl, uq s1, _, rfl, by omega, ?_, fun D hD => ?_⟩
      · omega
      · have hD0 : H D = none := s1.free hD
        refine lc_range (lo := 0) (n := (ys.length : Int).toNat) (fun i H' => Same H H' ∧ H' D = some (.lst ((List.replicate i true).map V.bl))) ⟨s1.new2 hD, upd_same⟩ ?_ ?_
        · rintro i H' hi ⟨s2, h2⟩
          have hi' : i < ys.length := by omega
          have ey : ys[i]? = some ys[i] := by simp [hi']
          obtain ⟨x, ex, rxy⟩ := paired_at (F := R H) pr ey
          refine ⟨rfl, ?_⟩
          refine ⟨_, rfl, _, rfl, rIx_of (up s2) (at_of (j := i) (by omega) ex) ?_⟩
          refine ⟨_, rfl, _, rfl, rIx_of (uq s2) (at_of (j := i) (by omega) ey) ?_⟩
          refine ⟨x, ys[i], rfl, mono s2 rxy, fun H3 s3 => ⟨_, s3 _ _ h2, by rw [List.length_map, List.length_replicate]; omega, (s2.trans s3).updNew hD0, ?_⟩⟩
          rw [upd_same, List.replicate_succ', List.map_append]
          rfl
        · rintro H' ⟨s2, h2⟩
          refine ⟨D, _, rfl, SqL.of h2, Qb (k H' s2) ?_⟩
          rw [List.all_replicate]
          cases (ys.length : Int).toNat <;> rfl
theorem ok_alike (T : Txt K mg t) : ∀ n : Nat, FnOk P w K mg base CX0 (n + 2) t.f__law_alike t.d__law_alike ["_law_found", "_law_due"] (spAlike n)
  | 0 => (alike_step (R := fun _ _ _ => False) T (fun _ h => h) (k := 0) ⟨fun _ _ _ _ ⟨_, _, _, h, _⟩ => h.elim, fun _ _ _ _ _ _ _ _ _ _ _ _ _ ⟨_, _, _, h, _⟩ => h.elim⟩).imp fun vs H Q E ⟨x, y, e, h, q⟩ => ⟨x, y, e, .inl h, q⟩
  | n + 1 => (alike_step (R := fun H => Alk H n) T (fun s h => h.same s) (ok_alike T n)).imp fun vs H Q E ⟨x, y, e, h, q⟩ => ⟨x, y, e, h, q⟩
end

end W1

set_option Elab.async false
set_option linter.all false
set_option maxRecDepth 100000
set_option maxHeartbeats 1000000
namespace W1
open PySem PySem.Spec PyProof.Rows L2
def spCram (K : PySem.W.Frag) (C : Addr) : Sp := fun vs H Q _ => ∃ (d c b l nl : Addr) (ns : List Str), vs = [.ref d, .ref b, .ref nl] ∧ CW K H C d c b l nl ns S0 [] ∧ ns.length = 40 ∧ ns.Nodup ∧ (∀ x ∈ ns, nameB x = true ∧ x.length ≤ 6) ∧
  ∀ H' S ds, CW K H' C d c b l nl ns S ds → Fll ns 80 20 S → ds.length = 140 → Q (.bl true) H'
theorem name_at {ns : List Str} {z : Int} (h40 : ns.length = 40) (h0 : 0 ≤ z) (h1 : z < 40) : ∃ x, ns[z.toNat]? = some x ∧ atI (ns.map V.str) z = some (.str x) ∧ x ∈ ns := by
  have hl : z.toNat < ns.length := by omega
  refine ⟨ns[z.toNat], List.getElem?_eq_getElem hl, at_of (j := z.toNat) (by omega) ?_, List.getElem_mem hl⟩
  rw [List.getElem?_map, List.getElem?_eq_getElem hl]; rfl
section
variable {P : Program} {w : World} {K : PySem.W.Frag} {mg : Str → Option Value} {base : Heap} {t : Ad} {ca : Kin → Addr} {aT aA C aS cI cM : Addr} {bd : BAd}
theorem ok__law_crammed (T : Txt K mg t) (Z : KinC K ca) (TH : ThingsZ w K mg aT) (A : ActsD w K mg t aA) (KX : K.In base) (G : base.Ns mainGlobals mg) (B : BrdC K mg C aS bd) : FnOk P w K mg base CX0 7 t.f__law_crammed t.d__law_crammed ["_law_bag_here", "_law_board", "_law_names_here"] (spCram K C) := by
  have G_b_box := ok_b_box (P := P) T Z TH A KX G B
  have G_b_arrow := ok_b_arrow (P := P) T Z TH A KX G B
  have G_b_say := ok_b_say (P := P) T Z TH A KX G B
  have G__law_pull := ok_pull (P := P) (w := w) (base := base) T
  have G__law_alike := ok_alike (P := P) (w := w) (base := base) T 0
  refine T.F__law_crammed.ok sc__law_crammed (fun vs H Q E h => ?_) (fun cdv A' outer s H vs Q E hr h => ?_)
  · obtain ⟨d, c, b, l, nl, ns, rfl, _⟩ := h
    rfl
  · obtain ⟨d, c, b, l, nl, ns, rfl, W, h40, hnd, hns, k⟩ := h
    have nd := sc__law_crammed.nd
    have hne : ns ≠ [] := fun q => by rw [q] at h40; cases h40
    refine ⟨_, (pss_cons (ps_for PassesOwn.never rfl (pi_list (pv 2)) (pg_name (i := 3) nd rfl (Or.inl rfl))
      (pss_one (ps_expr (pe_meth (pv 1) B.cl B.at_box G_b_box (hr.mono (by omega)) B.b_box .nil passNo (pa_cons (pv 3) pa_nil)))))
      (pss_cons (ps_for PassesOwn.never rfl (pi_range1 (by rfl) T.range (pa_cons pe_int pa_nil)) (pg_name (i := 4) nd rfl (Or.inl rfl))
      (pss_cons (ps_par (i := 6) (j := 7) (by rfl) nd rfl rfl (by decide) rfl rfl (pa_cons (pe_ix ix_list (pv 2) (pe_call G__law_pull (hr.mono (by omega)) (by rfl) T.m__law_pull T.F__law_pull.kp T.b__law_pull .nil pass0 (pa_cons (pv 0) (pa_cons pe_int pa_nil))) (fun _ _ => rfl)) (pa_cons (pe_ix ix_list (pv 2) (pe_call G__law_pull (hr.mono (by omega)) (by rfl) T.m__law_pull T.F__law_pull.kp T.b__law_pull .nil pass0 (pa_cons (pv 0) (pa_cons pe_int pa_nil))) (fun _ _ => rfl)) pa_nil)) (by rfl))
      (pss_cons (ps_set (i := 5) nd rfl (Or.inl rfl) (pe_ifExp (pt_cmpR op_eq (pe_op op_mod (pv 4) pe_int) pe_int (nomark _)) (pe_methK (pv 1) B.cl B.at_arrow G_b_arrow (hr.mono (by omega)) B.bk_arrow_weight passNo (pa_cons (pv 6) (pa_cons (pv 7) pa_nil)) (pk_cons pe_int pk_nil)) (pe_meth (pv 1) B.cl B.at_arrow G_b_arrow (hr.mono (by omega)) B.bd_arrow (dvs := [V.int 1, V.int 1]) (.cons ⟨_, rfl⟩ (.cons ⟨_, rfl⟩ .nil)) passNo (pa_cons (pv 6) (pa_cons (pv 7) pa_nil)))))
      (pss_one (ps_if (pt_not (pt_val (pe_call G__law_alike (hr.mono (by omega)) (by rfl) T.m__law_alike T.F__law_alike.kp T.b__law_alike .nil pass0 (pa_cons (pv 5) (pa_cons (pe_op op_add (pv 4) pe_int) pa_nil))))) (pss_one (ps_ret pe_bl)) pss_nil)))))
      (pss_cons (ps_for PassesOwn.never rfl (pi_range1 (by rfl) T.range (pa_cons pe_int pa_nil)) (pg_name (i := 4) nd rfl (Or.inl rfl))
      (pss_cons (ps_set (i := 8) nd rfl (Or.inl rfl) (pe_call G__law_pull (hr.mono (by omega)) (by rfl) T.m__law_pull T.F__law_pull.kp T.b__law_pull .nil pass0 (pa_cons (pv 0) (pa_cons pe_int pa_nil))))
      (pss_cons (ps_set (i := 5) nd rfl (Or.inl rfl) (pe_ifExp (pt_cmpR op_eq (pe_op op_mod (pv 4) pe_int) pe_int (nomark _)) (pe_methK (pv 1) B.cl B.at_say G_b_say (hr.mono (by omega)) B.bk_say_least passNo (pa_cons (pe_ix ix_list (pv 2) (pv 8) (fun _ _ => rfl)) (pa_cons (pe_ix ix_list (pv 2) (pe_op op_add (pv 8) pe_int) (fun _ _ => rfl)) pa_nil)) (pk_cons pe_int pk_nil)) (pe_meth (pv 1) B.cl B.at_say G_b_say (hr.mono (by omega)) B.bd_say (dvs := [V.int 1]) (.cons ⟨_, rfl⟩ .nil) passNo (pa_cons (pe_ix ix_list (pv 2) (pv 8) (fun _ _ => rfl)) (pa_cons (pe_ix ix_list (pv 2) (pe_op op_add (pv 8) pe_int) (fun _ _ => rfl)) pa_nil)))))
      (pss_one (ps_if (pt_not (pt_val (pe_call G__law_alike (hr.mono (by omega)) (by rfl) T.m__law_alike T.F__law_alike.kp T.b__law_alike .nil pass0 (pa_cons (pv 5) (pa_cons (pe_op op_add (pv 4) pe_int) pa_nil))))) (pss_one (ps_ret pe_bl)) pss_nil)))))
      (pss_one (ps_ret pe_bl))))), ?_⟩
    refine ⟨_, rfl, nl, rfl, ⟨_, SqL.of W.nam⟩, ?_⟩
    refine for_list (K := K) (a := nl) (xs := ns.map V.str) (fun i σ H' => ∃ (o3 : Option V), σ = [some (.ref d), some (.ref b), some (.ref nl), o3, none, none, none, none, none] ∧ ∃ S ds, CW K H' C d c b l nl ns S ds ∧ S.ns = ns.take i ∧ S.ar = [] ∧ S.sy = [] ∧ S.ga = 0 ∧ S.gs = 0 ∧ ds.length = i) ⟨none, rfl, S0, [], W, rfl, rfl, rfl, rfl, rfl, rfl⟩ (fun i σ H' _ ⟨_, _, _, _, W1, _⟩ => SqL.of W1.nam) ?_ ?_
    · rintro i x σ H1 hx ⟨o3, rfl, S, ds, W1, eS, e2, e3, e4, e5, el⟩
      rw [List.getElem?_map] at hx
      cases ex : ns[i]? with
      | none => rw [ex] at hx; cases hx
      | some z =>
        rw [ex] at hx
        cases hx
        have hil := (List.getElem?_eq_some_iff.mp ex).1
        have hz := hns z (List.mem_of_getElem? ex)
        have ea := act_box hnd (by omega) ex hz.1 eS
        obtain ⟨dx, fu, p, n, a, sy, g, qs, ff, I⟩ := id W1.brd
        refine ⟨_, rfl, b, dx, _, rfl, I.ins, rfl, _, rfl, .box z, b, l, S, ds, (show z.length ≤ 1000 from by omega), rfl, rfl, W1.brd, by omega, ?_⟩
        unfold BrDo
        rw [ea]
        intro H2 o2 B2
        exact ⟨_, rfl, _, _, W1.deed hne o2 B2, rfl, e2, e3, e4, e5, by rw [List.length_append, el]; rfl⟩
    · rintro σ H1 ⟨o3, rfl, S, ds, W1, eS, e2, e3, e4, e5, el⟩
      rw [List.length_map] at eS el
      rw [List.take_of_length_le (Nat.le_refl _)] at eS
      have f0 : Fll ns 0 0 S := ⟨eS, by rw [e2]; rfl, by rw [e3]; rfl, e4, e5, (fun z hz => by rw [e2] at hz; cases hz), (fun z hz => by rw [e3] at hz; cases hz)⟩
      refine ⟨80, rfl, by decide, by decide, for_range (lo := 0) (n := 80) (fun i σ H' => ∃ (o3 o4 o5 o6 o7 : Option V), σ = [some (.ref d), some (.ref b), some (.ref nl), o3, o4, o5, o6, o7, none] ∧ ∃ S ds, CW K H' C d c b l nl ns S ds ∧ Fll ns i 0 S ∧ ds.length = 40 + i) ⟨o3, none, none, none, none, rfl, S, ds, W1, f0, by omega⟩ ?_ ?_⟩
      · rintro i σ H2 hi ⟨o3, o4, o5, o6, o7, rfl, S, ds, W2, f2, el2⟩
        refine ⟨_, rfl, _, rfl, d, c, 40, rfl, W2.bag, by decide, by decide, fun r1 H3 h0 h1 B3 s3 => ?_⟩
        have W3 := W2.pull hne B3 s3
        obtain ⟨x, ex, ax, mx⟩ := name_at h40 h0 h1
        refine ⟨nl, _, _, _, rfl, rfl, SqL.of W3.nam, ax, ?_⟩
        refine ⟨_, rfl, _, rfl, d, c, 40, rfl, W3.bag, by decide, by decide, fun r2 H4 h0' h1' B4 s4 => ?_⟩
        have W4 := W3.pull hne B4 s4
        obtain ⟨y, ey, ay, my⟩ := name_at h40 h0' h1'
        refine ⟨nl, _, _, _, rfl, rfl, SqL.of W4.nam, ay, _, _, rfl, ?_⟩
        obtain ⟨dx, fu, p, n, a, sy, g, qs, ff, I⟩ := id W4.brd
        refine ⟨_, rfl, _, _, rfl, rfl, by show (0 : Int) < 2; decide, rfl, _, rfl, ?_⟩
        refine ite2 (fun _ => ?_) (fun _ => ?_)
        · refine ⟨_, rfl, b, dx, _, rfl, I.ins, rfl, _, rfl, _, rfl, .arrow x y 1 9, b, l, S, ds, trivial, rfl, rfl, W4.brd, by omega, ?_⟩
          obtain ⟨S', ea, f'⟩ := f2.arrow (l := 1) (w := 9) mx my rfl rfl hi
          unfold BrDo
          rw [ea]
          intro H5 o5 B5
          have W5 := W4.deed hne o5 B5
          refine ⟨_, rfl, _, rfl, _, _, rfl, rfl, .int ((i : Int) + 1), .int (0 + (i : Int) + 1), rfl, ⟨by rw [Int.zero_add], rfl⟩, fun H6 s6 => ⟨_, rfl, ?_⟩⟩
          exact iteF ⟨_, _, _, _, _, rfl, S', _, W5.same s6, f', by rw [List.length_append, el2]; rfl⟩
        · refine ⟨_, rfl, b, dx, _, rfl, I.ins, rfl, _, rfl, _, rfl, .arrow x y 1 1, b, l, S, ds, trivial, rfl, rfl, W4.brd, by omega, ?_⟩
          obtain ⟨S', ea, f'⟩ := f2.arrow (l := 1) (w := 1) mx my rfl rfl hi
          unfold BrDo
          rw [ea]
          intro H5 o5 B5
          have W5 := W4.deed hne o5 B5
          refine ⟨_, rfl, _, rfl, _, _, rfl, rfl, .int ((i : Int) + 1), .int (0 + (i : Int) + 1), rfl, ⟨by rw [Int.zero_add], rfl⟩, fun H6 s6 => ⟨_, rfl, ?_⟩⟩
          exact iteF ⟨_, _, _, _, _, rfl, S', _, W5.same s6, f', by rw [List.length_append, el2]; rfl⟩
      · rintro σ H2 ⟨o3, o4, o5, o6, o7, rfl, S, ds, W2, f2, el2⟩
        refine ⟨20, rfl, by decide, by decide, for_range (lo := 0) (n := 20) (fun i σ H' => ∃ (o3 o4 o5 o6 o7 o8 : Option V), σ = [some (.ref d), some (.ref b), some (.ref nl), o3, o4, o5, o6, o7, o8] ∧ ∃ S ds, CW K H' C d c b l nl ns S ds ∧ Fll ns 80 i S ∧ ds.length = 120 + i) ⟨o3, o4, o5, o6, o7, none, rfl, S, ds, W2, f2, by omega⟩ ?_ ?_⟩
        · rintro i σ H3 hi ⟨o3, o4, o5, o6, o7, o8, rfl, S, ds, W3, f2, el2⟩
          refine ⟨_, rfl, d, c, 39, rfl, W3.bag, by decide, by decide, fun r1 H4 h0 h1 B4 s4 => ?_⟩
          have W4 := W3.pull hne B4 s4
          obtain ⟨x, ex, ax, mx⟩ := name_at h40 h0 (by omega : r1 < 40)
          obtain ⟨y, ey, ay, my⟩ := name_at (z := r1 + 1) h40 (by omega) (by omega)
          have nxy : x ≠ y := fun q => by
            rw [q] at ex
            have := nd_ix hnd ex ey
            omega
          obtain ⟨dx, fu, p, n, a, sy, g, qs, ff, I⟩ := id W4.brd
          refine ⟨_, rfl, _, _, rfl, rfl, by show (0 : Int) < 2; decide, rfl, _, rfl, ?_⟩
          refine ite2 (fun _ => ?_) (fun _ => ?_)
          · refine ⟨_, rfl, b, dx, _, rfl, I.ins, rfl, _, rfl, _, rfl, nl, _, _, _, rfl, rfl, SqL.of W4.nam, ax, _, rfl, _, rfl, _, _, rfl, rfl, nl, _, _, _, rfl, rfl, SqL.of W4.nam, ay, .say x y 0, b, l, S, ds, trivial, rfl, rfl, W4.brd, by omega, ?_⟩
            obtain ⟨S', ea, f'⟩ := f2.say (l := 0) mx my nxy rfl hi
            unfold BrDo
            rw [ea]
            intro H5 o5' B5
            have W5 := W4.deed hne o5' B5
            refine ⟨_, rfl, _, rfl, _, _, rfl, rfl, .int ((i : Int) + 1), .int (0 + (i : Int) + 1), rfl, ⟨by rw [Int.zero_add], rfl⟩, fun H6 s6 => ⟨_, rfl, ?_⟩⟩
            exact iteF ⟨_, _, _, _, _, _, rfl, S', _, W5.same s6, f', by rw [List.length_append, el2]; rfl⟩
          · refine ⟨_, rfl, b, dx, _, rfl, I.ins, rfl, _, rfl, _, rfl, nl, _, _, _, rfl, rfl, SqL.of W4.nam, ax, _, rfl, _, rfl, _, _, rfl, rfl, nl, _, _, _, rfl, rfl, SqL.of W4.nam, ay, .say x y 1, b, l, S, ds, trivial, rfl, rfl, W4.brd, by omega, ?_⟩
            obtain ⟨S', ea, f'⟩ := f2.say (l := 1) mx my nxy rfl hi
            unfold BrDo
            rw [ea]
            intro H5 o5' B5
            have W5 := W4.deed hne o5' B5
            refine ⟨_, rfl, _, rfl, _, _, rfl, rfl, .int ((i : Int) + 1), .int (0 + (i : Int) + 1), rfl, ⟨by rw [Int.zero_add], rfl⟩, fun H6 s6 => ⟨_, rfl, ?_⟩⟩
            exact iteF ⟨_, _, _, _, _, _, rfl, S', _, W5.same s6, f', by rw [List.length_append, el2]; rfl⟩
        · rintro σ H3 ⟨o3, o4, o5, o6, o7, o8, rfl, S, ds, W3, f3, el3⟩
          exact k H3 S ds W3 f3 el3
end

end W1

set_option Elab.async false
set_option linter.all false
set_option maxRecDepth 100000
set_option maxHeartbeats 1000000
namespace W1
open PySem PySem.Spec PyProof.Rows L2
section
variable {P : Program} {w : World} {K : PySem.W.Frag} {mg : Str → Option Value} {base : Heap} {t : Ad}
theorem az_atZ {k : Nat} : atI az.cps.toList ((0 + (k : Int)) % 26) = some (az.cps.toList.getD (k % 26) 0) := by
  have h : k % 26 < 26 := Nat.mod_lt _ (by decide)
  have e : (0 + (k : Int)) % 26 = ((k % 26 : Nat) : Int) := by omega
  rw [e]
  have : ∀ j, j < 26 → atI az.cps.toList ((j : Nat) : Int) = some (az.cps.toList.getD j 0) := by decide +kernel
  exact this _ h
theorem zzz_ne : ∀ j, j < 40 → ∀ r, r < 6 → nm j r ≠ "zzz" := by decide +kernel
def spLNamesZ : Sp := fun vs H Q _ => ∃ (b c : Addr) (m : Nat), vs = [.ref b, .int m] ∧ Bag H b c ∧ m ≤ 40 ∧ ∀ (p : Addr) (H' : Hp) (ns : List Str), H' p = some (.tup (ns.map V.str)) → H p = none → namesB ns = true → ns.length = m → (∀ z ∈ ns, z.length ≤ 6) → Bag H' b c → SameB b H H' → (∀ z ∈ ns, z ≠ "zzz") → Q (.ref p) H'
theorem ok_lnamesZ (T : Txt K mg t) : FnOk P w K mg base CX0 2 t.f__law_names t.d__law_names ["_law_bag_here", "_law_many"] spLNamesZ := by
  have G__law_pull : FnOk P w K mg base CX0 1 t.f__law_pull t.d__law_pull ["_law_bag_here", "_law_many"] spPull := ok_pull T
  refine T.F__law_names.ok sc__law_names (fun vs H Q E h => ?_) (fun cdv A outer s H vs Q E hr h => ?_)
  · obtain ⟨b, c, m, rfl, _⟩ := h
    rfl
  · obtain ⟨b, c, m, rfl, B, hm, k⟩ := h
    have nd := sc__law_names.nd
    refine ⟨_, (pss_cons (ps_set (i := 2) nd rfl (Or.inl rfl) (pe_lst pa_nil))
      (pss_cons (ps_set (i := 3) nd rfl (Or.inl rfl) (pe_lst (pa_cons pe_str (pa_cons pe_str (pa_cons pe_str (pa_cons pe_str (pa_cons pe_str (pa_cons pe_str pa_nil))))))))
      (pss_cons (ps_for PassesOwn.never rfl (pi_range1 (by rfl) T.range (pa_cons (pv 1) pa_nil)) (pg_name (i := 4) nd rfl (Or.inl rfl))
      (pss_cons (ps_set (i := 5) nd rfl (Or.inl rfl) (pe_op op_add_str (pe_ix ix_str pe_str (pe_op op_mod (pv 4) pe_int) (fun _ _ => rfl)) (pe_op op_repS pe_str (pe_op op_fdiv (pv 4) pe_int))))
      (pss_one (ps_expr (pe_bm PySem.F.plainAttrs_list PySem.F.slot_list_append PySem.F.type_list_append mt_append (pv 2) (pa_cons (pe_slice sl_str (pe_op op_add_str (pv 5) (pe_ix ix_list (pv 3) (pe_call G__law_pull (hr.mono (by omega)) (by rfl) T.m__law_pull T.F__law_pull.kp T.b__law_pull .nil pass0 (pa_cons (pv 0) (pa_cons pe_int pa_nil))) (fun _ _ => rfl))) po_none (po_some pe_int)) pa_nil))))))
      (pss_cons (ps_set (i := 6) nd rfl (Or.inl rfl) (pe_call G__law_pull (hr.mono (by omega)) (by rfl) T.m__law_pull T.F__law_pull.kp T.b__law_pull .nil pass0 (pa_cons (pv 0) (pa_cons (pe_callB (call_max2 rfl) (by rfl) T.b_max (by decide +kernel) (pa_cons pe_int (pa_cons (pv 1) pa_nil))) pa_nil))))
      (pss_one (ps_ret (pe_callTy call_tuple_of (by rfl) T.b_tuple (by decide +kernel) (pa_cons (pe_op op_cat (pe_slice sl_list (pv 2) (po_some (pv 6)) po_none) (pe_slice sl_list (pv 2) po_none (po_some (pv 6)))) pa_nil)))))))), ?_⟩
    refine ⟨by decide, fun F hF => ⟨by decide, fun TL hTL => ?_⟩⟩
    have nFb : F ≠ b := B.ne hF
    have nFc : F ≠ c := B.neC hF
    have nTF : TL ≠ F := (ne_of_none (H := upd H F (.lst [])) upd_same hTL).symm
    have hTL0 : H TL = none := (Same.new hF).free hTL
    have nTb : TL ≠ b := B.ne hTL0
    refine ⟨_, rfl, m, rfl, by omega, by omega, for_range (lo := 0) (n := (m : Int).toNat) (fun i σ H' => ∃ (l : List Str) (o4 o5 : Option V), σ = [some (.ref b), some (.int m), some (.ref F), some (.ref TL), o4, o5, none] ∧ l.length = i ∧ (∀ j s, l[j]? = some s → ∃ r, r < 6 ∧ s = nm j r) ∧ H' F = some (.lst (l.map V.str)) ∧ H' TL = some (.lst (tails.map V.str)) ∧ Bag H' b c ∧ SameB b H H') ?_ ?_ ?_⟩
    · refine ⟨[], none, none, rfl, rfl, fun j s e => by simp at e, by rw [upd_ne nTF.symm]; exact upd_same, upd_same, (B.new hF).new hTL, ((Same.new hF).new2 hTL).but⟩
    · rintro i σ H' hi ⟨l, o4, o5, rfl, hl, hk, h1, h2, B1, s1⟩
      have hi40 : i < 40 := by omega
      refine ⟨_, rfl, _, _, rfl, rfl, (by show (0 : Int) < 26; decide), _, _, _, rfl, rfl, by decide, az_atZ (k := i), _, rfl, _, _, rfl, rfl, ⟨by decide, by decide⟩, _, _, rfl, rfl, by omega, by omega, by decide, ?_, _, _, rfl, rfl, ?_, ?_⟩
      · have : (Str.ofString "q").length = 1 := by decide
        rw [this]; have := sl_big; omega
      · have := fst_facts i hi40
        have h3 : (⟨#[az.cps.toList.getD (i % 26) 0]⟩ : Str).length = 1 := rfl
        have := sl_big; omega
      · refine ⟨_, rfl, .inl ⟨rfl, _, SqL.of h1⟩, _, rfl, _, rfl, _, rfl, b, c, 6, rfl, B1, by decide, by decide, fun r H2 r0 r1 B2 s2 => ?_⟩
        have g1 : H2 F = some (.lst (l.map V.str)) := s2 _ _ h1 nFb
        have g2 : H2 TL = some (.lst (tails.map V.str)) := s2 _ _ h2 nTb
        obtain ⟨⟨f1, f2⟩, f3, f4, f5⟩ := nm_facts i hi40 r.toNat (by omega)
        have sb := sl_big
        refine ⟨TL, _, _, _, rfl, rfl, SqL.of g2, tails_at r0 r1, _, _, rfl, rfl, Nat.le_trans f1 (by omega), 6, rfl, _, rfl, Nat.le_trans f2 (by omega), F, _, _, rfl, rfl, g1, by rw [List.length_map]; omega, ?_⟩
        refine ⟨l ++ [nm i r.toNat], _, _, rfl, by rw [List.length_append]; simp [hl], ?_, ?_, by rw [upd_ne nTF]; exact g2, B2.put nFb nFc, (s1.trans s2).updNew hF⟩
        · intro j s e
          by_cases hj : j < l.length
          · rw [List.getElem?_append_left hj] at e
            exact hk j s e
          · rw [List.getElem?_append_right (by omega)] at e
            have hj0 : j - l.length = 0 := by
              cases q : j - l.length with
              | zero => rfl
              | succ n => rw [q] at e; simp at e
            rw [hj0] at e
            simp at e
            exact ⟨r.toNat, by omega, by rw [← e]; congr 1; omega⟩
        · rw [upd_same, List.map_append]
          rfl
    · rintro σ H' ⟨l, o4, o5, rfl, hl, hk, h1, h2, B1, s1⟩
      have hlm : l.length = m := by omega
      refine ⟨_, rfl, _, rfl, _, _, rfl, b, c, _, rfl, B1, ?_, ?_, fun r H2 r0 r1 B2 s2 => ?_⟩
      · split <;> omega
      · split <;> omega
      have g1 : H2 F = some (.lst (l.map V.str)) := s2 _ _ h1 nFb
      have sb := sl_big
      refine ⟨_, rfl, _, rfl, r, rfl, F, _, rfl, SqL.of g1, fun p1 n1 => ⟨_, rfl, _, rfl, r, rfl, F, _, rfl, SqL.of ((Same.new n1) _ _ g1), fun p2 n2 => ⟨p1, p2, _, _, rfl, rfl, (Same.new n2) _ _ upd_same, upd_same, ?_, fun p3 n3 => ⟨p3, _, rfl, .inl ⟨SqL.of upd_same, fun p4 n4 => ?_⟩⟩⟩⟩⟩
      · have a1 := cutV_length (l.map V.str) (some r) none
        have a2 := cutV_length (l.map V.str) none (some r)
        rw [List.length_map] at a1 a2
        omega
      · have sA : Same H2 (upd (upd (upd H2 p1 (.lst (cutV (l.map V.str) (some r) none))) p2 (.lst (cutV (l.map V.str) none (some r)))) p3 (.lst (cutV (l.map V.str) (some r) none ++ cutV (l.map V.str) none (some r)))) := ((Same.new n1).new2 n2).new2 n3
        have fr : ∀ j s, l[j]? = some s → keyOf s = j ∧ nameB s = true ∧ s.length ≤ 6 := fun j s e => by
          obtain ⟨q, q6, rfl⟩ := hk j s e
          have hj : j < 40 := by have := (List.getElem?_eq_some_iff.mp e).1; omega
          obtain ⟨_, f3, f4, f5⟩ := nm_facts j hj q q6
          exact ⟨f3, f4, f5⟩
        have hnd : l.Nodup := nodup_by_key fun j s e => (fr j s e).1
        have hall : ∀ z ∈ l, nameB z = true ∧ z.length ≤ 6 := fun z hz => by
          obtain ⟨j, e⟩ := List.getElem?_of_mem hz
          exact (fr j z e).2
        have ecut : cutV (l.map V.str) (some r) none ++ cutV (l.map V.str) none (some r) = (l.drop r.toNat ++ l.take r.toNat).map V.str := by
          rw [cutV_from r0, cutV_to r0, drop_min, take_min, List.map_append, List.map_drop, List.map_take]
        have hperm : (l.drop r.toNat ++ l.take r.toNat).Perm l := by
          have := List.perm_append_comm (l₁ := l.drop r.toNat) (l₂ := l.take r.toNat)
          rw [List.take_append_drop] at this
          exact this
        have hp4 : H p4 = none := (s1.trans s2).free (fun e => by
          have := (B2.same sA).ne n4
          exact this e) (sA.free n4)
        refine k p4 _ (l.drop r.toNat ++ l.take r.toNat) (by rw [upd_same, ecut]) hp4 ?_ ?_ (fun z hz => (hall z (hperm.mem_iff.mp hz)).2) ((B2.same sA).new n4) (((s1.trans s2).same sA).new n4) (fun z hz => by
          obtain ⟨j, e⟩ := List.getElem?_of_mem (hperm.mem_iff.mp hz)
          obtain ⟨q, q6, rfl⟩ := hk j z e
          exact zzz_ne j (by have := (List.getElem?_eq_some_iff.mp e).1; omega) q q6)
        · unfold namesB
          rw [decide_eq_true (by rw [hperm.length_eq]; omega), decide_eq_true (hperm.nodup_iff.mpr hnd), Bool.true_and, Bool.true_and]
          exact List.all_eq_true.mpr fun z hz => (hall z (hperm.mem_iff.mp hz)).1
        · rw [hperm.length_eq]; exact hlm
end

end W1

set_option Elab.async false
set_option linter.all false
set_option maxRecDepth 100000
set_option maxHeartbeats 1000000
namespace W1
open PySem PySem.Spec PyProof.Rows L2
theorem Paired.dropT {α β : Type} {F : α → β → Prop} : ∀ {xs : List α} {ys : List β}, Paired F xs ys → ∀ k, Paired F (xs.drop k) (ys.drop k)
  | _, _, h, 0 => h
  | [], [], .nil, _ + 1 => .nil
  | _ :: _, _ :: _, .cons _ t, k + 1 => Paired.dropT t k
theorem Paired.lenT {α β : Type} {F : α → β → Prop} : ∀ {xs : List α} {ys : List β}, Paired F xs ys → xs.length = ys.length
  | [], [], .nil => rfl
  | _ :: _, _ :: _, .cons _ t => congrArg (· + 1) (Paired.lenT t)
theorem Paired.five {α β : Type} {F : α → β → Prop} {xs : List α} {a b c d e : β} (h : Paired F xs [a, b, c, d, e]) : ∃ x1 x2 x3 x4 x5, xs = [x1, x2, x3, x4, x5] ∧ F x1 a ∧ F x2 b ∧ F x3 c ∧ F x4 d ∧ F x5 e := by
  cases h with | cons h1 t => cases t with | cons h2 t => cases t with | cons h3 t => cases t with | cons h4 t => cases t with | cons h5 t => cases t with | nil => exact ⟨_, _, _, _, _, rfl, h1, h2, h3, h4, h5⟩
theorem late {xs : List V} (h : xs.length = 145) : cutV xs (some (-5)) none = xs.drop 140 := by
  have e : HT.sIx 145 0 (some (-5)) = 140 := by decide +kernel
  have e2 : HT.sIx 145 145 none = 145 := by decide +kernel
  unfold cutV
  rw [h, e, e2]
  exact List.take_of_length_le (by rw [List.length_drop, h]; decide)
theorem numb_cut80 : ∀ k : Nat, k < 80 → ((numb 80).filter fun z => decide (z ≠ (k : Int) + 1)).length = 79 := by decide +kernel
theorem numb_cut20 : ((numb 20).filter fun z => decide (z ≠ 20)).length = 19 := by decide +kernel
theorem filter_len {α : Type} (l : List (Int × α)) (g : Int) : (l.filter fun a => decide (a.1 ≠ g)).length = ((l.map (·.1)).filter fun z => decide (z ≠ g)).length := by
  rw [List.filter_map, List.length_map]
  rfl
theorem map_alter (l : List Arw) (n u v : Int) : (l.map fun a => if a.1 = n then (a.1, a.2.1, a.2.2.1, u, v) else a).map (·.1) = l.map (·.1) := by
  rw [List.map_map]
  refine List.map_congr_left fun a _ => ?_
  show (if a.1 = n then ((a.1, a.2.1, a.2.2.1, u, v) : Arw) else a).1 = a.1
  split <;> rfl
theorem ends {ns : List Str} {S : BS} {n0 n1 : Str} {g : Int} (f : Fll ns 80 20 S) (h40 : ns.length = 40) (hnd : ns.Nodup) (h0 : n0 ∈ ns) (h1 : n1 ∈ ns) (h01 : n0 ≠ n1) (g0 : 1 ≤ g) (g1 : g ≤ 80) :
    ∃ S1 S2 S3 S4 S5, act S (.alter 1 2 1) = .inr (S1, .non) ∧ act S1 (.cut g) = .inr (S2, .non) ∧ act S2 (.unsay 20) = .inr (S3, .non) ∧ act S3 (.arrow n0 n1 3 1) = .inr (S4, .int 81) ∧ act S4 (.say n1 n0 1) = .inr (S5, .int 21) ∧ BsGood S5 ∧ S5.ar.length = 80 ∧ S5.ns.length = 40 := by
  have m1 : (1 : Int) ∈ S.ar.map (·.1) := by rw [f.a]; exact numb_mem.mpr ⟨by decide, by decide⟩
  have o2 : okL 2 = true := by decide
  have o3 : okL 3 = true := by decide
  have w1 : okW 1 = true := by decide
  have s1 : okS 1 = true := by decide
  have i0 : n0 ∈ S.ns := f.n ▸ h0
  have i1 : n1 ∈ S.ns := f.n ▸ h1
  obtain ⟨A1, hA1⟩ : ∃ A, A = S.ar.map fun a => if a.1 = 1 then (a.1, a.2.1, a.2.2.1, 2, 1) else a := ⟨_, rfl⟩
  have hA : A1.map (·.1) = numb 80 := by rw [hA1, map_alter, f.a]
  obtain ⟨A2, hA2⟩ : ∃ A, A = A1.filter fun a => decide (a.1 ≠ g) := ⟨_, rfl⟩
  have lA2 : A2.length = 79 := by
    rw [hA2, filter_len, hA]
    have := numb_cut80 (g - 1).toNat (by omega)
    rwa [show (((g - 1).toNat : Nat) : Int) + 1 = g by omega] at this
  have mg : g ∈ A1.map (·.1) := by rw [hA]; exact numb_mem.mpr ⟨g0, g1⟩
  have mA1 : ∀ z ∈ A1, z.2.1 ∈ ns ∧ z.2.2.1 ∈ ns := by
    intro z hz
    rw [hA1] at hz
    obtain ⟨a, ha, rfl⟩ := List.mem_map.mp hz
    have := f.ia a ha
    split <;> exact this
  have mA2 : ∀ z ∈ A2, z.2.1 ∈ ns ∧ z.2.2.1 ∈ ns := fun z hz => mA1 z (by rw [hA2] at hz; exact (List.mem_filter.mp hz).1)
  have m20 : (20 : Int) ∈ S.sy.map (·.1) := by rw [f.s]; exact numb_mem.mpr ⟨by decide, by decide⟩
  obtain ⟨Y, hY⟩ : ∃ A, A = S.sy.filter fun a => decide (a.1 ≠ 20) := ⟨_, rfl⟩
  have lY : Y.length = 19 := by rw [hY, filter_len, f.s]; exact numb_cut20
  have mY : ∀ z ∈ Y, z.2.1 ∈ ns ∧ z.2.2.1 ∈ ns := fun z hz => f.is z (by rw [hY] at hz; exact (List.mem_filter.mp hz).1)
  refine ⟨{ S with ar := A1 }, { S with ar := A2 }, { S with ar := A2, sy := Y }, { S with ar := A2 ++ [(S.ga + 1, n0, n1, 3, 1)], ga := S.ga + 1, sy := Y }, { S with ar := A2 ++ [(S.ga + 1, n0, n1, 3, 1)], ga := S.ga + 1, sy := Y ++ [(S.gs + 1, n1, n0, 1)], gs := S.gs + 1 }, ?_, ?_, ?_, ?_, ?_, ⟨?_, ?_, ?_⟩, ?_, ?_⟩
  · simp only [act, needLW]
    rw [if_neg (by simpa using m1), if_neg (by rw [o2]; decide), if_neg (by rw [w1]; decide), hA1]
  · simp only [act]
    rw [if_neg (by simpa using mg), hA2]
  · simp only [act]
    rw [if_neg (by simpa using m20), hY]
  · simp only [act, needLW]
    rw [if_neg (by simp [i0]), if_neg (by simp [i1]), if_neg (by rw [o3]; decide), if_neg (by rw [w1]; decide), if_neg (by rw [lA2]; decide)]
    rw [f.ga]; rfl
  · simp only [act]
    rw [if_neg (by simp [i1]), if_neg (by simp [i0]), if_neg (by simpa using h01.symm), if_neg (by rw [s1]; decide), if_neg (by rw [lY]; decide)]
    rw [f.gs]; rfl
  · show S.ns.Nodup
    rw [f.n]; exact hnd
  · intro z hz
    show z.2.1 ∈ S.ns ∧ z.2.2.1 ∈ S.ns
    rw [f.n]
    rcases List.mem_append.mp hz with h | h
    · exact mA2 z h
    · rw [List.mem_singleton.mp h]; exact ⟨h0, h1⟩
  · intro z hz
    show z.2.1 ∈ S.ns ∧ z.2.2.1 ∈ S.ns
    rw [f.n]
    rcases List.mem_append.mp hz with h | h
    · exact mY z h
    · rw [List.mem_singleton.mp h]; exact ⟨h1, h0⟩
  · show (A2 ++ _).length = 80
    rw [List.length_append, lA2]; rfl
  · show S.ns.length = 40
    rw [f.n]; exact h40

end W1

set_option Elab.async false
set_option linter.all false
set_option maxRecDepth 100000
set_option maxHeartbeats 1000000
namespace W1
open PySem PySem.Spec PyProof.Rows L2
def spLaw (K : PySem.W.Frag) : Sp := fun vs H Q _ => ∃ (a : Addr) (ns : List Int), vs = [.ref a] ∧ SqL K H a (ns.map V.int) ∧ ns.length ≤ 63 ∧ ∀ H', Q (.bl true) H'
theorem names40 {nms : List Str} (h : namesB nms = true) : nms.Nodup ∧ ∀ z ∈ nms, nameB z = true := by
  unfold namesB at h
  simp only [Bool.and_eq_true, decide_eq_true_eq] at h
  exact ⟨h.2.1, fun z hz => List.all_eq_true.mp h.2.2 z hz⟩
def triesD (n0 n1 : Str) : List Dd := [.box "zzz", .box n0, .box "Z", .arrow n0 n1 1 1, .arrow n0 n1 1 0, .arrow "zzz" n1 1 1, .arrow n0 n1 0 1, .say n0 n1 10, .say n0 n1 1, .say n0 n0 1, .say "zzz" n0 1]
def dueK : List Kin := [.full, .taken, .badName, .full, .badWeight, .noBox, .badLeast, .badLeast, .full, .same, .noBox]
theorem alk_flat0 {H : Hp} : ∀ {l : List V}, (∀ v ∈ l, scl v = true) → Paired (Alk H 0) l l
  | [], _ => .nil
  | v :: r, h => .cons ⟨rfl, h v List.mem_cons_self⟩ (alk_flat0 fun u m => h u (List.mem_cons_of_mem _ m))
def dueN : List Str := dueK.map Kin.name
theorem due_shaped : SeqAt.shaped (.list (dueN.map PyData.str)) = true := by decide +kernel
theorem tries_easy (n0 n1 : Str) (h0 : n0.length ≤ 6) : ∀ d ∈ triesD n0 n1, easy d := by
  intro d hd
  simp only [triesD, List.mem_cons, List.mem_nil_iff, or_false] at hd
  rcases hd with rfl | rfl | rfl | rfl | rfl | rfl | rfl | rfl | rfl | rfl | rfl
  · show (Str.length _) ≤ 1000; decide
  · show n0.length ≤ 1000; omega
  · show (Str.length _) ≤ 1000; decide
  all_goals trivial
theorem tries_all {ns : List Str} {S : BS} {n0 n1 : Str} (f : Fll ns 80 20 S) (h40 : ns.length = 40) (h0 : n0 ∈ ns) (h1 : n1 ∈ ns) (h01 : n0 ≠ n1) (hz : ∀ z ∈ ns, z ≠ "zzz") (hb : nameB n0 = true) : Paired (fun (d : Dd) k => act S d = .inl k) (triesD n0 n1) dueK := by
  have zz : ("zzz" : Str) ∉ S.ns := fun h => hz _ (f.n ▸ h) rfl
  have m0 : n0 ∈ S.ns := f.n ▸ h0
  have m1 : n1 ∈ S.ns := f.n ▸ h1
  have b1 : nameB ("zzz" : Str) = true := by decide +kernel
  have b2 : nameB ("Z" : Str) = false := by decide +kernel
  have l40 : 40 ≤ S.ns.length := by rw [f.n]; omega
  have l80 : 80 ≤ S.ar.length := by rw [f.la]; omega
  have l20 : 20 ≤ S.sy.length := by rw [f.ls]; omega
  have o1 : okL 1 = true := by decide
  have o0 : okL 0 = false := by decide
  have w1 : okW 1 = true := by decide
  have w0 : okW 0 = false := by decide
  have s1 : okS 1 = true := by decide
  have s10 : okS 10 = false := by decide
  refine .cons ?_ (.cons ?_ (.cons ?_ (.cons ?_ (.cons ?_ (.cons ?_ (.cons ?_ (.cons ?_ (.cons ?_ (.cons ?_ (.cons ?_ .nil))))))))))
  all_goals simp [act, needLW, zz, m0, m1, b1, b2, hb, l40, l80, l20, o1, o0, w1, w0, s1, s10, h01]
section
variable {P : Program} {w : World} {K : PySem.W.Frag} {mg : Str → Option Value} {base : Heap} {t : Ad} {ca : Kin → Addr} {aT aA C aS cI cM : Addr} {bd : BAd}
theorem ok_law (T : Txt K mg t) (Z : KinC K ca) (Y : KinX K ca) (ZT : KinT K ca cI cM) (TH : ThingsZ w K mg aT) (A : ActsD w K mg t aA) (KX : K.In base) (G : base.Ns mainGlobals mg) (B : BrdC K mg C aS bd) : FnOk P w K mg base CX0 9 t.f_law t.d_law ["_law_script"] (spLaw K) := by
  have G__law_pull := ok_pull (P := P) (w := w) (base := base) T
  have G__law_bag := ok_bag (P := P) (w := w) (base := base) T
  have G__law_names := ok_lnamesZ (P := P) (w := w) (base := base) T
  have G__law_crammed := ok__law_crammed (P := P) T Z TH A KX G B
  have G__law_do := ok__law_do (P := P) T Z Y ZT TH A KX G B
  have G__law_alike := ok_alike (P := P) (w := w) (base := base) T 2
  have G_b_arrow := ok_b_arrow (P := P) T Z TH A KX G B
  have G_b_say := ok_b_say (P := P) T Z TH A KX G B
  have G_b_alter := ok_b_alter (P := P) T Z TH A KX G B
  have G_b_cut := ok_b_cut (P := P) T Z TH A KX G B
  have G_b_unsay := ok_b_unsay (P := P) T Z TH A KX G B
  have G_b_deeds := ok_b_deeds (P := P) (w := w) (base := base) T B
  have G_b_web := ok_b_web (P := P) (w := w) (base := base) T B
  have G_b_len := ok_b_len (P := P) (w := w) (base := base) T B
  have G_b_init := ok_b_init (P := P) (w := w) (base := base) T B
  refine T.F_law.ok sc_law (fun vs H Q E h => ?_) (fun cdv A' outer s H vs Q E hr h => ?_)
  · obtain ⟨a, ns, rfl, _⟩ := h
    rfl
  · obtain ⟨a, ns, rfl, hS, hlen, k⟩ := h
    have nd := sc_law.nd
    have sbig := sl_big
    refine exI ((pssi_cons (PSI.mk (ps_set (i := 1) nd rfl (Or.inl rfl) (pe_call G__law_bag (hr.mono (by omega)) (by rfl) T.m__law_bag T.F__law_bag.kp T.b__law_bag .nil pass0 (pa_cons (pv 0) pa_nil))))
      (pssi_cons (PSI.mk (ps_set (i := 2) nd rfl (Or.inr rfl) (pe_make0 B.ma G_b_init (hr.mono (by omega)) (by rfl) B.m B.b_init .nil pass0)))
      (pssi_cons (PSI.mk (ps_set (i := 3) nd rfl (Or.inl rfl) (pe_callTy call_list_of (by rfl) T.b_list (by decide +kernel) (pa_cons (pe_call G__law_names (hr.mono (by omega)) (by rfl) T.m__law_names T.F__law_names.kp T.b__law_names .nil pass0 (pa_cons (pv 1) (pa_cons pe_int pa_nil))) pa_nil))))
      (pssi_cons (PSI.mk (ps_if (pt_not (pt_val (pe_call G__law_crammed (hr.mono (by omega)) (by rfl) T.m__law_crammed T.F__law_crammed.kp T.b__law_crammed .nil pass0 (pa_cons (pv 1) (pa_cons (pv 2) (pa_cons (pv 3) pa_nil)))))) (pss_one (ps_ret pe_bl)) pss_nil))
      (pssi_cons (PSI.mk (ps_set (i := 4) nd rfl (Or.inl rfl) (pe_lst (pa_cons (pe_tup (pa_cons pe_str (pa_cons pe_str pa_nil))) (pa_cons (pe_tup (pa_cons pe_str (pa_cons (pe_ix ix_list (pv 3) pe_int (fun _ _ => rfl)) pa_nil))) (pa_cons (pe_tup (pa_cons pe_str (pa_cons pe_str pa_nil))) (pa_cons (pe_tup (pa_cons pe_str (pa_cons (pe_ix ix_list (pv 3) pe_int (fun _ _ => rfl)) (pa_cons (pe_ix ix_list (pv 3) pe_int (fun _ _ => rfl)) (pa_cons pe_int (pa_cons pe_int pa_nil)))))) pa_nil)))))))
      (pssi_cons (PSI.mk (ps_set (i := 4) nd rfl (Or.inl rfl) (pe_op op_cat (pv 4) (pe_lst (pa_cons (pe_tup (pa_cons pe_str (pa_cons (pe_ix ix_list (pv 3) pe_int (fun _ _ => rfl)) (pa_cons (pe_ix ix_list (pv 3) pe_int (fun _ _ => rfl)) (pa_cons pe_int (pa_cons pe_int pa_nil)))))) (pa_cons (pe_tup (pa_cons pe_str (pa_cons pe_str (pa_cons (pe_ix ix_list (pv 3) pe_int (fun _ _ => rfl)) (pa_cons pe_int (pa_cons pe_int pa_nil)))))) pa_nil))))))
      (pssi_cons (PSI.mk (ps_set (i := 4) nd rfl (Or.inl rfl) (pe_op op_cat (pv 4) (pe_lst (pa_cons (pe_tup (pa_cons pe_str (pa_cons (pe_ix ix_list (pv 3) pe_int (fun _ _ => rfl)) (pa_cons (pe_ix ix_list (pv 3) pe_int (fun _ _ => rfl)) (pa_cons pe_int (pa_cons pe_int pa_nil)))))) (pa_cons (pe_tup (pa_cons pe_str (pa_cons (pe_ix ix_list (pv 3) pe_int (fun _ _ => rfl)) (pa_cons (pe_ix ix_list (pv 3) pe_int (fun _ _ => rfl)) (pa_cons pe_int pa_nil))))) pa_nil))))))
      (pssi_cons (PSI.mk (ps_set (i := 4) nd rfl (Or.inl rfl) (pe_op op_cat (pv 4) (pe_lst (pa_cons (pe_tup (pa_cons pe_str (pa_cons (pe_ix ix_list (pv 3) pe_int (fun _ _ => rfl)) (pa_cons (pe_ix ix_list (pv 3) pe_int (fun _ _ => rfl)) (pa_cons pe_int pa_nil))))) (pa_cons (pe_tup (pa_cons pe_str (pa_cons (pe_ix ix_list (pv 3) pe_int (fun _ _ => rfl)) (pa_cons (pe_ix ix_list (pv 3) pe_int (fun _ _ => rfl)) (pa_cons pe_int pa_nil))))) (pa_cons (pe_tup (pa_cons pe_str (pa_cons pe_str (pa_cons (pe_ix ix_list (pv 3) pe_int (fun _ _ => rfl)) (pa_cons pe_int pa_nil))))) pa_nil)))))))
      (pssi_cons (psi_lits (i := 5) nd rfl (Or.inl rfl) (by rfl) (Or.inl rfl))
      (PSsI.mk (pss_cons (ps_if (pt_cmpR (op_neD hr.units) (pe_lc (own := [("_law_deed", 6)]) (g := (gName 6)) (by rfl) nd (pi_list (pv 4)) (blkOk_by (own := [("_law_deed", 6)]) (N := ["_law_script", "_law_bag_here", "_law_board", "_law_names_here", "_law_tries", "_law_due", "_law_deed", "_law_gone", "_law_late"]) (sc := defScope s_law) (by decide +kernel)) (fun _ _ _ _ _ => (pg_name (i := 6) nd rfl (Or.inl rfl))) (fun _ _ _ _ _ => pts_nil) (fun _ _ _ _ _ => (pe_ix (show IxR _ (rIxT K) from ix_tup) (pe_call G__law_do (hr.mono (by omega)) (by rfl) T.m__law_do T.F__law_do.kp T.b__law_do .nil pass0 (pa_cons (pv 2) (pa_cons (pv 6) pa_nil))) pe_int (fun _ _ => rfl)))) (pv 5) (nomark _)) (pss_one (ps_ret pe_bl)) pss_nil)
      (pss_cons (ps_set (i := 7) nd rfl (Or.inl rfl) (pe_op op_add pe_int (pe_call G__law_pull (hr.mono (by omega)) (by rfl) T.m__law_pull T.F__law_pull.kp T.b__law_pull .nil pass0 (pa_cons (pv 1) (pa_cons pe_int pa_nil)))))
      (pss_cons (ps_expr (pe_methK (pv 2) B.cl B.at_alter G_b_alter (hr.mono (by omega)) B.bk_alter_least passNo (pa_cons pe_int pa_nil) (pk_cons pe_int pk_nil)))
      (pss_cons (ps_expr (pe_meth (pv 2) B.cl B.at_cut G_b_cut (hr.mono (by omega)) B.b_cut .nil passNo (pa_cons (pv 7) pa_nil)))
      (pss_cons (ps_expr (pe_meth (pv 2) B.cl B.at_unsay G_b_unsay (hr.mono (by omega)) B.b_unsay .nil passNo (pa_cons pe_int pa_nil)))
      (pss_cons (ps_if (PW.pt (pw_or (pt_cmpR op_ne (pe_methK (pv 2) B.cl B.at_arrow G_b_arrow (hr.mono (by omega)) B.bk_arrow_least passNo (pa_cons (pe_ix ix_list (pv 3) pe_int (fun _ _ => rfl)) (pa_cons (pe_ix ix_list (pv 3) pe_int (fun _ _ => rfl)) pa_nil)) (pk_cons pe_int pk_nil)) pe_int (nomark _)) (pw_or1 (pt_cmpR op_ne (pe_meth (pv 2) B.cl B.at_say G_b_say (hr.mono (by omega)) B.bd_say (dvs := [V.int 1]) (.cons ⟨_, rfl⟩ .nil) passNo (pa_cons (pe_ix ix_list (pv 3) pe_int (fun _ _ => rfl)) (pa_cons (pe_ix ix_list (pv 3) pe_int (fun _ _ => rfl)) pa_nil))) pe_int (nomark _))))) (pss_one (ps_ret pe_bl)) pss_nil)
      (pss_cons (ps_set (i := 8) nd rfl (Or.inl rfl) (pe_slice sl_list (pe_meth0 (pv 2) B.cl B.at_deeds G_b_deeds (hr.mono (by omega)) B.b_deeds .nil pass0) (po_some (pe_un un_neg pe_int)) po_none))
      (pss_cons (ps_set (i := 5) nd rfl (Or.inl rfl) (pe_lst (pa_cons (pe_tup (pa_cons pe_str (pa_cons pe_int (pa_cons pe_int (pa_cons pe_int pa_nil))))) (pa_cons (pe_tup (pa_cons pe_str (pa_cons (pv 7) pa_nil))) (pa_cons (pe_tup (pa_cons pe_str (pa_cons pe_int pa_nil))) pa_nil)))))
      (pss_cons (ps_set (i := 5) nd rfl (Or.inl rfl) (pe_op op_cat (pv 5) (pe_lst (pa_cons (pe_tup (pa_cons pe_str (pa_cons (pe_ix ix_list (pv 3) pe_int (fun _ _ => rfl)) (pa_cons (pe_ix ix_list (pv 3) pe_int (fun _ _ => rfl)) (pa_cons pe_int (pa_cons pe_int pa_nil)))))) (pa_cons (pe_tup (pa_cons pe_str (pa_cons (pe_ix ix_list (pv 3) pe_int (fun _ _ => rfl)) (pa_cons (pe_ix ix_list (pv 3) pe_int (fun _ _ => rfl)) (pa_cons pe_int pa_nil))))) pa_nil)))))
      (pss_one (ps_ret (pe_and (pe_call G__law_alike (hr.mono (by omega)) (by rfl) T.m__law_alike T.F__law_alike.kp T.b__law_alike .nil pass0 (pa_cons (pv 8) (pa_cons (pv 5) pa_nil))) (pe_and (pe_cmpR op_eq (pe_callB call_len_seq (by rfl) T.b_len (by decide +kernel) (pa_cons (pe_ix ix_tup (pe_meth0 (pv 2) B.cl B.at_web G_b_web (hr.mono (by omega)) B.b_web .nil pass0) pe_int (fun _ _ => rfl)) pa_nil)) pe_int (nomark _)) (pe_one (pe_cmpR op_eq (pe_callB (cr_lenO B.at_len.at_ B.at_len.fn G_b_len (hr.mono (by omega)) B.b_len pass0) (by rfl) T.b_len (by decide +kernel) (pa_cons (pv 2) pa_nil)) pe_int (nomark _))))))))))))))))))))))))))) ?_
    refine ⟨_, rfl, a, ns, rfl, hS, hlen, fun d c H1 B1 s1 nd1 => ?_⟩
    try dsimp only [gName]
    intro b dx hb hdx ndx
    refine ⟨b, dx, rfl, upd_same, fun l H2 f2 ul Bb => ⟨rfl, ?_⟩⟩
    have hb' : upd H1 dx (.own b) b = none := by rw [upd_ne ndx.symm]; exact hb
    have Bn : Bag (upd (upd H1 dx (.own b)) b (.ins C dx [])) d c := (B1.new hdx).new hb'
    have B2 : Bag H2 d c := by
      obtain ⟨i, j, z, cells, g1, g2, g3, g4⟩ := id Bn
      exact ⟨i, j, z, cells, f2 _ _ g1 (B1.ne hb).symm, f2 _ _ g2 (B1.neC hb).symm, g3, g4⟩
    have ncl : c ≠ l := by
      obtain ⟨i, j, z, cells, g1, g2, g3, g4⟩ := id Bn
      exact ul _ _ g2
    clear Bn ul f2 hb' hb hdx ndx B1 s1 nd1 H1
    refine ⟨_, rfl, d, c, 40, rfl, B2, by decide, fun p H3 nms g3 hp3 hnB ln4 n6 B3 s3 hzz => ?_⟩
    refine ⟨p, _, rfl, .inr (SqT.of g3), fun nl hnl => ?_⟩
    obtain ⟨hnd, hnb⟩ := names40 hnB
    have W3 : CW K (upd H3 nl (.lst (nms.map V.str))) C d c b l nl nms S0 [] := ⟨B3.new hnl, (Bb.sameB B2 s3).same (Same.new hnl), upd_same, ncl⟩
    generalize upd H3 nl (.lst (nms.map V.str)) = H4 at W3 ⊢
    clear g3 hp3 hnl B3 s3 Bb B2 hnB H3
    refine ⟨_, rfl, _, rfl, _, rfl, d, c, b, l, nl, nms, rfl, W3, ln4, hnd, fun x hx => ⟨hnb x hx, n6 x hx⟩, fun H5 S ds W5 f5 e5 => ?_⟩
    have hne : nms ≠ [] := by intro q; rw [q] at ln4; cases ln4
    obtain ⟨n0, en0, an0, m0⟩ := name_at (z := 0) ln4 (by decide) (by decide)
    obtain ⟨n1, en1, an1, m1⟩ := name_at (z := 1) ln4 (by decide) (by decide)
    have n01 : n0 ≠ n1 := fun q => by
      rw [q] at en0
      have := nd_ix hnd en0 en1
      exact absurd this (by decide)
    have TA := tries_all f5 ln4 m0 m1 n01 hzz (hnb n0 m0)
    refine ⟨_, rfl, iteF ?_⟩
    refine ⟨by show 2 ≤ sizeLine; decide, fun q1 hq1 => ?_⟩
    have s6 := Same.new hq1 (o := .tup [V.str "box", V.str "zzz"])
    have W6 := W5.same s6
    have g1 : upd H5 q1 (.tup [V.str "box", V.str "zzz"]) q1 = some (.tup [V.str "box", V.str "zzz"]) := upd_same
    generalize upd H5 q1 (.tup [V.str "box", V.str "zzz"]) = H6 at W6 g1  s6 ⊢
    refine ⟨_, rfl, nl, _, _, _, rfl, rfl, SqL.of W6.nam, an0, by show 2 ≤ sizeLine; decide, fun q2 hq2 => ?_⟩
    have s7 := Same.new hq2 (o := .tup [V.str "box", V.str n0])
    have W7 := W6.same s7
    have g1 := s7 _ _ g1
    have g2 : upd H6 q2 (.tup [V.str "box", V.str n0]) q2 = some (.tup [V.str "box", V.str n0]) := upd_same
    generalize upd H6 q2 (.tup [V.str "box", V.str n0]) = H7 at W7 g2 g1 s7 ⊢
    refine ⟨by show 2 ≤ sizeLine; decide, fun q3 hq3 => ?_⟩
    have s8 := Same.new hq3 (o := .tup [V.str "box", V.str "Z"])
    have W8 := W7.same s8
    have g1 := s8 _ _ g1
    have g2 := s8 _ _ g2
    have g3 : upd H7 q3 (.tup [V.str "box", V.str "Z"]) q3 = some (.tup [V.str "box", V.str "Z"]) := upd_same
    generalize upd H7 q3 (.tup [V.str "box", V.str "Z"]) = H8 at W8 g3 g1 g2 s8 ⊢
    refine ⟨_, rfl, nl, _, _, _, rfl, rfl, SqL.of W8.nam, an0, _, rfl, nl, _, _, _, rfl, rfl, SqL.of W8.nam, an1, by show 5 ≤ sizeLine; decide, fun q4 hq4 => ?_⟩
    have s9 := Same.new hq4 (o := .tup [V.str "arrow", V.str n0, V.str n1, V.int 1, V.int 1])
    have W9 := W8.same s9
    have g1 := s9 _ _ g1
    have g2 := s9 _ _ g2
    have g3 := s9 _ _ g3
    have g4 : upd H8 q4 (.tup [V.str "arrow", V.str n0, V.str n1, V.int 1, V.int 1]) q4 = some (.tup [V.str "arrow", V.str n0, V.str n1, V.int 1, V.int 1]) := upd_same
    generalize upd H8 q4 (.tup [V.str "arrow", V.str n0, V.str n1, V.int 1, V.int 1]) = H9 at W9 g4 g1 g2 g3 s9 ⊢
    refine ⟨by show 4 ≤ sizeLine; decide, fun M0 hM0 => ?_⟩
    have s10 := Same.new hM0 (o := .lst [V.ref q1, V.ref q2, V.ref q3, V.ref q4])
    have W10 := W9.same s10
    have g1 := s10 _ _ g1
    have g2 := s10 _ _ g2
    have g3 := s10 _ _ g3
    have g4 := s10 _ _ g4
    have e0 : upd H9 M0 (.lst [V.ref q1, V.ref q2, V.ref q3, V.ref q4]) M0 = some (.lst [V.ref q1, V.ref q2, V.ref q3, V.ref q4]) := upd_same
    generalize upd H9 M0 (.lst [V.ref q1, V.ref q2, V.ref q3, V.ref q4]) = H10 at W10 e0 g1 g2 g3 g4 s10 ⊢
    refine ⟨_, rfl, ?_⟩
    refine ⟨_, rfl, nl, _, _, _, rfl, rfl, SqL.of W10.nam, an0, _, rfl, nl, _, _, _, rfl, rfl, SqL.of W10.nam, an1, by show 5 ≤ sizeLine; decide, fun q5 hq5 => ?_⟩
    have s11 := Same.new hq5 (o := .tup [V.str "arrow", V.str n0, V.str n1, V.int 1, V.int 0])
    have W11 := W10.same s11
    have g1 := s11 _ _ g1
    have g2 := s11 _ _ g2
    have g3 := s11 _ _ g3
    have g4 := s11 _ _ g4
    have e0 := s11 _ _ e0
    have g5 : upd H10 q5 (.tup [V.str "arrow", V.str n0, V.str n1, V.int 1, V.int 0]) q5 = some (.tup [V.str "arrow", V.str n0, V.str n1, V.int 1, V.int 0]) := upd_same
    generalize upd H10 q5 (.tup [V.str "arrow", V.str n0, V.str n1, V.int 1, V.int 0]) = H11 at W11 g5 g1 g2 g3 g4 e0 s11 ⊢
    refine ⟨_, rfl, nl, _, _, _, rfl, rfl, SqL.of W11.nam, an1, by show 5 ≤ sizeLine; decide, fun q6 hq6 => ?_⟩
    have s12 := Same.new hq6 (o := .tup [V.str "arrow", V.str "zzz", V.str n1, V.int 1, V.int 1])
    have W12 := W11.same s12
    have g1 := s12 _ _ g1
    have g2 := s12 _ _ g2
    have g3 := s12 _ _ g3
    have g4 := s12 _ _ g4
    have e0 := s12 _ _ e0
    have g5 := s12 _ _ g5
    have g6 : upd H11 q6 (.tup [V.str "arrow", V.str "zzz", V.str n1, V.int 1, V.int 1]) q6 = some (.tup [V.str "arrow", V.str "zzz", V.str n1, V.int 1, V.int 1]) := upd_same
    generalize upd H11 q6 (.tup [V.str "arrow", V.str "zzz", V.str n1, V.int 1, V.int 1]) = H12 at W12 g6 g1 g2 g3 g4 e0 g5 s12 ⊢
    refine ⟨by show 2 ≤ sizeLine; decide, fun M1 hM1 => ?_⟩
    have s13 := Same.new hM1 (o := .lst [V.ref q5, V.ref q6])
    have W13 := W12.same s13
    have g1 := s13 _ _ g1
    have g2 := s13 _ _ g2
    have g3 := s13 _ _ g3
    have g4 := s13 _ _ g4
    have e0 := s13 _ _ e0
    have g5 := s13 _ _ g5
    have g6 := s13 _ _ g6
    have e1 : upd H12 M1 (.lst [V.ref q5, V.ref q6]) M1 = some (.lst [V.ref q5, V.ref q6]) := upd_same
    generalize upd H12 M1 (.lst [V.ref q5, V.ref q6]) = H13 at W13 e1 g1 g2 g3 g4 e0 g5 g6 s13 ⊢
    refine ⟨M0, M1, _, _, rfl, rfl, e0, e1, by show 6 ≤ sizeLine; decide, fun N1 hN1 => ?_⟩
    have s14 := Same.new hN1 (o := .lst ([V.ref q1, V.ref q2, V.ref q3, V.ref q4] ++ [V.ref q5, V.ref q6]))
    have W14 := W13.same s14
    have g1 := s14 _ _ g1
    have g2 := s14 _ _ g2
    have g3 := s14 _ _ g3
    have g4 := s14 _ _ g4
    have e0 := s14 _ _ e0
    have g5 := s14 _ _ g5
    have g6 := s14 _ _ g6
    have e1 := s14 _ _ e1
    have u1 : upd H13 N1 (.lst ([V.ref q1, V.ref q2, V.ref q3, V.ref q4] ++ [V.ref q5, V.ref q6])) N1 = some (.lst ([V.ref q1, V.ref q2, V.ref q3, V.ref q4] ++ [V.ref q5, V.ref q6])) := upd_same
    generalize upd H13 N1 (.lst ([V.ref q1, V.ref q2, V.ref q3, V.ref q4] ++ [V.ref q5, V.ref q6])) = H14 at W14 u1 g1 g2 g3 g4 e0 g5 g6 e1 s14 ⊢
    replace u1 : H14 N1 = some (.lst [V.ref q1, V.ref q2, V.ref q3, V.ref q4, V.ref q5, V.ref q6]) := u1
    refine ⟨_, rfl, ?_⟩
    refine ⟨_, rfl, nl, _, _, _, rfl, rfl, SqL.of W14.nam, an0, _, rfl, nl, _, _, _, rfl, rfl, SqL.of W14.nam, an1, by show 5 ≤ sizeLine; decide, fun q7 hq7 => ?_⟩
    have s15 := Same.new hq7 (o := .tup [V.str "arrow", V.str n0, V.str n1, V.int 0, V.int 1])
    have W15 := W14.same s15
    have g1 := s15 _ _ g1
    have g2 := s15 _ _ g2
    have g3 := s15 _ _ g3
    have g4 := s15 _ _ g4
    have g5 := s15 _ _ g5
    have g6 := s15 _ _ g6
    have u1 := s15 _ _ u1
    have g7 : upd H14 q7 (.tup [V.str "arrow", V.str n0, V.str n1, V.int 0, V.int 1]) q7 = some (.tup [V.str "arrow", V.str n0, V.str n1, V.int 0, V.int 1]) := upd_same
    generalize upd H14 q7 (.tup [V.str "arrow", V.str n0, V.str n1, V.int 0, V.int 1]) = H15 at W15 g7 g1 g2 g3 g4 g5 g6 u1 s15 ⊢
    refine ⟨_, rfl, nl, _, _, _, rfl, rfl, SqL.of W15.nam, an0, _, rfl, nl, _, _, _, rfl, rfl, SqL.of W15.nam, an1, by show 4 ≤ sizeLine; decide, fun q8 hq8 => ?_⟩
    have s16 := Same.new hq8 (o := .tup [V.str "say", V.str n0, V.str n1, V.int 10])
    have W16 := W15.same s16
    have g1 := s16 _ _ g1
    have g2 := s16 _ _ g2
    have g3 := s16 _ _ g3
    have g4 := s16 _ _ g4
    have g5 := s16 _ _ g5
    have g6 := s16 _ _ g6
    have u1 := s16 _ _ u1
    have g7 := s16 _ _ g7
    have g8 : upd H15 q8 (.tup [V.str "say", V.str n0, V.str n1, V.int 10]) q8 = some (.tup [V.str "say", V.str n0, V.str n1, V.int 10]) := upd_same
    generalize upd H15 q8 (.tup [V.str "say", V.str n0, V.str n1, V.int 10]) = H16 at W16 g8 g1 g2 g3 g4 g5 g6 u1 g7 s16 ⊢
    refine ⟨by show 2 ≤ sizeLine; decide, fun M2 hM2 => ?_⟩
    have s17 := Same.new hM2 (o := .lst [V.ref q7, V.ref q8])
    have W17 := W16.same s17
    have g1 := s17 _ _ g1
    have g2 := s17 _ _ g2
    have g3 := s17 _ _ g3
    have g4 := s17 _ _ g4
    have g5 := s17 _ _ g5
    have g6 := s17 _ _ g6
    have u1 := s17 _ _ u1
    have g7 := s17 _ _ g7
    have g8 := s17 _ _ g8
    have e2 : upd H16 M2 (.lst [V.ref q7, V.ref q8]) M2 = some (.lst [V.ref q7, V.ref q8]) := upd_same
    generalize upd H16 M2 (.lst [V.ref q7, V.ref q8]) = H17 at W17 e2 g1 g2 g3 g4 g5 g6 u1 g7 g8 s17 ⊢
    refine ⟨N1, M2, _, _, rfl, rfl, u1, e2, by show 8 ≤ sizeLine; decide, fun N2 hN2 => ?_⟩
    have s18 := Same.new hN2 (o := .lst ([V.ref q1, V.ref q2, V.ref q3, V.ref q4, V.ref q5, V.ref q6] ++ [V.ref q7, V.ref q8]))
    have W18 := W17.same s18
    have g1 := s18 _ _ g1
    have g2 := s18 _ _ g2
    have g3 := s18 _ _ g3
    have g4 := s18 _ _ g4
    have g5 := s18 _ _ g5
    have g6 := s18 _ _ g6
    have u1 := s18 _ _ u1
    have g7 := s18 _ _ g7
    have g8 := s18 _ _ g8
    have e2 := s18 _ _ e2
    have u2 : upd H17 N2 (.lst ([V.ref q1, V.ref q2, V.ref q3, V.ref q4, V.ref q5, V.ref q6] ++ [V.ref q7, V.ref q8])) N2 = some (.lst ([V.ref q1, V.ref q2, V.ref q3, V.ref q4, V.ref q5, V.ref q6] ++ [V.ref q7, V.ref q8])) := upd_same
    generalize upd H17 N2 (.lst ([V.ref q1, V.ref q2, V.ref q3, V.ref q4, V.ref q5, V.ref q6] ++ [V.ref q7, V.ref q8])) = H18 at W18 u2 g1 g2 g3 g4 g5 g6 u1 g7 g8 e2 s18 ⊢
    replace u2 : H18 N2 = some (.lst [V.ref q1, V.ref q2, V.ref q3, V.ref q4, V.ref q5, V.ref q6, V.ref q7, V.ref q8]) := u2
    refine ⟨_, rfl, ?_⟩
    refine ⟨_, rfl, nl, _, _, _, rfl, rfl, SqL.of W18.nam, an0, _, rfl, nl, _, _, _, rfl, rfl, SqL.of W18.nam, an1, by show 4 ≤ sizeLine; decide, fun q9 hq9 => ?_⟩
    have s19 := Same.new hq9 (o := .tup [V.str "say", V.str n0, V.str n1, V.int 1])
    have W19 := W18.same s19
    have g1 := s19 _ _ g1
    have g2 := s19 _ _ g2
    have g3 := s19 _ _ g3
    have g4 := s19 _ _ g4
    have g5 := s19 _ _ g5
    have g6 := s19 _ _ g6
    have g7 := s19 _ _ g7
    have g8 := s19 _ _ g8
    have u2 := s19 _ _ u2
    have g9 : upd H18 q9 (.tup [V.str "say", V.str n0, V.str n1, V.int 1]) q9 = some (.tup [V.str "say", V.str n0, V.str n1, V.int 1]) := upd_same
    generalize upd H18 q9 (.tup [V.str "say", V.str n0, V.str n1, V.int 1]) = H19 at W19 g9 g1 g2 g3 g4 g5 g6 g7 g8 u2 s19 ⊢
    refine ⟨_, rfl, nl, _, _, _, rfl, rfl, SqL.of W19.nam, an0, _, rfl, nl, _, _, _, rfl, rfl, SqL.of W19.nam, an0, by show 4 ≤ sizeLine; decide, fun q10 hq10 => ?_⟩
    have s20 := Same.new hq10 (o := .tup [V.str "say", V.str n0, V.str n0, V.int 1])
    have W20 := W19.same s20
    have g1 := s20 _ _ g1
    have g2 := s20 _ _ g2
    have g3 := s20 _ _ g3
    have g4 := s20 _ _ g4
    have g5 := s20 _ _ g5
    have g6 := s20 _ _ g6
    have g7 := s20 _ _ g7
    have g8 := s20 _ _ g8
    have u2 := s20 _ _ u2
    have g9 := s20 _ _ g9
    have g10 : upd H19 q10 (.tup [V.str "say", V.str n0, V.str n0, V.int 1]) q10 = some (.tup [V.str "say", V.str n0, V.str n0, V.int 1]) := upd_same
    generalize upd H19 q10 (.tup [V.str "say", V.str n0, V.str n0, V.int 1]) = H20 at W20 g10 g1 g2 g3 g4 g5 g6 g7 g8 u2 g9 s20 ⊢
    refine ⟨_, rfl, nl, _, _, _, rfl, rfl, SqL.of W20.nam, an0, by show 4 ≤ sizeLine; decide, fun q11 hq11 => ?_⟩
    have s21 := Same.new hq11 (o := .tup [V.str "say", V.str "zzz", V.str n0, V.int 1])
    have W21 := W20.same s21
    have g1 := s21 _ _ g1
    have g2 := s21 _ _ g2
    have g3 := s21 _ _ g3
    have g4 := s21 _ _ g4
    have g5 := s21 _ _ g5
    have g6 := s21 _ _ g6
    have g7 := s21 _ _ g7
    have g8 := s21 _ _ g8
    have u2 := s21 _ _ u2
    have g9 := s21 _ _ g9
    have g10 := s21 _ _ g10
    have g11 : upd H20 q11 (.tup [V.str "say", V.str "zzz", V.str n0, V.int 1]) q11 = some (.tup [V.str "say", V.str "zzz", V.str n0, V.int 1]) := upd_same
    generalize upd H20 q11 (.tup [V.str "say", V.str "zzz", V.str n0, V.int 1]) = H21 at W21 g11 g1 g2 g3 g4 g5 g6 g7 g8 u2 g9 g10 s21 ⊢
    refine ⟨by show 3 ≤ sizeLine; decide, fun M3 hM3 => ?_⟩
    have s22 := Same.new hM3 (o := .lst [V.ref q9, V.ref q10, V.ref q11])
    have W22 := W21.same s22
    have g1 := s22 _ _ g1
    have g2 := s22 _ _ g2
    have g3 := s22 _ _ g3
    have g4 := s22 _ _ g4
    have g5 := s22 _ _ g5
    have g6 := s22 _ _ g6
    have g7 := s22 _ _ g7
    have g8 := s22 _ _ g8
    have u2 := s22 _ _ u2
    have g9 := s22 _ _ g9
    have g10 := s22 _ _ g10
    have g11 := s22 _ _ g11
    have e3 : upd H21 M3 (.lst [V.ref q9, V.ref q10, V.ref q11]) M3 = some (.lst [V.ref q9, V.ref q10, V.ref q11]) := upd_same
    generalize upd H21 M3 (.lst [V.ref q9, V.ref q10, V.ref q11]) = H22 at W22 e3 g1 g2 g3 g4 g5 g6 g7 g8 u2 g9 g10 g11 s22 ⊢
    refine ⟨N2, M3, _, _, rfl, rfl, u2, e3, by show 11 ≤ sizeLine; decide, fun N3 hN3 => ?_⟩
    have s23 := Same.new hN3 (o := .lst ([V.ref q1, V.ref q2, V.ref q3, V.ref q4, V.ref q5, V.ref q6, V.ref q7, V.ref q8] ++ [V.ref q9, V.ref q10, V.ref q11]))
    have W23 := W22.same s23
    have g1 := s23 _ _ g1
    have g2 := s23 _ _ g2
    have g3 := s23 _ _ g3
    have g4 := s23 _ _ g4
    have g5 := s23 _ _ g5
    have g6 := s23 _ _ g6
    have g7 := s23 _ _ g7
    have g8 := s23 _ _ g8
    have u2 := s23 _ _ u2
    have g9 := s23 _ _ g9
    have g10 := s23 _ _ g10
    have g11 := s23 _ _ g11
    have e3 := s23 _ _ e3
    have u3 : upd H22 N3 (.lst ([V.ref q1, V.ref q2, V.ref q3, V.ref q4, V.ref q5, V.ref q6, V.ref q7, V.ref q8] ++ [V.ref q9, V.ref q10, V.ref q11])) N3 = some (.lst ([V.ref q1, V.ref q2, V.ref q3, V.ref q4, V.ref q5, V.ref q6, V.ref q7, V.ref q8] ++ [V.ref q9, V.ref q10, V.ref q11])) := upd_same
    generalize upd H22 N3 (.lst ([V.ref q1, V.ref q2, V.ref q3, V.ref q4, V.ref q5, V.ref q6, V.ref q7, V.ref q8] ++ [V.ref q9, V.ref q10, V.ref q11])) = H23 at W23 u3 g1 g2 g3 g4 g5 g6 g7 g8 u2 g9 g10 g11 e3 s23 ⊢
    replace u3 : H23 N3 = some (.lst [V.ref q1, V.ref q2, V.ref q3, V.ref q4, V.ref q5, V.ref q6, V.ref q7, V.ref q8, V.ref q9, V.ref q10, V.ref q11]) := u3
    have PQ : Paired (fun (q : Addr) (d : Dd) => H23 q = some (.tup d.vs)) [q1, q2, q3, q4, q5, q6, q7, q8, q9, q10, q11] (triesD n0 n1) := .cons g1 (.cons g2 (.cons g3 (.cons g4 (.cons g5 (.cons g6 (.cons g7 (.cons g8 (.cons g9 (.cons g10 (.cons g11 .nil))))))))))
    replace u3 : H23 N3 = some (.lst ([q1, q2, q3, q4, q5, q6, q7, q8, q9, q10, q11].map V.ref)) := u3
    generalize hql : [q1, q2, q3, q4, q5, q6, q7, q8, q9, q10, q11] = ql at PQ u3
    have lql : ql.length = 11 := by rw [← hql]; rfl
    clear g1 g2 g3 g4 g5 g6 g7 g8 g9 g10 g11 s23 hql
    try dsimp only [gName]
    refine seq_cut (fun σ H' => ∃ DL, σ = [some (.ref a), some (.ref d), some (.ref b), some (.ref nl), some (.ref N3), some (.ref DL), none, none, none] ∧ Same H23 H' ∧ H' DL = some (.lst (dueN.map V.str))) (fun Nx hNx => ?_) ?_
    · exact ⟨by show 11 ≤ sizeLine; decide, fun p hp => hNx _ _ ⟨p, rfl, Same.new hp, by exact upd_same⟩⟩
    rintro σ H24 ⟨DL, rfl, s24, gD⟩
    have W24 := W23.same s24
    replace u3 := s24 _ _ u3
    replace PQ : Paired (fun (q : Addr) (d : Dd) => H24 q = some (.tup d.vs)) ql (triesD n0 n1) := Paired.mapP PQ fun _ _ z => s24 _ _ z
    clear s24 W23
    refine seq_cut (fun σ H' => σ = [some (.ref a), some (.ref d), some (.ref b), some (.ref nl), some (.ref N3), some (.ref DL), none, none, none] ∧ Same H24 H') (fun Nx hNx => ?_) ?_
    · refine ⟨_, rfl, N3, rfl, ⟨_, SqL.of u3⟩, fun D hD => ?_⟩
      refine lc_list (K := K) (a := N3) (xs := ql.map V.ref) (fun i H' => Same H24 H' ∧ H' D = some (.lst ((dueN.take i).map V.str))) ⟨Same.new hD, upd_same⟩ (fun i H' _ ⟨z, _⟩ => SqL.of (z _ _ u3)) ?_ ?_
      · rintro i x H' hx ⟨s5, g5⟩
        rw [List.getElem?_map] at hx
        cases ei : ql[i]? with
        | none => rw [ei] at hx; cases hx
        | some q =>
          rw [ei] at hx
          cases hx
          obtain ⟨dd, ed, hq⟩ := paired_get PQ ei
          obtain ⟨kk, ek, hact⟩ := paired_get TA ed
          have en : dueN[i]? = some kk.name := by unfold dueN; rw [List.getElem?_map, ek]; rfl
          refine ⟨rfl, ?_⟩
          refine ⟨_, rfl, _, rfl, dd, b, l, q, S, ds, tries_easy n0 n1 (n6 n0 m0) dd (List.mem_of_getElem? ed), rfl, (W24.same s5).brd, by omega, s5 _ _ hq, ?_⟩
          rw [hact]
          intro r H6 s6 gr
          refine ⟨r, _, _, _, rfl, rfl, SqT.of gr, rfl, ?_⟩
          refine ⟨_, s6 _ _ g5, ?_, (s5.trans s6).updNew hD, ?_⟩
          · rw [List.length_map, List.length_take]; show _ < sizeLine; have : dueN.length = 11 := rfl; omega
          · rw [upd_same, take_snoc en, List.map_append]; rfl
      · rintro H5 ⟨s5, g5⟩
        rw [List.length_map, lql, List.take_of_length_le (by decide)] at g5
        refine ⟨_, rfl, _, _, .lst (SqL.of g5) (dp_strs dueN), .lst (SqL.of (s5 _ _ gD)) (dp_strs dueN), due_shaped, due_shaped, ?_⟩
        rw [eqv_same due_shaped]
        exact ⟨_, rfl, iteF (hNx _ _ ⟨rfl, s5⟩)⟩
    rintro σ H25 ⟨rfl, s25⟩
    have W25 := W24.same s25
    clear W24 s25 PQ gD u3 TA
    refine ⟨_, rfl, d, c, 80, rfl, W25.bag, by decide, by decide, fun g H26 r0 r1 B26 s26 => ?_⟩
    have W26 := W25.pull hne B26 s26
    obtain ⟨S1, S2, S3, S4, S5, a1, a2, a3, a4, a5, gS, lar, lns⟩ := ends (g := 1 + g) f5 ln4 hnd m0 m1 n01 (by omega) (by omega)
    refine ⟨_, _, rfl, rfl, ?_⟩
    obtain ⟨dx, fu, p1, p2, p3, p4, p5, qs, ff, I⟩ := id W26.brd
    refine ⟨_, rfl, b, dx, _, rfl, I.ins, rfl, .alter 1 2 1, b, l, S, ds, trivial, rfl, rfl, W26.brd, by omega, ?_⟩
    clear I
    unfold BrDo
    rw [a1]
    intro H27 o27 B27
    have W27 := W26.deed hne o27 B27
    have l27 : (ds ++ [Dd.vs (.alter 1 2 1)]).length = 141 := by rw [List.length_append, e5]; rfl
    obtain ⟨dx, fu, p1, p2, p3, p4, p5, qs, ff, I⟩ := id W27.brd
    refine ⟨_, rfl, b, dx, _, rfl, I.ins, rfl, _, rfl, .cut (1 + g), b, l, S1, _, trivial, rfl, rfl, W27.brd, by omega, ?_⟩
    clear I
    unfold BrDo
    rw [a2]
    intro H28 o28 B28
    have W28 := W27.deed hne o28 B28
    have l28 : (ds ++ [Dd.vs (.alter 1 2 1)] ++ [Dd.vs (.cut (1 + g))]).length = 142 := by rw [List.length_append, l27]; rfl
    obtain ⟨dx, fu, p1, p2, p3, p4, p5, qs, ff, I⟩ := id W28.brd
    refine ⟨_, rfl, b, dx, _, rfl, I.ins, rfl, .unsay 20, b, l, S2, _, trivial, rfl, rfl, W28.brd, by omega, ?_⟩
    clear I
    unfold BrDo
    rw [a3]
    intro H29 o29 B29
    have W29 := W28.deed hne o29 B29
    have l29 : (ds ++ [Dd.vs (.alter 1 2 1)] ++ [Dd.vs (.cut (1 + g))] ++ [Dd.vs (.unsay 20)]).length = 143 := by rw [List.length_append, l28]; rfl
    obtain ⟨dx, fu, p1, p2, p3, p4, p5, qs, ff, I⟩ := id W29.brd
    refine ⟨_, rfl, b, dx, _, rfl, I.ins, rfl, _, rfl, nl, _, _, _, rfl, rfl, SqL.of W29.nam, an0, _, rfl, nl, _, _, _, rfl, rfl, SqL.of W29.nam, an1, .arrow n0 n1 3 1, b, l, S3, _, trivial, rfl, rfl, W29.brd, by omega, ?_⟩
    clear I
    unfold BrDo
    rw [a4]
    intro H30 o30 B30
    have W30 := W29.deed hne o30 B30
    have l30 : (ds ++ [Dd.vs (.alter 1 2 1)] ++ [Dd.vs (.cut (1 + g))] ++ [Dd.vs (.unsay 20)] ++ [Dd.vs (.arrow n0 n1 3 1)]).length = 144 := by rw [List.length_append, l29]; rfl
    refine ⟨by rfl, ?_⟩
    refine ⟨_, rfl, iteF ?_⟩
    obtain ⟨dx, fu, p1, p2, p3, p4, p5, qs, ff, I⟩ := id W30.brd
    refine ⟨_, rfl, b, dx, _, rfl, I.ins, rfl, _, rfl, nl, _, _, _, rfl, rfl, SqL.of W30.nam, an1, _, rfl, nl, _, _, _, rfl, rfl, SqL.of W30.nam, an0, .say n1 n0 1, b, l, S4, _, trivial, rfl, rfl, W30.brd, by omega, ?_⟩
    clear I
    unfold BrDo
    rw [a5]
    intro H31 o31 B31
    have W31 := W30.deed hne o31 B31
    have l31 : (ds ++ [Dd.vs (.alter 1 2 1)] ++ [Dd.vs (.cut (1 + g))] ++ [Dd.vs (.unsay 20)] ++ [Dd.vs (.arrow n0 n1 3 1)] ++ [Dd.vs (.say n1 n0 1)]).length = 145 := by rw [List.length_append, l30]; rfl
    refine ⟨by rfl, ?_⟩
    refine ⟨_, rfl, iteF ?_⟩
    obtain ⟨dx, fu, p1, p2, p3, p4, p5, qs, ff, I⟩ := id W31.brd
    refine ⟨_, rfl, b, dx, _, rfl, I.ins, rfl, b, l, S5, _, rfl, W31.brd, by omega, fun D zs H32 s32 gD pr => ?_⟩
    clear I
    have hz : Paired (fun q d => H32 q = some (HO.tup d)) (zs.drop 140) [Dd.vs (.alter 1 2 1), Dd.vs (.cut (1 + g)), Dd.vs (.unsay 20), Dd.vs (.arrow n0 n1 3 1), Dd.vs (.say n1 n0 1)] := by
      have h := Paired.dropT pr 140
      rwa [List.append_assoc, List.append_assoc, List.append_assoc, List.append_assoc, List.drop_left' e5] at h
    have lz : (zs.map V.ref).length = 145 := by rw [List.length_map, Paired.lenT pr]; exact l31
    obtain ⟨z1, z2, z3, z4, z5, ez, y1, y2, y3, y4, y5⟩ := Paired.five hz
    refine ⟨_, rfl, _, rfl, D, _, rfl, SqL.of gD, fun LT hLT => ?_⟩
    have eLT : cutV (zs.map V.ref) (some (-5)) none = [V.ref z1, V.ref z2, V.ref z3, V.ref z4, V.ref z5] := by
      rw [late lz, ← List.map_drop, ez]; rfl
    rw [show cutV (zs.map V.ref) (some (-5)) none = _ from eLT]
    have W32 := W31.same s32
    have s33 := Same.new hLT (o := .lst [V.ref z1, V.ref z2, V.ref z3, V.ref z4, V.ref z5])
    have W33 := W32.same s33
    have gLT : upd H32 LT (.lst [V.ref z1, V.ref z2, V.ref z3, V.ref z4, V.ref z5]) LT = some (.lst [V.ref z1, V.ref z2, V.ref z3, V.ref z4, V.ref z5]) := upd_same
    replace y1 := s33 _ _ y1
    replace y2 := s33 _ _ y2
    replace y3 := s33 _ _ y3
    replace y4 := s33 _ _ y4
    replace y5 := s33 _ _ y5
    generalize upd H32 LT (.lst [V.ref z1, V.ref z2, V.ref z3, V.ref z4, V.ref z5]) = H33 at W33 gLT y1 y2 y3 y4 y5 s33 ⊢
    refine ⟨by show 4 ≤ sizeLine; decide, fun d1 hd1 => ?_⟩
    have s34 := Same.new hd1 (o := .tup [V.str "alter", V.int 1, V.int 2, V.int 1])
    have W34 := W33.same s34
    replace gLT := s34 _ _ gLT
    replace y1 := s34 _ _ y1
    replace y2 := s34 _ _ y2
    replace y3 := s34 _ _ y3
    replace y4 := s34 _ _ y4
    replace y5 := s34 _ _ y5
    have x1 : upd H33 d1 (.tup [V.str "alter", V.int 1, V.int 2, V.int 1]) d1 = some (.tup [V.str "alter", V.int 1, V.int 2, V.int 1]) := upd_same
    generalize upd H33 d1 (.tup [V.str "alter", V.int 1, V.int 2, V.int 1]) = H34 at W34 x1 gLT y1 y2 y3 y4 y5 s34 ⊢
    refine ⟨_, rfl, by show 2 ≤ sizeLine; decide, fun d2 hd2 => ?_⟩
    dsimp only
    have s35 := Same.new hd2 (o := .tup [V.str "cut", V.int (1 + g)])
    have W35 := W34.same s35
    replace gLT := s35 _ _ gLT
    replace y1 := s35 _ _ y1
    replace y2 := s35 _ _ y2
    replace y3 := s35 _ _ y3
    replace y4 := s35 _ _ y4
    replace y5 := s35 _ _ y5
    replace x1 := s35 _ _ x1
    have x2 : upd H34 d2 (.tup [V.str "cut", V.int (1 + g)]) d2 = some (.tup [V.str "cut", V.int (1 + g)]) := upd_same
    generalize upd H34 d2 (.tup [V.str "cut", V.int (1 + g)]) = H35 at W35 x2 gLT y1 y2 y3 y4 y5 x1 s35 ⊢
    refine ⟨by show 2 ≤ sizeLine; decide, fun d3 hd3 => ?_⟩
    have s36 := Same.new hd3 (o := .tup [V.str "unsay", V.int 20])
    have W36 := W35.same s36
    replace gLT := s36 _ _ gLT
    replace y1 := s36 _ _ y1
    replace y2 := s36 _ _ y2
    replace y3 := s36 _ _ y3
    replace y4 := s36 _ _ y4
    replace y5 := s36 _ _ y5
    replace x1 := s36 _ _ x1
    replace x2 := s36 _ _ x2
    have x3 : upd H35 d3 (.tup [V.str "unsay", V.int 20]) d3 = some (.tup [V.str "unsay", V.int 20]) := upd_same
    generalize upd H35 d3 (.tup [V.str "unsay", V.int 20]) = H36 at W36 x3 gLT y1 y2 y3 y4 y5 x1 x2 s36 ⊢
    refine ⟨by show 3 ≤ sizeLine; decide, fun U0 hU0 => ?_⟩
    have s37 := Same.new hU0 (o := .lst [V.ref d1, V.ref d2, V.ref d3])
    have W37 := W36.same s37
    replace gLT := s37 _ _ gLT
    replace y1 := s37 _ _ y1
    replace y2 := s37 _ _ y2
    replace y3 := s37 _ _ y3
    replace y4 := s37 _ _ y4
    replace y5 := s37 _ _ y5
    replace x1 := s37 _ _ x1
    replace x2 := s37 _ _ x2
    replace x3 := s37 _ _ x3
    have w0 : upd H36 U0 (.lst [V.ref d1, V.ref d2, V.ref d3]) U0 = some (.lst [V.ref d1, V.ref d2, V.ref d3]) := upd_same
    generalize upd H36 U0 (.lst [V.ref d1, V.ref d2, V.ref d3]) = H37 at W37 w0 gLT y1 y2 y3 y4 y5 x1 x2 x3 s37 ⊢
    refine ⟨_, rfl, ?_⟩
    refine ⟨_, rfl, nl, _, _, _, rfl, rfl, SqL.of W37.nam, an0, _, rfl, nl, _, _, _, rfl, rfl, SqL.of W37.nam, an1, by show 5 ≤ sizeLine; decide, fun d4 hd4 => ?_⟩
    have s38 := Same.new hd4 (o := .tup [V.str "arrow", V.str n0, V.str n1, V.int 3, V.int 1])
    have W38 := W37.same s38
    replace gLT := s38 _ _ gLT
    replace y1 := s38 _ _ y1
    replace y2 := s38 _ _ y2
    replace y3 := s38 _ _ y3
    replace y4 := s38 _ _ y4
    replace y5 := s38 _ _ y5
    replace x1 := s38 _ _ x1
    replace x2 := s38 _ _ x2
    replace x3 := s38 _ _ x3
    replace w0 := s38 _ _ w0
    have x4 : upd H37 d4 (.tup [V.str "arrow", V.str n0, V.str n1, V.int 3, V.int 1]) d4 = some (.tup [V.str "arrow", V.str n0, V.str n1, V.int 3, V.int 1]) := upd_same
    generalize upd H37 d4 (.tup [V.str "arrow", V.str n0, V.str n1, V.int 3, V.int 1]) = H38 at W38 x4 gLT y1 y2 y3 y4 y5 x1 x2 x3 w0 s38 ⊢
    refine ⟨_, rfl, nl, _, _, _, rfl, rfl, SqL.of W38.nam, an1, _, rfl, nl, _, _, _, rfl, rfl, SqL.of W38.nam, an0, by show 4 ≤ sizeLine; decide, fun d5 hd5 => ?_⟩
    have s39 := Same.new hd5 (o := .tup [V.str "say", V.str n1, V.str n0, V.int 1])
    have W39 := W38.same s39
    replace gLT := s39 _ _ gLT
    replace y1 := s39 _ _ y1
    replace y2 := s39 _ _ y2
    replace y3 := s39 _ _ y3
    replace y4 := s39 _ _ y4
    replace y5 := s39 _ _ y5
    replace x1 := s39 _ _ x1
    replace x2 := s39 _ _ x2
    replace x3 := s39 _ _ x3
    replace w0 := s39 _ _ w0
    replace x4 := s39 _ _ x4
    have x5 : upd H38 d5 (.tup [V.str "say", V.str n1, V.str n0, V.int 1]) d5 = some (.tup [V.str "say", V.str n1, V.str n0, V.int 1]) := upd_same
    generalize upd H38 d5 (.tup [V.str "say", V.str n1, V.str n0, V.int 1]) = H39 at W39 x5 gLT y1 y2 y3 y4 y5 x1 x2 x3 w0 x4 s39 ⊢
    refine ⟨by show 2 ≤ sizeLine; decide, fun U1 hU1 => ?_⟩
    have s40 := Same.new hU1 (o := .lst [V.ref d4, V.ref d5])
    have W40 := W39.same s40
    replace gLT := s40 _ _ gLT
    replace y1 := s40 _ _ y1
    replace y2 := s40 _ _ y2
    replace y3 := s40 _ _ y3
    replace y4 := s40 _ _ y4
    replace y5 := s40 _ _ y5
    replace x1 := s40 _ _ x1
    replace x2 := s40 _ _ x2
    replace x3 := s40 _ _ x3
    replace w0 := s40 _ _ w0
    replace x4 := s40 _ _ x4
    replace x5 := s40 _ _ x5
    have w1 : upd H39 U1 (.lst [V.ref d4, V.ref d5]) U1 = some (.lst [V.ref d4, V.ref d5]) := upd_same
    generalize upd H39 U1 (.lst [V.ref d4, V.ref d5]) = H40 at W40 w1 gLT y1 y2 y3 y4 y5 x1 x2 x3 w0 x4 x5 s40 ⊢
    refine ⟨U0, U1, _, _, rfl, rfl, w0, w1, by show 5 ≤ sizeLine; decide, fun U2 hU2 => ?_⟩
    have s41 := Same.new hU2 (o := .lst ([V.ref d1, V.ref d2, V.ref d3] ++ [V.ref d4, V.ref d5]))
    have W41 := W40.same s41
    replace gLT := s41 _ _ gLT
    replace y1 := s41 _ _ y1
    replace y2 := s41 _ _ y2
    replace y3 := s41 _ _ y3
    replace y4 := s41 _ _ y4
    replace y5 := s41 _ _ y5
    replace x1 := s41 _ _ x1
    replace x2 := s41 _ _ x2
    replace x3 := s41 _ _ x3
    replace w0 := s41 _ _ w0
    replace x4 := s41 _ _ x4
    replace x5 := s41 _ _ x5
    replace w1 := s41 _ _ w1
    have w2 : upd H40 U2 (.lst ([V.ref d1, V.ref d2, V.ref d3] ++ [V.ref d4, V.ref d5])) U2 = some (.lst ([V.ref d1, V.ref d2, V.ref d3] ++ [V.ref d4, V.ref d5])) := upd_same
    generalize upd H40 U2 (.lst ([V.ref d1, V.ref d2, V.ref d3] ++ [V.ref d4, V.ref d5])) = H41 at W41 w2 gLT y1 y2 y3 y4 y5 x1 x2 x3 w0 x4 x5 w1 s41 ⊢
    replace w2 : H41 U2 = some (.lst [V.ref d1, V.ref d2, V.ref d3, V.ref d4, V.ref d5]) := w2
    have al : Alk H41 2 (.ref LT) (.ref U2) := by
      refine .inr ⟨LT, U2, _, _, rfl, rfl, .inl ⟨gLT, w2⟩, ?_, by show 5 ≤ 100000; omega⟩
      have pt : ∀ {p q : Addr} {xs : List V}, H41 p = some (.tup xs) → H41 q = some (.tup xs) → (∀ v ∈ xs, scl v = true) → xs.length ≤ 100000 → Alk H41 1 (.ref p) (.ref q) := fun h1 h2 h3 h4 => .inr ⟨_, _, _, _, rfl, rfl, .inr ⟨h1, h2⟩, alk_flat0 h3, h4⟩
      refine .cons (pt y1 x1 ?_ (by show 4 ≤ 100000; omega)) (.cons (pt y2 x2 ?_ (by show 2 ≤ 100000; omega)) (.cons (pt y3 x3 ?_ (by show 2 ≤ 100000; omega)) (.cons (pt y4 x4 ?_ (by show 5 ≤ 100000; omega)) (.cons (pt y5 x5 ?_ (by show 4 ≤ 100000; omega)) .nil))))
      all_goals (intro v hv; simp only [Dd.vs, Dd.things, List.mem_cons, List.mem_nil_iff, or_false] at hv; rcases hv with rfl | rfl | rfl | rfl | rfl <;> rfl)
    refine ⟨_, rfl, _, rfl, .ref LT, .ref U2, rfl, al, fun H42 s42 => ⟨_, rfl, iteT ?_⟩⟩
    have W42 := W41.same s42
    clear al gLT y1 y2 y3 y4 y5 x1 x2 x3 x4 x5 w0 w1 w2
    obtain ⟨dx, fu, p1, p2, p3, p4, p5, qs, ff, I⟩ := id W42.brd
    refine ⟨_, rfl, b, dx, _, rfl, I.ins, rfl, b, l, S5, _, rfl, W42.brd, gS, fun q n r sa H43 s43 gq hn' hr' hsa => ?_⟩
    refine ⟨q, _, _, _, rfl, rfl, SqT.of gq, rfl, ?_⟩
    obtain ⟨ra, gra, hra⟩ := hr'
    refine ⟨r, _, rfl, .inr (SqT.of gra), ?_⟩
    have lra : (ra.map V.ref).length = 80 := by rw [List.length_map, Paired.lenT hra, List.length_map, lar]
    rw [lra]
    have W43 := W42.same s43
    refine ⟨rfl, _, rfl, iteT ?_⟩
    clear I
    obtain ⟨dx, fu, p1, p2, p3, p4, p5, qs, ff, I⟩ := id W43.brd
    refine ⟨_, rfl, b, dx, _, rfl, I.ins, b, l, S5, _, rfl, W43.brd, ?_⟩
    rw [lns]
    exact ⟨40, rfl, by decide, by decide, rfl, k _⟩
end

end W1

set_option Elab.async false
set_option linter.all false
set_option maxRecDepth 100000
set_option maxHeartbeats 1000000
namespace W1
open PySem PySem.Spec PyProof.Rows L2
def caOf (c0 c1 c2 c3 c4 c5 c6 c7 c8 c9 c10 c11 : Addr) : Kin → Addr
  | .badName => c0 | .taken => c1 | .full => c2 | .tied => c3 | .badLeast => c4 | .badWeight => c5 | .same => c6 | .badDeed => c7 | .clash => c8 | .noBox => c9 | .noArrow => c10 | .noSaying => c11
theorem kinC_mk {K : PySem.W.Frag} {c0 c1 c2 c3 c4 c5 c6 c7 c8 c9 c10 c11 : Addr}
    (h0 : PySem.W.nsIn K mainGlobals "BadName" = some (some (.ref c0))) (h1 : PySem.W.nsIn K mainGlobals "Taken" = some (some (.ref c1))) (h2 : PySem.W.nsIn K mainGlobals "Full" = some (some (.ref c2))) (h3 : PySem.W.nsIn K mainGlobals "Tied" = some (some (.ref c3))) (h4 : PySem.W.nsIn K mainGlobals "BadLeast" = some (some (.ref c4))) (h5 : PySem.W.nsIn K mainGlobals "BadWeight" = some (some (.ref c5))) (h6 : PySem.W.nsIn K mainGlobals "Same" = some (some (.ref c6))) (h7 : PySem.W.nsIn K mainGlobals "BadDeed" = some (some (.ref c7))) (h8 : PySem.W.nsIn K mainGlobals "Clash" = some (some (.ref c8))) (h9 : PySem.W.nsIn K mainGlobals "NoBox" = some (some (.ref c9))) (h10 : PySem.W.nsIn K mainGlobals "NoArrow" = some (some (.ref c10))) (h11 : PySem.W.nsIn K mainGlobals "NoSaying" = some (some (.ref c11)))
    (x0 : PySem.W.excIn K c0 [.type "ValueError", .type "Exception", .type "BaseException", .type "object"] "ValueError.__new__" = true) (x1 : PySem.W.excIn K c1 [.type "ValueError", .type "Exception", .type "BaseException", .type "object"] "ValueError.__new__" = true) (x2 : PySem.W.excIn K c2 [.type "ValueError", .type "Exception", .type "BaseException", .type "object"] "ValueError.__new__" = true) (x3 : PySem.W.excIn K c3 [.type "ValueError", .type "Exception", .type "BaseException", .type "object"] "ValueError.__new__" = true) (x4 : PySem.W.excIn K c4 [.type "ValueError", .type "Exception", .type "BaseException", .type "object"] "ValueError.__new__" = true) (x5 : PySem.W.excIn K c5 [.type "ValueError", .type "Exception", .type "BaseException", .type "object"] "ValueError.__new__" = true) (x6 : PySem.W.excIn K c6 [.type "ValueError", .type "Exception", .type "BaseException", .type "object"] "ValueError.__new__" = true) (x7 : PySem.W.excIn K c7 [.type "ValueError", .type "Exception", .type "BaseException", .type "object"] "ValueError.__new__" = true)
    (x9 : PySem.W.excIn K c9 [.type "LookupError", .type "Exception", .type "BaseException", .type "object"] "LookupError.__new__" = true) (x10 : PySem.W.excIn K c10 [.type "LookupError", .type "Exception", .type "BaseException", .type "object"] "LookupError.__new__" = true) (x11 : PySem.W.excIn K c11 [.type "LookupError", .type "Exception", .type "BaseException", .type "object"] "LookupError.__new__" = true) : KinC K (caOf c0 c1 c2 c3 c4 c5 c6 c7 c8 c9 c10 c11) :=
  ⟨fun k => match k with | .badName => h0 | .taken => h1 | .full => h2 | .tied => h3 | .badLeast => h4 | .badWeight => h5 | .same => h6 | .badDeed => h7 | .clash => h8 | .noBox => h9 | .noArrow => h10 | .noSaying => h11,
   fun k hk => match k, hk with | .badName, _ => x0 | .taken, _ => x1 | .full, _ => x2 | .tied, _ => x3 | .badLeast, _ => x4 | .badWeight, _ => x5 | .same, _ => x6 | .badDeed, _ => x7 | .clash, h => absurd rfl h | .noBox, _ => x9 | .noArrow, _ => x10 | .noSaying, _ => x11⟩
theorem kinX_mk {K : PySem.W.Frag} {ca : Kin → Addr} (e1 : ∀ k, PySem.W.hasDictIn K (ca k) = true) (e2 : ∀ k, PySem.W.findIn K (.ref (ca k)) "__getattribute__" = some (some (.builtin "BaseException.__getattribute__"))) (e3 : ∀ k, PySem.W.findIn K (.ref (ca k)) "__getattr__" = some none) (e4 : ∀ k, PySem.W.mroIn K (ca k) (.type "BaseException") = some true) (e5 : ∀ k, PySem.W.findIn K (.ref (ca k)) "__class__" = some (some (.builtin "object.__class__"))) (e6 : PySem.W.specialIn K (.builtin "object.__class__") "__get__" = some (some (.builtin "getset_descriptor.__get__"))) (e7 : PySem.W.takesIn K (.builtin "object.__class__") = some true) (e8 : ∀ k, PySem.W.mroIn K (ca k) (.type "object") = some true) (e9 : ∀ k k', PySem.W.kitOne K (.ref (ca k)) (.ref (ca k')) = some (decide (k = k'))) : KinX K ca :=
  ⟨fun k => ⟨e1 k, e2 k, e3 k, e4 k, e5 k, e6, e7, e8 k⟩, e9⟩
theorem abs_rel {x : V} {u : Value} (h : absV u = some x) : RelV x u := by
  unfold absV at h
  split at h
  all_goals first | (cases h; rfl) | (cases h; exact ⟨_, rfl⟩) | cases h
theorem vals_absA : ∀ {xs : List V} {its : List Value}, its.map absV = xs.map some → Vals xs its
  | [], [], _ => .nil
  | [], _ :: _, h => by cases h
  | _ :: _, [], h => by cases h
  | x :: xs, u :: us, h => by
    injection h with h1 h2
    exact .cons (abs_rel h1) (vals_absA h2)
theorem tpT_abs {K : PySem.W.Frag} {H : Hp} {a : Addr} {xs : List V} {od : Option Addr} {its : Array Value} {n : Nat} {sl : Array (Option Value)} (h : K.lookup a = some ⟨.type "tuple", od, .seq its n, sl⟩) (v : its.toList.map absV = xs.map some) (hl : xs.length ≤ 100) : TpT K H a xs := by
  refine .inr ⟨_, its, n, h, rfl, rfl, ?_, vals_absA v⟩
  have := congrArg List.length v
  rw [List.length_map, List.length_map, Array.length_toList] at this
  have := sl_big
  omega
theorem start_mk {K : PySem.W.Frag} {aS e0 e1 e2 g : Addr} {o0 o1 o2 o3 o4 : Option Addr} {i0 i1 i2 i3 i4 : Array Value} {n0 n1 n2 n3 n4 : Nat} {l0 l1 l2 l3 l4 : Array (Option Value)} (h0 : K.lookup aS = some ⟨.type "tuple", o0, .seq i0 n0, l0⟩) (v0 : i0.toList.map absV = [some (V.ref e0), some (V.ref e1), some (V.ref e2), some (V.ref g), some V.non])
    (h1 : K.lookup e0 = some ⟨.type "tuple", o1, .seq i1 n1, l1⟩) (v1 : i1.toList.map absV = []) (h2 : K.lookup e1 = some ⟨.type "tuple", o2, .seq i2 n2, l2⟩) (v2 : i2.toList.map absV = []) (h3 : K.lookup e2 = some ⟨.type "tuple", o3, .seq i3 n3, l3⟩) (v3 : i3.toList.map absV = []) (h4 : K.lookup g = some ⟨.type "tuple", o4, .seq i4 n4, l4⟩) (v4 : i4.toList.map absV = [some (V.int 0), some (V.int 0)]) :
    ∀ H, ∃ n a s g, StH K H aS ⟨[], [], [], 0, 0, .non⟩ n a s g := fun H =>
  ⟨e0, e1, e2, g, tpT_abs (xs := [V.ref e0, V.ref e1, V.ref e2, V.ref g, V.non]) h0 v0 (by show 5 ≤ 100; decide), tpT_abs (xs := []) h1 v1 (by decide), ⟨[], tpT_abs (xs := []) h2 v2 (by decide), .nil⟩, ⟨[], tpT_abs (xs := []) h3 v3 (by decide), .nil⟩, tpT_abs (xs := [V.int 0, V.int 0]) h4 v4 (by show 2 ≤ 100; decide)⟩

end W1

set_option Elab.async false
set_option linter.all false
set_option maxRecDepth 100000
set_option maxHeartbeats 1000000
namespace W1
open PySem PySem.Spec PyProof.Rows L2
theorem all_mk {l : PySem.W.OpenLaw} {w : World} {K : PySem.W.Frag} {h : Heap} {mg : Str → Option Value} {fa : Addr} (X : K.In h) (G : h.Ns mainGlobals mg) (hfa : mg "law" = some (.ref fa))
    {f0 : Addr} {od0 an0 : Option Addr} {sl0 : Array (Option Value)} {oc0 kV0 dc0 pm0 cd0 ct0 : Value}
    {f1 : Addr} {od1 an1 : Option Addr} {sl1 : Array (Option Value)} {oc1 kV1 dc1 pm1 cd1 ct1 : Value}
    {f2 : Addr} {od2 an2 : Option Addr} {sl2 : Array (Option Value)} {oc2 kV2 dc2 pm2 cd2 ct2 : Value}
    {f3 : Addr} {od3 an3 : Option Addr} {sl3 : Array (Option Value)} {oc3 kV3 dc3 pm3 cd3 ct3 : Value}
    {f4 : Addr} {od4 an4 : Option Addr} {sl4 : Array (Option Value)} {oc4 kV4 dc4 pm4 cd4 ct4 : Value}
    {f5 : Addr} {od5 an5 : Option Addr} {sl5 : Array (Option Value)} {oc5 kV5 dc5 pm5 cd5 ct5 : Value}
    {f6 : Addr} {od6 an6 : Option Addr} {sl6 : Array (Option Value)} {oc6 kV6 dc6 pm6 cd6 ct6 : Value}
    {f7 : Addr} {od7 an7 : Option Addr} {sl7 : Array (Option Value)} {oc7 kV7 dc7 pm7 cd7 ct7 : Value}
    {f8 : Addr} {od8 an8 : Option Addr} {sl8 : Array (Option Value)} {oc8 kV8 dc8 pm8 cd8 ct8 : Value}
    {f9 : Addr} {od9 an9 : Option Addr} {sl9 : Array (Option Value)} {oc9 kV9 dc9 pm9 cd9 ct9 : Value}
    {f10 : Addr} {od10 an10 : Option Addr} {sl10 : Array (Option Value)} {oc10 kV10 dc10 pm10 cd10 ct10 : Value}
    {f11 : Addr} {od11 an11 : Option Addr} {sl11 : Array (Option Value)} {oc11 kV11 dc11 pm11 cd11 ct11 : Value}
    {f12 : Addr} {od12 an12 : Option Addr} {sl12 : Array (Option Value)} {oc12 kV12 dc12 pm12 cd12 ct12 : Value}
    {f13 : Addr} {od13 an13 : Option Addr} {sl13 : Array (Option Value)} {oc13 kV13 dc13 pm13 cd13 ct13 : Value}
    {f14 : Addr} {od14 an14 : Option Addr} {sl14 : Array (Option Value)} {oc14 kV14 dc14 pm14 cd14 ct14 : Value}
    {f15 : Addr} {od15 an15 : Option Addr} {sl15 : Array (Option Value)} {oc15 kV15 dc15 pm15 cd15 ct15 : Value}
    {f16 : Addr} {od16 an16 : Option Addr} {sl16 : Array (Option Value)} {oc16 kV16 dc16 pm16 cd16 ct16 : Value}
    {f17 : Addr} {od17 an17 : Option Addr} {sl17 : Array (Option Value)} {oc17 kV17 dc17 pm17 cd17 ct17 : Value}
    {f18 : Addr} {od18 an18 : Option Addr} {sl18 : Array (Option Value)} {oc18 kV18 dc18 pm18 cd18 ct18 : Value}
    {f19 : Addr} {od19 an19 : Option Addr} {sl19 : Array (Option Value)} {oc19 kV19 dc19 pm19 cd19 ct19 : Value}
    {f20 : Addr} {od20 an20 : Option Addr} {sl20 : Array (Option Value)} {oc20 kV20 dc20 pm20 cd20 ct20 : Value}
    {f21 : Addr} {od21 an21 : Option Addr} {sl21 : Array (Option Value)} {oc21 kV21 dc21 pm21 cd21 ct21 : Value}
    {tk0 : Tok}
    {tk1 : Tok}
    {tk2 : Tok}
    {tk3 : Tok}
    {tk4 : Tok}
    {tk5 : Tok}
    {tk6 : Tok}
    {tk7 : Tok}
    (a0 : PySem.W.nsIn K mainGlobals "is_name" = some (some (.ref f0))) (l0 : K.lookup f0 = some ⟨oc0, od0, .func (PySem.W.fnOf "is_name" "is_name" (defArgs s_is_name) (defBody s_is_name) (defScope s_is_name) .none kV0 dc0 pm0 an0 cd0 ct0), sl0⟩) (c0 : PySem.W.codeIn K cd0 "is_name" = true) (k0 : PySem.W.keepIn K (.ref f0) = true)
    (a1 : PySem.W.nsIn K mainGlobals "web_of" = some (some (.ref f1))) (l1 : K.lookup f1 = some ⟨oc1, od1, .func (PySem.W.fnOf "web_of" "web_of" (defArgs s_web_of) (defBody s_web_of) (defScope s_web_of) .none kV1 dc1 pm1 an1 cd1 ct1), sl1⟩) (c1 : PySem.W.codeIn K cd1 "web_of" = true) (k1 : PySem.W.keepIn K (.ref f1) = true)
    (a2 : PySem.W.nsIn K mainGlobals "need_box" = some (some (.ref f2))) (l2 : K.lookup f2 = some ⟨oc2, od2, .func (PySem.W.fnOf "need_box" "need_box" (defArgs s_need_box) (defBody s_need_box) (defScope s_need_box) .none kV2 dc2 pm2 an2 cd2 ct2), sl2⟩) (c2 : PySem.W.codeIn K cd2 "need_box" = true) (k2 : PySem.W.keepIn K (.ref f2) = true)
    (a3 : PySem.W.nsIn K mainGlobals "need_arrow" = some (some (.ref f3))) (l3 : K.lookup f3 = some ⟨oc3, od3, .func (PySem.W.fnOf "need_arrow" "need_arrow" (defArgs s_need_arrow) (defBody s_need_arrow) (defScope s_need_arrow) .none kV3 dc3 pm3 an3 cd3 ct3), sl3⟩) (c3 : PySem.W.codeIn K cd3 "need_arrow" = true) (k3 : PySem.W.keepIn K (.ref f3) = true)
    (a4 : PySem.W.nsIn K mainGlobals "need_bounds" = some (some (.ref f4))) (l4 : K.lookup f4 = some ⟨oc4, od4, .func (PySem.W.fnOf "need_bounds" "need_bounds" (defArgs s_need_bounds) (defBody s_need_bounds) (defScope s_need_bounds) .none kV4 dc4 pm4 an4 cd4 ct4), sl4⟩) (c4 : PySem.W.codeIn K cd4 "need_bounds" = true) (k4 : PySem.W.keepIn K (.ref f4) = true)
    (a5 : PySem.W.nsIn K mainGlobals "need_room" = some (some (.ref f5))) (l5 : K.lookup f5 = some ⟨oc5, od5, .func (PySem.W.fnOf "need_room" "need_room" (defArgs s_need_room) (defBody s_need_room) (defScope s_need_room) .none kV5 dc5 pm5 an5 cd5 ct5), sl5⟩) (c5 : PySem.W.codeIn K cd5 "need_room" = true) (k5 : PySem.W.keepIn K (.ref f5) = true)
    (a6 : PySem.W.nsIn K mainGlobals "do_box" = some (some (.ref f6))) (l6 : K.lookup f6 = some ⟨oc6, od6, .func (PySem.W.fnOf "do_box" "do_box" (defArgs s_do_box) (defBody s_do_box) (defScope s_do_box) .none kV6 dc6 pm6 an6 cd6 ct6), sl6⟩) (c6 : PySem.W.codeIn K cd6 "do_box" = true) (k6 : PySem.W.keepIn K (.ref f6) = true)
    (a7 : PySem.W.nsIn K mainGlobals "do_arrow" = some (some (.ref f7))) (l7 : K.lookup f7 = some ⟨oc7, od7, .func (PySem.W.fnOf "do_arrow" "do_arrow" (defArgs s_do_arrow) (defBody s_do_arrow) (defScope s_do_arrow) .none kV7 dc7 pm7 an7 cd7 ct7), sl7⟩) (c7 : PySem.W.codeIn K cd7 "do_arrow" = true) (k7 : PySem.W.keepIn K (.ref f7) = true)
    (a8 : PySem.W.nsIn K mainGlobals "do_cut" = some (some (.ref f8))) (l8 : K.lookup f8 = some ⟨oc8, od8, .func (PySem.W.fnOf "do_cut" "do_cut" (defArgs s_do_cut) (defBody s_do_cut) (defScope s_do_cut) .none kV8 dc8 pm8 an8 cd8 ct8), sl8⟩) (c8 : PySem.W.codeIn K cd8 "do_cut" = true) (k8 : PySem.W.keepIn K (.ref f8) = true)
    (a9 : PySem.W.nsIn K mainGlobals "do_alter" = some (some (.ref f9))) (l9 : K.lookup f9 = some ⟨oc9, od9, .func (PySem.W.fnOf "do_alter" "do_alter" (defArgs s_do_alter) (defBody s_do_alter) (defScope s_do_alter) .none kV9 dc9 pm9 an9 cd9 ct9), sl9⟩) (c9 : PySem.W.codeIn K cd9 "do_alter" = true) (k9 : PySem.W.keepIn K (.ref f9) = true)
    (a10 : PySem.W.nsIn K mainGlobals "do_say" = some (some (.ref f10))) (l10 : K.lookup f10 = some ⟨oc10, od10, .func (PySem.W.fnOf "do_say" "do_say" (defArgs s_do_say) (defBody s_do_say) (defScope s_do_say) .none kV10 dc10 pm10 an10 cd10 ct10), sl10⟩) (c10 : PySem.W.codeIn K cd10 "do_say" = true) (k10 : PySem.W.keepIn K (.ref f10) = true)
    (a11 : PySem.W.nsIn K mainGlobals "do_unsay" = some (some (.ref f11))) (l11 : K.lookup f11 = some ⟨oc11, od11, .func (PySem.W.fnOf "do_unsay" "do_unsay" (defArgs s_do_unsay) (defBody s_do_unsay) (defScope s_do_unsay) .none kV11 dc11 pm11 an11 cd11 ct11), sl11⟩) (c11 : PySem.W.codeIn K cd11 "do_unsay" = true) (k11 : PySem.W.keepIn K (.ref f11) = true)
    (a12 : PySem.W.nsIn K mainGlobals "done" = some (some (.ref f12))) (l12 : K.lookup f12 = some ⟨oc12, od12, .func (PySem.W.fnOf "done" "done" (defArgs s_done) (defBody s_done) (defScope s_done) .none kV12 dc12 pm12 an12 cd12 ct12), sl12⟩) (c12 : PySem.W.codeIn K cd12 "done" = true) (k12 : PySem.W.keepIn K (.ref f12) = true)
    (a13 : PySem.W.nsIn K mainGlobals "_law_alike" = some (some (.ref f13))) (l13 : K.lookup f13 = some ⟨oc13, od13, .func (PySem.W.fnOf "_law_alike" "_law_alike" (defArgs s__law_alike) (defBody s__law_alike) (defScope s__law_alike) .none kV13 dc13 pm13 an13 cd13 ct13), sl13⟩) (c13 : PySem.W.codeIn K cd13 "_law_alike" = true) (k13 : PySem.W.keepIn K (.ref f13) = true)
    (a14 : PySem.W.nsIn K mainGlobals "_law_bag" = some (some (.ref f14))) (l14 : K.lookup f14 = some ⟨oc14, od14, .func (PySem.W.fnOf "_law_bag" "_law_bag" (defArgs s__law_bag) (defBody s__law_bag) (defScope s__law_bag) .none kV14 dc14 pm14 an14 cd14 ct14), sl14⟩) (c14 : PySem.W.codeIn K cd14 "_law_bag" = true) (k14 : PySem.W.keepIn K (.ref f14) = true)
    (a15 : PySem.W.nsIn K mainGlobals "_law_crammed" = some (some (.ref f15))) (l15 : K.lookup f15 = some ⟨oc15, od15, .func (PySem.W.fnOf "_law_crammed" "_law_crammed" (defArgs s__law_crammed) (defBody s__law_crammed) (defScope s__law_crammed) .none kV15 dc15 pm15 an15 cd15 ct15), sl15⟩) (c15 : PySem.W.codeIn K cd15 "_law_crammed" = true) (k15 : PySem.W.keepIn K (.ref f15) = true)
    (a16 : PySem.W.nsIn K mainGlobals "_law_do" = some (some (.ref f16))) (l16 : K.lookup f16 = some ⟨oc16, od16, .func (PySem.W.fnOf "_law_do" "_law_do" (defArgs s__law_do) (defBody s__law_do) (defScope s__law_do) .none kV16 dc16 pm16 an16 cd16 ct16), sl16⟩) (c16 : PySem.W.codeIn K cd16 "_law_do" = true) (k16 : PySem.W.keepIn K (.ref f16) = true)
    (a17 : PySem.W.nsIn K mainGlobals "_law_kin" = some (some (.ref f17))) (l17 : K.lookup f17 = some ⟨oc17, od17, .func (PySem.W.fnOf "_law_kin" "_law_kin" (defArgs s__law_kin) (defBody s__law_kin) (defScope s__law_kin) .none kV17 dc17 pm17 an17 cd17 ct17), sl17⟩) (c17 : PySem.W.codeIn K cd17 "_law_kin" = true) (k17 : PySem.W.keepIn K (.ref f17) = true)
    (a18 : PySem.W.nsIn K mainGlobals "_law_names" = some (some (.ref f18))) (l18 : K.lookup f18 = some ⟨oc18, od18, .func (PySem.W.fnOf "_law_names" "_law_names" (defArgs s__law_names) (defBody s__law_names) (defScope s__law_names) .none kV18 dc18 pm18 an18 cd18 ct18), sl18⟩) (c18 : PySem.W.codeIn K cd18 "_law_names" = true) (k18 : PySem.W.keepIn K (.ref f18) = true)
    (a19 : PySem.W.nsIn K mainGlobals "_law_pull" = some (some (.ref f19))) (l19 : K.lookup f19 = some ⟨oc19, od19, .func (PySem.W.fnOf "_law_pull" "_law_pull" (defArgs s__law_pull) (defBody s__law_pull) (defScope s__law_pull) .none kV19 dc19 pm19 an19 cd19 ct19), sl19⟩) (c19 : PySem.W.codeIn K cd19 "_law_pull" = true) (k19 : PySem.W.keepIn K (.ref f19) = true)
    (a20 : PySem.W.nsIn K mainGlobals "_law_whole" = some (some (.ref f20))) (l20 : K.lookup f20 = some ⟨oc20, od20, .func (PySem.W.fnOf "_law_whole" "_law_whole" (defArgs s__law_whole) (defBody s__law_whole) (defScope s__law_whole) .none kV20 dc20 pm20 an20 cd20 ct20), sl20⟩) (c20 : PySem.W.codeIn K cd20 "_law_whole" = true) (k20 : PySem.W.keepIn K (.ref f20) = true)
    (a21 : PySem.W.nsIn K mainGlobals "law" = some (some (.ref f21))) (l21 : K.lookup f21 = some ⟨oc21, od21, .func (PySem.W.fnOf "law" "law" (defArgs s_law) (defBody s_law) (defScope s_law) .none kV21 dc21 pm21 an21 cd21 ct21), sl21⟩) (c21 : PySem.W.codeIn K cd21 "law" = true) (k21 : PySem.W.keepIn K (.ref f21) = true)
    (z0 : PySem.W.nsIn K mainGlobals "LETTERS" = some (some (.str "abcdefghijklmnopqrstuvwxyz" tk0)))
    (z1 : PySem.W.nsIn K mainGlobals "MOST_LETTERS" = some (some (.int 6 tk1)))
    (z2 : PySem.W.nsIn K mainGlobals "MOST_BOXES" = some (some (.int 40 tk2)))
    (z3 : PySem.W.nsIn K mainGlobals "MOST_ARROWS" = some (some (.int 80 tk3)))
    (z4 : PySem.W.nsIn K mainGlobals "MOST_SAYINGS" = some (some (.int 20 tk4)))
    (z5 : PySem.W.nsIn K mainGlobals "MOST_ARROW_LEAST" = some (some (.int 3 tk5)))
    (z6 : PySem.W.nsIn K mainGlobals "MOST_WEIGHT" = some (some (.int 9 tk6)))
    (z7 : PySem.W.nsIn K mainGlobals "MOST_SAYING_LEAST" = some (some (.int 9 tk7)))
    (y0 : PySem.W.nsIn K mainGlobals "abs" = some none)
    (y1 : PySem.W.nsIn K mainGlobals "all" = some none)
    (y2 : PySem.W.nsIn K mainGlobals "bool" = some none)
    (y3 : PySem.W.nsIn K mainGlobals "enumerate" = some none)
    (y4 : PySem.W.nsIn K mainGlobals "int" = some none)
    (y5 : PySem.W.nsIn K mainGlobals "isinstance" = some none)
    (y6 : PySem.W.nsIn K mainGlobals "len" = some none)
    (y7 : PySem.W.nsIn K mainGlobals "list" = some none)
    (y8 : PySem.W.nsIn K mainGlobals "max" = some none)
    (y9 : PySem.W.nsIn K mainGlobals "range" = some none)
    (y10 : PySem.W.nsIn K mainGlobals "str" = some none)
    (y11 : PySem.W.nsIn K mainGlobals "tuple" = some none)
    {c_0 c_1 c_2 c_3 c_4 c_5 c_6 c_7 c_8 c_9 c_10 c_11 cI cM aA C aS e_0 e_1 e_2 gS : Addr} {esA : Array DictEntry} {nA : Nat} {so0 so1 so2 so3 so4 : Option Addr} {si0 si1 si2 si3 si4 : Array Value} {sn0 sn1 sn2 sn3 sn4 : Nat} {ss0 ss1 ss2 ss3 ss4 : Array (Option Value)} {mg_0 : Addr} {mo_0 ma_0 : Option Addr} {ms_0 : Array (Option Value)} {mc_0 mk_0 md_0 mp_0 me_0 mt_0 : Value} {mg_1 : Addr} {mo_1 ma_1 : Option Addr} {ms_1 : Array (Option Value)} {mc_1 mk_1 md_1 mp_1 me_1 mt_1 : Value} {mg_2 : Addr} {mo_2 ma_2 : Option Addr} {ms_2 : Array (Option Value)} {mc_2 mk_2 md_2 mp_2 me_2 mt_2 : Value} {mx_2 : Addr} {mz_2 : Obj} {mn_2 : Nat} {mu_2 : Tok} {mv_2 : Tok} {mg_3 : Addr} {mo_3 ma_3 : Option Addr} {ms_3 : Array (Option Value)} {mc_3 mk_3 md_3 mp_3 me_3 mt_3 : Value} {mg_4 : Addr} {mo_4 ma_4 : Option Addr} {ms_4 : Array (Option Value)} {mc_4 mk_4 md_4 mp_4 me_4 mt_4 : Value} {mx_4 : Addr} {mz_4 : Obj} {mn_4 : Nat} {mu_4 : Tok} {mv_4 : Tok} {mg_5 : Addr} {mo_5 ma_5 : Option Addr} {ms_5 : Array (Option Value)} {mc_5 mk_5 md_5 mp_5 me_5 mt_5 : Value} {mx_5 : Addr} {mz_5 : Obj} {mn_5 : Nat} {mu_5 : Tok} {mg_6 : Addr} {mo_6 ma_6 : Option Addr} {ms_6 : Array (Option Value)} {mc_6 mk_6 md_6 mp_6 me_6 mt_6 : Value} {mg_7 : Addr} {mo_7 ma_7 : Option Addr} {ms_7 : Array (Option Value)} {mc_7 mk_7 md_7 mp_7 me_7 mt_7 : Value} {mg_8 : Addr} {mo_8 ma_8 : Option Addr} {ms_8 : Array (Option Value)} {mc_8 mk_8 md_8 mp_8 me_8 mt_8 : Value} {mg_9 : Addr} {mo_9 ma_9 : Option Addr} {ms_9 : Array (Option Value)} {mc_9 mk_9 md_9 mp_9 me_9 mt_9 : Value} {mg_10 : Addr} {mo_10 ma_10 : Option Addr} {ms_10 : Array (Option Value)} {mc_10 mk_10 md_10 mp_10 me_10 mt_10 : Value}
    (kn0 : PySem.W.nsIn K mainGlobals "BadName" = some (some (.ref c_0)))
    (kn1 : PySem.W.nsIn K mainGlobals "Taken" = some (some (.ref c_1)))
    (kn2 : PySem.W.nsIn K mainGlobals "Full" = some (some (.ref c_2)))
    (kn3 : PySem.W.nsIn K mainGlobals "Tied" = some (some (.ref c_3)))
    (kn4 : PySem.W.nsIn K mainGlobals "BadLeast" = some (some (.ref c_4)))
    (kn5 : PySem.W.nsIn K mainGlobals "BadWeight" = some (some (.ref c_5)))
    (kn6 : PySem.W.nsIn K mainGlobals "Same" = some (some (.ref c_6)))
    (kn7 : PySem.W.nsIn K mainGlobals "BadDeed" = some (some (.ref c_7)))
    (kn8 : PySem.W.nsIn K mainGlobals "Clash" = some (some (.ref c_8)))
    (kn9 : PySem.W.nsIn K mainGlobals "NoBox" = some (some (.ref c_9)))
    (kn10 : PySem.W.nsIn K mainGlobals "NoArrow" = some (some (.ref c_10)))
    (kn11 : PySem.W.nsIn K mainGlobals "NoSaying" = some (some (.ref c_11)))
    (kx0 : PySem.W.excIn K c_0 [.type "ValueError", .type "Exception", .type "BaseException", .type "object"] "ValueError.__new__" = true)
    (kx1 : PySem.W.excIn K c_1 [.type "ValueError", .type "Exception", .type "BaseException", .type "object"] "ValueError.__new__" = true)
    (kx2 : PySem.W.excIn K c_2 [.type "ValueError", .type "Exception", .type "BaseException", .type "object"] "ValueError.__new__" = true)
    (kx3 : PySem.W.excIn K c_3 [.type "ValueError", .type "Exception", .type "BaseException", .type "object"] "ValueError.__new__" = true)
    (kx4 : PySem.W.excIn K c_4 [.type "ValueError", .type "Exception", .type "BaseException", .type "object"] "ValueError.__new__" = true)
    (kx5 : PySem.W.excIn K c_5 [.type "ValueError", .type "Exception", .type "BaseException", .type "object"] "ValueError.__new__" = true)
    (kx6 : PySem.W.excIn K c_6 [.type "ValueError", .type "Exception", .type "BaseException", .type "object"] "ValueError.__new__" = true)
    (kx7 : PySem.W.excIn K c_7 [.type "ValueError", .type "Exception", .type "BaseException", .type "object"] "ValueError.__new__" = true)
    (kx9 : PySem.W.excIn K c_9 [.type "LookupError", .type "Exception", .type "BaseException", .type "object"] "LookupError.__new__" = true)
    (kx10 : PySem.W.excIn K c_10 [.type "LookupError", .type "Exception", .type "BaseException", .type "object"] "LookupError.__new__" = true)
    (kx11 : PySem.W.excIn K c_11 [.type "LookupError", .type "Exception", .type "BaseException", .type "object"] "LookupError.__new__" = true)
    (ke1 : ∀ k, PySem.W.hasDictIn K ((caOf c_0 c_1 c_2 c_3 c_4 c_5 c_6 c_7 c_8 c_9 c_10 c_11) k) = true)
    (ke2 : ∀ k, PySem.W.findIn K (.ref ((caOf c_0 c_1 c_2 c_3 c_4 c_5 c_6 c_7 c_8 c_9 c_10 c_11) k)) "__getattribute__" = some (some (.builtin "BaseException.__getattribute__")))
    (ke3 : ∀ k, PySem.W.findIn K (.ref ((caOf c_0 c_1 c_2 c_3 c_4 c_5 c_6 c_7 c_8 c_9 c_10 c_11) k)) "__getattr__" = some none)
    (ke4 : ∀ k, PySem.W.mroIn K ((caOf c_0 c_1 c_2 c_3 c_4 c_5 c_6 c_7 c_8 c_9 c_10 c_11) k) (.type "BaseException") = some true)
    (ke5 : ∀ k, PySem.W.findIn K (.ref ((caOf c_0 c_1 c_2 c_3 c_4 c_5 c_6 c_7 c_8 c_9 c_10 c_11) k)) "__class__" = some (some (.builtin "object.__class__")))
    (ke6 : PySem.W.specialIn K (.builtin "object.__class__") "__get__" = some (some (.builtin "getset_descriptor.__get__")))
    (ke7 : PySem.W.takesIn K (.builtin "object.__class__") = some true)
    (ke8 : ∀ k, PySem.W.mroIn K ((caOf c_0 c_1 c_2 c_3 c_4 c_5 c_6 c_7 c_8 c_9 c_10 c_11) k) (.type "object") = some true)
    (ke9 : ∀ k k', PySem.W.kitOne K (.ref ((caOf c_0 c_1 c_2 c_3 c_4 c_5 c_6 c_7 c_8 c_9 c_10 c_11) k)) (.ref ((caOf c_0 c_1 c_2 c_3 c_4 c_5 c_6 c_7 c_8 c_9 c_10 c_11) k')) = some (decide (k = k')))
    (kt1 : PySem.W.nsIn K mainGlobals "InkError" = some (some (.ref cI)))
    (kt2 : PySem.W.nsIn K mainGlobals "Missing" = some (some (.ref cM)))
    (kt3 : ∀ k, PySem.W.exmAny K (.ref ((caOf c_0 c_1 c_2 c_3 c_4 c_5 c_6 c_7 c_8 c_9 c_10 c_11) k)) [.ref cI, .ref cM] = some true)
    (aa0 : PySem.W.nsIn K mainGlobals "ACTIONS" = some (some (.ref aA)))
    (aa1 : K.lookup aA = some ⟨.type "dict", none, .dict esA nA, #[]⟩)
    (aa2 : PySem.W.KeysLit w.params esA.toList)
    (aa3 : (aA == sysModules) = false)
    (ab_box : PySem.W.nsIn K aA "box" = some (some (.ref f6)))
    (ab_arrow : PySem.W.nsIn K aA "arrow" = some (some (.ref f7)))
    (ab_cut : PySem.W.nsIn K aA "cut" = some (some (.ref f8)))
    (ab_alter : PySem.W.nsIn K aA "alter" = some (some (.ref f9)))
    (ab_say : PySem.W.nsIn K aA "say" = some (some (.ref f10)))
    (ab_unsay : PySem.W.nsIn K aA "unsay" = some (some (.ref f11)))
    (bb0 : PySem.W.nsIn K mainGlobals "Board" = some (some (.ref C)))
    (bb1 : PySem.W.plainGet K C Str.empty = true)
    (bb2 : PySem.W.hasDictIn K C = true)
    (bb3 : PySem.W.plainOver K C = true)
    (bb4 : PySem.W.findIn K (.ref C) "__setattr__" = some (some (.builtin "object.__setattr__")))
    (bb5 : PySem.W.makesIn K C = true)
    (bb6 : PySem.W.keepIn K (.ref C) = true)
    (bn0 : PySem.W.findIn K (.ref C) "now" = some none)
    (bn1 : PySem.W.findIn K (.ref C) "past" = some none)
    (bn2 : PySem.W.findIn K (.ref C) "future" = some none)
    (bs0 : PySem.W.nsIn K mainGlobals "START" = some (some (.ref aS)))
    (sl0_ : K.lookup aS = some ⟨.type "tuple", so0, .seq si0 sn0, ss0⟩)
    (sv0_ : si0.toList.map absV = [some (V.ref e_0), some (V.ref e_1), some (V.ref e_2), some (V.ref gS), some V.non])
    (sl1_ : K.lookup e_0 = some ⟨.type "tuple", so1, .seq si1 sn1, ss1⟩)
    (sv1_ : si1.toList.map absV = [])
    (sl2_ : K.lookup e_1 = some ⟨.type "tuple", so2, .seq si2 sn2, ss2⟩)
    (sv2_ : si2.toList.map absV = [])
    (sl3_ : K.lookup e_2 = some ⟨.type "tuple", so3, .seq si3 sn3, ss3⟩)
    (sv3_ : si3.toList.map absV = [])
    (sl4_ : K.lookup gS = some ⟨.type "tuple", so4, .seq si4 sn4, ss4⟩)
    (sv4_ : si4.toList.map absV = [some (V.int 0), some (V.int 0)])
    (h0a : PySem.W.findIn K (.ref C) "do" = some (some (.ref mg_0)))
    (h0i : PySem.W.isFn K (.ref mg_0) = true)
    (h0l : K.lookup mg_0 = some ⟨mc_0, mo_0, .func (PySem.W.fnOf "do" "Board.do" (defArgs s_b_do) (defBody s_b_do) (defScope s_b_do) .none mk_0 md_0 mp_0 ma_0 me_0 mt_0), ms_0⟩)
    (h0c : PySem.W.codeIn K me_0 "Board.do" = true)
    (h0k : PySem.W.keepIn K (.ref mg_0) = true)
    (h1a : PySem.W.findIn K (.ref C) "box" = some (some (.ref mg_1)))
    (h1i : PySem.W.isFn K (.ref mg_1) = true)
    (h1l : K.lookup mg_1 = some ⟨mc_1, mo_1, .func (PySem.W.fnOf "box" "Board.box" (defArgs s_b_box) (defBody s_b_box) (defScope s_b_box) .none mk_1 md_1 mp_1 ma_1 me_1 mt_1), ms_1⟩)
    (h1c : PySem.W.codeIn K me_1 "Board.box" = true)
    (h1k : PySem.W.keepIn K (.ref mg_1) = true)
    (h2a : PySem.W.findIn K (.ref C) "arrow" = some (some (.ref mg_2)))
    (h2i : PySem.W.isFn K (.ref mg_2) = true)
    (h2l : K.lookup mg_2 = some ⟨mc_2, mo_2, .func (PySem.W.fnOf "arrow" "Board.arrow" (defArgs s_b_arrow) (defBody s_b_arrow) (defScope s_b_arrow) (.ref mx_2) mk_2 md_2 mp_2 ma_2 me_2 mt_2), ms_2⟩)
    (h2c : PySem.W.codeIn K me_2 "Board.arrow" = true)
    (h2k : PySem.W.keepIn K (.ref mg_2) = true)
    (h2q : K.lookup mx_2 = some mz_2)
    (h2r : mz_2.data = .seq #[.int 1 mu_2, .int 1 mv_2] mn_2)
    (h3a : PySem.W.findIn K (.ref C) "cut" = some (some (.ref mg_3)))
    (h3i : PySem.W.isFn K (.ref mg_3) = true)
    (h3l : K.lookup mg_3 = some ⟨mc_3, mo_3, .func (PySem.W.fnOf "cut" "Board.cut" (defArgs s_b_cut) (defBody s_b_cut) (defScope s_b_cut) .none mk_3 md_3 mp_3 ma_3 me_3 mt_3), ms_3⟩)
    (h3c : PySem.W.codeIn K me_3 "Board.cut" = true)
    (h3k : PySem.W.keepIn K (.ref mg_3) = true)
    (h4a : PySem.W.findIn K (.ref C) "alter" = some (some (.ref mg_4)))
    (h4i : PySem.W.isFn K (.ref mg_4) = true)
    (h4l : K.lookup mg_4 = some ⟨mc_4, mo_4, .func (PySem.W.fnOf "alter" "Board.alter" (defArgs s_b_alter) (defBody s_b_alter) (defScope s_b_alter) (.ref mx_4) mk_4 md_4 mp_4 ma_4 me_4 mt_4), ms_4⟩)
    (h4c : PySem.W.codeIn K me_4 "Board.alter" = true)
    (h4k : PySem.W.keepIn K (.ref mg_4) = true)
    (h4q : K.lookup mx_4 = some mz_4)
    (h4r : mz_4.data = .seq #[.int 1 mu_4, .int 1 mv_4] mn_4)
    (h5a : PySem.W.findIn K (.ref C) "say" = some (some (.ref mg_5)))
    (h5i : PySem.W.isFn K (.ref mg_5) = true)
    (h5l : K.lookup mg_5 = some ⟨mc_5, mo_5, .func (PySem.W.fnOf "say" "Board.say" (defArgs s_b_say) (defBody s_b_say) (defScope s_b_say) (.ref mx_5) mk_5 md_5 mp_5 ma_5 me_5 mt_5), ms_5⟩)
    (h5c : PySem.W.codeIn K me_5 "Board.say" = true)
    (h5k : PySem.W.keepIn K (.ref mg_5) = true)
    (h5q : K.lookup mx_5 = some mz_5)
    (h5r : mz_5.data = .seq #[.int 1 mu_5] mn_5)
    (h6a : PySem.W.findIn K (.ref C) "unsay" = some (some (.ref mg_6)))
    (h6i : PySem.W.isFn K (.ref mg_6) = true)
    (h6l : K.lookup mg_6 = some ⟨mc_6, mo_6, .func (PySem.W.fnOf "unsay" "Board.unsay" (defArgs s_b_unsay) (defBody s_b_unsay) (defScope s_b_unsay) .none mk_6 md_6 mp_6 ma_6 me_6 mt_6), ms_6⟩)
    (h6c : PySem.W.codeIn K me_6 "Board.unsay" = true)
    (h6k : PySem.W.keepIn K (.ref mg_6) = true)
    (h7a : PySem.W.findIn K (.ref C) "deeds" = some (some (.ref mg_7)))
    (h7i : PySem.W.isFn K (.ref mg_7) = true)
    (h7l : K.lookup mg_7 = some ⟨mc_7, mo_7, .func (PySem.W.fnOf "deeds" "Board.deeds" (defArgs s_b_deeds) (defBody s_b_deeds) (defScope s_b_deeds) .none mk_7 md_7 mp_7 ma_7 me_7 mt_7), ms_7⟩)
    (h7c : PySem.W.codeIn K me_7 "Board.deeds" = true)
    (h7k : PySem.W.keepIn K (.ref mg_7) = true)
    (h8a : PySem.W.findIn K (.ref C) "web" = some (some (.ref mg_8)))
    (h8i : PySem.W.isFn K (.ref mg_8) = true)
    (h8l : K.lookup mg_8 = some ⟨mc_8, mo_8, .func (PySem.W.fnOf "web" "Board.web" (defArgs s_b_web) (defBody s_b_web) (defScope s_b_web) .none mk_8 md_8 mp_8 ma_8 me_8 mt_8), ms_8⟩)
    (h8c : PySem.W.codeIn K me_8 "Board.web" = true)
    (h8k : PySem.W.keepIn K (.ref mg_8) = true)
    (h9a : PySem.W.findIn K (.ref C) "__len__" = some (some (.ref mg_9)))
    (h9i : PySem.W.isFn K (.ref mg_9) = true)
    (h9l : K.lookup mg_9 = some ⟨mc_9, mo_9, .func (PySem.W.fnOf "__len__" "Board.__len__" (defArgs s_b_len) (defBody s_b_len) (defScope s_b_len) .none mk_9 md_9 mp_9 ma_9 me_9 mt_9), ms_9⟩)
    (h9c : PySem.W.codeIn K me_9 "Board.__len__" = true)
    (h9k : PySem.W.keepIn K (.ref mg_9) = true)
    (h10a : PySem.W.findIn K (.ref C) "__init__" = some (some (.ref mg_10)))
    (h10i : PySem.W.isFn K (.ref mg_10) = true)
    (h10l : K.lookup mg_10 = some ⟨mc_10, mo_10, .func (PySem.W.fnOf "__init__" "Board.__init__" (defArgs s_b_init) (defBody s_b_init) (defScope s_b_init) .none mk_10 md_10 mp_10 ma_10 me_10 mt_10), ms_10⟩)
    (h10c : PySem.W.codeIn K me_10 "Board.__init__" = true)
    (h10k : PySem.W.keepIn K (.ref mg_10) = true)
    {aT : Addr} {esT : Array DictEntry} {nT : Nat} (x23 : PySem.W.nsIn K mainGlobals "THINGS" = some (some (.ref aT))) (x24 : K.lookup aT = some ⟨.type "dict", none, .dict esT nT, #[]⟩) (x25 : PySem.W.KeysLit w.params esT.toList) (x26 : (aT == sysModules) = false) (x27 : esT.toList.map keyS = (formsL.map (·.1)).map some)
    {bT0 : Addr} {odT0 : Option Addr} {itT0 : Array Value} {ntT0 : Nat} {slT0 : Array (Option Value)} (u0 : PySem.W.nsIn K aT "box" = some (some (.ref bT0))) (v0 : K.lookup bT0 = some ⟨.type "tuple", odT0, .seq itT0 ntT0, slT0⟩) (w0 : itT0.toList.map absV = (kindT [true]).map (fun x => some (V.str x)))
    {bT1 : Addr} {odT1 : Option Addr} {itT1 : Array Value} {ntT1 : Nat} {slT1 : Array (Option Value)} (u1 : PySem.W.nsIn K aT "drop" = some (some (.ref bT1))) (v1 : K.lookup bT1 = some ⟨.type "tuple", odT1, .seq itT1 ntT1, slT1⟩) (w1 : itT1.toList.map absV = (kindT [true]).map (fun x => some (V.str x)))
    {bT2 : Addr} {odT2 : Option Addr} {itT2 : Array Value} {ntT2 : Nat} {slT2 : Array (Option Value)} (u2 : PySem.W.nsIn K aT "arrow" = some (some (.ref bT2))) (v2 : K.lookup bT2 = some ⟨.type "tuple", odT2, .seq itT2 ntT2, slT2⟩) (w2 : itT2.toList.map absV = (kindT [true, true, false, false]).map (fun x => some (V.str x)))
    {bT3 : Addr} {odT3 : Option Addr} {itT3 : Array Value} {ntT3 : Nat} {slT3 : Array (Option Value)} (u3 : PySem.W.nsIn K aT "cut" = some (some (.ref bT3))) (v3 : K.lookup bT3 = some ⟨.type "tuple", odT3, .seq itT3 ntT3, slT3⟩) (w3 : itT3.toList.map absV = (kindT [false]).map (fun x => some (V.str x)))
    {bT4 : Addr} {odT4 : Option Addr} {itT4 : Array Value} {ntT4 : Nat} {slT4 : Array (Option Value)} (u4 : PySem.W.nsIn K aT "alter" = some (some (.ref bT4))) (v4 : K.lookup bT4 = some ⟨.type "tuple", odT4, .seq itT4 ntT4, slT4⟩) (w4 : itT4.toList.map absV = (kindT [false, false, false]).map (fun x => some (V.str x)))
    {bT5 : Addr} {odT5 : Option Addr} {itT5 : Array Value} {ntT5 : Nat} {slT5 : Array (Option Value)} (u5 : PySem.W.nsIn K aT "say" = some (some (.ref bT5))) (v5 : K.lookup bT5 = some ⟨.type "tuple", odT5, .seq itT5 ntT5, slT5⟩) (w5 : itT5.toList.map absV = (kindT [true, true, false]).map (fun x => some (V.str x)))
    {bT6 : Addr} {odT6 : Option Addr} {itT6 : Array Value} {ntT6 : Nat} {slT6 : Array (Option Value)} (u6 : PySem.W.nsIn K aT "unsay" = some (some (.ref bT6))) (v6 : K.lookup bT6 = some ⟨.type "tuple", odT6, .seq itT6 ntT6, slT6⟩) (w6 : itT6.toList.map absV = (kindT [false]).map (fun x => some (V.str x)))
    {bT7 : Addr} {odT7 : Option Addr} {itT7 : Array Value} {ntT7 : Nat} {slT7 : Array (Option Value)} (u7 : PySem.W.nsIn K aT "hold" = some (some (.ref bT7))) (v7 : K.lookup bT7 = some ⟨.type "tuple", odT7, .seq itT7 ntT7, slT7⟩) (w7 : itT7.toList.map absV = (kindT []).map (fun x => some (V.str x)))
    {bT8 : Addr} {odT8 : Option Addr} {itT8 : Array Value} {ntT8 : Nat} {slT8 : Array (Option Value)} (u8 : PySem.W.nsIn K aT "free" = some (some (.ref bT8))) (v8 : K.lookup bT8 = some ⟨.type "tuple", odT8, .seq itT8 ntT8, slT8⟩) (w8 : itT8.toList.map absV = (kindT []).map (fun x => some (V.str x)))
    : ∃ fd : FuncData, (∀ (s : Shared) (v : Value), BindsTo s fd ⟨[v], []⟩ [("_law_script", v)]) ∧ ∀ base : Heap, K.In base → base.Ns mainGlobals mg → FnOk l.prog w K mg base CX0 9 fa fd ["_law_script"] (spLaw K) := by
  have e := hfa.symm.trans (PySem.W.mg_of X G a21)
  cases e
  have F0 := fun_mk (st := s_is_name) l0 c0 k0
  have b0 := F0.binds (ps := ["name"]) fun _ _ _ _ _ _ us hl => match us, hl with | [_], _ => rfl
  have F1 := fun_mk (st := s_web_of) l1 c1 k1
  have b1 := F1.binds (ps := ["state"]) fun _ _ _ _ _ _ us hl => match us, hl with | [_], _ => rfl
  have F2 := fun_mk (st := s_need_box) l2 c2 k2
  have b2 := F2.binds (ps := ["names", "name"]) fun _ _ _ _ _ _ us hl => match us, hl with | [_, _], _ => rfl
  have F3 := fun_mk (st := s_need_arrow) l3 c3 k3
  have b3 := F3.binds (ps := ["arrows", "number"]) fun _ _ _ _ _ _ us hl => match us, hl with | [_, _], _ => rfl
  have F4 := fun_mk (st := s_need_bounds) l4 c4 k4
  have b4 := F4.binds (ps := ["least", "weight"]) fun _ _ _ _ _ _ us hl => match us, hl with | [_, _], _ => rfl
  have F5 := fun_mk (st := s_need_room) l5 c5 k5
  have b5 := F5.binds (ps := ["some", "most"]) fun _ _ _ _ _ _ us hl => match us, hl with | [_, _], _ => rfl
  have F6 := fun_mk (st := s_do_box) l6 c6 k6
  have b6 := F6.binds (ps := ["state", "name"]) fun _ _ _ _ _ _ us hl => match us, hl with | [_, _], _ => rfl
  have F7 := fun_mk (st := s_do_arrow) l7 c7 k7
  have b7 := F7.binds (ps := ["state", "one", "other", "least", "weight"]) fun _ _ _ _ _ _ us hl => match us, hl with | [_, _, _, _, _], _ => rfl
  have F8 := fun_mk (st := s_do_cut) l8 c8 k8
  have b8 := F8.binds (ps := ["state", "number"]) fun _ _ _ _ _ _ us hl => match us, hl with | [_, _], _ => rfl
  have F9 := fun_mk (st := s_do_alter) l9 c9 k9
  have b9 := F9.binds (ps := ["state", "number", "least", "weight"]) fun _ _ _ _ _ _ us hl => match us, hl with | [_, _, _, _], _ => rfl
  have F10 := fun_mk (st := s_do_say) l10 c10 k10
  have b10 := F10.binds (ps := ["state", "one", "other", "least"]) fun _ _ _ _ _ _ us hl => match us, hl with | [_, _, _, _], _ => rfl
  have F11 := fun_mk (st := s_do_unsay) l11 c11 k11
  have b11 := F11.binds (ps := ["state", "number"]) fun _ _ _ _ _ _ us hl => match us, hl with | [_, _], _ => rfl
  have F12 := fun_mk (st := s_done) l12 c12 k12
  have b12 := F12.binds (ps := ["state", "deed"]) fun _ _ _ _ _ _ us hl => match us, hl with | [_, _], _ => rfl
  have F13 := fun_mk (st := s__law_alike) l13 c13 k13
  have b13 := F13.binds (ps := ["_law_found", "_law_due"]) fun _ _ _ _ _ _ us hl => match us, hl with | [_, _], _ => rfl
  have F14 := fun_mk (st := s__law_bag) l14 c14 k14
  have b14 := F14.binds (ps := ["_law_script"]) fun _ _ _ _ _ _ us hl => match us, hl with | [_], _ => rfl
  have F15 := fun_mk (st := s__law_crammed) l15 c15 k15
  have b15 := F15.binds (ps := ["_law_bag_here", "_law_board", "_law_names_here"]) fun _ _ _ _ _ _ us hl => match us, hl with | [_, _, _], _ => rfl
  have F16 := fun_mk (st := s__law_do) l16 c16 k16
  have b16 := F16.binds (ps := ["_law_board", "_law_deed"]) fun _ _ _ _ _ _ us hl => match us, hl with | [_, _], _ => rfl
  have F17 := fun_mk (st := s__law_kin) l17 c17 k17
  have b17 := F17.binds (ps := ["_law_e"]) fun _ _ _ _ _ _ us hl => match us, hl with | [_], _ => rfl
  have F18 := fun_mk (st := s__law_names) l18 c18 k18
  have b18 := F18.binds (ps := ["_law_bag_here", "_law_many"]) fun _ _ _ _ _ _ us hl => match us, hl with | [_, _], _ => rfl
  have F19 := fun_mk (st := s__law_pull) l19 c19 k19
  have b19 := F19.binds (ps := ["_law_bag_here", "_law_many"]) fun _ _ _ _ _ _ us hl => match us, hl with | [_, _], _ => rfl
  have F20 := fun_mk (st := s__law_whole) l20 c20 k20
  have b20 := F20.binds (ps := ["_law_found"]) fun _ _ _ _ _ _ us hl => match us, hl with | [_], _ => rfl
  have F21 := fun_mk (st := s_law) l21 c21 k21
  have b21 := F21.binds (ps := ["_law_script"]) fun _ _ _ _ _ _ us hl => match us, hl with | [_], _ => rfl
  have T : Txt K mg ⟨_, _, _, _, _, _, _, _, _, _, _, _, _, _, _, _, _, _, _, _, _, _, _, _, _, _, _, _, _, _, _, _, _, _, _, _, _, _, _, _, _, _, _, _⟩ := ⟨F0, b0, PySem.W.mg_of X G a0, F1, b1, PySem.W.mg_of X G a1, F2, b2, PySem.W.mg_of X G a2, F3, b3, PySem.W.mg_of X G a3, F4, b4, PySem.W.mg_of X G a4, F5, b5, PySem.W.mg_of X G a5, F6, b6, PySem.W.mg_of X G a6, F7, b7, PySem.W.mg_of X G a7, F8, b8, PySem.W.mg_of X G a8, F9, b9, PySem.W.mg_of X G a9, F10, b10, PySem.W.mg_of X G a10, F11, b11, PySem.W.mg_of X G a11, F12, b12, PySem.W.mg_of X G a12, F13, b13, PySem.W.mg_of X G a13, F14, b14, PySem.W.mg_of X G a14, F15, b15, PySem.W.mg_of X G a15, F16, b16, PySem.W.mg_of X G a16, F17, b17, PySem.W.mg_of X G a17, F18, b18, PySem.W.mg_of X G a18, F19, b19, PySem.W.mg_of X G a19, F20, b20, PySem.W.mg_of X G a20, F21, b21, PySem.W.mg_of X G a21, ⟨_, PySem.W.mg_of X G z0⟩, ⟨_, PySem.W.mg_of X G z1⟩, ⟨_, PySem.W.mg_of X G z2⟩, ⟨_, PySem.W.mg_of X G z3⟩, ⟨_, PySem.W.mg_of X G z4⟩, ⟨_, PySem.W.mg_of X G z5⟩, ⟨_, PySem.W.mg_of X G z6⟩, ⟨_, PySem.W.mg_of X G z7⟩, PySem.W.mg_none_of X G y0, PySem.W.mg_none_of X G y1, PySem.W.mg_none_of X G y2, PySem.W.mg_none_of X G y3, PySem.W.mg_none_of X G y4, PySem.W.mg_none_of X G y5, PySem.W.mg_none_of X G y6, PySem.W.mg_none_of X G y7, PySem.W.mg_none_of X G y8, PySem.W.mg_none_of X G y9, PySem.W.mg_none_of X G y10, PySem.W.mg_none_of X G y11⟩
  exact ⟨PySem.W.fnOf "law" "law" (defArgs s_law) (defBody s_law) (defScope s_law) .none kV21 dc21 pm21 an21 cd21 ct21, fun s v => .of_eq rfl, fun base kb nb => ok_law T (kinC_mk kn0 kn1 kn2 kn3 kn4 kn5 kn6 kn7 kn8 kn9 kn10 kn11 kx0 kx1 kx2 kx3 kx4 kx5 kx6 kx7 kx9 kx10 kx11) (kinX_mk ke1 ke2 ke3 ke4 ke5 ke6 ke7 ke8 ke9) ⟨kt1, kt2, kt3⟩ (things_mk (PySem.W.mg_of X G x23) x24 x25 x26 x27 (nine_kinds (.mk3 u0 v0 w0) (.mk3 u1 v1 w1) (.mk3 u2 v2 w2) (.mk3 u3 v3 w3) (.mk3 u4 v4 w4) (.mk3 u5 v5 w5) (.mk3 u6 v6 w6) (.mk3 u7 v7 w7) (.mk3 u8 v8 w8))) ⟨⟨PySem.W.mg_of X G aa0, ⟨_, _, aa1, aa2, aa3⟩⟩, ab_box, ab_arrow, ab_cut, ab_alter, ab_say, ab_unsay⟩ kb nb (⟨⟨bb1, bb2, bb3, bb4⟩, ⟨bb5, h10a, h10i, bb6⟩, bn0, bn1, bn2, PySem.W.mg_of X G bb0, PySem.W.mg_of X G bs0, start_mk sl0_ sv0_ sl1_ sv1_ sl2_ sv2_ sl3_ sv3_ sl4_ sv4_, ⟨h0a, h0i, h0k⟩, fun_mk (st := s_b_do) h0l h0c h0k, (fun_mk (st := s_b_do) h0l h0c h0k).binds (ps := ["self", "deed"]) fun _ _ _ _ _ _ us hl => match us, hl with | [_, _], _ => rfl, ⟨h1a, h1i, h1k⟩, fun_mk (st := s_b_box) h1l h1c h1k, (fun_mk (st := s_b_box) h1l h1c h1k).binds (ps := ["self", "name"]) fun _ _ _ _ _ _ us hl => match us, hl with | [_, _], _ => rfl, ⟨h2a, h2i, h2k⟩, funD_mk (st := s_b_arrow) h2l h2c h2k h2q h2r, ⟨h3a, h3i, h3k⟩, fun_mk (st := s_b_cut) h3l h3c h3k, (fun_mk (st := s_b_cut) h3l h3c h3k).binds (ps := ["self", "number"]) fun _ _ _ _ _ _ us hl => match us, hl with | [_, _], _ => rfl, ⟨h4a, h4i, h4k⟩, funD_mk (st := s_b_alter) h4l h4c h4k h4q h4r, ⟨h5a, h5i, h5k⟩, funD_mk (st := s_b_say) h5l h5c h5k h5q h5r, ⟨h6a, h6i, h6k⟩, fun_mk (st := s_b_unsay) h6l h6c h6k, (fun_mk (st := s_b_unsay) h6l h6c h6k).binds (ps := ["self", "number"]) fun _ _ _ _ _ _ us hl => match us, hl with | [_, _], _ => rfl, ⟨h7a, h7i, h7k⟩, fun_mk (st := s_b_deeds) h7l h7c h7k, (fun_mk (st := s_b_deeds) h7l h7c h7k).binds (ps := ["self"]) fun _ _ _ _ _ _ us hl => match us, hl with | [_], _ => rfl, ⟨h8a, h8i, h8k⟩, fun_mk (st := s_b_web) h8l h8c h8k, (fun_mk (st := s_b_web) h8l h8c h8k).binds (ps := ["self"]) fun _ _ _ _ _ _ us hl => match us, hl with | [_], _ => rfl, ⟨h9a, h9i, h9k⟩, fun_mk (st := s_b_len) h9l h9c h9k, (fun_mk (st := s_b_len) h9l h9c h9k).binds (ps := ["self"]) fun _ _ _ _ _ _ us hl => match us, hl with | [_], _ => rfl, fun_mk (st := s_b_init) h10l h10c h10k, (fun_mk (st := s_b_init) h10l h10c h10k).binds (ps := ["self"]) fun _ _ _ _ _ _ us hl => match us, hl with | [_], _ => rfl⟩ : BrdC K mg C aS ⟨_, _, _, _, _, _, _, _, _, _, _, _, _, _, _, _, _, _, _, _, _, _, _, _, _, _, _⟩)⟩
theorem walk {l : PySem.W.OpenLaw} {q : Program} {loose : List Str} {XP : (Str → Option Value) → Heap → Prop} {YP : World → Heap → Prop} {d : DefRec} {K : Params → PySem.W.Frag} (hn : l.most = some 63) (hdf : d.params.defaults = [])
    (hY : ∀ (w : World) (h : Heap), YP w h → (K w.params).In h)
    (F : ∀ (w : World) (mg : Str → Option Value) (fa : Addr) (h : Heap), (K w.params).In h → h.Ns mainGlobals mg → mg d.name = some (.ref fa) →
      ∃ fd : FuncData, (∀ (s : Shared) (u : Value), BindsTo s fd ⟨[u], []⟩ [("_law_script", u)]) ∧ ∀ base : Heap, (K w.params).In base → base.Ns mainGlobals mg → FnOk l.prog w (K w.params) mg base CX0 9 fa fd ["_law_script"] (spLaw (K w.params))) :
    PySem.W.WalkO q loose XP YP l.row.toRowW d [] (fun f vs => PySem.call f vs) :=
  L2.walk_of (n := 63) (k := 9) (x := "_law_script") (CX := fun _ => CX0) (sp := fun w => spLaw (K w.params)) hn (by decide) hdf ⟨rfl, by decide, by decide, rfl⟩ hY F (fun _ _ a ns hl _ hS => ⟨a, ns, rfl, hS, hl, fun _ => rfl⟩) fun _ _ _ _ _ z => z
end W1
def PySem.W.Fast.tw1934221110750350464 : Unit := ()
def PySem.W.Fast.tw10355459664415538849 : Unit := ()
def PySem.W.Fast.tw12645432475599750755 : Unit := ()
def PySem.W.Fast.tw3391468537549572003 : Unit := ()
def PySem.W.Fast.tw13942658472604885221 : Unit := ()
def PySem.W.Fast.tw4706149493746534278 : Unit := ()
def PySem.W.Fast.tw543928886246589001 : Unit := ()
def PySem.W.Fast.tw4232936330360673578 : Unit := ()
def PySem.W.Fast.tw2646312285925105995 : Unit := ()
def PySem.W.Fast.tw5614308104412858987 : Unit := ()
def PySem.W.Fast.tw537532135308999213 : Unit := ()
def PySem.W.Fast.tw4640356083957124973 : Unit := ()
def PySem.W.Fast.tw15593944716197445646 : Unit := ()
def PySem.W.Fast.tw17471684527591817327 : Unit := ()
def PySem.W.Fast.tw13490937440308966671 : Unit := ()
def PySem.W.Fast.tw3858373770168336305 : Unit := ()
def PySem.W.Fast.tw5126172494707787762 : Unit := ()
def PySem.W.Fast.tw13610686891130733876 : Unit := ()
def PySem.W.Fast.tw17351762233717016661 : Unit := ()
def PySem.W.Fast.tw13687441726969930390 : Unit := ()
def PySem.W.Fast.tw17823537926013019126 : Unit := ()
def PySem.W.Fast.tw2212847279190540152 : Unit := ()
def PySem.W.Fast.tw4565793233195952157 : Unit := ()
open PySem PySem.W PyProof.Rows
set_option maxRecDepth 100000 in
set_option maxHeartbeats 0 in
theorem PySem.Challenge.cw_layerink_k30_boards_filled_holds : PySem.Challenge.rw_layerink_k30_boards_filled.Holds := by
  w_on; o_law; k_head; (case hw => w_witness2)
  k_fill
  refine W1.walk (l := PySem.Challenge.rw_layerink_k30_boards_filled) rfl rfl (fun w h Y => PySem.W.km_in_of Y) ?F
  case F =>
    intro w mg fa h KX G hmg
    refine' W1.all_mk KX G hmg ?a0 ?l0 ?c0 ?k0 ?a1 ?l1 ?c1 ?k1 ?a2 ?l2 ?c2 ?k2 ?a3 ?l3 ?c3 ?k3 ?a4 ?l4 ?c4 ?k4 ?a5 ?l5 ?c5 ?k5 ?a6 ?l6 ?c6 ?k6 ?a7 ?l7 ?c7 ?k7 ?a8 ?l8 ?c8 ?k8 ?a9 ?l9 ?c9 ?k9 ?a10 ?l10 ?c10 ?k10 ?a11 ?l11 ?c11 ?k11 ?a12 ?l12 ?c12 ?k12 ?a13 ?l13 ?c13 ?k13 ?a14 ?l14 ?c14 ?k14 ?a15 ?l15 ?c15 ?k15 ?a16 ?l16 ?c16 ?k16 ?a17 ?l17 ?c17 ?k17 ?a18 ?l18 ?c18 ?k18 ?a19 ?l19 ?c19 ?k19 ?a20 ?l20 ?c20 ?k20 ?a21 ?l21 ?c21 ?k21 ?z0 ?z1 ?z2 ?z3 ?z4 ?z5 ?z6 ?z7 ?y0 ?y1 ?y2 ?y3 ?y4 ?y5 ?y6 ?y7 ?y8 ?y9 ?y10 ?y11 ?kn0 ?kn1 ?kn2 ?kn3 ?kn4 ?kn5 ?kn6 ?kn7 ?kn8 ?kn9 ?kn10 ?kn11 ?kx0 ?kx1 ?kx2 ?kx3 ?kx4 ?kx5 ?kx6 ?kx7 ?kx9 ?kx10 ?kx11 ?ke1 ?ke2 ?ke3 ?ke4 ?ke5 ?ke6 ?ke7 ?ke8 ?ke9 ?kt1 ?kt2 ?kt3 ?aa0 ?aa1 ?aa2 ?aa3 ?ab_box ?ab_arrow ?ab_cut ?ab_alter ?ab_say ?ab_unsay ?bb0 ?bb1 ?bb2 ?bb3 ?bb4 ?bb5 ?bb6 ?bn0 ?bn1 ?bn2 ?bs0 ?sl0_ ?sv0_ ?sl1_ ?sv1_ ?sl2_ ?sv2_ ?sl3_ ?sv3_ ?sl4_ ?sv4_ ?h0a ?h0i ?h0l ?h0c ?h0k ?h1a ?h1i ?h1l ?h1c ?h1k ?h2a ?h2i ?h2l ?h2c ?h2k ?h2q ?h2r ?h3a ?h3i ?h3l ?h3c ?h3k ?h4a ?h4i ?h4l ?h4c ?h4k ?h4q ?h4r ?h5a ?h5i ?h5l ?h5c ?h5k ?h5q ?h5r ?h6a ?h6i ?h6l ?h6c ?h6k ?h7a ?h7i ?h7l ?h7c ?h7k ?h8a ?h8i ?h8l ?h8c ?h8k ?h9a ?h9i ?h9l ?h9c ?h9k ?h10a ?h10i ?h10l ?h10c ?h10k ?x23 ?x24 ?x25 ?x26 ?x27 ?u0 ?v0 ?w0 ?u1 ?v1 ?w1 ?u2 ?v2 ?w2 ?u3 ?v3 ?w3 ?u4 ?v4 ?w4 ?u5 ?v5 ?w5 ?u6 ?v6 ?w6 ?u7 ?v7 ?w7 ?u8 ?v8 ?w8
    (case a0 => k_is); (case l0 => k_is); (case c0 => k_is); (case k0 => k_is); (case a1 => k_is); (case l1 => k_is); (case c1 => k_is); (case k1 => k_is); (case a2 => k_is); (case l2 => k_is); (case c2 => k_is); (case k2 => k_is); (case a3 => k_is); (case l3 => k_is); (case c3 => k_is); (case k3 => k_is); (case a4 => k_is); (case l4 => k_is); (case c4 => k_is); (case k4 => k_is); (case a5 => k_is); (case l5 => k_is); (case c5 => k_is); (case k5 => k_is); (case a6 => k_is); (case l6 => k_is); (case c6 => k_is); (case k6 => k_is); (case a7 => k_is); (case l7 => k_is); (case c7 => k_is); (case k7 => k_is); (case a8 => k_is); (case l8 => k_is); (case c8 => k_is); (case k8 => k_is); (case a9 => k_is); (case l9 => k_is); (case c9 => k_is); (case k9 => k_is); (case a10 => k_is); (case l10 => k_is); (case c10 => k_is); (case k10 => k_is); (case a11 => k_is); (case l11 => k_is); (case c11 => k_is); (case k11 => k_is); (case a12 => k_is); (case l12 => k_is); (case c12 => k_is); (case k12 => k_is); (case a13 => k_is); (case l13 => k_is); (case c13 => k_is); (case k13 => k_is); (case a14 => k_is); (case l14 => k_is); (case c14 => k_is); (case k14 => k_is); (case a15 => k_is); (case l15 => k_is); (case c15 => k_is); (case k15 => k_is); (case a16 => k_is); (case l16 => k_is); (case c16 => k_is); (case k16 => k_is); (case a17 => k_is); (case l17 => k_is); (case c17 => k_is); (case k17 => k_is); (case a18 => k_is); (case l18 => k_is); (case c18 => k_is); (case k18 => k_is); (case a19 => k_is); (case l19 => k_is); (case c19 => k_is); (case k19 => k_is); (case a20 => k_is); (case l20 => k_is); (case c20 => k_is); (case k20 => k_is); (case a21 => k_is); (case l21 => k_is); (case c21 => k_is); (case k21 => k_is); (case z0 => k_is); (case z1 => k_is); (case z2 => k_is); (case z3 => k_is); (case z4 => k_is); (case z5 => k_is); (case z6 => k_is); (case z7 => k_is); (case y0 => k_is); (case y1 => k_is); (case y2 => k_is); (case y3 => k_is); (case y4 => k_is); (case y5 => k_is); (case y6 => k_is); (case y7 => k_is); (case y8 => k_is); (case y9 => k_is); (case y10 => k_is); (case y11 => k_is); (case kn0 => k_is); (case kn1 => k_is); (case kn2 => k_is); (case kn3 => k_is); (case kn4 => k_is); (case kn5 => k_is); (case kn6 => k_is); (case kn7 => k_is); (case kn8 => k_is); (case kn9 => k_is); (case kn10 => k_is); (case kn11 => k_is); (case kx0 => k_exc); (case kx1 => k_exc); (case kx2 => k_exc); (case kx3 => k_exc); (case kx4 => k_exc); (case kx5 => k_exc); (case kx6 => k_exc); (case kx7 => k_exc); (case kx9 => k_exc); (case kx10 => k_exc); (case kx11 => k_exc); (case ke1 => intro k; cases k <;> kernel_rfl); (case ke2 => intro k; cases k <;> kernel_rfl); (case ke3 => intro k; cases k <;> kernel_rfl); (case ke4 => intro k; cases k <;> kernel_rfl); (case ke5 => intro k; cases k <;> kernel_rfl); (case ke6 => k_is); (case ke7 => k_is); (case ke8 => intro k; cases k <;> kernel_rfl); (case ke9 => intro k k'; cases k <;> cases k' <;> kernel_rfl); (case kt1 => k_is); (case kt2 => k_is); (case kt3 => intro k; cases k <;> kernel_rfl); (case aa0 => k_is); (case aa1 => k_is); (case aa2 => k_keys); (case aa3 => exact rfl); (case ab_box => k_is); (case ab_arrow => k_is); (case ab_cut => k_is); (case ab_alter => k_is); (case ab_say => k_is); (case ab_unsay => k_is); (case bb0 => k_is); (case bb1 => k_is); (case bb2 => k_is); (case bb3 => k_is); (case bb4 => k_is); (case bb5 => k_is); (case bb6 => k_is); (case bn0 => k_is); (case bn1 => k_is); (case bn2 => k_is); (case bs0 => k_is); (case sl0_ => k_is); (case sv0_ => exact rfl); (case sl1_ => k_is); (case sv1_ => exact rfl); (case sl2_ => k_is); (case sv2_ => exact rfl); (case sl3_ => k_is); (case sv3_ => exact rfl); (case sl4_ => k_is); (case sv4_ => exact rfl); (case h0a => k_is); (case h0i => k_is); (case h0l => k_is); (case h0c => k_is); (case h0k => k_is); (case h1a => k_is); (case h1i => k_is); (case h1l => k_is); (case h1c => k_is); (case h1k => k_is); (case h2a => k_is); (case h2i => k_is); (case h2l => k_is); (case h2c => k_is); (case h2k => k_is); (case h2q => k_is); (case h2r => exact rfl); (case h3a => k_is); (case h3i => k_is); (case h3l => k_is); (case h3c => k_is); (case h3k => k_is); (case h4a => k_is); (case h4i => k_is); (case h4l => k_is); (case h4c => k_is); (case h4k => k_is); (case h4q => k_is); (case h4r => exact rfl); (case h5a => k_is); (case h5i => k_is); (case h5l => k_is); (case h5c => k_is); (case h5k => k_is); (case h5q => k_is); (case h5r => exact rfl); (case h6a => k_is); (case h6i => k_is); (case h6l => k_is); (case h6c => k_is); (case h6k => k_is); (case h7a => k_is); (case h7i => k_is); (case h7l => k_is); (case h7c => k_is); (case h7k => k_is); (case h8a => k_is); (case h8i => k_is); (case h8l => k_is); (case h8c => k_is); (case h8k => k_is); (case h9a => k_is); (case h9i => k_is); (case h9l => k_is); (case h9c => k_is); (case h9k => k_is); (case h10a => k_is); (case h10i => k_is); (case h10l => k_is); (case h10c => k_is); (case h10k => k_is); (case x23 => k_is); (case x24 => k_is); (case x25 => k_keys); (case x26 => exact rfl); (case x27 => exact rfl); (case u0 => k_is); (case v0 => k_is); (case w0 => exact rfl); (case u1 => k_is); (case v1 => k_is); (case w1 => exact rfl); (case u2 => k_is); (case v2 => k_is); (case w2 => exact rfl); (case u3 => k_is); (case v3 => k_is); (case w3 => exact rfl); (case u4 => k_is); (case v4 => k_is); (case w4 => exact rfl); (case u5 => k_is); (case v5 => k_is); (case w5 => exact rfl); (case u6 => k_is); (case v6 => k_is); (case w6 => exact rfl); (case u7 => k_is); (case v7 => k_is); (case w7 => exact rfl); (case u8 => k_is); (case v8 => k_is); (case w8 => exact rfl)

