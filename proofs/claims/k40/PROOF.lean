import PyProof.Rows.All
import Wide.All
import OpenK.AllK
import Wide.FinOn
import Lean
import PyProof.EqAt
import PyProof.EqKinds
import PyProof.TupleCall
import PyProof.ExcInit
import PyProof.ExcClass2
import PyProof.Rows.FStr
import PyProof.Rows.ZipGen
import PySem.Challenge.RW_safegaps_k40_forms_joined
set_option Elab.async false
set_option linter.all false
set_option maxRecDepth 100000
/-! THE HAND LAYER, for ints, bools, texts, own classes, LISTS and tuples (index, slices, in, append, pop ..), calls, loops. Paste it whole ahead of your own text; what your proof does not reach may be deleted. -/
namespace L2
open PySem PySem.Spec PyProof.Rows

/-- a key: an int or a str -/
abbrev Key := Sum Int Str
def keyIs : Key → Value → Bool
  | .inl k, v => Value.isInt k v
  | .inr x, v => Value.isStrOf x v
def keyH (w : World) : Key → Int
  | .inl k => hashInt k
  | .inr x => hashStr w x
theorem keyIs_shape : ∀ {k : Key} {v : Value}, keyIs k v = true → (∃ i t, k = Sum.inl i ∧ v = Value.int i t) ∨ (∃ x t, k = Sum.inr x ∧ v = Value.str x t)
  | .inl i, v, h => by
    obtain ⟨t, e⟩ := Value.isInt_shape (k := i) (v := v) h
    exact .inl ⟨i, t, rfl, e⟩
  | .inr x, v, h => by
    obtain ⟨t, e⟩ := Value.isStrOf_shape (x := x) (v := v) h
    exact .inr ⟨x, t, rfl, e⟩
theorem keyIs_int (i : Int) (t : Tok) : keyIs (.inl i) (.int i t) = true := by simp [keyIs, Value.isInt]
theorem keyIs_str (x : Str) (t : Tok) : keyIs (.inr x) (.str x t) = true := by simp [keyIs, Value.isStrOf]
theorem key_ll (a b : Int) : decide ((Sum.inl a : Key) = Sum.inl b) = (a == b) := by
  by_cases e : a = b
  · subst e; simp
  · have h : ¬ (Sum.inl a : Key) = Sum.inl b := fun q => e (Sum.inl.inj q)
    rw [decide_eq_false h]
    exact (beq_eq_false_iff_ne.mpr e).symm
theorem key_rr (a b : Str) : decide ((Sum.inr a : Key) = Sum.inr b) = decide (a = b) := by
  by_cases e : a = b
  · subst e; simp
  · have h : ¬ (Sum.inr a : Key) = Sum.inr b := fun q => e (Sum.inr.inj q)
    rw [decide_eq_false h, decide_eq_false e]
theorem key_lr (a : Int) (b : Str) : decide ((Sum.inl a : Key) = Sum.inr b) = false := decide_eq_false (fun q => nomatch q)
theorem key_rl (a : Str) (b : Int) : decide ((Sum.inr a : Key) = Sum.inl b) = false := decide_eq_false (fun q => nomatch q)

def mixKind (prog : Program) (w : World) : PySem.KeyKind prog w Key where
  is := keyIs
  hash := keyH w
  inj := fun v a b ha hb => by
    rcases keyIs_shape ha with ⟨i, t, rfl, rfl⟩ | ⟨x, t, rfl, rfl⟩
    · rcases keyIs_shape hb with ⟨j, u, rfl, e⟩ | ⟨y, u, rfl, e⟩
      · injection e with e1 _; rw [e1]
      · exact nomatch e
    · rcases keyIs_shape hb with ⟨j, u, rfl, e⟩ | ⟨y, u, rfl, e⟩
      · exact nomatch e
      · injection e with e1 _; rw [e1]
  byValue := fun k v h => by
    rcases keyIs_shape h with ⟨i, t, rfl, rfl⟩ | ⟨x, t, rfl, rfl⟩ <;> rfl
  pyHash := fun hv h => by
    rcases keyIs_shape hv with ⟨i, t, rfl, rfl⟩ | ⟨x, t, rfl, rfl⟩
    · exact wpAny_pyHash_int h
    · exact wpAny_pyHash_str h
  eqBool := fun hu hv h => by
    rcases keyIs_shape hu with ⟨i, t, rfl, rfl⟩ | ⟨x, t, rfl, rfl⟩
    · rcases keyIs_shape hv with ⟨j, u, rfl, rfl⟩ | ⟨y, u, rfl, rfl⟩
      · rw [key_ll] at h; exact wpAny_eqBool_int h
      · rw [key_lr] at h; exact SeqAt.EqAt.int_str i t y u _ _ _ _ h
    · rcases keyIs_shape hv with ⟨j, u, rfl, rfl⟩ | ⟨y, u, rfl, rfl⟩
      · rw [key_rl] at h; exact SeqAt.EqAt.str_int x t j u _ _ _ _ h
      · rw [key_rr] at h; exact wpAny_eqBool_str h
  «strs» := fun k x t v h => by
    rcases keyIs_shape h with ⟨i, u, rfl, e⟩ | ⟨y, u, rfl, e⟩
    · exact nomatch e
    · injection e with e1 _
      subst e1
      cases v <;> rfl

theorem mixKind_is (prog : Program) (w : World) (k : Key) (v : Value) : (mixKind prog w).is k v = keyIs k v := rfl
theorem mixKind_int (prog : Program) (w : World) (i : Int) (t : Tok) : (mixKind prog w).is (.inl i) (.int i t) = true := keyIs_int i t
theorem mixKind_str (prog : Program) (w : World) (x : Str) (t : Tok) : (mixKind prog w).is (.inr x) (.str x t) = true := keyIs_str x t
end L2

namespace L2
open PySem PySem.Spec PyProof.Rows

/-- a value, without the heap -/
inductive V where
  | non | bl (b : Bool) | int (i : Int) | str (x : Str) | byt (b : Array UInt8) | flt (b : UInt64) | ref (a : Addr) | ty (n : String)
  deriving DecidableEq

def RelV : V → Value → Prop
  | .non, u => u = Value.none
  | .bl b, u => u = Value.bool b
  | .int i, u => ∃ t, u = Value.int i t
  | .str x, u => ∃ t, u = Value.str x t
  | .byt b, u => ∃ t, u = Value.bytes b t
  | .flt b, u => ∃ t, u = Value.float b t
  | .ref a, u => u = Value.ref a
  | .ty n, u => u = Value.type n

abbrev Vals : List V → List Value → Prop := Paired RelV
theorem Vals.length {xs : List V} {us : List Value} (r : Vals xs us) : xs.length = us.length := Paired.length r
theorem Vals.get : ∀ {xs : List V} {us : List Value} {i : Nat} {x : V}, Vals xs us → xs[i]? = some x → ∃ u, us[i]? = some u ∧ RelV x u
  | _, _, _, _, .nil, e => by simp at e
  | _, _, 0, _, .cons r _, e => by simp at e; subst e; exact ⟨_, rfl, r⟩
  | _, _, i + 1, x, .cons _ t, e => by
    obtain ⟨u, h1, h2⟩ := Vals.get (i := i) (x := x) t (by simpa using e)
    exact ⟨u, by simpa using h1, h2⟩
theorem Vals.set {x : V} {u : Value} (r : RelV x u) : ∀ {xs : List V} {us : List Value} (i : Nat), Vals xs us → Vals (xs.set i x) (us.set i u)
  | _, _, _, .nil => .nil
  | _, _, 0, .cons _ t => .cons r t
  | _, _, i + 1, .cons q t => .cons q (Vals.set r i t)
theorem Vals.append : ∀ {xs ys : List V} {us ws : List Value}, Vals xs us → Vals ys ws → Vals (xs ++ ys) (us ++ ws)
  | _, _, _, _, .nil, s => s
  | _, _, _, _, .cons r t, s => .cons r (Vals.append t s)
theorem Vals.take : ∀ {xs : List V} {us : List Value} (n : Nat), Vals xs us → Vals (xs.take n) (us.take n)
  | _, _, 0, _ => .nil
  | _, _, _ + 1, .nil => .nil
  | _, _, n + 1, .cons r t => .cons r (Vals.take n t)
theorem Vals.drop : ∀ {xs : List V} {us : List Value} (n : Nat), Vals xs us → Vals (xs.drop n) (us.drop n)
  | _, _, 0, r => r
  | _, _, _ + 1, .nil => .nil
  | _, _, n + 1, .cons _ t => Vals.drop n t
theorem Vals.none_of : ∀ {xs : List V} {us : List Value} {i : Nat}, Vals xs us → xs[i]? = none → us[i]? = none := fun {xs us i} r e => by
  have h1 := r.length
  have h2 : xs.length ≤ i := List.getElem?_eq_none_iff.mp e
  exact List.getElem?_eq_none_iff.mpr (by omega)

def RelO : Option V → Option Value → Prop
  | some v, some u => RelV v u
  | none, none => True
  | _, _ => False
def KV {κ : Type} : List (κ × V) → List (κ × Value) → Prop := Paired fun (p : κ × V) (q : κ × Value) => p.1 = q.1 ∧ RelV p.2 q.2

/-- a key of a dict (00_mix): an int or a text -/
def kV : Key → V
  | .inl i => .int i
  | .inr x => .str x

/-- what stands at a tracked address -/
inductive HO where
  /-- a list -/
  | lst (xs : List V)
  /-- a tuple (never changes) -/
  | tup (xs : List V)
  /-- a dict whose keys are ints and texts; one whose keys are tuples of ints and texts (the empty one is both) -/
  | dK (kvs : List (Key × V)) | dT (kvs : List (List Key × V))
  /-- a set of ints: its members, its size -/
  | set (S : Int → Bool) (n : Nat)
  /-- an instance of the class at C, its dict at dx, its attributes -/
  | ins (C dx : Addr) (fs : List (Str × V))
  /-- the dict of the instance at x -/
  | own (x : Addr)
  /-- the dict of an exception -/
  | xd (fs : List (Str × V))
  /-- a bound method, f of x -/
  | met (f x : Addr)
  /-- a range object lo, lo + 1, .. below hi -/
  | rng (lo hi : Int)
  /-- a thing that is known to the object (the script; a dict while a loop walks it): read, never written while it is so -/
  | frz (o : Obj) (u : HO)
  /-- a code object's table -/
  | tbl (ps : Array Value)
  /-- any other thing, by what is true of its one object (a def of one's own: SetO a S n := HO.ext fun h => ..) -/
  | ext (φ : Heap → Prop)

abbrev Hp := Addr → Option HO
def upd (H : Hp) (a : Addr) (o : HO) : Hp := fun b => if b = a then some o else H b
theorem upd_same {H : Hp} {a : Addr} {o : HO} : upd H a o a = some o := by unfold upd; rw [if_pos rfl]
theorem upd_ne {H : Hp} {a b : Addr} {o : HO} (h : b ≠ a) : upd H a o b = H b := by unfold upd; rw [if_neg h]
theorem upd_upd {H : Hp} {a : Addr} {o u : HO} : upd (upd H a o) a u = upd H a u := by
  funext b; unfold upd; split <;> rfl
/-- two objects of different content stand apart -/
theorem ne_of {H : Hp} {a b : Addr} {o u : HO} (h : H a = some o) (h' : H b = some u) (d : o ≠ u) : a ≠ b := by
  intro e; subst e; rw [h] at h'; exact d (Option.some.inj h')
theorem ne_of_none {H : Hp} {a b : Addr} {o : HO} (h : H a = some o) (h' : H b = none) : a ≠ b := by
  intro e; subst e; rw [h] at h'; cases h'

section
variable (P : Program) (w : World)
def ObjOk (H : Hp) (h : Heap) (a : Addr) : HO → Prop
  | .lst xs => xs.length ≤ sizeLine ∧ ∃ (its : List Value) (n : Nat), Vals xs its ∧ h.get? a = some { cls := .type "list", data := .seq its.toArray n }
  | .tup xs => xs.length ≤ sizeLine ∧ ∃ its : List Value, Vals xs its ∧ IsTup h a its.toArray
  | .dK kvs => kvs.length ≤ sizeLine ∧ (a == sysModules) = false ∧ ∃ vs, KV kvs vs ∧ h.DictOf (mixKind P w) a vs
  | .dT kvs => kvs.length ≤ sizeLine ∧ (a == sysModules) = false ∧ ∃ xs : List (List Key × Addr × Value),
      Paired (fun (p : List Key × V) (q : List Key × Addr × Value) => p.1 = q.1 ∧ H q.2.1 = some (.tup (p.1.map kV)) ∧ RelV p.2 q.2.2) kvs xs ∧
      ∃ o es ep, h.get? a = some o ∧ o.ExactDict ∧ o.data = .dict es ep ∧ es.toList = xs.map (entryOfKey (tupleKind (mixKind P w))) ∧ (xs.map (·.1)).Nodup
  | .set S n => h.SetOf (intKind P w) a S n
  | .ins C dx fs => H dx = some (.own a) ∧ fs.length ≤ 1000 ∧ dx ≠ a ∧ h.get? a = some (PySem.W.instObj C dx) ∧
      ∃ mA, h.Ns1 dx mA ∧ (∀ f, RelO (fs.lookup f) (mA f)) ∧ PySem.Within mA (fs.map (·.1))
  | .own _ => ∃ o, h.get? a = some o
  | .xd fs => ∃ mA, h.Ns1 a mA ∧ ∀ f, RelO (fs.lookup f) (mA f)
  | .rng lo hi => ∃ t u v, h.get? a = some { cls := .type "range", data := .fields #[.int lo t, .int hi u, .int 1 v] }
  | .frz o u => h.get? a = some o ∧ ObjOk H h a u
  | .tbl ps => h.get? a = some { cls := .none, data := .fields ps }
  | .met f x => h.get? a = some (PySem.W.methodObj (.ref f) (.ref x))
  | .ext φ => φ h ∧ (∃ o, h.get? a = some o) ∧ ∀ h1 h2 : Heap, φ h1 → (∀ o, h1.get? a = some o → h2.get? a = some o) → φ h2
/-- the abstract heap is held -/
def HOk (H : Hp) (h : Heap) : Prop := ∀ a o, H a = some o → ObjOk P w H h a o
end

section
variable {P : Program} {w : World} {H H' : Hp} {h h' : Heap} {a : Addr} {o : HO}
theorem ObjOk.lt (x : ObjOk P w H h a o) : a < h.objs.size := by
  cases o with
  | lst xs => obtain ⟨_, _, _, _, e⟩ := x; exact Heap.lt_size e
  | tup xs => obtain ⟨_, _, _, p⟩ := x; exact p.lt
  | dK kvs => obtain ⟨_, _, _, _, o, _, _, e, _⟩ := x; exact Heap.lt_size e
  | dT kvs => obtain ⟨_, _, _, _, o, _, _, e, _⟩ := x; exact Heap.lt_size e
  | set S n => obtain ⟨o, _, _, _, e, _⟩ := x; exact Heap.lt_size e
  | ins C dx fs => obtain ⟨_, _, _, e, _⟩ := x; exact Heap.lt_size e
  | own y => obtain ⟨_, e⟩ := x; exact Heap.lt_size e
  | xd fs => obtain ⟨_, ⟨_, _, _, e, _⟩, _⟩ := x; exact Heap.lt_size e
  | rng lo hi => obtain ⟨_, _, _, e⟩ := x; exact Heap.lt_size e
  | frz ob u => obtain ⟨e, _⟩ := x; exact Heap.lt_size e
  | tbl ps => exact Heap.lt_size (show h.get? a = some _ from x)
  | met f y => exact Heap.lt_size (show h.get? a = some _ from x)
  | ext φ => obtain ⟨_, ⟨_, e⟩, _⟩ := x; exact Heap.lt_size e
theorem Paired.mapP {α β : Type} {F G : α → β → Prop} : ∀ {l₁ : List α} {l₂ : List β}, Paired F l₁ l₂ → (∀ a b, F a b → G a b) → Paired G l₁ l₂
  | _, _, .nil, _ => .nil
  | _, _, .cons r t, f => .cons (f _ _ r) (Paired.mapP t f)
theorem Paired.imp' {α β : Type} {F G : α → β → Prop} (f : ∀ a b, F a b → G a b) {l₁ : List α} {l₂ : List β} (r : Paired F l₁ l₂) : Paired G l₁ l₂ := Paired.mapP r f
/-- what an object's description leans on: its own object, its own dict, the tuples -/
theorem ObjOk.stay (x : ObjOk P w H h a o) (k : ∀ b u, (b = a ∨ H b = some (.own a)) → h.get? b = some u → h'.get? b = some u)
    (ho : ∀ b, H b = some (.own a) → H' b = some (.own a)) (ht : ∀ b xs, H b = some (.tup xs) → H' b = some (.tup xs)) : ObjOk P w H' h' a o := by
  induction o with
  | lst xs => obtain ⟨z, its, n, r, e⟩ := x; exact ⟨z, its, n, r, k _ _ (.inl rfl) e⟩
  | tup xs => obtain ⟨z, its, r, ob, e, c⟩ := x; exact ⟨z, its, r, ob, k _ _ (.inl rfl) e, c⟩
  | dK kvs => obtain ⟨z, y, vs, r, ob, es, ep, e, c⟩ := x; exact ⟨z, y, vs, r, ob, es, ep, k _ _ (.inl rfl) e, c⟩
  | dT kvs =>
    obtain ⟨z, y, xs, r, ob, es, ep, e, c⟩ := x
    exact ⟨z, y, xs, Paired.mapP r fun p q z => ⟨z.1, ht _ _ z.2.1, z.2.2⟩, ob, es, ep, k _ _ (.inl rfl) e, c⟩
  | set S n => obtain ⟨ob, es, ep, t, e, c⟩ := x; exact ⟨ob, es, ep, t, k _ _ (.inl rfl) e, c⟩
  | ins C dx fs =>
    obtain ⟨d, z, ne, e, mA, ⟨od, es, ep, e2, c⟩, r⟩ := x
    exact ⟨ho _ d, z, ne, k _ _ (.inl rfl) e, mA, ⟨od, es, ep, k _ _ (.inr d) e2, c⟩, r⟩
  | own y => obtain ⟨ob, e⟩ := x; exact ⟨ob, k _ _ (.inl rfl) e⟩
  | xd fs => obtain ⟨mA, ⟨od, es, ep, e, c⟩, r⟩ := x; exact ⟨mA, ⟨od, es, ep, k _ _ (.inl rfl) e, c⟩, r⟩
  | rng lo hi => obtain ⟨t, u, v, e⟩ := x; exact ⟨t, u, v, k _ _ (.inl rfl) e⟩
  | frz ob u ih => obtain ⟨e, q⟩ := x; exact ⟨k _ _ (.inl rfl) e, ih q⟩
  | tbl ps =>
    have e : h.get? a = some { cls := .none, data := .fields ps } := x
    show h'.get? a = some { cls := .none, data := .fields ps }
    exact k a _ (.inl rfl) e
  | met f y =>
    have e : h.get? a = some (PySem.W.methodObj (.ref f) (.ref y)) := x
    show h'.get? a = some (PySem.W.methodObj (.ref f) (.ref y))
    exact k a _ (.inl rfl) e
  | ext φ => obtain ⟨p, ⟨o, e⟩, st⟩ := x; exact ⟨st _ _ p fun o q => k _ _ (.inl rfl) q, ⟨o, k _ _ (.inl rfl) e⟩, st⟩
theorem HOk.lt (x : HOk P w H h) (e : H a = some o) : a < h.objs.size := (x a o e).lt
theorem HOk.fresh (x : HOk P w H h) (e : h.objs.size ≤ a) : H a = none := by
  cases q : H a with
  | none => rfl
  | some u => exact absurd (Nat.lt_of_lt_of_le (x.lt q) e) (Nat.lt_irrefl _)
/-- every object of the heap is kept -/
theorem HOk.kept (x : HOk P w H h) (k : ∀ b u, h.get? b = some u → h'.get? b = some u) : HOk P w H h' := fun a o e =>
  (x a o e).stay (fun b u _ q => k b u q) (fun _ q => q) fun _ _ q => q
/-- a new object is laid and tracked -/
theorem HOk.laid (x : HOk P w H h) (k : ∀ b u, h.get? b = some u → h'.get? b = some u) (hp : h.objs.size ≤ a) (new : ObjOk P w (upd H a o) h' a o) : HOk P w (upd H a o) h' := fun b u e => by
  have hn := x.fresh hp
  by_cases hb : b = a
  · subst hb; rw [upd_same] at e; cases e; exact new
  · rw [upd_ne hb] at e
    exact (x b u e).stay (fun c v _ q => k c v q) (fun c q => by rw [upd_ne (ne_of_none q hn)]; exact q) fun c xs q => by rw [upd_ne (ne_of_none q hn)]; exact q
end

/-- what may be read as u: it is u, or a known u -/
def Rd (H : Hp) (a : Addr) (u : HO) : Prop := H a = some u ∨ ∃ o, H a = some (.frz o u)
theorem Rd.of {H : Hp} {a : Addr} {u : HO} (h : H a = some u) : Rd H a u := .inl h
theorem Rd.ok {P : Program} {w : World} {H : Hp} {h : Heap} {a : Addr} {u : HO} (r : Rd H a u) (x : HOk P w H h) : ObjOk P w H h a u := by
  rcases r with r | ⟨o, r⟩
  · exact x a u r
  · obtain ⟨_, q⟩ := x a _ r
    exact q
/-- what may be written -/
def Mut : Option HO → Prop
  | some (.lst _) => True
  | some (.dK _) => True
  | some (.dT _) => True
  | some (.set _ _) => True
  | some (.ins _ _ _) => True
  | some (.ext _) => True
  | _ => False
section
variable {P : Program} {w : World} {H : Hp} {h h' : Heap} {x e : Addr} {o' : HO}
/-- the object at e is changed: x itself, or the dict of the instance x -/
theorem HOk.write (ok : HOk P w H h) (mu : Mut (H x)) (he : e = x ∨ H e = some (.own x)) (k : ∀ b u, b ≠ e → h.get? b = some u → h'.get? b = some u) (heo : ∃ u, h'.get? e = some u)
    (new : ObjOk P w (upd H x o') h' x o') : HOk P w (upd H x o') h' := fun b u q => by
  have nown : ∀ c y, H c = some (.own y) → c ≠ x := fun c y r z => by subst z; rw [r] at mu; exact mu
  have ntup : ∀ c xs, H c = some (.tup xs) → c ≠ x := fun c xs r z => by subst z; rw [r] at mu; exact mu
  by_cases hb : b = x
  · subst hb; rw [upd_same] at q; cases q; exact new
  · rw [upd_ne hb] at q
    by_cases hbe : b = e
    · have q' : H b = some (.own x) := by
        rcases he with z | z
        · exact absurd (hbe.trans z) hb
        · rw [hbe]; exact z
      rw [q] at q'; cases q'
      obtain ⟨v, hv⟩ := heo
      exact ⟨v, by rw [hbe]; exact hv⟩
    · refine (ok b u q).stay (fun c v hc r => k c v ?_ r) (fun c r => by rw [upd_ne (nown c b r)]; exact r) fun c xs r => by rw [upd_ne (ntup c xs r)]; exact r
      rcases hc with rfl | hc
      · exact hbe
      · rintro rfl
        rcases he with z | z
        · exact nown c b hc z
        · rw [hc] at z; cases z; exact hb rfl
end

/-! ### kept unless tracked; of the frames at fs (the callers') the slots may change (an exception that passes writes there); of the records at ex (iterators) nothing is said -/
structure Un (fs ex : List Addr) (H H' : Hp) (h h' : Heap) : Prop where
  keep : ∀ b o, h.get? b = some o → H b = none → b ∉ fs → b ∉ ex → h'.get? b = some o
  slot : ∀ b o, h.get? b = some o → H b = none → b ∈ fs → b ∉ ex → ∃ sl, h'.get? b = some { o with slots := sl }
  free : ∀ b o, h.get? b = some o → H b = none → b ∉ ex → H' b = none
  there : ∀ b o, h.get? b = some o → b ∉ ex → ∃ o', h'.get? b = some o'
  tups : ∀ b xs, H b = some (.tup xs) → H' b = some (.tup xs)
  frzs : ∀ b o u, H b = some (.frz o u) → H' b = some (.frz o u)
  tbls : ∀ b ps, H b = some (.tbl ps) → ∃ more, H' b = some (.tbl (ps ++ more))
section
variable {fs fs' ex ex' : List Addr} {H H1 H2 : Hp} {h h1 h2 h' : Heap} {a x e : Addr} {o : HO}
theorem Un.any (u : Un fs ex H H1 h h1) {b : Addr} {ob : Obj} (q : h.get? b = some ob) (n : H b = none) (hx : b ∉ ex) : ∃ sl, h1.get? b = some { ob with slots := sl } := by
  by_cases hb : b ∈ fs
  · exact u.slot b ob q n hb hx
  · exact ⟨ob.slots, u.keep b ob q n hb hx⟩
theorem Un.trans (a : Un fs ex H H1 h h1) (b : Un fs ex H1 H2 h1 h2) : Un fs ex H H2 h h2 where
  keep := fun c ob q n hc hx => b.keep c ob (a.keep c ob q n hc hx) (a.free c ob q n hx) hc hx
  slot := fun c ob q n hc hx => by
    obtain ⟨sl, e1⟩ := a.slot c ob q n hc hx
    obtain ⟨sl', e2⟩ := b.slot c _ e1 (a.free c ob q n hx) hc hx
    exact ⟨sl', e2⟩
  free := fun c ob q n hx => by
    obtain ⟨o', e1⟩ := a.there c ob q hx
    exact b.free c o' e1 (a.free c ob q n hx) hx
  there := fun c ob q hx => by
    obtain ⟨o', e1⟩ := a.there c ob q hx
    exact b.there c o' e1 hx
  tups := fun c xs q => b.tups c xs (a.tups c xs q)
  frzs := fun c ob xs q => b.frzs c ob xs (a.frzs c ob xs q)
  tbls := fun c ps q => by
    obtain ⟨m1, e1⟩ := a.tbls c ps q
    obtain ⟨m2, e2⟩ := b.tbls c _ e1
    exact ⟨m1 ++ m2, by rw [e2, Array.append_assoc]⟩
theorem Un.kept (k : ∀ b u, h.get? b = some u → h'.get? b = some u) : Un fs ex H H h h' :=
  ⟨fun b ob q _ _ _ => k b ob q, fun b ob q _ _ _ => ⟨ob.slots, k b ob q⟩, fun _ _ _ n _ => n, fun b ob q _ => ⟨ob, k b ob q⟩, fun _ _ q => q, fun _ _ _ q => q, fun _ ps q => ⟨#[], by rw [q]; simp⟩⟩
theorem Un.refl : Un fs ex H H h h := Un.kept fun _ _ q => q
theorem Un.laid (k : ∀ b u, h.get? b = some u → h'.get? b = some u) (hp : h.objs.size ≤ a) (hn : H a = none) : Un fs ex H (upd H a o) h h' where
  keep := fun b u q _ _ _ => k b u q
  slot := fun b u q _ _ _ => ⟨u.slots, k b u q⟩
  free := fun b u q n _ => by rw [upd_ne (Nat.ne_of_lt (Nat.lt_of_lt_of_le (Heap.lt_size q) hp))]; exact n
  there := fun b u q _ => ⟨u, k b u q⟩
  tups := fun b xs q => by rw [upd_ne (ne_of_none q hn)]; exact q
  frzs := fun b u xs q => by rw [upd_ne (ne_of_none q hn)]; exact q
  tbls := fun b ps q => ⟨#[], by rw [upd_ne (ne_of_none q hn), q]; simp⟩
theorem Un.write (mu : Mut (H x)) (he : e = x ∨ H e = some (.own x)) (k : ∀ b u, b ≠ e → h.get? b = some u → h'.get? b = some u) (heo : ∃ u, h'.get? e = some u) : Un fs ex H (upd H x o) h h' := by
  have hx : ∀ b, H b = none → b ≠ x := fun b n z => by subst z; rw [n] at mu; exact mu
  have hb : ∀ b, H b = none → b ≠ e := fun b n z => by
    subst z
    rcases he with r | r
    · exact hx b n r
    · rw [n] at r; cases r
  have hm : ∀ b u, H b = some u → ¬ Mut (some u) → b ≠ x := fun b u q nm z => by subst z; rw [q] at mu; exact nm mu
  refine ⟨fun b u q n _ _ => k b u (hb b n) q, fun b u q n _ _ => ⟨u.slots, k b u (hb b n) q⟩, fun b u q n _ => by rw [upd_ne (hx b n)]; exact n, fun b u q _ => ?_,
    fun b xs q => by rw [upd_ne (hm b _ q fun z => z)]; exact q, fun b u xs q => by rw [upd_ne (hm b _ q fun z => z)]; exact q, fun b ps q => ⟨#[], by rw [upd_ne (hm b _ q fun z => z), q]; simp⟩⟩
  by_cases hbe : b = e
  · subst hbe; exact heo
  · exact ⟨u, k b u hbe q⟩
theorem Un.mono (u : Un fs ex H H1 h h1) (hs : ∀ b ∈ fs, b ∈ fs') (hx : ∀ b ∈ ex, b ∈ ex') : Un fs' ex' H H1 h h1 :=
  ⟨fun b ob q n hb he => u.keep b ob q n (fun z => hb (hs b z)) fun z => he (hx b z), fun _ _ q n _ he => u.any q n fun z => he (hx _ z), fun b ob q n he => u.free b ob q n fun z => he (hx b z), fun b ob q he => u.there b ob q fun z => he (hx b z), u.tups, u.frzs, u.tbls⟩
end

/-! ### the heap without what is tracked -/
def trk (h : Heap) (H : Hp) : List Addr := (List.range h.objs.size).filter fun a => (H a).isSome
def hidT (h : Heap) (H : Hp) : Heap := PySem.W.hideAll h (trk h H)
theorem hidT_size (h : Heap) (H : Hp) : (hidT h H).objs.size = h.objs.size := PySem.W.hideAll_size _ _
theorem hidT_get {h : Heap} {H : Hp} {b : Addr} {o : Obj} (e : h.get? b = some o) (n : H b = none) : (hidT h H).get? b = some o :=
  PySem.W.hideAll_get _ e fun hm => by
    have q : (H b).isSome = true := (List.mem_filter.mp hm).2
    rw [n] at q; simp at q
theorem of_hidT {h : Heap} {H : Hp} {b : Addr} {o : Obj} (e : (hidT h H).get? b = some o) : h.get? b = some o ∧ H b = none := by
  have e' : h.get? b = some o := PySem.W.of_hideAll (trk h H) e
  refine ⟨e', ?_⟩
  cases q : H b with
  | none => rfl
  | some x =>
    have hm : b ∈ trk h H := List.mem_filter.mpr ⟨List.mem_range.mpr (Heap.lt_size e'), by simp [q]⟩
    have z : (hidT h H).get? b = none := PySem.W.hideAll_none (trk h H) hm
    rw [z] at e; cases e

/-! ### OpenK's ledger, filled with every new object but one -/
def allNews (g h : Heap) (L : Addr) : List (Addr × Obj) := (List.range h.objs.size).filterMap fun a => if a = L ∨ (g.get? a).isSome = true then none else (h.get? a).map fun o => (a, o)
theorem mem_allNews {g h : Heap} {L a : Addr} {o : Obj} (h1 : a ≠ L) (h2 : g.get? a = none) (h3 : h.get? a = some o) : (a, o) ∈ allNews g h L :=
  List.mem_filterMap.mpr ⟨a, List.mem_range.mpr (Heap.lt_size h3), by simp [h1, h2, h3]⟩
theorem of_mem_allNews {g h : Heap} {L : Addr} {p : Addr × Obj} (hp : p ∈ allNews g h L) : p.1 ≠ L ∧ g.get? p.1 = none ∧ h.get? p.1 = some p.2 := by
  obtain ⟨b, _, e⟩ := List.mem_filterMap.mp hp
  split at e
  · cases e
  · rename_i hn
    cases q : h.get? b with
    | none => rw [q] at e; simp at e
    | some u =>
      rw [q] at e
      simp only [Option.map_some, Option.some.injEq] at e
      subst e
      refine ⟨fun z => hn (.inl z), ?_, q⟩
      show g.get? b = none
      cases r : g.get? b with
      | none => rfl
      | some v => exact (hn (.inr (by simp [r]))).elim
def rest (g h : Heap) (L d : Addr) : List (Addr × Obj) := (allNews g h L).filter fun p => decide (p.1 ≠ d)
theorem rest_ne {g h : Heap} {L d : Addr} : ∀ p ∈ rest g h L d, p.1 ≠ d := fun p hp => of_decide_eq_true (List.mem_filter.mp hp).2
theorem mem_rest {g h : Heap} {L d a : Addr} {o : Obj} (h1 : a ≠ L) (h2 : g.get? a = none) (h3 : h.get? a = some o) (h4 : a ≠ d) : (a, o) ∈ rest g h L d :=
  List.mem_filter.mpr ⟨mem_allNews h1 h2 h3, decide_eq_true h4⟩
theorem news_all {g h : Heap} {L : Addr} : News g L h (allNews g h L) := fun p hp => let ⟨a, b, c⟩ := of_mem_allNews hp; ⟨c, a, b⟩
theorem news_at {g h : Heap} {L d : Addr} {o : Obj} (h1 : d ≠ L) (h2 : g.get? d = none) (h3 : h.get? d = some o) : News g L h ((d, o) :: rest g h L d) := fun p hp => by
  rcases List.mem_cons.mp hp with rfl | hp
  · exact ⟨h3, h1, h2⟩
  · exact news_all p (List.mem_filter.mp hp).1
/-- behind a rule that changed d alone: all else but the frame is kept -/
theorem kept_of_news {g h h' : Heap} {L d : Addr} {m : Str → Option Value} (k : ∀ b o, g.get? b = some o → h.get? b = some o) (F : Fr g L h' m) (N : News g L h' (rest g h L d)) :
    ∀ b o, b ≠ L → b ≠ d → h.get? b = some o → h'.get? b = some o := fun b o h1 h2 e => by
  cases q : g.get? b with
  | some u =>
    have := k b u q
    rw [e] at this; cases this
    exact F.keep b _ q
  | none => exact (N (b, o) (mem_rest h1 q e h2)).1
end L2

namespace L2
open PySem PySem.Spec PyProof.Rows

/-- the module's facts, over the base: the heap at the law's entry without what is tracked there -/
structure Mod (K : PySem.W.Frag) (mg : Str → Option Value) (base : Heap) : Prop where
  kin : K.In base
  glob : base.Ns mainGlobals mg
  blt : ∃ mb, base.Ns builtinsNs mb ∧ ∀ x : Str, x ≠ "__name__" → mb x = bootBuiltins x
  nolimit : base.NoLimit

/-- the context: a def's body (or a comprehension's block) running. base: fixed through the whole law; s₀, H₀: the entry; outer: the frames whose slots others may change (a def's callers); stack: all frames that run;
   ex: iterators that were made ahead of the entry and are walked here (a comprehension's); fn: the names whose cells were made at the entry (a def: all; a comprehension's block: its own); calm: not within an except suite; pn: pins that every state bears; xe: what is wanted of an exception that leaves the code -/
structure Cx where
  prog : Program
  w : World
  K : PySem.W.Frag
  mg : Str → Option Value
  base : Heap
  A : Around
  N : List Str
  s₀ : Shared
  H₀ : Hp
  env : Env
  outer : List Env
  stack : List Env
  ex : List Addr
  fn : Str → Bool
  calm : Bool
  pn : List (Addr × Obj)
  xe : Value → Shared → Prop
/-- the callers' frames -/
def frs (l : List Env) : List Addr := l.filterMap (·.frame)
abbrev Cx.fs (X : Cx) : List Addr := frs X.outer

def Vis (sc : Scope) (x : Str) : Prop := sc.names.lookup x = some .local ∨ sc.names.lookup x = some .cell ∨ sc.names.lookup x = some .free
def Loc (sc : Scope) (x : Str) : Prop := sc.names.lookup x = some .local ∨ sc.names.lookup x = some .cell
def Look (env : Env) (h : Heap) (m : Str → Option Value) (x : Str) (u : Value) : Prop :=
  (env.kindOf x = some .local ∧ m x = some u) ∨ ((env.kindOf x = some .cell ∨ env.kindOf x = some .free) ∧ ∃ c, env.cells.lookup x = some c ∧ h.IsCell c (some u))

structure Cx.Ok (X : Cx) : Prop where
  mod : Mod X.K X.mg X.base
  kind : X.env.scope.kind = .function
  glob : X.env.globals = mainGlobals
  blt : X.env.builtins = builtinsNs
  above : X.s₀.heap.objs.size ≤ X.env.locals
  inj : ∀ x y c, X.env.cells.lookup x = some c → X.env.cells.lookup y = some c → x = y
  has : ∀ x, (X.env.kindOf x = some .cell ∨ X.env.kindOf x = some .free) → ∃ c, X.env.cells.lookup x = some c
  cab : ∀ x c, X.fn x = true → X.env.cells.lookup x = some c → X.s₀.heap.objs.size ≤ c
  hd : X.calm = true → X.A.handled = none
  frames : X.A.frames = some X.stack
  stk : X.stack = X.outer ∨ (X.stack = X.env :: X.outer ∧ X.env.frame = some X.env.locals)
  exf : ∀ b ∈ X.ex, b ≠ X.env.locals ∧ ∀ x c, X.env.cells.lookup x = some c → c ≠ b
  bs : ∀ b o, X.base.get? b = some o → X.s₀.heap.get? b = some o ∧ X.H₀ b = none
  bsz : X.base.objs.size ≤ X.s₀.heap.objs.size
  noex : ∀ b o, X.base.get? b = some o → b ∉ X.ex
  exfs : ∀ b ∈ X.ex, b ∉ X.fs
  funs : X.s₀.heap.FunFrames X.base X.outer
  frf : ∀ b ∈ X.fs, X.H₀ b = none

structure Inv (X : Cx) (pins : List (Addr × Obj)) (σ : List (Option V)) (H : Hp) (s : Shared) : Prop where
  ok : X.Ok
  os : s.os = X.s₀.os
  bare : AllBare s.gens
  base : Un X.fs X.ex X.H₀ H X.s₀.heap s.heap
  loc : ∃ m, s.heap.Ns X.env.locals m ∧ ∀ (i : Nat) (x : Str) (v : V), X.N[i]? = some x → σ[i]? = some (some v) → Vis X.env.scope x → ∃ u, RelV v u ∧ Look X.env s.heap m x u
  cell : ∀ x c, X.env.cells.lookup x = some c → ∃ v, s.heap.IsCell c v
  free : H X.env.locals = none
  freeC : ∀ x c, X.env.cells.lookup x = some c → H c = none
  pin : ∀ p ∈ X.pn ++ pins, s.heap.get? p.1 = some p.2 ∧ H p.1 = none ∧ p.1 ≠ X.env.locals ∧ p.1 ∉ X.fs ∧ ∀ v, p.2.data ≠ .cell v
  hok : HOk X.prog X.w H s.heap
  len : σ.length = X.N.length

section
variable {X : Cx} {pins : List (Addr × Obj)} {σ : List (Option V)} {H H' : Hp} {s : Shared} {h' : Heap}

theorem Cx.Ok.nofr (ok : X.Ok) {b : Addr} {o : Obj} (e : X.base.get? b = some o) : b ∉ X.fs := fun hb => by
  have := (ok.funs.mem hb).1
  rw [e] at this; cases this
theorem Inv.bs (I : Inv X pins σ H s) : ∀ b o, X.base.get? b = some o → s.heap.get? b = some o ∧ H b = none := fun b o e =>
  ⟨I.base.keep b o (I.ok.bs b o e).1 (I.ok.bs b o e).2 (I.ok.nofr e) (I.ok.noex b o e), I.base.free b o (I.ok.bs b o e).1 (I.ok.bs b o e).2 (I.ok.noex b o e)⟩
theorem Inv.bk (I : Inv X pins σ H s) : ∀ b o, X.base.get? b = some o → s.heap.get? b = some o := fun b o e => (I.bs b o e).1
theorem Inv.mod (I : Inv X pins σ H s) : Mod X.K X.mg X.base := I.ok.mod
theorem Inv.kIn (I : Inv X pins σ H s) : X.K.In s.heap := I.ok.mod.kin.keeps I.bk
theorem Inv.nolimit (I : Inv X pins σ H s) : s.heap.NoLimit := I.ok.mod.nolimit.keeps I.bk
/-- the frame over the base: for OpenK's rules (K.In X.base is I.mod.kin) -/
theorem Inv.fr (I : Inv X pins σ H s) : ∃ m, Fr X.base X.env.locals s.heap m :=
  let ⟨m, hn, _⟩ := I.loc
  ⟨m, hn, I.bk, Nat.le_trans I.ok.bsz I.ok.above⟩
theorem Inv.lt (I : Inv X pins σ H s) : X.env.locals < s.heap.objs.size := let ⟨_, hn, _⟩ := I.loc; hn.lt
theorem Inv.sz (I : Inv X pins σ H s) : X.s₀.heap.objs.size ≤ s.heap.objs.size := Nat.le_trans I.ok.above (Nat.le_of_lt I.lt)
theorem Inv.nofs (I : Inv X pins σ H s) {a : Addr} (h : s.heap.objs.size ≤ a) : a ∉ X.fs := fun hb => by
  obtain ⟨_, o, ho, _⟩ := I.ok.funs.mem hb
  exact absurd (Nat.lt_of_lt_of_le (Heap.lt_size ho) (Nat.le_trans I.sz h)) (Nat.lt_irrefl _)
theorem Inv.cne (I : Inv X pins σ H s) : ∀ x c, X.env.cells.lookup x = some c → c ≠ X.env.locals := fun x c e z => by
  obtain ⟨v, o, ho, hd⟩ := I.cell x c e
  obtain ⟨m, ⟨o', es, ep, ho', hd', _⟩, _⟩ := I.loc
  rw [z, ho'] at ho; cases ho; rw [hd'] at hd; cases hd
theorem Inv.funs (I : Inv X pins σ H s) : s.heap.FunFrames X.base X.outer := by
  have all : ∀ (l : List Env), (∀ b ∈ frs l, b ∈ X.fs) → X.s₀.heap.FunFrames X.base l → s.heap.FunFrames X.base l := by
    intro l
    induction l with
    | nil => intro _ _; trivial
    | cons env r ih =>
      intro hs hl
      obtain ⟨hk, ⟨L, o, hf, hn, ho, hd⟩, hr⟩ := hl
      have hL : L ∈ X.fs := hs L (by unfold frs; rw [List.filterMap_cons, hf]; exact List.mem_cons_self)
      obtain ⟨sl, e⟩ := I.base.slot L o ho (I.ok.frf L hL) hL fun z => I.ok.exfs L z hL
      exact ⟨hk, ⟨L, _, hf, hn, e, hd⟩, ih (fun b hb => hs b (by unfold frs; rw [List.filterMap_cons, hf]; exact List.mem_cons_of_mem _ hb)) hr⟩
  exact all X.outer (fun _ hb => hb) I.ok.funs

/-- the frames that run, for a call -/
theorem Inv.stack (I : Inv X pins σ H s) : s.heap.FunFrames X.base X.stack := by
  rcases I.ok.stk with e | ⟨e, hf⟩
  · rw [e]; exact I.funs
  · rw [e]
    obtain ⟨m, hn, _⟩ := I.loc
    refine .cons (by rw [I.ok.kind]; decide) hf hn ?_ I.funs
    exact Heap.get?_none_of_le (Nat.le_trans I.ok.bsz I.ok.above)
theorem Inv.stkSub (I : Inv X pins σ H s) : ∀ b ∈ frs X.stack, b ∈ X.env.locals :: X.fs := fun b hb => by
  rcases I.ok.stk with e | ⟨e, hf⟩
  · rw [e] at hb; exact List.mem_cons_of_mem _ hb
  · rw [e] at hb
    unfold frs at hb
    rw [List.filterMap_cons, hf] at hb
    exact hb
theorem Inv.stkFree (I : Inv X pins σ H s) : ∀ b ∈ frs X.stack, H b = none := fun b hb => by
  rcases List.mem_cons.mp (I.stkSub b hb) with e | hb
  · rw [e]; exact I.free
  · obtain ⟨_, o, ho, _⟩ := I.ok.funs.mem hb
    exact I.base.free b o ho (I.ok.frf b hb) fun z => I.ok.exfs b z hb

/-- THE STEP: the untracked objects but the frame and the records at ch are kept (the callers' frames up to slots), the frame's map is kept, the new abstract heap is held -/
theorem Inv.step {g' : Array GenState} {t' : Nat} {d' : Drawn} {ch : List Addr} (I : Inv X pins σ H s)
    (hch : ∀ b ∈ ch, (b ∈ X.ex ∨ X.s₀.heap.objs.size ≤ b) ∧ b ≠ X.env.locals ∧ (∀ x c, X.env.cells.lookup x = some c → c ≠ b) ∧ ∀ p ∈ X.pn ++ pins, p.1 ≠ b)
    (keep : ∀ b o, b ≠ X.env.locals → b ∉ X.fs → b ∉ ch → s.heap.get? b = some o → H b = none → h'.get? b = some o)
    (slot : ∀ b o, b ≠ X.env.locals → b ∈ X.fs → b ∉ ch → s.heap.get? b = some o → H b = none → ∃ sl, h'.get? b = some { o with slots := sl }) (free : ∀ b o, b ∉ ch → s.heap.get? b = some o → H b = none → H' b = none)
    (there : ∀ b o, b ∉ ch → s.heap.get? b = some o → ∃ o', h'.get? b = some o')
    (tups : ∀ b xs, H b = some (.tup xs) → H' b = some (.tup xs)) (frzs : ∀ b o u, H b = some (.frz o u) → H' b = some (.frz o u)) (tbls : ∀ b ps, H b = some (.tbl ps) → ∃ more, H' b = some (.tbl (ps ++ more)))
    (ns : ∀ m, s.heap.Ns X.env.locals m → h'.Ns X.env.locals m) (hok : HOk X.prog X.w H' h') (hg : AllBare g') :
    Inv X pins σ H' { s with heap := h', gens := g', drawn := d', toks := t' } := by
  have neL : ∀ b o, X.s₀.heap.get? b = some o → b ≠ X.env.locals := fun b o e => Nat.ne_of_lt (Nat.lt_of_lt_of_le (Heap.lt_size e) I.ok.above)
  have neC : ∀ b o, X.s₀.heap.get? b = some o → b ∉ X.ex → b ∉ ch := fun b o e hx hb => by
    rcases (hch b hb).1 with z | z
    · exact hx z
    · exact absurd (Nat.lt_of_lt_of_le (Heap.lt_size e) z) (Nat.lt_irrefl _)
  have cellK : ∀ x c, X.env.cells.lookup x = some c → ∀ v, s.heap.IsCell c v → h'.IsCell c v := fun x c e v ⟨o, ho, hd⟩ => by
    have nch : c ∉ ch := fun z => (hch c z).2.2.1 x c e rfl
    by_cases hc : c ∈ X.fs
    · obtain ⟨sl, q⟩ := slot c o (I.cne x c e) hc nch ho (I.freeC x c e)
      exact ⟨_, q, hd⟩
    · exact ⟨o, keep c o (I.cne x c e) hc nch ho (I.freeC x c e), hd⟩
  refine ⟨I.ok, I.os, hg, ⟨fun b o e n hb hx => ?_, fun b o e n hb hx => ?_, fun b o e n hx => ?_, fun b o e hx => ?_, fun b xs e => tups b xs (I.base.tups b xs e), fun b o xs e => frzs b o xs (I.base.frzs b o xs e), fun b ps e => ?_⟩, ?_, fun x c e => ?_, ?_, fun x c e => ?_, fun p hp => ?_, hok, I.len⟩
  · exact keep b o (neL b o e) hb (neC b o e hx) (I.base.keep b o e n hb hx) (I.base.free b o e n hx)
  · obtain ⟨sl, e1⟩ := I.base.slot b o e n hb hx
    obtain ⟨sl', e2⟩ := slot b _ (neL b o e) hb (neC b o e hx) e1 (I.base.free b o e n hx)
    exact ⟨sl', e2⟩
  · obtain ⟨o', e1⟩ := I.base.there b o e hx
    exact free b o' (neC b o e hx) e1 (I.base.free b o e n hx)
  · obtain ⟨o', e1⟩ := I.base.there b o e hx
    exact there b o' (neC b o e hx) e1
  · obtain ⟨m1, e1⟩ := I.base.tbls b ps e
    obtain ⟨m2, e2⟩ := tbls b _ e1
    exact ⟨m1 ++ m2, by rw [e2, Array.append_assoc]⟩
  · obtain ⟨m, hn, hl⟩ := I.loc
    refine ⟨m, ns m hn, fun i x v e1 e2 e3 => ?_⟩
    obtain ⟨u, r, l⟩ := hl i x v e1 e2 e3
    refine ⟨u, r, ?_⟩
    rcases l with l | ⟨k, c, e, z⟩
    · exact .inl l
    · exact .inr ⟨k, c, e, cellK x c e _ z⟩
  · obtain ⟨v, z⟩ := I.cell x c e
    exact ⟨v, cellK x c e v z⟩
  · obtain ⟨m, ⟨o, _, _, ho, _⟩, _⟩ := I.loc
    exact free _ o (fun z => (hch _ z).2.1 rfl) ho I.free
  · obtain ⟨v, o, ho, hd⟩ := I.cell x c e
    exact free c o (fun z => (hch c z).2.2.1 x c e rfl) ho (I.freeC x c e)
  · obtain ⟨e, n, ne, nf, d⟩ := I.pin p hp
    have nch : p.1 ∉ ch := fun z => (hch p.1 z).2.2.2 p hp rfl
    exact ⟨keep p.1 p.2 ne nf nch e n, free p.1 p.2 nch e n, ne, nf, d⟩
/-- .. where the frame's own object is kept too -/
theorem Inv.un {t' : Nat} (I : Inv X pins σ H s) (u : Un X.fs [] H H' s.heap h') (hok : HOk X.prog X.w H' h') : Inv X pins σ H' { s with heap := h', toks := t' } := by
  obtain ⟨m, ⟨o, es, ep, ho, r⟩, _⟩ := id I.loc
  obtain ⟨sl, hL⟩ := u.any ho I.free (by simp)
  exact I.step (g' := s.gens) (d' := s.drawn) (ch := []) (fun _ z => nomatch z) (fun b o _ hb _ e n => u.keep b o e n hb (by simp)) (fun b o _ hb _ e n => u.slot b o e n hb (by simp)) (fun b o _ e n => u.free b o e n (by simp)) (fun b o _ e => u.there b o e (by simp)) u.tups u.frzs u.tbls (fun m' hm => by
    obtain ⟨o', es', ep', ho', r'⟩ := hm
    rw [ho] at ho'; cases ho'
    exact ⟨_, es', ep', hL, r'⟩) hok I.bare
/-- behind a call (or a comprehension's block): the slots of this frame may have changed too, the records at ch may have turned -/
theorem Inv.call {g' : Array GenState} {t' : Nat} {d' : Drawn} {ch : List Addr} (I : Inv X pins σ H s) (u : Un (frs X.stack) ch H H' s.heap h') (hok : HOk X.prog X.w H' h') (hg : AllBare g')
    (hch : ∀ b ∈ ch, (b ∈ X.ex ∨ X.s₀.heap.objs.size ≤ b) ∧ b ≠ X.env.locals ∧ (∀ x c, X.env.cells.lookup x = some c → c ≠ b) ∧ ∀ p ∈ X.pn ++ pins, p.1 ≠ b) :
    Inv X pins σ H' { s with heap := h', gens := g', drawn := d', toks := t' } := by
  obtain ⟨m, ⟨o, es, ep, ho, r⟩, _⟩ := id I.loc
  obtain ⟨sl, hL⟩ := u.any ho I.free fun z => (hch _ z).2.1 rfl
  exact I.step (ch := ch) hch (fun b o hL hb hc e n => u.keep b o e n (fun z => (List.mem_cons.mp (I.stkSub b z)).elim hL hb) hc) (fun b o _ _ hc e n => u.any e n hc) (fun b o hc e n => u.free b o e n hc) (fun b o hc e => u.there b o e hc) u.tups u.frzs u.tbls (fun m' hm => by
    obtain ⟨o', es', ep', ho', r'⟩ := hm
    rw [ho] at ho'; cases ho'
    exact ⟨_, es', ep', hL, r'⟩) hok hg
/-- an untracked record of ours (an iterator) has turned -/
theorem Inv.turned {t' : Nat} {it : Addr} (I : Inv X pins σ H s) (k : ∀ b o, b ≠ it → s.heap.get? b = some o → h'.get? b = some o) (hn : H it = none) (hL : it ≠ X.env.locals)
    (h1 : it ∈ X.ex ∨ X.s₀.heap.objs.size ≤ it) (h2 : ∀ x c, X.env.cells.lookup x = some c → c ≠ it) (h3 : ∀ p ∈ X.pn ++ pins, p.1 ≠ it) : Inv X pins σ H { s with heap := h', toks := t' } := by
  have nit : ∀ b u, H b = some u → b ≠ it := fun b u e z => by rw [z, hn] at e; cases e
  refine I.step (g' := s.gens) (d' := s.drawn) (ch := [it]) (fun b hb => ?_) (fun b o _ _ hc e _ => k b o (fun z => hc (by simp [z])) e) (fun b o _ _ hc e _ => ⟨o.slots, k b o (fun z => hc (by simp [z])) e⟩) (fun _ _ _ _ n => n)
    (fun b o hc e => ⟨o, k b o (fun z => hc (by simp [z])) e⟩) (fun _ _ e => e) (fun _ _ _ e => e) (fun b ps e => ⟨#[], by rw [e]; simp⟩) (fun m hm => ?_) (fun b u e => ?_) I.bare
  · have e : b = it := by simpa using hb
    subst e
    exact ⟨h1, hL, h2, h3⟩
  · obtain ⟨o, es, ep, ho, r⟩ := hm
    exact ⟨o, es, ep, k _ o (Ne.symm hL) ho, r⟩
  · refine (I.hok b u e).stay (fun c v hc q => k c v ?_ q) (fun _ q => q) fun _ _ q => q
    rcases hc with z | z
    · rw [z]; exact nit b u e
    · exact nit c _ z
theorem Inv.tok (I : Inv X pins σ H s) (t : Nat) : Inv X pins σ H { s with toks := t } := I.un (h' := s.heap) (t' := t) Un.refl I.hok
/-- all objects kept -/
theorem Inv.kept {t' : Nat} (I : Inv X pins σ H s) (k : ∀ b u, s.heap.get? b = some u → h'.get? b = some u) : Inv X pins σ H { s with heap := h', toks := t' } := I.un (Un.kept k) (I.hok.kept k)
/-- a new object laid and tracked -/
theorem Inv.laid {a : Addr} {o : HO} {t' : Nat} (I : Inv X pins σ H s) (k : ∀ b u, s.heap.get? b = some u → h'.get? b = some u) (hp : s.heap.objs.size ≤ a) (new : ObjOk X.prog X.w (upd H a o) h' a o) :
    Inv X pins σ (upd H a o) { s with heap := h', toks := t' } := I.un (Un.laid k hp (I.hok.fresh hp)) (I.hok.laid k hp new)
/-- an object written -/
theorem Inv.write {x e : Addr} {o : HO} {t' : Nat} (I : Inv X pins σ H s) (mu : Mut (H x)) (he : e = x ∨ H e = some (.own x)) (k : ∀ b u, b ≠ e → s.heap.get? b = some u → h'.get? b = some u) (heo : ∃ u, h'.get? e = some u)
    (new : ObjOk X.prog X.w (upd H x o) h' x o) : Inv X pins σ (upd H x o) { s with heap := h', toks := t' } := I.un (Un.write mu he k heo) (I.hok.write mu he k heo new)
/-- forgetting slots, pins -/
theorem Inv.weak {σ' : List (Option V)} (I : Inv X pins σ H s) (hl : σ'.length = σ.length) (w : ∀ (i : Nat) v, σ'[i]? = some (some v) → σ[i]? = some (some v)) : Inv X pins σ' H s :=
  ⟨I.ok, I.os, I.bare, I.base, let ⟨m, hn, hl'⟩ := I.loc; ⟨m, hn, fun i x v e1 e2 e3 => hl' i x v e1 (w i v e2) e3⟩, I.cell, I.free, I.freeC, I.pin, I.hok, hl.trans I.len⟩
theorem Inv.pins_of {pins' : List (Addr × Obj)} (I : Inv X pins σ H s) (h : ∀ p ∈ pins', s.heap.get? p.1 = some p.2 ∧ H p.1 = none ∧ p.1 ≠ X.env.locals ∧ p.1 ∉ X.fs ∧ ∀ v, p.2.data ≠ .cell v) : Inv X pins' σ H s :=
  ⟨I.ok, I.os, I.bare, I.base, I.loc, I.cell, I.free, I.freeC, fun p hp => (List.mem_append.mp hp).elim (fun z => I.pin p (List.mem_append_left _ z)) (h p), I.hok, I.len⟩

theorem nodup_ix {N : List Str} (hN : N.Nodup) {i j : Nat} {x : Str} (a : N[i]? = some x) (b : N[j]? = some x) : i = j := by
  obtain ⟨h1, e1⟩ := List.getElem?_eq_some_iff.mp a
  obtain ⟨h2, e2⟩ := List.getElem?_eq_some_iff.mp b
  exact (List.getElem_inj hN).mp (e1.trans e2.symm)

/-- a name is stored; what changed -/
theorem store_ok2 {M : Model} {A : Around} {E : Value → Shared → Prop} {i : Nat} {x : Str} {v : V} {u : Value} {Q : Unit → Shared → Prop} (I : Inv X pins σ H s) (hN : X.N.Nodup) (hi : X.N[i]? = some x) (hx : Loc X.env.scope x) (r : RelV v u)
    (h : ∀ s', Inv X pins (σ.set i (some v)) H s' → (∃ a, Heap.SameBut a s.heap s'.heap ∧ (a = X.env.locals ∨ X.env.cells.lookup x = some a)) → Q () s') (hf : X.fn x = true ∨ X.env.scope.names.lookup x = some .local := by first | exact .inl rfl | exact .inr rfl | assumption) : wpAny M A (storeName X.env x u) Q E s := by
  obtain ⟨m, hn, hl⟩ := id I.loc
  have hcls : (X.env.scope.kind == .class || (X.env.scope.kind == .module && X.env.locals != X.env.globals)) = false := by rw [I.ok.kind]; rfl
  have hiσ : i < σ.length := by rw [I.len]; exact (List.getElem?_eq_some_iff.mp hi).1
  have cne := I.cne
  have tracked : ∀ {a : Addr} {h' : Heap}, (∃ o, s.heap.get? a = some o ∧ H a = none) → Heap.SameBut a s.heap h' → HOk X.prog X.w H h' := fun {a h'} ha hs b ob e => by
    obtain ⟨_, _, hfree⟩ := ha
    refine (I.hok b ob e).stay (fun c w' hc q => (hs.2 c ?_).trans q) (fun _ q => q) fun _ _ q => q
    rintro rfl
    rcases hc with rfl | hc
    · rw [hfree] at e; cases e
    · rw [hfree] at hc; cases hc
  rcases hx with hk | hk
  · refine wpAny_storeName_local hk hn (fun h' hn' hs => ?_) hcls
    obtain ⟨oL, _, _, hoL, _⟩ := id hn
    refine h _ ⟨I.ok, I.os, I.bare, ⟨fun b o e n hb hx => ?_, fun b o e n hb hx => ?_, I.base.free, fun b o e hx => ?_, I.base.tups, I.base.frzs, I.base.tbls⟩, ⟨_, hn', fun j y v' e1 e2 e3 => ?_⟩, fun y c e => ?_, I.free, I.freeC, fun p hp => ?_, tracked ⟨oL, hoL, I.free⟩ hs, by simpa using I.len⟩ ⟨_, hs, .inl rfl⟩
    · exact (hs.2 b (Nat.ne_of_lt (Nat.lt_of_lt_of_le (Heap.lt_size e) I.ok.above))).trans (I.base.keep b o e n hb hx)
    · obtain ⟨sl, e1⟩ := I.base.slot b o e n hb hx
      exact ⟨sl, (hs.2 b (Nat.ne_of_lt (Nat.lt_of_lt_of_le (Heap.lt_size e) I.ok.above))).trans e1⟩
    · obtain ⟨o', e1⟩ := I.base.there b o e hx
      exact ⟨o', (hs.2 b (Nat.ne_of_lt (Nat.lt_of_lt_of_le (Heap.lt_size e) I.ok.above))).trans e1⟩
    · by_cases hj : j = i
      · subst hj
        rw [hi] at e1; cases e1
        rw [List.getElem?_set_self hiσ] at e2
        cases e2
        exact ⟨u, r, .inl ⟨hk, by simp⟩⟩
      · rw [List.getElem?_set_ne (Ne.symm hj)] at e2
        obtain ⟨u', r', q⟩ := hl j y v' e1 e2 e3
        refine ⟨u', r', ?_⟩
        rcases q with ⟨k, e⟩ | ⟨k, c, e, z⟩
        · refine .inl ⟨k, ?_⟩
          have : y ≠ x := fun e => hj (nodup_ix hN e1 (e ▸ hi))
          simp [this, e]
        · exact .inr ⟨k, c, e, z.sameBut hs (cne y c e)⟩
    · obtain ⟨w', z⟩ := I.cell y c e
      exact ⟨w', z.sameBut hs (cne y c e)⟩
    · obtain ⟨e, n, ne, nf, d⟩ := I.pin p hp
      exact ⟨(hs.2 p.1 ne).trans e, n, ne, nf, d⟩
  · have hfn : X.fn x = true := by
      rcases hf with z | z
      · exact z
      · rw [z] at hk; cases hk
    obtain ⟨c, hc⟩ := I.ok.has x (.inl hk)
    obtain ⟨w', z⟩ := I.cell x c hc
    refine wpAny_storeName_cell I.ok.kind hk hc z (fun h' hc' hs => ?_)
    obtain ⟨oc, hoc, hocd⟩ := id z
    refine h { s with heap := h' } ⟨I.ok, I.os, I.bare, ⟨fun b o e n hb hx => ?_, fun b o e n hb hx => ?_, I.base.free, fun b o e hx => ?_, I.base.tups, I.base.frzs, I.base.tbls⟩, ⟨m, hn.sameBut hs (Ne.symm (cne x c hc)), fun j y v' e1 e2 e3 => ?_⟩, fun y c' e => ?_, I.free, I.freeC, fun p hp => ?_, tracked ⟨oc, hoc, I.freeC x c hc⟩ hs, by simpa using I.len⟩ ⟨c, hs, .inr hc⟩
    · exact (hs.2 b (Nat.ne_of_lt (Nat.lt_of_lt_of_le (Heap.lt_size e) (I.ok.cab x c hfn hc)))).trans (I.base.keep b o e n hb hx)
    · obtain ⟨sl, e1⟩ := I.base.slot b o e n hb hx
      exact ⟨sl, (hs.2 b (Nat.ne_of_lt (Nat.lt_of_lt_of_le (Heap.lt_size e) (I.ok.cab x c hfn hc)))).trans e1⟩
    · obtain ⟨o', e1⟩ := I.base.there b o e hx
      exact ⟨o', (hs.2 b (Nat.ne_of_lt (Nat.lt_of_lt_of_le (Heap.lt_size e) (I.ok.cab x c hfn hc)))).trans e1⟩
    · by_cases hj : j = i
      · subst hj
        rw [hi] at e1; cases e1
        rw [List.getElem?_set_self hiσ] at e2
        cases e2
        exact ⟨u, r, .inr ⟨.inl hk, c, hc, hc'⟩⟩
      · rw [List.getElem?_set_ne (Ne.symm hj)] at e2
        obtain ⟨u', r', q⟩ := hl j y v' e1 e2 e3
        refine ⟨u', r', ?_⟩
        rcases q with q | ⟨k, c', e, z'⟩
        · exact .inl q
        · refine .inr ⟨k, c', e, z'.sameBut hs ?_⟩
          rintro rfl
          exact hj (nodup_ix hN e1 (I.ok.inj _ _ _ e hc ▸ hi))
    · by_cases hcc : c' = c
      · subst hcc; exact ⟨_, hc'⟩
      · obtain ⟨w2, z2⟩ := I.cell y c' e
        exact ⟨w2, z2.sameBut hs hcc⟩
    · obtain ⟨e, n, ne, nf, d⟩ := I.pin p hp
      refine ⟨(hs.2 p.1 ?_).trans e, n, ne, nf, d⟩
      intro q
      rw [q, hoc] at e
      have q' : oc = p.2 := Option.some.inj e
      exact d w' (by rw [← q']; exact hocd)
theorem store_ok {M : Model} {A : Around} {E : Value → Shared → Prop} {i : Nat} {x : Str} {v : V} {u : Value} {Q : Unit → Shared → Prop} (I : Inv X pins σ H s) (hN : X.N.Nodup) (hi : X.N[i]? = some x) (hx : Loc X.env.scope x) (r : RelV v u)
    (h : ∀ s', Inv X pins (σ.set i (some v)) H s' → Q () s') (hf : X.fn x = true ∨ X.env.scope.names.lookup x = some .local := by first | exact .inl rfl | exact .inr rfl | assumption) : wpAny M A (storeName X.env x u) Q E s :=
  store_ok2 I hN hi hx r (fun s' I' _ => h s' I') hf
/-- behind a call or a block, the state as it is -/
theorem Inv.call' {s' : Shared} {ch : List Addr} (I : Inv X pins σ H s) (ho : s'.os = s.os) (u : Un (frs X.stack) ch H H' s.heap s'.heap) (hok : HOk X.prog X.w H' s'.heap) (hg : AllBare s'.gens)
    (hch : ∀ b ∈ ch, (b ∈ X.ex ∨ X.s₀.heap.objs.size ≤ b) ∧ b ≠ X.env.locals ∧ (∀ x c, X.env.cells.lookup x = some c → c ≠ b) ∧ ∀ p ∈ X.pn ++ pins, p.1 ≠ b) : Inv X pins σ H' s' := by
  obtain ⟨h', g', d', t', o'⟩ := s'
  have e : o' = s.os := ho
  subst e
  exact I.call (g' := g') (t' := t') (d' := d') u hok hg hch
end

/-! ### the judgements -/
/-- an exception: its class, its own dict's address (where it has one), the abstract heap behind it -/
abbrev XK := Value → Option Addr → Hp → Prop
abbrev St := List (Option V)
abbrev VK := V → Hp → Prop
/-- an expression's reading; a test's; an argument list's -/
abbrev TE := St → Hp → VK → Prop
abbrev TT := St → Hp → (Bool → Hp → Prop) → Prop
abbrev TA := St → Hp → (List V → Hp → Prop) → Prop
/-- what is wanted behind a statement -/
structure Ends where
  nx : St → Hp → Prop
  rt : VK
  bk : St → Hp → Prop := fun _ _ => False
  ct : St → Hp → Prop := fun _ _ => False
abbrev TS := Ends → St → Hp → Prop

def EP (X : Cx) (pins : List (Addr × Obj)) (σ : St) (Q : VK) (u : Value) (s' : Shared) : Prop := ∃ v H', Inv X pins σ H' s' ∧ RelV v u ∧ Q v H'
def TP (X : Cx) (pins : List (Addr × Obj)) (σ : St) (Q : Bool → Hp → Prop) (b : Bool) (s' : Shared) : Prop := ∃ H', Inv X pins σ H' s' ∧ Q b H'
def AP (X : Cx) (pins : List (Addr × Obj)) (σ : St) (Q : List V → Hp → Prop) (us : List Value) (s' : Shared) : Prop := ∃ vs H', Inv X pins σ H' s' ∧ Vals vs us ∧ Q vs H'
def SP (X : Cx) (pins : List (Addr × Obj)) (D : Ends) (f : Flow) (s' : Shared) : Prop :=
  match f with
  | .next => ∃ σ' H', Inv X pins σ' H' s' ∧ D.nx σ' H'
  | .brk => ∃ σ' H', Inv X pins σ' H' s' ∧ D.bk σ' H'
  | .cont => ∃ σ' H', Inv X pins σ' H' s' ∧ D.ct σ' H'
  | .ret u => ∃ v σ' H', Inv X pins σ' H' s' ∧ RelV v u ∧ D.rt v H'

def PE (X : Cx) (e : Expr) (t : TE) : Prop :=
  ∀ (pins : List (Addr × Obj)) (s : Shared) (σ : St) (H : Hp) (Q : VK), Inv X pins σ H s → t σ H Q → wpAny (model X.prog X.w) X.A (eval e X.env) (EP X pins σ Q) X.xe s
def PT (X : Cx) (e : Expr) (t : TT) : Prop :=
  ∀ (pins : List (Addr × Obj)) (s : Shared) (σ : St) (H : Hp) (Q : Bool → Hp → Prop), Inv X pins σ H s → t σ H Q → wpAny (model X.prog X.w) X.A (isTrue e X.env (eval e X.env)) (TP X pins σ Q) X.xe s
/-- a test whatever its 'whole' is (and, or) -/
def PW (X : Cx) (e : Expr) (t : TT) : Prop :=
  ∀ (whole : Sem Value) (pins : List (Addr × Obj)) (s : Shared) (σ : St) (H : Hp) (Q : Bool → Hp → Prop), Inv X pins σ H s → t σ H Q → wpAny (model X.prog X.w) X.A (isTrue e X.env whole) (TP X pins σ Q) X.xe s
theorem PW.pt {X : Cx} {e : Expr} {t : TT} (h : PW X e t) : PT X e t := h _
/-- an argument list (no star), from the left -/
def PA (X : Cx) (es : List Expr) (t : TA) : Prop :=
  ∀ (pos : Pos) (pins : List (Addr × Obj)) (s : Shared) (σ : St) (H : Hp) (Q : List V → Hp → Prop), Inv X pins σ H s → t σ H Q → wpAny (model X.prog X.w) X.A (spliced (backTo pos (starEach es X.env))) (AP X pins σ Q) X.xe s
def PS (X : Cx) (st : Stmt) (t : TS) : Prop :=
  ∀ (pins : List (Addr × Obj)) (s : Shared) (σ : St) (H : Hp) (D : Ends), Inv X pins σ H s → t D σ H → wpAny (model X.prog X.w) X.A (exec st X.env) (SP X pins D) X.xe s
def PSs (X : Cx) (st : List Stmt) (t : TS) : Prop :=
  ∀ (pins : List (Addr × Obj)) (s : Shared) (σ : St) (H : Hp) (D : Ends), Inv X pins σ H s → t D σ H → wpAny (model X.prog X.w) X.A (execs st X.env) (SP X pins D) X.xe s
/-- weaken the end -/
theorem thn {α : Type} {t : Sem α} {Q Q' : α → Shared → Prop} {M : Model} {A : Around} {E : Value → Shared → Prop} {s : Shared} (h : wpAny M A t Q E s) (hQ : ∀ a s, Q a s → Q' a s) : wpAny M A t Q' E s := wpAny_mono h hQ fun _ _ x => x
end L2

namespace L2
open PySem PySem.Spec PyProof.Rows
section
variable {X : Cx}

/-- two expressions in a row -/
theorem bin {a b : Expr} {ta tb : TE} (ha : PE X a ta) (hb : PE X b tb) {pins : List (Addr × Obj)} {s : Shared} {σ : St} {H : Hp} {R : V → V → Hp → Prop} (I : Inv X pins σ H s) (h : ta σ H fun x H1 => tb σ H1 fun y H2 => R x y H2)
    {α : Type} {Q : α → Shared → Prop} {f : Value → Value → Sem α}
    (hf : ∀ v u s2 x y H2, Inv X pins σ H2 s2 → RelV x v → RelV y u → R x y H2 → wpAny (model X.prog X.w) X.A (f v u) Q X.xe s2) :
    wpAny (model X.prog X.w) X.A (eval a X.env) (fun v s₁ => wpAny (model X.prog X.w) X.A (eval b X.env) (fun u s₂ => wpAny (model X.prog X.w) X.A (f v u) Q X.xe s₂) X.xe s₁) X.xe s := by
  refine thn (ha pins s σ H _ I h) fun v s1 ⟨x, H1, I1, r1, q1⟩ => ?_
  refine thn (hb pins s1 σ H1 _ I1 q1) fun u s2 ⟨y, H2, I2, r2, q2⟩ => ?_
  exact hf v u s2 x y H2 I2 r1 r2 q2

/-! ### names and constants -/
def tVar (i : Nat) : TE := fun σ H Q => ∃ v, σ[i]? = some (some v) ∧ Q v H
def tC (v : V) : TE := fun _ H Q => Q v H
theorem pe_var {i : Nat} {x : Str} {pos : Pos} (hN : X.N[i]? = some x) (hv : Vis X.env.scope x) (hd : (x == ("__debug__" : Str)) = false := by decide) (hcd : (x == ("__classdict__" : Str)) = false := by decide) : PE X (.Name x pos) (tVar i) := by
  intro pins s σ H Q I h
  obtain ⟨v, e, h⟩ := h
  obtain ⟨m, hn, hl⟩ := I.loc
  obtain ⟨u, r, l⟩ := hl i x v hN e hv
  have fin : EP X pins σ Q u s := ⟨v, H, I, r, h⟩
  rcases l with ⟨hk, hm⟩ | ⟨hk, c, hc, hcell⟩
  · exact wpAny_Name (wpAny_loadName_local I.ok.kind hk hn hm fin) hd
  · rcases hk with hk | hk
    · exact wpAny_Name (wpAny_loadName_cell I.ok.kind hk hc hcell fin) hd
    · exact wpAny_Name (wpAny_loadName_free I.ok.kind hk hc hcell fin hcd) hd
theorem pe_int {i j pos} : PE X (.Constant (.int i) j pos) (tC (.int i)) := fun _ _ _ H _ I h => wpAny_Constant_int ⟨.int i, H, I.tok _, ⟨_, rfl⟩, h⟩
theorem pe_bl {b j pos} : PE X (.Constant (.bool b) j pos) (tC (.bl b)) := fun _ _ _ H _ I h => Constant_bool ⟨.bl b, H, I, rfl, h⟩
theorem pe_non {j pos} : PE X (.Constant .none j pos) (tC .non) := fun _ _ _ H _ I h => Constant_none ⟨.non, H, I, rfl, h⟩
theorem pe_str {x j pos} : PE X (.Constant (.str x) j pos) (tC (.str x)) := fun _ _ _ H _ I h => Calls.Constant_str ⟨.str x, H, I.tok _, ⟨_, rfl⟩, h⟩

/-- a global name of the def -/
def Gl (X : Cx) (x : Str) : Prop := X.env.kindOf x = some .globalImplicit
theorem ld_glob {E : Value → Shared → Prop} {pins : List (Addr × Obj)} {s : Shared} {σ : St} {H : Hp} {x : Str} {u : Value} {pos : Pos} {Q : Value → Shared → Prop} (I : Inv X pins σ H s) (hg : Gl X x) (hm : X.mg x = some u) (h : Q u s)
    (hd : (x == ("__debug__" : Str)) = false := by decide) : wpAny (model X.prog X.w) X.A (eval (.Name x pos) X.env) Q E s :=
  Calls.Name_function_global I.ok.kind hg (Calls.loadGlobal_global (by rw [I.ok.glob]; exact I.mod.glob.keeps I.bk) hm h) hd
theorem ld_blt {E : Value → Shared → Prop} {pins : List (Addr × Obj)} {s : Shared} {σ : St} {H : Hp} {x : Str} {u : Value} {pos : Pos} {Q : Value → Shared → Prop} (I : Inv X pins σ H s) (hg : Gl X x) (hm : X.mg x = none) (hv : bootBuiltins x = some u) (h : Q u s)
    (hn : x ≠ "__name__" := by decide) (hd : (x == ("__debug__" : Str)) = false := by decide) : wpAny (model X.prog X.w) X.A (eval (.Name x pos) X.env) Q E s := by
  obtain ⟨mb, h1, h2⟩ := I.mod.blt
  exact Calls.Name_function_global I.ok.kind hg (Calls.loadGlobal_builtin (by rw [I.ok.glob]; exact I.mod.glob.keeps I.bk) hm (by rw [I.ok.blt]; exact h1.keeps I.bk) ((h2 x hn).trans hv) h) hd
/-- a module's constant, a class, a function, as a value -/
theorem pe_glob {x : Str} {v : V} {u : Value} {pos : Pos} (hg : Gl X x) (hm : X.mg x = some u) (r : RelV v u) (hd : (x == ("__debug__" : Str)) = false := by decide) : PE X (.Name x pos) (tC v) :=
  fun _ _ _ H _ I h => ld_glob I hg hm ⟨v, H, I, r, h⟩ hd
theorem pe_bltn {x : Str} {v : V} {u : Value} {pos : Pos} (hg : Gl X x) (hm : X.mg x = none) (hv : bootBuiltins x = some u) (r : RelV v u) (hn : x ≠ "__name__" := by decide) (hd : (x == ("__debug__" : Str)) = false := by decide) : PE X (.Name x pos) (tC v) :=
  fun _ _ _ H _ I h => ld_blt I hg hm hv ⟨v, H, I, r, h⟩ hn hd

/-! ### arithmetic -/
/-- two ints -/
def t2I (ta tb : TE) (k : Int → Int → Hp → Prop) : St → Hp → Prop := fun σ H => ta σ H fun x H1 => tb σ H1 fun y H2 => ∃ i j, x = .int i ∧ y = .int j ∧ k i j H2
def tAdd (ta tb : TE) : TE := fun σ H Q => t2I ta tb (fun i j H2 => Q (.int (i + j)) H2) σ H
def tSub (ta tb : TE) : TE := fun σ H Q => t2I ta tb (fun i j H2 => Q (.int (i - j)) H2) σ H
/-- the left factor below 2^64 -/
def tMul (ta tb : TE) : TE := fun σ H Q => t2I ta tb (fun i j H2 => (-(2 ^ 64) < i ∧ i < 2 ^ 64) ∧ Q (.int (i * j)) H2) σ H
variable {a b : Expr} {ta tb : TE} {pos : Pos}
theorem pe_add (ha : PE X a ta) (hb : PE X b tb) : PE X (.BinOp a .Add b pos) (tAdd ta tb) := by
  intro pins s σ H Q I h
  refine wpAny_BinOp (bin ha hb I h fun v u s2 x y H2 I2 rx ry q => ?_)
  obtain ⟨i, j, rfl, rfl, q⟩ := q
  obtain ⟨t, rfl⟩ := rx
  obtain ⟨t', rfl⟩ := ry
  exact add_int ⟨.int _, H2, I2.tok _, ⟨_, rfl⟩, q⟩
theorem pe_sub (ha : PE X a ta) (hb : PE X b tb) : PE X (.BinOp a .Sub b pos) (tSub ta tb) := by
  intro pins s σ H Q I h
  refine wpAny_BinOp (bin ha hb I h fun v u s2 x y H2 I2 rx ry q => ?_)
  obtain ⟨i, j, rfl, rfl, q⟩ := q
  obtain ⟨t, rfl⟩ := rx
  obtain ⟨t', rfl⟩ := ry
  exact sub_int ⟨.int _, H2, I2.tok _, ⟨_, rfl⟩, q⟩
theorem pe_mul (ha : PE X a ta) (hb : PE X b tb) : PE X (.BinOp a .Mult b pos) (tMul ta tb) := by
  intro pins s σ H Q I h
  refine wpAny_BinOp (bin ha hb I h fun v u s2 x y H2 I2 rx ry q => ?_)
  obtain ⟨i, j, rfl, rfl, ⟨q1, q2⟩, q⟩ := q
  obtain ⟨t, rfl⟩ := rx
  obtain ⟨t', rfl⟩ := ry
  exact mul_int ⟨.int _, H2, I2.tok _, ⟨_, rfl⟩, q⟩ (.of_left (intBits_le_64 q1 q2))

/-! ### comparisons -/
def PC (X : Cx) (op : CmpOp) (a b : Expr) (t : TE) : Prop :=
  ∀ (pins : List (Addr × Obj)) (s : Shared) (σ : St) (H : Hp) (Q : VK), Inv X pins σ H s → t σ H Q →
    wpAny (model X.prog X.w) X.A (eval a X.env) (fun v s₁ => wpAny (model X.prog X.w) X.A (eval b X.env) (fun u s₂ => wpAny (model X.prog X.w) X.A (compareOp op v u) (EP X pins σ Q) X.xe s₂) X.xe s₁) X.xe s
theorem nobehind (b : Expr) {op : CmpOp} (h : op ≠ .In) (h2 : op ≠ .NotIn) : behindInMarks op b = false := by
  have e1 : (op == CmpOp.In) = false := by cases op <;> first | rfl | exact absurd rfl h
  have e2 : (op == CmpOp.NotIn) = false := by cases op <;> first | rfl | exact absurd rfl h2
  cases b <;> simp [behindInMarks, e1, e2]
def tCmp (p : Int → Int → Bool) (ta tb : TE) : TE := fun σ H Q => t2I ta tb (fun i j H2 => Q (.bl (p i j)) H2) σ H
abbrev tLt : TE → TE → TE := tCmp fun i j => decide (i < j)
abbrev tLe : TE → TE → TE := tCmp fun i j => decide (i ≤ j)
abbrev tGt : TE → TE → TE := tCmp fun i j => decide (j < i)
abbrev tGe : TE → TE → TE := tCmp fun i j => decide (j ≤ i)
abbrev tEqI : TE → TE → TE := tCmp fun i j => decide (i = j)
abbrev tNeI : TE → TE → TE := tCmp fun i j => !decide (i = j)
/-- a comparison of two ints, by its rule -/
theorem pc_int {op : CmpOp} {p : Int → Int → Bool} (ha : PE X a ta) (hb : PE X b tb)
    (rule : ∀ (i j : Int) (t u : Tok) (Q : Value → Shared → Prop) (s : Shared), Q (.bool (p i j)) s → wpAny (model X.prog X.w) X.A (compareOp op (.int i t) (.int j u)) Q X.xe s) : PC X op a b (tCmp p ta tb) := by
  intro pins s σ H Q I h
  refine bin ha hb I h fun v u s2 x y H2 I2 rx ry q => ?_
  obtain ⟨i, j, rfl, rfl, q⟩ := q
  obtain ⟨t, rfl⟩ := rx
  obtain ⟨t', rfl⟩ := ry
  exact rule i j t t' _ s2 ⟨.bl _, H2, I2, rfl, q⟩
theorem pc_lt (ha : PE X a ta) (hb : PE X b tb) : PC X .Lt a b (tLt ta tb) := pc_int ha hb fun _ _ _ _ _ _ h => lt_int h
theorem pc_le (ha : PE X a ta) (hb : PE X b tb) : PC X .LtE a b (tLe ta tb) := pc_int ha hb fun _ _ _ _ _ _ h => le_int h
theorem pc_gt (ha : PE X a ta) (hb : PE X b tb) : PC X .Gt a b (tGt ta tb) := pc_int ha hb fun _ _ _ _ _ _ h => gt_int h
theorem pc_ge (ha : PE X a ta) (hb : PE X b tb) : PC X .GtE a b (tGe ta tb) := pc_int ha hb fun _ _ _ _ _ _ h => ge_int h
theorem pc_eqI (ha : PE X a ta) (hb : PE X b tb) : PC X .Eq a b (tEqI ta tb) := pc_int ha hb fun _ _ _ _ _ _ h => eq_int (by rw [Bool.beq_eq_decide_eq]; exact h)
theorem pc_neI (ha : PE X a ta) (hb : PE X b tb) : PC X .NotEq a b (tNeI ta tb) := pc_int ha hb fun _ _ _ _ _ _ h => ne_int (by rw [bne, Bool.beq_eq_decide_eq]; exact h)
/-- is None -/
def tIsN (ta : TE) : TE := fun σ H Q => ta σ H fun x H1 => Q (.bl (decide (x = .non))) H1
def tNotN (ta : TE) : TE := fun σ H Q => ta σ H fun x H1 => Q (.bl (!decide (x = .non))) H1
theorem RelV.none_iff {x : V} {v : Value} (r : RelV x v) : (v == Value.none) = decide (x = .non) := by
  cases x with
  | non => cases r; rfl
  | bl _ => cases r; rfl
  | int _ => obtain ⟨t, rfl⟩ := r; rfl
  | str _ => obtain ⟨t, rfl⟩ := r; rfl
  | byt _ => obtain ⟨t, rfl⟩ := r; rfl
  | flt _ => obtain ⟨t, rfl⟩ := r; rfl
  | ref _ => cases r; rfl
  | ty _ => cases r; rfl
theorem pc_isN {j pos'} (ha : PE X a ta) : PC X .Is a (.Constant .none j pos') (tIsN ta) := by
  intro pins s σ H Q I h
  refine thn (ha pins s σ H _ I h) fun v s1 ⟨x, H1, I1, r1, q1⟩ => ?_
  exact Constant_none (is_none_gen ⟨.bl _, H1, I1, by rw [r1.none_iff]; rfl, q1⟩)
theorem pc_notN {j pos'} (ha : PE X a ta) : PC X .IsNot a (.Constant .none j pos') (tNotN ta) := by
  intro pins s σ H Q I h
  refine thn (ha pins s σ H _ I h) fun v s1 ⟨x, H1, I1, r1, q1⟩ => ?_
  exact Constant_none (isnot_none_gen ⟨.bl _, H1, I1, by rw [r1.none_iff]; rfl, q1⟩)
/-- a comparison as a value, as a test -/
def tB (t : TE) : TT := fun σ H Q => t σ H fun x H1 => ∃ c, x = .bl c ∧ Q c H1
theorem pe_cmp {op : CmpOp} {t : TE} (h : PC X op a b t) (h1 : behindInMarks op b = false := by first | exact nobehind _ (by decide) (by decide) | rfl) : PE X (.Compare a [op] [b] pos) t := fun pins s σ H Q I hw => wpAny_Compare1 (h pins s σ H Q I hw) h1
theorem pt_cmp {op : CmpOp} {t : TE} (h : PC X op a b t) (h1 : behindInMarks op b = false := by first | exact nobehind _ (by decide) (by decide) | rfl) : PT X (.Compare a [op] [b] pos) (tB t) := by
  intro pins s σ H Q I hw
  refine wpAny_isTrue_Compare1 (thn (h pins s σ H _ I hw) fun v s1 h1 => thn h1 fun u s2 h2 => thn h2 fun c s3 ⟨x, H1, I1, r1, q1⟩ => ?_) h1
  obtain ⟨d, rfl, q⟩ := q1
  cases r1
  exact wpAny_truthy_bool ⟨H1, I1, q⟩
/-- an expression whose value is a bool, as a test -/
theorem pt_val {e : Expr} {t : TE} (h : PE X e t) (he : ∀ whole, isTrue e X.env whole = (do let v ← whole; standAt e.pos; holding [v] (truthy v)) := by intro _; rfl) : PT X e (tB t) := by
  intro pins s σ H Q I hw
  refine isTrue_plain (thn (h pins s σ H _ I hw) fun v s1 ⟨x, H1, I1, r1, q1⟩ => ?_) (he _)
  obtain ⟨d, rfl, q⟩ := q1
  cases r1
  exact wpAny_truthy_bool ⟨H1, I1, q⟩

/-! ### and, or, not -/
variable {tA tB' : TT} {rest : List Expr}
def tAnd (t u : TT) : TT := fun σ H Q => t σ H fun c H1 => if c = true then u σ H1 Q else Q false H1
def tOr (t u : TT) : TT := fun σ H Q => t σ H fun c H1 => if c = true then Q true H1 else u σ H1 Q
def tNot (t : TT) : TT := fun σ H Q => t σ H fun c H1 => Q (!c) H1
theorem pw_and1 (ha : PT X a tA) : PW X (.BoolOp .And [a] pos) tA := by
  intro wh pins s σ H Q I h
  refine isTrue_and (thn (ha pins s σ H Q I h) fun c s1 e => ?_)
  cases c with
  | true => exact isTrue_and_nil e
  | false => exact e
theorem pw_or1 (ha : PT X a tA) : PW X (.BoolOp .Or [a] pos) tA := by
  intro wh pins s σ H Q I h
  refine isTrue_or (thn (ha pins s σ H Q I h) fun c s1 e => ?_)
  cases c with
  | false => exact isTrue_or_nil e
  | true => exact e
theorem pw_and (ha : PT X a tA) (hb : PW X (.BoolOp .And (b :: rest) pos) tB') : PW X (.BoolOp .And (a :: b :: rest) pos) (tAnd tA tB') := by
  intro wh pins s σ H Q I h
  refine isTrue_and (thn (ha pins s σ H _ I h) fun c s1 ⟨H1, I1, q1⟩ => ?_)
  cases c with
  | true => exact hb wh pins s1 σ H1 Q I1 q1
  | false => exact ⟨H1, I1, q1⟩
theorem pw_or (ha : PT X a tA) (hb : PW X (.BoolOp .Or (b :: rest) pos) tB') : PW X (.BoolOp .Or (a :: b :: rest) pos) (tOr tA tB') := by
  intro wh pins s σ H Q I h
  refine isTrue_or (thn (ha pins s σ H _ I h) fun c s1 ⟨H1, I1, q1⟩ => ?_)
  cases c with
  | true => exact ⟨H1, I1, q1⟩
  | false => exact hb wh pins s1 σ H1 Q I1 q1
theorem pt_not (ha : PT X a tA) : PT X (.UnaryOp .Not a pos) (tNot tA) := by
  intro pins s σ H Q I h
  exact isTrue_not (ha pins s σ H (fun c H1 => Q (!c) H1) I h)
/-- .. as values (bools) -/
def tAndV (ta tb : TE) : TE := fun σ H Q => ta σ H fun x H1 => ∃ c, x = .bl c ∧ if c = true then tb σ H1 Q else Q (.bl false) H1
def tOrV (ta tb : TE) : TE := fun σ H Q => ta σ H fun x H1 => ∃ c, x = .bl c ∧ if c = true then Q (.bl true) H1 else tb σ H1 Q
def tNotV (ta : TE) : TE := fun σ H Q => ta σ H fun x H1 => ∃ c, x = .bl c ∧ Q (.bl (!c)) H1
theorem pe_one {op} {t : TE} (h : PE X a t) : PE X (.BoolOp op [a] pos) t := fun pins s σ H Q I hw => BoolOp_one (h pins s σ H Q I hw)
theorem pe_and (ha : PE X a ta) (hb : PE X (.BoolOp .And (b :: rest) pos) tb) : PE X (.BoolOp .And (a :: b :: rest) pos) (tAndV ta tb) := by
  intro pins s σ H Q I h
  refine BoolOp_and (thn (ha pins s σ H _ I h) fun v s1 ⟨x, H1, I1, r1, q1⟩ => ?_)
  obtain ⟨c, rfl, q1⟩ := q1
  cases r1
  refine wpAny_truthy_bool ?_
  cases c with
  | true => exact hb pins s1 σ H1 Q I1 q1
  | false => exact ⟨.bl false, H1, I1, rfl, q1⟩
theorem pe_or (ha : PE X a ta) (hb : PE X (.BoolOp .Or (b :: rest) pos) tb) : PE X (.BoolOp .Or (a :: b :: rest) pos) (tOrV ta tb) := by
  intro pins s σ H Q I h
  refine BoolOp_or (thn (ha pins s σ H _ I h) fun v s1 ⟨x, H1, I1, r1, q1⟩ => ?_)
  obtain ⟨c, rfl, q1⟩ := q1
  cases r1
  refine wpAny_truthy_bool ?_
  cases c with
  | false => exact hb pins s1 σ H1 Q I1 q1
  | true => exact ⟨.bl true, H1, I1, rfl, q1⟩
theorem pe_not (ha : PE X a ta) : PE X (.UnaryOp .Not a pos) (tNotV ta) := by
  intro pins s σ H Q I h
  refine UnaryOp_ (thn (ha pins s σ H _ I h) fun v s1 ⟨x, H1, I1, r1, q1⟩ => ?_)
  obtain ⟨c, rfl, q1⟩ := q1
  cases r1
  exact not_of (wpAny_truthy_bool ⟨.bl (!c), H1, I1, rfl, q1⟩)
/-- a if t else b -/
def tIf (t : TT) (ta tb : TE) : TE := fun σ H Q => t σ H fun c H1 => if c = true then ta σ H1 Q else tb σ H1 Q
theorem pe_ifExp {c : Expr} (hc : PT X c tA) (ha : PE X a ta) (hb : PE X b tb) : PE X (.IfExp c a b pos) (tIf tA ta tb) := by
  intro pins s σ H Q I h
  refine wpAny_IfExp (thn (hc pins s σ H _ I h) fun d s1 ⟨H1, I1, q1⟩ => ?_)
  cases d with
  | true => exact ha pins s1 σ H1 Q I1 q1
  | false => exact hb pins s1 σ H1 Q I1 q1
end
end L2

namespace L2
open PySem PySem.Spec PyProof.Rows

/-! ### a list, a tuple that is read: tracked, frozen, or an object of the module -/
def SqL (K : PySem.W.Frag) (H : Hp) (a : Addr) (xs : List V) : Prop :=
  Rd H a (.lst xs) ∨
    ∃ (o : Obj) (its : Array Value) (n : Nat), K.lookup a = some o ∧ o.cls = .type "list" ∧ o.dict = none ∧ o.data = .seq its n ∧ its.size ≤ sizeLine ∧ Vals xs its.toList
def SqT (K : PySem.W.Frag) (H : Hp) (a : Addr) (xs : List V) : Prop :=
  Rd H a (.tup xs) ∨
    ∃ (o : Obj) (its : Array Value) (n : Nat), K.lookup a = some o ∧ o.cls = .type "tuple" ∧ o.data = .seq its n ∧ its.size ≤ sizeLine ∧ Vals xs its.toList
def absV : Value → Option V
  | .none => some .non
  | .bool b => some (.bl b)
  | .int i _ => some (.int i)
  | .str x _ => some (.str x)
  | .bytes b _ => some (.byt b)
  | .float b _ => some (.flt b)
  | .ref a => some (.ref a)
  | .type n => some (.ty n)
  | _ => none
theorem RelV.abs {x : V} {u : Value} (r : RelV x u) : absV u = some x := by
  cases x with
  | non => cases r; rfl
  | bl _ => cases r; rfl
  | int _ => obtain ⟨t, rfl⟩ := r; rfl
  | str _ => obtain ⟨t, rfl⟩ := r; rfl
  | byt _ => obtain ⟨t, rfl⟩ := r; rfl
  | flt _ => obtain ⟨t, rfl⟩ := r; rfl
  | ref _ => cases r; rfl
  | ty _ => cases r; rfl
theorem RelV.inj {x y : V} {u : Value} (r : RelV x u) (q : RelV y u) : x = y := Option.some.inj (r.abs.symm.trans q.abs)
theorem Vals.inj : ∀ {xs ys : List V} {us : List Value}, Vals xs us → Vals ys us → xs = ys
  | _, _, _, .nil, .nil => rfl
  | _, _, _, .cons r t, .cons r' t' => by rw [r.inj r', Vals.inj t t']
section
variable {X : Cx} {pins : List (Addr × Obj)} {σ : St} {H : Hp} {s : Shared} {a : Addr} {xs ys : List V}
theorem SqL.of {K : PySem.W.Frag} (h : H a = some (.lst xs)) : SqL K H a xs := .inl (.inl h)
theorem SqT.of {K : PySem.W.Frag} (h : H a = some (.tup xs)) : SqT K H a xs := .inl (.inl h)
theorem Inv.list (I : Inv X pins σ H s) (h : SqL X.K H a xs) : ∃ its : List Value, Vals xs its ∧ PlainL s.heap a its.toArray ∧ xs.length ≤ sizeLine := by
  rcases h with h | ⟨o, its, n, hk, hc, hd, hs, hz, r⟩
  · obtain ⟨z, its, n, r, e⟩ := h.ok I.hok
    exact ⟨its, r, ⟨_, n, e, rfl, rfl, rfl⟩, z⟩
  · refine ⟨its.toList, r, ⟨o, n, I.kIn a o hk, hc, hd, by simpa using hs⟩, ?_⟩
    have e := r.length
    simp only [Array.length_toList] at e
    omega
theorem Inv.tuple (I : Inv X pins σ H s) (h : SqT X.K H a xs) : ∃ its : List Value, Vals xs its ∧ IsTup s.heap a its.toArray ∧ xs.length ≤ sizeLine := by
  rcases h with h | ⟨o, its, n, hk, hc, hs, hz, r⟩
  · obtain ⟨z, its, r, p⟩ := h.ok I.hok
    exact ⟨its, r, p, z⟩
  · refine ⟨its.toList, r, ⟨o, I.kIn a o hk, hc, n, by simpa using hs⟩, ?_⟩
    have e := r.length
    simp only [Array.length_toList] at e
    omega
theorem Inv.list_inj (I : Inv X pins σ H s) (h : SqL X.K H a xs) (h' : SqL X.K H a ys) : xs = ys := by
  obtain ⟨its, r, ⟨o, n, e, _, _, d⟩, _⟩ := I.list h
  obtain ⟨its', r', ⟨o', n', e', _, _, d'⟩, _⟩ := I.list h'
  rw [e] at e'; cases e'
  rw [d] at d'
  injection d' with d1 _
  have : its = its' := by simpa using congrArg Array.toList d1
  subst this
  exact r.inj r'
theorem Inv.tuple_inj (I : Inv X pins σ H s) (h : SqT X.K H a xs) (h' : SqT X.K H a ys) : xs = ys := by
  obtain ⟨its, r, ⟨o, e, _, n, d⟩, _⟩ := I.tuple h
  obtain ⟨its', r', ⟨o', e', _, n', d'⟩, _⟩ := I.tuple h'
  rw [e] at e'; cases e'
  rw [d] at d'
  injection d' with d1 _
  have : its = its' := by simpa using congrArg Array.toList d1
  subst this
  exact r.inj r'
end

/-! ### another wish about exceptions -/
abbrev Cx.wish (X : Cx) (E : Value → Shared → Prop) : Cx := { X with xe := E }
/-- no exception leaves -/
abbrev Cx.nox (X : Cx) : Cx := X.wish fun _ _ => False
theorem Cx.Ok.wish {X : Cx} (ok : X.Ok) (E : Value → Shared → Prop) : (X.wish E).Ok :=
  ⟨ok.mod, ok.kind, ok.glob, ok.blt, ok.above, ok.inj, ok.has, ok.cab, ok.hd, ok.frames, ok.stk, ok.exf, ok.bs, ok.bsz, ok.noex, ok.exfs, ok.funs, ok.frf⟩
theorem Cx.Ok.unwish {X : Cx} {E : Value → Shared → Prop} (ok : (X.wish E).Ok) : X.Ok :=
  ⟨ok.mod, ok.kind, ok.glob, ok.blt, ok.above, ok.inj, ok.has, ok.cab, ok.hd, ok.frames, ok.stk, ok.exf, ok.bs, ok.bsz, ok.noex, ok.exfs, ok.funs, ok.frf⟩
section
variable {X : Cx} {pins : List (Addr × Obj)} {σ : St} {H : Hp} {s : Shared} {E : Value → Shared → Prop}
theorem Inv.wish (I : Inv X pins σ H s) (E : Value → Shared → Prop) : Inv (X.wish E) pins σ H s := ⟨I.ok.wish E, I.os, I.bare, I.base, I.loc, I.cell, I.free, I.freeC, I.pin, I.hok, I.len⟩
theorem Inv.unwish (I : Inv (X.wish E) pins σ H s) : Inv X pins σ H s := ⟨I.ok.unwish, I.os, I.bare, I.base, I.loc, I.cell, I.free, I.freeC, I.pin, I.hok, I.len⟩
theorem SP.unwish {D : Ends} {f : Flow} {s' : Shared} (h : SP (X.wish E) pins D f s') : SP X pins D f s' := by
  cases f with
  | next => obtain ⟨σ', H', I, q⟩ := h; exact ⟨σ', H', I.unwish, q⟩
  | brk => obtain ⟨σ', H', I, q⟩ := h; exact ⟨σ', H', I.unwish, q⟩
  | cont => obtain ⟨σ', H', I, q⟩ := h; exact ⟨σ', H', I.unwish, q⟩
  | ret u => obtain ⟨v, σ', H', I, r, q⟩ := h; exact ⟨v, σ', H', I.unwish, r, q⟩
theorem PE.nox {e : Expr} {t : TE} (h : PE X.nox e t) : PE X e t := fun pins s σ H Q I hw =>
  wpAny_mono (h pins s σ H Q (I.wish _) hw) (fun _ _ ⟨v, H', I', r, q⟩ => ⟨v, H', I'.unwish, r, q⟩) fun _ _ z => False.elim z
theorem PT.nox {e : Expr} {t : TT} (h : PT X.nox e t) : PT X e t := fun pins s σ H Q I hw =>
  wpAny_mono (h pins s σ H Q (I.wish _) hw) (fun _ _ ⟨H', I', q⟩ => ⟨H', I'.unwish, q⟩) fun _ _ z => False.elim z
theorem PSs.nox {st : List Stmt} {t : TS} (h : PSs X.nox st t) : PSs X st t := fun pins s σ H D I hw =>
  wpAny_mono (h pins s σ H D (I.wish _) hw) (fun _ _ q => q.unwish) fun _ _ z => False.elim z
end

/-! ### blocks and small statements -/
section
variable {X : Cx} {st : Stmt} {rest : List Stmt} {t u : TS} {e : Expr} {te : TE} {pos : Pos}
def tNext : TS := fun D σ H => D.nx σ H
def tSeq (t u : TS) : TS := fun D σ H => t { D with nx := u D } σ H
theorem pss_nil : PSs X [] tNext := fun _ _ σ H _ I h => wpAny_execs_nil ⟨σ, H, I, h⟩
theorem pss_cons (h1 : PS X st t) (h2 : PSs X rest u) : PSs X (st :: rest) (tSeq t u) := by
  intro pins s σ H D I h
  refine wpAny_execs_cons (thn (h1 pins s σ H { D with nx := u D } I h) fun f s1 q => ?_)
  cases f with
  | next =>
    obtain ⟨σ', H', I', q⟩ := q
    exact h2 pins s1 σ' H' D I' q
  | ret v => exact q
  | brk => exact q
  | cont => exact q
theorem pss_one (h1 : PS X st t) : PSs X [st] t := by
  intro pins s σ H D I h
  refine wpAny_execs_cons (thn (h1 pins s σ H D I h) fun f s1 q => ?_)
  cases f with
  | next => exact wpAny_execs_nil q
  | ret v => exact q
  | brk => exact q
  | cont => exact q
def tBreak : TS := fun D σ H => D.bk σ H
def tCont : TS := fun D σ H => D.ct σ H
theorem ps_pass : PS X (.Pass pos) tNext := fun _ _ σ H _ I h => wpAny_Pass ⟨σ, H, I, h⟩
theorem ps_break : PS X (.Break pos) tBreak := fun _ _ σ H _ I h => wpAny_Break ⟨σ, H, I, h⟩
theorem ps_continue : PS X (.Continue pos) tCont := fun _ _ σ H _ I h => wpAny_Continue ⟨σ, H, I, h⟩
/-- in a def's body nothing is shown -/
theorem Inv.quiet {pins : List (Addr × Obj)} {σ : St} {H : Hp} {s : Shared} (I : Inv X pins σ H s) : interactive X.env = false := by simp [interactive, I.ok.kind]
/-- a docstring -/
theorem ps_doc {x j pos pos'} : PS X (.Expr (.Constant (.str x) j pos) pos') tNext := fun _ s σ H _ I h => wpAny_Expr (Calls.Constant_str (show SP X _ _ .next { s with toks := s.toks + 1 } from ⟨σ, H, I.tok _, h⟩)) I.quiet
/-- an expression whose value is dropped -/
def tDrop (te : TE) : TS := fun D σ H => te σ H fun _ H1 => D.nx σ H1
theorem ps_expr (he : PE X e te) (hs : swapsWith e none pos.line X.env = pure false := by rfl) : PS X (.Expr e pos) (tDrop te) := by
  intro pins s σ H D I h
  exact wpAny_Expr_any (thn (he pins s σ H _ I h) fun v s1 ⟨x, H1, I1, r1, q1⟩ => ⟨σ, H1, I1, q1⟩) I.quiet hs
def tRet (te : TE) : TS := fun D σ H => te σ H D.rt
theorem ps_ret (he : PE X e te) : PS X (.Return (some e) pos) (tRet te) := by
  intro pins s σ H D I h
  exact wpAny_Return_some (thn (he pins s σ H _ I h) fun v s1 ⟨x, H1, I1, r1, q1⟩ => ⟨x, σ, H1, I1, r1, q1⟩)
def tRetN : TS := fun D _ H => D.rt .non H
theorem ps_retN : PS X (.Return none pos) tRetN := fun _ _ σ H _ I h => wpAny_Return_none ⟨.non, σ, H, I, rfl, h⟩
def tIfS (c : TT) (t u : TS) : TS := fun D σ H => c σ H fun b H1 => if b = true then t D σ H1 else u D σ H1
theorem ps_if {c : Expr} {a b : List Stmt} {tc : TT} (hc : PT X c tc) (ha : PSs X a t) (hb : PSs X b u) : PS X (.If c a b pos) (tIfS tc t u) := by
  intro pins s σ H D I h
  refine wpAny_If (thn (hc pins s σ H _ I h) fun d s1 ⟨H1, I1, q1⟩ => ?_)
  cases d with
  | true => exact ha pins s1 σ H1 D I1 q1
  | false => exact hb pins s1 σ H1 D I1 q1
/-- code that the proof never comes to -/
def tNever : TS := fun _ _ _ => False
theorem ps_never : PS X st tNever := fun _ _ _ _ _ _ h => h.elim
theorem pss_never {sts : List Stmt} : PSs X sts tNever := fun _ _ _ _ _ _ h => h.elim
end

/-! ### targets -/
abbrev TG := V → St → Hp → (St → Hp → Prop) → Prop
abbrev TGs := List V → St → Hp → (St → Hp → Prop) → Prop
def PG (X : Cx) (target : Expr) (t : TG) : Prop :=
  ∀ (pins : List (Addr × Obj)) (s : Shared) (σ : St) (H : Hp) (v : V) (u : Value) (Q : St → Hp → Prop), Inv X pins σ H s → RelV v u → t v σ H Q →
    wpAny (model X.prog X.w) X.A (assign target X.env u) (fun _ s' => ∃ σ' H', Inv X pins σ' H' s' ∧ Q σ' H') X.xe s
/-- several targets, one after another -/
def PGs (X : Cx) (ts : List Expr) (t : TGs) : Prop :=
  ∀ (pins : List (Addr × Obj)) (s : Shared) (σ : St) (H : Hp) (vs : List V) (us : List Value) (Q : St → Hp → Prop), Inv X pins σ H s → Vals vs us → t vs σ H Q →
    wpAny (model X.prog X.w) X.A (assignInOrder ((assignEach ts X.env).map (·.2)) us) (fun _ s' => ∃ σ' H', Inv X pins σ' H' s' ∧ Q σ' H') X.xe s
/-- o[i] = v, by values -/
abbrev TSet := V → V → V → Hp → (Hp → Prop) → Prop
def PSet (X : Cx) (t : TSet) : Prop :=
  ∀ (pins : List (Addr × Obj)) (s : Shared) (σ : St) (H : Hp) (o i v : V) (ov iv u : Value) (Q : Hp → Prop), Inv X pins σ H s → RelV o ov → RelV i iv → RelV v u → t o i v H Q →
    wpAny (model X.prog X.w) X.A (setItem ov iv u) (fun _ s' => ∃ H', Inv X pins σ H' s' ∧ Q H') X.xe s
/-- a op= b, by values -/
abbrev TIp := V → V → Hp → VK → Prop
def PIp (X : Cx) (op : Operator) (t : TIp) : Prop :=
  ∀ (pins : List (Addr × Obj)) (s : Shared) (σ : St) (H : Hp) (x y : V) (v u : Value) (Q : VK), Inv X pins σ H s → RelV x v → RelV y u → t x y H Q →
    wpAny (model X.prog X.w) X.A (inplaceOp op v u) (EP X pins σ Q) X.xe s
section
variable {X : Cx} {pos : Pos}
def gName (i : Nat) : TG := fun v σ H Q => Q (σ.set i (some v)) H
theorem pg_name {i : Nat} {x : Str} (hN : X.N.Nodup) (hi : X.N[i]? = some x) (hx : Loc X.env.scope x) (hf : X.fn x = true ∨ X.env.scope.names.lookup x = some .local := by first | exact .inl rfl | exact .inr rfl | assumption) : PG X (.Name x pos) (gName i) := by
  intro pins s σ H v u Q I r h
  exact wpAny_assign_Name (store_ok I hN hi hx r (fun s' I' => ⟨_, H, I', h⟩) hf)
def gNil : TGs := fun vs σ H Q => vs = [] ∧ Q σ H
def gCons (t : TG) (u : TGs) : TGs := fun vs σ H Q => ∃ v r, vs = v :: r ∧ t v σ H fun σ' H' => u r σ' H' Q
theorem pgs_nil : PGs X [] gNil := by
  intro pins s σ H vs us Q I r h
  obtain ⟨e, h⟩ := h
  subst e
  cases r
  exact assignInOrder_nil ⟨σ, H, I, h⟩
theorem pgs_cons {e : Expr} {es : List Expr} {t : TG} {u : TGs} (h1 : PG X e t) (h2 : PGs X es u)
    (hs : (assignEach (e :: es) X.env).map (·.2) = assign e X.env :: (assignEach es X.env).map (·.2) := by rfl) : PGs X (e :: es) (gCons t u) := by
  intro pins s σ H vs us Q I r h
  obtain ⟨v, vr, e1, h⟩ := h
  subst e1
  cases r with
  | cons r rr =>
    rw [hs]
    refine assignInOrder_cons (thn (h1 pins s σ H _ _ _ I r h) fun _ s1 ⟨σ1, H1, I1, q1⟩ => ?_)
    exact h2 pins s1 σ1 H1 _ _ Q I1 rr q1
/-- (a, b, ..) = a tuple of that length -/
def gTup (K : PySem.W.Frag) (n : Nat) (t : TGs) : TG := fun v σ H Q => ∃ a xs, v = .ref a ∧ SqT K H a xs ∧ xs.length = n ∧ t xs σ H Q
theorem pg_tup {es : List Expr} {k : Nat} {t : TGs} {n : Nat} (hc : X.calm = true) (h : PGs X es t)
    (hn : (assignEach es X.env).length = n := by rfl) (hst : (assignEach es X.env).findIdx? (·.1) = none := by rfl) : PG X (.Tuple es k pos) (gTup X.K n t) := by
  intro pins s σ H v u Q I r hw
  obtain ⟨a, xs, e1, hq, hl, hw⟩ := hw
  subst e1
  cases r
  obtain ⟨its, rv, ht, hz⟩ := I.tuple hq
  refine assign_Tuple_tuple (I.ok.hd hc) ht (by simp [hn, ← hl, rv.length]) hst fun h' hx => ?_
  have I1 : Inv X pins σ H { s with heap := h' } := I.kept (t' := s.toks) fun b o e => hx b o (Nat.ne_of_lt (Heap.lt_size e)) e
  exact h pins _ σ H xs _ Q I1 (by simpa using rv) hw
/-- o[i] = .. -/
def gSub (to ti : TE) (t : TSet) : TG := fun v σ H Q => to σ H fun o H1 => ti σ H1 fun i H2 => t o i v H2 fun H3 => Q σ H3
theorem pg_sub {o i : Expr} {to ti : TE} {t : TSet} (ho : PE X o to) (hi : PE X i ti) (hs : PSet X t)
    (ha : ∀ v, assign (.Subscript o i pos) X.env v = (do
      let ov ← holding [v] (eval o X.env)
      let iv ← holding [v, ov] (eval i X.env)
      standAt pos
      holding [v, ov, iv] (setItem ov iv v)
      release [v, ov, iv] []) := by intro _; rfl) : PG X (.Subscript o i pos) (gSub to ti t) := by
  intro pins s σ H v u Q I r h
  rw [ha]
  refine wpAny_bind (wpAny_holding (thn (ho pins s σ H _ I h) fun ov s1 ⟨x, H1, I1, r1, q1⟩ => ?_))
  refine wpAny_bind (wpAny_holding (thn (hi pins s1 σ H1 _ I1 q1) fun iv s2 ⟨y, H2, I2, r2, q2⟩ => ?_))
  refine wpAny_bind (wpAny_standAt (wpAny_bind (wpAny_holding (thn (hs pins s2 σ H2 x y v ov iv u _ I2 r1 r2 r q2) fun _ s3 ⟨H3, I3, q3⟩ => ?_))))
  exact wpAny_release ⟨σ, H3, I3, q3⟩
/-- target = value -/
def tAsg (te : TE) (g : TG) : TS := fun D σ H => te σ H fun x H1 => g x σ H1 D.nx
theorem ps_asg {tg e : Expr} {te : TE} {g : TG} (he : PE X e te) (hg : PG X tg g) (hs : swapsWithSole [tg] e pos.line X.env = pure false := by rfl) (hw : swappedStores [tg] e X.env = pure none := by rfl)
    (h1 : (assignEach [tg] X.env).map (·.2) = [assign tg X.env] := by rfl) : PS X (.Assign [tg] e pos) (tAsg te g) := by
  intro pins s σ H D I h
  refine wpAny_Assign_stores (thn (he pins s σ H _ I h) fun v s1 ⟨x, H1, I1, r1, q1⟩ => ?_) hs hw
  rw [h1]
  exact thn (hg pins s1 σ H1 x v _ I1 r1 q1) fun _ s2 q => q
/-- name = value -/
theorem ps_set {i : Nat} {x : Str} {e : Expr} {te : TE} {pos' : Pos} (hN : X.N.Nodup) (hi : X.N[i]? = some x) (hx : Loc X.env.scope x) (he : PE X e te) (hs : swapsWith e (some (.Name x pos')) pos.line X.env = pure false := by rfl) (hf : X.fn x = true ∨ X.env.scope.names.lookup x = some .local := by first | exact .inl rfl | exact .inr rfl | assumption) :
    PS X (.Assign [.Name x pos'] e pos) (tAsg te (gName i)) := by
  intro pins s σ H D I h
  refine wpAny_Assign_Name (thn (he pins s σ H _ I h) fun v s1 ⟨y, H1, I1, r1, q1⟩ => ?_) hs
  exact store_ok I1 hN hi hx r1 (fun s2 I2 => ⟨_, H1, I2, q1⟩) hf
/-- a, b = x, y with plain local names: stored from the right; the pair itself is not tracked (the opening rows as in PyProof/Rows/TupAssign.lean:23) -/
def tPar (i j : Nat) (ta : TA) : TS := fun D σ H => ta σ H fun vs H1 => ∃ v w, vs = [v, w] ∧ D.nx ((σ.set i (some v)).set j (some w)) H1
theorem ps_par {i j : Nat} {x y : Str} {a b : Expr} {ta : TA} {px py pt : Pos} {kt k2 pt2} (hc : X.calm = true) (hN : X.N.Nodup) (hi : X.N[i]? = some x) (hj : X.N[j]? = some y) (hij : i ≠ j)
    (hx : X.env.scope.names.lookup x = some .local) (hy : X.env.scope.names.lookup y = some .local) (ha : PA X [a, b] ta)
    (hw : swappedStores [.Tuple [.Name x px, .Name y py] kt pt] (.Tuple [a, b] k2 pt2) X.env = pure (some [x, y]))
    (hs : swapsWithSole [.Tuple [.Name x px, .Name y py] kt pt] (.Tuple [a, b] k2 pt2) pos.line X.env = pure false := by rfl) :
    PS X (.Assign [.Tuple [.Name x px, .Name y py] kt pt] (.Tuple [a, b] k2 pt2) pos) (tPar i j ta) := by
  intro pins s σ H D I h
  rw [exec_Assign_arm]
  refine wpAny_bind (wpAny_standAt ?_)
  rw [hs]
  refine wpAny_bind (wpAny_pure ?_)
  rw [if_neg (by decide)]
  refine wpAny_bind (Tuple_ (thn (ha _ pins s σ H _ I h) fun us s1 ⟨vs, H1, I1, r1, q1⟩ => ?_))
  obtain ⟨v, w, e1, q1⟩ := q1
  subst e1
  obtain ⟨u1, u2, rfl, rv, rw'⟩ : ∃ u1 u2, us = [u1, u2] ∧ RelV v u1 ∧ RelV w u2 := by
    cases r1 with
    | cons p q =>
      cases q with
      | cons p' q' =>
        cases q'
        exact ⟨_, _, rfl, p, p'⟩
  refine wpAny_newObj_type ?_ (by show 2 ≤ sizeLine; decide)
  have I2 : Inv X pins σ H1 { s1 with heap := s1.heap.push { cls := .type "tuple", data := .seq [u1, u2].toArray } } := I1.kept (t' := s1.toks) fun b o e => Heap.get?_push_of_some _ e
  rw [hw]
  refine wpAny_bind (wpAny_pure ?_)
  show wpAny (model X.prog X.w) X.A (do rule "assign.swapped-stores"; let items ← unpackItems (.ref s1.heap.objs.size) 2 none; assignInOrder [fun v => bindName X.env y v, fun v => bindName X.env x v] items.reverse; pure Flow.next) _ _ _
  refine wpAny_bind (wpAny_rule (wpAny_bind (unpackItems_tuple (items := #[u1, u2]) (I.ok.hd hc) (IsTup.new s1.heap _) fun h' hx' => ?_)))
  have I3 := I2.kept (h' := h') (t' := s1.toks) fun b o e => hx' b o (Nat.ne_of_lt (Heap.lt_size e)) e
  show wpAny _ _ (assignInOrder [fun v => bindName X.env y v, fun v => bindName X.env x v] [u2, u1] >>= fun _ => pure Flow.next) _ _ _
  refine wpAny_bind (assignInOrder_cons (wpAny_bindName (store_ok I3 hN hj (.inl hy) rw' (fun s2 I4 => ?_) (.inr hy))))
  refine assignInOrder_cons (wpAny_bindName (store_ok I4 hN hi (.inl hx) rv (fun s3 I5 => assignInOrder_nil (wpAny_pure ?_)) (.inr hx)))
  rw [List.set_comm _ _ (Ne.symm hij)] at I5
  exact ⟨_, H1, I5, q1⟩
/-- name op= e -/
def tAug (i : Nat) (te : TE) (ti : TIp) : TS := fun D σ H => ∃ x, σ[i]? = some (some x) ∧ te σ H fun y H1 => ti x y H1 fun z H2 => D.nx (σ.set i (some z)) H2
theorem ps_aug {i : Nat} {x : Str} {e : Expr} {te : TE} {op : Operator} {ti : TIp} {pos' : Pos} (hN : X.N.Nodup) (hi : X.N[i]? = some x) (hx : Loc X.env.scope x) (he : PE X e te) (ho : PIp X op ti) (hf : X.fn x = true ∨ X.env.scope.names.lookup x = some .local := by first | exact .inl rfl | exact .inr rfl | assumption) :
    PS X (.AugAssign (.Name x pos') op e pos) (tAug i te ti) := by
  intro pins s σ H D I h
  obtain ⟨v, e1, h⟩ := h
  obtain ⟨m, hn, hl⟩ := I.loc
  have vis : Vis X.env.scope x := by rcases hx with k | k; exact .inl k; exact .inr (.inl k)
  obtain ⟨u, r, l⟩ := hl i x v hi e1 vis
  refine wpAny_AugAssign_Name ?_
  have go : wpAny (model X.prog X.w) X.A (eval e X.env) (fun w s₂ => wpAny (model X.prog X.w) X.A (inplaceOp op u w) (fun r s₃ => wpAny (model X.prog X.w) X.A (storeName X.env x r) (fun _ => SP X pins D .next) X.xe s₃) X.xe s₂) X.xe s := by
    refine thn (he pins s σ H _ I h) fun w s1 ⟨y, H1, I1, r1, q1⟩ => ?_
    refine thn (ho pins s1 σ H1 v y u w _ I1 r r1 q1) fun z s2 ⟨zv, H2, I2, r2, q2⟩ => ?_
    exact store_ok I2 hN hi hx r2 (fun s3 I3 => ⟨_, H2, I3, q2⟩) hf
  rcases l with ⟨hk, hm⟩ | ⟨hk, c, hc, hcell⟩
  · exact wpAny_loadName_local I.ok.kind hk hn hm go
  · rcases hk with hk | hk
    · exact wpAny_loadName_cell I.ok.kind hk hc hcell go
    · rcases hx with k | k
      · have : X.env.scope.names.lookup x = some .free := hk
        rw [k] at this; cases this
      · have : X.env.scope.names.lookup x = some .free := hk
        rw [k] at this; cases this
/-- o[i] op= e -/
def tAugS (to ti te : TE) (tget : V → V → Hp → VK → Prop) (tip : TIp) (tset : TSet) : TS := fun D σ H => to σ H fun o H1 => ti σ H1 fun i H2 => tget o i H2 fun x H3 => te σ H3 fun y H4 => tip x y H4 fun z H5 => tset o i z H5 fun H6 => D.nx σ H6
/-- o[i], by values -/
def PGet (X : Cx) (t : V → V → Hp → VK → Prop) : Prop :=
  ∀ (pins : List (Addr × Obj)) (s : Shared) (σ : St) (H : Hp) (o i : V) (ov iv : Value) (Q : VK), Inv X pins σ H s → RelV o ov → RelV i iv → t o i H Q →
    wpAny (model X.prog X.w) X.A (getItem ov iv) (EP X pins σ Q) X.xe s
theorem ps_augS {o i e : Expr} {to ti te : TE} {tget : V → V → Hp → VK → Prop} {tip : TIp} {tset : TSet} {op : Operator} {tpos : Pos} (ho : PE X o to) (hi : PE X i ti) (hg : PGet X tget) (he : PE X e te) (hp : PIp X op tip) (hs : PSet X tset)
    (ha : ∀ ov iv new, augStore i ov iv new = (do holding [new, ov, iv] (setItem ov iv new); release [new, ov, iv] []; pure .next) := by intros; rfl) : PS X (.AugAssign (.Subscript o i tpos) op e pos) (tAugS to ti te tget tip tset) := by
  intro pins s σ H D I h
  refine wpAny_AugAssign_SubscriptAny (thn (ho pins s σ H _ I h) fun ov s1 ⟨x1, H1, I1, r1, q1⟩ => ?_) ha
  refine thn (hi pins s1 σ H1 _ I1 q1) fun iv s2 ⟨x2, H2, I2, r2, q2⟩ => ?_
  refine thn (hg pins s2 σ H2 x1 x2 ov iv _ I2 r1 r2 q2) fun old s3 ⟨x3, H3, I3, r3, q3⟩ => ?_
  refine thn (he pins s3 σ H3 _ I3 q3) fun v s4 ⟨x4, H4, I4, r4, q4⟩ => ?_
  refine thn (hp pins s4 σ H4 x3 x4 old v _ I4 r3 r4 q4) fun new s5 ⟨x5, H5, I5, r5, q5⟩ => ?_
  exact thn (hs pins s5 σ H5 x1 x2 x5 ov iv new _ I5 r1 r2 r5 q5) fun _ s6 ⟨H6, I6, q6⟩ => ⟨σ, H6, I6, q6⟩
/-- ints -/
def ipI (f : Int → Int → Int) : TIp := fun x y H Q => ∃ i j, x = .int i ∧ y = .int j ∧ Q (.int (f i j)) H
theorem ip_add : PIp X .Add (ipI fun i j => i + j) := by
  intro pins s σ H x y v u Q I r1 r2 h
  obtain ⟨i, j, e1, e2, q⟩ := h
  subst e1; subst e2
  obtain ⟨t, rfl⟩ := r1
  obtain ⟨t', rfl⟩ := r2
  exact iadd_int ⟨.int _, H, I.tok _, ⟨_, rfl⟩, q⟩
theorem ip_sub : PIp X .Sub (ipI fun i j => i - j) := by
  intro pins s σ H x y v u Q I r1 r2 h
  obtain ⟨i, j, e1, e2, q⟩ := h
  subst e1; subst e2
  obtain ⟨t, rfl⟩ := r1
  obtain ⟨t', rfl⟩ := r2
  exact isub_int ⟨.int _, H, I.tok _, ⟨_, rfl⟩, q⟩
end

/-! ### while -/
section
variable {X : Cx} {pos : Pos}
/-- the invariant W with its measure -/
def tWhile (c : TT) (tb : TS) : TS := fun D σ H => ∃ W : Nat → St → Hp → Prop, (∃ m, W m σ H) ∧ ∀ m σ H, W m σ H →
  c σ H fun b H1 => if b = true then ∃ N : St → Hp → Prop, (∀ σ' H', N σ' H' → ∃ m', m' < m ∧ W m' σ' H') ∧ tb { D with nx := N, ct := N, bk := D.nx } σ H1 else D.nx σ H1
theorem ps_while {c : Expr} {body : List Stmt} {tc : TT} {tb : TS} (hp : PassesOwn (model X.prog X.w) X.A X.env X.xe) (hc : PT X c tc) (hb : PSs X body tb) : PS X (.While c body [] pos) (tWhile tc tb) := by
  intro pins s σ H D I h
  obtain ⟨W, ⟨m0, w0⟩, turn⟩ := h
  refine wpAny_While (codeAny_whileLoop (fun n s' => ∃ σ' H', Inv X pins σ' H' s' ∧ W n σ' H') ?_ m0 ⟨σ, H, I, w0⟩)
  rintro n s1 ⟨σ1, H1, I1, w1⟩
  refine wpAny_passesOwn hp (thn (hc pins s1 σ1 H1 _ I1 (turn n σ1 H1 w1)) fun b s2 ⟨H2, I2, q2⟩ => ?_)
  cases b with
  | true =>
    obtain ⟨N, hN, q2⟩ := q2
    rw [if_pos rfl]
    refine wpAny_passesOwn hp (thn (hb pins s2 σ1 H2 _ I2 q2) fun f s3 q3 => ?_)
    cases f with
    | next =>
      obtain ⟨σ3, H3, I3, n3⟩ := q3
      obtain ⟨m', hm, w3⟩ := hN σ3 H3 n3
      exact ⟨m', hm, σ3, H3, I3, w3⟩
    | cont =>
      obtain ⟨σ3, H3, I3, n3⟩ := q3
      obtain ⟨m', hm, w3⟩ := hN σ3 H3 n3
      exact ⟨m', hm, σ3, H3, I3, w3⟩
    | brk => exact q3
    | ret v => exact q3
  | false =>
    rw [if_neg Bool.false_ne_true]
    exact wpAny_execs_nil ⟨σ1, H2, I2, q2⟩
end

/-! ### what a loop or a comprehension walks -/
/-- at turn i: it yields x (the heap may grow), or it stops -/
structure It where
  go : Nat → Hp → Prop
  yld : Nat → Hp → V → Hp → Prop
  stop : Nat → Hp → Prop
/-- the iterator's own objects may turn: they are not the frame's, not pinned, younger than the entry (or a comprehension's own) -/
def FpOk (X : Cx) (pins : List (Addr × Obj)) (H : Hp) (b : Addr) : Prop :=
  H b = none ∧ b ≠ X.env.locals ∧ b ∉ X.fs ∧ (b ∈ X.ex ∨ X.s₀.heap.objs.size ≤ b) ∧ (∀ x c, X.env.cells.lookup x = some c → c ≠ b) ∧ ∀ p ∈ X.pn ++ pins, p.1 ≠ b
theorem Inv.fpOk {X : Cx} {pins : List (Addr × Obj)} {σ : St} {H H' : Hp} {s : Shared} {b : Addr} (I : Inv X pins σ H s) (hb : s.heap.objs.size ≤ b) (hn : H' b = none) : FpOk X pins H' b := by
  refine ⟨hn, Nat.ne_of_gt (Nat.lt_of_lt_of_le I.lt hb), I.nofs hb, .inr (Nat.le_trans I.sz hb), fun x c e z => ?_, fun p hp z => ?_⟩
  · obtain ⟨v, q⟩ := I.cell x c e
    exact absurd (Nat.lt_of_lt_of_le q.lt (by rw [z]; exact hb)) (Nat.lt_irrefl _)
  · exact absurd (Nat.lt_of_lt_of_le (Heap.lt_size (I.pin p hp).1) (by rw [z]; exact hb)) (Nat.lt_irrefl _)
structure Turn (P : Program) (w : World) (K : PySem.W.Frag) (tg : Expr) (J : It) (fp : List Addr) (it : Addr) (tn : Nat → Heap → Prop) : Prop where
  mem : it ∈ fp
  obj : ∀ i h, tn i h → ∀ b ∈ fp, ∃ o, h.get? b = some o ∧ ∀ v, o.data ≠ .cell v
  keep : ∀ i h h', tn i h → (∀ b ∈ fp, ∀ o, h.get? b = some o → h'.get? b = some o) → tn i h'
  item : ∀ (X : Cx), X.prog = P → X.w = w → X.K = K → X.calm = true → ∀ (i : Nat) (pins : List (Addr × Obj)) (s : Shared) (σ : St) (H : Hp) (E : Value → Shared → Prop), Inv X pins σ H s → (∀ b ∈ fp, FpOk X pins H b) → tn i s.heap → J.go i H →
    wpAny (model P w) X.A (pyNext (.ref it)) (fun r s1 => ∃ u, r = some u ∧
      wpAny (model P w) X.A (letOwnedTupleGo tg (.ref it) u) (fun _ s2 => ∃ x H', Inv X pins σ H' s2 ∧ RelV x u ∧ J.yld i H x H' ∧ tn (i + 1) s2.heap ∧ ∀ b ∈ fp, H' b = none) E s1) E s
  done : ∀ (X : Cx), X.prog = P → X.w = w → X.K = K → X.calm = true → ∀ (i : Nat) (pins : List (Addr × Obj)) (s : Shared) (σ : St) (H : Hp) (E : Value → Shared → Prop), Inv X pins σ H s → (∀ b ∈ fp, FpOk X pins H b) → tn i s.heap → J.stop i H →
    wpAny (model P w) X.A (pyNext (.ref it)) (fun r s1 => r = none ∧ Inv X pins σ H s1) E s
  self : ∀ (A : Around) (i : Nat) (s : Shared) (Q : Value → Shared → Prop) (E : Value → Shared → Prop), tn i s.heap → Q (.ref it) s → wpAny (model P w) A (pyIter (.ref it)) Q E s
abbrev TI := St → Hp → (It → Hp → Prop) → Prop
/-- an iterator has come -/
def PIE (X : Cx) (pins : List (Addr × Obj)) (σ : St) (tg : Expr) (R : It → Hp → Prop) (itv : Value) (s2 : Shared) : Prop :=
  ∃ (it : Addr) (fp : List Addr) (tn : Nat → Heap → Prop) (J : It) (H' : Hp), itv = .ref it ∧ Inv X pins σ H' s2 ∧ Turn X.prog X.w X.K tg J fp it tn ∧ tn 0 s2.heap ∧ (∀ b ∈ fp, FpOk X pins H' b) ∧ R J H'
def PI (X : Cx) (tg iter : Expr) (wi : TI) : Prop :=
  ∀ (pins : List (Addr × Obj)) (s : Shared) (σ : St) (H : Hp) (R : It → Hp → Prop), Inv X pins σ H s → wi σ H R →
    wpAny (model X.prog X.w) X.A (eval iter X.env) (fun v s1 => wpAny (model X.prog X.w) X.A (pyIter v) (PIE X pins σ tg R) X.xe s1) X.xe s

/-- the step ahead of the store is nothing for an iterator that keeps no tuple -/
theorem go_of {M : Model} {A : Around} {E : Value → Shared → Prop} {s : Shared} {tg : Expr} {it : Addr} {u : Value} {o : Obj} {n : String} {vs : Array Value} {Q : Unit → Shared → Prop} (ho : s.heap.get? it = some o) (hc : o.cls = .type n) (hd : o.data = .fields vs)
    (hn : ["enumerate", "zip", "dict_itemiterator", "dict_reverseitemiterator", "odict_iterator", "itertools.zip_longest", "itertools.pairwise"].contains n = false) (hQ : Q () s) : wpAny M A (letOwnedTupleGo tg (.ref it) u) Q E s := by
  unfold letOwnedTupleGo
  cases tg <;> first
    | exact wpAny_pure hQ
    | (cases u <;> first
        | exact wpAny_pure hQ
        | (refine wpAny_bind (wpAny_load ho ?_)
           rw [hc, hd]
           show wpAny M A (if (["enumerate", "zip", "dict_itemiterator", "dict_reverseitemiterator", "odict_iterator", "itertools.zip_longest", "itertools.pairwise"].contains n && vs[0]? == some (rawInt _)) = true then _ else _) Q E s
           rw [if_neg (by intro h; rw [hn, Bool.false_and] at h; cases h)]
           exact wpAny_pure hQ))

/-- the list at a, as it stands at each turn (a loop may append to it) -/
def Itl (K : PySem.W.Frag) (a : Addr) : It :=
  ⟨fun i H => ∃ xs x, SqL K H a xs ∧ xs[i]? = some x, fun i H x H' => H' = H ∧ ∀ xs, SqL K H a xs → xs[i]? = some x, fun i H => ∃ xs, SqL K H a xs ∧ xs.length ≤ i⟩
def Itt (K : PySem.W.Frag) (a : Addr) : It :=
  ⟨fun i H => ∃ xs x, SqT K H a xs ∧ xs[i]? = some x, fun i H x H' => H' = H ∧ ∀ xs, SqT K H a xs → xs[i]? = some x, fun i H => ∃ xs, SqT K H a xs ∧ xs.length ≤ i⟩
/-- lo, lo + 1, .. (n of them) -/
def Itr (lo : Int) (n : Nat) : It := ⟨fun i _ => i < n, fun i H x H' => H' = H ∧ x = .int (lo + i), fun i _ => n ≤ i⟩
theorem turn_list {P : Program} {w : World} {K : PySem.W.Frag} {tg : Expr} (a it : Addr) : Turn P w K tg (Itl K a) [it] it (fun i h => h.IsListIter it a i) where
  mem := by simp
  obj := fun i h st b hb => by
    have e : b = it := by simpa using hb
    subst e
    obtain ⟨o, e, c, d⟩ := st
    exact ⟨o, e, fun v z => by rw [d] at z; cases z⟩
  keep := fun i h h' st k => st.at fun o e => k it (by simp) o e
  item := by
    intro X hP hw hK hc i pins s σ H E I hf st hg
    subst hP hw hK
    obtain ⟨xs, x, hq, hx⟩ := hg
    obtain ⟨its, rv, p, hz⟩ := I.list hq
    obtain ⟨u, hu, ru⟩ := rv.get hx
    obtain ⟨f0, f1, f2, f3, f4, f5⟩ := hf it (by simp)
    refine wpAny_pyNext_list_item st p.isList (x := u) (by simpa using hu) fun h' st' sb => ?_
    have I1 : Inv X pins σ H { s with heap := h' } := I.turned (t' := s.toks) (fun b o hb e => (sb.2 b hb).trans e) f0 f1 f3 f4 f5
    obtain ⟨o, e, c, d⟩ := id st'
    exact ⟨u, rfl, go_of (s := { s with heap := h' }) e c d (by decide) ⟨x, H, I1, ru, ⟨rfl, fun ys hy => by rw [I.list_inj hy hq]; exact hx⟩, st', fun b hb => (hf b hb).1⟩⟩
  done := by
    intro X hP hw hK hc i pins s σ H E I hf st hg
    subst hP hw hK
    obtain ⟨xs, hq, hx⟩ := hg
    obtain ⟨its, rv, p, hz⟩ := I.list hq
    obtain ⟨f0, f1, f2, f3, f4, f5⟩ := hf it (by simp)
    have hl := rv.length
    exact wpAny_pyNext_list_end (I.ok.hd hc) st p.isList (by simp; omega) fun h' eb => ⟨rfl, I.turned (t' := s.toks) (fun b o hb e => eb b o hb e) f0 f1 f3 f4 f5⟩
  self := fun _ _ _ _ _ st h => wpAny_pyIter_listiter st h
theorem turn_tuple {P : Program} {w : World} {K : PySem.W.Frag} {tg : Expr} (a it : Addr) : Turn P w K tg (Itt K a) [it] it (fun i h => h.IsTupleIter it a i) where
  mem := by simp
  obj := fun i h st b hb => by
    have e : b = it := by simpa using hb
    subst e
    obtain ⟨o, e, c, d⟩ := st
    exact ⟨o, e, fun v z => by rw [d] at z; cases z⟩
  keep := fun i h h' st k => st.at fun o e => k it (by simp) o e
  item := by
    intro X hP hw hK hc i pins s σ H E I hf st hg
    subst hP hw hK
    obtain ⟨xs, x, hq, hx⟩ := hg
    obtain ⟨its, rv, p, hz⟩ := I.tuple hq
    obtain ⟨u, hu, ru⟩ := rv.get hx
    obtain ⟨f0, f1, f2, f3, f4, f5⟩ := hf it (by simp)
    refine wpAny_pyNext_tuple_item st (show s.heap.IsTuple a its.toArray from p) (x := u) (by simpa using hu) fun h' st' sb => ?_
    have I1 : Inv X pins σ H { s with heap := h' } := I.turned (t' := s.toks) (fun b o hb e => (sb.2 b hb).trans e) f0 f1 f3 f4 f5
    obtain ⟨o, e, c, d⟩ := id st'
    exact ⟨u, rfl, go_of (s := { s with heap := h' }) e c d (by decide) ⟨x, H, I1, ru, ⟨rfl, fun ys hy => by rw [I.tuple_inj hy hq]; exact hx⟩, st', fun b hb => (hf b hb).1⟩⟩
  done := by
    intro X hP hw hK hc i pins s σ H E I hf st hg
    subst hP hw hK
    obtain ⟨xs, hq, hx⟩ := hg
    obtain ⟨its, rv, p, hz⟩ := I.tuple hq
    obtain ⟨f0, f1, f2, f3, f4, f5⟩ := hf it (by simp)
    have hl := rv.length
    exact wpAny_pyNext_tuple_end (I.ok.hd hc) st (show s.heap.IsTuple a its.toArray from p) (by simp; omega) fun h' eb => ⟨rfl, I.turned (t' := s.toks) (fun b o hb e => eb b o hb e) f0 f1 f3 f4 f5⟩
  self := fun _ _ _ _ _ st h => wpAny_pyIter_tupleiter st h
theorem turn_range {P : Program} {w : World} {K : PySem.W.Frag} {tg : Expr} (it : Addr) (lo : Int) (n : Nat) : Turn P w K tg (Itr lo n) [it] it (fun i h => IsRangeIter h it (lo + (i : Nat) * 1) ((n : Int) - (i : Nat)) 1) where
  mem := by simp
  obj := fun i h st b hb => by
    have e : b = it := by simpa using hb
    subst e
    exact ⟨_, st, fun v z => by
      have z' : Data.fields _ = Data.cell v := z
      cases z'⟩
  keep := fun i h h' st k => k it (by simp) _ st
  item := by
    intro X hP hw hK hc i pins s σ H E I hf st hg
    subst hP hw hK
    obtain ⟨f0, f1, f2, f3, f4, f5⟩ := hf it (by simp)
    have W := Walks.range (prog := X.prog) (w := X.w) (I.ok.hd hc) it lo 1 n
    refine W.item i s _ _ hg st fun v h' tk hv st' kk => ?_
    obtain ⟨t, rfl⟩ := hv
    have I1 : Inv X pins σ H { s with heap := h', toks := tk } := I.turned (fun b o hb e => kk b o (by simpa using hb) e) f0 f1 f3 f4 f5
    refine ⟨_, rfl, go_of (s := { s with heap := h', toks := tk }) (n := "range_iterator") st' rfl rfl (by decide) ⟨.int (lo + i), H, I1, ⟨t, ?_⟩, ⟨rfl, rfl⟩, st', fun b hb => (hf b hb).1⟩⟩
    rw [Int.mul_one]
  done := by
    intro X hP hw hK hc i pins s σ H E I hf st hg
    subst hP hw hK
    obtain ⟨f0, f1, f2, f3, f4, f5⟩ := hf it (by simp)
    exact wpAny_pyNext_range_end (I.ok.hd hc) st (by have : n ≤ i := hg; omega) fun h' eb => ⟨rfl, I.turned (t' := s.toks) (fun b o hb e => eb b o hb e) f0 f1 f3 f4 f5⟩
  self := fun _ _ _ _ _ st h => wpAny_pyIter_rangeiter st h
end L2

namespace L2
open PySem PySem.Spec PyProof.Rows
section
variable {X : Cx} {tg : Expr}
def iList (K : PySem.W.Frag) (tl : TE) : TI := fun σ H R => tl σ H fun x H1 => ∃ a, x = .ref a ∧ (∃ xs, SqL K H1 a xs) ∧ R (Itl K a) H1
def iTup (K : PySem.W.Frag) (tl : TE) : TI := fun σ H R => tl σ H fun x H1 => ∃ a, x = .ref a ∧ (∃ xs, SqT K H1 a xs) ∧ R (Itt K a) H1
theorem pi_list {l : Expr} {tl : TE} (hl : PE X l tl) : PI X tg l (iList X.K tl) := by
  intro pins s σ H R I h
  refine thn (hl pins s σ H _ I h) fun v s1 ⟨x, H1, I1, r1, q1⟩ => ?_
  obtain ⟨a, e, ⟨xs, hq⟩, q⟩ := q1
  subst e
  cases r1
  obtain ⟨its, rv, p, hz⟩ := I1.list hq
  refine wpAny_pyIter_list p.isList ?_
  refine ⟨s1.heap.objs.size, [s1.heap.objs.size], _, _, H1, rfl, I1.kept (t' := s1.toks) fun b o e => Heap.get?_push_of_some _ e, turn_list a _, ⟨_, Heap.get?_push_size _ rfl, rfl, rfl⟩, fun b hb => ?_, q⟩
  have e : b = s1.heap.objs.size := by simpa using hb
  subst e
  exact I1.fpOk (Nat.le_refl _) (I1.hok.fresh (Nat.le_refl _))
theorem pi_tup {l : Expr} {tl : TE} (hl : PE X l tl) : PI X tg l (iTup X.K tl) := by
  intro pins s σ H R I h
  refine thn (hl pins s σ H _ I h) fun v s1 ⟨x, H1, I1, r1, q1⟩ => ?_
  obtain ⟨a, e, ⟨xs, hq⟩, q⟩ := q1
  subst e
  cases r1
  obtain ⟨its, rv, p, hz⟩ := I1.tuple hq
  refine wpAny_pyIter_tuple (show s1.heap.IsTuple a its.toArray from p) ?_
  refine ⟨s1.heap.objs.size, [s1.heap.objs.size], _, _, H1, rfl, I1.kept (t' := s1.toks) fun b o e => Heap.get?_push_of_some _ e, turn_tuple a _, ⟨_, Heap.get?_push_size _ rfl, rfl, rfl⟩, fun b hb => ?_, q⟩
  have e : b = s1.heap.objs.size := by simpa using hb
  subst e
  exact I1.fpOk (Nat.le_refl _) (I1.hok.fresh (Nat.le_refl _))
/-- a range object just made, walked -/
theorem range_it {pins : List (Addr × Obj)} {σ : St} {H : Hp} {s : Shared} {R : It → Hp → Prop} {E : Value → Shared → Prop} {lo hi : Int} {t u v : Tok} {tk : Nat} (I : Inv X pins σ H s) (h1 : -(2 ^ 62) ≤ lo) (h2 : lo < 2 ^ 62) (h3 : -(2 ^ 62) ≤ hi) (h4 : hi < 2 ^ 62)
    (q : R (Itr lo (hi - lo).toNat) H) : wpAny (model X.prog X.w) X.A (pyIter (.ref s.heap.objs.size)) (PIE X pins σ tg R) E { s with heap := s.heap.push { cls := .type "range", data := .fields #[.int lo t, .int hi u, .int 1 v] }, toks := tk } := by
  refine wpAny_pyIter_range (IsRange.new ..) (small_one h1 h2 h3 h4) ?_
  have I1 : Inv X pins σ H { s with heap := s.heap.push { cls := .type "range", data := .fields #[.int lo t, .int hi u, .int 1 v] }, toks := tk } := I.kept fun b o e => Heap.get?_push_of_some _ e
  refine ⟨(s.heap.push { cls := .type "range", data := .fields #[.int lo t, .int hi u, .int 1 v] }).objs.size, [(s.heap.push { cls := .type "range", data := .fields #[.int lo t, .int hi u, .int 1 v] }).objs.size], _, _, H, rfl,
    I1.kept (t' := tk) fun b o e => Heap.get?_push_of_some _ e, turn_range _ lo (hi - lo).toNat, ?_, fun b hb => ?_, q⟩
  · have e1 : lo + ((0 : Nat) : Int) * 1 = lo := by simp
    have e2 : (((hi - lo).toNat : Nat) : Int) - ((0 : Nat) : Int) = Builtin.Range.rangeSize lo hi 1 := by rw [rangeSize_one]; split <;> omega
    show IsRangeIter _ _ (lo + ((0 : Nat) : Int) * 1) ((((hi - lo).toNat : Nat) : Int) - ((0 : Nat) : Int)) 1
    rw [e1, e2]
    exact Heap.get?_push_size _ rfl
  · have e : b = (s.heap.push { cls := .type "range", data := .fields #[.int lo t, .int hi u, .int 1 v] }).objs.size := by simpa using hb
    subst e
    exact I1.fpOk (Nat.le_refl _) (I1.hok.fresh (Nat.le_refl _))
def iRng1 (ta : TA) : TI := fun σ H R => ta σ H fun vs H1 => ∃ j : Int, vs = [.int j] ∧ -(2 ^ 62) ≤ j ∧ j < 2 ^ 62 ∧ R (Itr 0 j.toNat) H1
def iRng2 (ta : TA) : TI := fun σ H R => ta σ H fun vs H1 => ∃ i j : Int, vs = [.int i, .int j] ∧ (-(2 ^ 62) ≤ i ∧ i < 2 ^ 62 ∧ -(2 ^ 62) ≤ j ∧ j < 2 ^ 62) ∧ R (Itr i (j - i).toNat) H1
theorem pi_range1 {a : Expr} {ta : TA} {p pos : Pos} (hg : Gl X "range") (hm : X.mg "range" = none) (ha : PA X [a] ta) (hs : starEach [a] X.env = [(false, eval a X.env)] := by rfl) : PI X tg (.Call (.Name "range" p) [a] [] pos) (iRng1 ta) := by
  intro pins s σ H R I h
  refine Call_ (ld_blt I hg hm boot_range (PyProof.Rows.callWith_type1 (thn (ha pos pins s σ H _ I h) fun us s1 ⟨vs, H1, I1, r1, q1⟩ => ?_) hs rfl))
  obtain ⟨j, e, q1, q2, q⟩ := q1
  subst e
  cases r1 with
  | cons r rr =>
    cases rr
    obtain ⟨t, rfl⟩ := r
    exact call_range_1 (range_it I1 (by omega) (by omega) q1 q2 (by simpa using q))
theorem pi_range2 {a b : Expr} {ta : TA} {p pos : Pos} (hg : Gl X "range") (hm : X.mg "range" = none) (ha : PA X [a, b] ta) (hs : starEach [a, b] X.env = [(false, eval a X.env), (false, eval b X.env)] := by rfl) (hs2 : starEach [b] X.env = [(false, eval b X.env)] := by rfl) :
    PI X tg (.Call (.Name "range" p) [a, b] [] pos) (iRng2 ta) := by
  intro pins s σ H R I h
  refine Call_ (ld_blt I hg hm boot_range (PyProof.Rows.callWith_type1 (thn (ha pos pins s σ H _ I h) fun us s1 ⟨vs, H1, I1, r1, q1⟩ => ?_) (by rw [hs, hs2]) (by rw [hs2]; rfl)))
  obtain ⟨i, j, e, ⟨q1, q2, q3, q4⟩, q⟩ := q1
  subst e
  cases r1 with
  | cons r rr =>
    cases rr with
    | cons r' rr =>
      cases rr
      obtain ⟨t, rfl⟩ := r
      obtain ⟨t', rfl⟩ := r'
      exact call_range_2 (range_it I1 q1 q2 q3 q4 q)

/-! ### for -/
/-- W: the invariant by the turn and a measure; N: what the body is to reach -/
def tFor (wi : TI) (g : TG) (tb : TS) : TS := fun D σ H => wi σ H fun J H1 => ∃ W : Nat → Nat → St → Hp → Prop, (∃ m, W 0 m σ H1) ∧ ∀ i m σ H, W i m σ H →
  (J.stop i H ∧ D.nx σ H) ∨ (J.go i H ∧ ∃ N : St → Hp → Prop, (∀ σ' H', N σ' H' → ∃ m', m' < m ∧ W (i + 1) m' σ' H') ∧ ∀ x H', J.yld i H x H' → g x σ H' fun σ2 H2 => tb { D with nx := N, ct := N, bk := D.nx } σ2 H2)
/-- the records at fp as they stand -/
def pinsAt (fp : List Addr) (h : Heap) : List (Addr × Obj) := fp.filterMap fun b => (h.get? b).map fun o => (b, o)
theorem mem_pinsAt {fp : List Addr} {h : Heap} {b : Addr} {o : Obj} (hb : b ∈ fp) (e : h.get? b = some o) : (b, o) ∈ pinsAt fp h := List.mem_filterMap.mpr ⟨b, hb, by rw [e]; rfl⟩
theorem of_pinsAt {fp : List Addr} {h : Heap} {p : Addr × Obj} (hp : p ∈ pinsAt fp h) : p.1 ∈ fp ∧ h.get? p.1 = some p.2 := by
  obtain ⟨b, hb, e⟩ := List.mem_filterMap.mp hp
  cases q : h.get? b with
  | none => rw [q] at e; cases e
  | some o =>
    rw [q] at e
    have e' : (b, o) = p := Option.some.inj e
    subst e'
    exact ⟨hb, q⟩
theorem Inv.pinned {pins : List (Addr × Obj)} {σ : St} {H : Hp} {s : Shared} {fp : List Addr} (I : Inv X pins σ H s) (hf : ∀ b ∈ fp, FpOk X pins H b) (ho : ∀ b ∈ fp, ∃ o, s.heap.get? b = some o ∧ ∀ v, o.data ≠ .cell v) : Inv X (pins ++ pinsAt fp s.heap) σ H s :=
  I.pins_of fun p hp => (List.mem_append.mp hp).elim (fun z => I.pin p (List.mem_append_right _ z)) fun z => by
    obtain ⟨hb, e⟩ := of_pinsAt z
    obtain ⟨f0, f1, f2, _⟩ := hf p.1 hb
    obtain ⟨o, e', d⟩ := ho p.1 hb
    rw [e] at e'; cases e'
    exact ⟨e, f0, f1, f2, d⟩
theorem Inv.unpinned {pins pl : List (Addr × Obj)} {σ : St} {H : Hp} {s : Shared} (I : Inv X (pins ++ pl) σ H s) : Inv X pins σ H s := I.pins_of fun p hp => I.pin p (List.mem_append_right _ (List.mem_append_left _ hp))
theorem ps_for {iter : Expr} {body : List Stmt} {wi : TI} {g : TG} {tb : TS} {pos : Pos} (hp : PassesOwn (model X.prog X.w) X.A X.env X.xe) (hc : X.calm = true) (hi : PI X tg iter wi) (hg : PG X tg g) (hb : PSs X body tb)
    (hs : ∀ x, foldedSetIterable iter X.env x = pure x := by intro _; rfl) : PS X (.For tg iter body [] pos) (tFor wi g tb) := by
  intro pins s σ H D I h
  refine wpAny_For (thn (hi pins s σ H _ I h) fun v s1 h1 => thn h1 fun itv s2 h2 => ?_) hs
  obtain ⟨it, fp, tn, J, H2, e, I2, T, st2, f2, W, ⟨m0, w0⟩, turn⟩ := h2
  subst e
  -- what stays true of the iterator's objects through the loop
  have stat : ∀ {H' : Hp}, (∀ b ∈ fp, H' b = none) → ∀ b ∈ fp, FpOk X pins H' b := fun hn b hb => ⟨hn b hb, (f2 b hb).2⟩
  refine codeAny_forLoop_any (fun n s' => ∃ i σ' H', Inv X pins σ' H' s' ∧ tn i s'.heap ∧ (∀ b ∈ fp, H' b = none) ∧ W i n σ' H') ?_ m0 ⟨0, σ, H2, I2, st2, fun b hb => (f2 b hb).1, w0⟩
  rintro n s3 ⟨i, σ3, H3, I3, st3, fr3, w3⟩
  rcases turn i n σ3 H3 w3 with ⟨stop, qn⟩ | ⟨go, N, hN, step⟩
  · refine wpAny_passesOwn hp (thn (T.done X rfl rfl rfl hc i pins s3 σ3 H3 X.xe I3 (stat fr3) st3 stop) fun r s4 ⟨hr, I4⟩ => ?_)
    subst hr
    exact wpAny_execs_nil ⟨σ3, H3, I4, qn⟩
  · refine wpAny_passesOwn hp (thn (T.item X rfl rfl rfl hc i pins s3 σ3 H3 X.xe I3 (stat fr3) st3 go) fun r s4 ⟨u, hr, h4⟩ => ?_)
    subst hr
    refine wpAny_passesOwn hp (thn h4 fun _ s5 ⟨x, H5, I5, r5, y5, st5, fr5⟩ => ?_)
    have I5' := I5.pinned (stat fr5) (T.obj _ _ st5)
    refine wpAny_passesOwn hp (thn (hg _ s5 σ3 H5 x u _ I5' r5 (step x H5 y5)) fun _ s6 ⟨σ6, H6, I6, q6⟩ => ?_)
    refine wpAny_passesOwn hp (thn (hb _ s6 σ6 H6 _ I6 q6) fun f s7 q7 => ?_)
    have again : ∀ {σ7 : St} {H7 : Hp}, Inv X (pins ++ pinsAt fp s5.heap) σ7 H7 s7 → N σ7 H7 → ∃ m, m < n ∧ ∃ i σ' H', Inv X pins σ' H' s7 ∧ tn i s7.heap ∧ (∀ b ∈ fp, H' b = none) ∧ W i m σ' H' := fun {σ7 H7} I7 n7 => by
      obtain ⟨m', hm, w7⟩ := hN σ7 H7 n7
      refine ⟨m', hm, i + 1, σ7, H7, I7.unpinned, T.keep _ _ _ st5 fun b hb o e => (I7.pin (b, o) (List.mem_append_right _ (List.mem_append_right _ (mem_pinsAt hb e)))).1, fun b hb => ?_, w7⟩
      obtain ⟨o, e, d⟩ := T.obj _ _ st5 b hb
      exact (I7.pin (b, o) (List.mem_append_right _ (List.mem_append_right _ (mem_pinsAt hb e)))).2.1
    cases f with
    | next => obtain ⟨σ7, H7, I7, n7⟩ := q7; exact again I7 n7
    | cont => obtain ⟨σ7, H7, I7, n7⟩ := q7; exact again I7 n7
    | brk => obtain ⟨σ7, H7, I7, q7⟩ := q7; exact ⟨σ7, H7, I7.unpinned, q7⟩
    | ret v => obtain ⟨x7, σ7, H7, I7, r7, q7⟩ := q7; exact ⟨x7, σ7, H7, I7.unpinned, r7, q7⟩
end

/-! ### the forms one uses -/
/-- over a list that the body leaves as it is -/
theorem for_list {K : PySem.W.Frag} {a : Addr} {xs : List V} {g : TG} {tb : TS} {D : Ends} {σ : St} {H : Hp} (Pv : Nat → St → Hp → Prop) (h0 : Pv 0 σ H) (hl : ∀ i σ H, i ≤ xs.length → Pv i σ H → SqL K H a xs)
    (hs : ∀ i x σ H, xs[i]? = some x → Pv i σ H → g x σ H fun σ2 H2 => tb { D with nx := Pv (i + 1), ct := Pv (i + 1), bk := D.nx } σ2 H2) (hd : ∀ σ H, Pv xs.length σ H → D.nx σ H) :
    ∃ W : Nat → Nat → St → Hp → Prop, (∃ m, W 0 m σ H) ∧ ∀ i m σ H, W i m σ H →
      ((Itl K a).stop i H ∧ D.nx σ H) ∨ ((Itl K a).go i H ∧ ∃ N : St → Hp → Prop, (∀ σ' H', N σ' H' → ∃ m', m' < m ∧ W (i + 1) m' σ' H') ∧ ∀ x H', (Itl K a).yld i H x H' → g x σ H' fun σ2 H2 => tb { D with nx := N, ct := N, bk := D.nx } σ2 H2) := by
  refine ⟨fun i m σ H => m = xs.length - i ∧ i ≤ xs.length ∧ Pv i σ H, ⟨xs.length, by simp, Nat.zero_le _, h0⟩, ?_⟩
  rintro i m σ H ⟨rfl, hi, p⟩
  have q := hl i σ H hi p
  by_cases hlt : i < xs.length
  · refine .inr ⟨⟨xs, xs[i], q, by simp [hlt]⟩, Pv (i + 1), fun σ' H' p' => ⟨xs.length - (i + 1), by omega, rfl, hlt, p'⟩, fun x H' y => ?_⟩
    obtain ⟨e, y⟩ := y
    subst e
    exact hs i x σ _ (y xs q) p
  · have e : i = xs.length := by omega
    subst e
    exact .inl ⟨⟨xs, q, Nat.le_refl _⟩, hd σ H p⟩
theorem for_tup {K : PySem.W.Frag} {a : Addr} {xs : List V} {g : TG} {tb : TS} {D : Ends} {σ : St} {H : Hp} (Pv : Nat → St → Hp → Prop) (h0 : Pv 0 σ H) (hl : ∀ i σ H, i ≤ xs.length → Pv i σ H → SqT K H a xs)
    (hs : ∀ i x σ H, xs[i]? = some x → Pv i σ H → g x σ H fun σ2 H2 => tb { D with nx := Pv (i + 1), ct := Pv (i + 1), bk := D.nx } σ2 H2) (hd : ∀ σ H, Pv xs.length σ H → D.nx σ H) :
    ∃ W : Nat → Nat → St → Hp → Prop, (∃ m, W 0 m σ H) ∧ ∀ i m σ H, W i m σ H →
      ((Itt K a).stop i H ∧ D.nx σ H) ∨ ((Itt K a).go i H ∧ ∃ N : St → Hp → Prop, (∀ σ' H', N σ' H' → ∃ m', m' < m ∧ W (i + 1) m' σ' H') ∧ ∀ x H', (Itt K a).yld i H x H' → g x σ H' fun σ2 H2 => tb { D with nx := N, ct := N, bk := D.nx } σ2 H2) := by
  refine ⟨fun i m σ H => m = xs.length - i ∧ i ≤ xs.length ∧ Pv i σ H, ⟨xs.length, by simp, Nat.zero_le _, h0⟩, ?_⟩
  rintro i m σ H ⟨rfl, hi, p⟩
  have q := hl i σ H hi p
  by_cases hlt : i < xs.length
  · refine .inr ⟨⟨xs, xs[i], q, by simp [hlt]⟩, Pv (i + 1), fun σ' H' p' => ⟨xs.length - (i + 1), by omega, rfl, hlt, p'⟩, fun x H' y => ?_⟩
    obtain ⟨e, y⟩ := y
    subst e
    exact hs i x σ _ (y xs q) p
  · have e : i = xs.length := by omega
    subst e
    exact .inl ⟨⟨xs, q, Nat.le_refl _⟩, hd σ H p⟩
theorem for_range {lo : Int} {n : Nat} {g : TG} {tb : TS} {D : Ends} {σ : St} {H : Hp} (Pv : Nat → St → Hp → Prop) (h0 : Pv 0 σ H)
    (hs : ∀ i σ H, i < n → Pv i σ H → g (.int (lo + i)) σ H fun σ2 H2 => tb { D with nx := Pv (i + 1), ct := Pv (i + 1), bk := D.nx } σ2 H2) (hd : ∀ σ H, Pv n σ H → D.nx σ H) :
    ∃ W : Nat → Nat → St → Hp → Prop, (∃ m, W 0 m σ H) ∧ ∀ i m σ H, W i m σ H →
      ((Itr lo n).stop i H ∧ D.nx σ H) ∨ ((Itr lo n).go i H ∧ ∃ N : St → Hp → Prop, (∀ σ' H', N σ' H' → ∃ m', m' < m ∧ W (i + 1) m' σ' H') ∧ ∀ x H', (Itr lo n).yld i H x H' → g x σ H' fun σ2 H2 => tb { D with nx := N, ct := N, bk := D.nx } σ2 H2) := by
  refine ⟨fun i m σ H => m = n - i ∧ i ≤ n ∧ Pv i σ H, ⟨n, by simp, Nat.zero_le _, h0⟩, ?_⟩
  rintro i m σ H ⟨rfl, hi, p⟩
  by_cases hlt : i < n
  · refine .inr ⟨hlt, Pv (i + 1), fun σ' H' p' => ⟨n - (i + 1), by omega, rfl, hlt, p'⟩, fun x H' y => ?_⟩
    obtain ⟨e, y⟩ := y
    subst e y
    exact hs i σ _ hlt p
  · have e : i = n := by omega
    subst e
    exact .inl ⟨Nat.le_refl _, hd σ H p⟩
/-- while, by a word and a measure of the state -/
theorem while_by {c : TT} {tb : TS} {D : Ends} {σ : St} {H : Hp} (Pv : St → Hp → Prop) (μ : St → Hp → Nat) (h0 : Pv σ H)
    (hs : ∀ σ H, Pv σ H → c σ H fun b H1 => if b = true then tb { D with nx := fun σ' H' => Pv σ' H' ∧ μ σ' H' < μ σ H, ct := fun σ' H' => Pv σ' H' ∧ μ σ' H' < μ σ H, bk := D.nx } σ H1 else D.nx σ H1)
    (mono : ∀ σ H Q Q', (∀ b H1, Q b H1 → Q' b H1) → c σ H Q → c σ H Q') : tWhile c tb D σ H := by
  refine ⟨fun m σ H => m = μ σ H ∧ Pv σ H, ⟨_, rfl, h0⟩, ?_⟩
  rintro m σ H ⟨rfl, p⟩
  refine mono σ H _ _ (fun b H1 q => ?_) (hs σ H p)
  cases b with
  | true => exact ⟨_, fun σ' H' ⟨p', l⟩ => ⟨_, l, rfl, p'⟩, q⟩
  | false => exact q
end L2

namespace L2
open PySem PySem.Spec PyProof.Rows

abbrev R2 := V → V → Hp → VK → Prop
/-- a two-place operation on values: f is binaryOp op, inplaceOp op or compareOp op -/
def OpR (X : Cx) (f : Value → Value → Sem Value) (r : R2) : Prop :=
  ∀ (pins : List (Addr × Obj)) (s : Shared) (σ : St) (H : Hp) (x y : V) (v u : Value) (Q : VK), Inv X pins σ H s → RelV x v → RelV y u → r x y H Q →
    wpAny (model X.prog X.w) X.A (f v u) (EP X pins σ Q) X.xe s
/-- a one-place operation -/
def UnR (X : Cx) (f : Value → Sem Value) (r : V → Hp → VK → Prop) : Prop :=
  ∀ (pins : List (Addr × Obj)) (s : Shared) (σ : St) (H : Hp) (x : V) (v : Value) (Q : VK), Inv X pins σ H s → RelV x v → r x H Q →
    wpAny (model X.prog X.w) X.A (f v) (EP X pins σ Q) X.xe s
/-- a call of a value that is known (a builtin, a type) with values -/
def CallR (X : Cx) (f : Value) (r : List V → Hp → VK → Prop) : Prop :=
  ∀ (pins : List (Addr × Obj)) (s : Shared) (σ : St) (H : Hp) (xs : List V) (us : List Value) (Q : VK), Inv X pins σ H s → Vals xs us → r xs H Q →
    wpAny (model X.prog X.w) X.A (call f us) (EP X pins σ Q) X.xe s
/-- a value's truth -/
def TruR (X : Cx) (r : V → Hp → (Bool → Hp → Prop) → Prop) : Prop :=
  ∀ (pins : List (Addr × Obj)) (s : Shared) (σ : St) (H : Hp) (x : V) (v : Value) (Q : Bool → Hp → Prop), Inv X pins σ H s → RelV x v → r x H Q →
    wpAny (model X.prog X.w) X.A (truthy v) (TP X pins σ Q) X.xe s

def tOp (r : R2) (ta tb : TE) : TE := fun σ H Q => ta σ H fun x H1 => tb σ H1 fun y H2 => r x y H2 Q
def tUn (r : V → Hp → VK → Prop) (ta : TE) : TE := fun σ H Q => ta σ H fun x H1 => r x H1 Q
/-- ints in, under C, and a value out -/
def rI (C : Int → Int → Prop) (g : Int → Int → V) : R2 := fun x y H Q => ∃ i j, x = .int i ∧ y = .int j ∧ C i j ∧ Q (g i j) H
def rI0 (g : Int → Int → V) : R2 := fun x y H Q => ∃ i j, x = .int i ∧ y = .int j ∧ Q (g i j) H
def rU (g : Int → V) : V → Hp → VK → Prop := fun x H Q => ∃ i, x = .int i ∧ Q (g i) H

section
variable {X : Cx} {a b c : Expr} {ta tb tc : TE} {pos : Pos}

theorem binT (ha : PE X a ta) (hb : PE X b tb) {pins : List (Addr × Obj)} {s : Shared} {σ : St} {H : Hp} {R : V → V → Hp → Prop} (I : Inv X pins σ H s)
    (h : ta σ H fun x H1 => tb σ H1 fun y H2 => R x y H2) {Q : Value → Shared → Prop} {f : Value → Value → Sem Value}
    (hf : ∀ v u s2 x y H2, Inv X pins σ H2 s2 → RelV x v → RelV y u → R x y H2 → wpAny (model X.prog X.w) X.A (f v u) Q X.xe s2) :
    wpAny (model X.prog X.w) X.A (eval a X.env) (fun v s₁ => wpAny (model X.prog X.w) X.A (eval b X.env) (fun u s₂ => wpAny (model X.prog X.w) X.A (f v u) Q X.xe s₂) X.xe s₁) X.xe s := by
  refine thn (ha pins s σ H _ I h) fun v s1 ⟨x, H1, I1, r1, q1⟩ => ?_
  refine thn (hb pins s1 σ H1 _ I1 q1) fun u s2 ⟨y, H2, I2, r2, q2⟩ => ?_
  exact hf v u s2 x y H2 I2 r1 r2 q2

theorem pe_op {op : Operator} {r : R2} (ho : OpR X (binaryOp op) r) (ha : PE X a ta) (hb : PE X b tb) : PE X (.BinOp a op b pos) (tOp r ta tb) := by
  intro pins s σ H Q I h
  exact wpAny_BinOp (binT ha hb I h fun v u s2 x y H2 I2 rx ry q => ho pins s2 σ H2 x y v u Q I2 rx ry q)
theorem pe_un {op : UnaryOp} {r : V → Hp → VK → Prop} (ho : UnR X (unaryOp op) r) (ha : PE X a ta) : PE X (.UnaryOp op a pos) (tUn r ta) := by
  intro pins s σ H Q I h
  exact UnaryOp_ (thn (ha pins s σ H _ I h) fun v s1 ⟨x, H1, I1, r1, q1⟩ => ho pins s1 σ H1 x v Q I1 r1 q1)
/-- a op= e at a name: the name's slot i -/
theorem augR {op : Operator} {r : R2} (ho : OpR X (inplaceOp op) r) {pins : List (Addr × Obj)} {s : Shared} {σ : St} {H : Hp} {x y : V} {v u : Value} {Q : VK} (I : Inv X pins σ H s)
    (rx : RelV x v) (ry : RelV y u) (q : r x y H Q) : wpAny (model X.prog X.w) X.A (inplaceOp op v u) (EP X pins σ Q) X.xe s := ho pins s σ H x y v u Q I rx ry q

/-! ### ints -/
theorem opI {f : Value → Value → Sem Value} {C : Int → Int → Prop} {g : Int → Int → Int}
    (rule : ∀ (i j : Int) (t u : Tok) (s : Shared) (Q : Value → Shared → Prop) (E : Value → Shared → Prop), C i j → Q (.int (g i j) s.toks) { s with toks := s.toks + 1 } → wpAny (model X.prog X.w) X.A (f (.int i t) (.int j u)) Q E s) :
    OpR X f (rI C fun i j => .int (g i j)) := by
  intro pins s σ H x y v u Q I rx ry h
  obtain ⟨i, j, rfl, rfl, hc, q⟩ := h
  obtain ⟨t, rfl⟩ := rx
  obtain ⟨t', rfl⟩ := ry
  exact rule i j t t' s _ _ hc ⟨.int (g i j), H, I.tok _, ⟨_, rfl⟩, q⟩
theorem opI0 {f : Value → Value → Sem Value} {g : Int → Int → Int}
    (rule : ∀ (i j : Int) (t u : Tok) (s : Shared) (Q : Value → Shared → Prop) (E : Value → Shared → Prop), Q (.int (g i j) s.toks) { s with toks := s.toks + 1 } → wpAny (model X.prog X.w) X.A (f (.int i t) (.int j u)) Q E s) :
    OpR X f (rI0 fun i j => .int (g i j)) := by
  intro pins s σ H x y v u Q I rx ry h
  obtain ⟨i, j, rfl, rfl, q⟩ := h
  obtain ⟨t, rfl⟩ := rx
  obtain ⟨t', rfl⟩ := ry
  exact rule i j t t' s _ _ ⟨.int (g i j), H, I.tok _, ⟨_, rfl⟩, q⟩
theorem opB0 {f : Value → Value → Sem Value} {g : Int → Int → Bool}
    (rule : ∀ (i j : Int) (t u : Tok) (s : Shared) (Q : Value → Shared → Prop) (E : Value → Shared → Prop), Q (.bool (g i j)) s → wpAny (model X.prog X.w) X.A (f (.int i t) (.int j u)) Q E s) :
    OpR X f (rI0 fun i j => .bl (g i j)) := by
  intro pins s σ H x y v u Q I rx ry h
  obtain ⟨i, j, rfl, rfl, q⟩ := h
  obtain ⟨t, rfl⟩ := rx
  obtain ⟨t', rfl⟩ := ry
  exact rule i j t t' s _ _ ⟨.bl (g i j), H, I, rfl, q⟩

def CDiv (i j : Int) : Prop := 0 < j ∧ j < 1073741824
def CDivN (i j : Int) : Prop := j ≠ 0 ∧ j.natAbs < 1073741824
def CPow (i j : Int) : Prop := 0 ≤ j ∧ j ≤ 1000000 ∧ i.natAbs < 2 ^ 64
def CMul (i j : Int) : Prop := (-(2 ^ 64) < i ∧ i < 2 ^ 64) ∨ (-(2 ^ 64) < j ∧ j < 2 ^ 64)
theorem CMul.ok {i j : Int} (h : CMul i j) : IntMulOk i j := by
  rcases h with ⟨h1, h2⟩ | ⟨h1, h2⟩
  · exact .of_left (intBits_le_64 h1 h2)
  · exact .of_right (intBits_le_64 h1 h2)
theorem two_pow_nn (k : Nat) : (0 : Int) ≤ 2 ^ k := by
  rw [two_pow_cast]
  exact Int.natCast_nonneg _

theorem op_add : OpR X (binaryOp .Add) (rI0 fun i j => .int (i + j)) := opI0 fun _ _ _ _ _ _ _ q => add_int q
theorem op_sub : OpR X (binaryOp .Sub) (rI0 fun i j => .int (i - j)) := opI0 fun _ _ _ _ _ _ _ q => sub_int q
theorem op_mul : OpR X (binaryOp .Mult) (rI CMul fun i j => .int (i * j)) := opI fun _ _ _ _ _ _ _ hc q => mul_int q hc.ok
/-- // by a positive divisor -/
theorem op_fdiv : OpR X (binaryOp .FloorDiv) (rI CDiv fun i j => .int (i / j)) := opI fun i j _ _ _ _ _ hc q => by
  have h1 : (0 : Int) < j := hc.1
  have h2 : j < 1073741824 := hc.2
  exact floordiv_int (by omega) (by rw [Int.fdiv_eq_ediv_of_nonneg i (by omega)]; exact q) (.inl (PyProof.noPylong_small (by omega)))
theorem op_fdivN : OpR X (binaryOp .FloorDiv) (rI CDivN fun i j => .int (i.fdiv j)) := opI fun _ _ _ _ _ _ _ hc q => floordiv_int hc.1 q (.inl (PyProof.noPylong_small hc.2))
/-- % by a positive divisor of any size -/
theorem op_mod : OpR X (binaryOp .Mod) (rI (fun _ j => 0 < j) fun i j => .int (i % j)) := opI fun i j _ _ _ _ _ hc q => by
  have h1 : (0 : Int) < j := hc
  exact mod_int' (by omega) (by rw [Int.fmod_eq_emod_of_nonneg i (by omega)]; exact q)
theorem op_modN : OpR X (binaryOp .Mod) (rI (fun _ j => j ≠ 0) fun i j => .int (i.fmod j)) := opI fun _ _ _ _ _ _ _ hc q => mod_int' hc q
theorem op_pow : OpR X (binaryOp .Pow) (rI CPow fun i j => .int (i ^ j.toNat)) := opI fun _ _ _ _ _ _ _ hc q => pow_int_small hc.1 hc.2.1 hc.2.2 q
theorem op_shl : OpR X (binaryOp .LShift) (rI CPow fun i j => .int (i * 2 ^ j.toNat)) := opI fun _ _ _ _ _ _ _ hc q => lshift_int_small hc.1 hc.2.1 hc.2.2 q
theorem op_shr : OpR X (binaryOp .RShift) (rI (fun _ j => 0 ≤ j) fun i j => .int (i / 2 ^ j.toNat)) := opI fun i j _ _ _ _ _ hc q =>
  rshift_int hc (by rw [Int.fdiv_eq_ediv_of_nonneg i (two_pow_nn _)]; exact q)
theorem op_and : OpR X (binaryOp .BitAnd) (rI0 fun i j => .int (Builtin.bitAnd i j)) := opI0 fun _ _ _ _ _ _ _ q => and_int q
theorem op_or : OpR X (binaryOp .BitOr) (rI0 fun i j => .int (Builtin.bitOr i j)) := opI0 fun _ _ _ _ _ _ _ q => or_int q
theorem op_xor : OpR X (binaryOp .BitXor) (rI0 fun i j => .int (Builtin.bitXor i j)) := opI0 fun _ _ _ _ _ _ _ q => xor_int q

theorem iop_add : OpR X (inplaceOp .Add) (rI0 fun i j => .int (i + j)) := opI0 fun _ _ _ _ _ _ _ q => iadd_int q
theorem iop_sub : OpR X (inplaceOp .Sub) (rI0 fun i j => .int (i - j)) := opI0 fun _ _ _ _ _ _ _ q => isub_int q
theorem iop_mul : OpR X (inplaceOp .Mult) (rI CMul fun i j => .int (i * j)) := opI fun _ _ _ _ _ _ _ hc q => imul_int q hc.ok
theorem iop_fdiv : OpR X (inplaceOp .FloorDiv) (rI CDiv fun i j => .int (i / j)) := opI fun i j _ _ _ _ _ hc q => by
  have h1 : (0 : Int) < j := hc.1
  have h2 : j < 1073741824 := hc.2
  exact ifloordiv_int (by omega) (by rw [Int.fdiv_eq_ediv_of_nonneg i (by omega)]; exact q) (.inl (PyProof.noPylong_small (by omega)))
theorem iop_mod : OpR X (inplaceOp .Mod) (rI (fun _ j => 0 < j) fun i j => .int (i % j)) := opI fun i j _ _ _ _ _ hc q => by
  have h1 : (0 : Int) < j := hc
  exact imod_int (by omega) (by rw [Int.fmod_eq_emod_of_nonneg i (by omega)]; exact q)
theorem iop_shl : OpR X (inplaceOp .LShift) (rI CPow fun i j => .int (i * 2 ^ j.toNat)) := opI fun _ _ _ _ _ _ _ hc q => ilshift_int_small hc.1 hc.2.1 hc.2.2 q
theorem iop_shr : OpR X (inplaceOp .RShift) (rI (fun _ j => 0 ≤ j) fun i j => .int (i / 2 ^ j.toNat)) := opI fun i j _ _ _ _ _ hc q =>
  irshift_int hc (by rw [Int.fdiv_eq_ediv_of_nonneg i (two_pow_nn _)]; exact q)
theorem iop_and : OpR X (inplaceOp .BitAnd) (rI0 fun i j => .int (Builtin.bitAnd i j)) := opI0 fun _ _ _ _ _ _ _ q => iand_int q
theorem iop_or : OpR X (inplaceOp .BitOr) (rI0 fun i j => .int (Builtin.bitOr i j)) := opI0 fun _ _ _ _ _ _ _ q => ior_int q
theorem iop_xor : OpR X (inplaceOp .BitXor) (rI0 fun i j => .int (Builtin.bitXor i j)) := opI0 fun _ _ _ _ _ _ _ q => ixor_int q

theorem unI {f : Value → Sem Value} {g : Int → Int}
    (rule : ∀ (i : Int) (t : Tok) (s : Shared) (Q : Value → Shared → Prop) (E : Value → Shared → Prop), Q (.int (g i) s.toks) { s with toks := s.toks + 1 } → wpAny (model X.prog X.w) X.A (f (.int i t)) Q E s) :
    UnR X f (rU fun i => .int (g i)) := by
  intro pins s σ H x v Q I rx h
  obtain ⟨i, rfl, q⟩ := h
  obtain ⟨t, rfl⟩ := rx
  exact rule i t s _ _ ⟨.int (g i), H, I.tok _, ⟨_, rfl⟩, q⟩
theorem un_neg : UnR X (unaryOp .USub) (rU fun i => .int (-i)) := unI fun _ _ _ _ _ q => neg_int q
theorem un_inv : UnR X (unaryOp .Invert) (rU fun i => .int (Builtin.bitNot i)) := unI fun _ _ _ _ _ q => invert_int q

/-! ### bools among ints: n += (a < b) -/
theorem op_add_ib : OpR X (binaryOp .Add) (fun x y H Q => ∃ i k, x = .int i ∧ y = .bl k ∧ Q (.int (i + b2i k)) H) := by
  intro pins s σ H x y v u Q I rx ry h
  obtain ⟨i, k, rfl, rfl, q⟩ := h
  obtain ⟨t, rfl⟩ := rx
  cases ry
  exact add_int_bool ⟨.int (i + b2i k), H, I.tok _, ⟨_, rfl⟩, q⟩
end

/-! ### comparisons -/
/-- the scalars that == tells apart as data does -/
def scal : V → V → Bool
  | .non, .non => true | .non, .int _ => true | .int _, .non => true | .non, .bl _ => true | .bl _, .non => true | .non, .str _ => true | .str _, .non => true
  | .int _, .int _ => true | .bl _, .bl _ => true | .str _, .str _ => true | .byt _, .byt _ => true
  | .int _, .str _ => true | .str _, .int _ => true | .bl _, .str _ => true | .str _, .bl _ => true
  | _, _ => false
def rEq : R2 := fun x y H Q => scal x y = true ∧ Q (.bl (decide (x = y))) H
def rNe : R2 := fun x y H Q => scal x y = true ∧ Q (.bl (!decide (x = y))) H

theorem dec_int {i j : Int} : decide (V.int i = V.int j) = (i == j) := by
  rw [Bool.eq_iff_iff]
  simp
theorem dec_bl {i j : Bool} : decide (V.bl i = V.bl j) = (i == j) := by
  rw [Bool.eq_iff_iff]
  simp
theorem dec_str {i j : Str} : decide (V.str i = V.str j) = (i == j) := by
  rw [Bool.eq_iff_iff]
  simp
theorem dec_byt {i j : Array UInt8} : decide (V.byt i = V.byt j) = (i.toList == j.toList) := by
  rw [Bool.eq_iff_iff]
  cases i
  cases j
  simp

section
variable {X : Cx} {a b c : Expr} {ta tb tc : TE} {pos : Pos}
theorem fin_bl {pins : List (Addr × Obj)} {σ : St} {H : Hp} {s : Shared} {Q : VK} {k k' : Bool} (I : Inv X pins σ H s) (q : Q (.bl k) H) (e : k = k') : EP X pins σ Q (.bool k') s := by
  subst e
  exact ⟨.bl k, H, I, rfl, q⟩
theorem op_eq : OpR X (compareOp .Eq) rEq := by
  intro pins s σ H x y v u Q I rx ry h
  obtain ⟨hs, q⟩ := h
  cases x with
  | non =>
    cases rx
    cases y with
    | non => cases ry; exact PySem.EqNone.eq_none_none (fin_bl I q (by simp))
    | bl j => cases ry; exact PySem.EqNone.eq_none_bool (fin_bl I q (by simp))
    | int j => obtain ⟨t', rfl⟩ := ry; exact PySem.EqNone.eq_none_int (fin_bl I q (by simp))
    | str j => obtain ⟨t', rfl⟩ := ry; exact PySem.EqNone.eq_none_str (fin_bl I q (by simp))
    | _ => exact absurd (show false = true from hs) Bool.false_ne_true
  | bl i =>
    cases rx
    cases y with
    | non => cases ry; exact PySem.EqNone.eq_bool_none (fin_bl I q (by simp))
    | bl j => cases ry; exact eq_bool (fin_bl I q dec_bl)
    | str j => obtain ⟨t', rfl⟩ := ry; exact PySem.EqMixed.eq_bool_str (fin_bl I q (by simp))
    | _ => exact absurd (show false = true from hs) Bool.false_ne_true
  | int i =>
    obtain ⟨t, rfl⟩ := rx
    cases y with
    | non => cases ry; exact PySem.EqNone.eq_int_none (fin_bl I q (by simp))
    | int j => obtain ⟨t', rfl⟩ := ry; exact eq_int (fin_bl I q dec_int)
    | str j => obtain ⟨t', rfl⟩ := ry; exact PySem.EqMixed.eq_int_str (fin_bl I q (by simp))
    | _ => exact absurd (show false = true from hs) Bool.false_ne_true
  | str i =>
    obtain ⟨t, rfl⟩ := rx
    cases y with
    | non => cases ry; exact PySem.EqNone.eq_str_none (fin_bl I q (by simp))
    | bl j => cases ry; exact PySem.EqMixed.eq_str_bool (fin_bl I q (by simp))
    | int j => obtain ⟨t', rfl⟩ := ry; exact PySem.EqMixed.eq_str_int (fin_bl I q (by simp))
    | str j => obtain ⟨t', rfl⟩ := ry; exact eq_str (fin_bl I q dec_str)
    | _ => exact absurd (show false = true from hs) Bool.false_ne_true
  | byt i =>
    obtain ⟨t, rfl⟩ := rx
    cases y with
    | byt j => obtain ⟨t', rfl⟩ := ry; exact PySem.W.eq_bytes (fin_bl I q dec_byt)
    | _ => exact absurd (show false = true from hs) Bool.false_ne_true
  | _ => cases y <;> exact absurd (show false = true from hs) Bool.false_ne_true
theorem op_ne : OpR X (compareOp .NotEq) rNe := by
  intro pins s σ H x y v u Q I rx ry h
  obtain ⟨hs, q⟩ := h
  cases x with
  | non =>
    cases rx
    cases y with
    | non => cases ry; exact PySem.EqNone.ne_none_none (fin_bl I q (by simp))
    | bl j => cases ry; exact PySem.EqNone.ne_none_bool (fin_bl I q (by simp))
    | int j => obtain ⟨t', rfl⟩ := ry; exact PySem.EqNone.ne_none_int (fin_bl I q (by simp))
    | str j => obtain ⟨t', rfl⟩ := ry; exact PySem.EqNone.ne_none_str (fin_bl I q (by simp))
    | _ => exact absurd (show false = true from hs) Bool.false_ne_true
  | bl i =>
    cases rx
    cases y with
    | non => cases ry; exact PySem.EqNone.ne_bool_none (fin_bl I q (by simp))
    | bl j => cases ry; exact ne_bool (fin_bl I q (congrArg not dec_bl))
    | str j => obtain ⟨t', rfl⟩ := ry; exact PySem.EqMixed.ne_bool_str (fin_bl I q (by simp))
    | _ => exact absurd (show false = true from hs) Bool.false_ne_true
  | int i =>
    obtain ⟨t, rfl⟩ := rx
    cases y with
    | non => cases ry; exact PySem.EqNone.ne_int_none (fin_bl I q (by simp))
    | int j => obtain ⟨t', rfl⟩ := ry; exact ne_int (fin_bl I q (congrArg not dec_int))
    | str j => obtain ⟨t', rfl⟩ := ry; exact PySem.EqMixed.ne_int_str (fin_bl I q (by simp))
    | _ => exact absurd (show false = true from hs) Bool.false_ne_true
  | str i =>
    obtain ⟨t, rfl⟩ := rx
    cases y with
    | non => cases ry; exact PySem.EqNone.ne_str_none (fin_bl I q (by simp))
    | bl j => cases ry; exact PySem.EqMixed.ne_str_bool (fin_bl I q (by simp))
    | int j => obtain ⟨t', rfl⟩ := ry; exact PySem.EqMixed.ne_str_int (fin_bl I q (by simp))
    | str j => obtain ⟨t', rfl⟩ := ry; exact ne_str (fin_bl I q (congrArg not dec_str))
    | _ => exact absurd (show false = true from hs) Bool.false_ne_true
  | byt i =>
    obtain ⟨t, rfl⟩ := rx
    cases y with
    | byt j => obtain ⟨t', rfl⟩ := ry; exact PySem.W.ne_bytes (fin_bl I q (congrArg not dec_byt))
    | _ => exact absurd (show false = true from hs) Bool.false_ne_true
  | _ => cases y <;> exact absurd (show false = true from hs) Bool.false_ne_true

theorem op_lt : OpR X (compareOp .Lt) (rI0 fun i j => .bl (decide (i < j))) := opB0 fun _ _ _ _ _ _ _ q => lt_int q
theorem op_le : OpR X (compareOp .LtE) (rI0 fun i j => .bl (decide (i ≤ j))) := opB0 fun _ _ _ _ _ _ _ q => le_int q
theorem op_gt : OpR X (compareOp .Gt) (rI0 fun i j => .bl (decide (j < i))) := opB0 fun _ _ _ _ _ _ _ q => gt_int q
theorem op_ge : OpR X (compareOp .GtE) (rI0 fun i j => .bl (decide (j ≤ i))) := opB0 fun _ _ _ _ _ _ _ q => ge_int q
theorem op_lt_str : OpR X (compareOp .Lt) (fun x y H Q => ∃ i j, x = .str i ∧ y = .str j ∧ Q (.bl (decide (i.cps.toList < j.cps.toList))) H) := by
  intro pins s σ H x y v u Q I rx ry h
  obtain ⟨i, j, rfl, rfl, q⟩ := h
  obtain ⟨t, rfl⟩ := rx
  obtain ⟨t', rfl⟩ := ry
  exact lt_str (fin_bl I q rfl)
/-- the one string within the other -/
theorem op_in_str : OpR X (compareOp .In) (fun x y H Q => ∃ i j, x = .str i ∧ y = .str j ∧ Q (.bl (!(Builtin.Str.occurrences j i 0 j.length 1).isEmpty)) H) := by
  intro pins s σ H x y v u Q I rx ry h
  obtain ⟨i, j, rfl, rfl, q⟩ := h
  obtain ⟨t, rfl⟩ := rx
  obtain ⟨t', rfl⟩ := ry
  exact in_str (fin_bl I q rfl)

/-- is None, is not None: the right side a value none -/
theorem op_isN : OpR X (compareOp .Is) (fun x y H Q => y = .non ∧ Q (.bl (decide (x = .non))) H) := by
  intro pins s σ H x y v u Q I rx ry h
  obtain ⟨rfl, q⟩ := h
  cases ry
  refine is_none_gen (fin_bl I q ?_)
  cases x <;> first
    | (cases rx; rfl)
    | (obtain ⟨t, rfl⟩ := rx; rfl)
theorem op_notN : OpR X (compareOp .IsNot) (fun x y H Q => y = .non ∧ Q (.bl (!decide (x = .non))) H) := by
  intro pins s σ H x y v u Q I rx ry h
  obtain ⟨rfl, q⟩ := h
  cases ry
  refine isnot_none_gen (fin_bl I q ?_)
  cases x <;> first
    | (cases rx; rfl)
    | (obtain ⟨t, rfl⟩ := rx; rfl)

theorem op_notin_str : OpR X (compareOp .NotIn) (fun x y H Q => ∃ i j, x = .str i ∧ y = .str j ∧ Q (.bl (!(!(Builtin.Str.occurrences j i 0 j.length 1).isEmpty))) H) := by
  intro pins s σ H x y v u Q I rx ry h
  obtain ⟨i, j, rfl, rfl, q⟩ := h
  obtain ⟨t, rfl⟩ := rx
  obtain ⟨t', rfl⟩ := ry
  exact notIn_str (fin_bl I q rfl)
/-- is, is not of two objects that are tracked lists or instances -/
def isObj : HO → Bool
  | .lst _ => true
  | .ins _ _ _ => true
  | _ => false
theorem obj_there {pins : List (Addr × Obj)} {s : Shared} {σ : St} {H : Hp} {a : Addr} {o : HO} (I : Inv X pins σ H s) (h : H a = some o) (p : isObj o = true) : ∃ ob, s.heap.get? a = some ob ∧ ob.cls ≠ .type "tuple" := by
  cases o with
  | lst xs =>
    obtain ⟨_, its, n, _, e⟩ : xs.length ≤ sizeLine ∧ ∃ (its : List Value) (n : Nat), Vals xs its ∧ s.heap.get? a = some { cls := .type "list", data := .seq its.toArray n } := I.hok a _ h
    exact ⟨_, e, (by show Value.type "list" ≠ .type "tuple"; decide +kernel)⟩
  | ins C dx fs =>
    have x := I.hok a _ h
    obtain ⟨_, _, _, e, _⟩ := x
    exact ⟨_, e, (by show Value.ref C ≠ .type "tuple"; exact fun z => by cases z)⟩
  | _ => exact absurd (show false = true from p) Bool.false_ne_true
theorem op_is_ref : OpR X (compareOp .Is) (fun x y H Q => ∃ a b oa ob, x = .ref a ∧ y = .ref b ∧ H a = some oa ∧ isObj oa = true ∧ H b = some ob ∧ isObj ob = true ∧ Q (.bl (decide (a = b))) H) := by
  intro pins s σ H x y v u Q I rx ry h
  obtain ⟨a, b, oa, ob, rfl, rfl, ha, pa, hb, pb, q⟩ := h
  cases rx
  cases ry
  obtain ⟨o1, e1, n1⟩ := obj_there I ha pa
  obtain ⟨o2, e2, _⟩ := obj_there I hb pb
  by_cases z : a = b
  · subst z
    exact wpAny_is_ref_self (fin_bl I q (by simp))
  · exact wpAny_is_ref_other z e1 e2 n1 (fin_bl I q (by simp [z]))
theorem op_isnot_ref : OpR X (compareOp .IsNot) (fun x y H Q => ∃ a b oa ob, x = .ref a ∧ y = .ref b ∧ H a = some oa ∧ isObj oa = true ∧ H b = some ob ∧ isObj ob = true ∧ Q (.bl (!decide (a = b))) H) := by
  intro pins s σ H x y v u Q I rx ry h
  obtain ⟨a, b, oa, ob, rfl, rfl, ha, pa, hb, pb, q⟩ := h
  cases rx
  cases ry
  obtain ⟨o1, e1, n1⟩ := obj_there I ha pa
  obtain ⟨o2, e2, _⟩ := obj_there I hb pb
  by_cases z : a = b
  · subst z
    exact wpAny_isNot_ref_self (fin_bl I q (by simp))
  · exact wpAny_isNot_ref_other z e1 e2 n1 (fin_bl I q (by simp [z]))

/-- two rules for one operation: by cases -/
theorem OpR.or {f : Value → Value → Sem Value} {r r' : R2} (h : OpR X f r) (h' : OpR X f r') : OpR X f (fun x y H Q => r x y H Q ∨ r' x y H Q) := by
  intro pins s σ H x y v u Q I rx ry q
  rcases q with q | q
  · exact h pins s σ H x y v u Q I rx ry q
  · exact h' pins s σ H x y v u Q I rx ry q

theorem nomark (b : Expr) {op : CmpOp} (h : op ≠ .In := by decide) (h2 : op ≠ .NotIn := by decide) : behindInMarks op b = false := by
  have e1 : (op == CmpOp.In) = false := by cases op <;> first | rfl | exact absurd rfl h
  have e2 : (op == CmpOp.NotIn) = false := by cases op <;> first | rfl | exact absurd rfl h2
  cases b <;> simp [behindInMarks, e1, e2]
/-- a comparison as a value; hm: nomark b, or (for in, not in) by with_unfolding_all rfl -/
theorem pe_cmpR {op : CmpOp} {r : R2} (ho : OpR X (compareOp op) r) (ha : PE X a ta) (hb : PE X b tb) (hm : behindInMarks op b = false) : PE X (.Compare a [op] [b] pos) (tOp r ta tb) := by
  intro pins s σ H Q I h
  exact wpAny_Compare1 (binT ha hb I h fun v u s2 x y H2 I2 rx ry q => ho pins s2 σ H2 x y v u Q I2 rx ry q) hm
/-- a reading of a value as a test -/
def tTest (t : TE) : TT := fun σ H Q => t σ H fun x H' => ∃ k, x = .bl k ∧ Q k H'
theorem pt_cmpR {op : CmpOp} {r : R2} (ho : OpR X (compareOp op) r) (ha : PE X a ta) (hb : PE X b tb) (hm : behindInMarks op b = false) : PT X (.Compare a [op] [b] pos) (tTest (tOp r ta tb)) := by
  intro pins s σ H Q I h
  refine wpAny_isTrue_Compare1 (thn (ha pins s σ H _ I h) fun v s1 ⟨x, H1, I1, r1, q1⟩ => thn (hb pins s1 σ H1 _ I1 q1) fun u s2 ⟨y, H2, I2, r2, q2⟩ =>
    thn (ho pins s2 σ H2 x y v u _ I2 r1 r2 q2) fun c s3 ⟨z, H3, I3, r3, k, e, q3⟩ => ?_) hm
  subst e
  cases r3
  exact wpAny_truthy_bool ⟨H3, I3, q3⟩
/-- a op1 b op2 c -/
def tChain (r r' : R2) (ta tb tc : TE) : TE := fun σ H Q => ta σ H fun x H1 => tb σ H1 fun y H2 => r x y H2 fun z H3 => ∃ k, z = .bl k ∧
  (if k = true then tc σ H3 fun w' H4 => r' y w' H4 Q else Q (.bl false) H3)
theorem pe_chain {op op' : CmpOp} {r r' : R2} (ho : OpR X (compareOp op) r) (ho' : OpR X (compareOp op') r') (ha : PE X a ta) (hb : PE X b tb) (hc : PE X c tc)
    (hm : lastMarks [op, op'] [b, c] = false := by with_unfolding_all rfl) : PE X (.Compare a [op, op'] [b, c] pos) (tChain r r' ta tb tc) := by
  intro pins s σ H Q I h
  refine Compare_chain (thn (ha pins s σ H _ I h) fun v s1 ⟨x, H1, I1, r1, q1⟩ => chain_link (thn (hb pins s1 σ H1 _ I1 q1) fun u s2 ⟨y, H2, I2, r2, q2⟩ =>
    thn (ho pins s2 σ H2 x y v u _ I2 r1 r2 q2) fun d s3 ⟨z, H3, I3, r3, k, e, q3⟩ => ?_)) hm
  subst e
  cases r3
  refine wpAny_truthy_bool ?_
  cases k with
  | false => exact ite_ff ⟨.bl false, H3, I3, rfl, q3⟩
  | true => exact ite_tt (chain_last (thn (hc pins s3 σ H3 _ I3 q3) fun w' s4 ⟨z', H4, I4, r4, q4⟩ => ho' pins s4 σ H4 y z' u w' Q I4 r2 r4 q4))
theorem pt_chain {op op' : CmpOp} {r r' : R2} (ho : OpR X (compareOp op) r) (ho' : OpR X (compareOp op') r') (ha : PE X a ta) (hb : PE X b tb) (hc : PE X c tc)
    (hm : lastMarks [op, op'] [b, c] = false := by with_unfolding_all rfl) : PT X (.Compare a [op, op'] [b, c] pos) (tTest (tChain r r' ta tb tc)) := by
  intro pins s σ H Q I h
  refine isTrue_chain (thn (ha pins s σ H _ I h) fun v s1 ⟨x, H1, I1, r1, q1⟩ => test_link (thn (hb pins s1 σ H1 _ I1 q1) fun u s2 ⟨y, H2, I2, r2, q2⟩ =>
    thn (ho pins s2 σ H2 x y v u _ I2 r1 r2 q2) fun d s3 ⟨z, H3, I3, r3, k, e, q3⟩ => ?_)) hm
  subst e
  cases r3
  refine wpAny_truthy_bool ?_
  cases k with
  | false =>
    obtain ⟨k', e', q'⟩ := q3
    cases e'
    exact ite_ff ⟨H3, I3, q'⟩
  | true =>
    refine ite_tt (test_last (thn (hc pins s3 σ H3 _ I3 q3) fun w' s4 ⟨z', H4, I4, r4, q4⟩ => thn (ho' pins s4 σ H4 y z' u w' _ I4 r2 r4 q4) fun d' s5 ⟨z2, H5, I5, r5, k2, e2, q5⟩ => ?_))
    subst e2
    cases r5
    exact wpAny_truthy_bool ⟨H5, I5, q5⟩

/-! ### truth -/
/-- a value's truth by the abstract heap -/
def TruV (K : PySem.W.Frag) (x : V) (H : Hp) (k : Bool) : Prop :=
  match x with
  | .non => k = false
  | .bl b => k = b
  | .int i => k = (i != 0)
  | .str y => y.length ≤ sizeLine ∧ k = ((y.length : Int) != 0)
  | .byt y => y.size ≤ sizeLine ∧ k = ((y.size : Int) != 0)
  | .ref p => (∃ xs, SqL K H p xs ∧ k = !xs.isEmpty) ∨ (∃ xs, SqT K H p xs ∧ k = !xs.isEmpty) ∨ ∃ kvs, H p = some (.dK kvs) ∧ k = !kvs.isEmpty
  | _ => False
theorem isEmpty_kv {κ : Type} {kvs : List (κ × V)} {vs : List (κ × Value)} (r : KV kvs vs) : (!vs.isEmpty) = !kvs.isEmpty := by
  cases r <;> rfl
theorem isEmpty_of {xs : List V} {its : List Value} (r : Vals xs its) : (!its.toArray.isEmpty) = !xs.isEmpty := by
  cases r <;> simp
theorem line63 : (sizeLine : Nat) < 2 ^ 63 := by rw [sizeLine_eq]; decide
theorem tru_ok : TruR X (fun x H Q => ∃ k, TruV X.K x H k ∧ Q k H) := by
  intro pins s σ H x v Q I rx h
  obtain ⟨k, e, q⟩ := h
  have hl := line63
  have hs : sizeLine = 16777216 := sizeLine_eq
  cases x with
  | non =>
    cases rx
    have e' : k = false := e
    subst e'
    exact truthy_none ⟨H, I, q⟩
  | bl b =>
    cases rx
    have e' : k = b := e
    subst e'
    exact wpAny_truthy_bool ⟨H, I, q⟩
  | int i =>
    obtain ⟨t, rfl⟩ := rx
    have e' : k = (i != 0) := e
    subst e'
    exact PySem.P.truthy_int ⟨H, I, q⟩
  | str y =>
    obtain ⟨t, rfl⟩ := rx
    obtain ⟨hy, e'⟩ : y.length ≤ sizeLine ∧ k = ((y.length : Int) != 0) := e
    subst e'
    exact PySem.P.truthy_str (by omega) ⟨H, I.tok _, q⟩
  | byt y =>
    obtain ⟨t, rfl⟩ := rx
    obtain ⟨hy, e'⟩ : y.size ≤ sizeLine ∧ k = ((y.size : Int) != 0) := e
    subst e'
    exact PySem.W.truthy_bytes (by omega) ⟨H, I.tok _, q⟩
  | ref p =>
    cases rx
    have e' : (∃ xs, SqL X.K H p xs ∧ k = !xs.isEmpty) ∨ (∃ xs, SqT X.K H p xs ∧ k = !xs.isEmpty) ∨ ∃ kvs, H p = some (.dK kvs) ∧ k = !kvs.isEmpty := e
    rcases e' with ⟨xs, hx, e'⟩ | ⟨xs, hx, e'⟩ | ⟨kvs, hx, e'⟩
    · subst e'
      obtain ⟨its, r, pl, hz⟩ := I.list hx
      have hlen := r.length
      exact wpAny_truthy_list pl.isList (by simp only [List.size_toArray]; omega) ⟨H, I.tok _, by rw [isEmpty_of r]; exact q⟩
    · subst e'
      obtain ⟨its, r, pl, hz⟩ := I.tuple hx
      have hlen := r.length
      exact truthy_tuple pl (by simp only [List.size_toArray]; omega) ⟨H, I.tok _, by rw [isEmpty_of r]; exact q⟩
    · subst e'
      obtain ⟨hz, hS, vs, r, m⟩ : kvs.length ≤ sizeLine ∧ (p == sysModules) = false ∧ ∃ vs, KV kvs vs ∧ s.heap.DictOf (mixKind X.prog X.w) p vs := I.hok p _ hx
      have hlen : kvs.length = vs.length := Paired.length r
      exact wpAny_truthy_dict hS m (by omega) ⟨H, I.tok _, by rw [isEmpty_kv r]; exact q⟩
  | _ => exact (show False from e).elim
/-- any expression whose test is its value's truth (a name, a call, a subscript, a field ..: he by fun _ => rfl) -/
theorem pt_truth (ha : PE X a ta) (he : ∀ whole, isTrue a X.env whole = (do let v ← whole; standAt a.pos; holding [v] (truthy v))) :
    PT X a (fun σ H Q => ta σ H fun x H' => ∃ k, TruV X.K x H' k ∧ Q k H') := by
  intro pins s σ H Q I h
  exact isTrue_plain (thn (ha pins s σ H _ I h) fun v s1 ⟨x, H1, I1, r1, q1⟩ => tru_ok pins s1 σ H1 x v Q I1 r1 q1) (he _)

/-! ### strs and bytes -/
theorem pe_byt {x : List UInt8} {k : Nat} : PE X (.Constant (.bytes x) k pos) (fun _ H Q => Q (.byt x.toArray) H) := fun _ _ _ H _ I h => PySem.W.Constant_bytes ⟨.byt x.toArray, H, I.tok _, ⟨_, rfl⟩, h⟩
theorem op_add_str : OpR X (binaryOp .Add) (fun x y H Q => ∃ i j, x = .str i ∧ y = .str j ∧ i.length + j.length ≤ sizeLine ∧ Q (.str (i ++ j)) H) := by
  intro pins s σ H x y v u Q I rx ry h
  obtain ⟨i, j, rfl, rfl, hz, q⟩ := h
  obtain ⟨t, rfl⟩ := rx
  obtain ⟨t', rfl⟩ := ry
  exact add_str (fun t' tk => ⟨.str (i ++ j), H, I.tok _, ⟨_, rfl⟩, q⟩) hz
theorem iop_add_str : OpR X (inplaceOp .Add) (fun x y H Q => ∃ i j, x = .str i ∧ y = .str j ∧ i.length + j.length ≤ sizeLine ∧ Q (.str (i ++ j)) H) := by
  intro pins s σ H x y v u Q I rx ry h
  obtain ⟨i, j, rfl, rfl, hz, q⟩ := h
  obtain ⟨t, rfl⟩ := rx
  obtain ⟨t', rfl⟩ := ry
  exact iadd_str (fun t' tk => ⟨.str (i ++ j), H, I.tok _, ⟨_, rfl⟩, q⟩) hz
theorem op_add_byt : OpR X (binaryOp .Add) (fun x y H Q => ∃ i j, x = .byt i ∧ y = .byt j ∧ i.size + j.size ≤ 16777216 ∧ Q (.byt (i ++ j)) H) := by
  intro pins s σ H x y v u Q I rx ry h
  obtain ⟨i, j, rfl, rfl, hz, q⟩ := h
  obtain ⟨t, rfl⟩ := rx
  obtain ⟨t', rfl⟩ := ry
  exact PySem.W.KBy.add_bytes hz (fun t' tk => ⟨.byt (i ++ j), H, I.tok _, ⟨_, rfl⟩, q⟩)

def PlainIxT (b : Expr) : Prop := ∀ o i, subscripted b false o i = operate [o, i] (getItem o i)
/-- s[i], 0 ≤ i < len -/
theorem pe_item_str (ha : PE X a ta) (hb : PE X b tb) (hs : PlainIxT b) :
    PE X (.Subscript a b pos) (tOp (fun x y H Q => ∃ z i c, x = .str z ∧ y = .int i ∧ 0 ≤ i ∧ i < 2 ^ 63 ∧ i < z.length ∧ z.cps[i.toNat]? = some c ∧ Q (.str ⟨#[c]⟩) H) ta tb) := by
  intro pins s σ H Q I h
  refine Subscript_ (binT ha hb I h fun v u s2 x y H2 I2 rx ry q => ?_)
  obtain ⟨z, i, c, rfl, rfl, h0, h63, h1, hc, q⟩ := q
  obtain ⟨t, rfl⟩ := rx
  obtain ⟨t', rfl⟩ := ry
  have e : seqIndex? i z.length = some i.toNat := PySem.StrLaws.seqIndex_nonneg h0 h1
  exact tail_any (typeIs_str s2 z t) slot_str_getitem.lookup (getItem_str (c := c) (by
    have e1 : decide (i < -(2 ^ 63 : Int)) = false := decide_eq_false (by omega)
    have e2 : decide (i ≥ 2 ^ 63) = false := decide_eq_false (by omega)
    rw [e1, e2] <;> rfl) (by rw [e]; exact hc) ⟨.str ⟨#[c]⟩, H2, I2.tok _, ⟨_, rfl⟩, q⟩) (hs _ _)
/-- b[i], 0 ≤ i < len -/
theorem pe_item_byt (ha : PE X a ta) (hb : PE X b tb) (hs : PlainIxT b) :
    PE X (.Subscript a b pos) (tOp (fun x y H Q => ∃ (z : List UInt8) (i : Int), x = .byt z.toArray ∧ y = .int i ∧ z.length ≤ sizeLine ∧ 0 ≤ i ∧ i < z.length ∧ Q (.int ((z.getD i.toNat 0).toNat : Nat)) H) ta tb) := by
  intro pins s σ H Q I h
  refine Subscript_ (binT ha hb I h fun v u s2 x y H2 I2 rx ry q => ?_)
  obtain ⟨z, i, rfl, rfl, hz, h0, h1, q⟩ := q
  obtain ⟨t, rfl⟩ := rx
  obtain ⟨t', rfl⟩ := ry
  have hl : sizeLine = 16777216 := sizeLine_eq
  exact tail_any (PySem.W.typeIs_bytes s2 z.toArray t) PySem.W.FB.slot_bytes_getitem.lookup (PySem.W.getItem_bytes (by omega) h0 h1 ⟨.int ((z.getD i.toNat 0).toNat : Nat), H2, I2.tok _, ⟨_, rfl⟩, q⟩) (hs _ _)

/-! ### scalar builtins, by CallR -/
theorem vals1 {x : V} {us : List Value} (r : Vals [x] us) : ∃ u, us = [u] ∧ RelV x u := by
  cases r with
  | cons r1 r2 => cases r2; exact ⟨_, rfl, r1⟩
theorem vals2 {x y : V} {us : List Value} (r : Vals [x, y] us) : ∃ u w', us = [u, w'] ∧ RelV x u ∧ RelV y w' := by
  cases r with
  | cons r1 r2 =>
    cases r2 with
    | cons r3 r4 => cases r4; exact ⟨_, _, rfl, r1, r3⟩
theorem call_abs : CallR X (.builtin "abs") (fun xs H Q => ∃ i, xs = [.int i] ∧ Q (.int (if i < 0 then -i else i)) H) := by
  intro pins s σ H xs us Q I r h
  obtain ⟨i, rfl, q⟩ := h
  obtain ⟨u, rfl, t, rfl⟩ := vals1 r
  exact call_abs_int fun u tk => ⟨.int (if i < 0 then -i else i), H, I.tok _, ⟨_, rfl⟩, q⟩
theorem call_max2 (hc : X.calm = true) : CallR X (.builtin "max") (fun xs H Q => ∃ i j, xs = [.int i, .int j] ∧ Q (.int (if j > i then j else i)) H) := by
  intro pins s σ H xs us Q I r h
  obtain ⟨i, j, rfl, q⟩ := h
  obtain ⟨u, w', rfl, ⟨t, rfl⟩, ⟨t', rfl⟩⟩ := vals2 r
  refine max_two_ints (I.ok.hd hc) fun h' tk k => ⟨_, H, I.kept k, ?_, q⟩
  by_cases hj : j > i
  · rw [if_pos hj, if_pos hj]; exact ⟨_, rfl⟩
  · rw [if_neg hj, if_neg hj]; exact ⟨_, rfl⟩
theorem call_min2 (hc : X.calm = true) : CallR X (.builtin "min") (fun xs H Q => ∃ i j, xs = [.int i, .int j] ∧ Q (.int (if j < i then j else i)) H) := by
  intro pins s σ H xs us Q I r h
  obtain ⟨i, j, rfl, q⟩ := h
  obtain ⟨u, w', rfl, ⟨t, rfl⟩, ⟨t', rfl⟩⟩ := vals2 r
  refine min_two_ints (I.ok.hd hc) fun h' tk k => ⟨_, H, I.kept k, ?_, q⟩
  by_cases hj : j < i
  · rw [if_pos hj, if_pos hj]; exact ⟨_, rfl⟩
  · rw [if_neg hj, if_neg hj]; exact ⟨_, rfl⟩
theorem call_int1 : CallR X (.type "int") (fun xs H Q => (∃ i, xs = [.int i] ∧ Q (.int i) H) ∨ ∃ k, xs = [.bl k] ∧ Q (.int (if k then 1 else 0)) H) := by
  intro pins s σ H xs us Q I r h
  rcases h with ⟨i, rfl, q⟩ | ⟨k, rfl, q⟩
  · obtain ⟨u, rfl, t, rfl⟩ := vals1 r
    exact call_int_int ⟨.int i, H, I, ⟨_, rfl⟩, q⟩
  · obtain ⟨u, rfl, r1⟩ := vals1 r
    cases r1
    exact call_int_bool ⟨.int (if k then 1 else 0), H, I.tok _, ⟨_, rfl⟩, q⟩
theorem call_bool1 : CallR X (.type "bool") (fun xs H Q => (∃ i, xs = [.int i] ∧ Q (.bl (i != 0)) H) ∨ ∃ k, xs = [.bl k] ∧ Q (.bl k) H) := by
  intro pins s σ H xs us Q I r h
  rcases h with ⟨i, rfl, q⟩ | ⟨k, rfl, q⟩
  · obtain ⟨u, rfl, t, rfl⟩ := vals1 r
    exact call_bool_int ⟨.bl (i != 0), H, I, rfl, q⟩
  · obtain ⟨u, rfl, r1⟩ := vals1 r
    cases r1
    exact call_bool_bool ⟨.bl k, H, I, rfl, q⟩
theorem call_str_int : CallR X (.type "str") (fun xs H Q => ∃ i, xs = [.int i] ∧ i.natAbs.log2 < 1920 ∧ Q (.str (toString i)) H) := by
  intro pins s σ H xs us Q I r h
  obtain ⟨i, rfl, hz, q⟩ := h
  obtain ⟨u, rfl, t, rfl⟩ := vals1 r
  exact PySem.P.str_of_int hz ⟨.str _, H, I.tok _, ⟨_, rfl⟩, q⟩
theorem call_ord : CallR X (.builtin "ord") (fun xs H Q => ∃ x, xs = [.str x] ∧ x.length = 1 ∧ Q (.int (x.cps.getD 0 0 : Nat)) H) := by
  intro pins s σ H xs us Q I r h
  obtain ⟨x, rfl, hz, q⟩ := h
  obtain ⟨u, rfl, t, rfl⟩ := vals1 r
  exact ord_of_one hz ⟨.int _, H, I.tok _, ⟨_, rfl⟩, q⟩
theorem call_chr : CallR X (.builtin "chr") (fun xs H Q => ∃ i, xs = [.int i] ∧ 0 ≤ i ∧ i ≤ 1114111 ∧ Q (.str ⟨#[i.toNat]⟩) H) := by
  intro pins s σ H xs us Q I r h
  obtain ⟨i, rfl, h0, h1, q⟩ := h
  obtain ⟨u, rfl, t, rfl⟩ := vals1 r
  exact chr_of_range h0 h1 ⟨.str _, H, I.tok _, ⟨_, rfl⟩, q⟩
/-- len of a str, a bytes, a list, a tuple -/
def LenV (K : PySem.W.Frag) (x : V) (H : Hp) (n : Nat) : Prop :=
  match x with
  | .str y => y.length ≤ sizeLine ∧ n = y.length
  | .byt y => y.size ≤ sizeLine ∧ n = y.size
  | .ref p => (∃ xs, SqL K H p xs ∧ n = xs.length) ∨ ∃ xs, SqT K H p xs ∧ n = xs.length
  | _ => False
theorem call_len : CallR X (.builtin "len") (fun xs H Q => ∃ x n, xs = [x] ∧ LenV X.K x H n ∧ Q (.int n) H) := by
  intro pins s σ H xs us Q I r h
  obtain ⟨x, n, rfl, e, q⟩ := h
  obtain ⟨u, rfl, rx⟩ := vals1 r
  have hl := line63
  have hs : sizeLine = 16777216 := sizeLine_eq
  cases x with
  | str y =>
    obtain ⟨t, rfl⟩ := rx
    obtain ⟨hy, e'⟩ : y.length ≤ sizeLine ∧ n = y.length := e
    subst e'
    exact len_str (by omega) ⟨.int _, H, I.tok _, ⟨_, rfl⟩, q⟩
  | byt y =>
    obtain ⟨t, rfl⟩ := rx
    obtain ⟨hy, e'⟩ : y.size ≤ sizeLine ∧ n = y.size := e
    subst e'
    exact PySem.W.len_bytes (by omega) ⟨.int _, H, I.tok _, ⟨_, rfl⟩, q⟩
  | ref p =>
    cases rx
    have e' : (∃ xs, SqL X.K H p xs ∧ n = xs.length) ∨ ∃ xs, SqT X.K H p xs ∧ n = xs.length := e
    rcases e' with ⟨xs, hx, e'⟩ | ⟨xs, hx, e'⟩
    · subst e'
      obtain ⟨its, r', pl, hz⟩ := I.list hx
      have hlen := r'.length
      exact Calls.call_len_list pl.isList (by simp only [List.size_toArray]; omega) ⟨.int xs.length, H, I.tok _, ⟨_, by simp only [List.size_toArray]; rw [hlen]⟩, q⟩
    · subst e'
      obtain ⟨its, r', pl, hz⟩ := I.tuple hx
      have hlen := r'.length
      exact len_tuple pl (by simp only [List.size_toArray]; omega) ⟨.int xs.length, H, I.tok _, ⟨_, by simp only [List.size_toArray]; rw [hlen]⟩, q⟩
  | _ => exact (show False from e).elim
/-- divmod: a new tuple -/
theorem call_divmod : CallR X (.builtin "divmod") (fun xs H Q => ∃ i j, xs = [.int i, .int j] ∧ CDiv i j ∧ ∀ p, H p = none → Q (.ref p) (upd H p (.tup [.int (i / j), .int (i % j)]))) := by
  intro pins s σ H xs us Q I r h
  obtain ⟨i, j, rfl, ⟨h1, h2⟩, q⟩ := h
  obtain ⟨u, w', rfl, ⟨t, rfl⟩, ⟨t', rfl⟩⟩ := vals2 r
  refine divmod_int (by omega) ?_ (.inl (PyProof.noPylong_small (by omega)))
  rw [Int.fdiv_eq_ediv_of_nonneg i (by omega), Int.fmod_eq_emod_of_nonneg i (by omega)]
  have hn : H s.heap.objs.size = none := I.hok.fresh (Nat.le_refl _)
  refine ⟨.ref s.heap.objs.size, _, ?_, rfl, q _ hn⟩
  refine I.laid (fun b o e => Heap.get?_push_of_some _ e) (Nat.le_refl _) ⟨by simp only [List.length_cons, List.length_nil]; rw [sizeLine_eq]; decide, [.int (i / j) s.toks, .int (i % j) (s.toks + 1)], .cons ⟨_, rfl⟩ (.cons ⟨_, rfl⟩ .nil), ?_⟩
  exact ⟨_, Heap.get?_push_size s.heap rfl, rfl, 0, rfl⟩
end
end L2

namespace L2
open PySem PySem.Spec PyProof.Rows

/-! ### an instance, its attributes a map -/
structure ObjM (h : Heap) (x dx C : Addr) (mA : Str → Option Value) : Prop where
  obj : h.get? x = some (PySem.W.instObj C dx)
  ns : h.Ns1 dx mA
  ne : dx ≠ x

theorem lookIn_ns {h : Heap} {dx : Addr} {mA : Str → Option Value} (n : h.Ns1 dx mA) : ∃ od, h.get? dx = some od ∧ ∀ name, PySem.W.lookIn name od = some (mA name) := by
  obtain ⟨o, es, ep, ho, hd, hk, _, hm⟩ := n
  refine ⟨o, ho, fun name => ?_⟩
  have e := hm name
  unfold nsFind findBy at e
  rw [← Array.find?_toList] at e
  unfold PySem.W.lookIn
  rw [hd]
  dsimp only
  split
  · rename_i y q
    rw [q] at e
    exact congrArg some e
  · rename_i q
    rw [q] at e
    have a : es.toList.any (·.refKey) = false := by
      rw [List.any_eq_false]
      intro y hy
      obtain ⟨z, t, hkey⟩ := hk y (Array.mem_toList_iff.mp hy)
      simp [DictEntry.refKey, hkey]
    have a' : ¬ es.toList.any (·.refKey) = true := by rw [a]; exact Bool.false_ne_true
    rw [if_neg a']
    exact congrArg some e

theorem ObjM.look {h : Heap} {x dx C : Addr} {mA : Str → Option Value} (I : ObjM h x dx C mA) : ∃ od, PySem.W.InstAt h x (PySem.W.instObj C dx) C (some od) ∧ ∀ name, PySem.W.lookIn name od = some (mA name) :=
  let ⟨od, ho, hl⟩ := lookIn_ns I.ns
  ⟨od, ⟨I.obj, rfl, rfl, ho⟩, hl⟩

section
variable {prog : Program} {w : World} {A : Around} {E : Value → Shared → Prop} {s : Shared} {K : PySem.W.Frag} {x dx C f : Addr} {mA : Str → Option Value} {name : Str} {v : Value}

theorem get_map {expr : Bool} {Q : Value → Shared → Prop} (X : K.In s.heap) (I : ObjM s.heap x dx C mA) (hg : PySem.W.plainGet K C name = true) (hh : PySem.W.hasDictIn K C = true)
    (ha : PySem.W.findIn K (.ref C) name = some none) (hv : mA name = some v) (hv' : PySem.W.handedIn v = true) (h : Q v { s with toks := s.toks + 1 }) :
    wpAny (model prog w) A (getAttr (.ref x) name expr) Q E s := by
  obtain ⟨od, J, hl⟩ := I.look
  exact PySem.W.get_value X J (PySem.W.plainGet_of hg).1 (PySem.W.findObj_own hh ha rfl (by rw [hl, hv])) hv' h

theorem get_const {expr : Bool} {a : Value} {Q : Value → Shared → Prop} (X : K.In s.heap) (I : ObjM s.heap x dx C mA) (hg : PySem.W.plainGet K C name = true) (hh : PySem.W.hasDictIn K C = true)
    (ha : PySem.W.findIn K (.ref C) name = some (some a)) (hn : PySem.W.specialIn K a "__get__" = some none) (hc : PySem.W.copiedNames.contains name = false) (hv : mA name = none) (hv' : PySem.W.handedIn a = true)
    (h : Q a { s with toks := s.toks + 1 }) : wpAny (model prog w) A (getAttr (.ref x) name expr) Q E s := by
  obtain ⟨od, J, hl⟩ := I.look
  exact PySem.W.get_value X J (PySem.W.plainGet_of hg).1 (PySem.W.findObj_cls hh ha hn hv' hc (by rw [hl, hv])) hv' h

theorem get_meth {pl : Sem Bool} {Q : Value × List Value → Shared → Prop} (X : K.In s.heap) (I : ObjM s.heap x dx C mA) (hg : PySem.W.plainGet K C name = true)
    (hf : PySem.W.findIn K (.ref C) name = some (some (.ref f))) (ht : PySem.W.isFn K (.ref f) = true) (hv : mA name = none) (h : Q (.ref f, [.ref x]) s) :
    wpAny (model prog w) A (getMethod (.ref x) name pl) Q E s := by
  obtain ⟨od, J, hl⟩ := I.look
  exact PySem.W.method_fn X J (PySem.W.plainGet_of hg).1 (PySem.W.plainGet_of hg).2 hf (beq_iff_eq.mp ht) (by show (PySem.W.lookIn name od).map (·.isSome) = some false; rw [hl, hv]; rfl) h

theorem set_map {ns : List Str} {Q : Unit → Shared → Prop} (X : K.In s.heap) (I : ObjM s.heap x dx C mA)
    (hs : PySem.W.findIn K (.ref C) "__setattr__" = some (some (.builtin "object.__setattr__"))) (hp : PySem.W.plainOver K C = true) (ht : PySem.W.takerIn K C name = some none) (hh : PySem.W.hasDictIn K C = true)
    (hw : PySem.Within mA ns) (hsz : ns.length ≤ sizeLine)
    (h : ∀ h', ObjM h' x dx C (fun y => if y = name then some v else mA y) → Heap.SameBut dx s.heap h' → Q () { s with heap := h', toks := s.toks + 2 }) :
    wpAny (model prog w) A (setAttr (.ref x) name v) Q E s := by
  obtain ⟨od, J, hl⟩ := I.look
  refine PySem.W.set_plain X J hs (PySem.W.osa_open (s := { s with toks := s.toks + 1 }) (r := none) X J hp ht fun b => ?_)
  obtain ⟨cd, hc, hd'⟩ := PySem.W.any_some hh
  have hx : s.heap.get? x = some ⟨.ref C, some dx, .plain, #[]⟩ := I.obj
  refine wpAny_bind (wpAny_pure (wpAny_bind (wpAny_bind (wpAny_loadPart hx (wpAny_bind (PySem.W.Looks.here (s := { s with toks := s.toks + 1 }) (PySem.W.looks_clsIn X hc) ?_))))))
  rw [hd']
  refine wpAny_pure (a := some dx) (wpAny_bind (wpAny_pure (wpAny_bind ?_)))
  refine wpAny_nsSet1 (s := { s with toks := s.toks + 1 }) I.ns fun h' hn2 hs2 => ?_
  obtain ⟨oD, esD, epD, hoD, hdD, hcD⟩ := hn2.count (PySem.Within.cons name v hw)
  refine wpAny_bind (wpAny_lookBehind hoD (by rw [hdD]; exact pastItsLine_dict (Nat.le_trans hcD (by rw [List.length_cons]; omega))) ?_)
  exact wpAny_pure (h _ ⟨(hs2.2 _ (Ne.symm I.ne)).trans I.obj, hn2, I.ne⟩ hs2)

/-- C(..): the dict at the heap's end, the instance behind it; then its __init__ -/
theorem make_map {R : Result → Shared → Prop} {vs : List Value} {kw : List (Str × Value)} (X : K.In s.heap) (hm : PySem.W.makesIn K C = true)
    (hi : PySem.W.findIn K (.ref C) "__init__" = some (some (.ref f))) (hf : PySem.W.typeIn K (.ref f) = some (.type "function"))
    (h : codeAny (model prog w) (A.under (.builtin "type.__call__" ⟨.ref C :: vs, kw⟩)) (.call (.ref f) ⟨.ref (s.heap.objs.size + 1) :: vs, kw⟩) (PySem.W.InitBack (s.heap.objs.size + 1) R)
      { s with heap := (s.heap.push PySem.W.emptyDict).push (PySem.W.instObj C s.heap.objs.size) }) :
    codeAny (model prog w) A (.call (.ref C) ⟨vs, kw⟩) R s := by
  obtain ⟨hh, g, d, t, os⟩ := s
  exact PySem.W.make_core (PySem.W.makes_of X hm) (PySem.W.looks_findIn X hi) (fun self => PySem.W.bind_fn X self hf) (.inl rfl) h
/-- C() where there is no __init__ but object's -/
theorem make_map0 {R : Result → Shared → Prop} (X : K.In s.heap) (hm : PySem.W.makesIn K C = true)
    (hi : PySem.W.findIn K (.ref C) "__init__" = some (some (.builtin "object.__init__")))
    (hb : ∀ self, PySem.W.Looks (model prog w) s.heap (bindSpecial (.builtin "object.__init__") self) (.builtin "object.__init__", [self]))
    (h : codeAny (model prog w) (A.under (.builtin "type.__call__" ⟨[.ref C], []⟩)) (.call (.builtin "object.__init__") ⟨[.ref (s.heap.objs.size + 1)], []⟩) (PySem.W.InitBack (s.heap.objs.size + 1) R)
      { s with heap := (s.heap.push PySem.W.emptyDict).push (PySem.W.instObj C s.heap.objs.size) }) :
    codeAny (model prog w) A (.call (.ref C) ⟨[], []⟩) R s := by
  obtain ⟨hh, g, d, t, os⟩ := s
  exact PySem.W.make_core (PySem.W.makes_of X hm) (PySem.W.looks_findIn X hi) hb (.inr ⟨rfl, rfl⟩) h
end

/-! ### the attributes as a list of pairs -/
def putF (f : Str) (v : V) : List (Str × V) → List (Str × V)
  | [] => [(f, v)]
  | (g, x) :: r => if g = f then (g, v) :: r else (g, x) :: putF f v r
theorem lookup_putF (f g : Str) (v : V) : ∀ fs : List (Str × V), (putF f v fs).lookup g = if g = f then some v else fs.lookup g
  | [] => by
    show List.lookup g [(f, v)] = _
    by_cases h : g = f
    · have hb : (g == f) = true := beq_iff_eq.mpr h
      simp only [List.lookup, hb, if_pos h]
    · have hb : (g == f) = false := beq_eq_false_iff_ne.mpr h
      simp only [List.lookup, hb, if_neg h]
  | (k, x) :: r => by
    have ih := lookup_putF f g v r
    rw [show putF f v ((k, x) :: r) = (if k = f then (k, v) :: r else (k, x) :: putF f v r) from rfl]
    by_cases hk : k = f
    · rw [if_pos hk]
      by_cases h : g = k
      · have hb : (g == k) = true := beq_iff_eq.mpr h
        simp only [List.lookup, hb, if_pos (h.trans hk)]
      · have hb : (g == k) = false := beq_eq_false_iff_ne.mpr h
        simp only [List.lookup, hb, if_neg (fun e : g = f => h (e.trans hk.symm))]
    · rw [if_neg hk]
      by_cases h : g = k
      · have hb : (g == k) = true := beq_iff_eq.mpr h
        simp only [List.lookup, hb, if_neg (fun e : g = f => hk (h.symm.trans e))]
      · have hb : (g == k) = false := beq_eq_false_iff_ne.mpr h
        simp only [List.lookup, hb]
        exact ih
theorem keys_putF (f : Str) (v : V) : ∀ fs : List (Str × V), f ∈ (putF f v fs).map (·.1) ∧ ∀ g, g ∈ fs.map (·.1) → g ∈ (putF f v fs).map (·.1)
  | [] => ⟨by simp [putF], fun g h => by simp at h⟩
  | (k, x) :: r => by
    obtain ⟨i1, i2⟩ := keys_putF f v r
    rw [show putF f v ((k, x) :: r) = (if k = f then (k, v) :: r else (k, x) :: putF f v r) from rfl]
    by_cases hk : k = f
    · rw [if_pos hk]
      subst hk
      exact ⟨by simp, fun g h => by simpa using h⟩
    · rw [if_neg hk]
      refine ⟨?_, fun g h => ?_⟩
      · rw [List.map_cons]
        exact List.mem_cons_of_mem _ i1
      · rw [List.map_cons] at h ⊢
        rcases List.mem_cons.mp h with e | e
        · exact List.mem_cons.mpr (.inl e)
        · exact List.mem_cons_of_mem _ (i2 g e)
theorem length_putF (f : Str) (v : V) : ∀ fs : List (Str × V), (putF f v fs).length ≤ fs.length + 1
  | [] => by simp [putF]
  | (k, x) :: r => by
    have ih := length_putF f v r
    rw [show putF f v ((k, x) :: r) = (if k = f then (k, v) :: r else (k, x) :: putF f v r) from rfl]
    by_cases hk : k = f
    · rw [if_pos hk, List.length_cons, List.length_cons]; omega
    · rw [if_neg hk, List.length_cons, List.length_cons]; omega

theorem RelO.some_of {v : V} {o : Option Value} (r : RelO (some v) o) : ∃ u, o = some u ∧ RelV v u := by
  cases o with
  | none => exact (show False from r).elim
  | some u => exact ⟨u, rfl, r⟩
theorem RelO.none_of {o : Option Value} (r : RelO none o) : o = none := by
  cases o with
  | none => rfl
  | some u => exact (show False from r).elim
theorem handed_of {v : V} {u : Value} (r : RelV v u) : PySem.W.handedIn u = true := by
  cases v with
  | non => cases (show u = Value.none from r); rfl
  | bl b => cases (show u = Value.bool b from r); rfl
  | int i => obtain ⟨t, e⟩ := (show ∃ t, u = Value.int i t from r); cases e; rfl
  | str x => obtain ⟨t, e⟩ := (show ∃ t, u = Value.str x t from r); cases e; rfl
  | byt b => obtain ⟨t, e⟩ := (show ∃ t, u = Value.bytes b t from r); cases e; rfl
  | flt b => obtain ⟨t, e⟩ := (show ∃ t, u = Value.float b t from r); cases e; rfl
  | ref a => cases (show u = Value.ref a from r); rfl
  | ty n => cases (show u = Value.type n from r); rfl

section
variable {P : Program} {w : World} {H H' : Hp} {h h' : Heap} {a C dx : Addr} {fs fs' : List (Str × V)}
theorem ins_get (hok : HOk P w H h) (e : H a = some (.ins C dx fs)) : ∃ mA, ObjM h a dx C mA ∧ (∀ f, RelO (fs.lookup f) (mA f)) ∧ PySem.Within mA (fs.map (·.1)) ∧ fs.length ≤ 1000 ∧ H dx = some (.own a) := by
  obtain ⟨d, z, ne, ob, mA, n, r, q⟩ := (show ObjOk P w H h a (.ins C dx fs) from hok a _ e)
  exact ⟨mA, ⟨ob, n, ne⟩, r, q, z, d⟩
end

/-! ### what of the text a class must have -/
structure Cls (K : PySem.W.Frag) (C : Addr) : Prop where
  pg : PySem.W.plainGet K C Str.empty = true
  hd : PySem.W.hasDictIn K C = true
  po : PySem.W.plainOver K C = true
  sa : PySem.W.findIn K (.ref C) "__setattr__" = some (some (.builtin "object.__setattr__"))
theorem Cls.get {K : PySem.W.Frag} {C : Addr} (c : Cls K C) (f : Str) : PySem.W.plainGet K C f = true := c.pg
/-- no class of it has the name -/
def NoAttr (K : PySem.W.Frag) (C : Addr) (f : Str) : Prop := PySem.W.findIn K (.ref C) f = some none
theorem NoAttr.taker {K : PySem.W.Frag} {C : Addr} {f : Str} (n : NoAttr K C f) : PySem.W.takerIn K C f = some none := by
  unfold PySem.W.takerIn
  rw [show PySem.W.findIn K (.ref C) f = some none from n]
  rfl
/-- a constant of the class -/
structure Con (K : PySem.W.Frag) (C : Addr) (f : Str) (v : V) (u : Value) : Prop where
  at_ : PySem.W.findIn K (.ref C) f = some (some u)
  rel : RelV v u
  get : PySem.W.specialIn K u "__get__" = some none
  cp : PySem.W.copiedNames.contains f = false
/-- a method: a plain def of the class or of one above it -/
structure Meth (K : PySem.W.Frag) (C : Addr) (m : Str) (f : Addr) : Prop where
  at_ : PySem.W.findIn K (.ref C) m = some (some (.ref f))
  fn : PySem.W.isFn K (.ref f) = true
  kp : PySem.W.keepIn K (.ref f) = true

section
variable {X : Cx} {pins : List (Addr × Obj)} {σ : St} {H : Hp} {s : Shared} {a C dx : Addr} {fs : List (Str × V)} {f : Str} {v : V} {A : Around} {E : Value → Shared → Prop}

theorem getattr_ok {b : Bool} {Q : Value → Shared → Prop} (I : Inv X pins σ H s) (e : H a = some (.ins C dx fs)) (c : Cls X.K C) (n : NoAttr X.K C f) (l : fs.lookup f = some v)
    (h : ∀ u s', Inv X pins σ H s' → RelV v u → Q u s') : wpAny (model X.prog X.w) A (getAttr (.ref a) f b) Q E s := by
  obtain ⟨mA, O, r, _, _, _⟩ := ins_get I.hok e
  obtain ⟨u, hu, ru⟩ := RelO.some_of (v := v) (o := mA f) (by rw [← l]; exact r f)
  exact get_map I.kIn O (c.get f) c.hd n hu (handed_of ru) (h u _ (I.tok _) ru)

theorem getcon_ok {b : Bool} {u : Value} {Q : Value → Shared → Prop} (I : Inv X pins σ H s) (e : H a = some (.ins C dx fs)) (c : Cls X.K C) (k : Con X.K C f v u) (l : fs.lookup f = none)
    (h : ∀ s', Inv X pins σ H s' → Q u s') : wpAny (model X.prog X.w) A (getAttr (.ref a) f b) Q E s := by
  obtain ⟨mA, O, r, _, _, _⟩ := ins_get I.hok e
  have hn : mA f = none := RelO.none_of (by rw [← l]; exact r f)
  exact get_const I.kIn O (c.get f) c.hd k.at_ k.get k.cp hn (handed_of k.rel) (h _ (I.tok _))

theorem getmeth_ok {m : Str} {g : Addr} {pl : Sem Bool} {Q : Value × List Value → Shared → Prop} (I : Inv X pins σ H s) (e : H a = some (.ins C dx fs)) (c : Cls X.K C) (k : Meth X.K C m g) (l : fs.lookup m = none)
    (h : Q (.ref g, [.ref a]) s) : wpAny (model X.prog X.w) A (getMethod (.ref a) m pl) Q E s := by
  obtain ⟨mA, O, r, _, _, _⟩ := ins_get I.hok e
  have hn : mA m = none := RelO.none_of (by rw [← l]; exact r m)
  exact get_meth I.kIn O (c.get m) k.at_ k.fn hn h

theorem setattr_ok {y : V} {u : Value} {Q : Unit → Shared → Prop} (I : Inv X pins σ H s) (e : H a = some (.ins C dx fs)) (c : Cls X.K C) (n : NoAttr X.K C f) (hl : fs.length < 1000) (ry : RelV y u)
    (h : ∀ s', Inv X pins σ (upd H a (.ins C dx (putF f y fs))) s' → Q () s') : wpAny (model X.prog X.w) A (setAttr (.ref a) f u) Q E s := by
  obtain ⟨mA, O, r, wi, _, ho⟩ := ins_get I.hok e
  have hz : (fs.map (·.1)).length ≤ sizeLine := by rw [List.length_map, sizeLine_eq]; omega
  refine set_map I.kIn O c.sa c.po n.taker c.hd wi hz fun h' O' sb => h _ ?_
  have hd : ∃ o, h'.get? dx = some o := let ⟨o, _, _, e', _⟩ := O'.ns; ⟨o, e'⟩
  refine I.write (x := a) (e := dx) (by rw [e]; exact True.intro) (.inr ho) (fun b q hb z => (sb.2 b hb).trans z) hd ?_
  refine ⟨by rw [upd_ne O.ne]; exact ho, ?_, O.ne, O'.obj, _, O'.ns, fun g => ?_, fun g hg => ?_⟩
  · have := length_putF f y fs; omega
  · show RelO ((putF f y fs).lookup g) (if g = f then some u else mA g)
    rw [lookup_putF]
    by_cases q : g = f
    · rw [if_pos q, if_pos q]; exact ry
    · rw [if_neg q, if_neg q]; exact r g
  · by_cases q : g = f
    · rw [q]; exact (keys_putF f y fs).1
    · refine (keys_putF f y fs).2 g (wi g fun z => hg ?_)
      show (if g = f then some u else mA g) = none
      rw [if_neg q]; exact z

/-- a new instance, tracked, without attributes -/
theorem Inv.made (I : Inv X pins σ H s) : Inv X pins σ (upd (upd H s.heap.objs.size (.own (s.heap.objs.size + 1))) (s.heap.objs.size + 1) (.ins C s.heap.objs.size []))
    { s with heap := (s.heap.push PySem.W.emptyDict).push (PySem.W.instObj C s.heap.objs.size) } := by
  have e1 : (s.heap.push PySem.W.emptyDict).get? s.heap.objs.size = some PySem.W.emptyDict := Heap.get?_push_size s.heap rfl
  have e2 : ((s.heap.push PySem.W.emptyDict).push (PySem.W.instObj C s.heap.objs.size)).get? (s.heap.objs.size + 1) = some (PySem.W.instObj C s.heap.objs.size) := by
    have := Heap.get?_push_size (s.heap.push PySem.W.emptyDict) (o := PySem.W.instObj C s.heap.objs.size) rfl
    rwa [Heap.size_push] at this
  have e3 : (s.heap.push PySem.W.emptyDict).Ns s.heap.objs.size (fun _ => none) := ⟨PySem.W.emptyDict, #[], _, e1, rfl, (fun e he => absurd he (by simp)), fun _ => rfl⟩
  have I1 := I.laid (a := s.heap.objs.size) (o := .own (s.heap.objs.size + 1)) (h' := s.heap.push PySem.W.emptyDict) (t' := s.toks) (fun b u q => Heap.get?_push_of_some _ q) (Nat.le_refl _) ⟨_, e1⟩
  refine I1.laid (a := s.heap.objs.size + 1) (o := .ins C s.heap.objs.size []) (t' := s.toks) (fun b u q => Heap.get?_push_of_some _ q) (Nat.le_of_eq (Heap.size_push _ _)) ?_
  have ne : s.heap.objs.size ≠ s.heap.objs.size + 1 := Nat.ne_of_lt (Nat.lt_succ_self _)
  refine ⟨by rw [upd_ne ne, upd_same], Nat.zero_le _, ne, e2, fun _ => none, (Heap.Ns1.of_empty e3).at fun o q => Heap.get?_push_of_some _ q, fun _ => True.intro, fun y hy => absurd rfl hy⟩

/-- e.f where nothing but the object is asked: through attributeBase (super) and the last hold -/
theorem attr_of {prog : Program} {w : World} {env : Env} {e : Expr} {f : Str} {pos : Pos} {s : Shared} {Q : Value → Shared → Prop} (hb : attributeBase e f env (eval e env) = eval e env)
    (h : wpAny (model prog w) A (eval e env) (fun o s₁ => wpAny (model prog w) A (getAttr o f true) Q E s₁) E s) : wpAny (model prog w) A (eval (.Attribute e f pos) env) Q E s :=
  Attribute_any_ h (by rw [arm_eval_Attribute, hb])
end

/-! ### readings and rules -/
/-- e.f, an attribute of the instance -/
def tFld (K : PySem.W.Frag) (ta : TE) (f : Str) : TE := fun σ H Q => ta σ H fun x H1 => ∃ a C dx fs v, x = .ref a ∧ H1 a = some (.ins C dx fs) ∧ Cls K C ∧ NoAttr K C f ∧ fs.lookup f = some v ∧ Q v H1
/-- e.f, a constant of the class -/
def tCon (K : PySem.W.Frag) (ta : TE) (f : Str) : TE := fun σ H Q => ta σ H fun x H1 => ∃ a C dx fs v u, x = .ref a ∧ H1 a = some (.ins C dx fs) ∧ Cls K C ∧ Con K C f v u ∧ fs.lookup f = none ∧ Q v H1
/-- e.f = value -/
def sFld (K : PySem.W.Frag) (ta tv : TE) (f : Str) : TS := fun D σ H => tv σ H fun y H1 => ta σ H1 fun x H2 => ∃ a C dx fs, x = .ref a ∧ H2 a = some (.ins C dx fs) ∧ Cls K C ∧ NoAttr K C f ∧ fs.length < 1000 ∧
  D.nx σ (upd H2 a (.ins C dx (putF f y fs)))
/-- an augmented operator on two values -/
def InOp (X : Cx) (op : Operator) (rd : V → V → Hp → VK → Prop) : Prop :=
  ∀ (pins : List (Addr × Obj)) (s : Shared) (σ : St) (H : Hp) (x y : V) (u v : Value) (Q : VK), Inv X pins σ H s → RelV x u → RelV y v → rd x y H Q → wpAny (model X.prog X.w) X.A (inplaceOp op u v) (EP X pins σ Q) X.xe s
/-- e.f op= value -/
def sFldAug (K : PySem.W.Frag) (ta tv : TE) (rd : V → V → Hp → VK → Prop) (f : Str) : TS := fun D σ H => ta σ H fun x H1 => ∃ a C dx fs v, x = .ref a ∧ H1 a = some (.ins C dx fs) ∧ Cls K C ∧ NoAttr K C f ∧ fs.lookup f = some v ∧
  tv σ H1 fun y H2 => rd v y H2 fun z H3 => ∃ dx' fs', H3 a = some (.ins C dx' fs') ∧ fs'.length < 1000 ∧ D.nx σ (upd H3 a (.ins C dx' (putF f z fs')))

section
variable {X : Cx} {o e value : Expr} {f : Str} {pos pos' tpos : Pos} {ta tv : TE}
theorem pe_fld (he : PE X e ta) (hb : attributeBase e f X.env (eval e X.env) = eval e X.env) : PE X (.Attribute e f pos) (tFld X.K ta f) := by
  intro pins s σ H Q I h
  refine attr_of hb (thn (he pins s σ H _ I h) fun u s1 ⟨x, H1, I1, rx, a, C, dx, fs, v, ex, ea, c, n, l, q⟩ => ?_)
  subst ex
  obtain rfl : u = Value.ref a := rx
  exact getattr_ok I1 ea c n l fun u' s2 I2 ru => ⟨v, H1, I2, ru, q⟩
theorem pe_con (he : PE X e ta) (hb : attributeBase e f X.env (eval e X.env) = eval e X.env) : PE X (.Attribute e f pos) (tCon X.K ta f) := by
  intro pins s σ H Q I h
  refine attr_of hb (thn (he pins s σ H _ I h) fun u s1 ⟨x, H1, I1, rx, a, C, dx, fs, v, u0, ex, ea, c, k, l, q⟩ => ?_)
  subst ex
  obtain rfl : u = Value.ref a := rx
  exact getcon_ok I1 ea c k l fun s2 I2 => ⟨v, H1, I2, k.rel, q⟩
theorem ps_fld (ha : PE X o ta) (hv : PE X value tv) (hs : swapsWith value (some (.Attribute o f pos')) pos.line X.env = pure false) : PS X (.Assign [.Attribute o f pos'] value pos) (sFld X.K ta tv f) := by
  intro pins s σ H D I h
  refine plainObj_wpAny_Assign_Attribute (thn (hv pins s σ H _ I h) fun u s1 ⟨y, H1, I1, ry, q⟩ => thn (ha pins s1 σ H1 _ I1 q) fun ov s2 ⟨x, H2, I2, rx, a, C, dx, fs, ex, ea, c, n, l, q2⟩ => ?_) hs
  subst ex
  obtain rfl : ov = Value.ref a := rx
  exact setattr_ok I2 ea c n l ry fun s3 I3 => ⟨σ, _, I3, q2⟩
theorem ps_fldaug {op : Operator} {rd : V → V → Hp → VK → Prop} (ha : PE X o ta) (hv : PE X value tv) (hop : InOp X op rd) : PS X (.AugAssign (.Attribute o f tpos) op value pos) (sFldAug X.K ta tv rd f) := by
  intro pins s σ H D I h
  refine wpAny_AugAssign_AttributeAny (thn (ha pins s σ H _ I h) fun ov s1 ⟨x, H1, I1, rx, a, C, dx, fs, v, ex, ea, c, n, l, q⟩ => ?_)
  subst ex
  obtain rfl : ov = Value.ref a := rx
  refine getattr_ok I1 ea c n l fun u s2 I2 ru => thn (hv pins s2 σ H1 _ I2 q) fun w3 s3 ⟨y, H2, I3, ry, q3⟩ => thn (hop pins s3 σ H2 v y u w3 _ I3 ru ry q3) fun w4 s4 ⟨z, H3, I4, rz, dx', fs', ea', l', q4⟩ => ?_
  exact setattr_ok I4 ea' c n l' rz fun s5 I5 => ⟨σ, _, I5, q4⟩
def rAdd : V → V → Hp → VK → Prop := fun x y H Q => ∃ i j, x = .int i ∧ y = .int j ∧ Q (.int (i + j)) H
def rSub : V → V → Hp → VK → Prop := fun x y H Q => ∃ i j, x = .int i ∧ y = .int j ∧ Q (.int (i - j)) H
theorem in_add : InOp X .Add rAdd := by
  rintro pins s σ H x y u v Q I rx ry ⟨i, j, rfl, rfl, q⟩
  obtain ⟨t, rfl⟩ := (show ∃ t, u = Value.int i t from rx)
  obtain ⟨t', rfl⟩ := (show ∃ t', v = Value.int j t' from ry)
  exact PyProof.Rows.iadd_int ⟨.int (i + j), H, I.tok _, ⟨_, rfl⟩, q⟩
theorem in_sub : InOp X .Sub rSub := by
  rintro pins s σ H x y u v Q I rx ry ⟨i, j, rfl, rfl, q⟩
  obtain ⟨t, rfl⟩ := (show ∃ t, u = Value.int i t from rx)
  obtain ⟨t', rfl⟩ := (show ∃ t', v = Value.int j t' from ry)
  exact PyProof.Rows.isub_int ⟨.int (i - j), H, I.tok _, ⟨_, rfl⟩, q⟩

/-- what is between an instance and its method: the tree of a method call -/
theorem methcall_of {pl : Sem Bool} {m : Str} {apos : Pos} {args : List Expr} {pins : List (Addr × Obj)} {s : Shared} {σ : St} {H : Hp} {Q : Value → Shared → Prop} {te : TE} (he : PE X e te) (I : Inv X pins σ H s)
    (h : te σ H fun x H1 => ∃ a C dx fs g, x = .ref a ∧ H1 a = some (.ins C dx fs) ∧ Cls X.K C ∧ Meth X.K C m g ∧ fs.lookup m = none ∧
      ∀ s1, Inv X pins σ H1 s1 → wpAny (model X.prog X.w) X.A (callWith pos (.ref g) [.ref a] (backTo pos (starEach args X.env)) (backToKw pos (keywordEach [] X.env))) Q X.xe s1)
    (ht : eval (.Call (.Attribute e m apos) args [] pos) X.env = (do
      let ov ← eval e X.env
      standAt apos.atName
      let (f, first) ← holding [ov] (getMethod ov m pl)
      callWith pos f first (backTo pos (starEach args X.env)) (backToKw pos (keywordEach [] X.env)))) :
    wpAny (model X.prog X.w) X.A (eval (.Call (.Attribute e m apos) args [] pos) X.env) Q X.xe s := by
  refine PySem.W.methodCall_KW (pl := pl) (thn (he pins s σ H _ I h) fun u s1 ⟨x, H1, I1, rx, a, C, dx, fs, g, ex, ea, c, k, l, q⟩ => ?_) ht
  subst ex
  obtain rfl : u = Value.ref a := rx
  exact getmeth_ok I1 ea c k l (q s1 I1)
end

/-! ### isinstance -/
section
variable {X : Cx} {pins : List (Addr × Obj)} {σ : St} {H : Hp} {s : Shared} {A : Around} {E : Value → Shared → Prop} {Q : Value → Shared → Prop} {c : Value} {b : Bool}
/-- the type of a value, as the fragment's deciders take it; for an instance its class -/
inductive TyOf (K : PySem.W.Frag) (H : Hp) : V → Value → Prop where
  | non : TyOf K H .non (.type "NoneType")
  | bl (x : Bool) : TyOf K H (.bl x) (.type "bool")
  | int (i : Int) : TyOf K H (.int i) (.type "int")
  | str (x : Str) : TyOf K H (.str x) (.type "str")
  | flt (x : UInt64) : TyOf K H (.flt x) (.type "float")
  | lst {a : Addr} {xs : List V} (e : H a = some (.lst xs)) : TyOf K H (.ref a) (.type "list")
  | frz {a : Addr} {o : Obj} {xs : List V} (e : H a = some (.frz o (.lst xs))) : TyOf K H (.ref a) (.type "list")
  | tup {a : Addr} {xs : List V} (e : H a = some (.tup xs)) : TyOf K H (.ref a) (.type "tuple")
  | dK {a : Addr} {kvs : List (Key × V)} (e : H a = some (.dK kvs)) : TyOf K H (.ref a) (.type "dict")
  | dT {a : Addr} {kvs : List (List Key × V)} (e : H a = some (.dT kvs)) : TyOf K H (.ref a) (.type "dict")
  | ins {a C dx : Addr} {fs : List (Str × V)} (e : H a = some (.ins C dx fs)) (cl : Cls K C) (ha : PySem.W.findIn K (.ref C) "__class__" = some (some (.builtin "object.__class__")))
      (hn : PySem.W.specialIn K (.builtin "object.__class__") "__get__" = some (some (.builtin "getset_descriptor.__get__"))) (htk : PySem.W.takesIn K (.builtin "object.__class__") = some true)
      (hm : PySem.W.mroIn K C (.type "object") = some true) : TyOf K H (.ref a) (.ref C)
/-- isinstance(x, c) for one class c, a built-in or an own one: kitOne's answer -/
theorem isinst_ok {x : V} {u t : Value} (I : Inv X pins σ H s) (rx : RelV x u) (ty : TyOf X.K H x t) (e : PySem.W.kitOne X.K t c = some b) (h : ∀ tk, Q (.bool b) { s with toks := tk }) :
    wpAny (model X.prog X.w) A (call (.builtin "isinstance") [u, c]) Q E s := by
  cases ty with
  | non => cases (show u = Value.none from rx); exact PySem.W.kia_one PySem.W.kitx_none I.kIn True.intro e (fun z => nomatch z) h
  | bl y => cases (show u = Value.bool y from rx); exact PySem.W.kia_one PySem.W.kitx_bool I.kIn True.intro e (fun z => nomatch z) h
  | int i => obtain ⟨t, q⟩ := (show ∃ t, u = Value.int i t from rx); cases q; exact PySem.W.kia_one PySem.W.kitx_int I.kIn True.intro e (fun z => nomatch z) h
  | str y => obtain ⟨t, q⟩ := (show ∃ t, u = Value.str y t from rx); cases q; exact PySem.W.kia_one PySem.W.kitx_str I.kIn True.intro e (fun z => nomatch z) h
  | flt y => obtain ⟨t, q⟩ := (show ∃ t, u = Value.float y t from rx); cases q; exact PySem.W.kia_one PySem.W.kitx_float I.kIn True.intro e (fun z => nomatch z) h
  | @lst a xs ea =>
    cases (show u = Value.ref a from rx)
    obtain ⟨_, _, n, _, h1⟩ := (show ObjOk X.prog X.w H s.heap a (.lst xs) from I.hok a _ ea)
    exact PySem.W.kia_one PySem.W.kitx_list I.kIn ⟨_, h1, rfl⟩ e (fun z => nomatch z) h
  | @frz a ob xs ea =>
    cases (show u = Value.ref a from rx)
    obtain ⟨_, _, _, n, _, h1⟩ := (show ObjOk X.prog X.w H s.heap a (.frz ob (.lst xs)) from I.hok a _ ea)
    exact PySem.W.kia_one PySem.W.kitx_list I.kIn ⟨_, h1, rfl⟩ e (fun z => nomatch z) h
  | @tup a xs ea =>
    cases (show u = Value.ref a from rx)
    obtain ⟨_, _, _, p⟩ := (show ObjOk X.prog X.w H s.heap a (.tup xs) from I.hok a _ ea)
    obtain ⟨o, h1, h2, _⟩ := p
    exact PySem.W.kia_one PySem.W.kitx_tuple I.kIn ⟨o, h1, h2⟩ e (fun z => nomatch z) h
  | @dK a kvs ea =>
    cases (show u = Value.ref a from rx)
    obtain ⟨_, _, vs, _, p⟩ := (show ObjOk X.prog X.w H s.heap a (.dK kvs) from I.hok a _ ea)
    obtain ⟨o, es, ep, h1, h2, _⟩ := p
    exact PySem.W.kia_one PySem.W.kitx_dict I.kIn ⟨o, h1, h2.1⟩ e (fun z => nomatch z) h
  | @dT a kvs ea =>
    cases (show u = Value.ref a from rx)
    obtain ⟨_, _, xs, _, o, es, ep, h1, h2, _⟩ := (show ObjOk X.prog X.w H s.heap a (.dT kvs) from I.hok a _ ea)
    exact PySem.W.kia_one PySem.W.kitx_dict I.kIn ⟨o, h1, h2.1⟩ e (fun z => nomatch z) h
  | @ins a C dx fs ea cl ha hn htk hm =>
    cases (show u = Value.ref a from rx)
    obtain ⟨mA, O, _⟩ := ins_get I.hok ea
    obtain ⟨od, J, _⟩ := O.look
    exact PySem.W.kia_one (PySem.W.kitx_own (cl.get _) cl.hd ha hn htk hm) I.kIn J e (fun z => nomatch z) h
end
end L2

namespace L2
open PySem PySem.Spec PyProof.Rows

/-! ### room -/
structure Room (k : Nat) (A : Around) : Prop where
  hd : A.handled = none
  dp : A.depth + 3 * k + 5 < recursionLimit
  un : A.units + 16 * k + 200 < cLine
theorem Room.mono {j k : Nat} {A : Around} (r : Room k A) (h : j ≤ k) : Room j A := ⟨r.hd, by have := r.dp; omega, by have := r.un; omega⟩
theorem Room.deeper {k : Nat} {A : Around} (r : Room (k + 1) A) (env : Env) : Room k (A.deeper env) :=
  ⟨r.hd, by have := r.dp; show A.depth + 1 + 3 * k + 5 < _; omega, by have := r.un; show A.units + 3 + 16 * k + 200 < _; omega⟩
theorem Room.in1 {k : Nat} {A : Around} (r : Room (k + 1) A) : Room k A.in1 :=
  ⟨r.hd, by have := r.dp; show A.depth + 3 * k + 5 < _; omega, by have := r.un; show A.units + 1 + 16 * k + 200 < _; omega⟩
theorem make_depth {A : Around} {C : Addr} {us : List Value} {kw : List (Str × Value)} : (A.under (.builtin "type.__call__" ⟨.ref C :: us, kw⟩)).depth = A.depth + 1 := by
  first | rfl | simp [Around.under, Code.weight, Code.isCreation, Code.isGuard, Code.isCaller, Code.frames, Code.isFrame, guardIds]
theorem make_units {A : Around} {C : Addr} {us : List Value} {kw : List (Str × Value)} : (A.under (.builtin "type.__call__" ⟨.ref C :: us, kw⟩)).units = A.units + 1 := by
  first | rfl | simp [Around.under, Code.cUnits, Code.frames, Code.isFrame]
theorem Room.make {k : Nat} {A : Around} (r : Room (k + 1) A) (C : Addr) (us : List Value) (kw : List (Str × Value)) : Room k (A.under (.builtin "type.__call__" ⟨.ref C :: us, kw⟩)) :=
  ⟨r.hd, by have := r.dp; rw [make_depth]; omega, by have := r.un; rw [make_units]; omega⟩
theorem Room.depth {k : Nat} {A : Around} (r : Room k A) : A.depth < recursionLimit := by have := r.dp; omega
theorem Room.units {k : Nat} {A : Around} (r : Room k A) : A.units + 64 < cLine := by have := r.un; omega
theorem Room.units0 {k : Nat} {A : Around} (r : Room k A) : A.units < cLine := by have := r.un; omega

/-! ### argument lists and displays -/
def tNil : TA := fun _ H Q => Q [] H
def tCons (ta : TE) (tr : TA) : TA := fun σ H Q => ta σ H fun x H1 => tr σ H1 fun xs H2 => Q (x :: xs) H2
section
variable {X : Cx} {e : Expr} {es : List Expr} {te : TE} {t : TA} {pos : Pos}
theorem pa_nil : PA X [] tNil := fun _ _ _ _ H Q I h => Calls.spliced_nil ⟨[], H, I, .nil, h⟩
theorem pa_cons (ha : PE X e te) (hr : PA X es t) (hs : starEach (e :: es) X.env = (false, eval e X.env) :: starEach es X.env := by rfl) : PA X (e :: es) (tCons te t) := by
  intro pos pins s σ H Q I h
  rw [hs]
  show wpAny _ _ (spliced ((false, eval e X.env) :: backTo pos (starEach es X.env))) _ _ s
  refine Calls.spliced_cons (thn (ha pins s σ H _ I h) fun u s1 ⟨x, H1, I1, r1, q1⟩ => ?_)
  exact thn (hr pos pins s1 σ H1 _ I1 q1) fun us s2 ⟨xs, H2, I2, r2, q2⟩ => ⟨x :: xs, H2, I2, .cons r1 r2, q2⟩

/-- a tuple, a list of written items -/
def tTup (t : TA) : TE := fun σ H Q => t σ H fun xs H1 => xs.length ≤ sizeLine ∧ ∀ p, H1 p = none → Q (.ref p) (upd H1 p (.tup xs))
def tLst (t : TA) : TE := fun σ H Q => t σ H fun xs H1 => xs.length ≤ sizeLine ∧ ∀ p, H1 p = none → Q (.ref p) (upd H1 p (.lst xs))
theorem pe_tup {x1} (h : PA X es t) : PE X (.Tuple es x1 pos) (tTup t) := by
  intro pins s σ H Q I hq
  refine wpAny_Tuple_spliced (thn (h pos pins s σ H _ I hq) fun us s1 ⟨xs, H1, I1, r, z, q⟩ => ⟨by rw [← r.length]; exact z, ?_⟩)
  have hf : H1 s1.heap.objs.size = none := I1.hok.fresh (Nat.le_refl _)
  refine ⟨.ref s1.heap.objs.size, upd H1 s1.heap.objs.size (.tup xs), I1.laid (t' := s1.toks) (fun b u e => Heap.get?_push_of_some _ e) (Nat.le_refl _) ?_, rfl, q _ hf⟩
  exact ⟨z, us, r, ⟨_, Heap.get?_push_size _ rfl, rfl, _, rfl⟩⟩
theorem pe_lst (h : PA X es t) : PE X (.List es pos) (tLst t) := by
  intro pins s σ H Q I hq
  refine wpAny_List_spliced (thn (h pos pins s σ H _ I hq) fun us s1 ⟨xs, H1, I1, r, z, q⟩ => ⟨by rw [← r.length]; exact z, ?_⟩)
  have hf : H1 s1.heap.objs.size = none := I1.hok.fresh (Nat.le_refl _)
  refine ⟨.ref s1.heap.objs.size, upd H1 s1.heap.objs.size (.lst xs), I1.laid (t' := s1.toks) (fun b u e => Heap.get?_push_of_some _ e) (Nat.le_refl _) ?_, rfl, q _ hf⟩
  exact ⟨z, us, 0, r, Heap.get?_push_size _ rfl⟩
end

/-! ### what a def promises -/
/-- a def's promise: the bound arguments in the parameters' order, the heap, the wanted end, the wanted exception -/
abbrev Sp := List V → Hp → VK → XK → Prop
/-- how an exception lies behind a call (file 08 gives it): the callers' frames, abstract heap and state ahead of the call, the wish, the exception, the state -/
abbrev CXT := List Env → Hp → Shared → XK → Value → Shared → Prop

/-- the state at a call -/
structure Env0 (P : Program) (w : World) (K : PySem.W.Frag) (mg : Str → Option Value) (base : Heap) (A : Around) (outer : List Env) (s : Shared) (H : Hp) : Prop where
  frames : A.frames = some outer
  mod : Mod K mg base
  bs : ∀ b o, base.get? b = some o → s.heap.get? b = some o ∧ H b = none
  bsz : base.objs.size ≤ s.heap.objs.size
  funs : s.heap.FunFrames base outer
  frf : ∀ b ∈ frs outer, H b = none
  hok : HOk P w H s.heap
  bare : AllBare s.gens
/-- a call's end -/
def CE (outer : List Env) (P : Program) (w : World) (H : Hp) (s : Shared) (Q : VK) (u : Value) (s' : Shared) : Prop :=
  ∃ v H', s'.os = s.os ∧ AllBare s'.gens ∧ Un (frs outer) [] H H' s.heap s'.heap ∧ HOk P w H' s'.heap ∧ RelV v u ∧ Q v H'
def CR (CX : CXT) (outer : List Env) (P : Program) (w : World) (H : Hp) (s : Shared) (Q : VK) (E : XK) (r : Result) (s' : Shared) : Prop :=
  match r with
  | .ok (.ret u) => CE outer P w H s Q u s'
  | .ok _ => False
  | .error e => CX outer H s E e s'
structure FnOk (P : Program) (w : World) (K : PySem.W.Frag) (mg : Str → Option Value) (base : Heap) (CX : CXT) (k : Nat) (f : Addr) (fd : FuncData) (ps : List Str) (sp : Sp) : Prop where
  len : ∀ vs H Q E, sp vs H Q E → vs.length = ps.length
  run : ∀ (A : Around) (outer : List Env) (s : Shared) (H : Hp) (args : Args) (us : List Value) (vs : List V) (Q : VK) (E : XK), Room k A → Env0 P w K mg base A outer s H → BindsTo s fd args (ps.zip us) → Vals vs us → sp vs H Q E →
    codeAny (model P w) A (.call (.ref f) args) (CR CX outer P w H s Q E) s
theorem FnOk.mono {P : Program} {w : World} {K : PySem.W.Frag} {mg : Str → Option Value} {base : Heap} {CX : CXT} {j k : Nat} {f : Addr} {fd : FuncData} {ps : List Str} {sp : Sp} (F : FnOk P w K mg base CX j f fd ps sp) (h : j ≤ k) :
    FnOk P w K mg base CX k f fd ps sp := ⟨F.len, fun A outer s H args us vs Q E hr => F.run A outer s H args us vs Q E (hr.mono h)⟩
/-- a weaker promise -/
theorem FnOk.imp {P : Program} {w : World} {K : PySem.W.Frag} {mg : Str → Option Value} {base : Heap} {CX : CXT} {k : Nat} {f : Addr} {fd : FuncData} {ps : List Str} {sp sp' : Sp} (F : FnOk P w K mg base CX k f fd ps sp)
    (h : ∀ vs H Q E, sp' vs H Q E → sp vs H Q E) : FnOk P w K mg base CX k f fd ps sp' :=
  ⟨fun vs H Q E q => F.len vs H Q E (h _ _ _ _ q), fun A outer s H args us vs Q E hr he hb hv hs => F.run A outer s H args us vs Q E hr he hb hv (h _ _ _ _ hs)⟩

theorem Env0.make {P : Program} {w : World} {K : PySem.W.Frag} {mg : Str → Option Value} {base : Heap} {A : Around} {outer : List Env} {s : Shared} {H : Hp} (e : Env0 P w K mg base A outer s H) (C : Addr) (us : List Value) (kw : List (Str × Value)) :
    Env0 P w K mg base (A.under (.builtin "type.__call__" ⟨.ref C :: us, kw⟩)) outer s H := ⟨by first | exact e.frames | (simpa [Around.under, Code.envs, Code.isFrame, pushEnvs] using e.frames), e.mod, e.bs, e.bsz, e.funs, e.frf, e.hok, e.bare⟩
theorem Env0.in1 {P : Program} {w : World} {K : PySem.W.Frag} {mg : Str → Option Value} {base : Heap} {A : Around} {outer : List Env} {s : Shared} {H : Hp} (e : Env0 P w K mg base A outer s H) :
    Env0 P w K mg base A.in1 outer s H := ⟨e.frames, e.mod, e.bs, e.bsz, e.funs, e.frf, e.hok, e.bare⟩

section
variable {X : Cx} {pins : List (Addr × Obj)} {σ : St} {H : Hp} {s s' : Shared}
/-- from a body: what a callee wants -/
theorem Inv.env0 (I : Inv X pins σ H s) : Env0 X.prog X.w X.K X.mg X.base X.A X.stack s H :=
  ⟨I.ok.frames, I.ok.mod, I.bs, Nat.le_trans I.ok.bsz I.sz, I.stack, I.stkFree, I.hok, I.bare⟩
/-- behind a call -/
theorem Inv.after {Q : VK} {u : Value} (I : Inv X pins σ H s) (h : CE X.stack X.prog X.w H s Q u s') : EP X pins σ Q u s' := by
  obtain ⟨v, H', os, bare, un, hok, r, q⟩ := h
  obtain ⟨hh, g, d, t, os'⟩ := s'
  obtain rfl : os' = s.os := os
  exact ⟨v, H', I.call (h' := hh) (g' := g) (d' := d) (t' := t) (ch := []) un hok bare (fun b z => absurd z (by simp)), r, q⟩
end

/-! ### calls -/
/-- f(..): the written arguments, then the defaults dvs; E: what is wanted of an exception -/
def tCall (sp : Sp) (dvs : List V) (E : XK) (t : TA) : TE := fun σ H Q => t σ H fun vs H1 => sp (vs ++ dvs) H1 Q E
/-- o.m(..) of an instance of the class at C -/
def tMeth (C : Addr) (m : Str) (sp : Sp) (dvs : List V) (E : XK) (ta : TE) (t : TA) : TE := fun σ H Q => ta σ H fun x H1 => ∃ a dx fs, x = .ref a ∧ H1 a = some (.ins C dx fs) ∧ fs.lookup m = none ∧
  t σ H1 fun vs H2 => sp (x :: (vs ++ dvs)) H2 Q E
/-- C(..): a new instance and its dict, then __init__ -/
def tMake (C : Addr) (sp : Sp) (dvs : List V) (E : XK) (t : TA) : TE := fun σ H Q => t σ H fun vs H1 => ∀ x dx, H1 x = none → H1 dx = none → dx ≠ x →
  sp (.ref x :: (vs ++ dvs)) (upd (upd H1 dx (.own x)) x (.ins C dx [])) (fun v H2 => v = .non ∧ Q (.ref x) H2) E

/-- how the parameters are bound: us the positional arguments, kw the keywords' values by name, ds the defaults that fill up -/
def Binds (K : PySem.W.Frag) (fd : FuncData) (ps : List Str) (ds : List Value) : Prop :=
  ∀ (s : Shared) (us : List Value), K.In s.heap → (us ++ ds).length = ps.length → BindsTo s fd ⟨us, []⟩ (ps.zip (us ++ ds))
/-- every parameter is given -/
theorem Binds.all {K : PySem.W.Frag} {fd : FuncData} {ps : List Str} (h : ∀ us : List Value, us.length = ps.length → bindArgs fd ⟨us, []⟩ = pure (ps.zip us)) : Binds K fd ps [] := fun s us _ hl => by
  rw [List.append_nil] at hl ⊢
  exact .of_eq (h us hl)

/-- an exception of a callee reaches what this body wants of exceptions -/
def Passes (CX : CXT) (X : Cx) (E : XK) : Prop := ∀ (pins : List (Addr × Obj)) (σ : St) (H : Hp) (s : Shared) (e : Value) (s' : Shared), Inv X pins σ H s → CX X.stack H s E e s' → X.xe e s'

section
variable {X : Cx} {CX : CXT} {k : Nat} {f C : Addr} {fd : FuncData} {ps : List Str} {sp : Sp} {dvs : List V} {ds : List Value} {E : XK} {x m : Str} {p pos apos : Pos} {e o : Expr} {es : List Expr} {ta : TE} {t : TA}

/-- the callee runs -/
theorem run_fn {pins : List (Addr × Obj)} {σ : St} {H : Hp} {s : Shared} {Q : VK} {us : List Value} {vs : List V} (F : FnOk X.prog X.w X.K X.mg X.base CX k f fd ps sp) (hr : Room k X.A) (hb : Binds X.K fd ps ds) (hd : Vals dvs ds) (hx : Passes CX X E)
    (I : Inv X pins σ H s) (r : Vals vs us) (h : sp (vs ++ dvs) H Q E) : wpAny (model X.prog X.w) X.A (call (.ref f) us) (EP X pins σ Q) X.xe s := by
  have r2 : Vals (vs ++ dvs) (us ++ ds) := r.append hd
  have hl : (us ++ ds).length = ps.length := by rw [← r2.length]; exact F.len _ _ _ _ h
  refine wpAny_call (codeAny_mono (F.run X.A X.stack s H ⟨us, []⟩ (us ++ ds) (vs ++ dvs) Q E hr I.env0 (hb s us I.kIn hl) r2 h) fun r s' hq => ?_)
  cases r with
  | error e => exact hx pins σ H s e s' I hq
  | ok fl =>
    cases fl with
    | ret u => exact I.after hq
    | next => exact False.elim hq
    | brk => exact False.elim hq
    | cont => exact False.elim hq

theorem pe_call (F : FnOk X.prog X.w X.K X.mg X.base CX k f fd ps sp) (hr : Room k X.A) (hg : Gl X x) (hm : X.mg x = some (.ref f)) (hk : PySem.W.keepIn X.K (.ref f) = true) (hb : Binds X.K fd ps ds) (hd : Vals dvs ds) (hx : Passes CX X E)
    (ha : PA X (e :: es) t) (hdb : (x == ("__debug__" : Str)) = false := by decide) (he : starEach (e :: es) X.env = (false, eval e X.env) :: starEach es X.env := by rfl) (hpl : (backTo pos (starEach es X.env)).any (·.1) = false := by rfl) :
    PE X (.Call (.Name x p) (e :: es) [] pos) (tCall sp dvs E t) := by
  intro pins s σ H Q I h
  refine wpAny_Call_Name_kw (ld_glob I hg hm ?_ hdb)
  refine PySem.W.callWith_K (h₀ := X.base) I.ok.mod.kin hk (thn (ha pos pins s σ H _ I h) fun us s1 ⟨vs, H1, I1, r, q⟩ => ⟨I1.kIn, ?_⟩) he hpl
  exact run_fn F hr hb hd hx I1 r q
theorem pe_call0 (F : FnOk X.prog X.w X.K X.mg X.base CX k f fd ps sp) (hr : Room k X.A) (hg : Gl X x) (hm : X.mg x = some (.ref f)) (hk : PySem.W.keepIn X.K (.ref f) = true) (hb : Binds X.K fd ps ds) (hd : Vals dvs ds) (hx : Passes CX X E)
    (hdb : (x == ("__debug__" : Str)) = false := by decide) : PE X (.Call (.Name x p) [] [] pos) (tCall sp dvs E tNil) := by
  intro pins s σ H Q I h
  refine wpAny_Call_Name_kw (ld_glob I hg hm ?_ hdb)
  exact PySem.W.callWith_K0 I.kIn hk (run_fn (us := []) F hr hb hd hx I .nil h)

/-- o.m(e, ..) -/
theorem pe_meth {pl : Sem Bool} (he : PE X o ta) (c : Cls X.K C) (hm : Meth X.K C m f) (F : FnOk X.prog X.w X.K X.mg X.base CX k f fd ps sp) (hr : Room k X.A) (hb : Binds X.K fd ps ds) (hd : Vals dvs ds) (hx : Passes CX X E) (ha : PA X (e :: es) t)
    (hst : starEach (e :: es) X.env = (false, eval e X.env) :: starEach es X.env := by rfl) (hpl : (backTo pos (starEach es X.env)).any (·.1) = false := by rfl)
    (ht : eval (.Call (.Attribute o m apos) (e :: es) [] pos) X.env = (do
      let ov ← eval o X.env
      standAt apos.atName
      let (f, first) ← holding [ov] (getMethod ov m pl)
      callWith pos f first (backTo pos (starEach (e :: es) X.env)) (backToKw pos (keywordEach [] X.env))) := by rfl) :
    PE X (.Call (.Attribute o m apos) (e :: es) [] pos) (tMeth C m sp dvs E ta t) := by
  intro pins s σ H Q I h
  refine PySem.W.methodCall_KW (pl := pl) (thn (he pins s σ H _ I h) fun u s1 ⟨x, H1, I1, rx, a, dx, fs, ex, ea, l, q⟩ => ?_) ht
  subst ex
  obtain rfl : u = Value.ref a := rx
  refine getmeth_ok I1 ea c hm l ?_
  refine PySem.W.callWith_K (first := [.ref a]) (h₀ := X.base) I.ok.mod.kin hm.kp (thn (ha pos pins s1 σ H1 _ I1 q) fun us s2 ⟨vs, H2, I2, r, q2⟩ => ⟨I2.kIn, ?_⟩) hst hpl
  exact run_fn (us := .ref a :: us) (vs := .ref a :: vs) F hr hb hd hx I2 (.cons rfl r) q2
/-- o.m() -/
theorem pe_meth0 {pl : Sem Bool} (he : PE X o ta) (c : Cls X.K C) (hm : Meth X.K C m f) (F : FnOk X.prog X.w X.K X.mg X.base CX k f fd ps sp) (hr : Room k X.A) (hb : Binds X.K fd ps ds) (hd : Vals dvs ds) (hx : Passes CX X E)
    (ht : eval (.Call (.Attribute o m apos) [] [] pos) X.env = (do
      let ov ← eval o X.env
      standAt apos.atName
      let (f, first) ← holding [ov] (getMethod ov m pl)
      callWith pos f first (backTo pos (starEach [] X.env)) (backToKw pos (keywordEach [] X.env))) := by rfl) :
    PE X (.Call (.Attribute o m apos) [] [] pos) (tMeth C m sp dvs E ta tNil) := by
  intro pins s σ H Q I h
  refine PySem.W.methodCall_KW (pl := pl) (thn (he pins s σ H _ I h) fun u s1 ⟨x, H1, I1, rx, a, dx, fs, ex, ea, l, q⟩ => ?_) ht
  subst ex
  obtain rfl : u = Value.ref a := rx
  refine getmeth_ok I1 ea c hm l ?_
  exact PySem.W.callWith_K0 (first := [.ref a]) I1.kIn hm.kp (run_fn (us := [.ref a]) (vs := [.ref a]) F hr hb hd hx I1 (.cons rfl .nil) q)

/-- what a class must have to be made -/
structure Mk (K : PySem.W.Frag) (C f : Addr) : Prop where
  makes : PySem.W.makesIn K C = true
  init : PySem.W.findIn K (.ref C) "__init__" = some (some (.ref f))
  fn : PySem.W.isFn K (.ref f) = true
  kp : PySem.W.keepIn K (.ref C) = true

theorem run_make {pins : List (Addr × Obj)} {σ : St} {H : Hp} {s : Shared} {Q : VK} {us : List Value} {vs : List V} (M : Mk X.K C f) (F : FnOk X.prog X.w X.K X.mg X.base CX k f fd ps sp) (hr : Room (k + 1) X.A) (hb : Binds X.K fd ps ds) (hd : Vals dvs ds)
    (hx : Passes CX X E) (I : Inv X pins σ H s) (r : Vals vs us)
    (h : ∀ x dx, H x = none → H dx = none → dx ≠ x → sp (.ref x :: (vs ++ dvs)) (upd (upd H dx (.own x)) x (.ins C dx [])) (fun v H2 => v = .non ∧ Q (.ref x) H2) E) :
    wpAny (model X.prog X.w) X.A (call (.ref C) us) (EP X pins σ Q) X.xe s := by
  have hq := h (s.heap.objs.size + 1) s.heap.objs.size (I.hok.fresh (Nat.le_succ _)) (I.hok.fresh (Nat.le_refl _)) (Nat.ne_of_lt (Nat.lt_succ_self _))
  have I2 := Inv.made (C := C) I
  have r2 : Vals (V.ref (s.heap.objs.size + 1) :: (vs ++ dvs)) (Value.ref (s.heap.objs.size + 1) :: (us ++ ds)) := .cons rfl (r.append hd)
  have hl : (Value.ref (s.heap.objs.size + 1) :: us ++ ds).length = ps.length := by
    have e := r2.length
    rw [F.len _ _ _ _ hq] at e
    exact e.symm
  refine wpAny_call (make_map (f := f) I.kIn M.makes M.init (beq_iff_eq.mp M.fn) (codeAny_mono (F.run _ X.stack _ _ ⟨Value.ref (s.heap.objs.size + 1) :: us, []⟩ (Value.ref (s.heap.objs.size + 1) :: (us ++ ds)) _ _ E (hr.make C us [])
    (I2.env0.make C us []) (hb _ (Value.ref (s.heap.objs.size + 1) :: us) I2.kIn hl) r2 hq) fun r s' hq' => ?_))
  cases r with
  | error e => exact hx pins σ _ _ e s' I2 hq'
  | ok fl =>
    cases fl with
    | ret u =>
      obtain ⟨v, H', I3, rv, ev, q3⟩ := I2.after hq'
      subst ev
      exact ⟨rv, ⟨V.ref (s.heap.objs.size + 1), H', I3, rfl, q3⟩⟩
    | next => exact False.elim hq'
    | brk => exact False.elim hq'
    | cont => exact False.elim hq'
theorem pe_make (M : Mk X.K C f) (F : FnOk X.prog X.w X.K X.mg X.base CX k f fd ps sp) (hr : Room (k + 1) X.A) (hg : Gl X x) (hm : X.mg x = some (.ref C)) (hb : Binds X.K fd ps ds) (hd : Vals dvs ds) (hx : Passes CX X E)
    (ha : PA X (e :: es) t) (hdb : (x == ("__debug__" : Str)) = false := by decide) (he : starEach (e :: es) X.env = (false, eval e X.env) :: starEach es X.env := by rfl) (hpl : (backTo pos (starEach es X.env)).any (·.1) = false := by rfl) :
    PE X (.Call (.Name x p) (e :: es) [] pos) (tMake C sp dvs E t) := by
  intro pins s σ H Q I h
  refine wpAny_Call_Name_kw (ld_glob I hg hm ?_ hdb)
  refine PySem.W.callWith_K (h₀ := X.base) I.ok.mod.kin M.kp (thn (ha pos pins s σ H _ I h) fun us s1 ⟨vs, H1, I1, r, q⟩ => ⟨I1.kIn, ?_⟩) he hpl
  exact run_make M F hr hb hd hx I1 r q
theorem pe_make0 (M : Mk X.K C f) (F : FnOk X.prog X.w X.K X.mg X.base CX k f fd ps sp) (hr : Room (k + 1) X.A) (hg : Gl X x) (hm : X.mg x = some (.ref C)) (hb : Binds X.K fd ps ds) (hd : Vals dvs ds) (hx : Passes CX X E)
    (hdb : (x == ("__debug__" : Str)) = false := by decide) : PE X (.Call (.Name x p) [] [] pos) (tMake C sp dvs E tNil) := by
  intro pins s σ H Q I h
  refine wpAny_Call_Name_kw (ld_glob I hg hm ?_ hdb)
  exact PySem.W.callWith_K0 I.kIn M.kp (run_make (us := []) M F hr hb hd hx I .nil h)
end

/-! ### keywords -/
/-- the values of the keywords, from the left -/
def PK (X : Cx) (kws : List Keyword) (t : TA) : Prop :=
  ∀ (pos : Pos) (pins : List (Addr × Obj)) (s : Shared) (σ : St) (H : Hp) (Q : List V → Hp → Prop), Inv X pins σ H s → t σ H Q → wpAny (model X.prog X.w) X.A (evalAll ((backToKw pos (keywordEach kws X.env)).map (·.2))) (AP X pins σ Q) X.xe s
section
variable {X : Cx} {CX : CXT} {k : Nat} {f C : Addr} {fd : FuncData} {ps ks : List Str} {sp : Sp} {E : XK} {x m : Str} {p pos apos kpos : Pos} {e o : Expr} {es : List Expr} {kws : List Keyword} {te ta : TE} {t tk : TA} {nm : Option Str}
theorem pk_nil : PK X [] tNil := fun _ _ _ _ H Q I h => wpAny_evalAll_nil ⟨[], H, I, .nil, h⟩
theorem pk_cons (ha : PE X e te) (hr : PK X kws t) : PK X (⟨nm, e, kpos⟩ :: kws) (tCons te t) := by
  intro pos pins s σ H Q I h
  show wpAny _ _ (evalAll ((do let v ← eval e X.env; standAt pos; pure v) :: (backToKw pos (keywordEach kws X.env)).map (·.2))) _ _ s
  refine wpAny_evalAll_cons (wpAny_bind (thn (ha pins s σ H _ I h) fun u s1 ⟨x, H1, I1, r1, q1⟩ => wpAny_bind (wpAny_standAt (wpAny_pure ?_))))
  exact thn (hr pos pins s1 σ H1 _ I1 q1) fun us s2 ⟨xs, H2, I2, r2, q2⟩ => ⟨x :: xs, H2, I2, .cons r1 r2, q2⟩

/-- how a call with keywords binds: g puts the positional values us and the keywords' values ws (names ks) in the parameters' order, defaults among them -/
structure KBinds (K : PySem.W.Frag) (fd : FuncData) (ps ks : List Str) (g : List Value → List Value → List Value) (gV : List V → List V → List V) : Prop where
  to : ∀ (s : Shared) (us ws : List Value), K.In s.heap → (g us ws).length = ps.length → BindsTo s fd ⟨us, ks.zip ws⟩ (ps.zip (g us ws))
  rel : ∀ {vs : List V} {us : List Value} {zs : List V} {ws : List Value}, Vals vs us → Vals zs ws → Vals (gV vs zs) (g us ws)
def tCallK (sp : Sp) (gV : List V → List V → List V) (E : XK) (t tk : TA) : TE := fun σ H Q => t σ H fun vs H1 => tk σ H1 fun zs H2 => sp (gV vs zs) H2 Q E
variable {g : List Value → List Value → List Value} {gV : List V → List V → List V}
theorem run_fnk {pins : List (Addr × Obj)} {σ : St} {H : Hp} {s : Shared} {Q : VK} {us ws : List Value} {vs zs : List V} (F : FnOk X.prog X.w X.K X.mg X.base CX k f fd ps sp) (hr : Room k X.A) (hb : KBinds X.K fd ps ks g gV) (hx : Passes CX X E)
    (I : Inv X pins σ H s) (r : Vals vs us) (rz : Vals zs ws) (h : sp (gV vs zs) H Q E) : wpAny (model X.prog X.w) X.A (call (.ref f) us (ks.zip ws)) (EP X pins σ Q) X.xe s := by
  have r2 := hb.rel r rz
  have hl : (g us ws).length = ps.length := by rw [← r2.length]; exact F.len _ _ _ _ h
  refine wpAny_call (codeAny_mono (F.run X.A X.stack s H ⟨us, ks.zip ws⟩ (g us ws) (gV vs zs) Q E hr I.env0 (hb.to s us ws I.kIn hl) r2 h) fun r s' hq => ?_)
  cases r with
  | error e => exact hx pins σ H s e s' I hq
  | ok fl =>
    cases fl with
    | ret u => exact I.after hq
    | next => exact False.elim hq
    | brk => exact False.elim hq
    | cont => exact False.elim hq
/-- f(e, .., k = v, ..) -/
theorem pe_callK (F : FnOk X.prog X.w X.K X.mg X.base CX k f fd ps sp) (hr : Room k X.A) (hg : Gl X x) (hm : X.mg x = some (.ref f)) (hk : PySem.W.keepIn X.K (.ref f) = true) (hb : KBinds X.K fd ps ks g gV) (hx : Passes CX X E)
    (ha : PA X (e :: es) t) (hkw : PK X kws tk) (hall : (backToKw pos (keywordEach kws X.env)).all (·.1.isSome) = true := by rfl) (hks : (backToKw pos (keywordEach kws X.env)).filterMap (·.1) = ks := by rfl)
    (hdb : (x == ("__debug__" : Str)) = false := by decide) (he : starEach (e :: es) X.env = (false, eval e X.env) :: starEach es X.env := by rfl)
    (hpl : ((backTo pos (starEach (e :: es) X.env)).any (·.1) || (backToKw pos (keywordEach kws X.env)).any (·.1.isNone)) = false := by rfl) :
    PE X (.Call (.Name x p) (e :: es) kws pos) (tCallK sp gV E t tk) := by
  intro pins s σ H Q I h
  refine wpAny_Call_Name_kw (ld_glob I hg hm ?_ hdb)
  refine PySem.W.callWith_KW (h₀ := X.base) I.ok.mod.kin hk hall (thn (ha pos pins s σ H _ I h) fun us s1 ⟨vs, H1, I1, r, q⟩ => ?_) hpl he
  refine thn (hkw pos pins s1 σ H1 _ I1 q) fun ws s2 ⟨zs, H2, I2, rz, q2⟩ => ⟨I2.kIn, ?_⟩
  rw [hks]
  exact run_fnk F hr hb hx I2 r rz q2
end

/-! ### a def's body keeps its promise -/
/-- names: the parameters first -/
structure FnScope (N P : List Str) (sc : Scope) : Prop where
  kind : sc.kind = .function
  co : sc.isCoroutine = false
  gen : sc.isGenerator = false
  nd : N.Nodup
  pre : N.take P.length = P
  par : ∀ x ∈ P, sc.names.lookup x = some .local ∨ sc.names.lookup x = some .cell
  nofree : ∀ y ∈ sc.names, y.2 ≠ .free

theorem bindL_out {kindOf : Str → Option NameKind} {x : Str} : ∀ {binds : List (Str × Value)} {m : Str → Option Value}, (∀ v, (x, v) ∉ binds) → bindL kindOf binds m x = m x
  | [], _, _ => rfl
  | (n, v) :: r, m, h => by
    unfold bindL
    rw [bindL_out fun w hw => h w (List.mem_cons_of_mem _ hw)]
    split
    · have : x ≠ n := by rintro rfl; exact h v List.mem_cons_self
      simp [this]
    · rfl
theorem bindC_out {kindOf : Str → Option NameKind} {x : Str} : ∀ {binds : List (Str × Value)} {m : Str → Option Value}, (∀ v, (x, v) ∉ binds) → bindC kindOf binds m x = m x
  | [], _, _ => rfl
  | (n, v) :: r, m, h => by
    unfold bindC
    rw [bindC_out fun w hw => h w (List.mem_cons_of_mem _ hw)]
    split
    · rfl
    · have : x ≠ n := by rintro rfl; exact h v List.mem_cons_self
      simp [this]
theorem bindL_get {kindOf : Str → Option NameKind} {x : Str} {v : Value} : ∀ {P : List Str} {vs : List Value} {i : Nat} {m : Str → Option Value}, P.Nodup → P[i]? = some x → vs[i]? = some v → kindOf x = some .local →
    bindL kindOf (P.zip vs) m x = some v
  | [], _, _, _, _, h, _, _ => by simp at h
  | _ :: _, [], _, _, _, _, h, _ => by simp at h
  | p :: P, w :: vs, 0, m, nd, h1, h2, hk => by
    simp at h1 h2; subst h1; subst h2
    show bindL kindOf ((p, w) :: P.zip vs) m p = _
    unfold bindL
    rw [bindL_out fun v hv => (List.nodup_cons.mp nd).1 (List.of_mem_zip hv).1, if_pos hk]
    simp
  | p :: P, w :: vs, i + 1, m, nd, h1, h2, hk => by
    show bindL kindOf ((p, w) :: P.zip vs) m x = _
    unfold bindL
    exact bindL_get (i := i) (List.nodup_cons.mp nd).2 (by simpa using h1) (by simpa using h2) hk
theorem bindC_get {kindOf : Str → Option NameKind} {x : Str} {v : Value} : ∀ {P : List Str} {vs : List Value} {i : Nat} {m : Str → Option Value}, P.Nodup → P[i]? = some x → vs[i]? = some v → kindOf x ≠ some .local →
    bindC kindOf (P.zip vs) m x = some v
  | [], _, _, _, _, h, _, _ => by simp at h
  | _ :: _, [], _, _, _, _, h, _ => by simp at h
  | p :: P, w :: vs, 0, m, nd, h1, h2, hk => by
    simp at h1 h2; subst h1; subst h2
    show bindC kindOf ((p, w) :: P.zip vs) m p = _
    unfold bindC
    rw [bindC_out fun v hv => (List.nodup_cons.mp nd).1 (List.of_mem_zip hv).1, if_neg hk]
    simp
  | p :: P, w :: vs, i + 1, m, nd, h1, h2, hk => by
    show bindC kindOf ((p, w) :: P.zip vs) m x = _
    unfold bindC
    exact bindC_get (i := i) (List.nodup_cons.mp nd).2 (by simpa using h1) (by simpa using h2) hk

/-- the names' values at the entry -/
def start (N : List Str) (vs : List V) : St := vs.map some ++ List.replicate (N.length - vs.length) none

/-- the context of a def's body, at its entry; an exception leaves the frame, then lies as CX says -/
def cxOf (CX : CXT) (P : Program) (w : World) (K : PySem.W.Frag) (mg : Str → Option Value) (base : Heap) (N : List Str) (qual : Str) (scope : Scope) (f : Addr) (cd : Value) (A : Around) (outer : List Env) (s : Shared) (H : Hp) (E : XK) : Cx where
  prog := P
  w := w
  K := K
  mg := mg
  base := base
  A := A.deeper (envOfC qual scope s.heap.objs.size f cd)
  N := N
  s₀ := s
  H₀ := H
  env := envOfC qual scope s.heap.objs.size f cd
  outer := outer
  stack := envOfC qual scope s.heap.objs.size f cd :: outer
  ex := []
  calm := true
  fn := fun _ => true
  pn := []
  xe := fun e s' => wpAny (model P w) (A.deeper (envOfC qual scope s.heap.objs.size f cd)) (leaving (envOfC qual scope s.heap.objs.size f cd) e) (fun _ s'' => CX outer H s E e s'') (fun e' s'' => CX outer H s E e' s'') s'

theorem cell_has {sc : Scope} {n : Nat} {x : Str} (h : sc.names.lookup x = some .cell) : ∃ c, (cellsFrom n sc.names []).lookup x = some c := by
  have q := PySem.W.cellsFrom_some sc.names n [] (.inl h)
  exact Option.isSome_iff_exists.mp q

theorem inv_start {CX : CXT} {P : Program} {w : World} {K : PySem.W.Frag} {mg : Str → Option Value} {base : Heap} {N ps : List Str} {qual : Str} {scope : Scope} {f : Addr} {cd : Value} {A : Around} {outer : List Env} {s s1 : Shared} {H : Hp} {E : XK} {us : List Value} {vs : List V}
    (S : FnScope N ps scope) (hd : A.handled = none) (e0 : Env0 P w K mg base A outer s H) (hl : vs.length = ps.length) (r : Vals vs us)
    (x : InCallC s s.heap.objs.size (bindL (envOfC qual scope s.heap.objs.size f cd).kindOf (ps.zip us) fun _ => none) (cellsFrom (s.heap.objs.size + 1) scope.names []) (bindC (envOfC qual scope s.heap.objs.size f cd).kindOf (ps.zip us) fun _ => none) s1) :
    Inv (cxOf CX P w K mg base N qual scope f cd A outer s H E) [] (start N vs) H s1 := by
  have hpl : ps.length ≤ N.length := by have := congrArg List.length S.pre; rw [List.length_take] at this; omega
  obtain ⟨h1, tk, rfl, hk⟩ := x.done
  have noA : ∀ b : Addr, b ∉ (cxOf CX P w K mg base N qual scope f cd A outer s H E).ex := fun b z => absurd (show b ∈ ([] : List Addr) from z) (by simp)
  refine ⟨⟨e0.mod, S.kind, rfl, rfl, Nat.le_refl _, fun y z c h1 h2 => ?_, fun y hy => ?_, fun y c _ h => ?_, fun _ => hd, Around.frames_deeper e0.frames, .inr ⟨rfl, rfl⟩, fun b z => absurd z (noA b), e0.bs, e0.bsz, fun b _ _ => noA b, fun b z => absurd z (noA b), e0.funs, e0.frf⟩,
    rfl, e0.bare, Un.kept hk, ⟨_, x.toInCall.ns, fun i y v h1 h2 h3 => ?_⟩, fun y c h => ⟨_, x.cell y c h⟩, e0.hok.fresh (Nat.le_refl _), fun y c h => ?_, fun p hp => absurd (show p ∈ ([] : List (Addr × Obj)) from hp) (by simp), e0.hok.kept hk, ?_⟩
  · exact name_of_addr x.apart (PySem.mem_of_lookup h1) (PySem.mem_of_lookup h2)
  · have hy : scope.names.lookup y = some .cell ∨ scope.names.lookup y = some .free := hy
    rcases hy with hy | hy
    · exact cell_has hy
    · exact absurd rfl (S.nofree _ (PySem.mem_of_lookup hy))
  · exact Nat.le_of_lt (x.above y c (PySem.mem_of_lookup h))
  · have hi : i < vs.length := by
      unfold start at h2
      by_cases hi : i < vs.length
      · exact hi
      · rw [List.getElem?_append_right (by simpa using hi)] at h2
        rw [List.getElem?_replicate] at h2
        split at h2 <;> cases h2
    have ha : vs[i]? = some v := by
      unfold start at h2
      rw [List.getElem?_append_left (by simpa using hi), List.getElem?_map] at h2
      cases e : vs[i]? with
      | none => rw [e] at h2; cases h2
      | some a => rw [e] at h2; cases h2; rfl
    obtain ⟨u, hu, rv⟩ := r.get ha
    have hp : ps[i]? = some y := by
      rw [← S.pre, List.getElem?_take_of_lt (by omega)]; exact h1
    have ndP : ps.Nodup := by rw [← S.pre]; exact S.nd.sublist (List.take_sublist _ _)
    refine ⟨u, rv, ?_⟩
    rcases S.par y (List.mem_of_getElem? hp) with k | k
    · exact .inl ⟨k, bindL_get ndP hp hu k⟩
    · obtain ⟨c, e⟩ := cell_has (n := s.heap.objs.size + 1) k
      refine .inr ⟨.inl k, c, e, ?_⟩
      have q := x.cell y c e
      rw [bindC_get ndP hp hu (by show scope.names.lookup y ≠ _; rw [k]; decide)] at q
      exact q
  · exact e0.hok.fresh (Nat.le_of_lt (x.above y c (PySem.mem_of_lookup h)))
  · unfold start
    show _ = N.length
    rw [List.length_append, List.length_map, List.length_replicate]
    omega

/-- THE RULE: a def (or a method) of the text, by its body. The body's reading t is chosen for each entry; it is run at the parameters' values -/
theorem fn_of {CX : CXT} {P : Program} {w : World} {K : PySem.W.Frag} {mg : Str → Option Value} {base : Heap} {k : Nat} {f : Addr} {name qual : Str} {params : Arguments} {body : List Stmt} {scope : Scope} {dV kV doc pm cdv ct oc : Value} {an od : Option Addr}
    {osl : Array (Option Value)} {N ps : List Str} {sp : Sp} (lk : K.lookup f = some ⟨oc, od, .func (PySem.W.fnOf name qual params body scope dV kV doc pm an cdv ct), osl⟩) (hcd : PySem.W.codeIn K cdv qual = true) (S : FnScope N ps scope)
    (len : ∀ vs H Q E, sp vs H Q E → vs.length = ps.length)
    (hbody : ∀ (A : Around) (outer : List Env) (s : Shared) (H : Hp) (vs : List V) (Q : VK) (E : XK), Room k (A.deeper (envOfC qual scope s.heap.objs.size f cdv)) → sp vs H Q E →
      ∃ t, PSs (cxOf CX P w K mg base N qual scope f cdv A outer s H E) body t ∧ t { nx := fun _ H' => Q .non H', rt := Q } (start N vs) H) :
    FnOk P w K mg base CX (k + 1) f (PySem.W.fnOf name qual params body scope dV kV doc pm an cdv ct) ps sp := by
  refine ⟨len, fun A outer s H args us vs Q E hr e0 hb r hsp => ?_⟩
  have hl := len _ _ _ _ hsp
  have KX : K.In s.heap := e0.mod.kin.keeps fun b o e => (e0.bs b o e).1
  have lim : s.heap.NoLimit := e0.mod.nolimit.keeps fun b o e => (e0.bs b o e).1
  have hkind : ∀ y ∈ ps.zip us, scope.names.lookup y.1 = some .local ∨ (scope.names.lookup y.1 = some .cell ∧ ((cellsFrom (s.heap.objs.size + 1) scope.names []).lookup y.1).isSome = true) := fun ⟨n, v⟩ hy => by
    rcases S.par n (List.of_mem_zip hy).1 with q | q
    · exact .inl q
    · exact .inr ⟨q, PySem.W.cellsFrom_some _ _ _ (.inl q)⟩
  refine codeAny_call_function hr.depth (KX _ _ lk) rfl S.co S.gen rfl (PySem.W.codeRec_of KX hcd) (hb _ _ _ _ ?_)
  refine wpAny_newFunctionEnv_cells S.kind hkind fun env he s1 x => ?_
  subst he
  refine ⟨lim.keeps x.toInCall.keep, codeAny_func ?_⟩
  obtain ⟨t, ht, hq⟩ := hbody A outer s H vs Q E (hr.deeper _) hsp
  have I : Inv (cxOf CX P w K mg base N qual scope f cdv A outer s H E) [] (start N vs) H s1 := inv_start S hr.hd e0 hl r x
  refine wpAny_mono (ht [] s1 (start N vs) H _ I hq) (fun fl s' hs => ?_) fun e s' hs => hs
  have fin : ∀ {σ' : St} {H' : Hp} {v : V} {u : Value}, Inv (cxOf CX P w K mg base N qual scope f cdv A outer s H E) [] σ' H' s' → RelV v u → Q v H' → CE outer P w H s Q u s' :=
    fun {σ' H' v u} J rv q => ⟨v, H', J.os, J.bare, J.base, J.hok, rv, q⟩
  cases fl with
  | ret u =>
    obtain ⟨v, σ', H', J, rv, q⟩ := hs
    exact fin J rv q
  | next =>
    obtain ⟨σ', H', J, q⟩ := hs
    exact fin (v := V.non) (u := Value.none) J rfl q
  | brk =>
    obtain ⟨_, _, _, q⟩ := hs
    exact False.elim q
  | cont =>
    obtain ⟨_, _, _, q⟩ := hs
    exact False.elim q
end L2

namespace L2
open PySem PySem.Spec PyProof.Rows
section
variable {X : Cx} {x : Str} {p pos : Pos} {e : Expr} {es : List Expr} {t : TA} {id T : String} {r : List V → Hp → VK → Prop}

def tCB (r : List V → Hp → VK → Prop) (t : TA) : TE := fun σ H Q => t σ H fun vs H1 => r vs H1 Q
/-- f(e, ..), f a built-in function -/
theorem pe_callB (hc : CallR X (.builtin id) r) (hg : Gl X x) (hm : X.mg x = none) (hv : bootBuiltins x = some (.builtin id)) (ha : PA X (e :: es) t) (hn : x ≠ "__name__" := by decide) (hdb : (x == ("__debug__" : Str)) = false := by decide)
    (he : starEach (e :: es) X.env = (false, eval e X.env) :: starEach es X.env := by rfl) (hpl : (backTo pos (starEach es X.env)).any (·.1) = false := by rfl) : PE X (.Call (.Name x p) (e :: es) [] pos) (tCB r t) := by
  intro pins s σ H Q I h
  refine wpAny_Call_Name_kw (ld_blt I hg hm hv ?_ hn hdb)
  exact PyProof.Rows.callWith_builtin1 (thn (ha pos pins s σ H _ I h) fun us s1 ⟨vs, H1, I1, r1, q1⟩ => hc pins s1 σ H1 vs us Q I1 r1 q1) he hpl
/-- T(e, ..), T a built-in type -/
theorem pe_callTy (hc : CallR X (.type T) r) (hg : Gl X x) (hm : X.mg x = none) (hv : bootBuiltins x = some (.type T)) (ha : PA X (e :: es) t) (hn : x ≠ "__name__" := by decide) (hdb : (x == ("__debug__" : Str)) = false := by decide)
    (he : starEach (e :: es) X.env = (false, eval e X.env) :: starEach es X.env := by rfl) (hpl : (backTo pos (starEach es X.env)).any (·.1) = false := by rfl) : PE X (.Call (.Name x p) (e :: es) [] pos) (tCB r t) := by
  intro pins s σ H Q I h
  refine wpAny_Call_Name_kw (ld_blt I hg hm hv ?_ hn hdb)
  exact PyProof.Rows.callWith_type1 (thn (ha pos pins s σ H _ I h) fun us s1 ⟨vs, H1, I1, r1, q1⟩ => hc pins s1 σ H1 vs us Q I1 r1 q1) he hpl
/-- T() -/
theorem pe_callTy0 (hc : CallR X (.type T) r) (hg : Gl X x) (hm : X.mg x = none) (hv : bootBuiltins x = some (.type T)) (hn : x ≠ "__name__" := by decide) (hdb : (x == ("__debug__" : Str)) = false := by decide) :
    PE X (.Call (.Name x p) [] [] pos) (tCB r tNil) := by
  intro pins s σ H Q I h
  refine wpAny_Call_Name_kw (ld_blt I hg hm hv ?_ hn hdb)
  exact PyProof.Rows.callWith_type0 (hc pins s σ H [] [] Q I .nil h)
end
end L2

namespace HT
open PySem PyProof.Rows

/-- t < u of tuples of ints -/
def lexLt : List Int → List Int → Bool
  | [], [] => false
  | [], _ :: _ => true
  | _ :: _, [] => false
  | x :: xs, y :: ys => if x = y then lexLt xs ys else decide (x < y)
theorem lexLt_cons (x y : Int) (xs ys : List Int) : lexLt (x :: xs) (y :: ys) = if x = y then lexLt xs ys else decide (x < y) := rfl
theorem lexLt_nil_nil : lexLt [] [] = false := rfl
theorem lexLt_nil_cons (y : Int) (ys : List Int) : lexLt [] (y :: ys) = true := rfl
theorem lexLt_cons_nil (x : Int) (xs : List Int) : lexLt (x :: xs) [] = false := rfl

theorem eqAt_int (A : Around) (s : Shared) (a : Int) (t : Tok) (c : Int) (u : Tok) : ∃ e, SeqAt.EqAt A s (.int a t) (.int c u) e ∧ (e = true ↔ a = c) :=
  ⟨(a == c), SeqAt.EqAt.int_int a t c u, by simp⟩
theorem rcLt_int (A : Around) (s : Shared) (a : Int) (t : Tok) (c : Int) (u : Tok) (prog : Program) (w : World) (E : Value → Shared → Prop) (Q : Value → Shared → Prop) (h : Q (.bool (decide (a < c))) s) :
    wpAny (model prog w) A (richCompare .Lt (.int a t) (.int c u)) Q E s :=
  (PyProof.Rows.lt_int h : wpAny (model prog w) A (compareOp .Lt (.int a t) (.int c u)) Q E s)

section
open PySem.SeqAt
open PySem.AutoSeq1 (wpAny_loadPart')
open PySem.MeetsSeq PySem.MeetsSeq2 PySem.MeetsSeq3

theorem tuple_lt_ints (l b : Addr) (items items2 : Array Value) (n n2 : Nat) (dd dd2 : Option Addr) (sl sl2 : Array (Option Value)) (ns ms : List Int) (hi : IntsAre items.toList ns) (hj : IntsAre items2.toList ms) :
    Meets (Builtin.«tuple.__lt__» ⟨[.ref l, .ref b], []⟩)
      (fun _ R s => s.heap.get? l = some { cls := .type "tuple", dict := dd, data := .seq items n, slots := sl } ∧ s.heap.get? b = some { cls := .type "tuple", dict := dd2, data := .seq items2 n2, slots := sl2 } ∧
        R (.ok (.ret (.bool (lexLt ns ms)))) s) :=
  .of_wp fun prog w A R s h => by
    obtain ⟨hp, g, d, tk, os⟩ := s; obtain ⟨hl, hb, h⟩ := h
    have f2 := AutoSeq1.sub_tuple_tuple
    have z1 : items.size = ns.length := by rw [← hi.length]; simp
    have z2 : items2.size = ms.length := by rw [← hj.length]; simp
    wp_walk using wpAny_loadPart' hl, wpAny_loadPart' hb, wpAny_forIn_list _ (fun rest b s' => b.1 = none ∧ s' = ⟨hp, g, d, tk, os⟩ ∧ ∃ (vs ws : List Value) (ns' ms' : List Int), rest = vs.zip ws ∧
      IntsAre vs ns' ∧ IntsAre ws ms' ∧ ns'.length + items2.size = ms'.length + items.size ∧ R (.ok (.ret (.bool (lexLt ns' ms')))) ⟨hp, g, d, tk, os⟩) _
    case turn =>
      rintro ⟨y, x⟩ rest b s' ⟨hb', rfl, vs, ws, ns', ms', hz, hvi, hwi, hlen, hR⟩
      cases hvi with
      | nil => rw [List.zip_nil_left] at hz; cases hz
      | cons a t hvi' =>
        cases hwi with
        | nil => rw [List.zip_nil_right] at hz; cases hz
        | cons c u hwi' =>
          rw [List.zip_cons_cons] at hz
          injection hz with hyx hrest
          injection hyx with hy hx
          subst hy hx
          rw [lexLt_cons] at hR
          simp only [List.length_cons] at hlen
          obtain ⟨e, he, hiff⟩ := eqAt_int A.in1 ⟨hp, g, d, tk, os⟩ a t c u
          refine wpAny_bind (he prog w _ _ ?_)
          cases e with
          | true =>
            rw [if_pos (hiff.mp rfl)] at hR
            wp_walk
            exact ⟨rfl, rfl, _, _, _, _, hrest, hvi', hwi', by omega, hR⟩
          | false =>
            rw [if_neg (fun q => absurd (hiff.mpr q) Bool.false_ne_true)] at hR
            have hri := rcLt_int A.in1 ⟨hp, g, d, tk, os⟩ a t c u prog w
            wp_walk using hri
            exact ⟨_, rfl, by simpa using hR⟩
    case fin =>
      rintro ⟨b1, b2⟩ s' ⟨hb', rfl, vs, ws, ns', ms', hz, hvi, hwi, hlen, hR⟩
      simp only at hb'
      subst hb'
      have hv : lexLt ns' ms' = decide (items.size < items2.size) := by
        cases hvi with
        | nil =>
          cases hwi with
          | nil =>
            simp only [List.length_nil] at hlen
            rw [lexLt_nil_nil]
            exact (decide_eq_false (by omega)).symm
          | cons c u hw =>
            simp only [List.length_nil, List.length_cons] at hlen
            rw [lexLt_nil_cons]
            exact (decide_eq_true (by omega)).symm
        | cons a t hv =>
          cases hwi with
          | nil =>
            simp only [List.length_nil, List.length_cons] at hlen
            rw [lexLt_cons_nil]
            exact (decide_eq_false (by omega)).symm
          | cons c u hw =>
            rw [List.zip_cons_cons] at hz
            cases hz
      rw [hv] at hR
      wp_walk
      exact ⟨_, rfl, by simpa [Builtin.Tuple.tupleCompareSizes] using hR⟩
    case h =>
      exact ⟨rfl, rfl, items.toList, items2.toList, ns, ms, rfl, hi, hj, by omega, h⟩
end

section
variable {prog : Program} {w : World} {A : Around} {E : Value → Shared → Prop} {s : Shared}

theorem lt_tupInts {l b : Addr} {items items2 : Array Value} {ns ms : List Int} {Q : Value → Shared → Prop} (hl : IsTup s.heap l items) (hb : IsTup s.heap b items2) (hi : IntsAre items.toList ns) (hj : IntsAre items2.toList ms)
    (hu : A.units < cLine) (h : Q (.bool (lexLt ns ms)) s) : wpAny (model prog w) A (compareOp .Lt (.ref l) (.ref b)) Q E s := by
  obtain ⟨⟨cls, dd, data, sl⟩, ho, hc, n, hd⟩ := id hl
  obtain ⟨⟨cls2, dd2, data2, sl2⟩, ho2, hc2, n2, hd2⟩ := id hb
  simp only at hc hd hc2 hd2
  subst hc hd hc2 hd2
  exact richCompare_meets_room (op := .Lt) ⟨_, ho, rfl⟩ ⟨_, ho2, rfl⟩ PySem.F.slot_tuple_lt PySem.F.entry_tuple_lt (PySem.F.args_tuple_lt_2 _ _) (tuple_lt_ints l b items items2 n n2 dd dd2 sl sl2 ns ms hi hj)
    ⟨ho, ho2, show Value.bool (lexLt ns ms) ≠ Value.notImplemented ∧ Q (.bool (lexLt ns ms)) s from ⟨(fun x => nomatch x), h⟩⟩ hu

/-- t + u, t not empty -/
theorem cat_tup {t b : Addr} {vs ws : List Value} {Q : Value → Shared → Prop} (ht : IsTup s.heap t vs.toArray) (hb : IsTup s.heap b ws.toArray) (hv : vs ≠ [])
    (h1 : ws = [] → Q (.ref t) s) (h2 : ws ≠ [] → Q (.ref s.heap.objs.size) { s with heap := s.heap.push { cls := .type "tuple", data := .seq (vs ++ ws).toArray } })
    (hsz : vs.length + ws.length ≤ sizeLine) : wpAny (model prog w) A (binaryOp .Add (.ref t) (.ref b)) Q E s := by
  obtain ⟨⟨cls, dd, data, sl⟩, ho, hc, n, hd⟩ := id ht
  obtain ⟨⟨cls2, dd2, data2, sl2⟩, ho2, hc2, n2, hd2⟩ := id hb
  simp only at hc hd hc2 hd2
  subst hc hd hc2 hd2
  have e : vs.toArray ++ ws.toArray = (vs ++ ws).toArray := by simp
  by_cases hw : ws = []
  · exact concat_meets ⟨_, ho, rfl⟩ ⟨_, ho2, rfl⟩ noFill_tuple_add seq_tuple_add PySem.F.slot_tuple_add PySem.F.entry_tuple_add (PySem.F.args_tuple_add_2 _ _)
      (tuple_addW1 t b vs.toArray ws.toArray n n2 dd dd2 sl sl2 (by simpa using hv) (by simp [hw])) ⟨ho, ho2, h1 hw⟩
  · refine concat_meets ⟨_, ho, rfl⟩ ⟨_, ho2, rfl⟩ noFill_tuple_add seq_tuple_add PySem.F.slot_tuple_add PySem.F.entry_tuple_add (PySem.F.args_tuple_add_2 _ _)
      (tuple_addW2 t b vs.toArray ws.toArray n n2 dd dd2 sl sl2 (by simpa using hv) (by simpa using hw) (by rw [List.size_toArray, List.size_toArray]; exact hsz)) ⟨ho, ho2, ?_⟩
    rw [e]
    exact h2 hw

/-! ### t[a:b], not the whole -/
/-- a slice's bound as a place among n (d where it is left out) -/
def sIx (n d : Nat) : Option Int → Nat
  | none => d
  | some v => if v < 0 then (v + (n : Int)).toNat else min v.toNat n
theorem sIx_none (n d : Nat) : sIx n d none = d := rfl
theorem sIx_nat (n d k : Nat) : sIx n d (some (k : Int)) = min k n := by
  show (if (k : Int) < 0 then ((k : Int) + (n : Int)).toNat else min (k : Int).toNat n) = min k n
  rw [if_neg (by omega), Int.toNat_natCast]
theorem sIx_le (n d : Nat) (hd : d ≤ n) (o : Option Int) : sIx n d o ≤ n := by
  cases o with
  | none => exact hd
  | some v =>
    show (if v < 0 then (v + (n : Int)).toNat else min v.toNat n) ≤ n
    by_cases hv : v < 0
    · rw [if_pos hv]; omega
    · rw [if_neg hv]; exact Nat.min_le_right _ _
theorem clip_eq (v : Int) (n d : Nat) : (if v < 0 then max (v + (n : Int)) 0 else min v (n : Int)) = ((sIx n d (some v) : Nat) : Int) := by
  show (if v < 0 then max (v + (n : Int)) 0 else min v (n : Int)) = (((if v < 0 then (v + (n : Int)).toNat else min v.toNat n) : Nat) : Int)
  by_cases hv : v < 0
  · simp only [if_pos hv]; omega
  · simp only [if_neg hv]; omega
theorem adjust_gen (lo hi : Option Int) (n : Nat) : Builtin.Slice.sliceAdjust lo hi 1 (n : Int) = (((sIx n 0 lo : Nat) : Int), ((sIx n n hi : Nat) : Int)) := by
  have h1 : ¬ ((1 : Int) < 0) := by omega
  unfold Builtin.Slice.sliceAdjust
  simp only [h1, if_false]
  refine Prod.ext ?_ ?_
  · cases lo with
    | none => rfl
    | some v => exact clip_eq v n 0
  · cases hi with
    | none => rfl
    | some v => exact clip_eq v n n
theorem places_gen (i j : Nat) : Builtin.Slice.slicePlaces (i : Int) (j : Int) 1 = j - i := by
  unfold Builtin.Slice.slicePlaces
  have h1 : (1 : Int) > 0 := by omega
  simp only [h1, if_true, Int.ediv_one]
  split <;> omega
theorem slicePart_ {v : Value} {o : Option Int} {Q : Option Int → Shared → Prop} (p : IsPart v o) (h : Q o s) : wpAny (model prog w) A (Builtin.Slice.slicePartIndex v) Q E s := by
  cases p with
  | none => exact slicePart_none h
  | int i t => exact slicePart_int h
theorem sliceApplied_gen {sl : Addr} {vl vu : Value} {lo hi : Option Int} {n : Nat} {Q : Int × Int × Nat → Shared → Prop} (hs : s.heap.IsSliceOf sl vl vu .none) (pl : IsPart vl lo) (pu : IsPart vu hi)
    (h : Q (((sIx n 0 lo : Nat) : Int), 1, sIx n n hi - sIx n 0 lo) s) : wpAny (model prog w) A (Builtin.Slice.sliceApplied (.ref sl) (pure (n : Int))) Q E s := by
  obtain ⟨os, hos, hcs, hds⟩ := id hs
  unfold Builtin.Slice.sliceApplied Builtin.Slice.sliceFields
  refine wpAny_bind (wpAny_bind (wpAny_field hos hds (x := vl) rfl (wpAny_bind (wpAny_field hos hds (x := vu) rfl (wpAny_bind (wpAny_field hos hds (x := .none) rfl (wpAny_pure ?_)))))))
  refine wpAny_bind (slicePart_none ?_)
  show wpAny _ _ (if ((1 : Int) == 0) = true then _ else _) _ _ s
  rw [if_neg (by decide)]
  refine wpAny_bind (slicePart_ pl (wpAny_bind (slicePart_ pu (wpAny_bind (wpAny_pure ?_)))))
  show wpAny _ _ (match Builtin.Slice.sliceAdjust lo hi 1 (n : Int) with | (lo, hi) => pure (lo, (1 : Int), Builtin.Slice.slicePlaces lo hi 1)) _ _ s
  rw [adjust_gen lo hi n]
  show wpAny _ _ (pure (((sIx n 0 lo : Nat) : Int), (1 : Int), Builtin.Slice.slicePlaces ((sIx n 0 lo : Nat) : Int) ((sIx n n hi : Nat) : Int) 1)) _ _ s
  rw [places_gen]
  exact wpAny_pure h
theorem pick_gen (xs : Array Value) (i k : Nat) : ((List.range k).filterMap fun (m : Nat) => xs[((i : Int) + (m : Int) * 1).toNat]?).toArray = ((xs.toList.drop i).take k).toArray := by
  have e : (fun (m : Nat) => xs[((i : Int) + (m : Int) * 1).toNat]?) = fun m => xs[i + m]? := by
    funext m
    have : ((i : Int) + (m : Int) * 1).toNat = i + m := by omega
    rw [this]
  rw [e]
  have := pick_run xs i k
  rw [List.filterMap_map] at this
  have e2 : ((fun x => xs[x]?) ∘ fun x => i + x) = fun m => xs[i + m]? := rfl
  rw [e2] at this
  rw [this]

theorem getItem_tuple_cut {t sl : Addr} {items : Array Value} {vl vu : Value} {lo hi : Option Int} {Q : Value → Shared → Prop} (ht : IsTup s.heap t items) (hs : s.heap.IsSliceOf sl vl vu .none) (pl : IsPart vl lo) (pu : IsPart vu hi)
    (hw : ¬ (sIx items.size 0 lo = 0 ∧ sIx items.size items.size hi = items.size))
    (h : Q (.ref s.heap.objs.size) { s with heap := s.heap.push { cls := .type "tuple", data := .seq ((items.toList.drop (sIx items.size 0 lo)).take (sIx items.size items.size hi - sIx items.size 0 lo)).toArray } })
    (hsz : items.size ≤ sizeLine) : wpAny (model prog w) A (getItem (.ref t) (.ref sl)) Q E s := by
  have htake : sizeOk (.seq ((items.toList.drop (sIx items.size 0 lo)).take (sIx items.size items.size hi - sIx items.size 0 lo)).toArray) := by
    show ((items.toList.drop (sIx items.size 0 lo)).take (sIx items.size items.size hi - sIx items.size 0 lo)).toArray.size ≤ sizeLine
    rw [List.size_toArray, List.length_take, List.length_drop, Array.length_toList]
    omega
  have hj : sIx items.size items.size hi ≤ items.size := sIx_le _ _ (Nat.le_refl _) hi
  obtain ⟨os, hos, hcs, hds⟩ := id hs
  have hTs : s.TypeIs (.ref sl) "slice" := ⟨os, hos, hcs⟩
  unfold getItem
  try with_reducible refine wpAny_holding ?_
  first | refine wpAny_bind (wpAny_pure ?_) | skip
  refine wpAny_bind (wpAny_sequenceKey ht.typeIs (by decide) ?_)
  refine wpAny_bind (wpAny_callSpecial?_slot (name := Str.ofString "__getitem__") ht.typeIs PyProof.Rows.slot_tuple_getitem
    (wpAny_call_entry PyProof.Rows.slot_tuple_getitem ht.typeIs entry_tuple_getitem ?_ (args_tuple_getitem _ _)))
  show wpAny _ _ (Builtin.Tuple.tupleItemsOf (.ref t) >>= _) _ _ s
  refine wpAny_bind (tupleItemsOf_ ht ?_)
  refine wpAny_bind (wpAny_typeOf hTs ?_)
  rw [if_pos (by decide)]
  refine wpAny_bind (sliceApplied_gen hs pl pu ?_)
  have hno : ¬ ((((sIx items.size 0 lo : Nat) : Int) == 0 && (1 : Int) == 1 && (sIx items.size items.size hi - sIx items.size 0 lo) == items.size) = true) := by
    intro q
    rw [Bool.and_eq_true, Bool.and_eq_true] at q
    have q1 : ((sIx items.size 0 lo : Nat) : Int) = 0 := eq_of_beq q.1.1
    have q2 : sIx items.size items.size hi - sIx items.size 0 lo = items.size := eq_of_beq q.2
    exact hw ⟨by omega, by omega⟩
  show wpAny _ _ (if (((sIx items.size 0 lo : Nat) : Int) == 0 && (1 : Int) == 1 && (sIx items.size items.size hi - sIx items.size 0 lo) == items.size) = true then _ else _) _ _ s
  rw [if_neg hno, pick_gen]
  first
    | exact wpAny_bind (m := Builtin.Tuple.tupleExact _) (wpAny_newObj_type (wpAny_pure ⟨_, rfl, wpAny_pure h⟩) htake)
    | exact wpAny_bind (m := Builtin.Tuple.tupleExact _) (wpAny_newObj_type (wpAny_bind (wpAny_pure (wpAny_pure ⟨_, rfl, wpAny_pure h⟩))) htake)
    | exact wpAny_bind (wpAny_bind (m := Builtin.Tuple.tupleExact _) (wpAny_newObj_type (wpAny_pure (wpAny_pure ⟨_, rfl, wpAny_pure h⟩)) htake))
    | exact wpAny_bind (wpAny_bind (m := Builtin.Tuple.tupleExact _) (wpAny_newObj_type (wpAny_pure ⟨_, rfl, wpAny_pure h⟩) htake))
end
end HT

namespace L2
open PySem PySem.Spec PyProof.Rows

/-! ### the parts of a slice -/
abbrev TO := St → Hp → (Option Int → Hp → Prop) → Prop
/-- a slice's part (left out, or an int) -/
def PO (X : Cx) (e : Option Expr) (t : TO) : Prop :=
  ∀ (pins : List (Addr × Obj)) (s : Shared) (σ : St) (H : Hp) (Q : Option Int → Hp → Prop), Inv X pins σ H s → t σ H Q →
    wpAny (model X.prog X.w) X.A (evalPart e X.env) (fun u s' => ∃ o H', Inv X pins σ H' s' ∧ IsPart u o ∧ Q o H') X.xe s
def tNoPart : TO := fun _ H Q => Q none H
def tPart (t : TE) : TO := fun σ H Q => t σ H fun x H1 => ∃ i, x = .int i ∧ Q (some i) H1

theorem intsAre_of {ns : List Int} : ∀ {us : List Value}, Vals (ns.map V.int) us → IntsAre us ns := by
  induction ns with
  | nil => intro us r; rw [List.map_nil] at r; cases r; exact .nil
  | cons n ns ih =>
    intro us r
    rw [List.map_cons] at r
    cases r with
    | cons r1 r2 =>
      obtain ⟨t, e⟩ := r1
      subst e
      exact .cons n t (ih r2)

section
variable {X : Cx} {e : Expr} {te : TE} {lo hi : Option Expr} {tl th : TO} {pos p2 : Pos}

theorem po_none : PO X none tNoPart := by
  intro pins s σ H Q I h
  rw [evalPart_none]
  exact wpAny_pure ⟨none, H, I, .none, h⟩
theorem po_some (h : PE X e te) : PO X (some e) (tPart te) := by
  intro pins s σ H Q I hw
  rw [evalPart_some]
  refine thn (h pins s σ H _ I hw) fun u s1 ⟨x, H1, I1, r1, q1⟩ => ?_
  obtain ⟨i, rfl, q⟩ := q1
  obtain ⟨t, rfl⟩ := r1
  exact ⟨some i, H1, I1, .int i t, q⟩

/-- what a slice of a value is, by values: the slice object stands at sl -/
def SlR (X : Cx) (r : V → Option Int → Option Int → Hp → VK → Prop) : Prop :=
  ∀ (pins : List (Addr × Obj)) (s : Shared) (σ : St) (H : Hp) (x : V) (v vl vu : Value) (lo hi : Option Int) (sl : Addr) (Q : VK), Inv X pins σ H s → RelV x v → s.heap.IsSliceOf sl vl vu .none → IsPart vl lo → IsPart vu hi → r x lo hi H Q →
    ∃ T id, typeLookup (.type T) "__getitem__" = pure (some (.builtin id)) ∧ s.TypeIs v T ∧ wpAny (model X.prog X.w) X.A (getItem v (.ref sl)) (EP X pins σ Q) X.xe s
theorem SlR.or {r r' : V → Option Int → Option Int → Hp → VK → Prop} (h : SlR X r) (h' : SlR X r') : SlR X (fun x lo hi H Q => r x lo hi H Q ∨ r' x lo hi H Q) := by
  intro pins s σ H x v vl vu lo hi sl Q I rx hs pl pu q
  rcases q with q | q
  · exact h pins s σ H x v vl vu lo hi sl Q I rx hs pl pu q
  · exact h' pins s σ H x v vl vu lo hi sl Q I rx hs pl pu q
def tSl (r : V → Option Int → Option Int → Hp → VK → Prop) (te : TE) (tl th : TO) : TE := fun σ H Q => te σ H fun x H1 => tl σ H1 fun l H2 => th σ H2 fun u H3 => r x l u H3 Q
/-- a[lo:hi], any a -/
theorem pe_slice {r : V → Option Int → Option Int → Hp → VK → Prop} (hr : SlR X r) (he : PE X e te) (hl : PO X lo tl) (hu : PO X hi th) : PE X (.Subscript e (.Slice lo hi none p2) pos) (tSl r te tl th) := by
  intro pins s σ H Q I h
  refine Subscript_ (thn (he pins s σ H _ I h) fun v s1 ⟨x, H1, I1, r1, q1⟩ => ?_)
  refine wpAny_Slice (thn (hl pins s1 σ H1 _ I1 q1) fun vl s2 ⟨l, H2, I2, pl, q2⟩ => thn (hu pins s2 σ H2 _ I2 q2) fun vu s3 ⟨u, H3, I3, pu, q3⟩ => ?_)
  rw [evalPart_none]
  refine wpAny_pure ?_
  have I4 : Inv X pins σ H3 { s3 with heap := s3.heap.push { cls := .type "slice", data := .fields #[vl, vu, .none] } } := I3.kept (t' := s3.toks) fun b ob q => Heap.get?_push_of_some _ q
  obtain ⟨T, id, hT, ht, hg⟩ := hr pins { s3 with heap := s3.heap.push { cls := .type "slice", data := .fields #[vl, vu, .none] } } σ H3 x v vl vu l u s3.heap.objs.size Q I4 r1 (Heap.IsSliceOf.new ..) pl pu q3
  show wpAny (model X.prog X.w) X.A (subscriptTail e (.Slice lo hi none p2) v (.ref s3.heap.objs.size)) (EP X pins σ Q) X.xe { s3 with heap := s3.heap.push { cls := .type "slice", data := .fields #[vl, vu, .none] } }
  exact tail_any (ops := [.ref s3.heap.objs.size, v]) ht hT hg (by with_unfolding_all rfl)

/-- the items of xs[lo:hi] -/
def cutV (xs : List V) (lo hi : Option Int) : List V := (xs.drop (HT.sIx xs.length 0 lo)).take (HT.sIx xs.length xs.length hi - HT.sIx xs.length 0 lo)
theorem cutV_length (xs : List V) (lo hi : Option Int) : (cutV xs lo hi).length ≤ xs.length := by
  unfold cutV
  rw [List.length_take, List.length_drop]
  omega
/-- t[lo:hi], not the whole of it (the whole would be t itself) -/
def rSlT (K : PySem.W.Frag) : V → Option Int → Option Int → Hp → VK → Prop := fun x lo hi H Q => ∃ a xs, x = .ref a ∧ SqT K H a xs ∧
  ¬ (HT.sIx xs.length 0 lo = 0 ∧ HT.sIx xs.length xs.length hi = xs.length) ∧ ∀ p, H p = none → Q (.ref p) (upd H p (.tup (cutV xs lo hi)))
theorem sl_tup : SlR X (rSlT X.K) := by
  intro pins s σ H x v vl vu lo hi sl Q I rx hs pl pu h
  obtain ⟨a, xs, rfl, hx, hw, q⟩ := h
  cases rx
  obtain ⟨its, r, ht, hz⟩ := I.tuple hx
  have hlen : its.toArray.size = xs.length := by rw [List.size_toArray]; exact r.length.symm
  refine ⟨"tuple", _, PyProof.Rows.slot_tuple_getitem.lookup, ht.typeIs, ?_⟩
  refine HT.getItem_tuple_cut ht hs pl pu (by rw [hlen]; exact hw) ?_ (by rw [hlen]; exact hz)
  rw [hlen]
  refine ⟨.ref s.heap.objs.size, _, I.laid (t' := s.toks) (o := .tup (cutV xs lo hi)) (fun b ob q => Heap.get?_push_of_some _ q) (Nat.le_refl _) ?_, rfl, q _ (I.hok.fresh (Nat.le_refl _))⟩
  exact ⟨Nat.le_trans (cutV_length xs lo hi) hz, _, (r.drop (HT.sIx xs.length 0 lo)).take (HT.sIx xs.length xs.length hi - HT.sIx xs.length 0 lo), IsTup.new _ _⟩

/-! ### t < u, t + u -/
def rLtT (K : PySem.W.Frag) : R2 := fun x y H Q => ∃ a b ns ms, x = .ref a ∧ y = .ref b ∧ SqT K H a (ns.map V.int) ∧ SqT K H b (ms.map V.int) ∧ Q (.bl (HT.lexLt ns ms)) H
theorem op_ltT (hu : X.A.units < cLine) : OpR X (compareOp .Lt) (rLtT X.K) := by
  intro pins s σ H x y v u Q I rx ry h
  obtain ⟨a, b, ns, ms, rfl, rfl, ha, hb, q⟩ := h
  cases rx
  cases ry
  obtain ⟨its, r1, p1, _⟩ := I.tuple ha
  obtain ⟨its2, r2, p2, _⟩ := I.tuple hb
  have i1 : IntsAre its.toArray.toList ns := intsAre_of r1
  have i2 : IntsAre its2.toArray.toList ms := intsAre_of r2
  exact HT.lt_tupInts p1 p2 i1 i2 hu ⟨.bl (HT.lexLt ns ms), H, I, rfl, q⟩
/-- t + u, t not empty: u empty gives t itself -/
def rCatT (K : PySem.W.Frag) : R2 := fun x y H Q => ∃ a b xs ys, x = .ref a ∧ y = .ref b ∧ SqT K H a xs ∧ SqT K H b ys ∧ xs ≠ [] ∧ xs.length + ys.length ≤ sizeLine ∧
  (ys = [] → Q (.ref a) H) ∧ (ys ≠ [] → ∀ p, H p = none → Q (.ref p) (upd H p (.tup (xs ++ ys))))
theorem Vals.nil_iff {xs : List V} {us : List Value} (r : Vals xs us) : us = [] ↔ xs = [] := by
  cases r with
  | nil => simp
  | cons _ _ => simp
theorem op_catT : OpR X (binaryOp .Add) (rCatT X.K) := by
  intro pins s σ H x y v u Q I rx ry h
  obtain ⟨a, b, xs, ys, rfl, rfl, ha, hb, hx, hz, q1, q2⟩ := h
  cases rx
  cases ry
  obtain ⟨its, r1, p1, _⟩ := I.tuple ha
  obtain ⟨its2, r2, p2, _⟩ := I.tuple hb
  refine HT.cat_tup p1 p2 (fun z => hx (r1.nil_iff.mp z)) (fun z => ⟨.ref a, H, I, rfl, q1 (r2.nil_iff.mp z)⟩) (fun z => ?_) (by rw [← r1.length, ← r2.length]; exact hz)
  refine ⟨.ref s.heap.objs.size, _, I.laid (t' := s.toks) (o := .tup (xs ++ ys)) (fun b ob q => Heap.get?_push_of_some _ q) (Nat.le_refl _) ?_, rfl, q2 (fun w => z (r2.nil_iff.mpr w)) _ (I.hok.fresh (Nat.le_refl _))⟩
  exact ⟨by rw [List.length_append]; exact hz, _, r1.append r2, IsTup.new _ _⟩
/-- tuple(t) -/
theorem call_tupleT : CallR X (.type "tuple") (fun xs H Q => ∃ a ys, xs = [.ref a] ∧ SqT X.K H a ys ∧ Q (.ref a) H) := by
  intro pins s σ H xs us Q I r h
  obtain ⟨a, ys, rfl, ha, q⟩ := h
  obtain ⟨u, rfl, ru⟩ := vals1 r
  cases ru
  obtain ⟨its, _, p1, _⟩ := I.tuple ha
  exact call_tuple_same (items := its.toArray) p1 ⟨.ref a, H, I, rfl, q⟩
end
end L2

namespace L2
open PySem PySem.Spec PyProof.Rows

/-! ### places -/
/-- the place that an index of any sign means -/
def ixN (n : Nat) (i : Int) : Option Nat := if 0 ≤ i then (if i < n then some i.toNat else none) else if -(n : Int) ≤ i then some (i + n).toNat else none
def atI {α : Type} (xs : List α) (i : Int) : Option α := (ixN xs.length i).bind fun j => xs[j]?
theorem ixN_seq {n : Nat} {i : Int} {j : Nat} (h : ixN n i = some j) : seqIndex? i n = some j ∧ j < n ∧ -(n : Int) ≤ i ∧ i < n := by
  unfold ixN at h
  by_cases h0 : 0 ≤ i
  · rw [if_pos h0] at h
    by_cases h1 : i < n
    · rw [if_pos h1] at h
      have e : i.toNat = j := Option.some.inj h
      exact ⟨by rw [seqIndex_of h0 h1, e], by omega, by omega, h1⟩
    · rw [if_neg h1] at h; cases h
  · rw [if_neg h0] at h
    by_cases h1 : -(n : Int) ≤ i
    · rw [if_pos h1] at h
      have e : (i + n).toNat = j := Option.some.inj h
      exact ⟨by rw [seqIndex_neg (by omega) h1, e], by omega, h1, by omega⟩
    · rw [if_neg h1] at h; cases h
theorem atI_get {α : Type} {xs : List α} {i : Int} {v : α} (h : atI xs i = some v) : ∃ j, seqIndex? i xs.length = some j ∧ xs[j]? = some v ∧ j < xs.length ∧ -(xs.length : Int) ≤ i ∧ i < xs.length := by
  unfold atI at h
  cases e : ixN xs.length i with
  | none => rw [e] at h; cases h
  | some j =>
    rw [e] at h
    obtain ⟨h1, h2, h3, h4⟩ := ixN_seq e
    exact ⟨j, h1, h, h2, h3, h4⟩
theorem atI_nat {α : Type} {xs : List α} {j : Nat} {v : α} (h : xs[j]? = some v) : atI xs (j : Int) = some v := by
  have hj : j < xs.length := (List.getElem?_eq_some_iff.mp h).1
  have e : ixN xs.length (j : Int) = some j := by
    unfold ixN
    rw [if_pos (by omega), if_pos (by omega)]; simp
  unfold atI; rw [e]; exact h
theorem atI_last {α : Type} (xs : List α) (v : α) : atI (xs ++ [v]) (-1) = some v := by
  have hl : (xs ++ [v]).length = xs.length + 1 := by simp
  have e : ixN (xs ++ [v]).length (-1) = some xs.length := by
    unfold ixN
    rw [hl, if_neg (by decide), if_pos (by omega)]
    congr 1
    omega
  unfold atI
  rw [e]
  show (xs ++ [v])[xs.length]? = some v
  simp

/-! ### what may be subscripted -/
/-- what stands as an index of a plain subscript -/
def PlainIx (b : Expr) : Prop := ∀ o i, subscripted b false o i = operate [o, i] (getItem o i)
/-- a subscript by values -/
def IxR (X : Cx) (r : R2) : Prop :=
  ∀ (value slice : Expr) (pins : List (Addr × Obj)) (s : Shared) (σ : St) (H : Hp) (x y : V) (v u : Value) (Q : VK), Inv X pins σ H s → RelV x v → RelV y u → r x y H Q →
    subscripted slice false v u = operate [v, u] (getItem v u) → wpAny (model X.prog X.w) X.A (subscriptTail value slice v u) (EP X pins σ Q) X.xe s
/-- a call of a builtin's method by values: the receiver, the arguments -/
def MtR (X : Cx) (id : String) (r : V → List V → Hp → VK → Prop) : Prop :=
  ∀ (pins : List (Addr × Obj)) (s : Shared) (σ : St) (H : Hp) (x : V) (xs : List V) (v : Value) (us : List Value) (Q : VK), Inv X pins σ H s → RelV x v → Vals xs us → r x xs H Q →
    wpAny (model X.prog X.w) X.A (call (.builtin id) (v :: us)) (EP X pins σ Q) X.xe s
section
variable {X : Cx} {a b : Expr} {ta tb : TE} {pos : Pos}
theorem IxR.or {r r' : R2} (h : IxR X r) (h' : IxR X r') : IxR X (fun x y H Q => r x y H Q ∨ r' x y H Q) := by
  intro value slice pins s σ H x y v u Q I rx ry q hs
  rcases q with q | q
  · exact h value slice pins s σ H x y v u Q I rx ry q hs
  · exact h' value slice pins s σ H x y v u Q I rx ry q hs
theorem MtR.or {id : String} {r r' : V → List V → Hp → VK → Prop} (h : MtR X id r) (h' : MtR X id r') : MtR X id (fun x xs H Q => r x xs H Q ∨ r' x xs H Q) := by
  intro pins s σ H x xs v us Q I rx rs q
  rcases q with q | q
  · exact h pins s σ H x xs v us Q I rx rs q
  · exact h' pins s σ H x xs v us Q I rx rs q
/-- a[b] -/
theorem pe_ix {r : R2} (hr : IxR X r) (ha : PE X a ta) (hb : PE X b tb) (hs : PlainIx b) : PE X (.Subscript a b pos) (tOp r ta tb) := by
  intro pins s σ H Q I h
  exact Subscript_ (binT ha hb I h fun v u s2 x y H2 I2 rx ry q => hr a b pins s2 σ H2 x y v u Q I2 rx ry q (hs _ _))

def rIxL (K : PySem.W.Frag) : R2 := fun x y H Q => ∃ p xs i v, x = .ref p ∧ y = .int i ∧ SqL K H p xs ∧ atI xs i = some v ∧ Q v H
def rIxT (K : PySem.W.Frag) : R2 := fun x y H Q => ∃ p xs i v, x = .ref p ∧ y = .int i ∧ SqT K H p xs ∧ atI xs i = some v ∧ Q v H
def rIxS : R2 := fun x y H Q => ∃ z i c, x = .str z ∧ y = .int i ∧ z.length ≤ sizeLine ∧ atI z.cps.toList i = some c ∧ Q (.str ⟨#[c]⟩) H
theorem ix_list : IxR X (rIxL X.K) := by
  intro value slice pins s σ H x y v u Q I rx ry h hs
  obtain ⟨p, xs, i, z, rfl, rfl, hq, he, q⟩ := h
  cases rx
  obtain ⟨t, rfl⟩ := ry
  obtain ⟨its, r, pl, hz⟩ := I.list hq
  obtain ⟨j, h1, h2, h3, h4, h5⟩ := atI_get he
  obtain ⟨w, ew, rw'⟩ := r.get h2
  have hl := r.length
  have hn := line63
  have fin : EP X pins σ Q w s := ⟨z, H, I, rw', q⟩
  by_cases h0 : 0 ≤ i
  · have hj : i.toNat = j := by
      rw [seqIndex_of h0 h5] at h1
      exact Option.some.inj h1
    exact item_listR pl.isList h0 (by omega) (by rw [hj]; simpa using ew) fin hs
  · have hj : (i + (its.toArray.size : Int)).toNat = j := by
      rw [seqIndex_neg (by omega) h4] at h1
      rw [List.size_toArray, ← hl]
      exact Option.some.inj h1
    exact subscriptTail_builtinR (x := w) pl.isList.typeIs slot_list_getitem.lookup
      (wpAny_getItem_list_neg (Q := fun r s' => r = w ∧ EP X pins σ Q r s') pl.isList (by omega) (by rw [List.size_toArray] <;> omega) (by omega) (by rw [hj]; simpa using ew) ⟨rfl, fin⟩) hs
theorem ix_tup : IxR X (rIxT X.K) := by
  intro value slice pins s σ H x y v u Q I rx ry h hs
  obtain ⟨p, xs, i, z, rfl, rfl, hq, he, q⟩ := h
  cases rx
  obtain ⟨t, rfl⟩ := ry
  obtain ⟨its, r, pl, hz⟩ := I.tuple hq
  obtain ⟨j, h1, h2, h3, h4, h5⟩ := atI_get he
  obtain ⟨w, ew, rw'⟩ := r.get h2
  have hl := r.length
  have hn := line63
  have fin : EP X pins σ Q w s := ⟨z, H, I, rw', q⟩
  exact subscriptTail_builtinR (x := w) pl.typeIs slot_tuple_getitem.lookup
    (getItem_tuple (j := j) (Q := fun r s' => r = w ∧ EP X pins σ Q r s') pl (by omega) (by omega) (by rw [List.size_toArray, ← hl]; exact h1) (by simpa using ew) ⟨rfl, fin⟩) hs
theorem ix_str : IxR X rIxS := by
  intro value slice pins s σ H x y v u Q I rx ry h hs
  obtain ⟨z, i, c, rfl, rfl, hz, he, q⟩ := h
  obtain ⟨t, rfl⟩ := rx
  obtain ⟨t', rfl⟩ := ry
  obtain ⟨j, h1, h2, h3, h4, h5⟩ := atI_get he
  have hl : z.cps.toList.length = z.length := by simp [Str.length]
  rw [hl] at h1 h4 h5
  have hn := line63
  exact tail_any (typeIs_str s z t) slot_str_getitem.lookup (getItem_str (c := c) (by
    have e1 : decide (i < -(2 ^ 63 : Int)) = false := decide_eq_false (by omega)
    have e2 : decide (i ≥ 2 ^ 63) = false := decide_eq_false (by omega)
    rw [e1, e2, Bool.or_false]) (by rw [h1]; simpa using h2) ⟨.str ⟨#[c]⟩, H, I.tok _, ⟨_, rfl⟩, q⟩) hs
/-- list, tuple or str -/
def rIx (K : PySem.W.Frag) : R2 := fun x y H Q => rIxL K x y H Q ∨ rIxT K x y H Q ∨ rIxS x y H Q
theorem ix_seq : IxR X (rIx X.K) := ix_list.or (ix_tup.or ix_str)

/-! ### xs[i] = v, any sign -/
/-- the list's object behind a store -/
theorem mapSeq_set (its : List Value) (n j : Nat) (u : Value) : Obj.mapSeq (·.setIfInBounds j u) { cls := .type "list", data := .seq its.toArray n } = { cls := .type "list", data := .seq (its.set j u).toArray n } := by
  simp [Obj.mapSeq]
theorem Inv.lst {pins : List (Addr × Obj)} {σ : St} {H : Hp} {s : Shared} {p : Addr} {xs : List V} (I : Inv X pins σ H s) (h : H p = some (.lst xs)) :
    ∃ (its : List Value) (n : Nat), Vals xs its ∧ s.heap.get? p = some { cls := .type "list", data := .seq its.toArray n } ∧ xs.length ≤ sizeLine := by
  obtain ⟨z, its, n, r, e⟩ := I.hok p _ h
  exact ⟨its, n, r, e, z⟩
/-- the list at p is written by an update of its object -/
theorem Inv.lstUpd {pins : List (Addr × Obj)} {σ : St} {H : Hp} {s : Shared} {p : Addr} {xs ys : List V} {its its' : List Value} {n n' : Nat} {f : Obj → Obj} (I : Inv X pins σ H s) (h : H p = some (.lst xs))
    (ho : s.heap.get? p = some { cls := .type "list", data := .seq its.toArray n }) (hf : f { cls := .type "list", data := .seq its.toArray n } = { cls := .type "list", data := .seq its'.toArray n' }) (r : Vals ys its') (hz : ys.length ≤ sizeLine) (t : Nat) :
    Inv X pins σ (upd H p (.lst ys)) { s with heap := s.heap.update p f, toks := t } := by
  have e : (s.heap.update p f).get? p = some { cls := .type "list", data := .seq its'.toArray n' } := by
    rw [Heap.get?_update_self f ho (by rw [hf] <;> rfl), hf]
  refine I.write (x := p) (e := p) (by rw [h]; trivial) (.inl rfl) (fun b u hb q => (Heap.get?_update_other _ _ (Ne.symm hb)).trans q) ⟨_, e⟩ ?_
  exact ⟨hz, its', n', r, e⟩
def rSetL : V → V → V → Hp → (Hp → Prop) → Prop := fun o i v H Q => ∃ p xs k j, o = .ref p ∧ i = .int k ∧ H p = some (.lst xs) ∧ ixN xs.length k = some j ∧ Q (upd H p (.lst (xs.set j v)))
theorem set_list : PSet X rSetL := by
  intro pins s σ H o i v ov iv u Q I ro ri rv h
  obtain ⟨p, xs, k, j, rfl, rfl, hp, hj, q⟩ := h
  cases ro
  obtain ⟨t, rfl⟩ := ri
  obtain ⟨its, n, r, ho, hz⟩ := I.lst hp
  obtain ⟨h1, h2, h3, h4⟩ := ixN_seq hj
  have hl := r.length
  have hn := line63
  have I' : Inv X pins σ (upd H p (.lst (xs.set j v))) { s with heap := s.heap.update p (Obj.mapSeq (·.setIfInBounds j u)) } :=
    I.lstUpd hp ho (mapSeq_set its n j u) (r.set rv j) (by rw [List.length_set]; exact hz) s.toks
  by_cases h0 : 0 ≤ k
  · have hk : k.toNat = j := by
      rw [seqIndex_of h0 h4] at h1
      exact Option.some.inj h1
    exact PySem.W.ki_setAt ho h0 (by omega) (by rw [List.size_toArray, ← hl]; exact h4) (by rw [hk]; exact ⟨_, I', q⟩)
  · have hk : (k + (its.toArray.size : Int)).toNat = j := by
      rw [seqIndex_neg (by omega) h3] at h1
      rw [List.size_toArray, ← hl]
      exact Option.some.inj h1
    exact PySem.W.ki_setBack ho (by omega) (by rw [List.size_toArray, ← hl]; exact h3) (by omega) (by rw [hk]; exact ⟨_, I', q⟩)

/-! ### slices -/
theorem slice_bounds (lo hi : Option Int) (n : Nat) : (sliceBounds lo hi none n).1 = ((HT.sIx n 0 lo : Nat) : Int) ∧ (sliceBounds lo hi none n).2.1 = ((HT.sIx n n hi : Nat) : Int) ∧ (sliceBounds lo hi none n).2.2 = 1 := by
  refine ⟨?_, ?_, rfl⟩
  · cases lo with
    | none => simp [sliceBounds, HT.sIx]
    | some i =>
      simp only [sliceBounds, HT.sIx, Option.getD_none, show (1 : Int) > 0 by decide, if_true]
      by_cases h : i < 0
      · simp only [h, if_true] <;> omega
      · simp only [h, if_false] <;> omega
  · cases hi with
    | none => simp [sliceBounds, HT.sIx]
    | some i =>
      simp only [sliceBounds, HT.sIx, Option.getD_none, show (1 : Int) > 0 by decide, if_true]
      by_cases h : i < 0
      · simp only [h, if_true] <;> omega
      · simp only [h, if_false] <;> omega
theorem slicePick_cut (its : List Value) (lo hi : Option Int) : slicePick its.toArray lo hi none = ((its.drop (HT.sIx its.length 0 lo)).take (HT.sIx its.length its.length hi - HT.sIx its.length 0 lo)).toArray := by
  obtain ⟨h1, h2, h3⟩ := slice_bounds lo hi its.toArray.size
  unfold slicePick
  rw [h1, h2, h3]
  simp only [sliceRange_one, pick_run, List.size_toArray] <;> rfl
/-- xs[lo:hi] of a list: a new list -/
def rSlL (K : PySem.W.Frag) : V → Option Int → Option Int → Hp → VK → Prop := fun x lo hi H Q => ∃ a xs, x = .ref a ∧ SqL K H a xs ∧ ∀ p, H p = none → Q (.ref p) (upd H p (.lst (cutV xs lo hi)))
theorem sl_list : SlR X (rSlL X.K) := by
  intro pins s σ H x v vl vu lo hi sl Q I rx hs pl pu h
  obtain ⟨a, xs, rfl, hx, q⟩ := h
  cases rx
  obtain ⟨its, r, ht, hz⟩ := I.list hx
  have hlen := r.length
  refine ⟨"list", _, slot_list_getitem.lookup, ht.isList.typeIs, ?_⟩
  refine wpAny_getItem_list_slice ht.isList hs pl pu .none (by simp) ?_ (by rw [List.size_toArray] <;> omega)
  rw [slicePick_cut, ← hlen]
  refine ⟨.ref s.heap.objs.size, _, I.laid (t' := s.toks) (o := .lst (cutV xs lo hi)) (fun b ob q => Heap.get?_push_of_some _ q) (Nat.le_refl _) ?_, rfl, q _ (I.hok.fresh (Nat.le_refl _))⟩
  exact ⟨Nat.le_trans (cutV_length xs lo hi) hz, _, 0, (r.drop (HT.sIx xs.length 0 lo)).take (HT.sIx xs.length xs.length hi - HT.sIx xs.length 0 lo), Heap.get?_push_size _ rfl⟩

/-! ### in, not in: flat items -/
def flatV : V → Bool
  | .non => true
  | .bl _ => true
  | .int _ => true
  | .str _ => true
  | _ => false
/-- == of flat values -/
def eqV : V → V → Bool
  | .non, .non => true
  | .bl a, .bl b => a == b
  | .bl a, .int b => (if a then 1 else 0) == b
  | .int a, .bl b => a == (if b then 1 else 0)
  | .int a, .int b => a == b
  | .str a, .str b => a == b
  | _, _ => false
theorem eqAt_V {A : Around} {s : Shared} {y x : V} {u v : Value} (ry : RelV y u) (rx : RelV x v) (fy : flatV y = true) (fx : flatV x = true) : SeqAt.EqAt A s u v (eqV y x) := by
  cases y with
  | non =>
    cases ry
    cases x with
    | non => cases rx; exact SeqAt.EqAt.same _
    | bl b => cases rx; exact SeqAt.EqAt.none_bool b
    | int b => obtain ⟨t, rfl⟩ := rx; exact SeqAt.EqAt.none_int b t
    | str b => obtain ⟨t, rfl⟩ := rx; exact SeqAt.EqAt.none_str b t
    | _ => exact absurd (show false = true from fx) Bool.false_ne_true
  | bl a =>
    cases ry
    cases x with
    | non => cases rx; exact SeqAt.EqAt.bool_none a
    | bl b => cases rx; exact SeqAt.EqAt.bool_bool a b
    | int b => obtain ⟨t, rfl⟩ := rx; exact SeqAt.EqAt.bool_int a b t
    | str b => obtain ⟨t, rfl⟩ := rx; exact SeqAt.EqAt.bool_str a b t
    | _ => exact absurd (show false = true from fx) Bool.false_ne_true
  | int a =>
    obtain ⟨t', rfl⟩ := ry
    cases x with
    | non => cases rx; exact SeqAt.EqAt.int_none a t'
    | bl b => cases rx; exact SeqAt.EqAt.int_bool a t' b
    | int b => obtain ⟨t, rfl⟩ := rx; exact SeqAt.EqAt.int_int a t' b t
    | str b => obtain ⟨t, rfl⟩ := rx; exact SeqAt.EqAt.int_str a t' b t
    | _ => exact absurd (show false = true from fx) Bool.false_ne_true
  | str a =>
    obtain ⟨t', rfl⟩ := ry
    cases x with
    | non => cases rx; exact SeqAt.EqAt.str_none a t'
    | bl b => cases rx; exact SeqAt.EqAt.str_bool a t' b
    | int b => obtain ⟨t, rfl⟩ := rx; exact SeqAt.EqAt.str_int a t' b t
    | str b => obtain ⟨t, rfl⟩ := rx; exact SeqAt.EqAt.str_str a t' b t
    | _ => exact absurd (show false = true from fx) Bool.false_ne_true
  | _ => exact absurd (show false = true from fy) Bool.false_ne_true
/-- the items' answers, read off the values (a value's own answer does not lean on its token) -/
def eqU (x : V) (u : Value) : Bool := match u with
  | .none => eqV .non x
  | .bool b => eqV (.bl b) x
  | .int i _ => eqV (.int i) x
  | .str z _ => eqV (.str z) x
  | _ => false
theorem eqU_of {x y : V} {u : Value} (r : RelV y u) (f : flatV y = true) : eqU x u = eqV y x := by
  cases y with
  | non => cases r; rfl
  | bl b => cases r; rfl
  | int i => obtain ⟨t, rfl⟩ := r; rfl
  | str z => obtain ⟨t, rfl⟩ := r; rfl
  | _ => exact absurd (show false = true from f) Bool.false_ne_true
theorem any_eqU {x : V} : ∀ {xs : List V} {us : List Value}, Vals xs us → xs.all flatV = true → us.any (eqU x) = xs.any fun y => eqV y x
  | _, _, .nil, _ => rfl
  | y :: xs, u :: us, .cons r t, f => by
    rw [List.all_cons, Bool.and_eq_true] at f
    rw [List.any_cons, List.any_cons, eqU_of r f.1, any_eqU t f.2]
theorem mem_eqAt {A : Around} {s : Shared} {x : V} {v : Value} (rx : RelV x v) (fx : flatV x = true) : ∀ {xs : List V} {us : List Value}, Vals xs us → xs.all flatV = true → ∀ u ∈ us, SeqAt.EqAt A s u v (eqU x u)
  | _, _, .nil, _ => fun u hu => by cases hu
  | y :: xs, u :: us, .cons r t, f => fun u' hu => by
    rw [List.all_cons, Bool.and_eq_true] at f
    rcases List.mem_cons.mp hu with rfl | hu
    · rw [eqU_of r f.1]; exact eqAt_V r rx f.1 fx
    · exact mem_eqAt rx fx t f.2 u' hu
def inV (x : V) (xs : List V) : Bool := xs.any fun y => eqV y x
/-- x in a list or tuple of flat items -/
def rIn (K : PySem.W.Frag) (neg : Bool) : R2 := fun x y H Q => ∃ p xs, y = .ref p ∧ (SqL K H p xs ∨ SqT K H p xs) ∧ flatV x = true ∧ xs.all flatV = true ∧ Q (.bl (if neg then !inV x xs else inV x xs)) H
theorem op_in_seq : OpR X (compareOp .In) (rIn X.K false) := by
  intro pins s σ H x y v u Q I rx ry h
  obtain ⟨p, xs, rfl, hq, fx, fs, q⟩ := h
  cases ry
  rcases hq with hq | hq
  · obtain ⟨its, r, pl, hz⟩ := I.list hq
    refine SeqAt.in_listAt (eqU x) pl.isList (fun w hw => mem_eqAt rx fx r fs w (by simpa using hw)) ⟨.bl _, H, I, rfl, ?_⟩
    rw [show its.toArray.any (eqU x) = its.any (eqU x) by simp, any_eqU r fs]
    exact q
  · obtain ⟨its, r, pl, hz⟩ := I.tuple hq
    refine SeqAt.in_tupleAt (eqU x) pl (fun w hw => mem_eqAt rx fx r fs w (by simpa using hw)) ⟨.bl _, H, I, rfl, ?_⟩
    rw [show its.toArray.any (eqU x) = its.any (eqU x) by simp, any_eqU r fs]
    exact q
theorem op_notIn_seq : OpR X (compareOp .NotIn) (rIn X.K true) := by
  intro pins s σ H x y v u Q I rx ry h
  obtain ⟨p, xs, rfl, hq, fx, fs, q⟩ := h
  cases ry
  rcases hq with hq | hq
  · obtain ⟨its, r, pl, hz⟩ := I.list hq
    refine SeqAt.notIn_listAt (eqU x) pl.isList (fun w hw => mem_eqAt rx fx r fs w (by simpa using hw)) ⟨.bl _, H, I, rfl, ?_⟩
    rw [show its.toArray.any (eqU x) = its.any (eqU x) by simp, any_eqU r fs]
    exact q
  · obtain ⟨its, r, pl, hz⟩ := I.tuple hq
    refine SeqAt.notIn_tupleAt (eqU x) pl (fun w hw => mem_eqAt rx fx r fs w (by simpa using hw)) ⟨.bl _, H, I, rfl, ?_⟩
    rw [show its.toArray.any (eqU x) = its.any (eqU x) by simp, any_eqU r fs]
    exact q
theorem op_notIn_str : OpR X (compareOp .NotIn) (fun x y H Q => ∃ i j, x = .str i ∧ y = .str j ∧ Q (.bl (!(!(Builtin.Str.occurrences j i 0 j.length 1).isEmpty))) H) := by
  intro pins s σ H x y v u Q I rx ry h
  obtain ⟨i, j, rfl, rfl, q⟩ := h
  obtain ⟨t, rfl⟩ := rx
  obtain ⟨t', rfl⟩ := ry
  exact notIn_str ⟨.bl _, H, I, rfl, q⟩

/-! ### len, list(x), tuple(x) of any list or tuple that is read -/
theorem call_len_seq : CallR X (.builtin "len") (fun xs H Q => ∃ p ys, xs = [.ref p] ∧ (SqL X.K H p ys ∨ SqT X.K H p ys) ∧ Q (.int ys.length) H) := by
  intro pins s σ H xs us Q I r h
  obtain ⟨p, ys, rfl, hq, q⟩ := h
  obtain ⟨u, rfl, rx⟩ := vals1 r
  cases rx
  have hn := line63
  rcases hq with hq | hq
  · obtain ⟨its, r', pl, hz⟩ := I.list hq
    have hlen := r'.length
    exact Calls.call_len_list pl.isList (by simp only [List.size_toArray] <;> omega) ⟨.int ys.length, H, I.tok _, ⟨s.toks + 1, by rw [List.size_toArray, hlen]⟩, q⟩
  · obtain ⟨its, r', pl, hz⟩ := I.tuple hq
    have hlen := r'.length
    exact len_tuple pl (by simp only [List.size_toArray] <;> omega) ⟨.int ys.length, H, I.tok _, ⟨s.toks + 1, by rw [List.size_toArray, hlen]⟩, q⟩
theorem call_len_str : CallR X (.builtin "len") (fun xs H Q => ∃ z, xs = [.str z] ∧ z.length ≤ sizeLine ∧ Q (.int z.length) H) := by
  intro pins s σ H xs us Q I r h
  obtain ⟨z, rfl, hz, q⟩ := h
  obtain ⟨u, rfl, t, rfl⟩ := vals1 r
  have hn := line63
  exact len_str (by omega) ⟨.int z.length, H, I.tok _, ⟨_, rfl⟩, q⟩
theorem CallR.or {f : Value} {r r' : List V → Hp → VK → Prop} (h : CallR X f r) (h' : CallR X f r') : CallR X f (fun xs H Q => r xs H Q ∨ r' xs H Q) := by
  intro pins s σ H xs us Q I rs q
  rcases q with q | q
  · exact h pins s σ H xs us Q I rs q
  · exact h' pins s σ H xs us Q I rs q
theorem call_list_of : CallR X (.type "list") (fun xs H Q => ∃ p ys, xs = [.ref p] ∧ (SqL X.K H p ys ∨ SqT X.K H p ys) ∧ ∀ l, H l = none → Q (.ref l) (upd H l (.lst ys))) := by
  intro pins s σ H xs us Q I r h
  obtain ⟨p, ys, rfl, hq, q⟩ := h
  obtain ⟨u, rfl, rx⟩ := vals1 r
  cases rx
  have fin : ∀ (its : List Value), Vals ys its → ys.length ≤ sizeLine → ∀ (h' : Heap) (c' : Nat), (∀ b o', s.heap.get? b = some o' → h'.get? b = some o') →
      h'.get? s.heap.objs.size = some { cls := .type "list", dict := none, data := .seq its.toArray c', slots := #[] } → EP X pins σ Q (.ref s.heap.objs.size) { s with heap := h' } := fun its r' hz h' c' kp e =>
    ⟨.ref s.heap.objs.size, _, I.laid (t' := s.toks) kp (Nat.le_refl _) (show ObjOk X.prog X.w _ h' _ (.lst ys) from ⟨hz, its, c', r', e⟩), rfl, q _ (I.hok.fresh (Nat.le_refl _))⟩
  rcases hq with hq | hq
  · obtain ⟨its, r', pl, hz⟩ := I.list hq
    have hlen := r'.length
    obtain ⟨o, ho, hc, n, hd⟩ := pl.isList
    exact call_list_seq p (.inl rfl) ho hc hd (fun h' c' kp e => fin its r' hz h' c' kp e) (by simp only [List.size_toArray] <;> omega)
  · obtain ⟨its, r', pl, hz⟩ := I.tuple hq
    have hlen := r'.length
    obtain ⟨o, ho, hc, n, hd⟩ := pl
    exact call_list_seq p (.inr rfl) ho hc hd (fun h' c' kp e => fin its r' hz h' c' kp e) (by simp only [List.size_toArray] <;> omega)
theorem call_tuple_of : CallR X (.type "tuple") (fun xs H Q => ∃ p ys, xs = [.ref p] ∧ ((SqL X.K H p ys ∧ ∀ l, H l = none → Q (.ref l) (upd H l (.tup ys))) ∨ (SqT X.K H p ys ∧ Q (.ref p) H))) := by
  intro pins s σ H xs us Q I r h
  obtain ⟨p, ys, rfl, h⟩ := h
  obtain ⟨u, rfl, rx⟩ := vals1 r
  cases rx
  rcases h with ⟨hq, q⟩ | ⟨hq, q⟩
  · obtain ⟨its, r', pl, hz⟩ := I.list hq
    have hlen := r'.length
    refine call_tuple_list pl.isList (fun h' kp => ?_) (by simp only [List.size_toArray] <;> omega)
    have I1 : Inv X pins σ H { s with heap := h' } := I.kept (t' := s.toks) kp
    have I2 : Inv X pins σ (upd H h'.objs.size (.tup ys)) { s with heap := h'.push { cls := .type "tuple", data := .seq its.toArray } } :=
      I1.laid (t' := s.toks) (fun b o e => Heap.get?_push_of_some _ e) (Nat.le_refl _) (show ObjOk X.prog X.w _ _ _ (.tup ys) from ⟨hz, its, r', IsTup.new _ _⟩)
    exact ⟨.ref h'.objs.size, _, I2, rfl, q _ (I1.hok.fresh (Nat.le_refl _))⟩
  · obtain ⟨its, r', pl, hz⟩ := I.tuple hq
    exact call_tuple_same pl ⟨.ref p, H, I, rfl, q⟩

/-! ### the call of a builtin's method: o.m(..) -/
/-- the value is of that builtin type -/
def tyV (K : PySem.W.Frag) (T : String) (x : V) (H : Hp) : Prop := match x with
  | .str _ => T = "str"
  | .int _ => T = "int"
  | .ref p => (T = "list" ∧ ∃ xs, SqL K H p xs) ∨ (T = "tuple" ∧ ∃ o, K.lookup p = some o ∧ o.cls = .type "tuple" ∧ o.dict = none) ∨
      (T = "dict" ∧ ((∃ kvs, H p = some (.dK kvs)) ∨ ∃ kvs, H p = some (.dT kvs))) ∨ (T = "set" ∧ ∃ S n, H p = some (.set S n))
  | _ => False
theorem tyV_is {pins : List (Addr × Obj)} {σ : St} {H : Hp} {s : Shared} {T : String} {x : V} {v : Value} (I : Inv X pins σ H s) (r : RelV x v) (ty : tyV X.K T x H) :
    s.TypeIs v T ∧ ∀ a, v = .ref a → ∃ ob, s.heap.get? a = some ob ∧ ob.dict = none := by
  cases x with
  | str z =>
    obtain ⟨t, rfl⟩ := r
    cases (show T = "str" from ty)
    exact ⟨typeIs_str s z t, fun _ e => nomatch e⟩
  | int i =>
    obtain ⟨t, rfl⟩ := r
    cases (show T = "int" from ty)
    exact ⟨typeIs_int s i t, fun _ e => nomatch e⟩
  | ref p =>
    cases r
    rcases ty with ⟨rfl, xs, hq⟩ | ⟨rfl, o, hk, hc, hd⟩ | ⟨rfl, hk⟩ | ⟨rfl, S, n, hk⟩
    · obtain ⟨its, _, pl, _⟩ := I.list hq
      refine ⟨pl.isList.typeIs, fun a e => ?_⟩
      cases e
      obtain ⟨o, n, e, c, hd, _⟩ := pl
      exact ⟨o, e, hd⟩
    · refine ⟨⟨o, I.kIn p o hk, hc⟩, fun a e => ?_⟩
      cases e
      exact ⟨o, I.kIn _ o hk, hd⟩
    · have z : ∃ o, s.heap.get? p = some o ∧ o.ExactDict := by
        rcases hk with ⟨kvs, hk⟩ | ⟨kvs, hk⟩
        · obtain ⟨_, _, _, _, o, _, _, e, ex, _⟩ := I.hok p _ hk
          exact ⟨o, e, ex⟩
        · obtain ⟨_, _, _, _, o, _, _, e, ex, _⟩ := I.hok p _ hk
          exact ⟨o, e, ex⟩
      obtain ⟨o, e, ex⟩ := z
      refine ⟨⟨o, e, ex.1⟩, fun a e2 => ?_⟩
      cases e2
      exact ⟨o, e, ex.2.1⟩
    · obtain ⟨o, _, _, _, e, ex, _⟩ := I.hok p _ hk
      refine ⟨⟨o, e, ex.1⟩, fun a e2 => ?_⟩
      cases e2
      exact ⟨o, e, ex.2.1⟩
  | _ => exact False.elim ty
def tBM0 (K : PySem.W.Frag) (T : String) (r : V → List V → Hp → VK → Prop) (to : TE) : TE := fun σ H Q => to σ H fun x H1 => tyV K T x H1 ∧ r x [] H1 Q
def tBM (K : PySem.W.Frag) (T : String) (r : V → List V → Hp → VK → Prop) (to : TE) (t : TA) : TE := fun σ H Q => to σ H fun x H1 => tyV K T x H1 ∧ t σ H1 fun xs H2 => r x xs H2 Q
variable {o e : Expr} {es : List Expr} {to : TE} {t : TA} {name : Str} {apos cpos : Pos} {T id : String} {r : V → List V → Hp → VK → Prop}
theorem pe_bm0 (pa : PlainAttrs T) (slot : Slot T name id) (hty : typeOf (.builtin id) = pure (.type "method_descriptor")) (hm : MtR X id r) (ho : PE X o to)
    (hbase : attributeBase o name X.env (eval o X.env) = eval o X.env := by rfl) (hline : (apos.endLine == cpos.line) = true := by rfl) : PE X (.Call (.Attribute o name apos) [] [] cpos) (tBM0 X.K T r to) := by
  intro pins s σ H Q I h
  refine wpAny_Call_method0_late hbase hline (thn (ho pins s σ H _ I h) fun v s1 ⟨x, H1, I1, r1, ty, q1⟩ => ?_)
  obtain ⟨h1, h2⟩ := tyV_is I1 r1 ty
  exact ⟨T, id, pa, slot, hty, h1, h2, Calls.callWith_builtin rfl (PySem.evalArgs_none (hm pins s1 σ H1 x [] v [] Q I1 r1 .nil q1))⟩
theorem pe_bm (pa : PlainAttrs T) (slot : Slot T name id) (hty : typeOf (.builtin id) = pure (.type "method_descriptor")) (hm : MtR X id r) (ho : PE X o to) (ha : PA X (e :: es) t)
    (hbase : attributeBase o name X.env (eval o X.env) = eval o X.env := by rfl)
    (hfew : ((backTo cpos (starEach (e :: es) X.env)).all (fun x => !x.1) && (backToKw cpos (keywordEach [] X.env)).all (fun x => x.1.isSome)
      && decide ((e :: es).length + ([] : List Keyword).length + (if ([] : List Keyword).isEmpty then 0 else 1) < 30)) = true := by rfl)
    (hline : (apos.endLine == cpos.line) = true := by rfl) (hs : starEach (e :: es) X.env = (false, eval e X.env) :: starEach es X.env := by rfl) (hplain : (backTo cpos (starEach es X.env)).any (·.1) = false := by rfl) :
    PE X (.Call (.Attribute o name apos) (e :: es) [] cpos) (tBM X.K T r to t) := by
  intro pins s σ H Q I h
  refine wpAny_Call_method_late hbase hfew hline rfl (thn (ho pins s σ H _ I h) fun v s1 ⟨x, H1, I1, r1, ty, q1⟩ => ?_)
  obtain ⟨h1, h2⟩ := tyV_is I1 r1 ty
  refine ⟨T, id, pa, slot, hty, h1, h2, ?_⟩
  have hA := ha cpos pins s1 σ H1 _ I1 q1
  rw [hs] at hA ⊢
  refine Calls.callWith_builtin (by show (false || (backTo cpos (starEach es X.env)).any (·.1)) = false; rw [hplain] <;> rfl) (Calls.evalArgs_plain ?_)
  exact thn hA fun us s2 ⟨vs, H2, I2, r2, q2⟩ => hm pins s2 σ H2 x vs v us Q I2 r1 r2 q2
/- xs.append(e), list.index on a module's tuple .. are MtR facts of 06m -/
end
end L2

namespace L2
open PySem PySem.Spec PyProof.Rows

def MtM (X : Cx) (id : String) (r : V → List V → Hp → VK → Prop) : Prop :=
  ∀ (pins : List (Addr × Obj)) (s : Shared) (σ : St) (H : Hp) (x : V) (xs : List V) (v : Value) (us : List Value) (Q : VK), Inv X pins σ H s → RelV x v → Vals xs us → r x xs H Q →
    wpAny (model X.prog X.w) X.A (call (.builtin id) (v :: us)) (EP X pins σ Q) X.xe s

/-! ### lists of values -/
theorem Vals.one : ∀ {x : V} {us : List Value}, Vals [x] us → ∃ u, us = [u] ∧ RelV x u
  | _, _, .cons r .nil => ⟨_, rfl, r⟩
theorem Vals.two : ∀ {x y : V} {us : List Value}, Vals [x, y] us → ∃ u v, us = [u, v] ∧ RelV x u ∧ RelV y v
  | _, _, _, .cons r (.cons q .nil) => ⟨_, _, rfl, r, q⟩
theorem Vals.zero : ∀ {us : List Value}, Vals [] us → us = []
  | _, .nil => rfl
theorem Vals.dropLast {xs : List V} {us : List Value} (h : Vals xs us) : Vals xs.dropLast us.dropLast := by
  induction h with
  | nil => exact .nil
  | cons r t ih =>
    cases t with
    | nil => exact .nil
    | cons q t' => exact .cons r ih
theorem Vals.eraseIdx : ∀ {xs : List V} {us : List Value} (i : Nat), Vals xs us → Vals (xs.eraseIdx i) (us.eraseIdx i)
  | _, _, _, .nil => .nil
  | _, _, 0, .cons _ t => t
  | _, _, i + 1, .cons r t => .cons r (Vals.eraseIdx i t)
theorem Vals.reverse {xs : List V} {us : List Value} (h : Vals xs us) : Vals xs.reverse us.reverse := by
  induction h with
  | nil => exact .nil
  | cons r t ih => rw [List.reverse_cons, List.reverse_cons]; exact Vals.append ih (.cons r .nil)
theorem Vals.rep {xs : List V} {us : List Value} (h : Vals xs us) : ∀ k : Nat, Vals (List.replicate k xs).flatten (List.replicate k us).flatten
  | 0 => .nil
  | k + 1 => by
    rw [List.replicate_succ, List.replicate_succ, List.flatten_cons, List.flatten_cons]
    exact Vals.append h (Vals.rep h k)
theorem erase_last {α : Type} (l : List α) : l.eraseIdx (l.length - 1) = l.dropLast := by
  induction l with
  | nil => rfl
  | cons a r ih =>
    cases r with
    | nil => rfl
    | cons b r =>
      have e : (a :: b :: r).length - 1 = ((b :: r).length - 1) + 1 := by
        have h1 : (a :: b :: r).length = r.length + 2 := rfl
        have h2 : (b :: r).length = r.length + 1 := rfl
        omega
      rw [e, List.eraseIdx_cons_succ, ih]
      all_goals rfl
theorem len_erase {α : Type} : ∀ (l : List α) (i : Nat), (l.eraseIdx i).length ≤ l.length
  | [], _ => Nat.le_refl _
  | _ :: _, 0 => Nat.le_succ _
  | _ :: r, i + 1 => Nat.succ_le_succ (len_erase r i)
theorem foldl_rep (its : List Value) : ∀ (k : Nat) (acc : List Value),
    List.foldl (fun x1 x2 => x1 ++ x2) acc.toArray (List.replicate k its.toArray) = (acc ++ (List.replicate k its).flatten).toArray
  | 0, acc => by simp
  | k + 1, acc => by
    have e : acc.toArray ++ its.toArray = (acc ++ its).toArray := by simp
    have e2 : (acc ++ its) ++ (List.replicate k its).flatten = acc ++ (List.replicate (k + 1) its).flatten := by
      rw [List.replicate_succ, List.flatten_cons, List.append_assoc]
    rw [← e2, ← foldl_rep its k (acc ++ its), ← e, List.replicate_succ, List.foldl_cons]

section
variable {X : Cx} {pins : List (Addr × Obj)} {σ : St} {H : Hp} {s : Shared} {l b : Addr} {xs ys zs : List V}

/-! ### the two steps: a tracked list is rewritten, a new list is laid -/
theorem Inv.lset {its its' : List Value} {n : Nat} {f : Array Value → Array Value} {t' : Nat} (I : Inv X pins σ H s) (hH : H l = some (.lst xs))
    (e : s.heap.get? l = some { cls := .type "list", data := .seq its.toArray n }) (hf : f its.toArray = its'.toArray) (hv : Vals ys its') (hz : ys.length ≤ sizeLine) :
    Inv X pins σ (upd H l (.lst ys)) { s with heap := s.heap.update l (Obj.mapSeq f), toks := t' } := by
  have q := PySem.IsL.update e f
  rw [hf] at q
  refine I.write (x := l) (e := l) (by rw [hH]; exact trivial) (.inl rfl) (fun b' u hb hu => (Heap.get?_update_other s.heap (Obj.mapSeq f) (Ne.symm hb)).trans hu) ⟨_, q⟩ ?_
  exact ⟨hz, its', _, hv, q⟩
theorem Inv.lnew {its : List Value} {t' : Nat} (I : Inv X pins σ H s) (hv : Vals ys its) (hz : ys.length ≤ sizeLine) :
    Inv X pins σ (upd H s.heap.objs.size (.lst ys)) { s with heap := s.heap.push { cls := .type "list", data := .seq its.toArray }, toks := t' } :=
  I.laid (fun _ _ q => Heap.get?_push_of_some _ q) (Nat.le_refl _) ⟨hz, its, 0, hv, Heap.get?_push_size _ rfl⟩
theorem Inv.fresh (I : Inv X pins σ H s) : H s.heap.objs.size = none := I.hok.fresh (Nat.le_refl _)
theorem Inv.lstM (I : Inv X pins σ H s) (hH : H l = some (.lst xs)) : xs.length ≤ sizeLine ∧ ∃ (its : List Value) (n : Nat), Vals xs its ∧ xs.length = its.length ∧ s.heap.get? l = some { cls := .type "list", data := .seq its.toArray n } := by
  obtain ⟨z, its, n, r, e⟩ := I.hok l _ hH
  exact ⟨z, its, n, r, r.length, e⟩

theorem notLongL {n : Nat} (h : n ≤ sizeLine) : Builtin.List.listTooLong n = false := by
  unfold Builtin.List.listTooLong
  exact decide_eq_false (by omega)
end

section
variable {X : Cx}

/-! ### methods -/
def rAppend : V → List V → Hp → VK → Prop := fun x vs H Q => ∃ l xs y, x = .ref l ∧ vs = [y] ∧ H l = some (.lst xs) ∧ xs.length < sizeLine ∧ Q .non (upd H l (.lst (xs ++ [y])))
theorem mt_append : MtM X "list.append" rAppend := by
  intro pins s σ H x vs v us Q I rx rv h
  obtain ⟨l, xs, y, rfl, rfl, hH, hz, q⟩ := h
  cases rx
  obtain ⟨u, rfl, ru⟩ := rv.one
  obtain ⟨z, its, n, r, hl, e⟩ := I.lstM hH
  refine call_meets F.slot_list_append ⟨_, e, rfl⟩ F.entry_list_append (F.args_list_append_2 _ _) (PySem.list_append l its.toArray n u (by rw [List.size_toArray]; omega)) ⟨e, ?_⟩
  refine ⟨.non, _, I.lset (its' := its ++ [u]) hH e (by simp) (r.append (.cons ru .nil)) ?_, rfl, q⟩
  rw [List.length_append, List.length_singleton]
  omega

def rExtend : V → List V → Hp → VK → Prop := fun x vs H Q => ∃ l b xs zs, x = .ref l ∧ vs = [.ref b] ∧ H l = some (.lst xs) ∧ H b = some (.lst zs) ∧ xs.length + zs.length ≤ sizeLine ∧ Q .non (upd H l (.lst (xs ++ zs)))
theorem mt_extend : MtM X "list.extend" rExtend := by
  intro pins s σ H x vs v us Q I rx rv h
  obtain ⟨l, b, xs, zs, rfl, rfl, hH, hB, hz, q⟩ := h
  cases rx
  obtain ⟨u, rfl, ru⟩ := rv.one
  cases ru
  obtain ⟨z, its, n, r, hl, e⟩ := I.lstM hH
  obtain ⟨z2, its2, n2, r2, hl2, e2⟩ := I.lstM hB
  have hsz : its.toArray.size + its2.toArray.size ≤ sizeLine := by rw [List.size_toArray, List.size_toArray]; omega
  have hlong : ¬ (!its.toArray.isEmpty && Builtin.List.listTooLong (its.toArray.size + its2.toArray.size)) = true := by
    rw [notLongL hsz, Bool.and_false]
    exact Bool.false_ne_true
  refine call_meets F.slot_list_extend ⟨_, e, rfl⟩ F.entry_list_extend (F.args_list_extend_2 _ _)
    (AutoSeq1.list_extend_list_list_0 l its.toArray n b its2.toArray n2 hlong (by rw [List.size_toArray]; omega) (by omega)) ⟨e, e2, ?_⟩
  refine ⟨.non, _, I.lset (its' := its ++ its2) hH e (by simp) (r.append r2) ?_, rfl, q⟩
  rw [List.length_append]
  omega

def rPop : V → List V → Hp → VK → Prop := fun x vs H Q => ∃ l xs y, x = .ref l ∧ vs = [] ∧ H l = some (.lst xs) ∧ xs[xs.length - 1]? = some y ∧ Q y (upd H l (.lst xs.dropLast))
theorem mt_pop : MtM X "list.pop" rPop := by
  intro pins s σ H x vs v us Q I rx rv h
  obtain ⟨l, xs, y, rfl, rfl, hH, hy, q⟩ := h
  cases rx
  have hus := rv.zero
  subst hus
  obtain ⟨z, its, n, r, hl, e⟩ := I.lstM hH
  obtain ⟨u, hu, ru⟩ := r.get hy
  have hy' : its.toArray[its.toArray.size - 1]? = some u := by
    show its.toArray[its.length - 1]? = some u
    rw [← Array.getElem?_toList, ← hl]
    exact hu
  refine call_meets F.slot_list_pop ⟨_, e, rfl⟩ F.entry_list_pop (F.args_list_pop_1 _) (MeetsSeq.list_pop_last l its.toArray n u hy' (by rw [List.size_toArray]; omega)) ⟨e, ?_⟩
  refine ⟨y, _, I.lset (its' := its.dropLast) hH e ?_ r.dropLast ?_, ru, q⟩
  · show its.toArray.eraseIdxIfInBounds (its.toArray.size - 1) = its.dropLast.toArray
    rw [List.size_toArray, List.eraseIdxIfInBounds_toArray, erase_last]
  · rw [List.length_dropLast]
    omega

def rPopAt : V → List V → Hp → VK → Prop := fun x vs H Q => ∃ l xs i k y, x = .ref l ∧ vs = [.int i] ∧ H l = some (.lst xs) ∧ -(2 ^ 63) ≤ i ∧ i < 2 ^ 63 ∧ seqIndex? i xs.length = some k ∧ xs[k]? = some y ∧ Q y (upd H l (.lst (xs.eraseIdx k)))
theorem mt_popAt : MtM X "list.pop" rPopAt := by
  intro pins s σ H x vs v us Q I rx rv h
  obtain ⟨l, xs, i, k, y, rfl, rfl, hH, h1, h2, hk, hy, q⟩ := h
  cases rx
  obtain ⟨u, rfl, ru⟩ := rv.one
  obtain ⟨t, rfl⟩ := ru
  obtain ⟨z, its, n, r, hl, e⟩ := I.lstM hH
  obtain ⟨w, hw, rw'⟩ := r.get hy
  refine call_meets F.slot_list_pop ⟨_, e, rfl⟩ F.entry_list_pop (F.args_list_pop_2 _ _)
    (MeetsSeq.list_pop_at l its.toArray n i t k w (fitsIndex_both h1 h2) (by rw [List.size_toArray, ← hl]; exact hk) (by rw [← Array.getElem?_toList]; exact hw) (by rw [List.size_toArray]; omega)) ⟨e, ?_⟩
  refine ⟨y, _, I.lset (its' := its.eraseIdx k) hH e ?_ (r.eraseIdx k) ?_, rw', q⟩
  · show its.toArray.eraseIdxIfInBounds k = (its.eraseIdx k).toArray
    rw [List.eraseIdxIfInBounds_toArray]
  · have := len_erase xs k
    omega

def rReverse : V → List V → Hp → VK → Prop := fun x vs H Q => ∃ l xs, x = .ref l ∧ vs = [] ∧ H l = some (.lst xs) ∧ Q .non (upd H l (.lst xs.reverse))
theorem mt_reverse : MtM X "list.reverse" rReverse := by
  intro pins s σ H x vs v us Q I rx rv h
  obtain ⟨l, xs, rfl, rfl, hH, q⟩ := h
  cases rx
  have hus := rv.zero
  subst hus
  obtain ⟨z, its, n, r, hl, e⟩ := I.lstM hH
  refine call_meets F.slot_list_reverse ⟨_, e, rfl⟩ F.entry_list_reverse (F.args_list_reverse_1 _) (AutoSeq1.list_reverse_list_0 l its.toArray n (by rw [List.size_toArray]; omega)) ⟨e, ?_⟩
  refine ⟨.non, _, I.lset (its' := its.reverse) hH e (by simp) r.reverse ?_, rfl, q⟩
  rw [List.length_reverse]
  omega

def rClear : V → List V → Hp → VK → Prop := fun x vs H Q => ∃ l xs, x = .ref l ∧ vs = [] ∧ H l = some (.lst xs) ∧ Q .non (upd H l (.lst []))
theorem mt_clear : MtM X "list.clear" rClear := by
  intro pins s σ H x vs v us Q I rx rv h
  obtain ⟨l, xs, rfl, rfl, hH, q⟩ := h
  cases rx
  have hus := rv.zero
  subst hus
  obtain ⟨z, its, n, r, hl, e⟩ := I.lstM hH
  refine call_meets F.slot_list_clear ⟨_, e, rfl⟩ F.entry_list_clear (F.args_list_clear_1 _) (AutoSeq1.list_clear_list_0 l its.toArray n (by rw [List.size_toArray]; omega)) ⟨e, ?_⟩
  exact ⟨.non, _, I.lset (its' := []) (ys := []) hH e rfl .nil (Nat.zero_le _), rfl, q⟩

/-! ### list + list, list += list, list * int -/
def rCat : R2 := fun x y H Q => ∃ l b xs zs, x = .ref l ∧ y = .ref b ∧ H l = some (.lst xs) ∧ H b = some (.lst zs) ∧ xs.length + zs.length ≤ sizeLine ∧ ∀ p, H p = none → Q (.ref p) (upd H p (.lst (xs ++ zs)))
theorem op_cat : OpR X (binaryOp .Add) rCat := by
  intro pins s σ H x y v u Q I rx ry h
  obtain ⟨l, b, xs, zs, rfl, rfl, hH, hB, hz, q⟩ := h
  cases rx
  cases ry
  obtain ⟨z, its, n, r, hl, e⟩ := I.lstM hH
  obtain ⟨z2, its2, n2, r2, hl2, e2⟩ := I.lstM hB
  refine PySem.P.add_list e e2 ?_ (by rw [List.size_toArray, List.size_toArray]; omega)
  have ea : its.toArray ++ its2.toArray = (its ++ its2).toArray := by simp
  rw [ea]
  exact ⟨.ref _, _, I.lnew (t' := s.toks) (r.append r2) (by rw [List.length_append]; omega), rfl, q _ I.fresh⟩
/-- a list times an int (a negative one is nothing) -/
def rRep : R2 := fun x y H Q => ∃ l k xs, x = .ref l ∧ y = .int k ∧ H l = some (.lst xs) ∧ -(2 ^ 63) ≤ k ∧ k < 2 ^ 63 ∧ xs.length * k.toNat ≤ sizeLine ∧
  ∀ p, H p = none → Q (.ref p) (upd H p (.lst (List.replicate k.toNat xs).flatten))
theorem len_rep {α : Type} (xs : List α) (k : Nat) : (List.replicate k xs).flatten.length = k * xs.length := by
  induction k with
  | zero => simp
  | succ k ih => rw [List.replicate_succ, List.flatten_cons, List.length_append, ih, Nat.succ_mul, Nat.add_comm]
theorem op_rep : OpR X (binaryOp .Mult) rRep := by
  intro pins s σ H x y v u Q I rx ry h
  obtain ⟨l, k, xs, rfl, rfl, hH, h1, h2, hz, q⟩ := h
  cases rx
  obtain ⟨t, rfl⟩ := ry
  obtain ⟨z, its, n, r, hl, e⟩ := I.lstM hH
  have hlen : its.toArray.size * k.toNat ≤ sizeLine := by rw [List.size_toArray, ← hl]; exact hz
  have hcap : ¬ its.toArray.size * k.toNat > (2 ^ 63 - 1) / 8 := by
    have : (sizeLine : Nat) ≤ (2 ^ 63 - 1) / 8 := by decide
    omega
  have hfit : ¬ (!Builtin.List.listFitsIndex k) = true := by
    rw [fitsIndex_both h1 h2]
    exact Bool.false_ne_true
  have hlong : ¬ Builtin.List.listTooLong (its.toArray.size * k.toNat) = true := by
    rw [notLongL hlen]
    exact Bool.false_ne_true
  have hnew : List.foldl (fun x1 x2 => x1 ++ x2) #[] (List.replicate (if its.toArray.isEmpty = true then 0 else k.toNat) its.toArray) = (List.replicate k.toNat its).flatten.toArray := by
    have f0 : ∀ m : Nat, List.foldl (fun x1 x2 => x1 ++ x2) #[] (List.replicate m its.toArray) = (List.replicate m its).flatten.toArray := fun m => by
      have := foldl_rep its m []
      rw [List.nil_append] at this
      exact this
    rw [f0]
    cases its with
    | nil => simp
    | cons a r' => rw [if_neg (by simp)]
  refine wpAny_binaryOp_repeat_ref (T := "list") (U := "int") (by decide) ⟨_, e, rfl⟩ (fun s' => typeIs_int s' k t) noFill_list_mul F.fills_int_mul F.slot_int_rmul repeat_list F.slot_int_index.lookup
    (call_meets F.slot_int_rmul (typeIs_int s k t) F.entry_int_rmul (F.args_int_rmul_2 _ _) (int___rmul___int_list k t l its.toArray n)
      ⟨e, rfl, ⟨_, e, rfl⟩, call_meets F.slot_list_mul ⟨_, e, rfl⟩ F.entry_list_mul (F.args_list_mul_2 _ _) (AutoListH.list___mul___list_int_3 l its.toArray n k t hfit hcap hlong) ⟨e, ?_⟩⟩)
  rw [hnew]
  exact ⟨.ref _, _, I.lnew (t' := s.toks) (r.rep k.toNat) (by rw [len_rep, Nat.mul_comm]; exact hz), rfl, q _ I.fresh⟩

/-! ### del xs[i] -/
theorem del_list {pins : List (Addr × Obj)} {s : Shared} {σ : St} {H : Hp} {l : Addr} {xs : List V} {i : Int} {t : Tok} {k : Nat} {Q : Unit → Shared → Prop} (I : Inv X pins σ H s) (hH : H l = some (.lst xs))
    (h1 : -(2 ^ 63) ≤ i) (h2 : i < 2 ^ 63) (hk : seqIndex? i xs.length = some k) (h : ∀ s', Inv X pins σ (upd H l (.lst (xs.eraseIdx k))) s' → Q () s') :
    wpAny (model X.prog X.w) X.A (delItem (.ref l) (.int i t)) Q X.xe s := by
  obtain ⟨z, its, n, r, hl, e⟩ := I.lstM hH
  refine PySem.P.delItem_list (k := k) e (fitsIndex_both h1 h2) (by rw [List.size_toArray, ← hl]; exact hk) (h _ ?_) (by rw [List.size_toArray]; omega)
  refine I.lset (its' := its.eraseIdx k) (t' := s.toks) hH e ?_ (r.eraseIdx k) ?_
  · show its.toArray.eraseIdxIfInBounds k = (its.eraseIdx k).toArray
    rw [List.eraseIdxIfInBounds_toArray]
  · have := len_erase xs k
    omega
end

/-! ### xs[a:b] = ys -/
section
variable {prog : Program} {w : World} {A : Around} {E : Value → Shared → Prop} {s : Shared}
theorem splice_eq (its its2 : List Value) (a c : Nat) : its.toArray.extract 0 a ++ its2.toArray ++ its.toArray.extract c its.toArray.size = (its.take a ++ its2 ++ its.drop c).toArray := by
  apply Array.toList_inj.mp
  first
    | (simp
       exact List.take_of_length_le (by simp))
    | simp [List.take_of_length_le]
    | simp
theorem bounds_run {a c n : Nat} (hac : a ≤ c) (hc : c ≤ n) : sliceBounds (some (a : Int)) (some (c : Int)) none n = ((a : Int), (c : Int), 1) := by
  simp only [sliceBounds, Option.getD_none]
  have h1 : ¬ ((a : Int) < 0) := by omega
  have h2 : ¬ ((c : Int) < 0) := by omega
  simp only [h1, h2, if_false, show (1 : Int) > 0 by decide, if_true]
  congr 1
  · omega
  · congr 1; omega
set_option maxRecDepth 100000 in
/-- list.__setitem__ with a slice of step one and another list -/
theorem setItem_slice {l b sl : Addr} {items new : Array Value} {n n2 : Nat} {vl vu : Value} {a c : Nat} {Q : Unit → Shared → Prop}
    (e : s.heap.get? l = some { cls := .type "list", data := .seq items n }) (e2 : s.heap.get? b = some { cls := .type "list", data := .seq new n2 }) (hne : l ≠ b)
    (hs : s.heap.IsSliceOf sl vl vu .none) (pl : IsPart vl (some (a : Int))) (pu : IsPart vu (some (c : Int))) (hac : a ≤ c) (hc : c ≤ items.size)
    (hsz : items.size + new.size ≤ sizeLine) (h : Q () { s with heap := s.heap.update l (Obj.mapSeq fun xs => xs.extract 0 a ++ new ++ xs.extract c xs.size) }) :
    wpAny (model prog w) A (setItem (.ref l) (.ref sl) (.ref b)) Q E s := by
  have hl : s.heap.IsList l items := PySem.IsL.isList e
  have hb : s.heap.IsList b new := PySem.IsL.isList e2
  obtain ⟨os, hos, hcs, hds⟩ := id hs
  have hTs : s.TypeIs (.ref sl) "slice" := ⟨os, hos, hcs⟩
  have hstep : ¬ ((rawPart none == rawInt 0) = true) := Bool.false_ne_true
  have hsame : Builtin.List.listSameRef (.ref l) (.ref b) = false := by
    unfold Builtin.List.listSameRef
    exact beq_eq_false_iff_ne.mpr hne
  have hmax : (max (a : Int) (c : Int)).toNat = c := by omega
  have hz' : ((fun xs : Array Value => xs.extract 0 a ++ new ++ xs.extract c xs.size) items).size ≤ sizeLine + 1 := by
    simp only [Array.size_append, Array.size_extract]
    omega
  unfold setItem
  try with_reducible refine wpAny_holding ?_
  first | refine wpAny_bind (wpAny_pure ?_) | skip
  refine wpAny_bind (wpAny_sequenceKey hl.typeIs (by decide) ?_)
  refine wpAny_bind (wpAny_callSpecial?_slot (name := Str.ofString "__setitem__") hl.typeIs slot_list_setitem
    (wpAny_call_entry slot_list_setitem hl.typeIs entry_list_setitem ?_ (args_list_setitem _ _ _)))
  show wpAny _ _ (Builtin.List.listSubscript? (.ref sl) >>= _) _ _ s
  refine wpAny_bind ?_
  unfold Builtin.List.listSubscript?
  refine wpAny_bind (wpAny_specialOf hTs slice_no_index ?_)
  simp only [Option.isNone_none, if_true]
  refine wpAny_pure ?_
  show wpAny _ _ (typeOf (.ref sl) >>= _) _ _ s
  refine wpAny_bind (wpAny_typeOf hTs ?_)
  first
    | rw [if_neg (by decide)]
    | refine PySem.W.KFB.if_not (by decide) ?_
  rw [listSliceParts_eq]
  refine wpAny_bind (wpAny_bind (wpAny_field hos hds (x := .none) rfl (wpAny_bind (wpAny_listPart .none ?_))))
  rw [if_neg hstep]
  refine wpAny_bind (wpAny_field hos hds (x := vl) rfl (wpAny_bind (wpAny_listPart pl ?_)))
  refine wpAny_bind (wpAny_field hos hds (x := vu) rfl (wpAny_bind (wpAny_listPart pu (wpAny_pure ?_))))
  first
    | simp only [hsame, Bool.false_eq_true, if_false]
    | refine PySem.W.KFB.if_not hsame ?_
    | (dsimp only
       rw [if_neg (by rw [hsame]; exact Bool.false_ne_true)])
  refine wpAny_bind (m := Builtin.List.listAllItems (.ref b) "must assign iterable to extended slice") ?_
  unfold Builtin.List.listAllItems
  refine wpAny_bind (wpAny_typeOf hb.typeIs ?_)
  first
    | refine PySem.W.KFB.if_so (by decide) ?_
    | rw [if_pos (by decide)]
    | simp only [beq_self_eq_true, Bool.true_or, if_true]
  unfold Builtin.List.listItems
  refine wpAny_bind (wpAny_seqItems e2 rfl (wpAny_pure ?_))
  refine wpAny_bind (wpAny_bind (wpAny_seqItems e rfl (wpAny_pure ?_)))
  refine wpAny_bind (wpAny_of_eq ((sliceIndices_raw (some (a : Int)) (some (c : Int)) none items.size (by simp)).trans (congrArg (pure : Int × Int × Int → Sem (Int × Int × Int)) (bounds_run hac hc))) ?_)
  show wpAny _ _ (if ((1 : Int) == 1) = true then _ else _) _ _ s
  rw [if_pos (by decide)]
  refine wpAny_bind (wpAny_rule ?_)
  first
    | simp only [notLongL hsz, Bool.false_eq_true, if_false]
    | refine PySem.W.KFB.if_not (notLongL hsz) ?_
  first | refine wpAny_bind (wpAny_pure ?_) | skip
  show wpAny _ _ (updateSeq l (fun xs => xs.extract 0 ((a : Int)).toNat ++ new ++ xs.extract (max (a : Int) (c : Int)).toNat xs.size) >>= _) _ _ s
  rw [hmax, Int.toNat_natCast]
  refine wpAny_bind (wpAny_updateSeq (hz := Nat.le_trans (Nat.le_add_right _ _) hsz) (_hz' := hz') e rfl ?_)
  refine wpAny_bind (wpAny_letGo ?_)
  first
    | exact wpAny_bind (wpAny_pure (wpAny_pure ⟨.none, rfl, wpAny_pure h⟩))
    | exact wpAny_pure ⟨.none, rfl, wpAny_pure h⟩
end

section
variable {X : Cx}
/-- xs[a:c] = ys of another list, at the value level: sl is the slice object that was just made -/
theorem set_slice {pins : List (Addr × Obj)} {s : Shared} {σ : St} {H : Hp} {l b sl : Addr} {xs ys : List V} {a c : Int} {vl vu : Value} {Q : Unit → Shared → Prop} (I : Inv X pins σ H s)
    (hH : H l = some (.lst xs)) (hB : H b = some (.lst ys)) (hne : l ≠ b) (hs : s.heap.IsSliceOf sl vl vu .none) (ra : RelV (.int a) vl) (rc : RelV (.int c) vu) (h0 : 0 ≤ a) (hac : a ≤ c) (hc : c ≤ xs.length)
    (hz : xs.length + ys.length ≤ sizeLine) (h : ∀ s', Inv X pins σ (upd H l (.lst (xs.take a.toNat ++ ys ++ xs.drop c.toNat))) s' → Q () s') :
    wpAny (model X.prog X.w) X.A (setItem (.ref l) (.ref sl) (.ref b)) Q X.xe s := by
  obtain ⟨ta, rfl⟩ := ra
  obtain ⟨tc, rfl⟩ := rc
  obtain ⟨z, its, n, r, hl, e⟩ := I.lstM hH
  obtain ⟨z2, its2, n2, r2, hl2, e2⟩ := I.lstM hB
  obtain ⟨a', rfl⟩ := Int.eq_ofNat_of_zero_le h0
  obtain ⟨c', rfl⟩ := Int.eq_ofNat_of_zero_le (Int.le_trans h0 hac)
  simp only [Int.toNat_natCast] at h
  refine setItem_slice (a := a') (c := c') e e2 hne hs (.int _ _) (.int _ _) (by omega) (by rw [List.size_toArray]; omega) (by rw [List.size_toArray, List.size_toArray]; omega) (h _ ?_)
  refine I.lset (its' := its.take a' ++ its2 ++ its.drop c') (t' := s.toks) hH e ?_ (Vals.append (Vals.append (r.take _) r2) (r.drop _)) ?_
  · exact splice_eq its its2 a' c'
  · rw [List.length_append, List.length_append, List.length_take, List.length_drop]
    omega
end
end L2

namespace Att
open PySem PySem.W PySem.Calls PyProof.Rows

/-! ### the script -/
theorem ints_of_wellAll {P : Params} {h : Heap} : ∀ (ns : List Int) (vs : List Value), WellAll P h vs (ns.map WData.int) → IntsAre vs ns := by
  intro ns
  induction ns with
  | nil =>
    intro vs w
    rw [List.map_nil] at w
    cases w
    exact .nil
  | cons n ns ih =>
    intro vs w
    rw [List.map_cons] at w
    cases w with
    | cons a b =>
      cases a
      exact .cons _ _ (ih _ b)

theorem script_of {l : OpenLaw} {n : Nat} (hn : l.most = some n) {P : Params} {h : Heap} {args : List WData} {vals : List Value}
    (hpre : l.row.toRowW.claim.pre args = true) (hwl : WellAll P h vals args) :
    ∃ a vs ns, vals = [Value.ref a] ∧ args = [WData.list (ns.map WData.int)] ∧ h.get? a = some { cls := .type "list", data := .seq vs.toArray } ∧ IntsAre vs ns ∧ ns.length ≤ n := by
  have hsh : WShape.hasAll [] args [.list .int] = true := (pre_splitW hpre).1
  have hc : l.pre.holds [] { args := args } = true := (pre_splitW hpre).2
  obtain ⟨d, r, rfl, h1, h2⟩ := hasAllW_cons hsh
  obtain rfl := hasAllW_nil h2
  obtain ⟨xs, rfl, h3⟩ := hasW_list h1
  obtain ⟨ns, rfl⟩ := items_int h3
  have hlen : ns.length ≤ n := by
    unfold OpenLaw.pre at hc
    have h4 : (WTm.not (.lt (.lit (.int (n : Int))) (.len (.arg 0)))).holds [] { args := [.list (ns.map .int)] } = true := by
      have h4 := (holds_andW hc).1
      rw [hn] at h4
      exact h4
    have h5 := condW_of h4 (w_not (w_lt w_lit (w_len_list (w_arg rfl))))
    rw [List.length_map] at h5
    refine Nat.le_of_not_lt fun q => ?_
    have q' : (n : Int) < ((ns.length : Nat) : Int) := by omega
    first
      | (rw [decide_eq_true q'] at h5; exact absurd h5 (by decide))
      | (simp at h5; omega)
  cases hwl with
  | cons w1 w2 =>
    cases w2
    cases w1 with
    | list ho hall => exact ⟨_, _, ns, rfl, rfl, ho, ints_of_wellAll ns _ hall, hlen⟩

theorem post_true (l : OpenLaw) (args : List WData) : l.row.toRowW.claim.post args (.bool true) args = true :=
  postW_of (r := l.row.toRowW) (X := (true == true))
    (show WShape.has [] (.bool true) .bool = true by first | rfl | decide | simp [WShape.has, WShape.arms, WShape.armsAll])
    (show (WTm.eq .res (.lit (.bool true))).value [] { args := args, res := some (.bool true), after := args } = some (.bool (true == true)) from w_eq_bool (w_res rfl) w_lit) rfl

/-! ### the attachment: holds_open's last premise (the goal 'hc' behind k_head) from a wpAny of the law's body -/
theorem attach {l : OpenLaw} {n : Nat} {q : Program} {loose : List Str} {XP : (Str → Option Value) → Heap → Prop} {YP : World → Heap → Prop} {d : DefRec} {x : Str}
    (hn : l.most = some n) (hdf : d.params.defaults = [])
    (hbind : ∀ pm cd doc v : Value, bindArgs (docDef d.name d.params d.body d.scope pm cd doc) ⟨[v], []⟩ = pure [(x, v)])
    (hx : d.scope.names.lookup x = some .local ∨ d.scope.names.lookup x = some .cell)
    (hk : d.scope.kind = .function) (hco : d.scope.isCoroutine = false) (hgen : d.scope.isGenerator = false)
    (body : ∀ (w : World) (s₀ s₁ s : Shared) (mg mb : Str → Option Value) (fa : Addr) (o : Obj) (pm cd doc : Value) (a : Addr) (vs : List Value) (ns : List Int),
      Ground q loose [] XP w s₀ mg mb s₁.heap → YP w s₁.heap →
      s₁.heap.get? fa = some o → o.data = .func (docDef d.name d.params d.body d.scope pm cd doc) → s₁.heap.CodeRec cd d.name → mg d.name = some (.ref fa) →
      s₁.heap.get? a = some { cls := .type "list", data := .seq vs.toArray } → IntsAre vs ns → ns.length ≤ n →
      s.gens = #[] → s.os = s₁.os →
      Fr s₁.heap s₁.heap.objs.size s.heap (bindL (envOfC d.name d.scope s₁.heap.objs.size fa cd).kindOf [(x, .ref a)] fun _ => none) →
      Cl s₁.heap.objs.size (cellsFrom (s₁.heap.objs.size + 1) d.scope.names []) s.heap (bindC (envOfC d.name d.scope s₁.heap.objs.size fa cd).kindOf [(x, .ref a)] fun _ => none) →
      wpAny (model l.prog w) (callerA.deeper (envOfC d.name d.scope s₁.heap.objs.size fa cd)) (execs d.body (envOfC d.name d.scope s₁.heap.objs.size fa cd))
        (fun f s' => f = .ret (.bool true) ∧ OldK s₁.heap s'.heap ∧ s'.os = s₁.os ∧ AllBare s'.gens) (fun _ _ => False) s) :
    WalkO q loose XP YP l.row.toRowW d [] (fun f vs => PySem.call f vs) := by
  intro w s₀ s₁ mg mb G Y fa o pm cd doc dV kV ho hd hcd hD hmg hg args vals as hpre hlay hrd hwl hlo
  obtain rfl : dV = .none := Dflts.none hD hdf
  obtain rfl : kV = .none := Dflts.noKw hD
  obtain ⟨a, vs, ns, rfl, rfl, hobj, hints, hlen⟩ := script_of hn hpre hwl
  refine enter_call ?_
  refine call_cells_ret (o := o) (by rw [depth_caller]; decide) ho (fd_plain hd) G.T.nolimit hcd (hbind pm cd doc (.ref a)) (fun y hy => ?_) (fun h₁ tk F X => ?_) hco hgen hk
  · obtain rfl : y = (x, Value.ref a) := List.mem_singleton.mp hy
    rcases hx with e | e
    · exact .inl e
    · exact .inr ⟨e, cellsFrom_some _ _ _ (.inl e)⟩
  · refine wpAny_mono (body w s₀ s₁ { s₁ with heap := h₁, toks := tk } mg mb fa o pm cd doc a vs ns G Y ho (fd_plain hd) hcd hmg hobj hints hlen hg rfl F X) (fun f s' hq => ?_) (fun _ _ hq => hq)
    obtain ⟨rfl, h2, h3, h4⟩ := hq
    exact ⟨.inl ⟨.bool true, .bool true, [], rfl, fun _ => rfl, .bool true, post_true l _, fun _ => ⟨List.Pairwise.nil, fun _ hm => (nomatch hm)⟩⟩, h2, h3, h4⟩

/-- the same from a codeAny of the CALL (for a layer whose function contracts speak of calls) -/
theorem attach_call {l : OpenLaw} {n : Nat} {q : Program} {loose : List Str} {XP : (Str → Option Value) → Heap → Prop} {YP : World → Heap → Prop} {d : DefRec}
    (hn : l.most = some n) (hdf : d.params.defaults = [])
    (call : ∀ (w : World) (s₀ s₁ : Shared) (mg mb : Str → Option Value) (fa : Addr) (o : Obj) (pm cd doc : Value) (a : Addr) (vs : List Value) (ns : List Int),
      Ground q loose [] XP w s₀ mg mb s₁.heap → YP w s₁.heap →
      s₁.heap.get? fa = some o → o.data = .func (docDef d.name d.params d.body d.scope pm cd doc) → s₁.heap.CodeRec cd d.name → mg d.name = some (.ref fa) →
      s₁.heap.get? a = some { cls := .type "list", data := .seq vs.toArray } → IntsAre vs ns → ns.length ≤ n → s₁.gens = #[] →
      codeAny (model l.prog w) callerA (.call (.ref fa) ⟨[.ref a], []⟩) (fun r s' => r = .ok (.ret (.bool true)) ∧ OldK s₁.heap s'.heap ∧ s'.os = s₁.os ∧ AllBare s'.gens) s₁) :
    WalkO q loose XP YP l.row.toRowW d [] (fun f vs => PySem.call f vs) := by
  intro w s₀ s₁ mg mb G Y fa o pm cd doc dV kV ho hd hcd hD hmg hg args vals as hpre hlay hrd hwl hlo
  obtain rfl : dV = .none := Dflts.none hD hdf
  obtain rfl : kV = .none := Dflts.noKw hD
  obtain ⟨a, vs, ns, rfl, rfl, hobj, hints, hlen⟩ := script_of hn hpre hwl
  refine enter_call (codeAny_mono (call w s₀ s₁ mg mb fa o pm cd doc a vs ns G Y ho (fd_plain hd) hcd hmg hobj hints hlen hg) fun r s' hq => ?_)
  obtain ⟨rfl, h2, h3, h4⟩ := hq
  exact ⟨.inl ⟨.bool true, .bool true, [], rfl, fun _ => rfl, .bool true, post_true l _, fun _ => ⟨List.Pairwise.nil, fun _ hm => (nomatch hm)⟩⟩, h2, h3, h4⟩

/-- the same where the top left finished generators (o_head chose holds_openN): nothing may have changed at all and no generator may be left -/
theorem attachN {l : OpenLaw} {n : Nat} {q : Program} {loose : List Str} {XP : (Str → Option Value) → Heap → Prop} {YP : World → Heap → Prop} {d : DefRec} {x : Str}
    (hn : l.most = some n) (hdf : d.params.defaults = [])
    (hbind : ∀ pm cd doc v : Value, bindArgs (docDef d.name d.params d.body d.scope pm cd doc) ⟨[v], []⟩ = pure [(x, v)])
    (hx : d.scope.names.lookup x = some .local ∨ d.scope.names.lookup x = some .cell)
    (hk : d.scope.kind = .function) (hco : d.scope.isCoroutine = false) (hgen : d.scope.isGenerator = false)
    (body : ∀ (w : World) (s₀ s₁ s : Shared) (mg mb : Str → Option Value) (fa : Addr) (o : Obj) (pm cd doc : Value) (a : Addr) (vs : List Value) (ns : List Int),
      Ground q loose [] XP w s₀ mg mb s₁.heap → YP w s₁.heap →
      s₁.heap.get? fa = some o → o.data = .func (docDef d.name d.params d.body d.scope pm cd doc) → s₁.heap.CodeRec cd d.name → mg d.name = some (.ref fa) →
      s₁.heap.get? a = some { cls := .type "list", data := .seq vs.toArray } → IntsAre vs ns → ns.length ≤ n →
      s.gens = #[] → s.os = s₁.os →
      Fr s₁.heap s₁.heap.objs.size s.heap (bindL (envOfC d.name d.scope s₁.heap.objs.size fa cd).kindOf [(x, .ref a)] fun _ => none) →
      Cl s₁.heap.objs.size (cellsFrom (s₁.heap.objs.size + 1) d.scope.names []) s.heap (bindC (envOfC d.name d.scope s₁.heap.objs.size fa cd).kindOf [(x, .ref a)] fun _ => none) →
      wpAny (model l.prog w) (callerA.deeper (envOfC d.name d.scope s₁.heap.objs.size fa cd)) (execs d.body (envOfC d.name d.scope s₁.heap.objs.size fa cd))
        (fun f s' => f = .ret (.bool true) ∧ (∀ b o, s₁.heap.get? b = some o → s'.heap.get? b = some o) ∧ s'.os = s₁.os ∧ s'.gens = #[]) (fun _ _ => False) s) :
    WalkN q loose XP YP l.row.toRowW d [] (fun f vs => PySem.call f vs) := by
  intro w s₀ s₁ mg mb G Y fa o pm cd doc dV kV ho hd hcd hD hmg hg args vals as hpre hlay hrd hwl hlo
  obtain rfl : dV = .none := Dflts.none hD hdf
  obtain rfl : kV = .none := Dflts.noKw hD
  obtain ⟨a, vs, ns, rfl, rfl, hobj, hints, hlen⟩ := script_of hn hpre hwl
  refine enter_callW ?_
  refine call_cells_ret (o := o) (by rw [depth_caller]; decide) ho (fd_plain hd) G.T.nolimit hcd (hbind pm cd doc (.ref a)) (fun y hy => ?_) (fun h₁ tk F X => ?_) hco hgen hk
  · obtain rfl : y = (x, Value.ref a) := List.mem_singleton.mp hy
    rcases hx with e | e
    · exact .inl e
    · exact .inr ⟨e, cellsFrom_some _ _ _ (.inl e)⟩
  · refine wpAny_mono (body w s₀ s₁ { s₁ with heap := h₁, toks := tk } mg mb fa o pm cd doc a vs ns G Y ho (fd_plain hd) hcd hmg hobj hints hlen hg rfl F X) (fun f s' hq => ?_) (fun _ _ hq => hq)
    obtain ⟨rfl, h2, h3, h4⟩ := hq
    exact ⟨.inl ⟨.bool true, .bool true, [], rfl, fun _ => rfl, .bool true, post_true l _, fun _ => ⟨List.Pairwise.nil, fun _ hm => (nomatch hm)⟩⟩, h2, h3, h4⟩

/-! ### rules over ANY heap (no ledger) from facts about the written part K: the library's own take a ledger (News) for what they write -/
section
variable {prog : Program} {w : World} {A : Around} {E : Value → Shared → Prop} {s : Shared} {K : Frag}

/-- a def of the module, or a method (qual 'C.m'), entered: the frame is the next address; cells behind it -/
theorem call_fn {R : Result → Shared → Prop} {name qual : Str} {params : Arguments} {body : List Stmt} {scope : Scope} {dV kV doc pm cdv ct oc : Value} {an od : Option Addr} {osl : Array (Option Value)} {f : Addr} {args : Args} {binds : List (Str × Value)}
    (X : K.In s.heap) (hlim : s.heap.NoLimit) (ho : K.lookup f = some ⟨oc, od, .func (fnOf name qual params body scope dV kV doc pm an cdv ct), osl⟩) (hcd : codeIn K cdv qual = true) (hroom : A.depth < recursionLimit)
    (hbind : BindsTo s (fnOf name qual params body scope dV kV doc pm an cdv ct) args binds)
    (hkind : (binds.all fun y => scope.names.lookup y.1 == some .local || scope.names.lookup y.1 == some .cell) = true)
    (h : ∀ s₁, InCallC s s.heap.objs.size (bindL (envOfC qual scope s.heap.objs.size f cdv).kindOf binds fun _ => none) (cellsFrom (s.heap.objs.size + 1) scope.names [])
        (bindC (envOfC qual scope s.heap.objs.size f cdv).kindOf binds fun _ => none) s₁ →
      wpAny (model prog w) (A.deeper (envOfC qual scope s.heap.objs.size f cdv)) (execs body (envOfC qual scope s.heap.objs.size f cdv))
        (fun fl s' => R (.ok (.ret (match fl with | .ret v => v | _ => .none))) s')
        (fun e s' => wpAny (model prog w) (A.deeper (envOfC qual scope s.heap.objs.size f cdv)) (leaving (envOfC qual scope s.heap.objs.size f cdv) e) (fun _ s'' => R (.error e) s'') (fun e' s'' => R (.error e') s'') s') s₁)
    (hco : scope.isCoroutine = false) (hgen : scope.isGenerator = false) (hk : scope.kind = .function) : codeAny (model prog w) A (.call (.ref f) args) R s := by
  refine codeAny_call_function hroom (X _ _ ho) rfl hco hgen rfl (codeRec_of X hcd) (hbind _ _ _ _ ?_)
  refine wpAny_newFunctionEnv_cells hk (kindsX hkind _) fun env he s₁ x => ?_
  subst he
  exact ⟨hlim.keeps x.toInCall.keep, codeAny_func (h s₁ x)⟩

/-- C(..): dict at size, instance at size + 1, then __init__ -/
theorem make_obj {R : Result → Shared → Prop} {C fI : Addr} {rest : List Value} {kw : List (Str × Value)}
    (X : K.In s.heap) (hm : makesIn K C = true) (hi : findIn K (.ref C) "__init__" = some (some (.ref fI))) (hf : isFn K (.ref fI) = true)
    (h : codeAny (model prog w) (A.under (.builtin "type.__call__" ⟨.ref C :: rest, kw⟩)) (.call (.ref fI) ⟨.ref (s.heap.objs.size + 1) :: rest, kw⟩) (InitBack (s.heap.objs.size + 1) R)
      { s with heap := (s.heap.push emptyDict).push (instObj C s.heap.objs.size) }) : codeAny (model prog w) A (.call (.ref C) ⟨rest, kw⟩) R s := by
  obtain ⟨hh, g, d, t, os⟩ := s
  exact make_core (makes_of X hm) (looks_findIn X hi) (fun self => bind_fn X self (beq_iff_eq.mp hf)) (.inl rfl) h

/-- x.name where the instance's dict holds the name and the class does not -/
theorem get_field {x C : Addr} {ox : Obj} {es : List DictEntry} {n : Nat} {name : Str} {expr : Bool} {v : Value} {Q : Value → Shared → Prop}
    (X : K.In s.heap) (I : PySem.W.InstAt s.heap x ox C (some (dictOf es n))) (hg : plainGet K C name = true) (hh : hasDictIn K C = true) (ha : findIn K (.ref C) name = some none)
    (hl : getL name es = some (some v)) (hv : handedIn v = true) (h : Q v { s with toks := s.toks + 1 }) : wpAny (model prog w) A (getAttr (.ref x) name expr) Q E s :=
  get_value X I (plainGet_of hg).1 (findObj_own hh ha rfl hl) hv h

/-- x.m(..): the method found in the class -/
theorem get_method {x C f : Addr} {ox : Obj} {es : List DictEntry} {n : Nat} {name : Str} {pl : Sem Bool} {Q : Value × List Value → Shared → Prop}
    (X : K.In s.heap) (I : PySem.W.InstAt s.heap x ox C (some (dictOf es n))) (hg : plainGet K C name = true) (hf : findIn K (.ref C) name = some (some (.ref f))) (ht : isFn K (.ref f) = true)
    (hl : getL name es = some none) (h : Q (.ref f, [.ref x]) s) : wpAny (model prog w) A (getMethod (.ref x) name pl) Q E s :=
  method_fn X I (plainGet_of hg).1 (plainGet_of hg).2 hf (beq_iff_eq.mp ht) (by show (lookIn name (dictOf es n)).map _ = _; rw [lookIn_dict, hl]; rfl) h

/-! the whole heap as the ledger: makes every rule that writes through a ledger a rule over any heap -/
def noObjs (h : Heap) : Heap := { h with objs := #[] }
theorem noObjs_get (h : Heap) (b : Addr) : (noObjs h).get? b = none := by
  cases e : (noObjs h).get? b with
  | none => rfl
  | some o => exact absurd (Heap.lt_size e) (Nat.not_lt_zero _)
def ledger (h : Heap) (L d : Addr) : List (Addr × Obj) := (List.range h.objs.size).filterMap fun a => if a = L ∨ a = d then none else (h.get? a).map fun o => (a, o)
theorem mem_ledger {h : Heap} {L d a : Addr} {o : Obj} : (a, o) ∈ ledger h L d ↔ a ≠ L ∧ a ≠ d ∧ h.get? a = some o := by
  unfold ledger
  rw [List.mem_filterMap]
  constructor
  · rintro ⟨b, _, e⟩
    split at e
    · cases e
    · rename_i hb
      obtain ⟨o', ho, e'⟩ := Option.map_eq_some_iff.mp e
      cases e'
      exact ⟨fun q => hb (.inl q), fun q => hb (.inr q), ho⟩
  · rintro ⟨n1, n2, ho⟩
    refine ⟨a, List.mem_range.mpr (Heap.lt_size ho), ?_⟩
    rw [if_neg (show ¬ (a = L ∨ a = d) from fun q => q.elim n1 n2), ho] <;> rfl
theorem news_ledger {h : Heap} {L d : Addr} {od : Obj} (hne : d ≠ L) (ho : h.get? d = some od) : News (noObjs h) L h ([] ++ (d, od) :: ledger h L d) := by
  rintro ⟨a, o⟩ hp
  rcases List.mem_cons.mp hp with e | hp
  · cases e
    exact ⟨ho, hne, noObjs_get _ _⟩
  · obtain ⟨n1, n2, e⟩ := mem_ledger.mp hp
    exact ⟨e, n1, noObjs_get _ _⟩
theorem fr_all {h : Heap} {L : Addr} {m : Str → Option Value} (n : h.Ns L m) : Fr (noObjs h) L h m :=
  ⟨n, fun b o e => (by rw [noObjs_get] at e; cases e), Nat.zero_le _⟩
/-- Upd of the head entry (for append_K, setItem_K ..) -/
theorem upd_ledger {h : Heap} {L d : Addr} {o o' : Obj} : Upd d o o' ((d, o) :: ledger h L d) ((d, o') :: ledger h L d) :=
  .head fun ⟨_, _⟩ hp => (mem_ledger.mp hp).2.1

/-- x.name = v over any heap: L is any namespace of the heap (the frame's, say): its map stays, its object is not told; all else but the dict stays -/
theorem set_field {x C dx L : Addr} {ox : Obj} {m : Str → Option Value} {es es' : List DictEntry} {n n' : Nat} {name : Str} {v : Value} {Q : Unit → Shared → Prop}
    (X : K.In s.heap) (I : PySem.W.InstAt s.heap x ox C (some (dictOf es n))) (hd : ox.dict = some dx) (hL : s.heap.Ns L m) (hne : dx ≠ L)
    (hs : findIn K (.ref C) "__setattr__" = some (some (.builtin "object.__setattr__"))) (hp : plainOver K C = true) (ht : takerIn K C name = some none) (hh : hasDictIn K C = true) (hl : (getL name es).isSome = true)
    (e : (putL name (PyData.keyHash w.params name) (.str name (s.toks + 1)) v es, putN name es n) = (es', n')) (hz : es'.length ≤ 1000)
    (h : ∀ h' : Heap, h'.Ns L m → h'.get? dx = some (dictOf es' n') → (∀ b o, b ≠ dx → b ≠ L → s.heap.get? b = some o → h'.get? b = some o) → Q () { s with heap := h', toks := s.toks + 2 }) :
    wpAny (model prog w) A (setAttr (.ref x) name v) Q E s := by
  obtain ⟨e1, e2⟩ := Prod.mk.inj e
  have hdx : s.heap.get? dx = some (dictOf es n) := by
    have := I.dict
    rw [hd] at this
    exact this
  refine set_plain X I hs (osa_dict (s := { s with toks := s.toks + 1 }) (h₀ := noObjs s.heap) (L := L) (m := m) (od := dictOf es n) (od' := dictOf es' n') (es := es') (n := n') (pre := []) (post := ledger s.heap L dx)
    (fr_all hL) (news_ledger hne hdx) X I hd hp ht hh hl (fun _ q => nomatch q) (fun ⟨_, _⟩ q => (mem_ledger.mp q).2.1) (by rw [putName_dict, e1, e2]) rfl hz fun h' F' N' => ?_)
  exact h h' F'.ns (N'.get (List.Mem.head _)) fun b o n1 n2 ho => N'.get (List.Mem.tail _ (mem_ledger.mpr ⟨n2, n1, ho⟩))
end
end Att

namespace L2
open PySem PySem.Spec PyProof.Rows

theorem vals_ints : ∀ {vs : List Value} {ns : List Int}, IntsAre vs ns → Vals (ns.map V.int) vs
  | _, _, .nil => .nil
  | _, _, .cons n t h => .cons ⟨t, rfl⟩ (vals_ints h)

/-- nothing is tracked but the script, known to the object (or it is an object of the module) -/
def Only (H : Hp) : Prop := ∀ b, H b = none ∨ ∃ o xs, H b = some (.frz o (.lst xs))

/-- THE HEAD: the law's promise, at the heap behind the top. F, the promise of the law's def, may use that base is part of the heap (so K.In base, base.Ns mainGlobals mg stand in Mod) -/
theorem law_call {P : Program} {w : World} {K : PySem.W.Frag} {mg mb : Str → Option Value} {CX : CXT} {k : Nat} {fa a : Addr} {fd : FuncData} {x : Str} {sp : Sp} {s₁ : Shared} {vs : List Value} {ns : List Int}
    (KX : K.In s₁.heap) (hns : s₁.heap.Ns mainGlobals mg) (hb : s₁.heap.Ns builtinsNs mb) (hbb : ∀ x : Str, x ≠ "__name__" → mb x = bootBuiltins x) (hlim : s₁.heap.NoLimit) (hg : s₁.gens = #[])
    (ha : s₁.heap.get? a = some { cls := .type "list", data := .seq vs.toArray }) (hi : IntsAre vs ns) (hl : ns.length ≤ sizeLine) (hr : Room k callerA)
    (F : ∀ base : Heap, K.In base → base.Ns mainGlobals mg → FnOk P w K mg base CX k fa fd [x] sp) (hbind : ∀ (s : Shared) (u : Value), BindsTo s fd ⟨[u], []⟩ [(x, u)])
    (hsp : ∀ H : Hp, Only H → SqL K H a (ns.map V.int) → sp [.ref a] H (fun v _ => v = .bl true) fun _ _ _ => False)
    (hCX : ∀ H e s', CX [] H s₁ (fun _ _ _ => False) e s' → False) :
    codeAny (model P w) callerA (.call (.ref fa) ⟨[.ref a], []⟩) (fun r s' => r = .ok (.ret (.bool true)) ∧ OldK s₁.heap s'.heap ∧ s'.os = s₁.os ∧ AllBare s'.gens) s₁ := by
  have rv := vals_ints hi
  have lenV := hi.length
  -- from an abstract heap in which nothing but the script may be tracked
  have core : ∀ H : Hp, Only H → SqL K H a (ns.map V.int) → HOk P w H s₁.heap → (∀ b, H b ≠ none → b = a) → (H a ≠ none → K.lookup a = none) →
      codeAny (model P w) callerA (.call (.ref fa) ⟨[.ref a], []⟩) (fun r s' => r = .ok (.ret (.bool true)) ∧ OldK s₁.heap s'.heap ∧ s'.os = s₁.os ∧ AllBare s'.gens) s₁ := by
    intro H hO hS hok hA hK
    have base_of : ∀ {b : Addr} {o : Obj}, s₁.heap.get? b = some o → H b = none → (hidT s₁.heap H).get? b = some o := fun e n => hidT_get e n
    have noA : ∀ {b : Addr} {o : Obj} {es : Array DictEntry} {ep : Nat}, s₁.heap.get? b = some o → o.data = .dict es ep → H b = none := fun {b o es ep} e d => by
      cases q : H b with
      | none => rfl
      | some u =>
        have e' : b = a := hA b (by rw [q]; simp)
        subst e'
        rw [ha] at e; cases e
        have d' : Data.seq vs.toArray _ = Data.dict es ep := d
        cases d'
    have nsK : ∀ {b : Addr} {m : Str → Option Value}, s₁.heap.Ns b m → (hidT s₁.heap H).Ns b m := fun {b m} ⟨o, es, ep, e, d, r⟩ => ⟨o, es, ep, base_of e (noA e d), d, r⟩
    have hKb : K.In (hidT s₁.heap H) := fun b o e => base_of (KX b o e) (by
      cases q : H b with
      | none => rfl
      | some u =>
        have e' : b = a := hA b (by rw [q]; simp)
        subst e'
        rw [hK (by rw [q]; simp)] at e; cases e)
    have hM : Mod K mg (hidT s₁.heap H) := ⟨hKb, nsK hns, ⟨mb, nsK hb, hbb⟩, let ⟨mc, h1, h2⟩ := hlim; ⟨mc, nsK h1, h2⟩⟩
    have e0 : Env0 P w K mg (hidT s₁.heap H) callerA [] s₁ H := ⟨rfl, hM, fun b o e => of_hidT e, Nat.le_of_eq (hidT_size _ _), trivial, fun b hb => absurd (show b ∈ ([] : List Addr) from hb) (by simp), hok, .of_eq hg⟩
    refine codeAny_mono ((F _ hKb (nsK hns)).run callerA [] s₁ H ⟨[.ref a], []⟩ [.ref a] [.ref a] _ _ hr e0 (hbind s₁ (.ref a)) (.cons rfl .nil) (hsp H hO hS)) fun r s' h => ?_
    cases r with
    | error e => exact (hCX H e s' h).elim
    | ok fl =>
      cases fl with
      | next => exact False.elim h
      | brk => exact False.elim h
      | cont => exact False.elim h
      | ret u =>
        obtain ⟨v, H', os, bare, un, hok', r', q⟩ := h
        have q' : v = .bl true := q
        subst q'
        obtain rfl : u = Value.bool true := r'
        refine ⟨rfl, OldK.of_keep fun b o e => ?_, os, bare⟩
        cases q : H b with
        | none => exact un.keep b o e q (by intro z; exact absurd (show b ∈ ([] : List Addr) from z) (by simp)) (by simp)
        | some u =>
          rcases hO b with z | ⟨ob, xs, z⟩
          · rw [q] at z; cases z
          · have z2 := un.frzs b ob _ z
            obtain ⟨e1, _⟩ := hok b _ z
            obtain ⟨e2, _⟩ := hok' b _ z2
            rw [e] at e1; cases e1
            exact e2
  cases hk : K.lookup a with
  | some o =>
    -- the script is one of the module's own objects
    have e := KX a o hk
    rw [ha] at e
    cases e
    refine core (fun _ => none) (fun _ => .inl rfl) (.inr ⟨_, vs.toArray, _, hk, rfl, rfl, rfl, by rw [List.size_toArray, lenV]; exact hl, by simpa using rv⟩) (fun b u z => by have z' : (none : Option HO) = some u := z; cases z') (fun b z => absurd rfl z) fun z => absurd rfl z
  | none =>
    refine core (fun b => if b = a then some (.frz { cls := .type "list", data := .seq vs.toArray } (.lst (ns.map V.int))) else none) (fun b => ?_) (.inl (.inr ⟨{ cls := .type "list", data := .seq vs.toArray }, if_pos rfl⟩)) (fun b u z => ?_) (fun b z => ?_) fun _ => hk
    · by_cases hb : b = a
      · exact .inr ⟨_, _, if_pos hb⟩
      · exact .inl (if_neg hb)
    · by_cases hb : b = a
      · have z' := (if_pos hb).symm.trans z
        cases z'
        subst hb
        exact ⟨ha, by rw [List.length_map]; exact hl, vs, _, rv, ha⟩
      · have z' := (if_neg hb).symm.trans z
        cases z'
    · by_cases hb : b = a
      · exact hb
      · exact absurd (if_neg hb) z
end L2

namespace L2
open PySem PySem.Spec PyProof.Rows

abbrev KOf {K : PySem.W.Frag} {h : Heap} (_ : K.In h) : PySem.W.Frag := K

/-- the goal that k_head leaves (case hc), from the law's promise. F gives the function object fd (K's own) once, then the promise over every base -/
theorem walk_of {l : PySem.W.OpenLaw} {n k : Nat} {q : Program} {loose : List Str} {XP : (Str → Option Value) → Heap → Prop} {YP : World → Heap → Prop} {d : DefRec} {K : Params → PySem.W.Frag} {CX : World → CXT} {sp : World → Sp} {x : Str}
    (hn : l.most = some n) (hn2 : n ≤ sizeLine) (hdf : d.params.defaults = []) (hr : Room k callerA)
    (hY : ∀ (w : World) (h : Heap), YP w h → (K w.params).In h)
    (F : ∀ (w : World) (mg : Str → Option Value) (fa : Addr) (h : Heap), (K w.params).In h → h.Ns mainGlobals mg → mg d.name = some (.ref fa) →
      ∃ fd : FuncData, (∀ (s : Shared) (u : Value), BindsTo s fd ⟨[u], []⟩ [(x, u)]) ∧
        ∀ base : Heap, (K w.params).In base → base.Ns mainGlobals mg → FnOk l.prog w (K w.params) mg base (CX w) k fa fd [x] (sp w))
    (hsp : ∀ (w : World) (H : Hp) (a : Addr) (ns : List Int), ns.length ≤ n → Only H → SqL (K w.params) H a (ns.map V.int) → sp w [.ref a] H (fun v _ => v = .bl true) fun _ _ _ => False)
    (hCX : ∀ (w : World) (H : Hp) (s : Shared) (e : Value) (s' : Shared), CX w [] H s (fun _ _ _ => False) e s' → False) :
    PySem.W.WalkO q loose XP YP l.row.toRowW d [] (fun f vs => PySem.call f vs) := by
  refine Att.attach_call hn hdf fun w s₀ s₁ mg mb fa o pm cd doc a vs ns G Y ho hd hcd hmg hobj hints hlen hg => ?_
  have KX := hY w _ Y
  obtain ⟨fd, hb, hF⟩ := F w mg fa _ KX G.T.g hmg
  exact law_call KX G.T.g G.T.b G.T.builtins G.T.nolimit hg hobj hints (Nat.le_trans hlen hn2) hr hF hb (fun H hO hS => hsp w H a ns hlen hO hS) fun H e s' => hCX w H s₁ e s'
/-- the same where the promise hangs on the written part alone: (sp := My.sp_law), no hole under a binder -/
theorem walk_ofK {l : PySem.W.OpenLaw} {n k : Nat} {q : Program} {loose : List Str} {XP : (Str → Option Value) → Heap → Prop} {YP : World → Heap → Prop} {d : DefRec} {K : Params → PySem.W.Frag} {CX : CXT} {sp : PySem.W.Frag → Sp} {x : Str}
    (hn : l.most = some n) (hn2 : n ≤ sizeLine) (hdf : d.params.defaults = []) (hr : Room k callerA)
    (hY : ∀ (w : World) (h : Heap), YP w h → (K w.params).In h)
    (F : ∀ (w : World) (mg : Str → Option Value) (fa : Addr) (h : Heap), (K w.params).In h → h.Ns mainGlobals mg → mg d.name = some (.ref fa) →
      ∃ fd : FuncData, (∀ (s : Shared) (u : Value), BindsTo s fd ⟨[u], []⟩ [(x, u)]) ∧
        ∀ base : Heap, (K w.params).In base → base.Ns mainGlobals mg → FnOk l.prog w (K w.params) mg base CX k fa fd [x] (sp (K w.params)))
    (hsp : ∀ (K : PySem.W.Frag) (H : Hp) (a : Addr) (ns : List Int), ns.length ≤ n → Only H → SqL K H a (ns.map V.int) → sp K [.ref a] H (fun v _ => v = .bl true) fun _ _ _ => False)
    (hCX : ∀ (H : Hp) (s : Shared) (e : Value) (s' : Shared), CX [] H s (fun _ _ _ => False) e s' → False) :
    PySem.W.WalkO q loose XP YP l.row.toRowW d [] (fun f vs => PySem.call f vs) :=
  walk_of (K := K) (CX := fun _ => CX) (sp := fun w => sp (K w.params)) hn hn2 hdf hr hY F (fun w H a ns h1 h2 h3 => hsp (K w.params) H a ns h1 h2 h3) fun _ H s e s' => hCX H s e s'
end L2



/-! SHORT WORDS over the layer: a def of the text, its body, what a loop and a test want. -/
namespace L2
open PySem PySem.Spec PyProof.Rows

/-! ### the text by places -/
/-- the j-th statement of a class's body -/
def inClass (s : Stmt) (j : Nat) : Stmt := match s with
  | .ClassDef _ _ _ body _ _ _ _ _ _ _ => body.getD j (.Pass ⟨0, 0, 0, 0⟩)
  | _ => .Pass ⟨0, 0, 0, 0⟩
def defArgs (s : Stmt) : Arguments := match s with
  | .FunctionDef _ a _ _ _ _ _ _ _ _ => a
  | _ => { posonlyargs := [], args := [], vararg := none, kwonlyargs := [], kw_defaults := [], kwarg := none, defaults := [] }
def defBody (s : Stmt) : List Stmt := match s with
  | .FunctionDef _ _ b _ _ _ _ _ _ _ => b
  | _ => []
def defScope (s : Stmt) : Scope := match s with
  | .FunctionDef _ _ _ _ _ _ sc _ _ _ => sc
  | _ => { kind := .function, names := [], isGenerator := false, isCoroutine := false }

/-! ### no exception leaves a def -/
abbrev CX0 : CXT := fun _ _ _ _ _ _ => False
abbrev E0 : XK := fun _ _ _ => False
theorem pass0 {X : Cx} : Passes CX0 X E0 := fun _ _ _ _ _ _ _ h => h.elim

/-! ### a def (or method) of the text as it stands behind the top -/
structure Fun (K : PySem.W.Frag) (x qual : Str) (st : Stmt) (f : Addr) (fd : FuncData) : Prop where
  ex : ∃ (oc : Value) (od : Option Addr) (kV doc pm : Value) (an : Option Addr) (cdv ct : Value) (osl : Array (Option Value)),
    fd = PySem.W.fnOf x qual (defArgs st) (defBody st) (defScope st) .none kV doc pm an cdv ct ∧ K.lookup f = some ⟨oc, od, .func fd, osl⟩ ∧ PySem.W.codeIn K cdv qual = true
  kp : PySem.W.keepIn K (.ref f) = true
section
variable {P : Program} {w : World} {K : PySem.W.Frag} {mg : Str → Option Value} {base : Heap}
/-- THE RULE for a def: its body as a term of rules, and the reading of that term -/
theorem Fun.ok {x qual : Str} {st : Stmt} {f : Addr} {fd : FuncData} {N ps : List Str} {k : Nat} {sp : Sp} (F : Fun K x qual st f fd) (S : FnScope N ps (defScope st)) (len : ∀ vs H Q E, sp vs H Q E → vs.length = ps.length)
    (hbody : ∀ (cdv : Value) (A : Around) (outer : List Env) (s : Shared) (H : Hp) (vs : List V) (Q : VK) (E : XK), Room k (A.deeper (envOfC qual (defScope st) s.heap.objs.size f cdv)) → sp vs H Q E →
      ∃ t, PSs (cxOf CX0 P w K mg base N qual (defScope st) f cdv A outer s H E).nox (defBody st) t ∧ t { nx := fun _ H' => Q .non H', rt := Q } (start N vs) H) : FnOk P w K mg base CX0 (k + 1) f fd ps sp := by
  obtain ⟨oc, od, kV, doc, pm, an, cdv, ct, osl, rfl, lk, hcd⟩ := F.ex
  refine fn_of lk hcd S len fun A outer s H vs Q E hr hsp => ?_
  obtain ⟨t, h, q⟩ := hbody cdv A outer s H vs Q E hr hsp
  exact ⟨t, h.nox, q⟩
/-- how its arguments bind (no defaults): h is «fun _ _ _ _ _ _ us hl => match us, hl with | [_, _], _ => rfl», one _ a parameter -/
theorem Fun.binds {x qual : Str} {st : Stmt} {f : Addr} {fd : FuncData} {ps : List Str} (F : Fun K x qual st f fd)
    (h : ∀ (kV doc pm : Value) (an : Option Addr) (cdv ct : Value) (us : List Value), us.length = ps.length → bindArgs (PySem.W.fnOf x qual (defArgs st) (defBody st) (defScope st) .none kV doc pm an cdv ct) ⟨us, []⟩ = pure (ps.zip us)) : Binds K fd ps [] := by
  obtain ⟨oc, od, kV, doc, pm, an, cdv, ct, osl, rfl, lk, hcd⟩ := F.ex
  exact .all (h kV doc pm an cdv ct)
theorem fun_mk {x qual : Str} {st : Stmt} {f : Addr} {oc : Value} {od an : Option Addr} {osl : Array (Option Value)} {kV doc pm cdv ct : Value} (l : K.lookup f = some ⟨oc, od, .func (PySem.W.fnOf x qual (defArgs st) (defBody st) (defScope st) .none kV doc pm an cdv ct), osl⟩)
    (c : PySem.W.codeIn K cdv qual = true) (k : PySem.W.keepIn K (.ref f) = true) : Fun K x qual st f (PySem.W.fnOf x qual (defArgs st) (defBody st) (defScope st) .none kV doc pm an cdv ct) := ⟨⟨oc, od, kV, doc, pm, an, cdv, ct, osl, rfl, l, c⟩, k⟩
end
theorem hu_of {A : Around} {k : Nat} (hr : Room k A) : A.units + 1 < cLine := Nat.lt_of_le_of_lt (Nat.add_le_add_left (by decide : 1 ≤ 64) _) hr.units
theorem small1000 {n : Nat} (h : n ≤ 1000) : n < sizeLine := Nat.lt_of_le_of_lt h (by decide)

/-! ### expressions in short: the name that stands in the i-th slot -/
section
variable {X : Cx}
theorem pv (i : Nat) {x : Str} {pos : Pos} (hN : X.N[i]? = some x := by rfl) (hv : Vis X.env.scope x := by first | exact Or.inl rfl | exact Or.inr (Or.inl rfl) | exact Or.inr (Or.inr rfl)) (hd : (x == ("__debug__" : Str)) = false := by decide)
    (hcd : (x == ("__classdict__" : Str)) = false := by decide) : PE X (.Name x pos) (tVar i) := pe_var hN hv hd hcd
end

/-! ### tests -/
theorem iteF {A B : Prop} (h : B) : if false = true then A else B := by
  rw [if_neg Bool.false_ne_true]
  exact h
theorem iteT {A B : Prop} (h : A) : if true = true then A else B := by
  rw [if_pos rfl]
  exact h
theorem ite2 {c A B : Prop} [Decidable c] (h1 : c → A) (h2 : ¬ c → B) : if c then A else B := by
  by_cases h : c
  · rw [if_pos h]
    exact h1 h
  · rw [if_neg h]
    exact h2 h
theorem iteNS {c A B : Prop} [Decidable c] (hc : c) (h : B) : if (!decide c) = true then A else B := by
  rw [decide_eq_true hc]
  exact iteF h

/-! ### heaps -/
/-- all that was tracked is as it was -/
def Same (H H' : Hp) : Prop := ∀ b o, H b = some o → H' b = some o
theorem Same.refl (H : Hp) : Same H H := fun _ _ h => h
theorem Same.trans {H H1 H2 : Hp} (a : Same H H1) (b : Same H1 H2) : Same H H2 := fun c o h => b c o (a c o h)
theorem Same.free {H H' : Hp} (e : Same H H') {l : Addr} (h : H' l = Option.none) : H l = Option.none := by
  cases q : H l with
  | none => rfl
  | some o =>
    rw [e l o q] at h
    cases h
theorem Same.seq {K : PySem.W.Frag} {H H' : Hp} {a : Addr} {xs : List V} (e : Same H H') (h : SqL K H a xs) : SqL K H' a xs := by
  rcases h with (h | ⟨o, h⟩) | h
  · exact .inl (.inl (e _ _ h))
  · exact .inl (.inr ⟨o, e _ _ h⟩)
  · exact .inr h

end L2

namespace L2
open PySem PySem.Spec PyProof.Rows

/-! ### lists of pairs as tables -/
section
variable {κ : Type} [DecidableEq κ]
def valV (kvs : List (κ × V)) (k : κ) : Option V := (kvs.find? fun kv => decide (kv.1 = k)).map (·.2)
/-- in its place, or at the end -/
def putK (kvs : List (κ × V)) (k : κ) (v : V) : List (κ × V) :=
  if (kvs.any fun kv => decide (kv.1 = k)) = true then kvs.map (fun kv => if kv.1 = k then (kv.1, v) else kv) else kvs ++ [(k, v)]
def dropK (kvs : List (κ × V)) (k : κ) : List (κ × V) := kvs.filter fun kv => decide (kv.1 ≠ k)

theorem valV_nil {k : κ} : valV ([] : List (κ × V)) k = none := rfl
theorem valV_pos {p : κ × V} {r : List (κ × V)} {k : κ} (e : p.1 = k) : valV (p :: r) k = some p.2 := by simp [valV, List.find?_cons, e]
theorem valV_neg {p : κ × V} {r : List (κ × V)} {k : κ} (e : ¬ p.1 = k) : valV (p :: r) k = valV r k := by simp [valV, List.find?_cons, e]
theorem valV_any (k : κ) : ∀ kvs : List (κ × V), (kvs.any fun kv => decide (kv.1 = k)) = (valV kvs k).isSome
  | [] => rfl
  | p :: r => by
    rw [List.any_cons]
    by_cases e : p.1 = k
    · simp only [valV_pos e, decide_eq_true e, Bool.true_or, Option.isSome_some]
    · rw [valV_neg e, decide_eq_false e, Bool.false_or]; exact valV_any k r
theorem valV_map (k j : κ) (y : V) : ∀ kvs : List (κ × V), valV (kvs.map fun kv => if kv.1 = k then (kv.1, y) else kv) j = (valV kvs j).map fun x => if j = k then y else x
  | [] => rfl
  | p :: r => by
    have ih := valV_map k j y r
    rw [List.map_cons]
    by_cases h : p.1 = k
    · rw [if_pos h]
      by_cases e : p.1 = j
      · rw [valV_pos (p := (p.1, y)) e, valV_pos e, Option.map_some, if_pos (e.symm.trans h)]
      · rw [valV_neg (p := (p.1, y)) e, valV_neg e, ih]
    · rw [if_neg h]
      by_cases e : p.1 = j
      · rw [valV_pos (p := p) e, valV_pos e, Option.map_some, if_neg (fun z => h (e.trans z))]
      · rw [valV_neg (p := p) e, valV_neg e, ih]
theorem valV_snoc (k j : κ) (y : V) : ∀ kvs : List (κ × V), valV kvs k = none → valV (kvs ++ [(k, y)]) j = if j = k then some y else valV kvs j
  | [], _ => by
    by_cases e : k = j
    · rw [if_pos e.symm]; exact valV_pos (p := (k, y)) e
    · rw [if_neg (fun z => e z.symm)]; exact valV_neg (p := (k, y)) e
  | p :: r, hn => by
    rw [List.cons_append]
    have hk : ¬ p.1 = k := fun z => by rw [valV_pos z] at hn; cases hn
    rw [valV_neg hk] at hn
    have ih := valV_snoc k j y r hn
    by_cases e : p.1 = j
    · rw [valV_pos e, valV_pos e, if_neg (fun z => hk (e.trans z))]
    · rw [valV_neg e, valV_neg e, ih]
theorem valV_put (kvs : List (κ × V)) (k j : κ) (y : V) : valV (putK kvs k y) j = if j = k then some y else valV kvs j := by
  unfold putK
  by_cases a : (kvs.any fun kv => decide (kv.1 = k)) = true
  · rw [if_pos a, valV_map]
    rw [valV_any] at a
    by_cases e : j = k
    · obtain ⟨x, hx⟩ := Option.isSome_iff_exists.mp a
      rw [if_pos e, e, hx, Option.map_some, if_pos rfl]
    · rw [if_neg e]
      cases valV kvs j with
      | none => rfl
      | some x => rw [Option.map_some, if_neg e]
  · rw [if_neg a]
    refine valV_snoc k j y kvs ?_
    rw [valV_any] at a
    cases q : valV kvs k with
    | none => rfl
    | some x => rw [q] at a; exact (a rfl).elim
theorem length_putK (kvs : List (κ × V)) (k : κ) (v : V) : (putK kvs k v).length ≤ kvs.length + 1 := by
  unfold putK
  split
  · rw [List.length_map]; omega
  · rw [List.length_append, List.length_cons, List.length_nil]; omega
theorem putK_new {kvs : List (κ × V)} {k : κ} (v : V) (h : valV kvs k = none) : putK kvs k v = kvs ++ [(k, v)] := by
  unfold putK
  rw [valV_any, h]
  exact if_neg (by decide)

theorem RelO.isSome_eq {o : Option V} {u : Option Value} (r : RelO o u) : o.isSome = u.isSome := by
  cases o with
  | none => cases u with
    | none => rfl
    | some _ => exact (show False from r).elim
  | some _ => cases u with
    | none => exact (show False from r).elim
    | some _ => rfl
theorem RelO.getD {o : Option V} {u : Option Value} {d : V} {d' : Value} (r : RelO o u) (rd : RelV d d') : RelV (o.getD d) (u.getD d') := by
  cases o with
  | none => cases u with
    | none => exact rd
    | some _ => exact (show False from r).elim
  | some _ => cases u with
    | none => exact (show False from r).elim
    | some _ => exact r

/-- raw tables of the same keys -/
theorem KV.val {kvs : List (κ × V)} {vs : List (κ × Value)} (r : KV kvs vs) (k : κ) : RelO (valV kvs k) (valueAt vs k) := by
  unfold KV at r
  induction r with
  | nil => exact True.intro
  | @cons p q ps qs h t ih =>
    obtain ⟨h1, h2⟩ := h
    by_cases e : p.1 = k
    · have e' : q.1 = k := h1.symm.trans e
      have b : valueAt (q :: qs) k = some q.2 := by simp [valueAt, List.find?_cons, e']
      rw [valV_pos e, b]; exact h2
    · have e' : ¬ q.1 = k := fun z => e (h1.trans z)
      have b : valueAt (q :: qs) k = valueAt qs k := by simp [valueAt, List.find?_cons, e']
      rw [valV_neg e, b]; exact ih
theorem KV.any {kvs : List (κ × V)} {vs : List (κ × Value)} (r : KV kvs vs) (k : κ) : (kvs.any fun kv => decide (kv.1 = k)) = vs.any fun kv => decide (kv.1 = k) := by
  unfold KV at r
  induction r with
  | nil => rfl
  | cons h t ih => rw [List.any_cons, List.any_cons, ih, h.1]
theorem KV.repl {kvs : List (κ × V)} {vs : List (κ × Value)} (r : KV kvs vs) (k : κ) {y : V} {u : Value} (ry : RelV y u) :
    KV (kvs.map fun kv => if kv.1 = k then (kv.1, y) else kv) (vs.map fun kv => if kv.1 = k then (kv.1, u) else kv) := by
  unfold KV at r ⊢
  induction r with
  | nil => exact .nil
  | @cons p q ps qs h t ih =>
    rw [List.map_cons, List.map_cons]
    refine .cons ?_ ih
    obtain ⟨h1, h2⟩ := h
    by_cases e : p.1 = k
    · rw [if_pos e, if_pos (h1.symm.trans e)]; exact ⟨h1, ry⟩
    · rw [if_neg e, if_neg (fun z => e (h1.trans z))]; exact ⟨h1, h2⟩
theorem KV.put {kvs : List (κ × V)} {vs : List (κ × Value)} (r : KV kvs vs) (k : κ) {y : V} {u : Value} (ry : RelV y u) : KV (putK kvs k y) (stored vs k u) := by
  unfold putK stored
  rw [r.any k]
  by_cases e : (vs.any fun kv => decide (kv.1 = k)) = true
  · rw [if_pos e, if_pos e]; exact r.repl k ry
  · rw [if_neg e, if_neg e]; exact Paired.snoc r ⟨rfl, ry⟩
theorem KV.drop {kvs : List (κ × V)} {vs : List (κ × Value)} (r : KV kvs vs) (k : κ) : KV (dropK kvs k) (without vs k) := by
  unfold KV at r ⊢
  unfold dropK without
  induction r with
  | nil => exact .nil
  | @cons p q ps qs h t ih =>
    obtain ⟨h1, h2⟩ := h
    rw [List.filter_cons, List.filter_cons]
    by_cases e : p.1 = k
    · have a : ¬ decide (p.1 ≠ k) = true := by simp [e]
      have b : ¬ decide (q.1 ≠ k) = true := by simp [h1.symm.trans e]
      rw [if_neg a, if_neg b]; exact ih
    · have e' : ¬ q.1 = k := fun z => e (h1.trans z)
      have a : decide (p.1 ≠ k) = true := by simp [e]
      have b : decide (q.1 ≠ k) = true := by simp [e']
      rw [if_pos a, if_pos b]; exact .cons ⟨h1, h2⟩ ih
theorem KV.keys {kvs : List (κ × V)} {vs : List (κ × Value)} (r : KV kvs vs) : kvs.map (·.1) = vs.map (·.1) := by
  unfold KV at r
  induction r with
  | nil => rfl
  | cons h t ih => rw [List.map_cons, List.map_cons, ih, h.1]
theorem KV.length {kvs : List (κ × V)} {vs : List (κ × Value)} (r : KV kvs vs) : kvs.length = vs.length := Paired.length r
theorem dropK_le (kvs : List (κ × V)) (k : κ) : (dropK kvs k).length ≤ kvs.length := List.length_filter_le _ _
end


/-! ### a tracked dict, its keys ints and texts or tuples of these -/
theorem kV_is {P : Program} {w : World} {k : Key} {u : Value} (r : RelV (kV k) u) : (mixKind P w).is k u = true := by
  cases k with
  | inl i => obtain ⟨t, e⟩ := (show ∃ t, u = Value.int i t from r); subst e; exact mixKind_int P w i t
  | inr x => obtain ⟨t, e⟩ := (show ∃ t, u = Value.str x t from r); subst e; exact mixKind_str P w x t
theorem kV_inj {a b : Key} (e : kV a = kV b) : a = b := by
  cases a with
  | inl i => cases b with
    | inl j => have e' : V.int i = V.int j := e; injection e' with e'; rw [e']
    | inr y => exact nomatch (show V.int i = V.str y from e)
  | inr x => cases b with
    | inl j => exact nomatch (show V.str x = V.int j from e)
    | inr y => have e' : V.str x = V.str y := e; injection e' with e'; rw [e']
theorem kVs_inj : ∀ {a b : List Key}, a.map kV = b.map kV → a = b
  | [], [], _ => rfl
  | [], _ :: _, e => by simp at e
  | _ :: _, [], e => by simp at e
  | x :: xs, y :: ys, e => by
    rw [List.map_cons, List.map_cons] at e
    injection e with e1 e2
    rw [kV_inj e1, kVs_inj e2]
theorem items_are {P : Program} {w : World} : ∀ {ks : List Key} {us : List Value}, Vals (ks.map kV) us → ItemsAre (mixKind P w) ks us
  | [], _, r => by rw [List.map_nil] at r; cases r; exact .nil
  | k :: ks, _, r => by
    rw [List.map_cons] at r
    cases r with
    | cons h t => exact .cons (kV_is h) (items_are t)

/-- raw entries of a dict with tuple keys -/
abbrev KT (H : Hp) : List (List Key × V) → List (List Key × Addr × Value) → Prop := Paired fun p q => p.1 = q.1 ∧ H q.2.1 = some (.tup (p.1.map kV)) ∧ RelV p.2 q.2.2
theorem KT.val {H : Hp} {kvs : List (List Key × V)} {xs : List (List Key × Addr × Value)} (r : KT H kvs xs) (k : List Key) : RelO (valV kvs k) ((atKey xs k).map (·.2)) := by
  induction r with
  | nil => exact True.intro
  | @cons p q ps qs h t ih =>
    obtain ⟨h1, _, h2⟩ := h
    by_cases e : p.1 = k
    · have e' : q.1 = k := h1.symm.trans e
      have b : atKey (q :: qs) k = some q.2 := by simp [atKey, List.find?_cons, e']
      rw [valV_pos e, b]; exact h2
    · have e' : ¬ q.1 = k := fun z => e (h1.trans z)
      have b : atKey (q :: qs) k = atKey qs k := by simp [atKey, List.find?_cons, e']
      rw [valV_neg e, b]; exact ih
theorem KT.repl {H : Hp} {kvs : List (List Key × V)} {xs : List (List Key × Addr × Value)} (r : KT H kvs xs) (k : List Key) {y : V} {u : Value} (ry : RelV y u) :
    KT H (kvs.map fun kv => if kv.1 = k then (kv.1, y) else kv) (xs.map (putAt k u)) := by
  induction r with
  | nil => exact .nil
  | @cons p q ps qs h t ih =>
    rw [List.map_cons, List.map_cons]
    refine .cons ?_ ih
    obtain ⟨h1, h2, h3⟩ := h
    unfold putAt
    by_cases e : p.1 = k
    · rw [if_pos e, if_pos (h1.symm.trans e)]; exact ⟨h1, h2, ry⟩
    · rw [if_neg e, if_neg (fun z => e (h1.trans z))]; exact ⟨h1, h2, h3⟩
theorem KT.put {H : Hp} {kvs : List (List Key × V)} {xs : List (List Key × Addr × Value)} (r : KT H kvs xs) (k : List Key) {b : Addr} {y : V} {u : Value} (hb : H b = some (.tup (k.map kV))) (ry : RelV y u) :
    KT H (putK kvs k y) (storedH xs k b u) := by
  have e : (kvs.any fun kv => decide (kv.1 = k)) = (atKey xs k).isSome := by
    rw [valV_any, (r.val k).isSome_eq, Option.isSome_map]
  unfold putK storedH
  rw [e]
  by_cases q : (atKey xs k).isSome = true
  · rw [if_pos q, if_pos q]; exact r.repl k ry
  · rw [if_neg q, if_neg q]; exact Paired.snoc r ⟨rfl, hb, ry⟩
theorem KT.keeps {H H' : Hp} {kvs : List (List Key × V)} {xs : List (List Key × Addr × Value)} (r : KT H kvs xs) (ht : ∀ b ys, H b = some (.tup ys) → H' b = some (.tup ys)) : KT H' kvs xs :=
  Paired.mapP r fun _ _ z => ⟨z.1, ht _ _ z.2.1, z.2.2⟩

section
variable {P : Program} {w : World} {H : Hp} {h : Heap} {a : Addr}
theorem rd_of {u : HO} (ok : HOk P w H h) (e : Rd H a u) : ObjOk P w H h a u := e.ok ok
theorem dk_rd {kvs : List (Key × V)} (ok : HOk P w H h) (e : Rd H a (.dK kvs)) : kvs.length ≤ sizeLine ∧ (a == sysModules) = false ∧ ∃ vs, KV kvs vs ∧ h.DictOf (mixKind P w) a vs :=
  show ObjOk P w H h a (.dK kvs) from rd_of ok e
theorem dk_of {kvs : List (Key × V)} (ok : HOk P w H h) (e : H a = some (.dK kvs)) : kvs.length ≤ sizeLine ∧ (a == sysModules) = false ∧ ∃ vs, KV kvs vs ∧ h.DictOf (mixKind P w) a vs := dk_rd ok (.inl e)
/-- a tracked tuple of ints and texts is a key -/
theorem key_of {ks : List Key} (ok : HOk P w H h) (e : H a = some (.tup (ks.map kV))) : (tupleKind (mixKind P w)).is h ks a := by
  obtain ⟨_, its, r, o, h1, h2, n, h3⟩ := (show ObjOk P w H h a (.tup (ks.map kV)) from ok a _ e)
  exact ⟨o, its.toArray, n, h1, h2, h3, by simpa using items_are r⟩
theorem dt_rd {kvs : List (List Key × V)} (ok : HOk P w H h) (e : Rd H a (.dT kvs)) : kvs.length ≤ sizeLine ∧ (a == sysModules) = false ∧
    ∃ xs, KT H kvs xs ∧ h.DictOfH (tupleKind (mixKind P w)) a xs := by
  obtain ⟨z, y, xs, r, o, es, ep, h1, h2, h3, h4, h5⟩ := (show ObjOk P w H h a (.dT kvs) from rd_of ok e)
  refine ⟨z, y, xs, r, o, es, ep, h1, h2, h3, h4, fun x hx => ?_, h5⟩
  have all : ∀ {l : List (List Key × V)} {m : List (List Key × Addr × Value)}, KT H l m → ∀ x ∈ m, (tupleKind (mixKind P w)).is h x.1 x.2.1 := by
    intro l m q
    induction q with
    | nil => intro x hx; exact nomatch hx
    | @cons p q ps qs hq t ih =>
      intro x hx
      rcases List.mem_cons.mp hx with e | hx
      · subst e
        exact key_of ok (by rw [← hq.1]; exact hq.2.1)
      · exact ih x hx
  exact all r x hx
theorem dt_of {kvs : List (List Key × V)} (ok : HOk P w H h) (e : H a = some (.dT kvs)) : kvs.length ≤ sizeLine ∧ (a == sysModules) = false ∧
    ∃ xs, KT H kvs xs ∧ h.DictOfH (tupleKind (mixKind P w)) a xs := dt_rd ok (.inl e)
end

/-- what the dict at a holds at the key y -/
def DGet (H : Hp) (a : Addr) (y : V) (r : Option V) : Prop :=
  (∃ kvs k, Rd H a (.dK kvs) ∧ y = kV k ∧ r = valV kvs k) ∨ ∃ kvs k b, Rd H a (.dT kvs) ∧ y = .ref b ∧ H b = some (.tup (k.map kV)) ∧ r = valV kvs k
/-- the heap behind a[y] = v -/
def DPut (H : Hp) (a : Addr) (y v : V) (H' : Hp) : Prop :=
  (∃ kvs k, H a = some (.dK kvs) ∧ y = kV k ∧ kvs.length < sizeLine ∧ H' = upd H a (.dK (putK kvs k v))) ∨
  ∃ kvs k b, H a = some (.dT kvs) ∧ y = .ref b ∧ H b = some (.tup (k.map kV)) ∧ kvs.length < sizeLine ∧ H' = upd H a (.dT (putK kvs k v))
theorem DGet.k {H : Hp} {a : Addr} {kvs : List (Key × V)} {k : Key} (e : H a = some (.dK kvs)) : DGet H a (kV k) (valV kvs k) := .inl ⟨kvs, k, .inl e, rfl, rfl⟩
theorem DGet.t {H : Hp} {a b : Addr} {kvs : List (List Key × V)} {k : List Key} (e : H a = some (.dT kvs)) (eb : H b = some (.tup (k.map kV))) : DGet H a (.ref b) (valV kvs k) := .inr ⟨kvs, k, b, .inl e, rfl, eb, rfl⟩
theorem DPut.k {H : Hp} {a : Addr} {kvs : List (Key × V)} {k : Key} {v : V} (e : H a = some (.dK kvs)) (hl : kvs.length < sizeLine) : DPut H a (kV k) v (upd H a (.dK (putK kvs k v))) := .inl ⟨kvs, k, e, rfl, hl, rfl⟩
theorem DPut.t {H : Hp} {a b : Addr} {kvs : List (List Key × V)} {k : List Key} {v : V} (e : H a = some (.dT kvs)) (eb : H b = some (.tup (k.map kV))) (hl : kvs.length < sizeLine) :
    DPut H a (.ref b) v (upd H a (.dT (putK kvs k v))) := .inr ⟨kvs, k, b, e, rfl, eb, hl, rfl⟩


section
variable {X : Cx} {pins : List (Addr × Obj)} {σ : St} {H : Hp} {s : Shared} {a : Addr} {y v : V} {u r : Value} {o : Option V} {A : Around} {E : Value → Shared → Prop}

theorem Inv.big (I : Inv X pins σ H s) : sysModules < s.heap.objs.size := by
  have h : mainGlobals < s.heap.objs.size := (I.mod.glob.keeps I.bk).lt
  exact Nat.lt_trans (by decide) h

/-- d[y], there -/
theorem d_getItem {Q : Value → Shared → Prop} (hu : A.units + 1 < cLine) (I : Inv X pins σ H s) (g : DGet H a y (some v)) (ry : RelV y u) (h : ∀ w' s', Inv X pins σ H s' → RelV v w' → Q w' s') :
    wpAny (model X.prog X.w) A (getItem (.ref a) u) Q E s := by
  rcases g with ⟨kvs, k, e, ey, l⟩ | ⟨kvs, k, b, e, ey, eb, l⟩
  · subst ey
    obtain ⟨z, hd, vs, rel, dd⟩ := dk_rd I.hok e
    obtain ⟨w', hw, rw'⟩ := RelO.some_of (v := v) (o := valueAt vs k) (by rw [l]; exact rel.val k)
    exact wpAny_getItem_of (kV_is ry) dd.mapOf hw (h w' _ (I.tok _) rw')
  · subst ey
    cases (show u = Value.ref b from ry)
    obtain ⟨z, hd, xs, rel, dd⟩ := dt_rd I.hok e
    obtain ⟨w', hw, rw'⟩ := RelO.some_of (v := v) (o := (atKey xs k).map (·.2)) (by rw [l]; exact rel.val k)
    obtain ⟨p, hp, hp2⟩ := Option.map_eq_some_iff.mp hw
    refine wpAny_getItem_heap (tupleKind_room_in1 hu) (key_of I.hok eb) dd hp ?_
    rw [hp2]
    exact h w' _ (I.tok _) rw'
/-- y in d -/
theorem d_in {Q : Value → Shared → Prop} (hu : A.units + 1 < cLine) (I : Inv X pins σ H s) (g : DGet H a y o) (ry : RelV y u) (h : ∀ s', Inv X pins σ H s' → Q (.bool o.isSome) s') :
    wpAny (model X.prog X.w) A (compareOp .In u (.ref a)) Q E s := by
  rcases g with ⟨kvs, k, e, ey, l⟩ | ⟨kvs, k, b, e, ey, eb, l⟩
  · subst ey
    obtain ⟨z, hd, vs, rel, dd⟩ := dk_rd I.hok e
    refine wpAny_in_of (kV_is ry) hd dd.mapOf ?_
    rw [← (rel.val k).isSome_eq, ← l]
    exact h _ (I.tok _)
  · subst ey
    cases (show u = Value.ref b from ry)
    obtain ⟨z, hd, xs, rel, dd⟩ := dt_rd I.hok e
    refine wpAny_in_heap (tupleKind_room_in1 hu) (key_of I.hok eb) hd dd ?_
    have q := (rel.val k).isSome_eq
    rw [Option.isSome_map] at q
    rw [← q, ← l]
    exact h _ (I.tok _)
theorem d_notIn {Q : Value → Shared → Prop} (hu : A.units + 1 < cLine) (I : Inv X pins σ H s) (g : DGet H a y o) (ry : RelV y u) (h : ∀ s', Inv X pins σ H s' → Q (.bool (!o.isSome)) s') :
    wpAny (model X.prog X.w) A (compareOp .NotIn u (.ref a)) Q E s := by
  rcases g with ⟨kvs, k, e, ey, l⟩ | ⟨kvs, k, b, e, ey, eb, l⟩
  · subst ey
    obtain ⟨z, hd, vs, rel, dd⟩ := dk_rd I.hok e
    refine wpAny_notIn_of (kV_is ry) hd dd.mapOf ?_
    rw [← (rel.val k).isSome_eq, ← l]
    exact h _ (I.tok _)
  · subst ey
    cases (show u = Value.ref b from ry)
    obtain ⟨z, hd, xs, rel, dd⟩ := dt_rd I.hok e
    refine wpAny_notIn_heap (tupleKind_room_in1 hu) (key_of I.hok eb) hd dd ?_
    have q := (rel.val k).isSome_eq
    rw [Option.isSome_map] at q
    rw [← q, ← l]
    exact h _ (I.tok _)
/-- a dict's object is replaced -/
theorem d_write {h' : Heap} {t' : Nat} {ob : HO} (I : Inv X pins σ H s) (mu : Mut (H a)) (hs : Heap.SameBut a s.heap h') (he : ∃ q, h'.get? a = some q) (new : ObjOk X.prog X.w (upd H a ob) h' a ob) :
    Inv X pins σ (upd H a ob) { s with heap := h', toks := t' } :=
  I.write (x := a) (e := a) mu (.inl rfl) (fun b q hb z => (hs.2 b hb).trans z) he new
theorem dk_new {P : Program} {w : World} {H' : Hp} {h' : Heap} {kvs : List (Key × V)} {vs : List (Key × Value)} (z : kvs.length ≤ sizeLine) (hd : (a == sysModules) = false) (rel : KV kvs vs) (dd : h'.DictOf (mixKind P w) a vs) :
    ObjOk P w H' h' a (.dK kvs) := ⟨z, hd, vs, rel, dd⟩
/-- d[y] = v -/
theorem d_setItem {H' : Hp} {Q : Unit → Shared → Prop} (hu : A.units + 1 < cLine) (I : Inv X pins σ H s) (g : DPut H a y v H') (ry : RelV y u) (rv : RelV v r) (h : ∀ s', Inv X pins σ H' s' → Q () s') :
    wpAny (model X.prog X.w) A (setItem (.ref a) u r) Q E s := by
  rcases g with ⟨kvs, k, e, ey, l, eH⟩ | ⟨kvs, k, b, e, ey, eb, l, eH⟩
  · subst ey eH
    obtain ⟨z, hd, vs, rel, dd⟩ := dk_of I.hok e
    have hz : vs.length ≤ sizeLine := by rw [← rel.length]; exact z
    have hl : (putK kvs k v).length ≤ sizeLine := by have := length_putK kvs k v; omega
    refine wpAny_setItem_pairs (hsz := hz) (kV_is ry) dd fun h' dd' hs => h _ ?_
    have he : ∃ q, h'.get? a = some q := let ⟨q, _, _, hq, _⟩ := dd'; ⟨q, hq⟩
    exact d_write I (by rw [e]; exact True.intro) hs he (dk_new hl hd (rel.put k rv) dd')
  · subst ey eH
    cases (show u = Value.ref b from ry)
    obtain ⟨z, hd, xs, rel, dd⟩ := dt_of I.hok e
    have hz : xs.length ≤ sizeLine := by rw [← Paired.length rel]; exact z
    have hl : (putK kvs k v).length ≤ sizeLine := by have := length_putK kvs k v; omega
    refine wpAny_setItem_heap (hsz := hz) (tupleKind_room_in1 hu) (key_of I.hok eb) dd fun h' dd' hs => h _ ?_
    obtain ⟨q, es, ep, hq, h2, h3, h4, _, h5⟩ := dd'
    refine d_write I (by rw [e]; exact True.intro) hs ⟨q, hq⟩ ⟨hl, hd, _, (rel.put k eb rv).keeps fun c ys ec => ?_, q, es, ep, hq, h2, h3, h4, h5⟩
    rw [upd_ne (ne_of ec e (fun z => nomatch z))]
    exact ec
end

section
variable {X : Cx} {pins : List (Addr × Obj)} {σ : St} {H : Hp} {s : Shared} {a : Addr} {kvs : List (Key × V)} {k : Key} {u : Value} {A : Around} {E : Value → Shared → Prop}
/-- del d[k] -/
theorem d_delItem {Q : Unit → Shared → Prop} (I : Inv X pins σ H s) (e : H a = some (.dK kvs)) (ry : RelV (kV k) u) (l : (valV kvs k).isSome = true) (h : ∀ s', Inv X pins σ (upd H a (.dK (dropK kvs k))) s' → Q () s') :
    wpAny (model X.prog X.w) A (delItem (.ref a) u) Q E s := by
  obtain ⟨z, hd, vs, rel, dd⟩ := dk_of I.hok e
  refine wpAny_delItem_slot dd.typeIs (by decide) PySem.F.slot_dict_delitem
    (call_meetsIn PySem.F.slot_dict_delitem dd.typeIs PySem.F.entry_dict_delitem (PySem.F.args_dict_delitem_2 _ _) (meets_dict_delitem_pairs (mixKind X.prog X.w) a (kV_is ry)) ⟨vs, dd, by rw [← rel.length]; exact z, by rw [← (rel.val k).isSome_eq]; exact l, fun h' dd' hs => h _ ?_⟩)
  have he : ∃ q, h'.get? a = some q := let ⟨q, _, _, hq, _⟩ := dd'; ⟨q, hq⟩
  exact d_write I (by rw [e]; exact True.intro) hs he (dk_new (Nat.le_trans (dropK_le kvs k) z) hd (rel.drop k) dd')
/-- d.pop(k[, x]), there -/
theorem d_pop {v : V} {more : List Value} {Q : Value → Shared → Prop} (I : Inv X pins σ H s) (e : H a = some (.dK kvs)) (ry : RelV (kV k) u) (l : valV kvs k = some v) (hm : more = [] ∨ ∃ x, more = [x])
    (h : ∀ w' s', Inv X pins σ (upd H a (.dK (dropK kvs k))) s' → RelV v w' → Q w' s') : wpAny (model X.prog X.w) A (call (.builtin "dict.pop") (.ref a :: u :: more)) Q E s := by
  obtain ⟨z, hd, vs, rel, dd⟩ := dk_of I.hok e
  obtain ⟨w', hw, rw'⟩ := RelO.some_of (v := v) (o := valueAt vs k) (by rw [← l]; exact rel.val k)
  have hp : (keyPart u).isSome = true := by
    cases k with
    | inl i => obtain ⟨t, q⟩ := (show ∃ t, u = Value.int i t from ry); subst q; rfl
    | inr x => obtain ⟨t, q⟩ := (show ∃ t, u = Value.str x t from ry); subst q; rfl
  have ha : argsOk "dict.pop" ⟨.ref a :: u :: more, []⟩ := by
    rcases hm with q | ⟨x, q⟩
    · subst q; exact PySem.F.args_dict_pop_2 _ _
    · subst q; exact PySem.F.args_dict_pop_3 _ _ _
  refine call_meetsIn PySem.F.slot_dict_pop dd.typeIs PySem.F.entry_dict_pop ha (meets_dict_pop_there (mixKind X.prog X.w) a (kV_is ry) more hm hp)
    ⟨vs, w', dd, by rw [← rel.length]; exact z, hw, fun h' dd' hs => h w' _ ?_ rw'⟩
  have he : ∃ q, h'.get? a = some q := let ⟨q, _, _, hq, _⟩ := dd'; ⟨q, hq⟩
  exact d_write I (by rw [e]; exact True.intro) hs he (dk_new (Nat.le_trans (dropK_le kvs k) z) hd (rel.drop k) dd')
/-- d.pop(k, x), not there -/
theorem d_popD {r : Value} {Q : Value → Shared → Prop} (I : Inv X pins σ H s) (e : H a = some (.dK kvs)) (ry : RelV (kV k) u) (l : valV kvs k = none) (h : ∀ s', Inv X pins σ H s' → Q r s') :
    wpAny (model X.prog X.w) A (call (.builtin "dict.pop") [.ref a, u, r]) Q E s := by
  obtain ⟨z, hd, vs, rel, dd⟩ := dk_of I.hok e
  have hn : valueAt vs k = none := RelO.none_of (by rw [← l]; exact rel.val k)
  have hp : (keyPart u).isSome = true := by
    cases k with
    | inl i => obtain ⟨t, q⟩ := (show ∃ t, u = Value.int i t from ry); subst q; rfl
    | inr x => obtain ⟨t, q⟩ := (show ∃ t, u = Value.str x t from ry); subst q; rfl
  exact call_meetsIn PySem.F.slot_dict_pop dd.typeIs PySem.F.entry_dict_pop (PySem.F.args_dict_pop_3 _ _ _) (meets_dict_pop_default (mixKind X.prog X.w) a (kV_is ry) hd hp r) ⟨vs, dd, hn, h _ (I.tok _)⟩
/-- d.clear() -/
theorem d_clear {Q : Value → Shared → Prop} (I : Inv X pins σ H s) (e : H a = some (.dK kvs)) (h : ∀ s', Inv X pins σ (upd H a (.dK [])) s' → Q .none s') : wpAny (model X.prog X.w) A (call (.builtin "dict.clear") [.ref a]) Q E s := by
  obtain ⟨z, hd, vs, rel, dd⟩ := dk_of I.hok e
  refine call_meetsIn PySem.F.slot_dict_clear dd.typeIs PySem.F.entry_dict_clear (PySem.F.args_dict_clear_1 _) (meets_dict_clear (mixKind X.prog X.w) a) ⟨vs, dd, by rw [← rel.length]; exact z, fun h' dd' hs => h _ ?_⟩
  have he : ∃ q, h'.get? a = some q := let ⟨q, _, _, hq, _⟩ := dd'; ⟨q, hq⟩
  exact d_write (t' := s.toks) I (by rw [e]; exact True.intro) hs he (dk_new (Nat.zero_le _) hd .nil dd')
/-- len(d) -/
theorem d_len {Q : Value → Shared → Prop} (I : Inv X pins σ H s) (e : Rd H a (.dK kvs)) (h : ∀ t s', Inv X pins σ H s' → Q (.int kvs.length t) s') : wpAny (model X.prog X.w) A (call (.builtin "len") [.ref a]) Q E s := by
  obtain ⟨z, hd, vs, rel, dd⟩ := dk_rd I.hok e
  refine call_len_dict hd dd (by rw [← rel.length]; rw [sizeLine_eq] at z; omega) ?_
  rw [← rel.length]
  exact h _ _ (I.tok _)
/-- if d -/
theorem d_truth {Q : Bool → Shared → Prop} (I : Inv X pins σ H s) (e : Rd H a (.dK kvs)) (h : ∀ s', Inv X pins σ H s' → Q (!kvs.isEmpty) s') : wpAny (model X.prog X.w) A (truthy (.ref a)) Q E s := by
  obtain ⟨z, hd, vs, rel, dd⟩ := dk_rd I.hok e
  refine wpAny_truthy_dict hd dd (by rw [← rel.length]; rw [sizeLine_eq] at z; omega) ?_
  have q : kvs.isEmpty = vs.isEmpty := by cases rel <;> rfl
  rw [← q]
  exact h _ (I.tok _)
end


/-! ### readings and rules -/
/-- the element of a subscription, not a slice -/
def NoSl (i : Expr) : Prop := ∀ ov iv, subscripted i false ov iv = operate [ov, iv] (getItem ov iv)
theorem subD_of {prog : Program} {w : World} {A : Around} {E : Value → Shared → Prop} {s : Shared} {env : Env} {value slice : Expr} {pos : Pos} {T id : String} {Q : Value → Shared → Prop}
    (hl : typeLookup (.type T) "__getitem__" = pure (some (.builtin id))) (hs : NoSl slice)
    (h : wpAny (model prog w) A (eval value env) (fun o s₁ => wpAny (model prog w) A (eval slice env) (fun i s₂ => s₂.TypeIs o T ∧ wpAny (model prog w) A (getItem o i) Q E s₂) E s₁) E s) :
    wpAny (model prog w) A (eval (.Subscript value slice pos) env) Q E s := by
  refine Subscript_ (wpAny_mono h (fun o s₁ h₁ => wpAny_mono h₁ (fun i s₂ h₂ => ?_) fun _ _ x => x) fun _ _ x => x)
  obtain ⟨hT, h₂⟩ := h₂
  unfold subscriptTail
  refine wpAny_bind ?_
  rw [getitemInPython_of_ne hT.not_modules]
  refine wpAny_bind (wpAny_specialOf hT hl ?_)
  have fin : wpAny (model prog w) A (subscripted slice false o i) (fun r s₃ => wpAny (model prog w) A (letTemporaryGo value o r >>= fun _ => pure r) Q E s₃) E s₂ := by
    rw [hs o i]
    exact wpAny_operating (wpAny_mono h₂ (fun r s₃ h₃ => wpAny_bind (wpAny_letTemporaryGo (wpAny_pure h₃))) fun _ _ x => x)
  first
    | exact wpAny_pure (wpAny_bind fin)
    | exact wpAny_bind (wpAny_pure (wpAny_bind fin))
    | exact wpAny_bind fin

theorem dict_typeIs {X : Cx} {pins : List (Addr × Obj)} {σ : St} {H : Hp} {s : Shared} {a : Addr} {y : V} {o : Option V} (I : Inv X pins σ H s) (g : DGet H a y o) : s.TypeIs (.ref a) "dict" := by
  rcases g with ⟨kvs, k, e, _, _⟩ | ⟨kvs, k, b, e, _, _, _⟩
  · obtain ⟨_, _, vs, _, dd⟩ := dk_rd I.hok e
    exact dd.typeIs
  · obtain ⟨_, _, xs, _, dd⟩ := dt_rd I.hok e
    exact dd.typeIs
theorem dict_noDict {X : Cx} {pins : List (Addr × Obj)} {σ : St} {H : Hp} {s : Shared} {a : Addr} {y : V} {o : Option V} (I : Inv X pins σ H s) (g : DGet H a y o) :
    ∀ b, Value.ref a = .ref b → ∃ ob, s.heap.get? b = some ob ∧ ob.dict = none := fun b q => by
  cases q
  rcases g with ⟨kvs, k, e, _, _⟩ | ⟨kvs, k, b, e, _, _, _⟩
  · obtain ⟨_, _, vs, _, ob, _, _, h1, h2, _⟩ := dk_rd I.hok e
    exact ⟨ob, h1, h2.2.1⟩
  · obtain ⟨_, _, xs, _, ob, _, _, h1, h2, _⟩ := dt_rd I.hok e
    exact ⟨ob, h1, h2.2.1⟩

/-- d[y] -/
def tDGet (td ty : TE) : TE := fun σ H Q => td σ H fun x H1 => ty σ H1 fun y H2 => ∃ a v, x = .ref a ∧ DGet H2 a y (some v) ∧ Q v H2
/-- y in d, y not in d -/
def tDIn (ty td : TE) : TE := fun σ H Q => ty σ H fun y H1 => td σ H1 fun x H2 => ∃ a o, x = .ref a ∧ DGet H2 a y o ∧ Q (.bl o.isSome) H2
def tDNotIn (ty td : TE) : TE := fun σ H Q => ty σ H fun y H1 => td σ H1 fun x H2 => ∃ a o, x = .ref a ∧ DGet H2 a y o ∧ Q (.bl (!o.isSome)) H2
/-- d[y] = v -/
def sDPut (td ty tv : TE) : TS := fun D σ H => tv σ H fun v H1 => td σ H1 fun x H2 => ty σ H2 fun y H3 => ∃ a H4, x = .ref a ∧ DPut H3 a y v H4 ∧ D.nx σ H4
/-- d[y] op= v -/
def sDAug (td ty tv : TE) (rd : V → V → Hp → VK → Prop) : TS := fun D σ H => td σ H fun x H1 => ty σ H1 fun y H2 => ∃ a v, x = .ref a ∧ DGet H2 a y (some v) ∧
  tv σ H2 fun y2 H3 => rd v y2 H3 fun z H4 => ∃ H5, DPut H4 a y z H5 ∧ D.nx σ H5
/-- del d[y] -/
def sDDel (td ty : TE) : TS := fun D σ H => td σ H fun x H1 => ty σ H1 fun y H2 => ∃ a kvs k, x = .ref a ∧ H2 a = some (.dK kvs) ∧ y = kV k ∧ (valV kvs k).isSome = true ∧ D.nx σ (upd H2 a (.dK (dropK kvs k)))

section
variable {X : Cx} {o i e value : Expr} {pos pos' tpos : Pos} {td ty tv : TE}
theorem pe_dget (hu : X.A.units + 1 < cLine) (ho : PE X o td) (hi : PE X i ty) (hs : NoSl i) : PE X (.Subscript o i pos) (tDGet td ty) := by
  intro pins s σ H Q I h
  refine subD_of PySem.F.slot_dict_getitem.lookup hs (thn (ho pins s σ H _ I h) fun u s1 ⟨x, H1, I1, rx, q1⟩ => thn (hi pins s1 σ H1 _ I1 q1) fun iv s2 ⟨y, H2, I2, ry, a, v, ex, g, q2⟩ => ?_)
  subst ex
  obtain rfl : u = Value.ref a := rx
  exact ⟨dict_typeIs I2 g, d_getItem hu I2 g ry fun w' s3 I3 rw' => ⟨v, H2, I3, rw', q2⟩⟩
theorem pc_din (hu : X.A.units + 1 < cLine) (hi : PE X i ty) (ho : PE X o td) : PC X .In i o (tDIn ty td) := by
  intro pins s σ H Q I h
  refine thn (hi pins s σ H _ I h) fun iv s1 ⟨y, H1, I1, ry, q1⟩ => thn (ho pins s1 σ H1 _ I1 q1) fun u s2 ⟨x, H2, I2, rx, a, ov, ex, g, q2⟩ => ?_
  subst ex
  obtain rfl : u = Value.ref a := rx
  exact d_in hu I2 g ry fun s3 I3 => ⟨.bl ov.isSome, H2, I3, rfl, q2⟩
theorem pc_dnotin (hu : X.A.units + 1 < cLine) (hi : PE X i ty) (ho : PE X o td) : PC X .NotIn i o (tDNotIn ty td) := by
  intro pins s σ H Q I h
  refine thn (hi pins s σ H _ I h) fun iv s1 ⟨y, H1, I1, ry, q1⟩ => thn (ho pins s1 σ H1 _ I1 q1) fun u s2 ⟨x, H2, I2, rx, a, ov, ex, g, q2⟩ => ?_
  subst ex
  obtain rfl : u = Value.ref a := rx
  exact d_notIn hu I2 g ry fun s3 I3 => ⟨.bl (!ov.isSome), H2, I3, rfl, q2⟩
theorem ps_dput (hu : X.A.units + 1 < cLine) (ho : PE X o td) (hi : PE X i ty) (hv : PE X value tv) (hs : swapsWith value (some (.Subscript o i pos')) pos.line X.env = pure false) :
    PS X (.Assign [.Subscript o i pos'] value pos) (sDPut td ty tv) := by
  intro pins s σ H D I h
  refine wpAny_Assign_Subscript (thn (hv pins s σ H _ I h) fun r s1 ⟨v, H1, I1, rv, q1⟩ => thn (ho pins s1 σ H1 _ I1 q1) fun u s2 ⟨x, H2, I2, rx, q2⟩ => thn (hi pins s2 σ H2 _ I2 q2) fun iv s3 ⟨y, H3, I3, ry, a, H4, ex, g, q3⟩ => ?_) hs
  subst ex
  obtain rfl : u = Value.ref a := rx
  exact d_setItem hu I3 g ry rv fun s4 I4 => ⟨σ, H4, I4, q3⟩
theorem ps_daug {op : Operator} {rd : V → V → Hp → VK → Prop} (hu : X.A.units + 1 < cLine) (ho : PE X o td) (hi : PE X i ty) (hv : PE X value tv) (hop : InOp X op rd)
    (ha : ∀ ov iv new, augStore i ov iv new = (do holding [new, ov, iv] (setItem ov iv new); release [new, ov, iv] []; pure .next)) : PS X (.AugAssign (.Subscript o i tpos) op value pos) (sDAug td ty tv rd) := by
  intro pins s σ H D I h
  refine wpAny_AugAssign_SubscriptAny (thn (ho pins s σ H _ I h) fun u s1 ⟨x, H1, I1, rx, q1⟩ => thn (hi pins s1 σ H1 _ I1 q1) fun iv s2 ⟨y, H2, I2, ry, a, v, ex, g, q2⟩ => ?_) ha
  subst ex
  obtain rfl : u = Value.ref a := rx
  refine d_getItem hu I2 g ry fun w' s3 I3 rw' => thn (hv pins s3 σ H2 _ I3 q2) fun w2 s4 ⟨y2, H3, I4, ry2, q3⟩ => thn (hop pins s4 σ H3 v y2 w' w2 _ I4 rw' ry2 q3) fun w3 s5 ⟨z, H4, I5, rz, H5, g5, q4⟩ => ?_
  exact d_setItem hu I5 g5 ry rz fun s6 I6 => ⟨σ, H5, I6, q4⟩
theorem ps_ddel (ho : PE X o td) (hi : PE X i ty) : PS X (.Delete [.Subscript o i tpos] pos) (sDDel td ty) := by
  intro pins s σ H D I h
  refine wpAny_Delete (wpAny_deleteEach_cons (wpAny_delete_Subscript (thn (ho pins s σ H _ I h) fun u s1 ⟨x, H1, I1, rx, q1⟩ => thn (hi pins s1 σ H1 _ I1 q1) fun iv s2 ⟨y, H2, I2, ry, a, kvs, k, ex, e, ey, l, q2⟩ => ?_)))
  subst ex ey
  obtain rfl : u = Value.ref a := rx
  exact d_delItem I2 e ry l fun s3 I3 => wpAny_deleteEach_nil ⟨σ, _, I3, q2⟩
end


/-! ### displays -/
theorem dk_empty {P : Program} {w : World} {H : Hp} (h : Heap) (hb : sysModules < h.objs.size) : ObjOk P w H (h.push { cls := .type "dict", data := .dict #[] }) h.objs.size (.dK []) :=
  ⟨Nat.zero_le _, beq_eq_false_iff_ne.mpr (Ne.symm (Nat.ne_of_lt hb)), [], .nil, Heap.DictOf.new h⟩
theorem dt_empty {P : Program} {w : World} {H : Hp} (h : Heap) (hb : sysModules < h.objs.size) : ObjOk P w H (h.push { cls := .type "dict", data := .dict #[] }) h.objs.size (.dT []) :=
  ⟨Nat.zero_le _, beq_eq_false_iff_ne.mpr (Ne.symm (Nat.ne_of_lt hb)), [], .nil, _, #[], 0, Heap.get?_push_size _ rfl, ⟨rfl, rfl, rfl⟩, rfl, rfl, List.nodup_nil⟩
/-- {}, to be a dict of the kind that is wanted -/
def tDNewK : TE := fun _ H Q => ∀ p, H p = none → Q (.ref p) (upd H p (.dK []))
def tDNewT : TE := fun _ H Q => ∀ p, H p = none → Q (.ref p) (upd H p (.dT []))
section
variable {X : Cx} {pos : Pos}
theorem pe_dnewK : PE X (.Dict [] [] pos) tDNewK := fun pins s σ H Q I h =>
  wpAny_Dict_empty ⟨.ref s.heap.objs.size, _, I.laid (a := s.heap.objs.size) (o := .dK []) (t' := s.toks) (fun _ _ q => Heap.get?_push_of_some _ q) (Nat.le_refl _) (dk_empty s.heap I.big), rfl, h _ (I.hok.fresh (Nat.le_refl _))⟩
theorem pe_dnewT : PE X (.Dict [] [] pos) tDNewT := fun pins s σ H Q I h =>
  wpAny_Dict_empty ⟨.ref s.heap.objs.size, _, I.laid (a := s.heap.objs.size) (o := .dT []) (t' := s.toks) (fun _ _ q => Heap.get?_push_of_some _ q) (Nat.le_refl _) (dt_empty s.heap I.big), rfl, h _ (I.hok.fresh (Nat.le_refl _))⟩
end

/-- the pairs of a display, from the left -/
def tPairs : List (TE × TE) → St → Hp → (List (V × V) → Hp → Prop) → Prop
  | [], _, H, Q => Q [] H
  | (tk, tv) :: r, σ, H, Q => tk σ H fun x H1 => tv σ H1 fun y H2 => tPairs r σ H2 fun ps H3 => Q ((x, y) :: ps) H3
abbrev VV : List (V × V) → List (Value × Value) → Prop := Paired fun p q => RelV p.1 q.1 ∧ RelV p.2 q.2
def PPs (X : Cx) (pos : Pos) (keys : List (Option Expr)) (values : List Expr) (trs : List (TE × TE)) : Prop :=
  ∀ (pins : List (Addr × Obj)) (s : Shared) (σ : St) (H : Hp) (Q : List (V × V) → Hp → Prop), Inv X pins σ H s → tPairs trs σ H Q →
    wpAny (model X.prog X.w) X.A (evalPairs (pairTrees keys values X.env pos)) (fun vs s' => ∃ ps H', Inv X pins σ H' s' ∧ VV ps vs ∧ Q ps H') X.xe s
theorem pps_nil {X : Cx} {pos : Pos} : PPs X pos [] [] [] := fun pins s σ H Q I h => pairTrees_nil_walk ⟨[], H, I, .nil, h⟩
theorem pps_cons {X : Cx} {pos : Pos} {k v : Expr} {ks : List (Option Expr)} {vs : List Expr} {tk tv : TE} {trs : List (TE × TE)} (hk : PE X k tk) (hv : PE X v tv) (hr : PPs X pos ks vs trs) :
    PPs X pos (some k :: ks) (v :: vs) ((tk, tv) :: trs) := fun pins s σ H Q I h =>
  pairTrees_cons_walk (thn (hk pins s σ H _ I h) fun u s1 ⟨x, H1, I1, rx, q1⟩ => thn (hv pins s1 σ H1 _ I1 q1) fun w2 s2 ⟨y, H2, I2, ry, q2⟩ =>
    thn (hr pins s2 σ H2 _ I2 q2) fun ws s3 ⟨ps, H3, I3, rel, q3⟩ => ⟨(x, y) :: ps, H3, I3, .cons ⟨rx, ry⟩ rel, q3⟩)

def mergeK (kvs more : List (Key × V)) : List (Key × V) := more.foldl (fun acc kv => putK acc kv.1 kv.2) kvs
theorem KV.merge : ∀ {more : List (Key × V)} {rs : List (Key × Value)} {kvs : List (Key × V)} {vs : List (Key × Value)}, KV more rs → KV kvs vs → KV (mergeK kvs more) (merged vs rs) := by
  intro more rs kvs vs r
  unfold KV at r
  induction r generalizing kvs vs with
  | nil => intro q; exact q
  | @cons p q ps qs h t ih =>
    intro r0
    have e : KV (putK kvs p.1 p.2) (stored vs q.1 q.2) := by
      have := r0.put p.1 h.2
      rw [← h.1]; exact this
    exact ih e
theorem length_mergeK : ∀ (more kvs : List (Key × V)), (mergeK kvs more).length ≤ kvs.length + more.length
  | [], kvs => by show kvs.length ≤ kvs.length + 0; omega
  | p :: r, kvs => by
    have h1 := length_mergeK r (putK kvs p.1 p.2)
    have h2 := length_putK kvs p.1 p.2
    show (mergeK (putK kvs p.1 p.2) r).length ≤ _
    rw [List.length_cons]; omega
theorem carries_of {P : Program} {w : World} : ∀ {kvs : List (Key × V)} {ws : List (Value × Value)}, VV (kvs.map fun kv => (kV kv.1, kv.2)) ws → ∃ rs, Carries (mixKind P w) ws rs ∧ KV kvs rs
  | [], _, r => by rw [List.map_nil] at r; cases r; exact ⟨[], True.intro, .nil⟩
  | p :: kvs, _, r => by
    rw [List.map_cons] at r
    cases r with
    | @cons a b as bs h t =>
      obtain ⟨rs, c, q⟩ := carries_of (P := P) (w := w) t
      obtain ⟨b1, b2⟩ := b
      exact ⟨(p.1, b2) :: rs, ⟨kV_is h.1, rfl, c⟩, .cons ⟨rfl, h.2⟩ q⟩
/-- {k: v, ..} with keys ints and texts; the new dict stands empty while the pairs are made -/
def tDisp (trs : List (TE × TE)) : TE := fun σ H Q => ∀ p, H p = none → tPairs trs σ (upd H p (.dK [])) fun ps H2 => H2 p = some (.dK []) ∧ ∃ kvs : List (Key × V), ps = kvs.map (fun kv => (kV kv.1, kv.2)) ∧ kvs.length ≤ 15 ∧ Q (.ref p) (upd H2 p (.dK (mergeK [] kvs)))
theorem pe_disp {X : Cx} {pos : Pos} {keys : List (Option Expr)} {values : List Expr} {trs : List (TE × TE)} (h : PPs X pos keys values trs) (hall : keys.all (·.isSome) = true) (hl : keys.length = values.length) (h0 : keys ≠ [])
    (h15 : keys.length ≤ 15) : PE X (.Dict keys values pos) (tDisp trs) := by
  intro pins s σ H Q I q
  have hn := I.hok.fresh (Nat.le_refl s.heap.objs.size)
  have I1 := I.laid (a := s.heap.objs.size) (o := .dK []) (h' := s.heap.push { cls := .type "dict", data := .dict #[] }) (t' := s.toks) (fun _ _ q => Heap.get?_push_of_some _ q) (Nat.le_refl _) (dk_empty s.heap I.big)
  refine wpAny_Dict_walk (knd := mixKind X.prog X.w) hall hl h0 h15 (thn (h pins _ σ _ _ I1 (q _ hn)) fun ws s2 ⟨ps, H2, I2, rel, e, kvs, ep, lk, q2⟩ => ?_)
  subst ep
  obtain ⟨rs, c, rk⟩ := carries_of (P := X.prog) (w := X.w) rel
  obtain ⟨z, hd, vs0, r0, dd⟩ := dk_of I2.hok e
  cases r0
  refine ⟨rs, c, dd, fun h' dd' hs => ⟨.ref s.heap.objs.size, _, ?_, rfl, q2⟩⟩
  have hz : (mergeK [] kvs).length ≤ sizeLine := by
    have h1 := length_mergeK kvs []
    rw [List.length_nil] at h1
    rw [sizeLine_eq]; omega
  have he : ∃ q, h'.get? s.heap.objs.size = some q := let ⟨q, _, _, hq, _⟩ := dd'; ⟨q, hq⟩
  exact d_write I2 (by rw [e]; exact True.intro) hs he (dk_new hz hd (rk.merge .nil) dd')


/-! ### methods -/
/-- a method call o.m(e) of a built-in, with one argument: what must be seen of the text -/
structure M1 (X : Cx) (o : Expr) (m : Str) (apos : Pos) (e : Expr) (cpos : Pos) : Prop where
  base : attributeBase o m X.env (eval o X.env) = eval o X.env
  few : ((backTo cpos (starEach [e] X.env)).all (fun x => !x.1) && (backToKw cpos (keywordEach [] X.env)).all (fun x => x.1.isSome)
    && decide (([e] : List Expr).length + ([] : List Keyword).length + (if ([] : List Keyword).isEmpty then 0 else 1) < 30)) = true
  line : (apos.endLine == cpos.line) = true
  trees : backTo cpos (starEach [e] X.env) = [(false, eval e X.env)]
structure M2 (X : Cx) (o : Expr) (m : Str) (apos : Pos) (e f : Expr) (cpos : Pos) : Prop where
  base : attributeBase o m X.env (eval o X.env) = eval o X.env
  few : ((backTo cpos (starEach [e, f] X.env)).all (fun x => !x.1) && (backToKw cpos (keywordEach [] X.env)).all (fun x => x.1.isSome)
    && decide (([e, f] : List Expr).length + ([] : List Keyword).length + (if ([] : List Keyword).isEmpty then 0 else 1) < 30)) = true
  line : (apos.endLine == cpos.line) = true
  trees : backTo cpos (starEach [e, f] X.env) = [(false, eval e X.env), (false, eval f X.env)]

/-- a is a dict, whatever its keys -/
def IsD (H : Hp) (a : Addr) : Prop := (∃ kvs, Rd H a (.dK kvs)) ∨ ∃ kvs, Rd H a (.dT kvs)
theorem isD_at {X : Cx} {pins : List (Addr × Obj)} {σ : St} {H : Hp} {s : Shared} {a : Addr} (I : Inv X pins σ H s) (d : IsD H a) :
    s.TypeIs (.ref a) "dict" ∧ (∀ b, Value.ref a = .ref b → ∃ ob, s.heap.get? b = some ob ∧ ob.dict = none) ∧ (a == sysModules) = false := by
  rcases d with ⟨kvs, e⟩ | ⟨kvs, e⟩
  · obtain ⟨_, hd, vs, _, dd⟩ := dk_rd I.hok e
    refine ⟨dd.typeIs, fun b q => ?_, hd⟩
    cases q
    obtain ⟨ob, _, _, h1, h2, _⟩ := dd
    exact ⟨ob, h1, h2.2.1⟩
  · obtain ⟨_, hd, xs, _, dd⟩ := dt_rd I.hok e
    refine ⟨dd.typeIs, fun b q => ?_, hd⟩
    cases q
    obtain ⟨ob, _, _, h1, h2, _⟩ := dd
    exact ⟨ob, h1, h2.2.1⟩

section
variable {X : Cx} {pins : List (Addr × Obj)} {σ : St} {H : Hp} {s : Shared} {a : Addr} {y d : V} {u r : Value} {o : Option V} {A : Around} {E : Value → Shared → Prop}
/-- d.get(y) -/
theorem d_get1 {Q : Value → Shared → Prop} (hu : A.units + 1 < cLine) (I : Inv X pins σ H s) (g : DGet H a y o) (ry : RelV y u) (h : ∀ w' s', Inv X pins σ H s' → RelV (o.getD .non) w' → Q w' s') :
    wpAny (model X.prog X.w) A (call (.builtin "dict.get") [.ref a, u]) Q E s := by
  rcases g with ⟨kvs, k, e, ey, l⟩ | ⟨kvs, k, b, e, ey, eb, l⟩
  · subst ey
    obtain ⟨z, hd, vs, rel, dd⟩ := dk_rd I.hok e
    refine call_meetsIn PySem.F.slot_dict_get dd.typeIs PySem.F.entry_dict_get (PySem.F.args_dict_get_2 _ _) (meets_dict_get (mixKind X.prog X.w) a (kV_is ry) hd) ⟨_, dd.mapOf, h _ _ (I.tok _) ?_⟩
    rw [l]
    exact (rel.val k).getD rfl
  · subst ey
    cases (show u = Value.ref b from ry)
    obtain ⟨z, hd, xs, rel, dd⟩ := dt_rd I.hok e
    refine call_meetsIn PySem.F.slot_dict_get dd.typeIs PySem.F.entry_dict_get (PySem.F.args_dict_get_2 _ _) (meetsH_dict_get (tupleKind (mixKind X.prog X.w)) a b hd) ⟨tupleKind_room_in1 hu, k, xs, key_of I.hok eb, dd, h _ _ (I.tok _) ?_⟩
    rw [l]
    exact (rel.val k).getD rfl
/-- d.get(y, x) -/
theorem d_get2 {Q : Value → Shared → Prop} (hu : A.units + 1 < cLine) (I : Inv X pins σ H s) (g : DGet H a y o) (ry : RelV y u) (rd : RelV d r) (h : ∀ w' s', Inv X pins σ H s' → RelV (o.getD d) w' → Q w' s') :
    wpAny (model X.prog X.w) A (call (.builtin "dict.get") [.ref a, u, r]) Q E s := by
  rcases g with ⟨kvs, k, e, ey, l⟩ | ⟨kvs, k, b, e, ey, eb, l⟩
  · subst ey
    obtain ⟨z, hd, vs, rel, dd⟩ := dk_rd I.hok e
    refine call_meetsIn PySem.F.slot_dict_get dd.typeIs PySem.F.entry_dict_get (PySem.F.args_dict_get_3 _ _ _) (meets_dict_get_default (mixKind X.prog X.w) a (kV_is ry) hd r) ⟨_, dd.mapOf, h _ _ (I.tok _) ?_⟩
    rw [l]
    exact (rel.val k).getD rd
  · subst ey
    cases (show u = Value.ref b from ry)
    obtain ⟨z, hd, xs, rel, dd⟩ := dt_rd I.hok e
    refine call_meetsIn PySem.F.slot_dict_get dd.typeIs PySem.F.entry_dict_get (PySem.F.args_dict_get_3 _ _ _) (meetsH_dict_get_default (tupleKind (mixKind X.prog X.w)) a b hd r) ⟨tupleKind_room_in1 hu, k, xs, key_of I.hok eb, dd, h _ _ (I.tok _) ?_⟩
    rw [l]
    exact (rel.val k).getD rd
end

def tDGet1 (td ty : TE) : TE := fun σ H Q => td σ H fun x H1 => ∃ a, x = .ref a ∧ IsD H1 a ∧ ty σ H1 fun y H2 => ∃ o, DGet H2 a y o ∧ Q (o.getD .non) H2
def tDGet2 (td ty tx : TE) : TE := fun σ H Q => td σ H fun x H1 => ∃ a, x = .ref a ∧ IsD H1 a ∧ ty σ H1 fun y H2 => tx σ H2 fun z H3 => ∃ o, DGet H3 a y o ∧ Q (o.getD z) H3
/-- d.pop(k): there; d.pop(k, x): there or not -/
def tDPop1 (td ty : TE) : TE := fun σ H Q => td σ H fun x H1 => ∃ a, x = .ref a ∧ IsD H1 a ∧ ty σ H1 fun y H2 => ∃ kvs k v, H2 a = some (.dK kvs) ∧ y = kV k ∧ valV kvs k = some v ∧ Q v (upd H2 a (.dK (dropK kvs k)))
def tDPop2 (td ty tx : TE) : TE := fun σ H Q => td σ H fun x H1 => ∃ a, x = .ref a ∧ IsD H1 a ∧ ty σ H1 fun y H2 => tx σ H2 fun z H3 => ∃ kvs k, H3 a = some (.dK kvs) ∧ y = kV k ∧
  (∀ v, valV kvs k = some v → Q v (upd H3 a (.dK (dropK kvs k)))) ∧ (valV kvs k = none → Q z H3)
section
variable {X : Cx} {o e f : Expr} {apos cpos : Pos} {td ty tx : TE}
theorem pe_dget1 (hu : X.A.units + 1 < cLine) (ho : PE X o td) (he : PE X e ty) (m : M1 X o "get" apos e cpos) : PE X (.Call (.Attribute o "get" apos) [e] [] cpos) (tDGet1 td ty) := by
  intro pins s σ H Q I h
  refine wpAny_Call_method m.base m.few m.line PySem.F.plainAttrs_dict PySem.F.slot_dict_get PySem.F.type_dict_get (thn (ho pins s σ H _ I h) fun u s1 ⟨x, H1, I1, rx, a, ex, d, q1⟩ => ?_)
  subst ex
  obtain rfl : u = Value.ref a := rx
  obtain ⟨t1, t2, _⟩ := isD_at I1 d
  refine ⟨t1, t2, ?_⟩
  rw [m.trees]
  refine Calls.callWith_builtin rfl (Calls.evalArgs_plain (Calls.spliced_cons (thn (he pins s1 σ H1 _ I1 q1) fun iv s2 ⟨y, H2, I2, ry, ov, g, q2⟩ => Calls.spliced_nil ?_)))
  exact d_get1 hu I2 g ry fun w' s3 I3 rw' => ⟨_, H2, I3, rw', q2⟩
theorem pe_dget2 (hu : X.A.units + 1 < cLine) (ho : PE X o td) (he : PE X e ty) (hf : PE X f tx) (m : M2 X o "get" apos e f cpos) : PE X (.Call (.Attribute o "get" apos) [e, f] [] cpos) (tDGet2 td ty tx) := by
  intro pins s σ H Q I h
  refine wpAny_Call_method m.base m.few m.line PySem.F.plainAttrs_dict PySem.F.slot_dict_get PySem.F.type_dict_get (thn (ho pins s σ H _ I h) fun u s1 ⟨x, H1, I1, rx, a, ex, d, q1⟩ => ?_)
  subst ex
  obtain rfl : u = Value.ref a := rx
  obtain ⟨t1, t2, _⟩ := isD_at I1 d
  refine ⟨t1, t2, ?_⟩
  rw [m.trees]
  refine Calls.callWith_builtin rfl (Calls.evalArgs_plain (Calls.spliced_cons (thn (he pins s1 σ H1 _ I1 q1) fun iv s2 ⟨y, H2, I2, ry, q2⟩ =>
    Calls.spliced_cons (thn (hf pins s2 σ H2 _ I2 q2) fun fv s3 ⟨z, H3, I3, rz, ov, g, q3⟩ => Calls.spliced_nil ?_))))
  exact d_get2 hu I3 g ry rz fun w' s4 I4 rw' => ⟨_, H3, I4, rw', q3⟩
theorem pe_dpop1 (ho : PE X o td) (he : PE X e ty) (m : M1 X o "pop" apos e cpos) : PE X (.Call (.Attribute o "pop" apos) [e] [] cpos) (tDPop1 td ty) := by
  intro pins s σ H Q I h
  refine wpAny_Call_method m.base m.few m.line PySem.F.plainAttrs_dict PySem.F.slot_dict_pop PySem.F.type_dict_pop (thn (ho pins s σ H _ I h) fun u s1 ⟨x, H1, I1, rx, a, ex, d, q1⟩ => ?_)
  subst ex
  obtain rfl : u = Value.ref a := rx
  obtain ⟨t1, t2, _⟩ := isD_at I1 d
  refine ⟨t1, t2, ?_⟩
  rw [m.trees]
  refine Calls.callWith_builtin rfl (Calls.evalArgs_plain (Calls.spliced_cons (thn (he pins s1 σ H1 _ I1 q1) fun iv s2 ⟨y, H2, I2, ry, kvs, k, v, ea, ey, l, q2⟩ => Calls.spliced_nil ?_)))
  subst ey
  exact d_pop I2 ea ry l (.inl rfl) fun w' s3 I3 rw' => ⟨v, _, I3, rw', q2⟩
theorem pe_dpop2 (ho : PE X o td) (he : PE X e ty) (hf : PE X f tx) (m : M2 X o "pop" apos e f cpos) : PE X (.Call (.Attribute o "pop" apos) [e, f] [] cpos) (tDPop2 td ty tx) := by
  intro pins s σ H Q I h
  refine wpAny_Call_method m.base m.few m.line PySem.F.plainAttrs_dict PySem.F.slot_dict_pop PySem.F.type_dict_pop (thn (ho pins s σ H _ I h) fun u s1 ⟨x, H1, I1, rx, a, ex, d, q1⟩ => ?_)
  subst ex
  obtain rfl : u = Value.ref a := rx
  obtain ⟨t1, t2, _⟩ := isD_at I1 d
  refine ⟨t1, t2, ?_⟩
  rw [m.trees]
  refine Calls.callWith_builtin rfl (Calls.evalArgs_plain (Calls.spliced_cons (thn (he pins s1 σ H1 _ I1 q1) fun iv s2 ⟨y, H2, I2, ry, q2⟩ =>
    Calls.spliced_cons (thn (hf pins s2 σ H2 _ I2 q2) fun fv s3 ⟨z, H3, I3, rz, kvs, k, ea, ey, q3, q4⟩ => Calls.spliced_nil ?_))))
  subst ey
  cases l : valV kvs k with
  | some v => exact d_pop I3 ea ry l (.inr ⟨fv, rfl⟩) fun w' s4 I4 rw' => ⟨v, _, I4, rw', q3 v l⟩
  | none => exact d_popD I3 ea ry l fun s4 I4 => ⟨z, H3, I4, rz, q4 l⟩
end

/-! ### dict(d): a copy -/
section
variable {X : Cx} {pins : List (Addr × Obj)} {σ : St} {H : Hp} {s : Shared} {a : Addr} {kvs : List (Key × V)} {A : Around} {E : Value → Shared → Prop}
theorem d_copyOf {Q : Value → Shared → Prop} (I : Inv X pins σ H s) (e : Rd H a (.dK kvs)) (h : ∀ p s', H p = none → Inv X pins σ (upd H p (.dK kvs)) s' → Q (.ref p) s') : wpAny (model X.prog X.w) A (call (.type "dict") [.ref a]) Q E s := by
  obtain ⟨z, hd, vs, rel, dd⟩ := dk_rd I.hok e
  refine kt_call_dict hd dd (by rw [← rel.length]; exact z) fun h' dd' hs => ?_
  refine h _ _ (I.hok.fresh (Nat.le_refl _)) (I.laid (a := s.heap.objs.size) (o := .dK kvs) (t' := s.toks) (fun b q hq => ?_) (Nat.le_refl _) (dk_new z (beq_eq_false_iff_ne.mpr (Ne.symm (Nat.ne_of_lt I.big))) rel dd'))
  exact (hs.2 b (Nat.ne_of_lt (Heap.lt_size hq))).trans (Heap.get?_push_of_some _ hq)
end


section
variable {X : Cx} {pins : List (Addr × Obj)} {σ : St} {H : Hp} {s : Shared} {a : Addr} {y : V} {u : Value} {A : Around} {E : Value → Shared → Prop}
/-- d[y], not there: a KeyError -/
theorem d_missing {Q : Value → Shared → Prop} (hu : A.units + 1 < cLine) (hh : A.handled = none) (I : Inv X pins σ H s) (g : DGet H a y none) (ry : RelV y u)
    (h : ∀ h' e t', Heap.NewExc s.heap h' e "KeyError" → E (.ref e) { s with heap := h', toks := t' }) : wpAny (model X.prog X.w) A (getItem (.ref a) u) Q E s := by
  rcases g with ⟨kvs, k, e, ey, l⟩ | ⟨kvs, k, b, e, ey, eb, l⟩
  · subst ey
    obtain ⟨z, hd, vs, rel, dd⟩ := dk_rd I.hok e
    have hn : valueAt vs k = none := RelO.none_of (by rw [l]; exact rel.val k)
    exact wpAny_getItem_missing_of (kV_is ry) hd hh dd.mapOf hn fun h' ex ne => h h' ex _ ne
  · subst ey
    cases (show u = Value.ref b from ry)
    obtain ⟨z, hd, xs, rel, dd⟩ := dt_rd I.hok e
    have hn : (atKey xs k).map (·.2) = none := RelO.none_of (by rw [l]; exact rel.val k)
    exact wpAny_getItem_missing_heap (tupleKind_room_in1 hu) (key_of I.hok eb) hd hh dd (Option.map_eq_none_iff.mp hn) fun h' ex ne => h h' ex _ ne
end
end L2

namespace L2
open PySem PySem.Spec PyProof.Rows
section
variable {X : Cx}
/-- len of a dict -/
theorem call_lenD : CallR X (.builtin "len") (fun xs H Q => ∃ a kvs, xs = [V.ref a] ∧ H a = some (.dK kvs) ∧ Q (.int kvs.length) H) := by
  intro pins s σ H xs us Q I r h
  obtain ⟨a, kvs, rfl, ha, q⟩ := h
  obtain ⟨u, rfl, ru⟩ := vals1 r
  cases ru
  exact d_len I (.inl ha) fun t s' I' => ⟨.int kvs.length, H, I', ⟨t, rfl⟩, q⟩
end
/-! ### a dict's pairs: keys that differ -/
section
variable {κ : Type} [DecidableEq κ]
theorem valV_not {kvs : List (κ × V)} {k : κ} (h : valV kvs k = none) : ¬ k ∈ kvs.map (·.1) := by
  intro m
  obtain ⟨p, hp, e⟩ := List.mem_map.mp m
  have q : (kvs.any fun kv => decide (kv.1 = k)) = true := List.any_eq_true.mpr ⟨p, hp, decide_eq_true e⟩
  rw [valV_any, h] at q
  exact absurd q (by simp)
theorem valV_in {kvs : List (κ × V)} {k : κ} {v : V} (h : valV kvs k = some v) : k ∈ kvs.map (·.1) := by
  have q : (kvs.any fun kv => decide (kv.1 = k)) = true := by
    rw [valV_any, h]
    all_goals rfl
  obtain ⟨p, hp, e⟩ := List.any_eq_true.mp q
  exact List.mem_map.mpr ⟨p, hp, of_decide_eq_true e⟩
theorem nd_snoc : ∀ {l : List κ} {k : κ}, l.Nodup → ¬ k ∈ l → (l ++ [k]).Nodup
  | [], k, _, _ => by simp
  | a :: r, k, h, hk => by
    obtain ⟨h1, h2⟩ := List.nodup_cons.mp h
    show (a :: (r ++ [k])).Nodup
    refine List.nodup_cons.mpr ⟨fun m => ?_, nd_snoc h2 fun m => hk (List.mem_cons.mpr (Or.inr m))⟩
    rcases List.mem_append.mp m with q | q
    · exact h1 q
    · exact hk (List.mem_cons.mpr (Or.inl (List.mem_singleton.mp q).symm))
theorem nd_putK {kvs : List (κ × V)} {k : κ} (v : V) (hn : (kvs.map (·.1)).Nodup) (h : valV kvs k = none) : ((putK kvs k v).map (·.1)).Nodup := by
  rw [putK_new v h, List.map_append]
  exact nd_snoc hn (valV_not h)
theorem dropK_pos {p : κ × V} {r : List (κ × V)} {k : κ} (e : p.1 = k) : dropK (p :: r) k = dropK r k := by
  unfold dropK
  rw [List.filter_cons, if_neg (by simp [e])]
theorem dropK_neg {p : κ × V} {r : List (κ × V)} {k : κ} (e : ¬ p.1 = k) : dropK (p :: r) k = p :: dropK r k := by
  unfold dropK
  rw [List.filter_cons, if_pos (by simp [e])]
theorem dropK_no : ∀ {kvs : List (κ × V)} {k : κ}, ¬ k ∈ kvs.map (·.1) → dropK kvs k = kvs
  | [], _, _ => rfl
  | p :: r, k, h => by
    have h' : ¬ k ∈ r.map (·.1) := fun m => by
      obtain ⟨q, hq, e⟩ := List.mem_map.mp m
      exact h (List.mem_map.mpr ⟨q, List.mem_cons.mpr (Or.inr hq), e⟩)
    rw [dropK_neg fun e => h (List.mem_map.mpr ⟨p, List.mem_cons.mpr (Or.inl rfl), e⟩), dropK_no h']
theorem dropK_mem {kvs : List (κ × V)} {k : κ} {p : κ × V} (h : p ∈ dropK kvs k) : p ∈ kvs := (List.mem_filter.mp h).1
theorem nd_dropK : ∀ {kvs : List (κ × V)} {k : κ}, (kvs.map (·.1)).Nodup → ((dropK kvs k).map (·.1)).Nodup
  | [], _, _ => List.nodup_nil
  | p :: r, k, h => by
    have h : (p.1 :: r.map (·.1)).Nodup := h
    obtain ⟨h1, h2⟩ := List.nodup_cons.mp h
    by_cases e : p.1 = k
    · rw [dropK_pos e]
      exact nd_dropK h2
    · rw [dropK_neg e]
      show (p.1 :: (dropK r k).map (·.1)).Nodup
      refine List.nodup_cons.mpr ⟨fun m => h1 ?_, nd_dropK h2⟩
      obtain ⟨q, hq, eq⟩ := List.mem_map.mp m
      exact List.mem_map.mpr ⟨q, dropK_mem hq, eq⟩
theorem dropK_len : ∀ {kvs : List (κ × V)} {k : κ}, (kvs.map (·.1)).Nodup → k ∈ kvs.map (·.1) → (dropK kvs k).length + 1 = kvs.length
  | [], _, _, m => by simp at m
  | p :: r, k, h, m => by
    have h : (p.1 :: r.map (·.1)).Nodup := h
    have m : k = p.1 ∨ k ∈ r.map (·.1) := List.mem_cons.mp m
    obtain ⟨h1, h2⟩ := List.nodup_cons.mp h
    by_cases e : p.1 = k
    · subst e
      rw [dropK_pos rfl, dropK_no h1]
      all_goals rfl
    · have m' : k ∈ r.map (·.1) := m.resolve_left fun z => e z.symm
      have q := dropK_len h2 m'
      rw [dropK_neg e, List.length_cons, List.length_cons]
      omega
end
end L2

/-! COMPREHENSIONS of lists, over whatever a for may walk; one clause, no test or one -/
namespace L2
open PySem PySem.Spec PyProof.Rows

/-! ### what a block closes over -/
def closList (env : Env) : List (Str × NameKind) → List (Str × Addr) → List (Str × Addr)
  | [], cs => cs
  | (n, k) :: r, cs => closList env r (if k == .free then (match env.cells.lookup n with | some c => (n, c) :: cs | none => cs) else cs)
theorem closureFor_list {env : Env} {scope : Scope} (h : ∀ x ∈ scope.names, x.2 = .free → ∃ c, env.cells.lookup x.1 = some c) : closureFor scope env = pure (closList env scope.names []) := by
  unfold closureFor
  have key : ∀ (names : List (Str × NameKind)) (cs : List (Str × Addr)), (∀ x ∈ names, x.2 = .free → ∃ c, env.cells.lookup x.1 = some c) →
      (forIn names cs (fun (x : Str × NameKind) (r : List (Str × Addr)) => (match x with | (name, kind) => if (kind == NameKind.free) = true then (do let c ← cellOf env name; pure (ForInStep.yield ((name, c) :: r))) else pure (ForInStep.yield r) : Sem (ForInStep (List (Str × Addr)))))) = (pure (closList env names cs) : Sem (List (Str × Addr))) := by
    intro names
    induction names with
    | nil => intro cs _; rfl
    | cons x r ih =>
      intro cs hx
      obtain ⟨n, k⟩ := x
      have hr := fun y hy => hx y (List.mem_cons_of_mem _ hy)
      rw [List.forIn_cons]
      by_cases hk : k = .free
      · subst hk
        obtain ⟨c, hc⟩ := hx (n, .free) List.mem_cons_self rfl
        have hc' : env.cells.lookup n = some c := hc
        have e1 : cellOf env n = pure c := by unfold cellOf; rw [hc']
        simp only [beq_self_eq_true, if_true, e1, pure_bind, closList, hc']
        exact ih _ hr
      · have hb : (k == NameKind.free) = false := by simpa using hk
        simp only [hb, Bool.false_eq_true, if_false, pure_bind, closList]
        exact ih _ hr
  have := key scope.names [] h
  simpa using this
theorem closList_mem {env : Env} : ∀ {names : List (Str × NameKind)} {cs : List (Str × Addr)} {x : Str} {c : Addr}, (x, c) ∈ closList env names cs → (x, c) ∈ cs ∨ env.cells.lookup x = some c
  | [], cs, x, c, h => .inl h
  | (n, k) :: r, cs, x, c, h => by
    rcases closList_mem (names := r) h with h | h
    · by_cases hk : (k == NameKind.free) = true
      · rw [if_pos hk] at h
        cases e : env.cells.lookup n with
        | none => rw [e] at h; exact .inl h
        | some d =>
          rw [e] at h
          rcases List.mem_cons.mp h with z | z
          · cases z; exact .inr e
          · exact .inl z
      · rw [if_neg hk] at h; exact .inl h
    · exact .inr h
theorem closList_has {env : Env} : ∀ {names : List (Str × NameKind)} {cs : List (Str × Addr)} {x : Str}, ((∃ c, (x, c) ∈ cs) ∨ ((x, NameKind.free) ∈ names ∧ ∃ c, env.cells.lookup x = some c)) → ∃ c, (x, c) ∈ closList env names cs
  | [], cs, x, h => by
    rcases h with h | ⟨h, _⟩
    · exact h
    · cases h
  | (n, k) :: r, cs, x, h => by
    refine closList_has (names := r) ?_
    by_cases hk : (k == NameKind.free) = true
    · rw [if_pos hk]
      rcases h with ⟨c, h⟩ | ⟨h, c, hc⟩
      · cases e : env.cells.lookup n with
        | none => exact .inl ⟨c, h⟩
        | some d => exact .inl ⟨c, List.mem_cons_of_mem _ h⟩
      · rcases List.mem_cons.mp h with z | z
        · cases z
          rw [hc]
          exact .inl ⟨c, List.mem_cons_self⟩
        · exact .inr ⟨z, c, hc⟩
    · rw [if_neg hk]
      rcases h with h | ⟨h, c, hc⟩
      · exact .inl h
      · rcases List.mem_cons.mp h with z | z
        · cases z; exact absurd (by rfl : (NameKind.free == NameKind.free) = true) hk
        · exact .inr ⟨z, c, hc⟩
theorem lookup_of_mem {κ β : Type} [BEq κ] [LawfulBEq κ] : ∀ {l : List (κ × β)} {x : κ} {c : β}, (x, c) ∈ l → ∃ d, l.lookup x = some d
  | (n, d) :: r, x, c, h => by
    by_cases e : x = n
    · subst e; exact ⟨d, by simp [List.lookup_cons]⟩
    · rcases List.mem_cons.mp h with z | z
      · cases z; exact absurd rfl e
      · obtain ⟨d', hd⟩ := lookup_of_mem z
        refine ⟨d', ?_⟩
        have : (x == n) = false := by simpa using e
        simp [List.lookup_cons, this, hd]
theorem relabel_lookup {scope : Scope} {env : Env} {x : Str} : (relabel scope env).names.lookup x = (scope.names.lookup x).map fun k => if (k == .free && env.scope.kind == .function && env.kindOf x == some .cell) then .cell else k := by
  unfold relabel
  show List.lookup x (scope.names.map fun (n, k) => if (k == .free && env.scope.kind == .function && env.kindOf n == some .cell) then (n, .cell) else (n, k)) = _
  generalize scope.names = l
  induction l with
  | nil => rfl
  | cons p r ih =>
    obtain ⟨n, k⟩ := p
    rw [List.map_cons]
    by_cases e : x = n
    · subst e
      by_cases hc : (k == NameKind.free && env.scope.kind == .function && env.kindOf x == some .cell) = true
      · rw [show (match (x, k) with | (n, k) => if (k == .free && env.scope.kind == .function && env.kindOf n == some .cell) = true then (n, NameKind.cell) else (n, k)) = (x, .cell) from if_pos hc]
        rw [List.lookup_cons, List.lookup_cons, beq_self_eq_true]
        show some NameKind.cell = some (if _ then _ else _)
        rw [if_pos hc]
      · rw [show (match (x, k) with | (n, k) => if (k == .free && env.scope.kind == .function && env.kindOf n == some .cell) = true then (n, NameKind.cell) else (n, k)) = (x, k) from if_neg hc]
        rw [List.lookup_cons, List.lookup_cons, beq_self_eq_true]
        show some k = some (if _ then _ else _)
        rw [if_neg hc]
    · have hb : (x == n) = false := by simpa using e
      by_cases hc : (k == NameKind.free && env.scope.kind == .function && env.kindOf n == some .cell) = true
      · rw [show (match (n, k) with | (n, k) => if (k == .free && env.scope.kind == .function && env.kindOf n == some .cell) = true then (n, NameKind.cell) else (n, k)) = (n, .cell) from if_pos hc]
        simp only [List.lookup_cons, hb]; exact ih
      · rw [show (match (n, k) with | (n, k) => if (k == .free && env.scope.kind == .function && env.kindOf n == some .cell) = true then (n, NameKind.cell) else (n, k)) = (n, k) from if_neg hc]
        simp only [List.lookup_cons, hb]; exact ih

/-! ### the block's context -/
abbrev compX (X : Cx) (pins : List (Addr × Obj)) (N' : List Str) (scope : Scope) (cl : List (Str × Addr)) (C : Addr) (fp : List Addr) (s : Shared) (H : Hp) : Cx :=
  { X with N := N', s₀ := s, H₀ := H, env := compEnvC scope cl C X.env, outer := X.stack, stack := X.stack, ex := fp, fn := fun _ => false, pn := X.pn ++ pins, xe := fun _ _ => False }

/-- the tests of a clause -/
def PIfs (X : Cx) (ifs : List Expr) (tt : TT) : Prop :=
  ∀ (pins : List (Addr × Obj)) (s : Shared) (σ : St) (H : Hp) (Q : Bool → Hp → Prop), Inv X pins σ H s → tt σ H Q →
    wpAny (model X.prog X.w) X.A (forIn ifs true fun c r => if r = true then do let ok ← isTrue c X.env (eval c X.env); pure (ForInStep.yield ok) else pure (ForInStep.yield r)) (TP X pins σ Q) X.xe s
def tYes : TT := fun _ H Q => Q true H
theorem pifs_nil {X : Cx} : PIfs X [] tYes := fun _ _ _ H _ I h => wpAny_tests_nil ⟨H, I, h⟩
theorem pifs_one {X : Cx} {c : Expr} {tt : TT} (hc : PT X c tt) : PIfs X [c] tt := fun pins s σ H Q I h => wpAny_tests_one (hc pins s σ H Q I h)

/-- what a block's walk wants: W the invariant by the turn, a measure, the names, the list so far -/
def compR (J : It) (g : TG) (tt : TT) (te : TE) (σ0 : St) (H0 : Hp) (R : List V → Hp → Prop) : Prop :=
  ∃ W : Nat → Nat → St → List V → Hp → Prop, (∃ m, W 0 m σ0 [] H0) ∧ ∀ i m σ xs H, W i m σ xs H → xs.length < sizeLine ∧
    ((J.stop i H ∧ R xs H) ∨ (J.go i H ∧ ∃ N : St → List V → Hp → Prop, (∀ σ' xs' H', N σ' xs' H' → ∃ m', m' < m ∧ W (i + 1) m' σ' xs' H') ∧
      ∀ x H', J.yld i H x H' → g x σ H' fun σ2 H2 => tt σ2 H2 fun b H3 => if b = true then te σ2 H3 fun v H4 => N σ2 (xs ++ [v]) H4 else N σ2 xs H3))
/-- the names at a block's beginning: the clause's own (n of them), then those closed over -/
def compS (n : Nat) (fr : List Nat) (σ : St) : St := List.replicate n none ++ fr.map fun j => (σ[j]?).join

section
variable {X : Cx} {pins : List (Addr × Obj)} {σ : St} {H : Hp} {s : Shared} {tg elt iter : Expr} {ifs : List Expr} {scope : Scope} {pos : Pos} {it : Addr} {fp : List Addr} {tn : Nat → Heap → Prop} {J : It}
  {vars frs' : List Str} {fr : List Nat} {g : TG} {tt : TT} {te : TE}

/-- the scope of a block -/
structure CompScope (X : Cx) (scope : Scope) (vars frs' : List Str) (fr : List Nat) : Prop where
  kind : scope.kind = .function
  nocell : ∀ y ∈ scope.names, y.2 ≠ .cell
  names : ∀ x ∈ scope.names, x.2 = .local → scope.names.lookup x.1 = some .local
  frees : ∀ y ∈ scope.names, y.2 = .free → X.env.kindOf y.1 = some .cell ∨ X.env.kindOf y.1 = some .free
  fr : Paired (fun (x : Str) (j : Nat) => X.N[j]? = some x ∧ scope.names.lookup x = some .free) frs' fr

theorem Paired.get {α β : Type} {F : α → β → Prop} : ∀ {l₁ : List α} {l₂ : List β} {i : Nat} {a : α}, Paired F l₁ l₂ → l₁[i]? = some a → ∃ b, l₂[i]? = some b ∧ F a b
  | _, _, _, _, .nil, e => by simp at e
  | _, _, 0, _, .cons r _, e => by simp at e; subst e; exact ⟨_, rfl, r⟩
  | _, _, i + 1, a, .cons _ t, e => by
    obtain ⟨b, h1, h2⟩ := Paired.get (i := i) (a := a) t (by simpa using e)
    exact ⟨b, by simpa using h1, h2⟩

theorem Inv.notStk (I : Inv X pins σ H s) {b : Addr} (h1 : b ≠ X.env.locals) (h2 : b ∉ X.fs) : b ∉ frs X.stack := fun z => by
  rcases List.mem_cons.mp (I.stkSub b z) with e | e
  · exact h1 e
  · exact h2 e
theorem Inv.stkLt (I : Inv X pins σ H s) {b : Addr} (h : b ∈ frs X.stack) : b < s.heap.objs.size := by
  obtain ⟨_, o, e, _⟩ := I.stack.mem h
  exact Heap.lt_size e

/-- the block, from the state behind the iterator's making -/
theorem comp_block {RR : Value → Addr → Result → Shared → Prop} {E : Value → Shared → Prop} (I : Inv X pins σ H s) (hc : X.calm = true) (T : Turn X.prog X.w X.K tg J fp it tn) (st : tn 0 s.heap) (f : ∀ b ∈ fp, FpOk X pins H b)
    (S : CompScope X scope vars frs' fr) {R : List V → Hp → Prop} (r : compR J g tt te (compS vars.length fr σ) H R)
    (hb : ∀ (cl : List (Str × Addr)) (C : Addr), PG (compX X pins (vars ++ frs') scope cl C fp s H) tg g ∧ PIfs (compX X pins (vars ++ frs') scope cl C fp s H) ifs tt ∧ PE (compX X pins (vars ++ frs') scope cl C fp s H) elt te)
    (fin : ∀ (D C : Addr) (s' : Shared) (H' : Hp) (xs : List V), H' D = none → xs.length < sizeLine → R xs H' → Inv X pins σ (upd H' D (.lst xs)) s' → FpOk X pins (upd H' D (.lst xs)) C → (∃ m, s'.heap.Ns C m) → RR (.ref D) C (.ok .next) s') :
    wpAny (model X.prog X.w) X.A (newList []) (fun acc s₃ => wpAny (model X.prog X.w) X.A (newFunctionEnv scope X.env.globals (closList X.env scope.names []) [] X.env.qual none .none (some X.env)) (fun cenv s₄ =>
      codeAny (model X.prog X.w) X.A (.compStart (.ListComp elt [⟨tg, iter, ifs, 0⟩] scope pos) 0 (.ref it) acc { cenv with scope := relabel scope X.env }) (RR acc cenv.locals) s₄) E s₃) E s := by
  refine wpAny_newObj_type (wpAny_newFunctionEnv S.nocell (by intro y hy; simp at hy) (fun h₁ hns₁ hsb₁ => ?_) S.kind)
  dsimp only at hns₁ hsb₁ ⊢
  generalize hH2 : s.heap.push { cls := .type "list", dict := none, data := .seq ([] : List Value).toArray } = H2 at hns₁ hsb₁ ⊢
  have hC : H2.objs.size = s.heap.objs.size + 1 := by rw [← hH2, Heap.size_push]
  -- D = s.heap.objs.size, C = H2.objs.size
  have hDC : s.heap.objs.size ≠ H2.objs.size := by omega
  have below : ∀ b, b < s.heap.objs.size → b ≠ H2.objs.size ∧ b ≠ s.heap.objs.size := fun b hb => ⟨by omega, by omega⟩
  have old : ∀ b o, s.heap.get? b = some o → h₁.get? b = some o := fun b o e => hsb₁.extBut b o (below b (Heap.lt_size e)).1 (Heap.get?_push_of_some _ (hH2 ▸ Heap.get?_push_of_some _ e))
  have hacc : h₁.PlainList s.heap.objs.size #[] := ⟨_, hsb₁.extBut _ _ hDC (Heap.get?_push_of_some _ (hH2 ▸ Heap.get?_push_size _ rfl))⟩
  generalize hDe : s.heap.objs.size = D at *
  generalize hCe : H2.objs.size = C at *
  obtain ⟨hPG, hPI, hPE⟩ := hb (closList X.env scope.names []) C
  generalize hcle : closList X.env scope.names [] = cl at *
  have hcl1 : ∀ x c, cl.lookup x = some c → X.env.cells.lookup x = some c := fun x c e => by
    subst hcle
    rcases closList_mem (PySem.mem_of_lookup e) with z | z
    · cases z
    · exact z
  have hcl2 : ∀ x, scope.names.lookup x = some .free → ∃ c, cl.lookup x = some c := fun x e => by
    subst hcle
    obtain ⟨c, hc⟩ := I.ok.has x (S.frees (x, .free) (PySem.mem_of_lookup e) rfl)
    obtain ⟨d, hd⟩ := closList_has (env := X.env) (names := scope.names) (cs := []) (x := x) (.inr ⟨PySem.mem_of_lookup e, c, hc⟩)
    exact lookup_of_mem hd
  have kind' : ∀ x k, (compEnvC scope cl C X.env).kindOf x = some k → (k = .cell ∨ k = .free) → scope.names.lookup x = some .free := fun x k e hk => by
    have e' : (relabel scope X.env).names.lookup x = some k := e
    rw [relabel_lookup] at e'
    cases q : scope.names.lookup x with
    | none => rw [q] at e'; cases e'
    | some k0 =>
      rw [q, Option.map_some] at e'
      have e2 := Option.some.inj e'
      by_cases z : (k0 == NameKind.free && X.env.scope.kind == .function && X.env.kindOf x == some .cell) = true
      · have : k0 = .free := by
          simp only [Bool.and_eq_true, beq_iff_eq] at z
          exact z.1.1
        rw [this]
      · rw [if_neg z] at e2
        subst e2
        rcases hk with rfl | rfl
        · exact absurd rfl (S.nocell _ (PySem.mem_of_lookup q))
        · rfl
  have fpLt : ∀ b ∈ fp, @LT.lt Nat _ b D := fun b hb => by
    obtain ⟨o, e, _⟩ := T.obj 0 _ st b hb
    rw [← hDe]; exact Heap.lt_size e
  have ok' : (compX X pins (vars ++ frs') scope cl C fp s H).Ok := by
    refine ⟨I.ok.mod, ?_, I.ok.glob, I.ok.blt, ?_, ?_, ?_, ?_, I.ok.hd, I.ok.frames, .inl rfl, ?_, I.bs, Nat.le_trans I.ok.bsz I.sz, ?_, ?_, I.stack, I.stkFree⟩
    · exact S.kind
    · show s.heap.objs.size ≤ C
      omega
    · intro x y c h1 h2
      exact I.ok.inj x y c (hcl1 x c h1) (hcl1 y c h2)
    · intro x hx
      rcases hx with hx | hx
      · exact hcl2 x (kind' x _ hx (.inl rfl))
      · exact hcl2 x (kind' x _ hx (.inr rfl))
    · intro x c h1
      exact absurd h1 Bool.false_ne_true
    · intro b hb
      have hlt := fpLt b hb
      refine ⟨fun z => ?_, fun x c e => (f b hb).2.2.2.2.1 x c (hcl1 x c e)⟩
      have z' : @Eq Nat b C := z
      omega
    · intro b o e hb
      rcases (f b hb).2.2.2.1 with z | z
      · exact I.ok.noex b o e z
      · have h1 : @LT.lt Nat _ b X.base.objs.size := Heap.lt_size e
        have h2 := I.ok.bsz
        omega
    · intro b hb
      exact I.notStk (f b hb).2.1 (f b hb).2.2.1
  obtain ⟨n0, hacc0⟩ := hacc
  -- the first state
  have pinC : ∀ p ∈ X.pn ++ pins, p.1 ≠ D ∧ p.1 ≠ C := fun p hp => by
    have h1 : @LT.lt Nat _ p.1 _ := Heap.lt_size (I.pin p hp).1
    exact ⟨fun z => by have z' : @Eq Nat p.1 D := z; omega, fun z => by have z' : @Eq Nat p.1 C := z; omega⟩
  have hD0 : H D = none := I.hok.fresh (by omega)
  have hC0 : H C = none := I.hok.fresh (by omega)
  have stkD : D ∉ frs X.stack := fun z => by
    have h1 : @LT.lt Nat _ D _ := I.stkLt z
    omega
  have I1 : Inv (compX X pins (vars ++ frs') scope cl C fp s H) [(D, { cls := .type "list", data := .seq ([] : List Value).toArray n0 })] (compS vars.length fr σ) H { s with heap := h₁, toks := s.toks + ([] : List (Str × Value)).length } := by
    refine ⟨ok', rfl, I.bare, Un.kept old, ⟨_, hns₁, fun i x v h1 h2 h3 => ?_⟩, fun x c e => ?_, hC0, fun x c e => I.freeC x c (hcl1 x c e), fun p hp => ?_, I.hok.kept old, ?_⟩
    · -- a name closed over
      have h1' : (vars ++ frs')[i]? = some x := h1
      unfold compS at h2
      by_cases hi : i < vars.length
      · rw [List.getElem?_append_left (by simpa using hi), List.getElem?_replicate] at h2
        split at h2 <;> cases h2
      · have hi' : vars.length ≤ i := by omega
        rw [List.getElem?_append_right (by simpa using hi'), List.getElem?_map, List.length_replicate] at h2
        rw [List.getElem?_append_right hi'] at h1'
        obtain ⟨j, hj, hN, hfree⟩ := Paired.get S.fr h1'
        rw [hj] at h2
        have h2' : (σ[j]?).join = some v := by simpa using h2
        have h2'' : σ[j]? = some (some v) := by
          cases q : σ[j]? with
          | none => rw [q] at h2'; cases h2'
          | some w' => rw [q] at h2'; have : w' = some v := h2'; rw [this]
        have hk := S.frees (x, .free) (PySem.mem_of_lookup hfree) rfl
        have hk' : X.env.kindOf x = some .cell ∨ X.env.kindOf x = some .free := hk
        obtain ⟨m, hn, hl⟩ := I.loc
        obtain ⟨u, ru, lu⟩ := hl j x v hN h2'' (by rcases hk' with z | z; exact .inr (.inl z); exact .inr (.inr z))
        refine ⟨u, ru, .inr ⟨?_, ?_⟩⟩
        · have e : (compEnvC scope cl C X.env).kindOf x = some (if (NameKind.free == .free && X.env.scope.kind == .function && X.env.kindOf x == some .cell) = true then .cell else .free) := by
            show (relabel scope X.env).names.lookup x = _
            rw [relabel_lookup, hfree]; rfl
          by_cases z : (NameKind.free == .free && X.env.scope.kind == .function && X.env.kindOf x == some .cell) = true
          · rw [if_pos z] at e; exact .inl e
          · rw [if_neg z] at e; exact .inr e
        · obtain ⟨c, hc'⟩ := hcl2 x hfree
          refine ⟨c, hc', ?_⟩
          rcases lu with ⟨l1, _⟩ | ⟨_, c', e', z'⟩
          · rcases hk' with z | z
            · rw [z] at l1; cases l1
            · rw [z] at l1; cases l1
          · have := hcl1 x c hc'
            rw [e'] at this; cases this
            obtain ⟨o, ho, hd⟩ := z'
            exact ⟨o, old _ _ ho, hd⟩
    · obtain ⟨v, o, ho, hd⟩ := I.cell x c (hcl1 x c e)
      exact ⟨v, o, old _ _ ho, hd⟩
    · rcases List.mem_append.mp hp with hp | hp
      · obtain ⟨e1, e2, e3, e4, e5⟩ := I.pin p hp
        exact ⟨old _ _ e1, e2, (pinC p hp).2, I.notStk e3 e4, e5⟩
      · have e : p = (D, { cls := .type "list", data := .seq ([] : List Value).toArray n0 }) := by simpa using hp
        subst e
        exact ⟨hacc0, hD0, hDC, stkD, fun v z => by cases z⟩
    · show (compS vars.length fr σ).length = (vars ++ frs').length
      unfold compS
      rw [List.length_append, List.length_append, List.length_replicate, List.length_map, Paired.length S.fr]
  -- the loop
  have loop : ∀ s₃ : Shared, s₃ = { s with heap := h₁, toks := s.toks + ([] : List (Str × Value)).length } →
      codeAny (model X.prog X.w) X.A (.compLoop (.ListComp elt [⟨tg, iter, ifs, 0⟩] scope pos) 0 (.ref it) (.ref D) (compEnvC scope cl C X.env)) (RR (.ref D) C) s₃ := by
    rintro s₃ rfl
    obtain ⟨W, ⟨m0, w0⟩, turn⟩ := r
    have stat : ∀ {H' : Hp} {o : Obj}, (∀ b ∈ fp, H' b = none) → ∀ b ∈ fp, FpOk (compX X pins (vars ++ frs') scope cl C fp s H) [(D, o)] H' b := fun {H' o} hn b hb => by
      have hlt := fpLt b hb
      refine ⟨hn b hb, fun z => ?_, I.notStk (f b hb).2.1 (f b hb).2.2.1, .inl hb, fun x c e => (f b hb).2.2.2.2.1 x c (hcl1 x c e), fun p hp => ?_⟩
      · have z' : @Eq Nat b C := z
        omega
      · rcases List.mem_append.mp hp with hp | hp
        · exact (f b hb).2.2.2.2.2 p hp
        · have e : p = (D, o) := by simpa using hp
          subst e
          intro z
          have z' : @Eq Nat D b := z
          omega
    refine codeAny_loop rfl (fun n s' => ∃ i σ' xs H' its k, Inv (compX X pins (vars ++ frs') scope cl C fp s H) [(D, { cls := .type "list", data := .seq its k })] σ' H' s' ∧ Vals xs its.toList ∧ tn i s'.heap ∧ (∀ b ∈ fp, H' b = none) ∧ W i n σ' xs H') ?_ m0
      ⟨0, _, [], H, _, _, I1, .nil, T.keep _ _ _ st fun b _ o e => old b o e, fun b hb => (f b hb).1, w0⟩
    rintro n s3 ⟨i, σ3, xs, H3, its, k, I3, rv3, st3, fr3, w3⟩
    show wpAny _ X.A ((compTurn (.ListComp elt [⟨tg, iter, ifs, 0⟩] scope pos) 0 (.ref it) (.ref D) (compEnvC scope cl C X.env)).onRaise (fun x => do noteFrame x (compEnvC scope cl C X.env); theTreesLotGoes x)) _ _ s3
    refine wpAny_noted ?_
    rw [compTurn_list]
    refine wpAny_bind (wpAny_standAt (wpAny_bind ?_))
    obtain ⟨hsz, turn3⟩ := turn i n σ3 xs H3 w3
    rcases turn3 with ⟨stop, qn⟩ | ⟨go, N, hN, step⟩
    · refine thn (T.done (compX X pins (vars ++ frs') scope cl C fp s H) rfl rfl rfl hc i _ s3 σ3 H3 _ I3 (stat fr3) st3 stop) fun r s4 ⟨hr, I4⟩ => ?_
      subst hr
      refine wpAny_pure ?_
      -- out of the block
      obtain ⟨eD, nD, _⟩ := I4.pin (D, _) (List.mem_append_right _ List.mem_cons_self)
      have ne_of' : ∀ {b : Addr} {u : HO}, H3 b = some u → b ≠ D := fun e z => by
        rw [z] at e
        have nD' : H3 D = none := nD
        rw [nD'] at e
        cases e
      have hU : Un (frs X.stack) fp H (upd H3 D (.lst xs)) s.heap s4.heap := by
        have u := I4.base
        refine ⟨u.keep, u.slot, fun b o e n hx => ?_, u.there, fun b ys e => ?_, fun b o y e => ?_, fun b ps e => ?_⟩
        · rw [upd_ne (fun z => by have h1 : @LT.lt Nat _ b _ := Heap.lt_size e; have z' : @Eq Nat b D := z; omega)]; exact u.free b o e n hx
        · have q := u.tups b ys e
          rw [upd_ne (ne_of' q)]; exact q
        · have q := u.frzs b o y e
          rw [upd_ne (ne_of' q)]; exact q
        · obtain ⟨more, q⟩ := u.tbls b ps e
          exact ⟨more, by rw [upd_ne (ne_of' q)]; exact q⟩
      have hok4 : HOk X.prog X.w (upd H3 D (.lst xs)) s4.heap := fun b u e => by
        by_cases hbD : b = D
        · subst hbD
          rw [upd_same] at e; cases e
          exact ⟨Nat.le_of_lt hsz, its.toList, k, rv3, by simpa using eD⟩
        · rw [upd_ne hbD] at e
          exact (I4.hok b u e).stay (fun _ _ _ q => q) (fun c q => by rw [upd_ne (ne_of' q)]; exact q) fun c ys q => by rw [upd_ne (ne_of' q)]; exact q
      have I5 : Inv X pins σ (upd H3 D (.lst xs)) s4 := I.call' (ch := fp) I4.os hU hok4 I4.bare fun b hb => ⟨(f b hb).2.2.2.1, (f b hb).2.1, (f b hb).2.2.2.2.1, (f b hb).2.2.2.2.2⟩
      have fC : FpOk X pins (upd H3 D (.lst xs)) C := I.fpOk (by omega) (by rw [upd_ne (Ne.symm hDC)]; exact I4.free)
      obtain ⟨m4, hn4, _⟩ := I4.loc
      exact fin D C s4 H3 xs nD hsz qn I5 fC ⟨m4, hn4⟩
    · refine thn (T.item (compX X pins (vars ++ frs') scope cl C fp s H) rfl rfl rfl hc i _ s3 σ3 H3 _ I3 (stat fr3) st3 go) fun r s4 ⟨u, hr, h4⟩ => ?_
      subst hr
      refine wpAny_bind (thn h4 fun _ s5 ⟨x, H5, I5, r5, y5, st5, fr5⟩ => ?_)
      have I5' := I5.pinned (stat fr5) (T.obj _ _ st5)
      refine wpAny_bind (wpAny_mono (hPG _ s5 σ3 H5 x u _ I5' r5 (step x H5 y5)) (fun _ s6 ⟨σ6, H6, I6, q6⟩ => ?_) fun _ _ z => False.elim z)
      refine wpAny_bind (wpAny_mono (hPI _ s6 σ6 H6 _ I6 q6) (fun ok s7 ⟨H7, I7, q7⟩ => ?_) fun _ _ z => False.elim z)
      have mD : ∀ {σ' : St} {H' : Hp} {s' : Shared}, Inv (compX X pins (vars ++ frs') scope cl C fp s H) ([(D, { cls := .type "list", data := .seq its k })] ++ pinsAt fp s5.heap) σ' H' s' → s'.heap.get? D = some { cls := .type "list", data := .seq its k } ∧ H' D = none := fun J =>
        let q := J.pin (D, _) (List.mem_append_right _ (List.mem_append_left _ List.mem_cons_self))
        ⟨q.1, q.2.1⟩
      have mF : ∀ {σ' : St} {H' : Hp} {s' : Shared}, Inv (compX X pins (vars ++ frs') scope cl C fp s H) ([(D, { cls := .type "list", data := .seq its k })] ++ pinsAt fp s5.heap) σ' H' s' →
          (∀ b ∈ fp, ∀ o, s5.heap.get? b = some o → s'.heap.get? b = some o) ∧ (∀ b ∈ fp, H' b = none) := fun J =>
        ⟨fun b hb o e => (J.pin (b, o) (List.mem_append_right _ (List.mem_append_right _ (mem_pinsAt hb e)))).1, fun b hb => by
          obtain ⟨o, e, d⟩ := T.obj _ _ st5 b hb
          exact (J.pin (b, o) (List.mem_append_right _ (List.mem_append_right _ (mem_pinsAt hb e)))).2.1⟩
      cases ok with
      | false =>
        have q7' : N σ6 xs H7 := q7
        obtain ⟨m', hm, w7⟩ := hN _ _ _ q7'
        refine wpAny_pure ⟨rfl, m', hm, i + 1, σ6, xs, H7, its, k, I7.unpinned, rv3, T.keep _ _ _ st5 (mF I7).1, (mF I7).2, w7⟩
      | true =>
        have q7' : te σ6 H7 fun v H4 => N σ6 (xs ++ [v]) H4 := q7
        refine wpAny_bind (wpAny_bind (wpAny_mono (hPE _ s7 σ6 H7 _ I7 q7') (fun y s8 ⟨v, H8, I8, r8, q8⟩ => ?_) fun _ _ z => False.elim z))
        obtain ⟨eD, nD⟩ := mD I8
        have hl8 : s8.heap.PlainList D its := ⟨k, eD⟩
        have hsz' : its.size ≤ sizeLine := by
          have e1 := rv3.length
          have e2 : its.toList.length = its.size := Array.length_toList
          omega
        refine wpAny_bind (wpAny_list_append_plain (hsz := hsz') hl8 fun h₅ hl₅ hs₅ => wpAny_pure (wpAny_pure ⟨rfl, ?_⟩))
        obtain ⟨k', ek'⟩ := hl₅
        obtain ⟨m', hm, w8⟩ := hN _ _ _ q8
        -- the list has grown
        have J1 : Inv (compX X pins (vars ++ frs') scope cl C fp s H) (pinsAt fp s5.heap) σ6 H8 s8 := I8.pins_of fun p hp => I8.pin p (List.mem_append_right _ (List.mem_append_right _ hp))
        have nDC : D ≠ (compX X pins (vars ++ frs') scope cl C fp s H).env.locals := hDC
        have J2 : Inv (compX X pins (vars ++ frs') scope cl C fp s H) (pinsAt fp s5.heap) σ6 H8 { s8 with heap := h₅ } := by
          refine J1.turned (t' := s8.toks) (it := D) (fun b o hb e => (hs₅.2 b hb).trans e) nD nDC (.inr ?_) ?_ ?_
          · show s.heap.objs.size ≤ D
            omega
          · intro x c e z
            have z' : c = D := z
            obtain ⟨v', o', ho', hd'⟩ := I8.cell x c e
            rw [z', eD] at ho'
            cases ho'
            cases hd'
          · intro p hp z
            rcases List.mem_append.mp hp with hp | hp
            · exact (pinC p hp).1 z
            · have h1 := fpLt p.1 (of_pinsAt hp).1
              have z' : @Eq Nat p.1 D := z
              omega
        have hDn : D ∉ frs X.stack := stkD
        refine ⟨m', hm, i + 1, σ6, xs ++ [v], H8, its.push y, k', ?_, ?_, ?_, (mF I8).2, w8⟩
        · refine J2.pins_of fun p hp => ?_
          have e : p = (D, { cls := .type "list", data := .seq (its.push y) k' }) := by simpa using hp
          subst e
          exact ⟨ek', nD, nDC, hDn, fun v z => by cases z⟩
        · rw [Array.toList_push]
          exact rv3.append (.cons r8 .nil)
        · refine T.keep _ _ _ st5 fun b hb o e => ?_
          have hlt := fpLt b hb
          exact (hs₅.2 b (fun z => by have z' : @Eq Nat b D := z; omega)).trans ((mF I8).1 b hb o e)
  exact codeAny_compStart_list (loop _ rfl) (T.self _ 0 _ _ _ (T.keep _ _ _ st fun b _ o e => old b o e) (loop _ rfl))

/-- [elt for tg in iter] as a value -/
def tComp (wi : TI) (n : Nat) (fr : List Nat) (g : TG) (tt : TT) (te : TE) : TE := fun σ H Q => wi σ H fun J H1 => compR J g tt te (compS n fr σ) H1 fun xs H2 => ∀ p, H2 p = none → Q (.ref p) (upd H2 p (.lst xs))
theorem pe_comp {wi : TI} (hc : X.calm = true) (S : CompScope X scope vars frs' fr) (hi : PI X tg iter wi)
    (hb : ∀ (pins : List (Addr × Obj)) (cl : List (Str × Addr)) (C : Addr) (fp : List Addr) (s : Shared) (H : Hp), PG (compX X pins (vars ++ frs') scope cl C fp s H) tg g ∧ PIfs (compX X pins (vars ++ frs') scope cl C fp s H) ifs tt ∧ PE (compX X pins (vars ++ frs') scope cl C fp s H) elt te)
    (hs : ∀ x, foldedSetIterable iter X.env x = pure x := by intro _; rfl) : PE X (.ListComp elt [⟨tg, iter, ifs, 0⟩] scope pos) (tComp wi vars.length fr g tt te) := by
  intro pins s σ H Q I h
  have hcl : closureFor scope X.env = pure (closList X.env scope.names []) := closureFor_list fun y hy hk => I.ok.has y.1 (S.frees y hy hk)
  rw [eval_ListComp]
  refine wpAny_comprehension_free (use := none) rfl hs hcl S.kind S.names (thn (hi pins s σ H _ I h) fun v s1 h1 => thn h1 fun itv s2 h2 => ?_)
  obtain ⟨it, fp, tn, J, H2, e, I2, T, st2, f2, r⟩ := h2
  subst e
  refine comp_block (RR := fun acc C => compPost (model X.prog X.w) X.A X.xe none (EP X pins σ Q) acc C) I2 hc T st2 f2 S r (fun cl C => hb pins cl C fp s2 H2) ?_
  intro D C s' H' xs hD hz q I' fC ⟨m, hn⟩
  refine ⟨m, hn, fun h' hs' => ?_⟩
  obtain ⟨f0, f1, _, f3, f4, f5⟩ := fC
  exact ⟨.ref D, _, I'.turned (t' := s'.toks) (it := C) (fun b o hb e => (hs'.2 b hb).trans e) f0 f1 f3 f4 f5, rfl, q D hD⟩
/-- name = [elt for tg in iter], the store ahead of the block's end -/
theorem ps_comp {wi : TI} {i : Nat} {x : Str} {pos' spos : Pos} (hc : X.calm = true) (hN : X.N.Nodup) (hi' : X.N[i]? = some x) (hx : Loc X.env.scope x) (S : CompScope X scope vars frs' fr) (hi : PI X tg iter wi)
    (hb : ∀ (pins : List (Addr × Obj)) (cl : List (Str × Addr)) (C : Addr) (fp : List Addr) (s : Shared) (H : Hp), PG (compX X pins (vars ++ frs') scope cl C fp s H) tg g ∧ PIfs (compX X pins (vars ++ frs') scope cl C fp s H) ifs tt ∧ PE (compX X pins (vars ++ frs') scope cl C fp s H) elt te)
    (hw : swapsWith (.ListComp elt [⟨tg, iter, ifs, 0⟩] scope pos) (some (.Name x pos')) spos.line X.env = pure true := by rfl)
    (hf : X.fn x = true ∨ X.env.scope.names.lookup x = some .local := by first | exact .inl rfl | exact .inr rfl | assumption)
    (hs : ∀ x, foldedSetIterable iter X.env x = pure x := by intro _; rfl) : PS X (.Assign [.Name x pos'] (.ListComp elt [⟨tg, iter, ifs, 0⟩] scope pos) spos) (tAsg (tComp wi vars.length fr g tt te) (gName i)) := by
  intro pins s σ H D0 I h
  have hcl : closureFor scope X.env = pure (closList X.env scope.names []) := closureFor_list fun y hy hk => I.ok.has y.1 (S.frees y hy hk)
  rw [exec_Assign_Name_used x pos' _ spos hw]
  refine wpAny_bind (wpAny_standAt (wpAny_bind ?_))
  show wpAny _ _ (comprehension (.ListComp elt [⟨tg, iter, ifs, 0⟩] scope pos) scope X.env (firstIterPos [⟨tg, iter, ifs, 0⟩] pos) (newList []) (firstAsync [⟨tg, iter, ifs, 0⟩]) (firstIter [⟨tg, iter, ifs, 0⟩] X.env) (some (assign (.Name x pos') X.env)) >>= fun _ => pure ()) _ _ _
  refine wpAny_bind (wpAny_comprehension_free (use := some (assign (.Name x pos') X.env)) rfl hs hcl S.kind S.names (thn (hi pins s σ H _ I h) fun v s1 h1 => thn h1 fun itv s2 h2 => ?_))
  obtain ⟨it, fp, tn, J, H2, e, I2, T, st2, f2, r⟩ := h2
  subst e
  refine comp_block (RR := fun acc C => compPost (model X.prog X.w) X.A X.xe (some (assign (.Name x pos') X.env)) (fun _ s' => wpAny (model X.prog X.w) X.A (pure ()) (fun _ s'' => wpAny (model X.prog X.w) X.A (pure Flow.next) (SP X pins D0) X.xe s'') X.xe s') acc C) I2 hc T st2 f2 S r (fun cl C => hb pins cl C fp s2 H2) ?_
  intro D C s' H' xs hD hz q I' fC ⟨m, hn⟩
  obtain ⟨f0, f1, _, f3, f4, f5⟩ := fC
  refine wpAny_assign_Name (store_ok2 I' hN hi' hx (v := .ref D) rfl (fun s'' I'' ⟨a, sb, ha⟩ => ?_) hf)
  have hCa : C ≠ a := by
    rcases ha with z | z
    · rw [z]; exact f1
    · exact fun z' => f4 x a z z'.symm
  refine ⟨m, hn.sameBut sb hCa, fun h' hs' => wpAny_pure (wpAny_pure ⟨_, _, I''.turned (t' := s''.toks) (it := C) (fun b o hb e => (hs'.2 b hb).trans e) f0 f1 f3 f4 f5, q D hD⟩)⟩
end

/-! ### the forms one uses: the map of a written function over what is walked -/
/-- over a list, no test, each item's value a function of the item, the heap as it was -/
theorem comp_list {K : PySem.W.Frag} {a : Addr} {xs : List V} {g : TG} {te : TE} {σ0 : St} {H0 : Hp} {R : List V → Hp → Prop} (Pv : Nat → St → List V → Hp → Prop) (h0 : Pv 0 σ0 [] H0) (hz : xs.length < sizeLine)
    (hl : ∀ i σ ys H, i ≤ xs.length → Pv i σ ys H → SqL K H a xs ∧ ys.length ≤ i)
    (hs : ∀ i x σ ys H, xs[i]? = some x → Pv i σ ys H → g x σ H fun σ2 H2 => te σ2 H2 fun v H4 => Pv (i + 1) σ2 (ys ++ [v]) H4) (hd : ∀ σ ys H, Pv xs.length σ ys H → R ys H) :
    compR (Itl K a) g tYes te σ0 H0 R := by
  refine ⟨fun i m σ ys H => m = xs.length - i ∧ i ≤ xs.length ∧ Pv i σ ys H, ⟨xs.length, by simp, Nat.zero_le _, h0⟩, ?_⟩
  rintro i m σ ys H ⟨rfl, hi, p⟩
  obtain ⟨q, hy⟩ := hl i σ ys H hi p
  refine ⟨by omega, ?_⟩
  by_cases hlt : i < xs.length
  · refine .inr ⟨⟨xs, xs[i], q, by simp [hlt]⟩, fun σ' ys' H' => Pv (i + 1) σ' ys' H', fun σ' ys' H' p' => ⟨xs.length - (i + 1), by omega, rfl, hlt, p'⟩, fun x H' y => ?_⟩
    obtain ⟨e, y⟩ := y
    subst e
    exact hs i x σ ys _ (y xs q) p
  · have e : i = xs.length := by omega
    subst e
    exact .inl ⟨⟨xs, q, Nat.le_refl _⟩, hd σ ys H p⟩
end L2

/-! TEXTS as lists of numbers: walks over their signs, join, all, any, isinstance, slices, in -/
namespace L2
open PySem PySem.Spec PyProof.Rows

/-- the text of these numbers -/
abbrev tx (l : List Nat) : Str := ⟨l.toArray⟩
theorem tx_self (x : Str) : tx x.cps.toList = x := by cases x; simp [tx]
theorem tx_inj {a b : List Nat} (h : tx a = tx b) : a = b := by
  have : (tx a).cps.toList = (tx b).cps.toList := by rw [h]
  simpa [tx] using this
theorem tx_eq {a b : List Nat} : (tx a = tx b) ↔ a = b := ⟨tx_inj, fun h => by rw [h]⟩
theorem tx_len (a : List Nat) : (tx a).length = a.length := by simp [tx, Str.length]
theorem tx_app (a b : List Nat) : tx a ++ tx b = tx (a ++ b) := by
  show Str.mk (_ ++ _) = _
  simp [tx]
theorem V.str_inj {a b : List Nat} : (V.str (tx a) = V.str (tx b)) ↔ a = b := by
  constructor
  · intro h; injection h with h; exact tx_inj h
  · intro h; rw [h]

section
variable {X : Cx} {tg : Expr} {a b : Expr} {ta tb : TE} {pos : Pos}
/-- a written text -/
theorem pe_tx {x : Str} {l : List Nat} {j pos} (h : x = tx l) : PE X (.Constant (.str x) j pos) (tC (.str (tx l))) := by subst h; exact pe_str

/-! ### over a text's signs -/
def Its (l : List Nat) : It := ⟨fun i _ => i < l.length, fun i H x H' => H' = H ∧ ∃ c, l[i]? = some c ∧ x = .str (tx [c]), fun i _ => i = l.length⟩
theorem turn_str {P : Program} {w : World} {K : PySem.W.Frag} {tg : Expr} (it : Addr) (x : Str) (t : Tok) (ty : String)
    (W : ∀ A : Around, A.handled = none → Walks P w A it [it] [it] x.cps.size (SignAt x) (fun i h => h.IsStrIter it ty x t i))
    (hn : ["enumerate", "zip", "dict_itemiterator", "dict_reverseitemiterator", "odict_iterator", "itertools.zip_longest", "itertools.pairwise"].contains ty = false)
    (hself : ∀ (A : Around) (i : Nat) (s : Shared) (Q : Value → Shared → Prop) (E : Value → Shared → Prop), s.heap.IsStrIter it ty x t i → Q (.ref it) s → wpAny (model P w) A (pyIter (.ref it)) Q E s) :
    Turn P w K tg (Its x.cps.toList) [it] it (fun i h => h.IsStrIter it ty x t i) where
  mem := by simp
  obj := fun i h st b hb => by
    have e : b = it := by simpa using hb
    subst e
    obtain ⟨o, e, c, d⟩ := st
    exact ⟨o, e, fun v z => by rw [d] at z; cases z⟩
  keep := fun i h h' st k => by
    obtain ⟨o, e, r⟩ := st
    exact ⟨o, k it (by simp) o e, r⟩
  item := by
    intro X hP hw hK hc i pins s σ H E I hf st hg
    subst hP hw hK
    have hg' : i < x.cps.toList.length := hg
    rw [Array.length_toList] at hg'
    obtain ⟨f0, f1, f2, f3, f4, f5⟩ := hf it (by simp)
    refine (W X.A (I.ok.hd hc)).item i s _ E hg' st fun v h' tk hv st' kk => ?_
    obtain ⟨c, u, hcx, rfl⟩ := hv
    have I1 : Inv X pins σ H { s with heap := h', toks := tk } := I.turned (fun b o hb e => kk b o (by simpa using hb) e) f0 f1 f3 f4 f5
    obtain ⟨o, e, c1, d⟩ := id st'
    exact ⟨_, rfl, go_of (s := { s with heap := h', toks := tk }) e c1 d hn ⟨.str (tx [c]), H, I1, ⟨u, rfl⟩, ⟨rfl, c, by simpa using hcx, rfl⟩, st', fun b hb => (hf b hb).1⟩⟩
  done := by
    intro X hP hw hK hc i pins s σ H E I hf st hg
    subst hP hw hK
    have hg' : i = x.cps.size := by simpa [Its] using hg
    obtain ⟨f0, f1, f2, f3, f4, f5⟩ := hf it (by simp)
    exact (W X.A (I.ok.hd hc)).done s _ E (hg' ▸ st) fun h' tk kk => ⟨rfl, I.turned (fun b o hb e => kk b o (by simpa using hb) e) f0 f1 f3 f4 f5⟩
  self := hself
/-- for c in s -/
def iStr (tl : TE) : TI := fun σ H R => tl σ H fun x H1 => ∃ l, x = .str (tx l) ∧ R (Its l) H1
theorem pi_str {l : Expr} {tl : TE} (hl : PE X l tl) : PI X tg l (iStr tl) := by
  intro pins s σ H R I h
  refine thn (hl pins s σ H _ I h) fun v s1 ⟨x, H1, I1, r1, q1⟩ => ?_
  obtain ⟨l, e, q⟩ := q1
  subst e
  obtain ⟨t, rfl⟩ := r1
  have el : (tx l).cps.toList = l := by simp [tx]
  have fp : ∀ o : Obj, ∀ b ∈ [s1.heap.objs.size], FpOk X pins H1 b := fun o b hb => by
    have e : b = s1.heap.objs.size := by simpa using hb
    subst e
    exact I1.fpOk (Nat.le_refl _) (I1.hok.fresh (Nat.le_refl _))
  cases ha : (tx l).cps.all (· < 128) with
  | false =>
    refine wpAny_pyIter_wide ha ?_
    refine ⟨s1.heap.objs.size, [s1.heap.objs.size], _, _, H1, rfl, I1.kept (t' := s1.toks) fun b o e => Heap.get?_push_of_some _ e,
      turn_str _ (tx l) t "str_iterator" (fun A hA => Walks.strWide hA _ (tx l) t) (by decide +kernel) (fun A i s Q E st h => wpAny_pyIter_striter_wide st h), ⟨_, Heap.get?_push_size _ rfl, rfl, rfl⟩, fp default, by rw [el]; exact q⟩
  | true =>
    refine wpAny_pyIter_ascii ha ?_
    refine ⟨s1.heap.objs.size, [s1.heap.objs.size], _, _, H1, rfl, I1.kept (t' := s1.toks) fun b o e => Heap.get?_push_of_some _ e,
      turn_str _ (tx l) t "str_ascii_iterator" (fun A hA => Walks.strAscii hA _ (tx l) t) (by decide +kernel) (fun A i s Q E st h => wpAny_pyIter_striter_ascii st h), ⟨_, Heap.get?_push_size _ rfl, rfl, rfl⟩, fp default, by rw [el]; exact q⟩
theorem for_str {l : List Nat} {g : TG} {tb : TS} {D : Ends} {σ : St} {H : Hp} (Pv : Nat → St → Hp → Prop) (h0 : Pv 0 σ H)
    (hs : ∀ i c σ H, l[i]? = some c → Pv i σ H → g (.str (tx [c])) σ H fun σ2 H2 => tb { D with nx := Pv (i + 1), ct := Pv (i + 1), bk := D.nx } σ2 H2) (hd : ∀ σ H, Pv l.length σ H → D.nx σ H) :
    ∃ W : Nat → Nat → St → Hp → Prop, (∃ m, W 0 m σ H) ∧ ∀ i m σ H, W i m σ H →
      ((Its l).stop i H ∧ D.nx σ H) ∨ ((Its l).go i H ∧ ∃ N : St → Hp → Prop, (∀ σ' H', N σ' H' → ∃ m', m' < m ∧ W (i + 1) m' σ' H') ∧ ∀ x H', (Its l).yld i H x H' → g x σ H' fun σ2 H2 => tb { D with nx := N, ct := N, bk := D.nx } σ2 H2) := by
  refine ⟨fun i m σ H => m = l.length - i ∧ i ≤ l.length ∧ Pv i σ H, ⟨l.length, by simp, Nat.zero_le _, h0⟩, ?_⟩
  rintro i m σ H ⟨rfl, hi, p⟩
  by_cases hlt : i < l.length
  · refine .inr ⟨hlt, Pv (i + 1), fun σ' H' p' => ⟨l.length - (i + 1), by omega, rfl, hlt, p'⟩, fun x H' y => ?_⟩
    obtain ⟨e, c, hc, ex⟩ := y
    subst e ex
    exact hs i c σ _ hc p
  · have e : i = l.length := by omega
    subst e
    exact .inl ⟨rfl, hd σ H p⟩
theorem comp_str {l : List Nat} {g : TG} {te : TE} {σ0 : St} {H0 : Hp} {R : List V → Hp → Prop} (Pv : Nat → St → List V → Hp → Prop) (h0 : Pv 0 σ0 [] H0) (hz : l.length < sizeLine)
    (hl : ∀ i σ ys H, i ≤ l.length → Pv i σ ys H → ys.length ≤ i)
    (hs : ∀ i c σ ys H, l[i]? = some c → Pv i σ ys H → g (.str (tx [c])) σ H fun σ2 H2 => te σ2 H2 fun v H4 => Pv (i + 1) σ2 (ys ++ [v]) H4) (hd : ∀ σ ys H, Pv l.length σ ys H → R ys H) :
    compR (Its l) g tYes te σ0 H0 R := by
  refine ⟨fun i m σ ys H => m = l.length - i ∧ i ≤ l.length ∧ Pv i σ ys H, ⟨l.length, by simp, Nat.zero_le _, h0⟩, ?_⟩
  rintro i m σ ys H ⟨rfl, hi, p⟩
  have hy := hl i σ ys H hi p
  refine ⟨by omega, ?_⟩
  by_cases hlt : i < l.length
  · refine .inr ⟨hlt, fun σ' ys' H' => Pv (i + 1) σ' ys' H', fun σ' ys' H' p' => ⟨l.length - (i + 1), by omega, rfl, hlt, p'⟩, fun x H' y => ?_⟩
    obtain ⟨e, c, hc, ex⟩ := y
    subst e ex
    exact hs i c σ ys _ hc p
  · have e : i = l.length := by omega
    subst e
    exact .inl ⟨rfl, hd σ ys H p⟩

/-! ### text operations -/
theorem op_addS : OpR X (binaryOp .Add) (fun x y H Q => ∃ i j, x = .str (tx i) ∧ y = .str (tx j) ∧ i.length + j.length ≤ sizeLine ∧ Q (.str (tx (i ++ j))) H) := by
  intro pins s σ H x y v u Q I rx ry h
  obtain ⟨i, j, rfl, rfl, hz, q⟩ := h
  refine op_add_str pins s σ H _ _ v u Q I rx ry ⟨tx i, tx j, rfl, rfl, by rw [tx_len, tx_len]; exact hz, ?_⟩
  rw [tx_app]; exact q
/-- one sign in a text -/
theorem op_inS : OpR X (compareOp .In) (fun x y H Q => ∃ c j, x = .str (tx [c]) ∧ y = .str (tx j) ∧ Q (.bl (decide (c ∈ j))) H) := by
  intro pins s σ H x y v u Q I rx ry h
  obtain ⟨c, j, rfl, rfl, q⟩ := h
  refine op_in_str pins s σ H _ _ v u Q I rx ry ⟨tx [c], tx j, rfl, rfl, ?_⟩
  have e : (!(Builtin.Str.occurrences (tx j) (tx [c]) 0 (tx j).length 1).isEmpty) = decide (c ∈ j) := by
    have := StrLaws.found_one (tx j) c
    simpa [tx] using this
  rw [e]; exact q
theorem op_notinS : OpR X (compareOp .NotIn) (fun x y H Q => ∃ c j, x = .str (tx [c]) ∧ y = .str (tx j) ∧ Q (.bl (!decide (c ∈ j))) H) := by
  intro pins s σ H x y v u Q I rx ry h
  obtain ⟨c, j, rfl, rfl, q⟩ := h
  refine op_notin_str pins s σ H _ _ v u Q I rx ry ⟨tx [c], tx j, rfl, rfl, ?_⟩
  have e : (!(Builtin.Str.occurrences (tx j) (tx [c]) 0 (tx j).length 1).isEmpty) = decide (c ∈ j) := by
    have := StrLaws.found_one (tx j) c
    simpa [tx] using this
  rw [e]; exact q
theorem ix_strS : IxR X (fun x y H Q => ∃ (l : List Nat) (i : Int) (c : Nat), x = .str (tx l) ∧ y = .int i ∧ l.length ≤ sizeLine ∧ 0 ≤ i ∧ l[i.toNat]? = some c ∧ Q (.str (tx [c])) H) := by
  intro value slice pins s σ H x y v u Q I rx ry h hs
  obtain ⟨l, i, c, rfl, rfl, hz, h0, hc, q⟩ := h
  refine ix_str value slice pins s σ H _ _ v u Q I rx ry ⟨tx l, i, c, rfl, rfl, by rw [tx_len]; exact hz, ?_, q⟩ hs
  have e : i = ((i.toNat : Nat) : Int) := by omega
  rw [e]
  exact atI_nat (by simpa [tx] using hc)
theorem call_lenS : CallR X (.builtin "len") (fun xs H Q => ∃ l : List Nat, xs = [.str (tx l)] ∧ l.length ≤ sizeLine ∧ Q (.int (l.length : Nat)) H) := by
  intro pins s σ H xs us Q I r h
  obtain ⟨l, rfl, hz, q⟩ := h
  refine call_len_str pins s σ H _ us Q I r ⟨tx l, rfl, by rw [tx_len]; exact hz, ?_⟩
  rw [tx_len]; exact q
theorem call_ordS : CallR X (.builtin "ord") (fun xs H Q => ∃ c : Nat, xs = [.str (tx [c])] ∧ Q (.int (c : Nat)) H) := by
  intro pins s σ H xs us Q I r h
  obtain ⟨c, rfl, q⟩ := h
  exact call_ord pins s σ H _ us Q I r ⟨tx [c], rfl, rfl, q⟩

/-! ### slices with places that are not negative -/
theorem slice_to (l : List Nat) (j : Int) (h : 0 ≤ j) : Txt.slice (tx l) none (some j) = tx (l.take j.toNat) := by
  have key : ∀ j : Int, 0 ≤ j → j ≤ (l.length : Int) → Txt.slice (tx l) none (some j) = tx (l.take j.toNat) := fun j h0 h1 => by
    have := eq_of_beq (slice_closes_toL (x := tx l) (j := j) h0 (by rw [tx_len]; exact h1))
    rw [this]
    simp [tx]
  by_cases h1 : j ≤ (l.length : Int)
  · exact key j h h1
  · rw [slice_to_beyond (by rw [tx_len]; omega), tx_len, key _ (by omega) (by omega)]
    rw [List.take_of_length_le (by omega), List.take_of_length_le (by omega)]
theorem slice_fr (l : List Nat) (j : Int) (h : 0 ≤ j) : Txt.slice (tx l) (some j) none = tx (l.drop j.toNat) := by
  by_cases h1 : j ≤ (l.length : Int)
  · have := eq_of_beq (slice_closes_fromL (x := tx l) (i := j) (b := (l.length : Int)) h (by rw [tx_len]; exact h1) (by rw [tx_len]))
    rw [this]
    have e : List.take ((l.length : Int) - j).toNat (List.drop j.toNat l) = List.drop j.toNat l := List.take_of_length_le (by rw [List.length_drop]; omega)
    simp [tx, e]
  · rw [slice_from_beyond (by rw [tx_len]; omega), List.drop_eq_nil_of_le (by omega)]
def rSlS : V → Option Int → Option Int → Hp → VK → Prop := fun x lo hi H Q => ∃ l : List Nat, x = .str (tx l) ∧ l.length ≤ sizeLine ∧
  ((lo = none ∧ ∃ j : Int, hi = some j ∧ 0 ≤ j ∧ Q (.str (tx (l.take j.toNat))) H) ∨ (∃ j : Int, lo = some j ∧ hi = none ∧ 0 ≤ j ∧ Q (.str (tx (l.drop j.toNat))) H))
theorem sl_str : SlR X rSlS := by
  intro pins s σ H x v vl vu lo hi sl Q I rx hs pl pu h
  obtain ⟨l, rfl, hz, h⟩ := h
  obtain ⟨t, rfl⟩ := rx
  refine ⟨"str", _, F.slot_str_getitem.lookup, typeIs_str _ _ _, ?_⟩
  obtain ⟨o, ho, hc, hd⟩ := id hs
  rcases h with ⟨rfl, j, rfl, h0, q⟩ | ⟨j, rfl, rfl, h0, q⟩
  · cases pl
    cases pu with
    | int j u =>
      refine wpAny_getItem_str_slice (l := none) (u := some (j, u)) (st := none) ⟨o, ho, hc, hd⟩ rfl (post_val_or_str ⟨Nat.le_trans (Txt.slice_le (tx l) none (some j)) (by rw [tx_len]; exact hz), fun t' k => ?_⟩)
      exact ⟨.str (tx (l.take j.toNat)), H, I.tok _, ⟨t', by rw [← slice_to l j h0]; rfl⟩, q⟩
  · cases pu
    cases pl with
    | int j u =>
      refine wpAny_getItem_str_slice (l := some (j, u)) (u := none) (st := none) ⟨o, ho, hc, hd⟩ rfl (post_val_or_str ⟨Nat.le_trans (Txt.slice_le (tx l) (some j) none) (by rw [tx_len]; exact hz), fun t' k => ?_⟩)
      exact ⟨.str (tx (l.drop j.toNat)), H, I.tok _, ⟨t', by rw [← slice_fr l j h0]; rfl⟩, q⟩

/-! ### ''.join(list) -/
theorem strsAre_of : ∀ {ys : List Str} {us : List Value}, Vals (ys.map V.str) us → StrsAre us ys
  | [], us, r => by cases r; exact .nil
  | y :: r, us, h => by
    rw [List.map_cons] at h
    cases h with
    | cons r1 r2 =>
      obtain ⟨t, e⟩ := r1
      subst e
      exact .cons y t (strsAre_of r2)
theorem join_empty : ∀ ls : List (List Nat), Str.join (tx []) (ls.map tx) = tx ls.flatten
  | [] => rfl
  | [a] => by show tx a = tx (a ++ []); rw [List.append_nil]
  | a :: b :: r => by
    have ih := join_empty (b :: r)
    show tx a ++ tx [] ++ Str.join (tx []) ((b :: r).map tx) = _
    rw [ih, tx_app, tx_app]
    simp
/-- sep.join(ls) where sep has no signs -/
theorem mt_join : MtR X "str.join" (fun x xs H Q => ∃ (D : Addr) (ls : List (List Nat)), x = .str (tx []) ∧ xs = [.ref D] ∧ SqL X.K H D (ls.map fun l => .str (tx l)) ∧ ls.flatten.length ≤ 16777216 ∧ Q (.str (tx ls.flatten)) H) := by
  intro pins s σ H x xs v us Q I rx rs h
  obtain ⟨D, ls, rfl, rfl, hq, hz, q⟩ := h
  obtain ⟨t, rfl⟩ := rx
  obtain ⟨u, rfl, ru⟩ := vals1 rs
  cases ru
  obtain ⟨its, r, pl, _⟩ := I.list hq
  have r' : Vals ((ls.map tx).map V.str) its := by rw [List.map_map]; exact r
  have e : ((ls.map tx).map (·.length)).sum = ls.flatten.length := by
    rw [List.map_map, List.length_flatten]
    congr 1
  refine join_list (ys := ls.map tx) pl.isList (strsAre_of r') (by rw [e, tx_len]; simpa using hz) fun t' k => ⟨.str (tx ls.flatten), H, I.tok _, ⟨t', ?_⟩, q⟩
  show Value.str (Txt.join (tx []) (ls.map tx)) t' = _
  rw [show Txt.join (tx []) (ls.map tx) = Str.join (tx []) (ls.map tx) from StrLaws.glued_eq_join _ _, join_empty]

/-! ### all, any of a list of bools -/
theorem bools_get : ∀ {bs : List Bool} {us : List Value} {i : Nat} {v : Value}, Vals (bs.map V.bl) us → us[i]? = some v → ∃ b, bs[i]? = some b ∧ v = .bool b
  | [], us, i, v, r, e => by cases r; simp at e
  | b :: r, us, i, v, h, e => by
    rw [List.map_cons] at h
    cases h with
    | cons r1 r2 =>
      cases i with
      | zero =>
        simp at e; subst e
        cases r1
        exact ⟨b, rfl, rfl⟩
      | succ i =>
        obtain ⟨b', h1, h2⟩ := bools_get (i := i) r2 (by simpa using e)
        exact ⟨b', by simpa using h1, h2⟩
theorem call_allB (hc : X.calm = true) : CallR X (.builtin "all") (fun xs H Q => ∃ (D : Addr) (bs : List Bool), xs = [.ref D] ∧ SqL X.K H D (bs.map V.bl) ∧ Q (.bl (bs.all id)) H) := by
  intro pins s σ H xs us Q I r h
  obtain ⟨D, bs, rfl, hq, q⟩ := h
  obtain ⟨u, rfl, ru⟩ := vals1 r
  cases ru
  obtain ⟨its, rv, pl, hz⟩ := I.list hq
  have hlt : D < s.heap.objs.size := by obtain ⟨_, _, e, _⟩ := pl; exact Heap.lt_size e
  refine call_all_walk (wpAny_pyIter_list pl.isList ?_)
  refine ⟨s.heap.objs.size, [s.heap.objs.size, D], [s.heap.objs.size], its.toArray.size, _, _, fun i => (bs[i]?).getD true, rfl, Walks.list (A := X.A.in1) (I.ok.hd hc) _ D (Nat.ne_of_lt hlt) its.toArray,
    ⟨⟨_, Heap.get?_push_size _ rfl, rfl, rfl⟩, pl.isList.push _⟩, fun i v s' Q' E' hP hQ => ?_, fun h' tk hk => ?_⟩
  · obtain ⟨b, e, rfl⟩ := bools_get (bs := bs) rv (i := i) (v := v) (by simpa using hP)
    simp only [e, Option.getD_some] at hQ
    exact wpAny_truthy_bool hQ
  · have e : ((List.range its.toArray.size).all fun i => (bs[i]?).getD true) = bs.all id := by
      have hl := rv.length
      rw [List.length_map] at hl
      rw [List.size_toArray, ← hl]; exact LSm.range_all bs
    rw [e]
    exact ⟨.bl _, H, I.kept (LSm.kept_iter hk), rfl, q⟩
theorem call_anyB (hc : X.calm = true) : CallR X (.builtin "any") (fun xs H Q => ∃ (D : Addr) (bs : List Bool), xs = [.ref D] ∧ SqL X.K H D (bs.map V.bl) ∧ Q (.bl (bs.any id)) H) := by
  intro pins s σ H xs us Q I r h
  obtain ⟨D, bs, rfl, hq, q⟩ := h
  obtain ⟨u, rfl, ru⟩ := vals1 r
  cases ru
  obtain ⟨its, rv, pl, hz⟩ := I.list hq
  have hlt : D < s.heap.objs.size := by obtain ⟨_, _, e, _⟩ := pl; exact Heap.lt_size e
  refine call_any_walk (wpAny_pyIter_list pl.isList ?_)
  refine ⟨s.heap.objs.size, [s.heap.objs.size, D], [s.heap.objs.size], its.toArray.size, _, _, fun i => (bs[i]?).getD false, rfl, Walks.list (A := X.A.in1) (I.ok.hd hc) _ D (Nat.ne_of_lt hlt) its.toArray,
    ⟨⟨_, Heap.get?_push_size _ rfl, rfl, rfl⟩, pl.isList.push _⟩, fun i v s' Q' E' hP hQ => ?_, fun h' tk hk => ?_⟩
  · obtain ⟨b, e, rfl⟩ := bools_get (bs := bs) rv (i := i) (v := v) (by simpa using hP)
    simp only [e, Option.getD_some] at hQ
    exact wpAny_truthy_bool hQ
  · have e : ((List.range its.toArray.size).any fun i => (bs[i]?).getD false) = bs.any id := by
      have hl := rv.length
      rw [List.length_map] at hl
      rw [List.size_toArray, ← hl]; exact LSm.range_any bs
    rw [e]
    exact ⟨.bl _, H, I.kept (LSm.kept_iter hk), rfl, q⟩

/-! ### isinstance(x, T) for a built-in type T -/
theorem call_isinst : CallR X (.builtin "isinstance") (fun xs H Q => ∃ x T t b, xs = [x, .ty T] ∧ TyOf X.K H x t ∧ PySem.W.kitOne X.K t (.type T) = some b ∧ Q (.bl b) H) := by
  intro pins s σ H xs us Q I r h
  obtain ⟨x, T, t, b, rfl, ty, e, q⟩ := h
  obtain ⟨u, w', rfl, r1, r2⟩ := vals2 r
  cases r2
  exact isinst_ok I r1 ty e fun tk => ⟨.bl b, H, I.tok _, rfl, q⟩
end
end L2

/-! short words for whole laws: a law's last steps, comprehensions without names closed over -/
namespace L2
open PySem PySem.Spec PyProof.Rows

/-- a block that closes over nothing -/
theorem CompScope.own {X : Cx} {scope : Scope} {vars : List Str} (k : scope.kind = .function) (h : (scope.names.all fun y => y.2 != .cell && y.2 != .free && (y.2 != .local || scope.names.lookup y.1 == some .local)) = true) : CompScope X scope vars [] [] := by
  have a : ∀ y ∈ scope.names, (y.2 ≠ .cell ∧ y.2 ≠ .free) ∧ (y.2 = .local → scope.names.lookup y.1 = some .local) := fun y hy => by
    have := List.all_eq_true.mp h y hy
    simp only [Bool.and_eq_true, bne_iff_ne, Bool.or_eq_true, beq_iff_eq, ne_eq] at this
    exact ⟨this.1, fun z => this.2.resolve_left fun q => q z⟩
  exact ⟨k, fun y hy => (a y hy).1.1, fun y hy => (a y hy).2, fun y hy z => absurd z (a y hy).1.2, .nil⟩
/-- a block that closes over names -/
theorem CompScope.free {X : Cx} {scope : Scope} {vars frs' : List Str} {fr : List Nat} (k : scope.kind = .function) (h : (scope.names.all fun y => y.2 != .cell && (y.2 != .local || scope.names.lookup y.1 == some .local)) = true)
    (f : (scope.names.all fun y => y.2 != .free || X.env.kindOf y.1 == some .cell || X.env.kindOf y.1 == some .free) = true)
    (p : Paired (fun (x : Str) (j : Nat) => X.N[j]? = some x ∧ scope.names.lookup x = some .free) frs' fr) : CompScope X scope vars frs' fr := by
  refine ⟨k, fun y hy => ?_, fun y hy => ?_, fun y hy => ?_, p⟩
  · have := List.all_eq_true.mp h y hy
    simp only [Bool.and_eq_true, bne_iff_ne, Bool.or_eq_true, beq_iff_eq, ne_eq] at this
    exact this.1
  · have := List.all_eq_true.mp h y hy
    simp only [Bool.and_eq_true, bne_iff_ne, Bool.or_eq_true, beq_iff_eq, ne_eq] at this
    exact fun z => this.2.resolve_left fun q => q z
  · have := List.all_eq_true.mp f y hy
    simp only [bne_iff_ne, Bool.or_eq_true, beq_iff_eq, ne_eq] at this
    intro z
    rcases this with (q | q) | q
    · exact absurd z q
    · exact .inl q
    · exact .inr q
/-- what a law's body keeps of the module: a table of names -/
structure Mg (K : PySem.W.Frag) (mg : Str → Option Value) : Prop where
  of : ∀ {x : Str} {v : Value}, PySem.W.nsIn K mainGlobals x = some (some v) → mg x = some v
  no : ∀ {x : Str}, PySem.W.nsIn K mainGlobals x = some none → mg x = none
theorem mg_mk {K : PySem.W.Frag} {h : Heap} {mg : Str → Option Value} (X : K.In h) (G : h.Ns mainGlobals mg) : Mg K mg := ⟨fun e => PySem.W.mg_of X G e, fun e => PySem.W.mg_none_of X G e⟩
/-- a def as it stands behind the top: its place, its object, its code -/
structure At (K : PySem.W.Frag) (mg : Str → Option Value) (x : Str) (st : Stmt) (ps : List Str) (f : Addr) (fd : FuncData) : Prop where
  fn : Fun K x x st f fd
  m : mg x = some (.ref f)
  b : Binds K fd ps []
theorem at_mk {K : PySem.W.Frag} {mg : Str → Option Value} {x : Str} {st : Stmt} {ps : List Str} {f : Addr} {oc : Value} {od an : Option Addr} {osl : Array (Option Value)} {kV doc pm cdv ct : Value} (M : Mg K mg) (a : PySem.W.nsIn K mainGlobals x = some (some (.ref f)))
    (l : K.lookup f = some ⟨oc, od, .func (PySem.W.fnOf x x (defArgs st) (defBody st) (defScope st) .none kV doc pm an cdv ct), osl⟩) (c : PySem.W.codeIn K cdv x = true) (k : PySem.W.keepIn K (.ref f) = true)
    (h : ∀ (kV doc pm : Value) (an : Option Addr) (cdv ct : Value) (us : List Value), us.length = ps.length → bindArgs (PySem.W.fnOf x x (defArgs st) (defBody st) (defScope st) .none kV doc pm an cdv ct) ⟨us, []⟩ = pure (ps.zip us)) :
    At K mg x st ps f (PySem.W.fnOf x x (defArgs st) (defBody st) (defScope st) .none kV doc pm an cdv ct) := ⟨fun_mk l c k, M.of a, (fun_mk l c k).binds h⟩
/-- a def that keeps a promise, as a caller wants it -/
structure Cal (P : Program) (w : World) (K : PySem.W.Frag) (mg : Str → Option Value) (base : Heap) (CX : CXT) (k : Nat) (x : Str) (ps : List Str) (sp : Sp) : Prop where
  ex : ∃ (f : Addr) (fd : FuncData) (oc : Value) (od : Option Addr) (osl : Array (Option Value)), FnOk P w K mg base CX k f fd ps sp ∧ Binds K fd ps [] ∧ PySem.W.keepIn K (.ref f) = true ∧ mg x = some (.ref f) ∧ K.lookup f = some ⟨oc, od, .func fd, osl⟩
theorem Cal.mono {P : Program} {w : World} {K : PySem.W.Frag} {mg : Str → Option Value} {base : Heap} {CX : CXT} {j k : Nat} {x : Str} {ps : List Str} {sp : Sp} (C : Cal P w K mg base CX j x ps sp) (h : j ≤ k) : Cal P w K mg base CX k x ps sp := by
  obtain ⟨f, fd, oc, od, osl, F, r⟩ := C.ex
  exact ⟨f, fd, oc, od, osl, F.mono h, r⟩
theorem Cal.imp {P : Program} {w : World} {K : PySem.W.Frag} {mg : Str → Option Value} {base : Heap} {CX : CXT} {k : Nat} {x : Str} {ps : List Str} {sp sp' : Sp} (C : Cal P w K mg base CX k x ps sp) (h : ∀ vs H Q E, sp' vs H Q E → sp vs H Q E) : Cal P w K mg base CX k x ps sp' := by
  obtain ⟨f, fd, oc, od, osl, F, r⟩ := C.ex
  exact ⟨f, fd, oc, od, osl, F.imp h, r⟩
theorem Cal.fn_at {P : Program} {w : World} {K : PySem.W.Frag} {mg : Str → Option Value} {base : Heap} {CX : CXT} {k : Nat} {x q : Str} {ps : List Str} {sp : Sp} {fa : Addr} {fd : FuncData} {st : Stmt} (C : Cal P w K mg base CX k x ps sp) (m : mg x = some (.ref fa)) (F : Fun K x q st fa fd) : FnOk P w K mg base CX k fa fd ps sp := by
  obtain ⟨f, fd', oc, od, osl, G, _, _, m', l'⟩ := C.ex
  rw [m] at m'
  cases m'
  obtain ⟨oc2, od2, kV, doc, pm, an, cdv, ct, osl2, e, l, _⟩ := F.ex
  rw [l'] at l
  have : fd' = fd := by
    injection l with l
    injection l with _ _ l _
    injection l
  subst this
  exact G
theorem At.cal {P : Program} {w : World} {K : PySem.W.Frag} {mg : Str → Option Value} {base : Heap} {x : Str} {st : Stmt} {f : Addr} {fd : FuncData} {N ps : List Str} {k : Nat} {sp : Sp} (A : At K mg x st ps f fd) (S : FnScope N ps (defScope st)) (len : ∀ vs H Q E, sp vs H Q E → vs.length = ps.length)
    (hbody : ∀ (cdv : Value) (A : Around) (outer : List Env) (s : Shared) (H : Hp) (vs : List V) (Q : VK) (E : XK), Room k (A.deeper (PyProof.Rows.envOfC x (defScope st) s.heap.objs.size f cdv)) → sp vs H Q E →
      ∃ t, PSs (cxOf CX0 P w K mg base N x (defScope st) f cdv A outer s H E).nox (defBody st) t ∧ t { nx := fun _ H' => Q .non H', rt := Q } (start N vs) H) : Cal P w K mg base CX0 (k + 1) x ps sp := by
  obtain ⟨oc, od, kV, doc, pm, an, cdv, ct, osl, e, l, c⟩ := A.fn.ex
  exact ⟨f, fd, oc, od, osl, A.fn.ok S len hbody, A.b, A.fn.kp, A.m, l⟩
section
variable {X : Cx} {k : Nat} {x : Str} {ps : List Str} {sp : Sp} {p pos : Pos} {e : Expr} {es : List Expr} {t : TA}
theorem pe_cal (C : Cal X.prog X.w X.K X.mg X.base CX0 k x ps sp) (hr : Room k X.A) (ha : PA X (e :: es) t) (hg : Gl X x) (hdb : (x == ("__debug__" : Str)) = false := by decide)
    (he : starEach (e :: es) X.env = (false, eval e X.env) :: starEach es X.env := by rfl) (hpl : (backTo pos (starEach es X.env)).any (·.1) = false := by rfl) : PE X (.Call (.Name x p) (e :: es) [] pos) (tCall sp [] E0 t) := by
  obtain ⟨f, fd, oc, od, osl, F, b, kp, m, _⟩ := C.ex
  exact pe_call F hr hg m kp b .nil pass0 ha hdb he hpl
end
/-- the law's promise: True at every list of at most 63 ints -/
def spLaw (K : PySem.W.Frag) : Sp := fun vs H Q _ => ∃ (a : Addr) (ns : List Int), vs = [.ref a] ∧ SqL K H a (ns.map V.int) ∧ Only H ∧ ns.length ≤ 63 ∧ ∀ H', Q (.bl true) H'
theorem law_walk {l : PySem.W.OpenLaw} {q : Program} {loose : List Str} {XP : (Str → Option Value) → Heap → Prop} {YP : World → Heap → Prop} {d : DefRec} {K : Params → PySem.W.Frag} {x : Str} {k : Nat} (hn : l.most = some 63) (hdf : d.params.defaults = []) (hr : Room k callerA)
    (hY : ∀ (w : World) (h : Heap), YP w h → (K w.params).In h)
    (F : ∀ (w : World) (mg : Str → Option Value) (fa : Addr) (h : Heap), (K w.params).In h → h.Ns mainGlobals mg → mg d.name = some (.ref fa) →
      ∃ fd : FuncData, (∀ (s : Shared) (u : Value), BindsTo s fd ⟨[u], []⟩ [(x, u)]) ∧ ∀ base : Heap, (K w.params).In base → base.Ns mainGlobals mg → FnOk l.prog w (K w.params) mg base CX0 k fa fd [x] (spLaw (K w.params))) :
    PySem.W.WalkO q loose XP YP l.row.toRowW d [] (fun f vs => PySem.call f vs) :=
  L2.walk_of (n := 63) (k := k) (x := x) (CX := fun _ => CX0) (sp := fun w => spLaw (K w.params)) hn (by decide) hdf hr hY F (fun _ _ a ns hl hO hS => ⟨a, ns, rfl, hS, hO, hl, fun _ => rfl⟩) fun _ _ _ _ _ z => z
theorem same_new {H : Hp} {p : Addr} (h : H p = none) (o : HO) : Same H (upd H p o) := fun b u q => by rw [upd_ne (ne_of_none q h)]; exact q
theorem Same.tup {K : PySem.W.Frag} {H H' : Hp} {a : Addr} {xs : List V} (e : Same H H') (h : SqT K H a xs) : SqT K H' a xs := by
  rcases h with (h | ⟨o, h⟩) | h
  · exact .inl (.inl (e _ _ h))
  · exact .inl (.inr ⟨o, e _ _ h⟩)
  · exact .inr h
theorem small {n : Nat} (h : n ≤ 1000000) : n < sizeLine := Nat.lt_of_le_of_lt h (by rw [sizeLine_eq]; decide)
theorem smallE {n : Nat} (h : n ≤ 1000000) : n ≤ sizeLine := Nat.le_of_lt (small h)
/-- a cut at the beginning that is long enough -/
theorem cutV_all {xs : List V} {j : Int} (h : (xs.length : Int) ≤ j) : cutV xs none (some j) = xs := by
  show List.take ((if j < 0 then (j + (xs.length : Int)).toNat else min j.toNat xs.length) - 0) (List.drop 0 xs) = xs
  rw [if_neg (by omega)]
  simp only [List.drop_zero, Nat.sub_zero]
  exact List.take_of_length_le (by omega)
/-! built-in names -/
theorem boI : bootBuiltins "isinstance" = some (.builtin "isinstance") := by decide +kernel
theorem boAll : bootBuiltins "all" = some (.builtin "all") := by decide +kernel
theorem boAny : bootBuiltins "any" = some (.builtin "any") := by decide +kernel
theorem boLen : bootBuiltins "len" = some (.builtin "len") := by decide +kernel
theorem boOrd : bootBuiltins "ord" = some (.builtin "ord") := by decide +kernel
theorem boStr : bootBuiltins "str" = some (.type "str") := by decide +kernel
theorem boBool : bootBuiltins "bool" = some (.type "bool") := by decide +kernel
theorem boInt : bootBuiltins "int" = some (.type "int") := by decide +kernel
theorem boTuple : bootBuiltins "tuple" = some (.type "tuple") := by decide +kernel
theorem boList : bootBuiltins "list" = some (.type "list") := by decide +kernel
theorem boDict : bootBuiltins "dict" = some (.type "dict") := by decide +kernel
section
variable {X : Cx} {pos : Pos}
/-- the clause's name in a block -/
theorem pgc {pins : List (Addr × Obj)} {vars frs' : List Str} {scope : Scope} {cl : List (Str × Addr)} {C : Addr} {fp : List Addr} {s : Shared} {H : Hp} (i : Nat) {x : Str} (hN : (vars ++ frs').Nodup) (hi : (vars ++ frs')[i]? = some x) (hx : (relabel scope X.env).names.lookup x = some .local) :
    PG (compX X pins (vars ++ frs') scope cl C fp s H) (.Name x pos) (gName i) := pg_name hN hi (.inl hx) (.inr hx)
/-- a module's text -/
theorem pe_gs {x : Str} {z : Str} {t : Tok} (hm : X.mg x = some (.str z t)) (hg : Gl X x) (hd : (x == ("__debug__" : Str)) = false := by decide) : PE X (.Name x pos) (tC (.str z)) := pe_glob hg hm ⟨t, rfl⟩ hd
/-- a built-in type as a value -/
theorem pe_ty {x : Str} {n : String} (hm : X.mg x = none) (hv : bootBuiltins x = some (.type n)) (hg : Gl X x) (hn : x ≠ "__name__" := by decide) (hd : (x == ("__debug__" : Str)) = false := by decide) : PE X (.Name x pos) (tC (.ty n)) := pe_bltn hg hm hv rfl hn hd
end

/-! ### comprehensions with one name, each value a function of the item -/
theorem comp_strM {l : List Nat} {te : TE} {σ0 rest : St} {H0 : Hp} {R : List V → Hp → Prop} (F : Nat → V) (J : Hp → Prop) (hσ : σ0 = none :: rest) (h0 : J H0) (hz : l.length ≤ 1000000)
    (hs : ∀ (c : Nat) (H : Hp) (Qk : VK), c ∈ l → J H → (∀ H', J H' → Qk (F c) H') → te (some (.str (tx [c])) :: rest) H Qk) (hd : ∀ H, J H → R (l.map F) H) : compR (Its l) (gName 0) tYes te σ0 H0 R := by
  subst hσ
  refine comp_str (fun i σ ys H => (∃ o, σ = o :: rest) ∧ ys = (l.take i).map F ∧ J H) ⟨⟨_, rfl⟩, rfl, h0⟩ (small hz) (fun i σ ys H hi p => ?_) (fun i c σ ys H hc p => ?_) fun σ ys H p => ?_
  · obtain ⟨_, rfl, _⟩ := p
    rw [List.length_map, List.length_take]; omega
  · obtain ⟨⟨o, rfl⟩, rfl, hJ⟩ := p
    refine hs c H _ (List.mem_of_getElem? hc) hJ fun H' hJ' => ⟨⟨_, rfl⟩, ?_, hJ'⟩
    rw [List.take_add_one, hc, List.map_append]; rfl
  · obtain ⟨_, rfl, hJ⟩ := p
    have := hd H hJ
    rwa [List.take_length]
theorem comp_listM {K : PySem.W.Frag} {a : Addr} {xs : List V} {te : TE} {σ0 rest : St} {H0 : Hp} {R : List V → Hp → Prop} (F : V → V) (J : Hp → Prop) (hσ : σ0 = none :: rest) (h0 : J H0) (hz : xs.length ≤ 1000000) (hl : ∀ H, J H → SqL K H a xs)
    (hs : ∀ (x : V) (H : Hp) (Qk : VK), x ∈ xs → J H → (∀ H', J H' → Qk (F x) H') → te (some x :: rest) H Qk) (hd : ∀ H, J H → R (xs.map F) H) : compR (Itl K a) (gName 0) tYes te σ0 H0 R := by
  subst hσ
  refine comp_list (fun i σ ys H => (∃ o, σ = o :: rest) ∧ ys = (xs.take i).map F ∧ J H) ⟨⟨_, rfl⟩, rfl, h0⟩ (small hz) (fun i σ ys H hi p => ?_) (fun i c σ ys H hc p => ?_) fun σ ys H p => ?_
  · obtain ⟨_, rfl, hJ⟩ := p
    refine ⟨hl H hJ, ?_⟩
    rw [List.length_map, List.length_take]; omega
  · obtain ⟨⟨o, rfl⟩, rfl, hJ⟩ := p
    refine hs c H _ (List.mem_of_getElem? hc) hJ fun H' hJ' => ⟨⟨_, rfl⟩, ?_, hJ'⟩
    rw [List.take_add_one, hc, List.map_append]; rfl
  · obtain ⟨_, rfl, hJ⟩ := p
    have := hd H hJ
    rwa [List.take_length]

/-! ### // and % by written numbers, cells, small facts -/
section
variable {X : Cx}
theorem op_modL (n : Int) (hn : 0 < n) : OpR X (binaryOp .Mod) (fun x y H Q => ∃ i, x = .int i ∧ y = .int n ∧ Q (.int (i % n)) H) := by
  intro pins s σ H x y v u Q I rx ry h
  obtain ⟨i, rfl, rfl, q⟩ := h
  exact op_mod pins s σ H _ _ v u Q I rx ry ⟨i, n, rfl, rfl, hn, q⟩
theorem op_divL (n : Int) (hn : 0 < n) (h2 : n < 1073741824) : OpR X (binaryOp .FloorDiv) (fun x y H Q => ∃ i, x = .int i ∧ y = .int n ∧ Q (.int (i / n)) H) := by
  intro pins s σ H x y v u Q I rx ry h
  obtain ⟨i, rfl, rfl, q⟩ := h
  exact op_fdiv pins s σ H _ _ v u Q I rx ry ⟨i, n, rfl, rfl, ⟨hn, h2⟩, q⟩
/-- s[i] where it is in bounds -/
theorem ix_strD : IxR X (fun x y H Q => ∃ (l : List Nat) (i : Int), x = .str (tx l) ∧ y = .int i ∧ l.length ≤ sizeLine ∧ 0 ≤ i ∧ i < (l.length : Int) ∧ Q (.str (tx [l.getD i.toNat 0])) H) := by
  intro value slice pins s σ H x y v u Q I rx ry h hs
  obtain ⟨l, i, rfl, rfl, hz, h0, h1, q⟩ := h
  refine ix_strS value slice pins s σ H _ _ v u Q I rx ry ⟨l, i, _, rfl, rfl, hz, h0, ?_, q⟩ hs
  rw [List.getD_eq_getElem?_getD, List.getElem?_eq_getElem (show i.toNat < l.length by omega)]; rfl
/-- ns[i] of a list of ints -/
theorem ix_ints : IxR X (fun x y H Q => ∃ (a : Addr) (ns : List Int) (i : Int), x = .ref a ∧ y = .int i ∧ SqL X.K H a (ns.map V.int) ∧ 0 ≤ i ∧ i < (ns.length : Int) ∧ Q (.int (ns.getD i.toNat 0)) H) := by
  intro value slice pins s σ H x y v u Q I rx ry h hs
  obtain ⟨a, ns, i, rfl, rfl, hz, h0, h1, q⟩ := h
  refine ix_list value slice pins s σ H _ _ v u Q I rx ry ⟨a, _, i, _, rfl, rfl, hz, ?_, q⟩ hs
  have e : ((i.toNat : Nat) : Int) = i := by omega
  rw [← e]
  refine atI_nat ?_
  rw [List.getD_eq_getElem?_getD, List.getElem?_map, Int.toNat_natCast, List.getElem?_eq_getElem (show i.toNat < ns.length by omega)]; rfl
end
theorem flat1 {α : Type} (f : α → Nat) : ∀ ns : List α, (ns.map fun c => [f c]).flatten = ns.map f
  | [] => rfl
  | n :: r => by rw [List.map_cons, List.flatten_cons, flat1 f r]; rfl
/-- a law's reader of cells -/
def cellF (ns : List Int) (k : Int) : Int := if k < (ns.length : Int) then ns.getD k.toNat 0 else 0
theorem TyOf.same {K : PySem.W.Frag} {H H' : Hp} {x : V} {t : Value} (s : Same H H') (h : TyOf K H x t) : TyOf K H' x t := by
  cases h with
  | non => exact .non
  | bl x => exact .bl x
  | int x => exact .int x
  | str x => exact .str x
  | flt x => exact .flt x
  | lst e => exact .lst (s _ _ e)
  | frz e => exact .frz (s _ _ e)
  | tup e => exact .tup (s _ _ e)
  | dK e => exact .dK (s _ _ e)
  | dT e => exact .dT (s _ _ e)
  | ins e a b c d f => exact .ins (s _ _ e) a b c d f
/-! ### isinstance between built-in types -/
def kitTT (T S : String) : Option Bool := if (Value.type T == Value.type S) = true then some true else if PySem.W.kitMeta S = true then (fastBuiltinMro T).map (·.contains (.type S)) else none
theorem kitOne_tt (K : PySem.W.Frag) (T S : String) : PySem.W.kitOne K (.type T) (.type S) = kitTT T S := rfl
theorem kit_str_str (K : PySem.W.Frag) : PySem.W.kitOne K (.type "str") (.type "str") = some true := by rw [kitOne_tt]; decide +kernel
theorem kit_bool_bool (K : PySem.W.Frag) : PySem.W.kitOne K (.type "bool") (.type "bool") = some true := by rw [kitOne_tt]; decide +kernel
theorem kit_int_int (K : PySem.W.Frag) : PySem.W.kitOne K (.type "int") (.type "int") = some true := by rw [kitOne_tt]; decide +kernel
theorem kit_tuple_tuple (K : PySem.W.Frag) : PySem.W.kitOne K (.type "tuple") (.type "tuple") = some true := by rw [kitOne_tt]; decide +kernel
theorem kit_list_str (K : PySem.W.Frag) : PySem.W.kitOne K (.type "list") (.type "str") = some false := by rw [kitOne_tt]; decide +kernel
theorem kit_tuple_str (K : PySem.W.Frag) : PySem.W.kitOne K (.type "tuple") (.type "str") = some false := by rw [kitOne_tt]; decide +kernel
theorem kit_none_str (K : PySem.W.Frag) : PySem.W.kitOne K (.type "NoneType") (.type "str") = some false := by rw [kitOne_tt]; decide +kernel
theorem kit_bool_str (K : PySem.W.Frag) : PySem.W.kitOne K (.type "bool") (.type "str") = some false := by rw [kitOne_tt]; decide +kernel
theorem kit_int_str (K : PySem.W.Frag) : PySem.W.kitOne K (.type "int") (.type "str") = some false := by rw [kitOne_tt]; decide +kernel
theorem kit_dict_str (K : PySem.W.Frag) : PySem.W.kitOne K (.type "dict") (.type "str") = some false := by rw [kitOne_tt]; decide +kernel
theorem kit_int_bool (K : PySem.W.Frag) : PySem.W.kitOne K (.type "int") (.type "bool") = some false := by rw [kitOne_tt]; decide +kernel
theorem kit_none_tuple (K : PySem.W.Frag) : PySem.W.kitOne K (.type "NoneType") (.type "tuple") = some false := by rw [kitOne_tt]; decide +kernel
end L2

/-! enumerate over a text, the module's dicts, s * n, comprehensions that make objects -/
namespace L2
open PySem PySem.Spec PyProof.Rows

section
variable {X : Cx} {pins : List (Addr × Obj)} {σ : St} {H : Hp} {s : Shared} {h' : Heap}
/-- records of ours have turned and a new object is laid and tracked -/
theorem Inv.turnedNew {t' : Nat} {fp : List Addr} {T : Addr} {o : HO} (I : Inv X pins σ H s) (hf : ∀ b ∈ fp, FpOk X pins H b) (k : ∀ b ob, b ∉ fp → s.heap.get? b = some ob → h'.get? b = some ob)
    (hT : s.heap.objs.size ≤ T) (new : ObjOk X.prog X.w (upd H T o) h' T o) : Inv X pins σ (upd H T o) { s with heap := h', toks := t' } := by
  have hn : H T = none := I.hok.fresh hT
  have nit : ∀ b u, H b = some u → b ∉ fp := fun b u e z => by rw [(hf b z).1] at e; cases e
  have neT : ∀ b u, H b = some u → b ≠ T := fun b u e => ne_of_none e hn
  refine I.step (g' := s.gens) (d' := s.drawn) (ch := fp) (fun b hb => ⟨(hf b hb).2.2.2.1, (hf b hb).2.1, (hf b hb).2.2.2.2.1, (hf b hb).2.2.2.2.2⟩) (fun b ob _ _ hc e _ => k b ob hc e) (fun b ob _ _ hc e _ => ⟨ob.slots, k b ob hc e⟩)
    (fun b ob _ e n => by rw [upd_ne (fun z => absurd (Nat.lt_of_lt_of_le (Heap.lt_size e) hT) (by rw [z]; exact Nat.lt_irrefl _))]; exact n) (fun b ob hc e => ⟨ob, k b ob hc e⟩)
    (fun b xs e => by rw [upd_ne (neT b _ e)]; exact e) (fun b ob u e => by rw [upd_ne (neT b _ e)]; exact e) (fun b ps e => ⟨#[], by rw [upd_ne (neT b _ e), e]; simp⟩) (fun m hm => ?_) (fun b u e => ?_) I.bare
  · obtain ⟨ob, es, ep, ho, r⟩ := hm
    exact ⟨ob, es, ep, k _ ob (fun z => (hf _ z).2.1 rfl) ho, r⟩
  · by_cases hb : b = T
    · subst hb
      rw [upd_same] at e; cases e
      exact new
    · rw [upd_ne hb] at e
      refine (I.hok b u e).stay (fun c v hc q => k c v ?_ q) (fun c q => by rw [upd_ne (neT c _ q)]; exact q) fun c ys q => by rw [upd_ne (neT c _ q)]; exact q
      rcases hc with z | z
      · rw [z]; exact nit b u e
      · exact nit c _ z
/-- .. and no new object -/
theorem Inv.turnedL {t' : Nat} {fp : List Addr} (I : Inv X pins σ H s) (hf : ∀ b ∈ fp, FpOk X pins H b) (k : ∀ b ob, b ∉ fp → s.heap.get? b = some ob → h'.get? b = some ob) : Inv X pins σ H { s with heap := h', toks := t' } := by
  have nit : ∀ b u, H b = some u → b ∉ fp := fun b u e z => by rw [(hf b z).1] at e; cases e
  refine I.step (g' := s.gens) (d' := s.drawn) (ch := fp) (fun b hb => ⟨(hf b hb).2.2.2.1, (hf b hb).2.1, (hf b hb).2.2.2.2.1, (hf b hb).2.2.2.2.2⟩) (fun b ob _ _ hc e _ => k b ob hc e) (fun b ob _ _ hc e _ => ⟨ob.slots, k b ob hc e⟩)
    (fun b ob _ e n => n) (fun b ob hc e => ⟨ob, k b ob hc e⟩) (fun b xs e => e) (fun b ob u e => e) (fun b ps e => ⟨#[], by rw [e]; simp⟩) (fun m hm => ?_) (fun b u e => ?_) I.bare
  · obtain ⟨ob, es, ep, ho, r⟩ := hm
    exact ⟨ob, es, ep, k _ ob (fun z => (hf _ z).2.1 rfl) ho, r⟩
  · refine (I.hok b u e).stay (fun c v hc q => k c v ?_ q) (fun c q => q) fun c ys q => q
    rcases hc with z | z
    · rw [z]; exact nit b u e
    · exact nit c _ z
end

/-! ### for i, c in enumerate(text) -/
def Ite (l : List Nat) : It := ⟨fun i _ => i < l.length, fun i H x H' => ∃ p c, l[i]? = some c ∧ H p = none ∧ x = .ref p ∧ H' = upd H p (.tup [.int (i : Nat), .str (tx [c])]), fun i _ => i = l.length⟩
theorem turn_enum {P : Program} {w : World} {K : PySem.W.Frag} {elts : List Expr} {k0 : Nat} {pos : Pos} (e it : Addr) (x : Str) (t : Tok) (ty : String) (hne : e ≠ it)
    (W : ∀ A : Around, A.handled = none → Draws P w A.in1 it [it] x.cps.size (fun i v => ∃ c u, x.cps[i]? = some c ∧ v = .str ⟨#[c]⟩ u) (fun i h => h.IsStrIter it ty x t i)) :
    Turn P w K (.Tuple elts k0 pos) (Ite x.cps.toList) [e, it] e (fun i h => (∃ old, IsEnum h e it i old) ∧ h.IsStrIter it ty x t i) := by
  have WT : ∀ A : Around, A.handled = none → _ := fun A hA => WalksT.enumerateD (A := A) (W A hA) e hne (by simp [hne]) (by simp)
  refine ⟨by simp, fun i h st b hb => ?_, fun i h h' st kk => ?_, ?_, ?_, ?_⟩
  · obtain ⟨⟨old, he⟩, o, e1, c, d⟩ := st
    rcases List.mem_cons.mp hb with rfl | hb
    · exact ⟨_, he, fun v z => by cases z⟩
    · have e2 : b = it := by simpa using hb
      subst e2
      exact ⟨o, e1, fun v z => by rw [d] at z; cases z⟩
  · obtain ⟨⟨old, he⟩, o, e1, r⟩ := st
    exact ⟨⟨old, kk e (by simp) _ he⟩, o, kk it (by simp) o e1, r⟩
  · intro X hP hw hK hc i pins s σ H E I hf st hg
    subst hP hw hK
    have hg' : i < x.cps.size := by
      have : i < x.cps.toList.length := hg
      rwa [Array.length_toList] at this
    have hA := I.ok.hd hc
    refine (WT X.A hA).item i s _ E hg' st fun T vals h' tk hP hT hTup mid kk => ?_
    refine ⟨.ref T, rfl, (WT X.A hA).go elts k0 pos i T _ _ E mid fun h'' st'' kk'' => ?_⟩
    obtain ⟨tt, xv, ⟨c, u, hcx, rfl⟩, rfl⟩ := hP
    have hT2 : IsTup h'' T #[.int i tt, .str ⟨#[c]⟩ u] := by
      obtain ⟨o, ho, r⟩ := hTup
      exact ⟨o, kk'' T o ((WT X.A hA).apart i T _ mid) ho, r⟩
    have hn : H T = none := I.hok.fresh hT
    refine ⟨.ref T, upd H T (.tup [.int (i : Nat), .str (tx [c])]), ?_, rfl, ⟨T, c, by simpa using hcx, hn, rfl, rfl⟩, st'', fun b hb => ?_⟩
    · exact I.turnedNew (fp := [e, it]) hf (fun b ob hb q => kk'' b ob hb (kk b ob hb q)) hT ⟨by show 2 ≤ sizeLine; rw [sizeLine_eq]; decide, [.int i tt, .str ⟨#[c]⟩ u], .cons ⟨_, rfl⟩ (.cons ⟨_, rfl⟩ .nil), hT2⟩
    · rw [upd_ne (fun z => ?_)]
      · exact (hf b hb).1
      · obtain ⟨⟨old, he⟩, o, e1, _⟩ := st
        have hbl : b < s.heap.objs.size := by
          rcases List.mem_cons.mp hb with rfl | hb
          · exact Heap.lt_size he
          · have e2 : b = it := by simpa using hb
            subst e2
            exact Heap.lt_size e1
        exact absurd (Nat.lt_of_lt_of_le hbl hT) (by rw [z]; exact Nat.lt_irrefl _)
  · intro X hP hw hK hc i pins s σ H E I hf st hg
    subst hP hw hK
    have hg' : i = x.cps.size := by
      have : i = x.cps.toList.length := hg
      rwa [Array.length_toList] at this
    subst hg'
    exact (WT X.A (I.ok.hd hc)).done s _ E st fun h' tk kk => ⟨rfl, I.turnedL (fp := [e, it]) hf kk⟩
  · intro A i s Q E st h
    obtain ⟨⟨old, he⟩, _⟩ := st
    exact wpAny_pyIter_enum he h
section
variable {X : Cx} {elts : List Expr} {k0 : Nat} {tpos pos p : Pos}
def iEnS (ta : TA) : TI := fun σ H R => ta σ H fun vs H1 => ∃ l : List Nat, vs = [.str (tx l)] ∧ R (Ite l) H1
theorem boEnum : bootBuiltins "enumerate" = some (.type "enumerate") := by decide +kernel
theorem pi_enum_str {a : Expr} {ta : TA} (hg : Gl X "enumerate") (hm : X.mg "enumerate" = none) (ha : PA X [a] ta) (hs : starEach [a] X.env = [(false, eval a X.env)] := by rfl) : PI X (.Tuple elts k0 tpos) (.Call (.Name "enumerate" p) [a] [] pos) (iEnS ta) := by
  intro pins s σ H R I h
  refine Call_ (ld_blt I hg hm boEnum (PyProof.Rows.callWith_type1 (thn (ha pos pins s σ H _ I h) fun us s1 ⟨vs, H1, I1, r1, q1⟩ => ?_) hs rfl))
  obtain ⟨l, e, q⟩ := q1
  subst e
  obtain ⟨u, rfl, ru⟩ := vals1 r1
  obtain ⟨t, rfl⟩ := ru
  refine call_enumerate_str fun h' he hit hz hk => ?_
  refine wpAny_pyIter_enum (s := { s1 with heap := h' }) he ?_
  have el : (tx l).cps.toList = l := by simp [tx]
  have fp : ∀ b ∈ [s1.heap.objs.size + 1, s1.heap.objs.size], FpOk X pins H1 b := fun b hb => by
    rcases List.mem_cons.mp hb with rfl | hb
    · exact I1.fpOk (Nat.le_succ _) (I1.hok.fresh (Nat.le_succ _))
    · have e : b = s1.heap.objs.size := by simpa using hb
      subst e
      exact I1.fpOk (Nat.le_refl _) (I1.hok.fresh (Nat.le_refl _))
  have hne : s1.heap.objs.size + 1 ≠ s1.heap.objs.size := by omega
  refine ⟨s1.heap.objs.size + 1, [s1.heap.objs.size + 1, s1.heap.objs.size], (fun i h => (∃ old, IsEnum h (s1.heap.objs.size + 1) s1.heap.objs.size i old) ∧ h.IsStrIter s1.heap.objs.size (strIterType (tx l)) (tx l) t i), _, H1, rfl, I1.kept (t' := s1.toks) hk,
    turn_enum _ _ (tx l) t (strIterType (tx l)) hne (fun A hA => ?_), ⟨⟨_, he⟩, hit⟩, fp, by rw [el]; exact q⟩
  unfold strIterType
  cases ha : (tx l).cps.all (· < 128) with
  | true => exact Draws.strAscii (A := A.in1) hA _ (tx l) t
  | false => exact Draws.strWide (A := A.in1) hA _ (tx l) t
end
theorem for_enum {l : List Nat} {g : TG} {tb : TS} {D : Ends} {σ : St} {H : Hp} (Pv : Nat → St → Hp → Prop) (h0 : Pv 0 σ H)
    (hs : ∀ i c p σ H, l[i]? = some c → H p = none → Pv i σ H → g (.ref p) σ (upd H p (.tup [.int (i : Nat), .str (tx [c])])) fun σ2 H2 => tb { D with nx := Pv (i + 1), ct := Pv (i + 1), bk := D.nx } σ2 H2) (hd : ∀ σ H, Pv l.length σ H → D.nx σ H) :
    ∃ W : Nat → Nat → St → Hp → Prop, (∃ m, W 0 m σ H) ∧ ∀ i m σ H, W i m σ H →
      ((Ite l).stop i H ∧ D.nx σ H) ∨ ((Ite l).go i H ∧ ∃ N : St → Hp → Prop, (∀ σ' H', N σ' H' → ∃ m', m' < m ∧ W (i + 1) m' σ' H') ∧ ∀ x H', (Ite l).yld i H x H' → g x σ H' fun σ2 H2 => tb { D with nx := N, ct := N, bk := D.nx } σ2 H2) := by
  refine ⟨fun i m σ H => m = l.length - i ∧ i ≤ l.length ∧ Pv i σ H, ⟨l.length, by simp, Nat.zero_le _, h0⟩, ?_⟩
  rintro i m σ H ⟨rfl, hi, p⟩
  by_cases hlt : i < l.length
  · refine .inr ⟨hlt, Pv (i + 1), fun σ' H' p' => ⟨l.length - (i + 1), by omega, rfl, hlt, p'⟩, fun x H' y => ?_⟩
    obtain ⟨p', c, hc, hp', ex, eH⟩ := y
    subst ex eH
    exact hs i c p' σ H hc hp' p
  · have e : i = l.length := by omega
    subst e
    exact .inl ⟨rfl, hd σ H p⟩

/-! ### the module's dicts with texts as keys -/
def KTab (w : World) (K : PySem.W.Frag) (a : Addr) (f : List Nat → Option V) : Prop := (a == sysModules) = false ∧ ∃ (es : Array DictEntry) (n : Nat), K.lookup a = some ⟨.type "dict", none, .dict es n, #[]⟩ ∧ PySem.W.KeysLit w.params es.toList ∧ ∀ l, RelO (f l) (findBy Value.isStrOf es (tx l))
theorem tab_rel : ∀ {ps : List (List Nat × V)} {es : List DictEntry}, Paired (fun (p : List Nat × V) (e : DictEntry) => (∃ t, e.key = .str (tx p.1) t) ∧ RelV p.2 e.val) ps es → ∀ l, RelO (ps.lookup l) ((es.find? fun e => Value.isStrOf (tx l) e.key).map (·.val))
  | [], _, .nil, l => trivial
  | p :: ps, _, .cons (b := e) ⟨⟨t, hk⟩, hv⟩ r, l => by
    have ih := tab_rel r l
    obtain ⟨k, v⟩ := p
    have hb : Value.isStrOf (tx l) e.key = (l == k) := by
      rw [hk, Bool.eq_iff_iff]
      simp only [Value.isStrOf, beq_iff_eq, decide_eq_true_eq]
      exact ⟨fun q => (tx_inj q).symm, fun q => by rw [q]⟩
    rw [List.lookup_cons, List.find?_cons, hb]
    cases (l == k) with
    | true => exact hv
    | false => exact ih
theorem ktab_mk {w : World} {K : PySem.W.Frag} {a : Addr} {es : Array DictEntry} {n : Nat} {ps : List (List Nat × V)} (l : K.lookup a = some ⟨.type "dict", none, .dict es n, #[]⟩) (hk : PySem.W.KeysLit w.params es.toList) (s : (a == sysModules) = false)
    (p : Paired (fun (p : List Nat × V) (e : DictEntry) => (∃ t, e.key = .str (tx p.1) t) ∧ RelV p.2 e.val) ps es.toList) : KTab w K a (fun l => ps.lookup l) :=
  ⟨s, es, n, l, hk, fun q => by
    have := tab_rel p q
    obtain ⟨es'⟩ := es
    unfold findBy
    rw [List.find?_toArray]
    exact this⟩
section
variable {X : Cx} {o e f : Expr} {td te tf : TE} {apos cpos pos : Pos}
theorem Inv.kmap {pins : List (Addr × Obj)} {σ : St} {H : Hp} {s : Shared} {a : Addr} {F : List Nat → Option V} (I : Inv X pins σ H s) (h : KTab X.w X.K a F) : ∃ f, s.heap.MapOf (strKind X.prog X.w) a f ∧ ∀ l, RelO (F l) (f (tx l)) := by
  obtain ⟨_, es, n, l, hk, r⟩ := h
  exact ⟨_, PySem.W.mapOf_K I.kIn l hk, r⟩
/-- d.get(k, z), d a dict of the module -/
def tKGet2 (w : World) (K : PySem.W.Frag) (td te tf : TE) : TE := fun σ H Q => td σ H fun x H1 => ∃ a F, x = .ref a ∧ KTab w K a F ∧ te σ H1 fun y H2 => tf σ H2 fun z H3 => ∃ l, y = .str (tx l) ∧ Q ((F l).getD z) H3
theorem pe_kget2 {w : World} {K : PySem.W.Frag} (hw : X.w = w) (hK : X.K = K) (ho : PE X o td) (he : PE X e te) (hf : PE X f tf) (base : attributeBase o "get" X.env (eval o X.env) = eval o X.env := by rfl)
    (few : ((backTo cpos (starEach [e, f] X.env)).all (fun x => !x.1) && (backToKw cpos (keywordEach [] X.env)).all (fun x => x.1.isSome)
      && decide (([e, f] : List Expr).length + ([] : List Keyword).length + (if ([] : List Keyword).isEmpty then 0 else 1) < 30)) = true := by rfl) (line : (apos.endLine == cpos.line) = true := by rfl) (trees : backTo cpos (starEach [e, f] X.env) = [(false, eval e X.env), (false, eval f X.env)] := by rfl) :
    PE X (.Call (.Attribute o "get" apos) [e, f] [] cpos) (tKGet2 w K td te tf) := by
  subst hw hK
  intro pins s σ H Q I h
  refine wpAny_Call_method base few line PySem.F.plainAttrs_dict PySem.F.slot_dict_get PySem.F.type_dict_get (thn (ho pins s σ H _ I h) fun u s1 ⟨x, H1, I1, rx, a, F, ex, d, q1⟩ => ?_)
  subst ex
  obtain rfl : u = Value.ref a := rx
  obtain ⟨fm, hm, _⟩ := I1.kmap d
  refine ⟨hm.typeIs, fun b q => ?_, ?_⟩
  · cases q
    obtain ⟨ob, _, _, h1, h2, _⟩ := hm
    exact ⟨ob, h1, h2.2.1⟩
  rw [trees]
  refine Calls.callWith_builtin rfl (Calls.evalArgs_plain (Calls.spliced_cons (thn (he pins s1 σ H1 _ I1 q1) fun iv s2 ⟨y, H2, I2, ry, q2⟩ =>
    Calls.spliced_cons (thn (hf pins s2 σ H2 _ I2 q2) fun fv s3 ⟨z, H3, I3, rz, l, ey, q3⟩ => Calls.spliced_nil ?_))))
  subst ey
  obtain ⟨t, rfl⟩ := ry
  obtain ⟨f3, hm3, rel⟩ := I3.kmap d
  exact call_meetsIn PySem.F.slot_dict_get hm3.typeIs PySem.F.entry_dict_get (PySem.F.args_dict_get_3 _ _ _) (meets_dict_get_default (strKind X.prog X.w) a (strKind_is X.prog X.w (tx l) t) d.1 fv) ⟨_, hm3, ⟨_, H3, I3.tok _, (rel l).getD rz, q3⟩⟩
def tKGet1 (w : World) (K : PySem.W.Frag) (td te : TE) : TE := fun σ H Q => td σ H fun x H1 => ∃ a F, x = .ref a ∧ KTab w K a F ∧ te σ H1 fun y H2 => ∃ l, y = .str (tx l) ∧ Q ((F l).getD .non) H2
theorem pe_kget1 {w : World} {K : PySem.W.Frag} (hw : X.w = w) (hK : X.K = K) (ho : PE X o td) (he : PE X e te) (base : attributeBase o "get" X.env (eval o X.env) = eval o X.env := by rfl)
    (few : ((backTo cpos (starEach [e] X.env)).all (fun x => !x.1) && (backToKw cpos (keywordEach [] X.env)).all (fun x => x.1.isSome)
      && decide (([e] : List Expr).length + ([] : List Keyword).length + (if ([] : List Keyword).isEmpty then 0 else 1) < 30)) = true := by rfl) (line : (apos.endLine == cpos.line) = true := by rfl) (trees : backTo cpos (starEach [e] X.env) = [(false, eval e X.env)] := by rfl) :
    PE X (.Call (.Attribute o "get" apos) [e] [] cpos) (tKGet1 w K td te) := by
  subst hw hK
  intro pins s σ H Q I h
  refine wpAny_Call_method base few line PySem.F.plainAttrs_dict PySem.F.slot_dict_get PySem.F.type_dict_get (thn (ho pins s σ H _ I h) fun u s1 ⟨x, H1, I1, rx, a, F, ex, d, q1⟩ => ?_)
  subst ex
  obtain rfl : u = Value.ref a := rx
  obtain ⟨fm, hm, _⟩ := I1.kmap d
  refine ⟨hm.typeIs, fun b q => ?_, ?_⟩
  · cases q
    obtain ⟨ob, _, _, h1, h2, _⟩ := hm
    exact ⟨ob, h1, h2.2.1⟩
  rw [trees]
  refine Calls.callWith_builtin rfl (Calls.evalArgs_plain (Calls.spliced_cons (thn (he pins s1 σ H1 _ I1 q1) fun iv s2 ⟨y, H2, I2, ry, l, ey, q3⟩ => Calls.spliced_nil ?_)))
  subst ey
  obtain ⟨t, rfl⟩ := ry
  obtain ⟨f3, hm3, rel⟩ := I2.kmap d
  exact call_meetsIn PySem.F.slot_dict_get hm3.typeIs PySem.F.entry_dict_get (PySem.F.args_dict_get_2 _ _) (meets_dict_get (strKind X.prog X.w) a (strKind_is X.prog X.w (tx l) t) d.1) ⟨_, hm3, ⟨_, H2, I2.tok _, (rel l).getD (show RelV .non Value.none from rfl), q3⟩⟩
/-- k in d, k not in d -/
theorem op_inK : OpR X (compareOp .In) (fun x y H Q => ∃ l a F, x = .str (tx l) ∧ y = .ref a ∧ KTab X.w X.K a F ∧ Q (.bl (F l).isSome) H) := by
  intro pins s σ H x y v u Q I rx ry h
  obtain ⟨l, a, F, rfl, rfl, d, q⟩ := h
  obtain ⟨t, rfl⟩ := rx
  cases ry
  obtain ⟨fm, hm, rel⟩ := I.kmap d
  refine wpAny_in_of (strKind_is X.prog X.w (tx l) t) d.1 hm ?_
  rw [← (rel l).isSome_eq]
  exact ⟨.bl _, H, I.tok _, rfl, q⟩
theorem op_notInK : OpR X (compareOp .NotIn) (fun x y H Q => ∃ l a F, x = .str (tx l) ∧ y = .ref a ∧ KTab X.w X.K a F ∧ Q (.bl (!(F l).isSome)) H) := by
  intro pins s σ H x y v u Q I rx ry h
  obtain ⟨l, a, F, rfl, rfl, d, q⟩ := h
  obtain ⟨t, rfl⟩ := rx
  cases ry
  obtain ⟨fm, hm, rel⟩ := I.kmap d
  refine wpAny_notIn_of (strKind_is X.prog X.w (tx l) t) d.1 hm ?_
  rw [← (rel l).isSome_eq]
  exact ⟨.bl _, H, I.tok _, rfl, q⟩
/-- d[k] -/
theorem ix_ktab : IxR X (fun x y H Q => ∃ l a F v, x = .ref a ∧ y = .str (tx l) ∧ KTab X.w X.K a F ∧ F l = some v ∧ Q v H) := by
  intro value slice pins s σ H x y v u Q I rx ry h hs
  obtain ⟨l, a, F, vv, rfl, rfl, d, e, q⟩ := h
  cases rx
  obtain ⟨t, rfl⟩ := ry
  obtain ⟨fm, hm, rel⟩ := I.kmap d
  have r := rel l
  rw [e] at r
  obtain ⟨uu, eu, ru⟩ := RelO.some_of r
  exact tail_any hm.typeIs slot_dict_getitem.lookup (wpAny_getItem_of (strKind_is X.prog X.w (tx l) t) hm eu ⟨vv, H, I.tok _, ru, q⟩) hs
/-- s * n -/
theorem fold_flat : ∀ (ls : List (Array Nat)) (a : Array Nat), ls.foldl (· ++ ·) a = (a.toList ++ (ls.map (·.toList)).flatten).toArray
  | [], a => by simp
  | x :: r, a => by rw [List.foldl_cons, fold_flat r]; simp
theorem mul_flat (l : List Nat) (n : Nat) (hn : 0 < n) : Txt.mul (tx l) (n : Int) = tx (List.replicate n l).flatten := by
  unfold Txt.mul
  rw [if_neg (by omega)]
  by_cases h1 : ((n : Int) == 1 || (tx l).length == 0) = true
  · rw [if_pos h1]
    rw [Bool.or_eq_true] at h1
    rcases h1 with h | h
    · have : n = 1 := by have := eq_of_beq h; omega
      subst this
      simp
    · have hl : l = [] := by
        have := eq_of_beq h
        rw [tx_len] at this
        exact List.eq_nil_of_length_eq_zero this
      subst hl
      simp
  · rw [if_neg h1, fold_flat]
    simp [tx]
theorem op_mulS : OpR X (binaryOp .Mult) (fun x y H Q => ∃ (l : List Nat) (n : Nat), x = .str (tx l) ∧ y = .int (n : Nat) ∧ 0 < n ∧ n ≤ 1000 ∧ l.length ≤ 10000 ∧ Q (.str (tx (List.replicate n l).flatten)) H) := by
  intro pins s σ H x y v u Q I rx ry h
  obtain ⟨l, n, rfl, rfl, h0, h1, h2, q⟩ := h
  obtain ⟨t, rfl⟩ := rx
  obtain ⟨t', rfl⟩ := ry
  have e : l.length * n ≤ 10000 * 1000 := Nat.mul_le_mul h2 h1
  refine PySem.SB.mul ⟨by rw [decide_eq_false (by omega), decide_eq_false (by omega)]; rfl, fun _ _ => ?_, fun _ _ => ?_⟩ fun t' k => ⟨.str (tx (List.replicate n l).flatten), H, I.tok _, ⟨t', by rw [mul_flat l n h0]⟩, q⟩
  · rw [tx_len]
    have e2 : ((l.length : Int)) * (n : Int) ≤ 2 ^ 63 - 1 := by
      have : ((l.length * n : Nat) : Int) ≤ 10000 * 1000 := by exact_mod_cast e
      rw [Int.natCast_mul] at this
      omega
    have := Int.le_ediv_of_mul_le (show (0 : Int) < (n : Int) by omega) e2
    omega
  · rw [tx_len]
    unfold Builtin.Str.tooLong sizeLine
    rw [Int.toNat_natCast]
    exact decide_eq_false (by omega)
end

/-- a module's object -/
theorem pe_gr {X : Cx} {pos : Pos} {x : Str} {a : Addr} (hm : X.mg x = some (.ref a)) (hg : Gl X x) (hd : (x == ("__debug__" : Str)) = false := by decide) : PE X (.Name x pos) (tC (.ref a)) := pe_glob hg hm (show RelV (.ref a) (.ref a) from rfl) hd
theorem Paired.flip {α β : Type} {F : α → β → Prop} : ∀ {l₁ : List α} {l₂ : List β}, Paired F l₁ l₂ → Paired (fun b a => F a b) l₂ l₁
  | _, _, .nil => .nil
  | _, _, .cons r t => .cons r (Paired.flip t)

/-! ### comprehensions that make objects -/
theorem comp_strP {l : List Nat} {te : TE} {σ0 rest : St} {H0 : Hp} {R : List V → Hp → Prop} (Rel : Hp → Nat → V → Prop) (mono : ∀ H H' c v, Same H H' → Rel H c v → Rel H' c v) (hσ : σ0 = none :: rest) (hz : l.length ≤ 1000000)
    (hs : ∀ (c : Nat) (H : Hp) (Qk : VK), c ∈ l → Same H0 H → (∀ v H', Same H H' → Rel H' c v → Qk v H') → te (some (.str (tx [c])) :: rest) H Qk) (hd : ∀ ys H, Same H0 H → Paired (Rel H) l ys → R ys H) : compR (Its l) (gName 0) tYes te σ0 H0 R := by
  subst hσ
  refine comp_str (fun i σ ys H => (∃ o, σ = o :: rest) ∧ Paired (Rel H) (l.take i) ys ∧ Same H0 H) ⟨⟨_, rfl⟩, .nil, Same.refl _⟩ (small hz) (fun i σ ys H hi p => ?_) (fun i c σ ys H hc p => ?_) fun σ ys H p => ?_
  · obtain ⟨_, q, _⟩ := p
    have := Paired.length q
    rw [List.length_take] at this; omega
  · obtain ⟨⟨o, rfl⟩, q, hJ⟩ := p
    refine hs c H _ (List.mem_of_getElem? hc) hJ fun v H' hs' hr => ⟨⟨_, rfl⟩, ?_, hJ.trans hs'⟩
    rw [List.take_add_one, hc]
    exact Paired.snoc (Paired.mapP q fun a b z => mono H H' a b hs' z) hr
  · obtain ⟨_, q, hJ⟩ := p
    rw [List.take_length] at q
    exact hd ys H hJ q
theorem comp_listP {K : PySem.W.Frag} {a : Addr} {xs : List V} {te : TE} {σ0 rest : St} {H0 : Hp} {R : List V → Hp → Prop} (Rel : Hp → V → V → Prop) (mono : ∀ H H' c v, Same H H' → Rel H c v → Rel H' c v) (hσ : σ0 = none :: rest) (hz : xs.length ≤ 1000000) (hl : SqL K H0 a xs)
    (hs : ∀ (x : V) (H : Hp) (Qk : VK), x ∈ xs → Same H0 H → (∀ v H', Same H H' → Rel H' x v → Qk v H') → te (some x :: rest) H Qk) (hd : ∀ ys H, Same H0 H → Paired (Rel H) xs ys → R ys H) : compR (Itl K a) (gName 0) tYes te σ0 H0 R := by
  subst hσ
  refine comp_list (fun i σ ys H => (∃ o, σ = o :: rest) ∧ Paired (Rel H) (xs.take i) ys ∧ Same H0 H) ⟨⟨_, rfl⟩, .nil, Same.refl _⟩ (small hz) (fun i σ ys H hi p => ?_) (fun i c σ ys H hc p => ?_) fun σ ys H p => ?_
  · obtain ⟨_, q, hJ⟩ := p
    refine ⟨hJ.seq hl, ?_⟩
    have := Paired.length q
    rw [List.length_take] at this; omega
  · obtain ⟨⟨o, rfl⟩, q, hJ⟩ := p
    refine hs c H _ (List.mem_of_getElem? hc) hJ fun v H' hs' hr => ⟨⟨_, rfl⟩, ?_, hJ.trans hs'⟩
    rw [List.take_add_one, hc]
    exact Paired.snoc (Paired.mapP q fun a b z => mono H H' a b hs' z) hr
  · obtain ⟨_, q, hJ⟩ := p
    rw [List.take_length] at q
    exact hd ys H hJ q
end L2
namespace L2
theorem Paired.map_left {α β γ : Type} {F : β → γ → Prop} {f : α → β} : ∀ {l₁ : List α} {l₂ : List γ}, PySem.Paired (fun a c => F (f a) c) l₁ l₂ → PySem.Paired F (l₁.map f) l₂
  | _, _, .nil => .nil
  | _, _, .cons r t => .cons r (Paired.map_left t)
end L2
namespace L2
open PySem PySem.Spec PyProof.Rows
section
variable {X : Cx}
/-- s.find(c) -/
theorem mt_find : MtR X "str.find" (fun x xs H Q => ∃ l c, x = .str (tx l) ∧ xs = [.str (tx [c])] ∧ Q (.int (Txt.find (tx l) (tx [c]))) H) := by
  intro pins s σ H x xs v us Q I rx rs h
  obtain ⟨l, c, rfl, rfl, q⟩ := h
  obtain ⟨t, rfl⟩ := rx
  obtain ⟨u, rfl, ru⟩ := vals1 rs
  obtain ⟨t', rfl⟩ := ru
  exact SC.find ⟨.int _, H, I.tok _, ⟨_, rfl⟩, q⟩
theorem find_no {l : List Nat} {c : Nat} (h : c ∉ l) : Txt.find (tx l) (tx [c]) = -1 := by
  have e := StrLaws.found_one (tx l) c
  have e2 : decide (c ∈ (tx l).cps.toList) = false := by simpa [tx] using h
  rw [e2] at e
  unfold Txt.find
  cases q : Builtin.Str.occurrences (tx l) (tx [c]) 0 (tx l).length 1 with
  | nil => rfl
  | cons a r => rw [show (⟨#[c]⟩ : Str) = tx [c] from rfl, q] at e; cases e
/-- one sign <= another -/
theorem le1 (a b : Nat) : (!decide ((tx [b]).cps.toList < (tx [a]).cps.toList)) = decide (a ≤ b) := by
  show (!decide ([b] < [a])) = decide (a ≤ b)
  have : ([b] < [a]) ↔ b < a := by
    constructor
    · intro h
      cases h with
      | rel h => exact h
      | cons h => cases h
    · intro h; exact List.Lex.rel h
  by_cases h : a ≤ b
  · rw [decide_eq_true h, decide_eq_false (by rw [this]; omega)]; rfl
  · rw [decide_eq_false h, decide_eq_true (by rw [this]; omega)]; rfl
theorem op_leS : OpR X (compareOp .LtE) (fun x y H Q => ∃ a b : Nat, x = .str (tx [a]) ∧ y = .str (tx [b]) ∧ Q (.bl (decide (a ≤ b))) H) := by
  intro pins s σ H x y v u Q I rx ry h
  obtain ⟨a, b, rfl, rfl, q⟩ := h
  obtain ⟨t, rfl⟩ := rx
  obtain ⟨t', rfl⟩ := ry
  exact PySem.P.le_str (fin_bl I q (le1 a b).symm)
end
end L2
namespace L2
open PySem
theorem chS {lo c hi : Nat} {H : Hp} {Q : VK} (h : Q (.bl (decide (lo ≤ c) && decide (c ≤ hi))) H) :
    if decide (lo ≤ c) = true then (∃ a b : Nat, V.str (tx [c]) = V.str (tx [a]) ∧ V.str (tx [hi]) = V.str (tx [b]) ∧ Q (.bl (decide (a ≤ b))) H) else Q (.bl false) H := by
  cases e : decide (lo ≤ c) with
  | true => rw [e] at h; exact iteT ⟨c, hi, rfl, rfl, h⟩
  | false => rw [e] at h; exact iteF h
end L2
namespace L2
theorem Paired.app {α β : Type} {F : α → β → Prop} : ∀ {l₁ m₁ : List α} {l₂ m₂ : List β}, PySem.Paired F l₁ l₂ → PySem.Paired F m₁ m₂ → PySem.Paired F (l₁ ++ m₁) (l₂ ++ m₂)
  | _, _, _, _, .nil, s => s
  | _, _, _, _, .cons r t, s => .cons r (Paired.app t s)
end L2

/-! DATA: None, truths, ints, texts, tuples and lists of these, to any depth; == and != of them -/
namespace L2
open PySem PySem.Spec PyProof.Rows PySem.SeqAt

inductive Dt where
  | non | bl (b : Bool) | int (i : Int) | str (l : List Nat) | tup (xs : List Dt) | lst (xs : List Dt)
mutual
def IsDt (K : PySem.W.Frag) (H : Hp) : Dt → V → Prop
  | .non, v => v = .non
  | .bl b, v => v = .bl b
  | .int i, v => v = .int i
  | .str l, v => v = .str (tx l)
  | .tup xs, v => ∃ a vs, v = .ref a ∧ SqT K H a vs ∧ IsDts K H xs vs
  | .lst xs, v => ∃ a vs, v = .ref a ∧ SqL K H a vs ∧ IsDts K H xs vs
def IsDts (K : PySem.W.Frag) (H : Hp) : List Dt → List V → Prop
  | [], vs => vs = []
  | d :: ds, vs => ∃ v r, vs = v :: r ∧ IsDt K H d v ∧ IsDts K H ds r
end
mutual
/-- == -/
def eqD : Dt → Dt → Bool
  | .non, .non => true
  | .bl a, .bl b => a == b
  | .bl a, .int b => (if a then 1 else 0) == b
  | .int a, .bl b => a == (if b then 1 else 0)
  | .int a, .int b => a == b
  | .str a, .str b => a == b
  | .tup xs, .tup ys => eqDs xs ys
  | .lst xs, .lst ys => eqDs xs ys
  | _, _ => false
def eqDs : List Dt → List Dt → Bool
  | [], [] => true
  | x :: xs, y :: ys => eqD x y && eqDs xs ys
  | _, _ => false
end
mutual
def dp : Dt → Nat
  | .tup xs => dps xs + 1
  | .lst xs => dps xs + 1
  | _ => 0
def dps : List Dt → Nat
  | [] => 0
  | x :: r => max (dp x) (dps r)
end
theorem dp_mem : ∀ {xs : List Dt} {d : Dt}, d ∈ xs → dp d ≤ dps xs
  | x :: r, d, h => by
    unfold dps
    rcases List.mem_cons.mp h with rfl | h
    · exact Nat.le_max_left _ _
    · exact Nat.le_trans (dp_mem h) (Nat.le_max_right _ _)
theorem eqD_self_n : ∀ (n : Nat) (d : Dt), dp d < n → eqD d d = true
  | 0, _, h => by omega
  | n + 1, d, h => by
    have lists : ∀ xs : List Dt, dps xs < n → eqDs xs xs = true := by
      intro xs
      induction xs with
      | nil => intro _; unfold eqDs; rfl
      | cons x r ih =>
        intro hx
        unfold dps at hx
        unfold eqDs
        rw [eqD_self_n n x (by omega), ih (by omega)]; rfl
    cases d with
    | non => unfold eqD; rfl
    | bl b => unfold eqD; simp
    | int b => unfold eqD; simp
    | str b => unfold eqD; simp
    | tup xs => unfold dp at h; unfold eqD; exact lists xs (by omega)
    | lst xs => unfold dp at h; unfold eqD; exact lists xs (by omega)
theorem eqD_self (d : Dt) : eqD d d = true := eqD_self_n _ d (Nat.lt_succ_self _)
theorem IsDts.len {K : PySem.W.Frag} {H : Hp} : ∀ {xs : List Dt} {vs : List V}, IsDts K H xs vs → xs.length = vs.length
  | [], vs, h => by unfold IsDts at h; subst h; rfl
  | d :: ds, vs, h => by
    unfold IsDts at h
    obtain ⟨v, r, rfl, _, h⟩ := h
    rw [List.length_cons, List.length_cons, IsDts.len h]
theorem IsDts.get {K : PySem.W.Frag} {H : Hp} : ∀ {xs : List Dt} {vs : List V} {j : Nat} {d : Dt} {v : V}, IsDts K H xs vs → xs[j]? = some d → vs[j]? = some v → IsDt K H d v
  | [], vs, j, d, v, h, e, _ => by simp at e
  | x :: xs, vs, j, d, v, h, e, e' => by
    unfold IsDts at h
    obtain ⟨w, r, rfl, h1, h2⟩ := h
    cases j with
    | zero => simp at e e'; subst e e'; exact h1
    | succ j => exact IsDts.get (j := j) h2 (by simpa using e) (by simpa using e')
theorem dts_nil {K : PySem.W.Frag} {H : Hp} : IsDts K H [] [] := by unfold IsDts; rfl
theorem dts_cons {K : PySem.W.Frag} {H : Hp} {d : Dt} {ds : List Dt} {v : V} {r : List V} (h1 : IsDt K H d v) (h2 : IsDts K H ds r) : IsDts K H (d :: ds) (v :: r) := by unfold IsDts; exact ⟨v, r, rfl, h1, h2⟩
theorem dt_non {K : PySem.W.Frag} {H : Hp} : IsDt K H .non .non := by unfold IsDt; rfl
theorem dt_bl {K : PySem.W.Frag} {H : Hp} {b : Bool} : IsDt K H (.bl b) (.bl b) := by unfold IsDt; rfl
theorem dt_int {K : PySem.W.Frag} {H : Hp} {b : Int} : IsDt K H (.int b) (.int b) := by unfold IsDt; rfl
theorem dt_str {K : PySem.W.Frag} {H : Hp} {b : List Nat} : IsDt K H (.str b) (.str (tx b)) := by unfold IsDt; rfl
theorem dt_tup {K : PySem.W.Frag} {H : Hp} {xs : List Dt} {a : Addr} {vs : List V} (h : SqT K H a vs) (h2 : IsDts K H xs vs) : IsDt K H (.tup xs) (.ref a) := by unfold IsDt; exact ⟨a, vs, rfl, h, h2⟩
theorem dt_lst {K : PySem.W.Frag} {H : Hp} {xs : List Dt} {a : Addr} {vs : List V} (h : SqL K H a vs) (h2 : IsDts K H xs vs) : IsDt K H (.lst xs) (.ref a) := by unfold IsDt; exact ⟨a, vs, rfl, h, h2⟩
theorem IsDt.same_n {K : PySem.W.Frag} {H H' : Hp} (s : Same H H') : ∀ (n : Nat) (d : Dt) (v : V), dp d < n → IsDt K H d v → IsDt K H' d v
  | 0, _, _, h, _ => by omega
  | n + 1, d, v, h, hd => by
    have lists : ∀ (xs : List Dt) (vs : List V), dps xs < n → IsDts K H xs vs → IsDts K H' xs vs := by
      intro xs
      induction xs with
      | nil => intro vs _ h; unfold IsDts at h ⊢; exact h
      | cons x r ih =>
        intro vs hx h
        unfold dps at hx
        unfold IsDts at h ⊢
        obtain ⟨w, q, e, h1, h2⟩ := h
        exact ⟨w, q, e, IsDt.same_n s n x w (by omega) h1, ih q (by omega) h2⟩
    cases d with
    | tup xs =>
      unfold dp at h
      unfold IsDt at hd ⊢
      obtain ⟨a, vs, e, h1, h2⟩ := hd
      exact ⟨a, vs, e, s.tup h1, lists xs vs (by omega) h2⟩
    | lst xs =>
      unfold dp at h
      unfold IsDt at hd ⊢
      obtain ⟨a, vs, e, h1, h2⟩ := hd
      exact ⟨a, vs, e, s.seq h1, lists xs vs (by omega) h2⟩
    | non => unfold IsDt at hd ⊢; exact hd
    | bl b => unfold IsDt at hd ⊢; exact hd
    | int b => unfold IsDt at hd ⊢; exact hd
    | str b => unfold IsDt at hd ⊢; exact hd
theorem IsDt.same {K : PySem.W.Frag} {H H' : Hp} {d : Dt} {v : V} (h : IsDt K H d v) (s : Same H H') : IsDt K H' d v := IsDt.same_n s _ d v (Nat.lt_succ_self _) h

section
variable {X : Cx} {pins : List (Addr × Obj)} {σ : St} {H : Hp} {s : Shared}
theorem Inv.noTL (I : Inv X pins σ H s) {a : Addr} {vs us : List V} (h1 : SqT X.K H a vs) (h2 : SqL X.K H a us) : False := by
  obtain ⟨its, _, ⟨o, e, c, _⟩, _⟩ := I.tuple h1
  obtain ⟨its2, _, ⟨o2, n, e2, c2, _⟩, _⟩ := I.list h2
  rw [e] at e2; cases e2
  rw [c] at c2
  exact absurd c2 (by decide +kernel)
/-- one value is one datum -/
theorem IsDt.inj (I : Inv X pins σ H s) : ∀ (n : Nat) (d e : Dt) (v : V), dp d < n → IsDt X.K H d v → IsDt X.K H e v → d = e
  | 0, _, _, _, h, _, _ => by omega
  | n + 1, d, e, v, h, hd, he => by
    have lists : ∀ (xs ys : List Dt) (vs : List V), dps xs < n → IsDts X.K H xs vs → IsDts X.K H ys vs → xs = ys := by
      intro xs
      induction xs with
      | nil =>
        intro ys vs _ h1 h2
        unfold IsDts at h1
        subst h1
        cases ys with
        | nil => rfl
        | cons y r => unfold IsDts at h2; obtain ⟨_, _, e, _⟩ := h2; cases e
      | cons x r ih =>
        intro ys vs hx h1 h2
        unfold dps at hx
        unfold IsDts at h1
        obtain ⟨w, q, rfl, h3, h4⟩ := h1
        cases ys with
        | nil => unfold IsDts at h2; cases h2
        | cons y r' =>
          unfold IsDts at h2
          obtain ⟨w', q', e, h5, h6⟩ := h2
          injection e with e1 e2
          subst e1 e2
          rw [IsDt.inj I n x y w (by omega) h3 h5, ih r' q (by omega) h4 h6]
    cases d with
    | tup xs =>
      unfold dp at h
      unfold IsDt at hd
      obtain ⟨a, vs, rfl, h1, h2⟩ := hd
      cases e with
      | tup ys =>
        unfold IsDt at he
        obtain ⟨a', vs', e, h3, h4⟩ := he
        cases e
        rw [I.tuple_inj h3 h1] at h4
        rw [lists xs ys vs (by omega) h2 h4]
      | lst ys =>
        unfold IsDt at he
        obtain ⟨a', vs', e, h3, h4⟩ := he
        cases e
        exact (I.noTL h1 h3).elim
      | _ => unfold IsDt at he; cases he
    | lst xs =>
      unfold dp at h
      unfold IsDt at hd
      obtain ⟨a, vs, rfl, h1, h2⟩ := hd
      cases e with
      | lst ys =>
        unfold IsDt at he
        obtain ⟨a', vs', e, h3, h4⟩ := he
        cases e
        rw [I.list_inj h3 h1] at h4
        rw [lists xs ys vs (by omega) h2 h4]
      | tup ys =>
        unfold IsDt at he
        obtain ⟨a', vs', e, h3, h4⟩ := he
        cases e
        exact (I.noTL h3 h1).elim
      | _ => unfold IsDt at he; cases he
    | non =>
      unfold IsDt at hd
      subst hd
      cases e <;> unfold IsDt at he <;> first | rfl | (cases he; done) | (obtain ⟨_, _, e, _⟩ := he; cases e)
    | bl b =>
      unfold IsDt at hd
      subst hd
      cases e <;> unfold IsDt at he <;> first | (cases he; rfl) | (cases he; done) | (obtain ⟨_, _, e, _⟩ := he; cases e)
    | int b =>
      unfold IsDt at hd
      subst hd
      cases e <;> unfold IsDt at he <;> first | (cases he; rfl) | (cases he; done) | (obtain ⟨_, _, e, _⟩ := he; cases e)
    | str b =>
      unfold IsDt at hd
      subst hd
      cases e <;> unfold IsDt at he <;> first | (injection he with he; rw [tx_inj he]) | (cases he; done) | (obtain ⟨_, _, e, _⟩ := he; cases e)
theorem all_eqDs : ∀ (xs ys : List Dt), ((List.range (min xs.length ys.length)).all (fun j => eqD (xs.getD j .non) (ys.getD j .non)) && xs.length == ys.length) = eqDs xs ys
  | [], [] => by unfold eqDs; rfl
  | [], y :: ys => by unfold eqDs; simp
  | x :: xs, [] => by unfold eqDs; simp
  | x :: xs, y :: ys => by
    have ih := all_eqDs xs ys
    unfold eqDs
    rw [← ih, List.length_cons, List.length_cons, Nat.add_min_add_right, List.range_succ_eq_map, List.all_cons, List.all_map]
    have e1 : (xs.length + 1 == ys.length + 1) = (xs.length == ys.length) := by simp
    rw [e1, Bool.and_assoc]
    rfl
theorem flat_Dt {K : PySem.W.Frag} {d : Dt} {v : V} (h : IsDt K H d v) (f : flatV v = true) : (d = .non ∧ v = .non) ∨ (∃ b, d = .bl b ∧ v = .bl b) ∨ (∃ i, d = .int i ∧ v = .int i) ∨ ∃ l, d = .str l ∧ v = .str (tx l) := by
  cases d with
  | non => unfold IsDt at h; exact .inl ⟨rfl, h⟩
  | bl b => unfold IsDt at h; exact .inr (.inl ⟨b, rfl, h⟩)
  | int b => unfold IsDt at h; exact .inr (.inr (.inl ⟨b, rfl, h⟩))
  | str b => unfold IsDt at h; exact .inr (.inr (.inr ⟨b, rfl, h⟩))
  | tup xs => unfold IsDt at h; obtain ⟨a, vs, rfl, _⟩ := h; cases f
  | lst xs => unfold IsDt at h; obtain ⟨a, vs, rfl, _⟩ := h; cases f
theorem tx_beq (a b : List Nat) : (tx a == tx b) = (a == b) := by
  rw [Bool.eq_iff_iff, beq_iff_eq, beq_iff_eq]; exact tx_eq
/-- == among data -/
theorem eqAt_D (I : Inv X pins σ H s) : ∀ (n : Nat) (A : Around) (d e : Dt) (v u : V) (a b : Value), dp d < n → A.units + n < cLine → IsDt X.K H d v → IsDt X.K H e u → RelV v a → RelV u b → EqAt A s a b (eqD d e)
  | 0, _, _, _, _, _, _, _, h, _, _, _, _, _ => by omega
  | n + 1, A, d, e, v, u, a, b, h, hu, hd, he, ra, rb => by
    have hu0 : A.units < cLine := by omega
    have items : ∀ (xs ys : List Dt) (vs us : List V) (its its2 : List Value), dps xs < n → IsDts X.K H xs vs → IsDts X.K H ys us → Vals vs its → Vals us its2 →
        ∀ j (h1 : j < its.toArray.size) (h2 : j < its2.toArray.size), EqAt A.in1 s its.toArray[j] its2.toArray[j] (eqD (xs.getD j .non) (ys.getD j .non)) := by
      intro xs ys vs us its its2 hx h1 h2 r1 r2 j j1 j2
      have l1 := h1.len
      have l2 := h2.len
      have l3 := r1.length
      have l4 := r2.length
      have j1' : j < its.length := by simpa using j1
      have j2' : j < its2.length := by simpa using j2
      have hx1 : j < xs.length := by omega
      have hx2 : j < ys.length := by omega
      have hv1 : j < vs.length := by omega
      have hv2 : j < us.length := by omega
      have g1 : IsDt X.K H (xs.getD j .non) vs[j] := h1.get (j := j) (by rw [List.getD_eq_getElem?_getD, List.getElem?_eq_getElem hx1]; rfl) (List.getElem?_eq_getElem hv1)
      have g2 : IsDt X.K H (ys.getD j .non) us[j] := h2.get (j := j) (by rw [List.getD_eq_getElem?_getD, List.getElem?_eq_getElem hx2]; rfl) (List.getElem?_eq_getElem hv2)
      obtain ⟨w1, e1, q1⟩ := r1.get (List.getElem?_eq_getElem hv1)
      obtain ⟨w2, e2, q2⟩ := r2.get (List.getElem?_eq_getElem hv2)
      have m1 : its.toArray[j] = w1 := by
        have : its[j]? = some its[j] := List.getElem?_eq_getElem j1'
        rw [this] at e1; simpa using Option.some.inj e1
      have m2 : its2.toArray[j] = w2 := by
        have : its2[j]? = some its2[j] := List.getElem?_eq_getElem j2'
        rw [this] at e2; simpa using Option.some.inj e2
      rw [m1, m2]
      have hm : xs.getD j .non ∈ xs := by rw [List.getD_eq_getElem?_getD, List.getElem?_eq_getElem hx1]; exact List.getElem_mem hx1
      exact eqAt_D I n A.in1 _ _ _ _ _ _ (by have := dp_mem hm; omega) (by show A.units + 1 + n < cLine; omega) g1 g2 q1 q2
    cases d with
    | tup xs =>
      unfold dp at h
      have hd0 := hd
      unfold IsDt at hd
      obtain ⟨p, vs, rfl, h1, h2⟩ := hd
      cases ra
      obtain ⟨its, r1, t1, _⟩ := I.tuple h1
      cases e with
      | tup ys =>
        have he0 := he
        unfold IsDt at he
        obtain ⟨p', us, rfl, h3, h4⟩ := he
        cases rb
        by_cases hpp : p = p'
        · subst hpp
          have := IsDt.inj I (n + 1) _ _ _ (by unfold dp; omega) hd0 he0
          rw [this, eqD_self]
          exact EqAt.same _
        · obtain ⟨its2, r2, t2, _⟩ := I.tuple h3
          have := EqAt.of_refs hpp (RcAt.tuples t1 t2 hu0 (items xs ys vs us its its2 (by omega) h2 h4 r1 r2))
          have e1 : its.toArray.size = xs.length := by rw [List.size_toArray, ← r1.length, h2.len]
          have e2 : its2.toArray.size = ys.length := by rw [List.size_toArray, ← r2.length, h4.len]
          rw [e1, e2, all_eqDs] at this
          unfold eqD
          exact this
      | lst ys =>
        unfold IsDt at he
        obtain ⟨p', us, rfl, h3, h4⟩ := he
        cases rb
        obtain ⟨its2, r2, t2, _⟩ := I.list h3
        unfold eqD
        exact EqAt.tuple_list t1 t2.isList hu0
      | non => unfold IsDt at he; subst he; cases rb; unfold eqD; exact EqAt.tuple_none t1 hu0
      | bl b => unfold IsDt at he; subst he; cases rb; unfold eqD; exact EqAt.tuple_bool b t1 hu0
      | int b => unfold IsDt at he; subst he; obtain ⟨t, rfl⟩ := rb; unfold eqD; exact EqAt.tuple_int b t t1 hu0
      | str b => unfold IsDt at he; subst he; obtain ⟨t, rfl⟩ := rb; unfold eqD; exact EqAt.tuple_str (tx b) t t1 hu0
    | lst xs =>
      unfold dp at h
      have hd0 := hd
      unfold IsDt at hd
      obtain ⟨p, vs, rfl, h1, h2⟩ := hd
      cases ra
      obtain ⟨its, r1, t1, _⟩ := I.list h1
      cases e with
      | lst ys =>
        have he0 := he
        unfold IsDt at he
        obtain ⟨p', us, rfl, h3, h4⟩ := he
        cases rb
        by_cases hpp : p = p'
        · subst hpp
          have := IsDt.inj I (n + 1) _ _ _ (by unfold dp; omega) hd0 he0
          rw [this, eqD_self]
          exact EqAt.same _
        · obtain ⟨its2, r2, t2, _⟩ := I.list h3
          have e1 : its.toArray.size = xs.length := by rw [List.size_toArray, ← r1.length, h2.len]
          have e2 : its2.toArray.size = ys.length := by rw [List.size_toArray, ← r2.length, h4.len]
          have key := all_eqDs xs ys
          unfold eqD
          by_cases hsz : its.toArray.size = its2.toArray.size
          · have := EqAt.of_refs hpp (RcAt.lists t1.isList t2.isList hsz hu0 (items xs ys vs us its its2 (by omega) h2 h4 r1 r2))
            have hxy : xs.length = ys.length := by omega
            rw [hxy, Nat.min_self] at key
            rw [e1, hxy] at this
            rw [← key]
            simpa using this
          · have := EqAt.of_refs hpp (RcAt.lists_lengths t1.isList t2.isList (by simpa using hsz) hu0)
            have hxy : ¬ xs.length = ys.length := by omega
            have : (xs.length == ys.length) = false := by simpa using hxy
            rw [this, Bool.and_false] at key
            rw [← key]
            assumption
      | tup ys =>
        unfold IsDt at he
        obtain ⟨p', us, rfl, h3, h4⟩ := he
        cases rb
        obtain ⟨its2, r2, t2, _⟩ := I.tuple h3
        unfold eqD
        exact EqAt.list_tuple t1.isList t2 hu0
      | non => unfold IsDt at he; subst he; cases rb; unfold eqD; exact EqAt.list_none t1.isList hu0
      | bl b => unfold IsDt at he; subst he; cases rb; unfold eqD; exact EqAt.list_bool b t1.isList hu0
      | int b => unfold IsDt at he; subst he; obtain ⟨t, rfl⟩ := rb; unfold eqD; exact EqAt.list_int b t t1.isList hu0
      | str b => unfold IsDt at he; subst he; obtain ⟨t, rfl⟩ := rb; unfold eqD; exact EqAt.list_str (tx b) t t1.isList hu0
    | non =>
      unfold IsDt at hd
      subst hd
      cases e with
      | tup ys => unfold IsDt at he; obtain ⟨p', us, rfl, h3, h4⟩ := he; cases ra; cases rb; obtain ⟨its2, r2, t2, _⟩ := I.tuple h3; unfold eqD; exact EqAt.none_tuple t2 hu0
      | lst ys => unfold IsDt at he; obtain ⟨p', us, rfl, h3, h4⟩ := he; cases ra; cases rb; obtain ⟨its2, r2, t2, _⟩ := I.list h3; unfold eqD; exact EqAt.none_list t2.isList hu0
      | non => unfold IsDt at he; subst he; unfold eqD; exact eqAt_V (y := .non) (x := .non) ra rb rfl rfl
      | bl b => unfold IsDt at he; subst he; unfold eqD; exact eqAt_V (y := .non) (x := .bl b) ra rb rfl rfl
      | int b => unfold IsDt at he; subst he; unfold eqD; exact eqAt_V (y := .non) (x := .int b) ra rb rfl rfl
      | str b => unfold IsDt at he; subst he; unfold eqD; exact eqAt_V (y := .non) (x := .str (tx b)) ra rb rfl rfl
    | bl c =>
      unfold IsDt at hd
      subst hd
      cases e with
      | tup ys => unfold IsDt at he; obtain ⟨p', us, rfl, h3, h4⟩ := he; cases ra; cases rb; obtain ⟨its2, r2, t2, _⟩ := I.tuple h3; unfold eqD; exact EqAt.bool_tuple c t2 hu0
      | lst ys => unfold IsDt at he; obtain ⟨p', us, rfl, h3, h4⟩ := he; cases ra; cases rb; obtain ⟨its2, r2, t2, _⟩ := I.list h3; unfold eqD; exact EqAt.bool_list c t2.isList hu0
      | non => unfold IsDt at he; subst he; unfold eqD; exact eqAt_V (y := .bl c) (x := .non) ra rb rfl rfl
      | bl b => unfold IsDt at he; subst he; unfold eqD; exact eqAt_V (y := .bl c) (x := .bl b) ra rb rfl rfl
      | int b => unfold IsDt at he; subst he; unfold eqD; exact eqAt_V (y := .bl c) (x := .int b) ra rb rfl rfl
      | str b => unfold IsDt at he; subst he; unfold eqD; exact eqAt_V (y := .bl c) (x := .str (tx b)) ra rb rfl rfl
    | int c =>
      unfold IsDt at hd
      subst hd
      cases e with
      | tup ys => unfold IsDt at he; obtain ⟨p', us, rfl, h3, h4⟩ := he; obtain ⟨t, rfl⟩ := ra; cases rb; obtain ⟨its2, r2, t2, _⟩ := I.tuple h3; unfold eqD; exact EqAt.int_tuple c t t2 hu0
      | lst ys => unfold IsDt at he; obtain ⟨p', us, rfl, h3, h4⟩ := he; obtain ⟨t, rfl⟩ := ra; cases rb; obtain ⟨its2, r2, t2, _⟩ := I.list h3; unfold eqD; exact EqAt.int_list c t t2.isList hu0
      | non => unfold IsDt at he; subst he; unfold eqD; exact eqAt_V (y := .int c) (x := .non) ra rb rfl rfl
      | bl b => unfold IsDt at he; subst he; unfold eqD; exact eqAt_V (y := .int c) (x := .bl b) ra rb rfl rfl
      | int b => unfold IsDt at he; subst he; unfold eqD; exact eqAt_V (y := .int c) (x := .int b) ra rb rfl rfl
      | str b => unfold IsDt at he; subst he; unfold eqD; exact eqAt_V (y := .int c) (x := .str (tx b)) ra rb rfl rfl
    | str c =>
      unfold IsDt at hd
      subst hd
      cases e with
      | tup ys => unfold IsDt at he; obtain ⟨p', us, rfl, h3, h4⟩ := he; obtain ⟨t, rfl⟩ := ra; cases rb; obtain ⟨its2, r2, t2, _⟩ := I.tuple h3; unfold eqD; exact EqAt.str_tuple (tx c) t t2 hu0
      | lst ys => unfold IsDt at he; obtain ⟨p', us, rfl, h3, h4⟩ := he; obtain ⟨t, rfl⟩ := ra; cases rb; obtain ⟨its2, r2, t2, _⟩ := I.list h3; unfold eqD; exact EqAt.str_list (tx c) t t2.isList hu0
      | non => unfold IsDt at he; subst he; unfold eqD; exact eqAt_V (y := .str (tx c)) (x := .non) ra rb rfl rfl
      | bl b => unfold IsDt at he; subst he; unfold eqD; exact eqAt_V (y := .str (tx c)) (x := .bl b) ra rb rfl rfl
      | int b => unfold IsDt at he; subst he; unfold eqD; exact eqAt_V (y := .str (tx c)) (x := .int b) ra rb rfl rfl
      | str b =>
        unfold IsDt at he; subst he; unfold eqD
        have := eqAt_V (A := A) (s := s) (y := .str (tx c)) (x := .str (tx b)) ra rb rfl rfl
        have q : eqV (.str (tx c)) (.str (tx b)) = (c == b) := tx_beq c b
        rw [q] at this
        exact this
/-- the items of two tuples -/
theorem items_D (I : Inv X pins σ H s) {A : Around} {n : Nat} {xs ys : List Dt} {vs us : List V} {its its2 : List Value} (hx : dps xs < n) (hu : A.units + 1 + n < cLine) (h1 : IsDts X.K H xs vs) (h2 : IsDts X.K H ys us) (r1 : Vals vs its) (r2 : Vals us its2) :
    ∀ j (h1 : j < its.toArray.size) (h2 : j < its2.toArray.size), EqAt A.in1 s its.toArray[j] its2.toArray[j] (eqD (xs.getD j .non) (ys.getD j .non)) := by
  intro j j1 j2
  have l1 := h1.len
  have l2 := h2.len
  have l3 := r1.length
  have l4 := r2.length
  have j1' : j < its.length := by simpa using j1
  have j2' : j < its2.length := by simpa using j2
  have hx1 : j < xs.length := by omega
  have hx2 : j < ys.length := by omega
  have hv1 : j < vs.length := by omega
  have hv2 : j < us.length := by omega
  have g1 : IsDt X.K H (xs.getD j .non) vs[j] := h1.get (j := j) (by rw [List.getD_eq_getElem?_getD, List.getElem?_eq_getElem hx1]; rfl) (List.getElem?_eq_getElem hv1)
  have g2 : IsDt X.K H (ys.getD j .non) us[j] := h2.get (j := j) (by rw [List.getD_eq_getElem?_getD, List.getElem?_eq_getElem hx2]; rfl) (List.getElem?_eq_getElem hv2)
  obtain ⟨w1, e1, q1⟩ := r1.get (List.getElem?_eq_getElem hv1)
  obtain ⟨w2, e2, q2⟩ := r2.get (List.getElem?_eq_getElem hv2)
  have m1 : its.toArray[j] = w1 := by
    have : its[j]? = some its[j] := List.getElem?_eq_getElem j1'
    rw [this] at e1; simpa using Option.some.inj e1
  have m2 : its2.toArray[j] = w2 := by
    have : its2[j]? = some its2[j] := List.getElem?_eq_getElem j2'
    rw [this] at e2; simpa using Option.some.inj e2
  rw [m1, m2]
  have hm : xs.getD j .non ∈ xs := by rw [List.getD_eq_getElem?_getD, List.getElem?_eq_getElem hx1]; exact List.getElem_mem hx1
  exact eqAt_D I n A.in1 _ _ _ _ _ _ (by have := dp_mem hm; omega) (by show A.units + 1 + n < cLine; omega) g1 g2 q1 q2
/-- t == u of tuples; None beside a tuple -/
def rEqT (K : PySem.W.Frag) : R2 := fun x y H Q => ∃ xs ys, IsDt K H (.tup xs) x ∧ IsDt K H (.tup ys) y ∧ dps xs < 40 ∧ Q (.bl (eqDs xs ys)) H
def rNeT (K : PySem.W.Frag) : R2 := fun x y H Q => ∃ xs ys, IsDt K H (.tup xs) x ∧ IsDt K H (.tup ys) y ∧ dps xs < 40 ∧ Q (.bl (!eqDs xs ys)) H
theorem op_eqT (hu : X.A.units + 64 < cLine) : OpR X (compareOp .Eq) (rEqT X.K) := by
  intro pins s σ H x y v u Q I rx ry h
  obtain ⟨xs, ys, h1, h2, hd, q⟩ := h
  unfold IsDt at h1 h2
  obtain ⟨p, vs, rfl, h1, h3⟩ := h1
  obtain ⟨p', us, rfl, h2, h4⟩ := h2
  cases rx
  cases ry
  obtain ⟨its, r1, t1, _⟩ := I.tuple h1
  obtain ⟨its2, r2, t2, _⟩ := I.tuple h2
  have e1 : its.toArray.size = xs.length := by rw [List.size_toArray, ← r1.length, h3.len]
  have e2 : its2.toArray.size = ys.length := by rw [List.size_toArray, ← r2.length, h4.len]
  refine RcAt.tuples t1 t2 (by omega) (items_D I (n := 40) hd (by omega) h3 h4 r1 r2) _ _ _ _ ?_
  rw [e1, e2, all_eqDs]
  exact ⟨.bl _, H, I, rfl, q⟩
theorem op_neT (hu : X.A.units + 64 < cLine) : OpR X (compareOp .NotEq) (rNeT X.K) := by
  intro pins s σ H x y v u Q I rx ry h
  obtain ⟨xs, ys, h1, h2, hd, q⟩ := h
  unfold IsDt at h1 h2
  obtain ⟨p, vs, rfl, h1, h3⟩ := h1
  obtain ⟨p', us, rfl, h2, h4⟩ := h2
  cases rx
  cases ry
  obtain ⟨its, r1, t1, _⟩ := I.tuple h1
  obtain ⟨its2, r2, t2, _⟩ := I.tuple h2
  have e1 : its.toArray.size = xs.length := by rw [List.size_toArray, ← r1.length, h3.len]
  have e2 : its2.toArray.size = ys.length := by rw [List.size_toArray, ← r2.length, h4.len]
  refine RcNeAt.tuples t1 t2 (by omega) (items_D I (n := 40) hd (by omega) h3 h4 r1 r2) _ _ _ _ ?_
  rw [e1, e2, all_eqDs]
  exact ⟨.bl _, H, I, rfl, q⟩
end
end L2

/-! EXCEPTIONS of own classes: what a frame's note of them changes, how they lie behind a call -/
namespace L2
open PySem PySem.Spec PyProof.Rows

/-- an exception under way: at a, of the class at C, its own dict dx, its last note T, in no frame's flight -/
structure FlyX (h : Heap) (a : Addr) (C : Value) (dx : Option Addr) (T : Addr) : Prop where
  there : ∃ oe vs, h.get? a = some oe ∧ oe.cls = C ∧ oe.dict = dx ∧ oe.data = .fields vs ∧ vs[1]? = some (.ref T)
  note : ∃ oT ts, h.get? T = some oT ∧ oT.data = .fields ts ∧ ts[3]? = some .none
  ne : T ≠ a
/-- an exception just made: no note yet -/
def NewX (h : Heap) (a : Addr) (C : Value) (dx : Option Addr) : Prop :=
  ∃ oe vs, h.get? a = some oe ∧ oe.cls = C ∧ oe.dict = dx ∧ oe.data = .fields vs ∧ vs[1]? = some .none

theorem dict_mapF (o : Obj) (f : Array Value → Array Value) : (o.mapFields f).dict = o.dict := by
  obtain ⟨c, d, x, s⟩ := o
  cases x <;> rfl

section
variable {M : Model} {A : Around} {E : Value → Shared → Prop} {s : Shared} {base : Heap} {env : Env} {outer : List Env} {L e : Addr} {C : Value} {dx : Option Addr}

/-- the last steps: a new note is laid, the flight ends -/
theorem note_end {oe : Obj} {vs : Array Value} {hd : Value} {b : Bool} {Q : Unit → Shared → Prop} (fr : A.frames = some (env :: outer)) (fn : s.heap.FunFrames base (env :: outer)) (fL : env.frame = some L)
    (he : s.heap.get? e = some oe) (dt : oe.data = .fields vs) (sz : 1 < vs.size) (cl : oe.cls = C) (dc : oe.dict = dx)
    (k : ∀ h' T, s.heap.objs.size ≤ T → FlyX h' e C dx T → (∀ b o, s.heap.get? b = some o → b ≠ e → b ∉ frs (env :: outer) → h'.get? b = some o) →
      (∀ b o, s.heap.get? b = some o → b ≠ e → ∃ sl, h'.get? b = some { o with slots := sl }) → Q () { s with heap := h' }) :
    wpAny M A (do let x ← frameOf env; let y ← entryPlaceOf L b; let z ← EntryCells.newEntry hd x .none (rawInt L) .none y; setField (.ref e) 1 z) (fun _ s' => wpAny M A (setFlight (.ref e) none) Q E s') E s := by
  have eL : e ∉ (env :: outer).filterMap (·.frame) := fun z => by
    obtain ⟨_, o, ho, nf⟩ := fn.mem z
    rw [he] at ho; cases ho; exact nf vs dt
  refine wpAny_bind (wpAny_frameOf_fun fr fn fL fun k₁ so => ?_)
  refine wpAny_bind (wpAny_entryPlaceOf fun y hy => ?_)
  unfold EntryCells.newEntry newFields
  refine wpAny_bind (wpAny_newObj_type ?_ (hy.sizeOk5 _ _ _ _ _))
  have he1 : k₁.get? e = some oe := (so.2.1 e eL).trans he
  generalize hN : ({ cls := Value.type "traceback", dict := none, data := Data.fields ([hd, Value.ref L, Value.none, rawInt L, Value.none] ++ (if y.isEmpty then List.replicate 6 Value.none else y)).toArray } : Obj) = oN
  have he2 := Heap.get?_push_of_some (h := k₁) oN he1
  refine wpAny_setField (o := oe) he2 dt sz ?_
  have nT : k₁.objs.size ≠ e := Nat.ne_of_gt (Heap.lt_size he1)
  have d3 := Obj.data_mapFields dt (·.setIfInBounds 1 (Value.ref k₁.objs.size))
  have he3 := Heap.get?_update_self (Obj.mapFields (·.setIfInBounds 1 (Value.ref k₁.objs.size))) he2 (Obj.isFreed_of_fields d3)
  have hT3 := (Heap.get?_update_other (k₁.push oN) (Obj.mapFields (·.setIfInBounds 1 (Value.ref k₁.objs.size))) (Ne.symm nT)).trans (Heap.get?_push_size k₁ (by rw [← hN]; rfl))
  unfold setFlight
  refine wpAny_bind (wpAny_field he3 d3 (x := .ref k₁.objs.size) (by simp [sz]) ?_)
  rw [if_pos (show (Value.ref k₁.objs.size != Value.none) = true from by simp)]
  have dN : oN.data = .fields ([hd, Value.ref L, Value.none, rawInt L, Value.none] ++ (if y.isEmpty then List.replicate 6 Value.none else y)).toArray := by rw [← hN]
  have sN : 3 < ([hd, Value.ref L, Value.none, rawInt L, Value.none] ++ (if y.isEmpty then List.replicate 6 Value.none else y)).toArray.size := by
    simp only [List.size_toArray, List.length_append, List.length_cons, List.length_nil]; omega
  refine wpAny_setField hT3 dN sN ?_
  have keep : ∀ c o, c ≠ e → k₁.get? c = some o → (((k₁.push oN).update e (Obj.mapFields (·.setIfInBounds 1 (Value.ref k₁.objs.size)))).update k₁.objs.size
      (Obj.mapFields (·.setIfInBounds 3 ((none : Option Addr).elim Value.none fun f => rawInt f)))).get? c = some o := fun c o ce hc => by
    have cT : k₁.objs.size ≠ c := Nat.ne_of_gt (Heap.lt_size hc)
    rw [Heap.get?_update_other _ _ cT, Heap.get?_update_other _ _ (Ne.symm ce)]
    exact Heap.get?_push_of_some _ hc
  refine k _ k₁.objs.size (Nat.le_of_eq so.1.symm) ⟨⟨_, _, ?_, ?_, ?_, d3, ?_⟩, ⟨_, _, Heap.get?_update_self _ hT3 (Obj.isFreed_of_fields (Obj.data_mapFields dN _)), Obj.data_mapFields dN _, ?_⟩, nT⟩ (fun c o hc ce cf => keep c o ce ((so.2.1 c cf).trans hc)) (fun c o hc ce => ?_)
  · rw [Heap.get?_update_other _ _ nT]; exact he3
  · exact (Obj.cls_mapFields _ _).trans cl
  · exact (dict_mapF _ _).trans dc
  · simp [sz]
  · rw [Array.getElem?_setIfInBounds_self_of_lt sN]; rfl
  · obtain ⟨sl, q⟩ := so.2.2 c o hc
    exact ⟨sl, keep c _ ce q⟩

/-- what a frame's note of an exception leaves -/
def NotedX (fs : List Addr) (h : Heap) (e : Addr) (C : Value) (dx : Option Addr) (old : Addr → Prop) (h' : Heap) : Prop :=
  ∃ T, h.objs.size ≤ T ∧ FlyX h' e C dx T ∧ (∀ b o, h.get? b = some o → b ≠ e → ¬ old b → b ∉ fs → h'.get? b = some o) ∧
    (∀ b o, h.get? b = some o → b ≠ e → ¬ old b → ∃ sl, h'.get? b = some { o with slots := sl })

theorem note_new {Q : Unit → Shared → Prop} (fr : A.frames = some (env :: outer)) (fn : s.heap.FunFrames base (env :: outer)) (fL : env.frame = some L) (x : NewX s.heap e C dx)
    (k : ∀ h', NotedX (frs (env :: outer)) s.heap e C dx (fun _ => False) h' → Q () { s with heap := h' }) :
    wpAny M A (noteFrame (.ref e) env) (fun _ s' => wpAny M A (setFlight (.ref e) none) Q E s') E s := by
  obtain ⟨oe, vs, he, cl, dc, dt, h1⟩ := x
  unfold noteFrame
  simp only [fL]
  refine wpAny_bind (wpAny_field he dt h1 ?_)
  rw [if_neg (by decide)]
  exact note_end fr fn fL he dt (Array.getElem?_eq_some_iff.mp h1).1 cl dc fun h' T z f a b => k h' ⟨T, z, f, fun c o hc ce _ cf => a c o hc ce cf, fun c o hc ce _ => b c o hc ce⟩

theorem note_old {T : Addr} {Q : Unit → Shared → Prop} (fr : A.frames = some (env :: outer)) (fn : s.heap.FunFrames base (env :: outer)) (fL : env.frame = some L) (x : FlyX s.heap e C dx T)
    (k : ∀ h', NotedX (frs (env :: outer)) s.heap e C dx (fun b => b = T) h' → Q () { s with heap := h' }) :
    wpAny M A (noteFrame (.ref e) env) (fun _ s' => wpAny M A (setFlight (.ref e) none) Q E s') E s := by
  obtain ⟨⟨oe, vs, he, cl, dc, dt, h1⟩, ⟨oT, ts, hT, dT, h3⟩, ne⟩ := x
  unfold noteFrame
  simp only [fL]
  refine wpAny_bind (wpAny_field he dt h1 ?_)
  rw [if_pos (show (Value.ref T != Value.none) = true from by simp)]
  refine wpAny_bind (wpAny_field hT dT h3 ?_)
  rw [if_neg (show ¬ ((Value.none == rawInt L) = true) from by simp [rawInt])]
  refine wpAny_bind (wpAny_setField hT dT (Array.getElem?_eq_some_iff.mp h3).1 ?_)
  have oth : ∀ c, c ≠ T → (s.heap.update T (Obj.mapFields (·.setIfInBounds 3 Value.none))).get? c = s.heap.get? c := fun c hc => Heap.get?_update_other _ _ (Ne.symm hc)
  have rec' : ∀ c o, s.heap.get? c = some o → (∀ us, o.data ≠ .fields us) → c ≠ T := fun c o hc nf q => by
    rw [q, hT] at hc; cases hc; exact nf ts dT
  refine note_end (s := { s with heap := s.heap.update T (Obj.mapFields (·.setIfInBounds 3 Value.none)) }) fr (fn.of_keeps fun c o hc nf => ⟨o, (oth c (rec' c o hc nf)).trans hc, rfl⟩) fL ((oth e (Ne.symm ne)).trans he) dt
    (Array.getElem?_eq_some_iff.mp h1).1 cl dc fun h' T' z f a b => k h' ⟨T', ?_, f, fun c o hc ce cT cf => a c o ((oth c cT).trans hc) ce cf, fun c o hc ce cT => b c o ((oth c cT).trans hc) ce⟩
  simpa [Heap.update] using z
end
end L2

namespace L2
open PySem PySem.Spec PyProof.Rows
/-- how an exception of an own class lies behind a call -/
def CXE (P : Program) (w : World) : CXT := fun outer H s E e s' => ∃ a C dx T H', e = .ref a ∧ s'.os = s.os ∧ AllBare s'.gens ∧ Un (frs outer) [] H H' s.heap s'.heap ∧ HOk P w H' s'.heap ∧ FlyX s'.heap a C dx T ∧
  @LE.le Nat _ s.heap.objs.size a ∧ @LE.le Nat _ s.heap.objs.size T ∧ H' a = none ∧ H' T = none ∧ E C dx H'

section
variable {X : Cx} {pins : List (Addr × Obj)} {σ : St} {H : Hp} {s : Shared} {a : Addr} {C : Value} {dx : Option Addr} {E : XK}

/-- behind a frame's note: the tracked things stay -/
theorem noted_hok {old : Addr → Prop} {h' : Heap} (I : Inv X pins σ H s) (st : X.stack = X.env :: X.outer) (ha : H a = none) (ho : ∀ b, old b → H b = none) (n : NotedX (frs (X.env :: X.outer)) s.heap a C dx old h') : HOk X.prog X.w H h' := fun b o e => by
  obtain ⟨T, z, f, kp, sl⟩ := n
  refine (I.hok b o e).stay (fun c u hc q => ?_) (fun _ q => q) fun _ _ q => q
  have tr : ∃ p, H c = some p := by
    rcases hc with rfl | hc
    · exact ⟨_, e⟩
    · exact ⟨_, hc⟩
  obtain ⟨p, tr⟩ := tr
  refine kp c u q (fun y => ?_) (fun y => ?_) fun y => ?_
  · subst y; rw [ha] at tr; cases tr
  · rw [ho c y] at tr; cases tr
  · rw [I.stkFree c (by rw [st]; exact y)] at tr; cases tr
theorem noted_un {old : Addr → Prop} {h' : Heap} (I : Inv X pins σ H s) (fL : X.env.frame = some X.env.locals) (ex : X.ex = []) (ha : @LE.le Nat _ X.s₀.heap.objs.size a) (ho : ∀ b, old b → @LE.le Nat _ X.s₀.heap.objs.size b)
    (n : NotedX (frs (X.env :: X.outer)) s.heap a C dx old h') : Un (frs X.outer) [] X.H₀ H X.s₀.heap h' := by
  obtain ⟨T, z, f, kp, sl⟩ := n
  have u : Un (frs X.outer) [] X.H₀ H X.s₀.heap s.heap := by have q := I.base; rw [ex] at q; exact q
  have lt : ∀ b o, X.s₀.heap.get? b = some o → @LT.lt Nat _ b X.s₀.heap.objs.size := fun b o q => Heap.lt_size q
  have na : ∀ b o, X.s₀.heap.get? b = some o → b ≠ a := fun b o q y => by subst y; exact absurd (lt _ o q) (Nat.not_lt.mpr ha)
  have no : ∀ b o, X.s₀.heap.get? b = some o → ¬ old b := fun b o q y => absurd (lt b o q) (Nat.not_lt.mpr (ho b y))
  have nl : ∀ b o, X.s₀.heap.get? b = some o → b ≠ X.env.locals := fun b o q y => by
    have := lt b o q
    rw [y] at this
    exact absurd this (Nat.not_lt.mpr I.ok.above)
  have nf : ∀ b o, X.s₀.heap.get? b = some o → b ∉ frs X.outer → b ∉ frs (X.env :: X.outer) := fun b o q hb y => by
    unfold frs at y
    rw [List.filterMap_cons, fL] at y
    rcases List.mem_cons.mp y with y | y
    · exact nl b o q y
    · exact hb y
  exact {
    keep := fun b o q n0 hb hx => kp b o (u.keep b o q n0 hb hx) (na b o q) (no b o q) (nf b o q hb)
    slot := fun b o q n0 hb hx => by
      obtain ⟨s1, e1⟩ := u.slot b o q n0 hb hx
      obtain ⟨s2, e2⟩ := sl b _ e1 (na b o q) (no b o q)
      exact ⟨s2, e2⟩
    free := u.free
    there := fun b o q hx => by
      obtain ⟨o1, e1⟩ := u.there b o q hx
      obtain ⟨s2, e2⟩ := sl b _ e1 (na b o q) (no b o q)
      exact ⟨_, e2⟩
    tups := u.tups
    frzs := u.frzs
    tbls := u.tbls }

/-- an exception that was just made leaves the frame -/
theorem leave_newX {E1 : Value → Shared → Prop} (I : Inv X pins σ H s) (st : X.stack = X.env :: X.outer) (fL : X.env.frame = some X.env.locals) (ex : X.ex = []) (x : NewX s.heap a C dx) (ha : @LE.le Nat _ X.s₀.heap.objs.size a) (hn : H a = none) (q : E C dx H) :
    wpAny (model X.prog X.w) X.A (leaving X.env (.ref a)) (fun _ s'' => CXE X.prog X.w X.outer X.H₀ X.s₀ E (.ref a) s'') E1 s := by
  unfold leaving
  have fr := I.ok.frames
  have fn := I.stack
  rw [st] at fr fn
  refine wpAny_bind (note_new (base := X.base) fr fn fL x fun h' n => ?_)
  have n' := n
  obtain ⟨T, z, f, kp, sl⟩ := n
  exact ⟨a, C, dx, T, H, rfl, I.os, I.bare, noted_un I fL ex ha (fun _ y => y.elim) n', noted_hok I st hn (fun _ y => y.elim) n', f, ha, Nat.le_trans I.sz z, hn, I.hok.fresh z, q⟩
/-- one that came out of a call leaves the frame -/
theorem leave_oldX {T : Addr} {E1 : Value → Shared → Prop} (I : Inv X pins σ H s) (st : X.stack = X.env :: X.outer) (fL : X.env.frame = some X.env.locals) (ex : X.ex = []) (x : FlyX s.heap a C dx T) (ha : @LE.le Nat _ X.s₀.heap.objs.size a)
    (hT : @LE.le Nat _ X.s₀.heap.objs.size T) (hn : H a = none) (nT : H T = none) (q : E C dx H) : wpAny (model X.prog X.w) X.A (leaving X.env (.ref a)) (fun _ s'' => CXE X.prog X.w X.outer X.H₀ X.s₀ E (.ref a) s'') E1 s := by
  unfold leaving
  have fr := I.ok.frames
  have fn := I.stack
  rw [st] at fr fn
  refine wpAny_bind (note_old (base := X.base) fr fn fL x fun h' n => ?_)
  have n' := n
  obtain ⟨T', z, f, kp, sl⟩ := n
  exact ⟨a, C, dx, T', H, rfl, I.os, I.bare, noted_un (old := fun b => b = T) I fL ex ha (fun b y => by rw [show b = T from y]; exact hT) n', noted_hok (old := fun b => b = T) I st hn (fun b y => by rw [show b = T from y]; exact nT) n', f, ha, Nat.le_trans I.sz z, hn, I.hok.fresh z, q⟩
end

section
variable {P : Program} {w : World} {K : PySem.W.Frag} {mg : Str → Option Value} {base : Heap} {N : List Str} {qual : Str} {scope : Scope} {f : Addr} {cd : Value} {A : Around} {outer : List Env} {s : Shared} {H : Hp} {E : XK}
/-- an exception that was just made is wanted by the body -/
theorem xe_new {pins : List (Addr × Obj)} {σ : St} {H1 : Hp} {s1 : Shared} {a : Addr} {C : Value} {dx : Option Addr} (I : Inv (cxOf (CXE P w) P w K mg base N qual scope f cd A outer s H E) pins σ H1 s1) (x : NewX s1.heap a C dx) (ha : @LE.le Nat _ s.heap.objs.size a) (hn : H1 a = none) (q : E C dx H1) :
    (cxOf (CXE P w) P w K mg base N qual scope f cd A outer s H E).xe (.ref a) s1 := leave_newX I rfl rfl rfl x ha hn q
/-- what a callee throws passes -/
theorem passX : Passes (CXE P w) (cxOf (CXE P w) P w K mg base N qual scope f cd A outer s H E) E := fun pins σ H1 s1 e s' I h => by
  obtain ⟨a, C, dx, T, H', rfl, os, bare, un, hok, fl, ha, hT, na, nT, q⟩ := h
  have J := I.call' (ch := []) os un hok bare (fun b z => absurd z (by simp))
  exact leave_oldX J rfl rfl rfl fl (Nat.le_trans I.sz ha) (Nat.le_trans I.sz hT) na nT q
/-- loops pass it on -/
theorem ownX : PassesOwn (model P w) (cxOf (CXE P w) P w K mg base N qual scope f cd A outer s H E).A (cxOf (CXE P w) P w K mg base N qual scope f cd A outer s H E).env (cxOf (CXE P w) P w K mg base N qual scope f cd A outer s H E).xe := PassesOwn.leaving
/-- a def that throws nothing, as one that may -/
theorem FnOk.calm {k : Nat} {fd : FuncData} {ps : List Str} {sp : Sp} {CX : CXT} (F : FnOk P w K mg base CX0 k f fd ps sp) : FnOk P w K mg base CX k f fd ps sp :=
  ⟨F.len, fun A outer s H args us vs Q E hr he hb hv hs => codeAny_mono (F.run A outer s H args us vs Q E hr he hb hv hs) fun r s' q => by
    cases r with
    | error e => exact False.elim q
    | ok fl => cases fl with
      | ret u => exact q
      | next => exact q
      | brk => exact q
      | cont => exact q⟩
end
end L2

/-! EXCEPTIONS of own classes: an attribute of theirs -/
namespace L2
open PySem PySem.Spec PyProof.Rows PySem.Builtin.ObjectAttr

/-- the classes above are own ones, then ValueError and what is above it -/
def overVE : List Value → Bool
  | .ref _ :: r => overVE r
  | [.type a, .type b, .type c, .type d] => a == "ValueError" && b == "Exception" && c == "BaseException" && d == "object"
  | _ => false
theorem overVE_ref {c : Addr} {r : List Value} (e : overVE (.ref c :: r) = true) : overVE r = true := by
  unfold overVE at e; exact e
theorem overVE_end {a : String} {r : List Value} (e : overVE (.type a :: r) = true) : (.type a :: r : List Value) = [.type "ValueError", .type "Exception", .type "BaseException", .type "object"] := by
  unfold overVE at e
  split at e
  · rename_i h; cases h
  · rename_i a' b c d h
    simp only [Bool.and_eq_true, beq_iff_eq] at e
    obtain ⟨⟨⟨rfl, rfl⟩, rfl⟩, rfl⟩ := e
    exact h
  · cases e
theorem overVE_loop (self : Value) : ∀ {l : List Value}, overVE l = true → refuseLoop self "__setattr__" l = pure ()
  | [], e => by simp [overVE] at e
  | .ref c :: r, e => by rw [refuseLoop_ref]; exact overVE_loop self (overVE_ref e)
  | .type a :: r, e => by rw [overVE_end e]; exact PySem.F.store_ValueError.passes self
  | .none :: r, e => by simp [overVE] at e
  | .ellipsis :: r, e => by simp [overVE] at e
  | .notImplemented :: r, e => by simp [overVE] at e
  | .bool _ :: r, e => by simp [overVE] at e
  | .int _ _ :: r, e => by simp [overVE] at e
  | .float _ _ :: r, e => by simp [overVE] at e
  | .str _ _ :: r, e => by simp [overVE] at e
  | .bytes _ _ :: r, e => by simp [overVE] at e
  | .builtin _ :: r, e => by simp [overVE] at e
theorem overVE_has : ∀ {l : List Value} {n : String}, overVE l = true → ([Value.type "ValueError", .type "Exception", .type "BaseException", .type "object"] : List Value).contains (.type n) = true → l.contains (.type n) = true
  | [], _, e, _ => by simp [overVE] at e
  | .ref c :: r, n, e, h => by rw [List.contains_cons, overVE_has (overVE_ref e) h, Bool.or_true]
  | .type a :: r, n, e, h => by rw [overVE_end e]; exact h
  | .none :: r, _, e, _ => by simp [overVE] at e
  | .ellipsis :: r, _, e, _ => by simp [overVE] at e
  | .notImplemented :: r, _, e, _ => by simp [overVE] at e
  | .bool _ :: r, _, e, _ => by simp [overVE] at e
  | .int _ _ :: r, _, e, _ => by simp [overVE] at e
  | .float _ _ :: r, _, e, _ => by simp [overVE] at e
  | .str _ _ :: r, _, e, _ => by simp [overVE] at e
  | .bytes _ _ :: r, _, e, _ => by simp [overVE] at e
  | .builtin _ :: r, _, e, _ => by simp [overVE] at e

section
variable {prog : Program} {w : World} {A : Around} {E : Value → Shared → Prop} {s : Shared} {K : PySem.W.Frag} {x C : Addr} {ox : Obj} {vs : Array Value} {cd : ClassData} {name : Str} {v : Value}

theorem exc_inst (hx : s.heap.get? x = some ox) (hc : ox.cls = .ref C) (dt : ox.data = .fields vs) (dn : ox.dict = none) : PySem.W.InstAt s.heap x ox C none := by
  refine ⟨hx, hc, ?_, ?_⟩
  · obtain ⟨c, d, z, sl⟩ := ox
    obtain rfl : z = .fields vs := dt
    rfl
  · rw [dn]; trivial

/-- the first attribute of a new exception -/
theorem set_exc {Q : Unit → Shared → Prop} (KI : K.In s.heap) (hx : s.heap.get? x = some ox) (hc : ox.cls = .ref C) (dt : ox.data = .fields vs) (dn : ox.dict = none) (hk : PySem.W.clsIn K C = some cd) (ov : overVE cd.mro = true) (hd : cd.hasDict = true)
    (ha : PySem.W.findIn K (.ref C) name = some none) (hs : PySem.W.findIn K (.ref C) "__setattr__" = some (some (.builtin "object.__setattr__")))
    (k : ∀ h' tk, h'.get? x = some { ox with dict := some s.heap.objs.size } → h'.Ns1 s.heap.objs.size (fun y => if y = name then some v else none) → (∀ b o, b ≠ x → s.heap.get? b = some o → h'.get? b = some o) →
      Q () { s with heap := h', toks := tk }) : wpAny (model prog w) A (setAttr (.ref x) name v) Q E s := by
  have I := exc_inst hx hc dt dn
  have SF := PySem.F.store_object
  refine PySem.W.set_plain KI I hs ?_
  have ne : cd.mro.isEmpty = false := by
    cases q : cd.mro with
    | nil => rw [q] at ov; simp [overVE] at ov
    | cons _ _ => rfl
  have sub : PySem.W.Looks (model prog w) s.heap (isInstance (.ref x) (.type "object")) true :=
    I.type.andThen (PySem.W.looks_mroIn KI (by unfold PySem.W.mroIn; rw [hk, Option.bind_some, if_neg (by rw [ne]; decide), overVE_has ov (by decide)]))
  refine codeAny_call_builtin SF.slot.plain SF.entry (@PySem.W.check_slot (model prog w) _ _ { s with toks := s.toks + 1 } "object.__setattr__" "object" "__setattr__" (.ref x) [.str name s.toks, v] [] _ SF.kind SF.split sub (SF.args (.ref x) (.str name s.toks) v) ?_)
  have hm : PySem.W.Looks (model prog w) s.heap (mroOf (.ref C)) cd.mro := (PySem.W.looks_clsIn KI hk).andThen .now
  rw [PySem.W.osa_eq, refuse_eq]
  refine wpAny_bind (wpAny_bind (PySem.W.Looks.here (s := { s with toks := s.toks + 1 }) I.type (wpAny_bind (PySem.W.Looks.here (s := { s with toks := s.toks + 1 }) hm ?_))))
  rw [overVE_loop _ ov]
  refine wpAny_pure (wpAny_bind (PySem.W.Looks.here (s := { s with toks := s.toks + 1 }) I.type (wpAny_bind (PySem.W.Looks.here (s := { s with toks := s.toks + 1 }) (PySem.W.looks_findIn KI ha) ?_))))
  refine wpAny_bind (wpAny_pure ?_)
  obtain ⟨oc, od, oda, osl⟩ := ox
  dsimp only at hc dt dn
  subst hc dt dn
  refine wpAny_bind (wpAny_pure (wpAny_bind (wpAny_bind (wpAny_loadPart hx (wpAny_bind (PySem.W.Looks.here (s := { s with toks := s.toks + 1 }) (PySem.W.looks_clsIn KI hk) ?_))))))
  rw [hd]
  have x1 : (s.heap.push { cls := .type "dict", data := .dict #[] }).get? x = some ⟨.ref C, none, .fields vs, osl⟩ := Heap.get?_push_of_some _ hx
  have nx : x ≠ s.heap.objs.size := Nat.ne_of_lt (Heap.lt_size hx)
  refine wpAny_bind (wpAny_alloc' ?_)
  refine wpAny_bind (wpAny_update' x1 ?_)
  refine wpAny_pure ?_
  show wpAny _ _ (storeInDict s.heap.objs.size (.str name s.toks) name v) _ _ _
  unfold storeInDict newKeyGuard
  generalize hU : ((s.heap.push { cls := .type "dict", data := .dict #[] }).update x fun o => { cls := o.cls, dict := some s.heap.objs.size, data := o.data, slots := o.slots }) = hN
  have gx : hN.get? x = some ⟨.ref C, some s.heap.objs.size, .fields vs, osl⟩ := by rw [← hU]; exact Heap.get?_update_self _ x1 rfl
  have gd : hN.get? s.heap.objs.size = some { cls := .type "dict", data := .dict #[] } := by rw [← hU]; exact (Heap.get?_update_ne _ _ _ _ nx.symm).trans (Heap.get?_push_at rfl rfl)
  have gk : ∀ b o, b ≠ x → s.heap.get? b = some o → hN.get? b = some o := fun b o hb q => by rw [← hU]; exact (Heap.get?_update_ne _ _ _ _ hb).trans (Heap.get?_push_of_some _ q)
  have nd : hN.Ns s.heap.objs.size (fun _ => none) := ⟨_, #[], _, gd, rfl, fun e he => absurd he (by simp), fun _ => rfl⟩
  refine wpAny_bind (wpAny_pure (wpAny_bind (wpAny_nsSet1 (s := { s with heap := hN, toks := s.toks + 1 }) (Heap.Ns1.of_empty nd) fun h' n1 sb => ?_)))
  obtain ⟨oD, esD, epD, hoD, hdD, hcD⟩ := n1.count (Within.cons name v Within.nil)
  refine wpAny_bind (wpAny_lookBehind hoD (by rw [hdD]; exact pastItsLine_dict (Nat.le_trans hcD (by rw [List.length_cons, List.length_nil, sizeLine_eq]; omega))) ?_)
  exact wpAny_pure (k h' _ ((sb.2 x nx).trans gx) n1 fun b o hb q => (sb.2 b (Nat.ne_of_lt (Heap.lt_size q))).trans (gk b o hb q))

/-- an attribute of an exception, out of its own dict -/
theorem get_exc {od : Obj} {r : Bool} {Q : Value → Shared → Prop} (KI : K.In s.heap) (I : PySem.W.InstAt s.heap x ox C (some od)) (hk : PySem.W.clsIn K C = some cd) (ov : overVE cd.mro = true)
    (hg : PySem.W.findIn K (.ref C) "__getattribute__" = some (some (.builtin "BaseException.__getattribute__"))) (hb : PySem.W.findIn K (.ref C) "__getattr__" = some none) (hd : PySem.W.hasDictIn K C = true)
    (ha : PySem.W.findIn K (.ref C) name = some none) (hl : PySem.W.lookIn name od = some (some v)) (hh : PySem.W.handedIn v = true) (h : Q v { s with toks := s.toks + 1 }) :
    wpAny (model prog w) A (getAttr (.ref x) name r) Q E s := by
  obtain ⟨hp, g, d, t, os⟩ := s
  have L0 := I.type (M := model prog w)
  have L1 := PySem.W.looks_findIn (M := model prog w) KI hg
  have L2 := PySem.W.looks_findIn (M := model prog w) KI hb
  have L3 := PySem.W.looks_find (M := model prog w) KI I (PySem.W.findObj_own hd ha rfl hl)
  have ne : cd.mro.isEmpty = false := by
    cases q : cd.mro with
    | nil => rw [q] at ov; simp [overVE] at ov
    | cons _ _ => rfl
  have sub : PySem.W.Looks (model prog w) hp (isInstance (.ref x) (.type "BaseException")) true :=
    I.type.andThen (PySem.W.looks_mroIn KI (by unfold PySem.W.mroIn; rw [hk, Option.bind_some, if_neg (by rw [ne]; decide), overVE_has ov (by decide)]))
  have FX := PySem.F.excAttr_ValueError
  unfold getAttr getAttrBy
  refine wpAny_bind (wpAny_mkText (wpAny_holding (wpAny_bind (L0.at (wpAny_bind (L1.at ?_))))))
  show wpAny _ _ (getAttrByItsOwn _ _ _ _ _ _) _ _ _
  unfold getAttrByItsOwn
  refine wpAny_bind (show wpAny _ _ (typeLookup (.ref C) "__getattr__") _ _ _ from L2.at ?_)
  refine wpAny_bind (wpAny_attempt (wpAny_holding ?_))
  have hx0 : (r && onTheHeap (Value.builtin "BaseException.__getattribute__")) = false := by cases r <;> rfl
  unfold callGetattribute
  rw [hx0, if_neg Bool.false_ne_true]
  unfold boundAndCalled
  rw [FX.ga.bind]
  refine wpAny_bind (wpAny_pure (wpAny_call ?_))
  refine codeAny_call_builtin FX.ga.plain PySem.F.entry_bexc_ga (@PySem.W.check_slot (model prog w) _ _ ⟨hp, g, d, t + 1, os⟩ "BaseException.__getattribute__" "BaseException" "__getattribute__" (.ref x) [.str name t] [] _ (by decide +kernel) (by decide +kernel) sub (PySem.F.args_bexc_ga _ _) ?_)
  refine wpAny_bind (wpAny_pure (wpAny_bind (wpAny_pure (wpAny_bind (L0.at (wpAny_bind (L3.at ?_)))))))
  refine wpAny_pure ?_
  show wpAny _ _ (handedOut v) _ _ _
  rw [PySem.W.handedOut_of hh]; exact wpAny_pure h
end
end L2

/-! EXCEPTIONS of own classes: caught -/
namespace L2
open PySem PySem.Spec PyProof.Rows

section
variable {prog : Program} {w : World} {h : Heap} {K : PySem.W.Frag} {x C G : Addr} {ox : Obj} {cd cg : ClassData}
theorem looks_sub {base : Value} {b : Bool} (KI : K.In h) (hk : PySem.W.clsIn K C = some cd) (ov : overVE cd.mro = true) (e : cd.mro.contains base = b) : PySem.W.Looks (model prog w) h (isSubtype (.ref C) base) b := by
  have ne : cd.mro.isEmpty = false := by
    cases q : cd.mro with
    | nil => rw [q] at ov; simp [overVE] at ov
    | cons _ _ => rfl
  exact PySem.W.looks_mroIn KI (by unfold PySem.W.mroIn; rw [hk, Option.bind_some, if_neg (by rw [ne]; decide), e])
/-- an own class is a type -/
theorem looks_isType (KI : K.In h) (hk : PySem.W.clsIn K G = some cg) : PySem.W.Looks (model prog w) h (isType (.ref G)) true := by
  unfold PySem.W.clsIn at hk
  split at hk
  · rename_i ho
    exact (PySem.W.Looks.ld (part := _) (KI _ _ ho)).andThen .now
  · cases hk
theorem looks_notTuple (KI : K.In h) (ht : PySem.W.typeIn K (.ref G) = some (.type "type")) : PySem.W.Looks (model prog w) h (isInstance (.ref G) (.type "tuple")) false :=
  (PySem.W.looks_typeIn KI ht).andThen (.of_pure tc_notTuple)
/-- does a clause take an exception: its class among the classes -/
theorem looks_takes {b : Bool} (KI : K.In h) (hx : h.get? x = some ox) (hc : ox.cls = .ref C) (hk : PySem.W.clsIn K C = some cd) (ov : overVE cd.mro = true) (hg : PySem.W.clsIn K G = some cg) (og : overVE cg.mro = true) (ht : PySem.W.typeIn K (.ref G) = some (.type "type"))
    (e : cd.mro.contains (.ref G) = b) : PySem.W.Looks (model prog w) h (excMatches (.ref x) (.ref G)) b := by
  have T : PySem.W.Looks (model prog w) h (typeOf (.ref x)) (.ref C) := hc ▸ (PySem.W.Looks.ld hx).andThen .now
  have X1 : PySem.W.Looks (model prog w) h (isExcClass (.ref G)) true := (looks_isType KI hg).andThen (looks_sub KI hg og (overVE_has og (by decide)))
  intro A Q E s k q
  unfold excMatches
  refine wpAny_bind (looks_notTuple KI ht A _ E s k ?_)
  dsimp only
  rw [if_neg Bool.false_ne_true]
  refine wpAny_bind (wpAny_pure ?_)
  simp only [List.forIn_cons, List.forIn_nil]
  refine wpAny_bind (wpAny_bind (wpAny_bind (X1 A _ E s k ?_)))
  rw [if_neg (by decide)]
  refine wpAny_pure (wpAny_pure (wpAny_bind (T A _ E s k ?_)))
  refine wpAny_bind (wpAny_bind (wpAny_bind (looks_sub KI hk ov e A _ E s k ?_)))
  cases b
  · exact wpAny_pure (wpAny_pure (wpAny_pure q))
  · exact wpAny_pure (wpAny_pure (wpAny_pure q))
end
end L2

namespace L2
open PySem PySem.Spec PyProof.Rows
/-- an address that is none of the frame's own: not its locals, no cell, no pin -/
structure Away (X : Cx) (pins : List (Addr × Obj)) (b : Addr) : Prop where
  old : @LE.le Nat _ X.s₀.heap.objs.size b
  loc : b ≠ X.env.locals
  cell : ∀ x c, X.env.cells.lookup x = some c → c ≠ b
  pin : ∀ p ∈ X.pn ++ pins, p.1 ≠ b
theorem Inv.away {X : Cx} {pins : List (Addr × Obj)} {σ : St} {H : Hp} {s : Shared} {b : Addr} (I : Inv X pins σ H s) (hb : @LE.le Nat _ s.heap.objs.size b) : Away X pins b where
  old := Nat.le_trans I.sz hb
  loc := fun e => absurd I.lt (by rw [← e]; exact Nat.not_lt.mpr hb)
  cell := fun x c q e => by
    obtain ⟨v, o, ho, _⟩ := I.cell x c q
    exact absurd (Heap.lt_size ho) (by rw [e]; exact Nat.not_lt.mpr hb)
  pin := fun p hp e => absurd (Heap.lt_size (I.pin p hp).1) (by rw [e]; exact Nat.not_lt.mpr hb)

/-- an exception that came out of a call, in the frame that called -/
def XP (X : Cx) (pins : List (Addr × Obj)) (σ : St) (R : XK) (e : Value) (s' : Shared) : Prop :=
  ∃ a C dx T H', e = .ref a ∧ Inv X pins σ H' s' ∧ FlyX s'.heap a C dx T ∧ Away X pins a ∧ Away X pins T ∧ H' a = none ∧ H' T = none ∧ R C dx H'
/-- an expression's reading, with what is wanted of its exception -/
abbrev TEX := St → Hp → VK → XK → Prop
def PEX (X : Cx) (e : Expr) (t : TEX) : Prop :=
  ∀ (pins : List (Addr × Obj)) (s : Shared) (σ : St) (H : Hp) (Q : VK) (R : XK), Inv X pins σ H s → t σ H Q R → wpAny (model X.prog X.w) X.A (eval e X.env) (EP X pins σ Q) (XP X pins σ R) s
section
variable {X : Cx} {k : Nat} {f : Addr} {fd : FuncData} {ps : List Str} {sp : Sp} {dvs : List V} {ds : List Value} {x : Str} {p pos : Pos} {e : Expr} {es : List Expr} {t : TA}
theorem run_fnX {pins : List (Addr × Obj)} {σ : St} {H : Hp} {s : Shared} {Q : VK} {R : XK} {us : List Value} {vs : List V} (F : FnOk X.prog X.w X.K X.mg X.base (CXE X.prog X.w) k f fd ps sp) (hr : Room k X.A) (hb : Binds X.K fd ps ds) (hd : Vals dvs ds)
    (I : Inv X pins σ H s) (r : Vals vs us) (h : sp (vs ++ dvs) H Q R) : wpAny (model X.prog X.w) X.A (call (.ref f) us) (EP X pins σ Q) (XP X pins σ R) s := by
  have r2 : Vals (vs ++ dvs) (us ++ ds) := r.append hd
  have len2 : (us ++ ds).length = ps.length := r2.length.symm.trans (F.len _ _ _ _ h)
  refine wpAny_call (codeAny_mono (F.run X.A X.stack s H ⟨us, []⟩ (us ++ ds) (vs ++ dvs) Q R hr I.env0 (hb s us I.kIn len2) r2 h) fun res s' hq => ?_)
  cases res with
  | error er =>
    obtain ⟨a, C, dx, T, H', rfl, os, bare, un, hok, fl, ha, hT, na, nT, q⟩ := hq
    exact ⟨a, C, dx, T, H', rfl, I.call' (ch := []) os un hok bare (fun b z => absurd z (by simp)), fl, I.away ha, I.away hT, na, nT, q⟩
  | ok fl => cases fl with
    | ret u => exact I.after hq
    | next => exact False.elim hq
    | brk => exact False.elim hq
    | cont => exact False.elim hq
/-- f(e, ..) that may throw; its arguments throw nothing -/
def tCallX (sp : Sp) (dvs : List V) (t : TA) : TEX := fun σ H Q R => t σ H fun vs H1 => sp (vs ++ dvs) H1 Q R
theorem pex_call (F : FnOk X.prog X.w X.K X.mg X.base (CXE X.prog X.w) k f fd ps sp) (hr : Room k X.A) (hg : Gl X x) (hm : X.mg x = some (.ref f)) (hk : PySem.W.keepIn X.K (.ref f) = true) (hb : Binds X.K fd ps ds) (hd : Vals dvs ds)
    (ha : PA X.nox (e :: es) t) (hdb : (x == ("__debug__" : Str)) = false := by decide) (he : starEach (e :: es) X.env = (false, eval e X.env) :: starEach es X.env := by rfl) (hpl : (backTo pos (starEach es X.env)).any (·.1) = false := by rfl) :
    PEX X (.Call (.Name x p) (e :: es) [] pos) (tCallX sp dvs t) := by
  intro pins s σ H Q R I h
  refine wpAny_Call_Name_kw (ld_glob I hg hm ?_ hdb)
  refine PySem.W.callWith_K (h₀ := X.base) I.ok.mod.kin hk (wpAny_mono (ha pos pins s σ H _ (I.wish _) h) (fun us s1 ⟨vs, H1, I1, r, q⟩ => ⟨I1.kIn, ?_⟩) fun _ _ z => False.elim z) he hpl
  exact run_fnX F hr hb hd I1.unwish r q
/-- (e, ..), of which the first item may throw -/
def tTupX (te : TEX) (t : TA) : TEX := fun σ H Q R => te σ H (fun v H1 => t σ H1 fun xs H2 => (v :: xs).length ≤ sizeLine ∧ ∀ p, H2 p = none → Q (.ref p) (upd H2 p (.tup (v :: xs)))) R
theorem pex_tup {te : TEX} {x1} (h1 : PEX X e te) (h2 : PA X.nox es t) (hs : starEach (e :: es) X.env = (false, eval e X.env) :: starEach es X.env := by rfl) : PEX X (.Tuple (e :: es) x1 pos) (tTupX te t) := by
  intro pins s σ H Q R I h
  refine wpAny_Tuple_spliced ?_
  rw [hs]
  show wpAny _ _ (spliced ((false, eval e X.env) :: backTo pos (starEach es X.env))) _ _ s
  refine Calls.spliced_cons (thn (h1 pins s σ H _ R I h) fun u s1 ⟨v, H1, I1, r1, q1⟩ => ?_)
  refine wpAny_mono (h2 pos pins s1 σ H1 _ (I1.wish _) q1) (fun us s2 ⟨xs, H2, I2, r2, z, q2⟩ => ⟨by rw [List.length_cons] at z ⊢; rw [← r2.length]; exact z, ?_⟩) fun _ _ z => False.elim z
  have nw : H2 s2.heap.objs.size = none := I2.hok.fresh (Nat.le_refl _)
  refine ⟨.ref s2.heap.objs.size, upd H2 s2.heap.objs.size (.tup (v :: xs)), I2.unwish.laid (t' := s2.toks) (fun b u e => Heap.get?_push_of_some _ e) (Nat.le_refl _) ?_, rfl, q2 _ nw⟩
  exact ⟨z, u :: us, .cons r1 r2, ⟨_, Heap.get?_push_size _ rfl, rfl, _, rfl⟩⟩
end
end L2

/-! EXCEPTIONS of own classes: try and its clause -/
namespace L2
open PySem PySem.Spec PyProof.Rows

section
variable {X : Cx} {pins : List (Addr × Obj)} {σ : St} {H : Hp} {s : Shared} {a T : Addr} {C : Value} {dx : Option Addr} {h' : Heap}
/-- some untracked records of ours have changed, the frames' slots too -/
theorem Inv.turnedS {ch : List Addr} (I : Inv X pins σ H s) (kp : ∀ b o, s.heap.get? b = some o → b ∉ ch → b ∉ frs X.stack → h'.get? b = some o) (sl : ∀ b o, s.heap.get? b = some o → b ∉ ch → ∃ z, h'.get? b = some { o with slots := z })
    (aw : ∀ b ∈ ch, Away X pins b) (nn : ∀ b ∈ ch, H b = none) : Inv X pins σ H { s with heap := h' } := by
  refine I.call (ch := ch) (g' := s.gens) (t' := s.toks) (d' := s.drawn) ⟨fun b o q n hb hx => kp b o q hx hb, fun b o q n hb hx => sl b o q hx, fun b o q n hx => n, fun b o q hx => ?_, fun _ _ e => e, fun _ _ _ e => e, fun b ps e => ⟨#[], by simpa using e⟩⟩ (fun b o e => ?_) I.bare
    (fun b hb => ⟨.inr (aw b hb).old, (aw b hb).loc, (aw b hb).cell, (aw b hb).pin⟩)
  · obtain ⟨z, e⟩ := sl b o q hx
    exact ⟨_, e⟩
  · refine (I.hok b o e).stay (fun c u hc q => ?_) (fun _ q => q) fun _ _ q => q
    have tr : ∃ p, H c = some p := by
      rcases hc with rfl | hc
      · exact ⟨_, e⟩
      · exact ⟨_, hc⟩
    obtain ⟨p, tr⟩ := tr
    refine kp c u q (fun y => ?_) fun y => ?_
    · rw [nn c y] at tr; cases tr
    · rw [I.stkFree c y] at tr; cases tr
/-- an untracked thing away from the frame is tracked from now on -/
theorem Inv.track {o : HO} (I : Inv X pins σ H s) (aw : Away X pins a) (hn : H a = none) (new : ObjOk X.prog X.w (upd H a o) s.heap a o) : Inv X pins σ (upd H a o) s := by
  have n0 : ∀ b ob, X.s₀.heap.get? b = some ob → b ≠ a := fun b ob q y => by
    subst y
    exact absurd (show @LT.lt Nat _ b X.s₀.heap.objs.size from Heap.lt_size q) (Nat.not_lt.mpr aw.old)
  have nh : ∀ b u, H b = some u → b ≠ a := fun b u e y => by subst y; rw [hn] at e; cases e
  refine ⟨I.ok, I.os, I.bare, ⟨I.base.keep, I.base.slot, fun b ob q n hx => by rw [upd_ne (n0 b ob q)]; exact I.base.free b ob q n hx, I.base.there, fun b xs q => ?_, fun b ob u q => ?_, fun b ps q => ?_⟩, I.loc, I.cell, ?_, fun x c e => ?_, fun p hp => ?_, fun b u e => ?_, I.len⟩
  · have z := I.base.tups b xs q
    rw [upd_ne (nh b _ z)]; exact z
  · have z := I.base.frzs b ob u q
    rw [upd_ne (nh b _ z)]; exact z
  · obtain ⟨more, z⟩ := I.base.tbls b ps q
    exact ⟨more, by rw [upd_ne (nh b _ z)]; exact z⟩
  · rw [upd_ne (Ne.symm aw.loc)]; exact I.free
  · rw [upd_ne (aw.cell x c e)]; exact I.freeC x c e
  · obtain ⟨e, n, ne, nf, d⟩ := I.pin p hp
    exact ⟨e, by rw [upd_ne (aw.pin p hp)]; exact n, ne, nf, d⟩
  · by_cases hb : b = a
    · subst hb; rw [upd_same] at e; cases e; exact new
    · rw [upd_ne hb] at e
      exact (I.hok b u e).stay (fun c v _ q => q) (fun c q => by rw [upd_ne (nh c _ q)]; exact q) fun c xs q => by rw [upd_ne (nh c _ q)]; exact q
/-- an exception, as a tracked thing -/
def ExcO (a : Addr) (C : Value) (dx : Option Addr) (h : Heap) : Prop := ∃ oe vs, h.get? a = some oe ∧ oe.cls = C ∧ oe.dict = dx ∧ oe.data = .fields vs
abbrev hoExc (a : Addr) (C : Value) (dx : Option Addr) : HO := .ext (ExcO a C dx)
theorem Inv.excTrack (I : Inv X pins σ H s) (aw : Away X pins a) (hn : H a = none) (f : FlyX s.heap a C dx T) : Inv X pins σ (upd H a (hoExc a C dx)) s := by
  obtain ⟨oe, vs, he, cl, dc, dt, h1⟩ := f.there
  exact I.track aw hn ⟨⟨oe, vs, he, cl, dc, dt⟩, ⟨oe, he⟩, fun h1 h2 ⟨o, v, e, r⟩ k => ⟨o, v, k o e, r⟩⟩
theorem away_wish {E : Value → Shared → Prop} (w : Away X pins a) : Away (X.wish E) pins a := ⟨w.old, w.loc, w.cell, w.pin⟩

/-- the flight is told to be none once more -/
theorem flight_again {M : Model} {A : Around} {E : Value → Shared → Prop} {Q : Unit → Shared → Prop} (f : FlyX s.heap a C dx T)
    (k : ∀ h', FlyX h' a C dx T → (∀ b, b ≠ T → h'.get? b = s.heap.get? b) → Q () { s with heap := h' }) : wpAny M A (setFlight (.ref a) none) Q E s := by
  obtain ⟨⟨oe, vs, he, cl, dc, dt, h1⟩, ⟨oT, ts, hT, dT, h3⟩, ne⟩ := f
  unfold setFlight
  refine wpAny_bind (wpAny_field he dt h1 ?_)
  rw [if_pos (show (Value.ref T != Value.none) = true from by simp)]
  have lt3 := (Array.getElem?_eq_some_iff.mp h3).1
  refine wpAny_setField hT dT lt3 ?_
  have oth : ∀ c, c ≠ T → (s.heap.update T (Obj.mapFields (·.setIfInBounds 3 ((none : Option Addr).elim Value.none fun f => rawInt f)))).get? c = s.heap.get? c := fun c hc => Heap.get?_update_other _ _ (Ne.symm hc)
  refine k _ ⟨⟨oe, vs, (oth a (Ne.symm ne)).trans he, cl, dc, dt, h1⟩, ⟨_, _, Heap.get?_update_self _ hT (Obj.isFreed_of_fields (Obj.data_mapFields dT _)), Obj.data_mapFields dT _, ?_⟩, ne⟩ oth
  rw [Array.getElem?_setIfInBounds_self_of_lt lt3]; rfl
end

/-- within a clause's suite -/
def Cx.caught (X : Cx) (a : Addr) : Cx := { X with A := X.A.mark (some (.ref a)), calm := false, xe := fun _ _ => False }
section
variable {X : Cx} {pins : List (Addr × Obj)} {σ : St} {H : Hp} {s : Shared} {a : Addr}
theorem Inv.caught (I : Inv X pins σ H s) : Inv (X.caught a) pins σ H s :=
  ⟨⟨I.ok.mod, I.ok.kind, I.ok.glob, I.ok.blt, I.ok.above, I.ok.inj, I.ok.has, I.ok.cab, fun z => (Bool.false_ne_true z).elim, I.ok.frames, I.ok.stk, I.ok.exf, I.ok.bs, I.ok.bsz, I.ok.noex, I.ok.exfs, I.ok.funs, I.ok.frf⟩, I.os, I.bare, I.base, I.loc, I.cell, I.free, I.freeC, I.pin, I.hok, I.len⟩
theorem Inv.uncaught (ok : X.Ok) (I : Inv (X.caught a) pins σ H s) : Inv X pins σ H s := ⟨ok, I.os, I.bare, I.base, I.loc, I.cell, I.free, I.freeC, I.pin, I.hok, I.len⟩
/-- behind the suite: the name is unbound -/
theorem unbind_ok {M : Model} {A : Around} {E : Value → Shared → Prop} {i : Nat} {n : Str} {pos : Pos} {Q : Unit → Shared → Prop} (I : Inv X pins σ H s) (hN : X.N.Nodup) (hi : X.N[i]? = some n) (hl : X.env.scope.names.lookup n = some .local)
    (k : ∀ s', Inv X pins (σ.set i none) H s' → Q () s') : wpAny M A (do bindName X.env n .none; unbindBehindTheSuite X.env n pos) Q E s := by
  have hcls : (X.env.scope.kind == .class || (X.env.scope.kind == .module && X.env.locals != X.env.globals)) = false := by rw [I.ok.kind]; rfl
  refine wpAny_bind (wpAny_bindName (store_ok I hN hi (.inl hl) (v := .non) rfl (fun s1 J => ?_) (.inr hl)))
  unfold unbindBehindTheSuite
  obtain ⟨m, hn, hm⟩ := id J.loc
  have hiσ : i < σ.length := by rw [I.len]; exact (List.getElem?_eq_some_iff.mp hi).1
  have hv : ∃ u, m n = some u := by
    obtain ⟨u, _, q⟩ := hm i n .non hi (by rw [List.getElem?_set_self hiσ]) (.inl hl)
    rcases q with ⟨_, e⟩ | ⟨q, _⟩
    · exact ⟨u, e⟩
    · have : X.env.kindOf n = some .local := hl
      rcases q with q | q <;> (rw [this] at q; cases q)
  obtain ⟨u, hv⟩ := hv
  have cne := J.cne
  refine wpAny_onRaise (wpAny_unbindName_local hl hn hv hcls fun h' u' hn' hs => k _ ?_)
  have nb : ∀ b o, X.s₀.heap.get? b = some o → b ≠ X.env.locals := fun b o e => Nat.ne_of_lt (Nat.lt_of_lt_of_le (Heap.lt_size e) I.ok.above)
  refine ⟨J.ok, J.os, J.bare, ⟨fun b o e n hb hx => (hs.2 b (nb b o e)).trans (J.base.keep b o e n hb hx), fun b o e n hb hx => ?_, J.base.free, fun b o e hx => ?_, J.base.tups, J.base.frzs, J.base.tbls⟩, ⟨_, hn', fun j y v' e1 e2 e3 => ?_⟩, fun y c e => ?_, J.free, J.freeC, fun p hp => ?_, fun b ob e => ?_, ?_⟩
  · obtain ⟨sl, e1⟩ := J.base.slot b o e n hb hx
    exact ⟨sl, (hs.2 b (nb b o e)).trans e1⟩
  · obtain ⟨o', e1⟩ := J.base.there b o e hx
    exact ⟨o', (hs.2 b (nb b o e)).trans e1⟩
  · by_cases hj : j = i
    · subst hj
      rw [List.getElem?_set_self hiσ] at e2
      cases e2
    · rw [List.getElem?_set_ne (Ne.symm hj)] at e2
      obtain ⟨u2, r2, q⟩ := hm j y v' e1 (by rw [List.getElem?_set_ne (Ne.symm hj)]; exact e2) e3
      refine ⟨u2, r2, ?_⟩
      rcases q with ⟨k1, e⟩ | ⟨k1, c, e, z⟩
      · have ny : y ≠ n := fun e => hj (nodup_ix hN e1 (e ▸ hi))
        exact .inl ⟨k1, by simp [ny, e]⟩
      · exact .inr ⟨k1, c, e, z.sameBut hs (cne y c e)⟩
  · obtain ⟨w', z⟩ := J.cell y c e
    exact ⟨w', z.sameBut hs (cne y c e)⟩
  · obtain ⟨e, n, ne, nf, d⟩ := J.pin p hp
    exact ⟨(hs.2 p.1 ne).trans e, n, ne, nf, d⟩
  · refine (J.hok b ob e).stay (fun c w' hc q => (hs.2 c ?_).trans q) (fun _ q => q) fun _ _ q => q
    rintro rfl
    rcases hc with hc | hc
    · rw [← hc, J.free] at e; cases e
    · rw [J.free] at hc; cases hc
  · rw [List.length_set]; exact I.len
end
end L2

namespace L2
open PySem PySem.Spec PyProof.Rows
/-- statements that may throw -/
abbrev TSX := Ends → (St → XK) → St → Hp → Prop
def PSX (X : Cx) (st : List Stmt) (t : TSX) : Prop :=
  ∀ (pins : List (Addr × Obj)) (s : Shared) (σ : St) (H : Hp) (D : Ends) (R : St → XK), Inv X pins σ H s → t D R σ H → wpAny (model X.prog X.w) X.A (execs st X.env) (SP X pins D) (fun e s' => ∃ σ', XP X pins σ' (R σ') e s') s
section
variable {X : Cx} {i : Nat} {x : Str} {e : Expr} {te : TEX} {pos pos' : Pos}
def tSetX (i : Nat) (te : TEX) : TSX := fun D R σ H => te σ H (fun v H1 => D.nx (σ.set i (some v)) H1) (R σ)
/-- name = value, alone -/
theorem psx_set (hN : X.N.Nodup) (hi : X.N[i]? = some x) (hx : Loc X.env.scope x) (he : PEX X e te) (hs : swapsWith e (some (.Name x pos')) pos.line X.env = pure false := by rfl) (hf : X.fn x = true ∨ X.env.scope.names.lookup x = some .local := by first | exact .inl rfl | exact .inr rfl | assumption) :
    PSX X [.Assign [.Name x pos'] e pos] (tSetX i te) := by
  intro pins s σ H D R I h
  refine wpAny_execs_cons (wpAny_Assign_Name (wpAny_mono (he pins s σ H _ _ I h) (fun v s1 ⟨y, H1, I1, r1, q1⟩ => ?_) fun er s1 q => ⟨σ, q⟩) hs)
  exact store_ok I1 hN hi hx r1 (fun s2 I2 => wpAny_execs_nil ⟨_, H1, I2, q1⟩) hf
def tRetX (te : TEX) : TSX := fun D R σ H => te σ H D.rt (R σ)
/-- return value, alone -/
theorem psx_ret (he : PEX X e te) : PSX X [.Return (some e) pos] (tRetX te) := by
  intro pins s σ H D R I h
  exact wpAny_execs_cons (wpAny_Return_some (wpAny_mono (he pins s σ H _ _ I h) (fun v s1 ⟨y, H1, I1, r1, q1⟩ => ⟨y, σ, H1, I1, r1, q1⟩) fun er s1 q => ⟨σ, q⟩))
def tDropX (te : TEX) : TSX := fun D R σ H => te σ H (fun _ H1 => D.nx σ H1) (R σ)

/-- what is wanted of the clause's suite -/
def tryEnds (i : Nat) (D : Ends) : Ends := { nx := fun σ H => D.nx (σ.set i none) H, rt := D.rt, bk := fun σ H => D.bk (σ.set i none) H, ct := fun σ H => D.ct (σ.set i none) H }
/-- the exception is of an own class below G -/
def Below (K : PySem.W.Frag) (G : Addr) (C : Value) : Prop := ∃ c cd, C = .ref c ∧ PySem.W.clsIn K c = some cd ∧ overVE cd.mro = true ∧ cd.mro.contains (.ref G) = true
def tTryAs (K : PySem.W.Frag) (G : Addr) (i : Nat) (tb : TSX) (ts : TS) : TS := fun D σ H =>
  tb D (fun σ1 C dx H1 => Below K G C ∧ ∀ a, H1 a = none → ts (tryEnds i D) (σ1.set i (some (.ref a))) (upd H1 a (hoExc a C dx))) σ H
/-- a class that a clause names -/
structure Clause (K : PySem.W.Frag) (G : Addr) : Prop where
  ty : PySem.W.typeIn K (.ref G) = some (.type "type")
  at_ : ∃ cg, PySem.W.clsIn K G = some cg ∧ overVE cg.mro = true

/-- try: .. except G as n: .. -/
theorem ps_tryAs {g n : Str} {np hp : Pos} {G : Addr} {b0 : Stmt} {suite body : List Stmt} {tb : TSX} {ts : TS} (st : X.stack = X.env :: X.outer) (fL : X.env.frame = some X.env.locals) (hb : PSX X body tb) (hs : ∀ a, PSs (X.caught a) (b0 :: suite) ts)
    (hg : Gl X g) (hm : X.mg g = some (.ref G)) (cl : Clause X.K G) (hN : X.N.Nodup) (hi : X.N[i]? = some n) (hl : X.env.scope.names.lookup n = some .local) (hdb : (g == ("__debug__" : Str)) = false := by decide) :
    PS X (.Try body [.ExceptHandler (some (.Name g np)) (some n) (b0 :: suite) hp] [] [] pos) (tTryAs X.K G i tb ts) := by
  intro pins s σ H D I h
  refine wpAny_Try_except (wpAny_mono (hb pins s σ H D _ I h) (fun f s1 q => ?_) fun er s1 q => ?_)
  · cases f with
    | next => exact wpAny_execs_nil q
    | ret v => exact q
    | brk => exact q
    | cont => exact q
  · obtain ⟨σ1, a, C, dx, T, H1, rfl, J, fl, aa, aT, na, nT, ⟨c, cd, rfl, hk, ov, hc⟩, hq⟩ := q
    obtain ⟨ty, cg, hcg, og⟩ := cl
    have fr := J.ok.frames
    have fn := J.stack
    rw [st] at fr fn
    refine note_old (base := X.base) fr fn fL fl fun h' nt => ?_
    obtain ⟨T', z, fl', kp, sl⟩ := nt
    have aT' : Away X pins T' := J.away z
    have nT' : H1 T' = none := J.hok.fresh z
    have J1 : Inv X pins σ1 H1 { s1 with heap := h' } := J.turnedS (ch := [a, T]) (fun b o q hx hf => kp b o q (fun y => hx (by simp [y])) (fun y => hx (by simp [show b = T from y])) (by rw [← st]; exact hf))
      (fun b o q hx => sl b o q (fun y => hx (by simp [y])) (fun y => hx (by simp [show b = T from y]))) (fun b hb => by simp at hb; rcases hb with rfl | rfl <;> assumption) (fun b hb => by simp at hb; rcases hb with rfl | rfl <;> assumption)
    refine wpAny_handleBy_cons (codeAny_handlers_test (ld_glob (X := X.caught a) J1.caught hg hm ?_ hdb)) (by intro q; cases q)
    obtain ⟨oe, vs, he, cle, dc, dt, h1⟩ := fl'.there
    refine PySem.W.Looks.here (s := { s1 with heap := h' }) (looks_takes J1.kIn he cle hk ov hcg og ty hc) ?_
    refine codeAny_handlers_suite_as (flight_again (s := { s1 with heap := h' }) fl' fun h2 fl2 oth => ?_)
    have J2 : Inv X pins σ1 H1 { s1 with heap := h2 } := Inv.turnedS (s := { s1 with heap := h' }) (h' := h2) J1 (ch := [T']) (fun b o q hx hf => (oth b (fun y => hx (by simp [y]))).trans q) (fun b o q hx => ⟨o.slots, (oth b (fun y => hx (by simp [y]))).trans q⟩)
      (fun b hb => by simp at hb; rw [hb]; exact aT') (fun b hb => by simp at hb; rw [hb]; exact nT')
    have J3 := J2.excTrack aa na fl2
    refine store_ok J3 hN hi (.inl hl) (v := .ref a) rfl (fun s5 J5 => ?_) (.inr hl)
    refine wpAny_mono (hs a pins s5 _ _ _ J5.caught (hq a na)) (fun f s6 q => ?_) fun _ _ z => False.elim z
    cases f with
    | next =>
      obtain ⟨σ', H', J6, q⟩ := q
      exact unbind_ok (J6.uncaught J.ok) hN hi hl fun s' J7 => ⟨_, H', J7, q⟩
    | brk =>
      obtain ⟨σ', H', J6, q⟩ := q
      exact unbind_ok (J6.uncaught J.ok) hN hi hl fun s' J7 => ⟨_, H', J7, q⟩
    | cont =>
      obtain ⟨σ', H', J6, q⟩ := q
      exact unbind_ok (J6.uncaught J.ok) hN hi hl fun s' J7 => ⟨_, H', J7, q⟩
    | ret u =>
      obtain ⟨v, σ', H', J6, r, q⟩ := q
      exact unbind_ok (J6.uncaught J.ok) hN hi hl fun s' J7 => ⟨v, _, H', J7, r, q⟩
end
end L2

/-! EXCEPTIONS of own classes: made, with an own __init__, and raised -/
namespace L2
open PySem PySem.Spec PyProof.Rows

/-- the arguments' tuple of a new exception; the exception -/
abbrev xTup (us : List Value) : Obj := { cls := .type "tuple", data := .seq us.toArray }
abbrev xNew (C t : Addr) : Obj := { cls := .ref C, data := .fields #[.ref t, .none, .none, .none, .bool false, .none] }
abbrev xHeap (h : Heap) (C : Addr) (us : List Value) : Heap := (h.push (xTup us)).push (xNew C h.objs.size)
section
variable {prog : Program} {w : World} {A : Around} {E : Value → Shared → Prop} {h : Heap} {g : Array GenState} {d : Drawn} {t : Nat} {os : OsState}
variable {nm q : Str} {C N : Addr} {bs bm bmB : List Value} {hdct : Bool} {sn : List Str} {sub : List Value} {ab : Bool} {col : Option Bool} {dd : Option Addr} {k0 k1 k2 k3 k5 : Option Value} {B newId initId : String}
theorem xHeap_keep {us : List Value} : ∀ b o, h.get? b = some o → (xHeap h C us).get? b = some o := fun b o e => Heap.get?_push_of_some _ (Heap.get?_push_of_some _ e)
theorem xHeap_at {us : List Value} : (xHeap h C us).get? (h.objs.size + 1) = some (xNew C h.objs.size) := by unfold xHeap; heap_get
/-- C(..), C an own class of exceptions with an own __init__ -/
theorem make_excT (F : ExcBaseFacts B newId initId bmB) (T : OwnTail h bmB bm) {mN : Str → Option Value} {us : List Value} {fI : Addr} {oI : Obj} {Q : Value → Shared → Prop}
    (cC : h.get? C = some (excClassObj nm q C N bs bm hdct sn sub ab col dd k0 k1 k2 k3 k5 newId)) (nN : h.Ns N mN) (iN : mN "__init__" = some (.ref fI)) (oF : h.get? fI = some oI) (cF : oI.cls = .type "function") (zU : us.length ≤ sizeLine)
    (k : wpAny (model prog w) (A.under (.builtin "type.__call__" ⟨.ref C :: us, []⟩)) (call (.ref fI) (.ref (h.objs.size + 1) :: us)) (fun r s' => r = .none ∧ Q (.ref (h.objs.size + 1)) s') E ⟨xHeap h C us, g, d, t, os⟩) :
    wpAny (model prog w) A (call (.ref C) us) Q E ⟨h, g, d, t, os⟩ := by
  have p1 := tc_lookup
  have p2 := tc_bind (.ref C)
  have tC : (⟨h, g, d, t, os⟩ : Shared).TypeIs (.ref C) "type" := ⟨_, cC, rfl⟩
  refine wpAny_call (codeAny_of_tree (show wpAny _ _ (callAny (.ref C) _) _ _ _ from ?_))
  repeat (any_goals (first | assumption | (with_reducible refine wpAny_loadPart_at cC ?_) | wp_step))
  refine ⟨rfl, codeAny_call_builtin_at (Code.quiet_builtin _ (by decide +kernel)) entry_typeCall (wpAny_check_type_call_sub cC ?_)⟩
  repeat (first | (with_reducible refine wpAny_loadPart_at cC ?_) | (with_reducible refine wpAny_madeBy_exc cC ?_) | wp_step)
  refine codeAny_call_builtin_code (Code.quiet_builtin _ F.quiet) (wpAny_check_new_subT F T cC (codeAny_exc_new_subT F T cC (show wpAny _ _ _ _ _ _ from ?_) zU))
  have cC1 := xHeap_keep (C := C) (us := us) _ _ cC
  have oF1 := xHeap_keep (C := C) (us := us) _ _ oF
  have nN1 : (xHeap h C us).Ns N mN := nN.keeps (xHeap_keep (C := C) (us := us))
  have T1 : OwnTail (xHeap h C us) bmB bm := T.keeps (xHeap_keep (C := C) (us := us))
  have eX := xHeap_at (h := h) (C := C) (us := us)
  have own : (Value.ref C :: bm).contains (.ref C) = true := by simp
  unfold isInstance
  repeat (first | (with_reducible refine wpAny_loadPart_at eX ?_) | wp_step)
  refine (show wpAny _ _ (isSubtype (.ref C) (.ref C)) _ _ ⟨xHeap h C us, g, d, t, os⟩ from wpAny_isSubtype_exc cC1 ?_)
  rw [own]
  repeat (first | (with_reducible refine wpAny_loadPart_at eX ?_) | wp_step)
  refine (show wpAny _ _ (typeLookup (.ref C) _) _ _ _ from wpAny_typeLookup_tail cC1 nN1 T1 F.mroIs F.init.lookup ?_)
  rw [iN]
  refine wpAny_holding (wpAny_bind ?_)
  unfold bindSpecial
  refine wpAny_bind (wpAny_typeOf (T := "function") ⟨_, oF1, cF⟩ ?_)
  rw [if_pos (by decide)]
  refine wpAny_pure (wpAny_bind (wpAny_mono k (fun r s' hr => ?_) fun _ _ z => z))
  obtain ⟨rfl, hQ⟩ := hr
  wp_walk
  exact hQ
end
end L2

namespace L2
open PySem PySem.Spec PyProof.Rows
section
variable {prog : Program} {w : World} {A : Around} {E : Value → Shared → Prop} {s : Shared} {K : PySem.W.Frag} {env : Env}
/-- raise e, e just made -/
theorem raise_exc {x : Sem Value} {Q : Flow → Shared → Prop} (hh : A.handled = none)
    (h : wpAny (model prog w) A x (fun v s1 => ∃ a C dx cd, v = .ref a ∧ K.In s1.heap ∧ NewX s1.heap a (.ref C) dx ∧ PySem.W.clsIn K C = some cd ∧ overVE cd.mro = true ∧ PySem.W.typeIn K (.ref C) = some (.type "type") ∧ E v s1) E s) :
    wpAny (model prog w) A (raiseStmt env (some x) none) Q E s := by
  unfold raiseStmt
  refine wpAny_bind (wpAny_mono h (fun v s1 h1 => ?_) fun _ _ z => z)
  obtain ⟨a, C, dx, cd, rfl, KI, ⟨oe, vs, he, cl, dc, dt, n1⟩, hk, ov, ty, hE⟩ := h1
  have Lt : PySem.W.Looks (model prog w) s1.heap (isType (.ref a)) false := by
    obtain ⟨oc, od, oda, osl⟩ := oe
    dsimp only at dt
    subst dt
    exact (PySem.W.Looks.ld he).andThen .now
  have T : PySem.W.Looks (model prog w) s1.heap (typeOf (.ref a)) (.ref C) := cl ▸ (PySem.W.Looks.ld he).andThen .now
  have Li : PySem.W.Looks (model prog w) s1.heap (isInstance (.ref a) (.type "BaseException")) true := T.andThen (looks_sub KI hk ov (overVE_has ov (by decide)))
  have Lc : PySem.W.Looks (model prog w) s1.heap (isExcClass (.ref a)) false := Lt.andThen .now
  refine wpAny_bind (wpAny_pure (wpAny_bind (wpAny_holding ?_)))
  unfold excFromValue
  refine wpAny_bind (Lc.here ?_)
  rw [if_neg Bool.false_ne_true]
  refine wpAny_bind (Li.here ?_)
  rw [if_pos rfl]
  refine wpAny_pure ?_
  dsimp only
  refine wpAny_bind (Lt.here ?_)
  rw [if_neg Bool.false_ne_true]
  unfold raisedInstance
  refine wpAny_bind (wpAny_bind (T.here (wpAny_bind ((PySem.W.looks_typeIn KI ty).here ?_))))
  rw [if_pos (by rfl)]
  refine wpAny_pure (wpAny_bind ?_)
  unfold setFlight
  refine wpAny_bind (wpAny_field he dt n1 ?_)
  rw [if_neg (by decide)]
  exact wpAny_pure (wpAny_raiseNew_none hh hE)
end
end L2

/-! EXCEPTIONS of own classes: the words of an __init__ -/
namespace L2
open PySem PySem.Spec PyProof.Rows
section
variable {X : Cx} {e : Expr} {te : TE} {p q : Str} {j1 j2 : _} {pos p1 p2 p3 : Pos}
/-- f'..{e}..', e a whole number that is not great; which text it is is not told -/
def tFint (te : TE) : TE := fun σ H Q => te σ H fun v H1 => ∃ i : Int, v = .int i ∧ i.natAbs.log2 < 1920 ∧ ∀ x : Str, Q (.str x) H1
theorem pe_fint (he : PE X e te) (hz : p.length + q.length + 2000 ≤ sizeLine) : PE X (.JoinedStr [.Constant (.str p) j1 p1, .FormattedValue e (-1) none p2, .Constant (.str q) j2 p3] pos) (tFint te) := by
  intro pins s σ H Q I h
  refine JoinedStr_many (joinParts_cons (Calls.Constant_str ?_))
  have e0 : (Str.empty ++ p).length = p.length := by rw [strLen_append]; show 0 + p.length = p.length; omega
  refine ⟨by rw [e0]; omega, ?_⟩
  refine joinParts_cons (FormattedValue_plain (thn (he pins _ σ H _ (I.tok _) h) fun v s1 ⟨x, H1, I1, r1, i, ev, hd, k⟩ => ?_))
  subst ev
  obtain ⟨t, rfl⟩ := r1
  refine formatField_int_small hd ?_
  have ti := int_text_length_le (k := 1920) (by decide) hd
  refine ⟨by rw [strLen_append, e0, PySem.ofString_length]; omega, ?_⟩
  refine joinParts_cons (Calls.Constant_str ?_)
  refine ⟨by rw [strLen_append, strLen_append, e0, PySem.ofString_length]; omega, ?_⟩
  exact joinParts_nil ⟨.str _, H1, (((I1.tok _).tok _).tok _).tok _, ⟨_, rfl⟩, k _⟩ (by rw [strLen_append, strLen_append, e0, PySem.ofString_length]; omega)
end
end L2

namespace L2
open PySem PySem.Spec PyProof.Rows
/-- an exception just made, with all its fields -/
def NewE (a : Addr) (C : Value) (dx : Option Addr) (h : Heap) : Prop := ∃ oe vs, h.get? a = some oe ∧ oe.cls = C ∧ oe.dict = dx ∧ oe.data = .fields vs ∧ vs.size = 6 ∧ vs[1]? = some .none
abbrev hoNew (a : Addr) (C : Value) (dx : Option Addr) : HO := .ext (NewE a C dx)
theorem NewE.ok {P : Program} {w : World} {H : Hp} {h : Heap} {a : Addr} {C : Value} {dx : Option Addr} (x : NewE a C dx h) : ObjOk P w H h a (hoNew a C dx) :=
  ⟨x, let ⟨oe, _, e, _⟩ := x; ⟨oe, e⟩, fun _ _ ⟨o, v, e, r⟩ k => ⟨o, v, k o e, r⟩⟩
theorem upd_comm {H : Hp} {a b : Addr} {o u : HO} (n : b ≠ a) : upd (upd H b u) a o = upd (upd H a o) b u := by
  funext c
  unfold upd
  by_cases h1 : c = a
  · by_cases h2 : c = b
    · exact absurd (h2.symm.trans h1) n
    · rw [if_pos h1, if_neg h2, if_pos h1]
  · by_cases h2 : c = b
    · rw [if_neg h1, if_pos h2, if_pos h2]
    · rw [if_neg h1, if_neg h2, if_neg h2, if_neg h1]
theorem upd_id {H : Hp} {a : Addr} {o : HO} (e : H a = some o) : upd H a o = H := by
  funext b; unfold upd; split
  · rename_i q; rw [q, e]
  · rfl
section
variable {X : Cx} {pins : List (Addr × Obj)} {σ : St} {H : Hp} {s : Shared} {a c : Addr} {cd : ClassData}
/-- the call of the class above -/
theorem call_initUp {A : Around} {E : Value → Shared → Prop} {x : Str} {t : Tok} {dx : Option Addr} {Q : Value → Shared → Prop} (I : Inv X pins σ H s) (e : H a = some (hoNew a (.ref c) dx)) (hk : PySem.W.clsIn X.K c = some cd) (ov : overVE cd.mro = true)
    (k : ∀ s', Inv X pins σ H s' → Q .none s') : wpAny (model X.prog X.w) A (call (.builtin "ValueError.__init__") [.ref a, .str x t]) Q E s := by
  obtain ⟨⟨oe, vs, he, cl, dc, dt, sz, n1⟩, _, _⟩ := I.hok a _ e
  have T : PySem.W.Looks (model X.prog X.w) s.heap (typeOf (.ref a)) (.ref c) := cl ▸ (PySem.W.Looks.ld he).andThen .now
  have Li : PySem.W.Looks (model X.prog X.w) s.heap (isInstance (.ref a) (.type "ValueError")) true := T.andThen (looks_sub I.kIn hk ov (overVE_has ov (by decide)))
  have F := PySem.F.excBase_ValueError
  have hstar := F.noStar
  refine wpAny_call (codeAny_call_builtin F.init.plain F.initEntry ?_)
  simp only [checkBuiltinCall, F.initKind, F.initSplit, F.initRow]
  refine wpAny_bind (Li.here ?_)
  rw [if_neg (by decide)]
  unfold Bind.checkArgs
  obtain ⟨hp, gg, dd, tt, oo⟩ := s
  dsimp only at Li T he
  repeat (first | (with_reducible refine PySem.W.Looks.at Li ?_) | wp_step)
  rw [cl]
  have Lk := PySem.W.looks_clsIn (M := model X.prog X.w) (show X.K.In hp from I.kIn) hk
  refine wpAny_bind (Lk.at (wpAny_pure (wpAny_pure (wpAny_bind ?_))))
  repeat (first | (with_reducible refine PySem.W.Looks.at Li ?_) | wp_step)
  rw [dt]
  refine wpAny_pure ?_
  have z0 : ∃ v0, vs[0]? = some v0 := ⟨vs[0], Array.getElem?_eq_getElem (by omega)⟩
  obtain ⟨v0, z0⟩ := z0
  rw [z0]
  refine wpAny_pure (wpAny_bind ?_)
  have he1 := Heap.get?_push_of_some (h := hp) { cls := .type "tuple", data := .seq #[.str x t] } he
  refine wpAny_setField (s := ⟨hp.push { cls := .type "tuple", data := .seq #[.str x t] }, gg, dd, tt, oo⟩) he1 dt (by omega) ?_
  have d3 := Obj.data_mapFields dt (·.setIfInBounds 0 (Value.ref hp.objs.size))
  have he3 := Heap.get?_update_self (Obj.mapFields (·.setIfInBounds 0 (Value.ref hp.objs.size))) he1 (Obj.isFreed_of_fields d3)
  have fin : Q .none ⟨(hp.push { cls := .type "tuple", data := .seq #[.str x t] }).update a (Obj.mapFields (·.setIfInBounds 0 (Value.ref hp.objs.size))), gg, dd, tt, oo⟩ := by
    refine k _ ?_
    have J := I.write (x := a) (e := a) (o := hoNew a (.ref c) dx) (t' := tt) (h' := (hp.push { cls := .type "tuple", data := .seq #[.str x t] }).update a (Obj.mapFields (·.setIfInBounds 0 (Value.ref hp.objs.size)))) (by rw [e]; exact True.intro) (.inl rfl)
      (fun b u hb q => (Heap.get?_update_other _ _ (Ne.symm hb)).trans (Heap.get?_push_of_some _ q)) ⟨_, he3⟩ (NewE.ok ⟨_, _, he3, (Obj.cls_mapFields _ _).trans cl, (dict_mapF _ _).trans dc, d3, by rw [Array.size_setIfInBounds]; exact sz, by rw [Array.getElem?_setIfInBounds_ne (by decide)]; exact n1⟩)
    rw [upd_id e] at J
    exact J
  cases v0 with
  | ref y => exact wpAny_letGo (wpAny_pure fin)
  | _ => exact wpAny_pure (wpAny_pure fin)

/-- C.__init__(self, text) of an own class C that has ValueError's -/
def tInitUp (K : PySem.W.Frag) (t : TA) : TE := fun σ H Q => t σ H fun vs H1 => ∃ a c cd x dx, vs = [.ref a, .str x] ∧ H1 a = some (hoNew a (.ref c) dx) ∧ PySem.W.clsIn K c = some cd ∧ overVE cd.mro = true ∧ Q .non H1
theorem pe_initUp {g : Str} {G : Addr} {e1 e2 : Expr} {t : TA} {np apos pos : Pos} {pl : Sem Bool} (hg : Gl X g) (hm : X.mg g = some (.ref G)) (rd : PySem.W.readsIn X.K G (.type "type") = true)
    (fc : PySem.W.findCls X.K (.ref G) (.type "type") "__init__" = some (.val (.builtin "ValueError.__init__"))) (sp : PySem.W.specialIn X.K (.ref G) "__getattribute__" = some (some (.builtin "type.__getattribute__"))) (ha : PA X [e1, e2] t) (hdb : (g == ("__debug__" : Str)) = false := by decide)
    (hst : starEach [e1, e2] X.env = (false, eval e1 X.env) :: starEach [e2] X.env := by rfl) (hpl : (backTo pos (starEach [e2] X.env)).any (·.1) = false := by rfl)
    (ht : eval (.Call (.Attribute (.Name g np) "__init__" apos) [e1, e2] [] pos) X.env = (do
      let ov ← eval (.Name g np) X.env
      standAt apos.atName
      let (f, first) ← holding [ov] (getMethod ov "__init__" pl)
      callWith pos f first (backTo pos (starEach [e1, e2] X.env)) (backToKw pos (keywordEach [] X.env))) := by rfl) :
    PE X (.Call (.Attribute (.Name g np) "__init__" apos) [e1, e2] [] pos) (tInitUp X.K t) := by
  intro pins s σ H Q I h
  refine PySem.W.methodCall_KW (pl := pl) (ld_glob I hg hm ?_ hdb) ht
  refine PySem.W.method_cls I.kIn sp (PySem.W.cls_value I.kIn rd fc (by decide) ?_)
  refine PyProof.Rows.callWith_builtin1 (thn (ha pos pins _ σ H _ (I.tok _) h) fun us s1 ⟨vs, H1, I1, r, a, c, cd, x, dx, ev, ea, hk, ov, q⟩ => ?_) hst hpl
  subst ev
  obtain ⟨u1, u2, rfl, r1, t2, rfl⟩ := vals2 r
  obtain rfl : u1 = Value.ref a := r1
  exact call_initUp I1 ea hk ov fun s' J => ⟨.non, H1, J, rfl, q⟩

/-- what of its text a class of exceptions must have -/
structure XCls (K : PySem.W.Frag) (c : Addr) : Prop where
  at_ : ∃ cd, PySem.W.clsIn K c = some cd ∧ overVE cd.mro = true ∧ cd.hasDict = true
  sa : PySem.W.findIn K (.ref c) "__setattr__" = some (some (.builtin "object.__setattr__"))
  ga : PySem.W.findIn K (.ref c) "__getattribute__" = some (some (.builtin "BaseException.__getattribute__"))
  gb : PySem.W.findIn K (.ref c) "__getattr__" = some none
  ty : PySem.W.typeIn K (.ref c) = some (.type "type")
/-- the first attribute, tracked -/
theorem setattr_exc {f : Str} {y : V} {u : Value} {A : Around} {E : Value → Shared → Prop} {Q : Unit → Shared → Prop} (I : Inv X pins σ H s) (e : H a = some (hoNew a (.ref c) none)) (k : XCls X.K c) (n : NoAttr X.K c f) (ry : RelV y u)
    (h : ∀ dx s', H dx = none → dx ≠ a → Inv X pins σ (upd (upd H dx (.xd [(f, y)])) a (hoNew a (.ref c) (some dx))) s' → Q () s') : wpAny (model X.prog X.w) A (setAttr (.ref a) f u) Q E s := by
  obtain ⟨⟨oe, vs, he, cl, dc, dt, sz, n1⟩, _, _⟩ := I.hok a _ e
  obtain ⟨⟨cd, hk, ov, hd⟩, sa, ga, gb, ty⟩ := k
  refine set_exc I.kIn he cl dt dc hk ov hd n sa fun h' tk gx gd kp => ?_
  have fr : H s.heap.objs.size = none := I.hok.fresh (Nat.le_refl _)
  have ne : s.heap.objs.size ≠ a := Nat.ne_of_gt (Heap.lt_size he)
  refine h s.heap.objs.size _ fr ne ?_
  have J : Inv X pins σ (upd H a (hoNew a (.ref c) (some s.heap.objs.size))) { s with heap := h', toks := tk } := I.write (x := a) (e := a) (by rw [e]; exact True.intro) (.inl rfl) kp ⟨_, gx⟩ (NewE.ok ⟨_, vs, gx, cl, rfl, dt, sz, n1⟩)
  have aw : Away X pins s.heap.objs.size := I.away (Nat.le_refl _)
  rw [upd_comm ne]
  refine J.track aw (by rw [upd_ne ne]; exact fr) ⟨_, gd, fun g => ?_⟩
  by_cases q : g = f
  · subst q
    simp only [List.lookup, beq_self_eq_true, if_true]
    exact ry
  · have qb : (g == f) = false := beq_eq_false_iff_ne.mpr q
    simp only [List.lookup, qb, if_neg q]
    exact True.intro
/-- self.f = value, self a new exception without attributes -/
def sFldX (K : PySem.W.Frag) (ta tv : TE) (f : Str) : TS := fun D σ H => tv σ H fun y H1 => ta σ H1 fun x H2 => ∃ a c, x = .ref a ∧ H2 a = some (hoNew a (.ref c) none) ∧ XCls K c ∧ NoAttr K c f ∧
  ∀ dx, H2 dx = none → dx ≠ a → D.nx σ (upd (upd H2 dx (.xd [(f, y)])) a (hoNew a (.ref c) (some dx)))
theorem ps_fldX {o value : Expr} {f : Str} {pos pos' : Pos} {ta tv : TE} (ha : PE X o ta) (hv : PE X value tv) (hs : swapsWith value (some (.Attribute o f pos')) pos.line X.env = pure false := by rfl) : PS X (.Assign [.Attribute o f pos'] value pos) (sFldX X.K ta tv f) := by
  intro pins s σ H D I h
  refine plainObj_wpAny_Assign_Attribute (thn (hv pins s σ H _ I h) fun u s1 ⟨y, H1, I1, ry, q⟩ => thn (ha pins s1 σ H1 _ I1 q) fun ov s2 ⟨x, H2, I2, rx, a, c, ex, ea, k, n, q2⟩ => ?_) hs
  subst ex
  obtain rfl : ov = Value.ref a := rx
  exact setattr_exc I2 ea k n ry fun dx s3 hd hne I3 => ⟨σ, _, I3, q2 dx hd hne⟩

/-- an attribute of an exception that was caught -/
theorem getattr_exc {f : Str} {v : V} {dx : Addr} {fs : List (Str × V)} {b : Bool} {A : Around} {E : Value → Shared → Prop} {Q : Value → Shared → Prop} (I : Inv X pins σ H s) (e : H a = some (hoExc a (.ref c) (some dx))) (ed : H dx = some (.xd fs)) (k : XCls X.K c) (n : NoAttr X.K c f) (l : fs.lookup f = some v)
    (h : ∀ u s', Inv X pins σ H s' → RelV v u → Q u s') : wpAny (model X.prog X.w) A (getAttr (.ref a) f b) Q E s := by
  obtain ⟨⟨oe, vs, he, cl, dc, dt⟩, _, _⟩ := I.hok a _ e
  obtain ⟨mA, ns, r⟩ := (show ObjOk X.prog X.w H s.heap dx (.xd fs) from I.hok dx _ ed)
  obtain ⟨⟨cd, hk, ov, hd⟩, sa, ga, gb, ty⟩ := k
  obtain ⟨u, hu, ru⟩ := RelO.some_of (v := v) (o := mA f) (by rw [← l]; exact r f)
  obtain ⟨od, ho, hl⟩ := lookIn_ns ns
  refine get_exc (ox := oe) I.kIn ⟨he, cl, ?_, ?_⟩ hk ov ga gb ?_ n (by rw [hl, hu]) (handed_of ru) (h u _ (I.tok _) ru)
  · obtain ⟨o1, o2, o3, o4⟩ := oe
    obtain rfl : o3 = .fields vs := dt
    rfl
  · rw [dc]; exact ho
  · unfold PySem.W.hasDictIn; rw [hk]; exact hd
def tFldX (K : PySem.W.Frag) (ta : TE) (f : Str) : TE := fun σ H Q => ta σ H fun x H1 => ∃ a c dx fs v, x = .ref a ∧ H1 a = some (hoExc a (.ref c) (some dx)) ∧ H1 dx = some (.xd fs) ∧ XCls K c ∧ NoAttr K c f ∧ fs.lookup f = some v ∧ Q v H1
theorem pe_fldX {e : Expr} {f : Str} {pos : Pos} {ta : TE} (he : PE X e ta) (hb : attributeBase e f X.env (eval e X.env) = eval e X.env := by rfl) : PE X (.Attribute e f pos) (tFldX X.K ta f) := by
  intro pins s σ H Q I h
  refine attr_of hb (thn (he pins s σ H _ I h) fun u s1 ⟨x, H1, I1, rx, a, c, dx, fs, v, ex, ea, ed, k, n, l, q⟩ => ?_)
  subst ex
  obtain rfl : u = Value.ref a := rx
  exact getattr_exc I1 ea ed k n l fun u' s2 I2 ru => ⟨v, H1, I2, ru, q⟩
end
end L2

/-! EXCEPTIONS of own classes: raise C(..) -/
namespace L2
open PySem PySem.Spec PyProof.Rows

def drop (H : Hp) (a : Addr) : Hp := fun b => if b = a then none else H b
theorem drop_same {H : Hp} {a : Addr} : drop H a a = none := by unfold drop; rw [if_pos rfl]
theorem drop_ne {H : Hp} {a b : Addr} (h : b ≠ a) : drop H a b = H b := by unfold drop; rw [if_neg h]
abbrev bmVE : List Value := [.type "ValueError", .type "Exception", .type "BaseException", .type "object"]
/-- a class of exceptions with an own __init__ -/
structure XMake (K : PySem.W.Frag) (C f : Addr) : Prop where
  made : ∀ h : Heap, K.In h → ∃ nm q N bs bm hdct sn sub ab col dd k0 k1 k2 k3 k5 mN oI, h.get? C = some (excClassObj nm q C N bs bm hdct sn sub ab col dd k0 k1 k2 k3 k5 "ValueError.__new__") ∧ h.Ns N mN ∧ mN "__init__" = some (.ref f) ∧
    OwnTail h bmVE bm ∧ h.get? f = some oI ∧ oI.cls = .type "function"
  kp : PySem.W.keepIn K (.ref C) = true
  cls : XCls K C
section
variable {X : Cx} {pins : List (Addr × Obj)} {σ : St} {H : Hp} {s : Shared} {a C f : Addr}
/-- a tracked thing is forgotten -/
theorem Inv.forget {φ : Heap → Prop} (I : Inv X pins σ H s) (e : H a = some (.ext φ)) : Inv X pins σ (drop H a) s := by
  have ne : ∀ b u, H b = some u → (∀ ψ, u ≠ .ext ψ) → b ≠ a := fun b u q n y => by subst y; rw [e] at q; cases q; exact n _ rfl
  have no : ∀ b, H b = none → drop H a b = none := fun b q => by
    by_cases y : b = a
    · rw [y]; exact drop_same
    · rw [drop_ne y]; exact q
  refine ⟨I.ok, I.os, I.bare, ⟨I.base.keep, I.base.slot, fun b ob q n hx => no b (I.base.free b ob q n hx), I.base.there, fun b xs q => ?_, fun b ob u q => ?_, fun b ps q => ?_⟩, I.loc, I.cell, no _ I.free, fun x c q => no _ (I.freeC x c q), fun p hp => ?_, fun b u q => ?_, I.len⟩
  · have z := I.base.tups b xs q
    rw [drop_ne (ne b _ z (fun _ y => nomatch y))]; exact z
  · have z := I.base.frzs b ob u q
    rw [drop_ne (ne b _ z (fun _ y => nomatch y))]; exact z
  · obtain ⟨more, z⟩ := I.base.tbls b ps q
    exact ⟨more, by rw [drop_ne (ne b _ z (fun _ y => nomatch y))]; exact z⟩
  · obtain ⟨e1, n, n1, nf, d⟩ := I.pin p hp
    exact ⟨e1, no _ n, n1, nf, d⟩
  · by_cases hb : b = a
    · subst hb; rw [drop_same] at q; cases q
    · rw [drop_ne hb] at q
      exact (I.hok b u q).stay (fun c v _ z => z) (fun c z => by rw [drop_ne (ne c _ z (fun _ y => nomatch y))]; exact z) fun c xs z => by rw [drop_ne (ne c _ z (fun _ y => nomatch y))]; exact z

/-- raise C(e, ..): the promise of C's __init__, then what is wanted of the exception -/
def tRaise (C : Addr) (sp : Sp) (E : XK) (t : TA) : TS := fun D σ H => t σ H fun vs H1 => vs.length ≤ sizeLine ∧ ∀ a, H1 a = none →
  sp (.ref a :: vs) (upd H1 a (hoNew a (.ref C) none)) (fun v H2 => v = .non ∧ ∃ dx, H2 a = some (hoNew a (.ref C) dx) ∧ E (.ref C) dx (drop H2 a)) (fun _ _ _ => False)
theorem ps_raise {k : Nat} {fd : FuncData} {ps : List Str} {sp : Sp} {E : XK} {x : Str} {np cpos pos : Pos} {e : Expr} {es : List Expr} {t : TA} (hc : X.calm = true) (M : XMake X.K C f) (F : FnOk X.prog X.w X.K X.mg X.base CX0 k f fd ps sp) (hr : Room (k + 1) X.A) (hb : Binds X.K fd ps [])
    (hg : Gl X x) (hm : X.mg x = some (.ref C)) (ha : PA X (e :: es) t)
    (want : ∀ pins σ H s a dx, Inv X pins σ H s → NewX s.heap a (.ref C) dx → @LE.le Nat _ X.s₀.heap.objs.size a → H a = none → E (.ref C) dx H → X.xe (.ref a) s)
    (hdb : (x == ("__debug__" : Str)) = false := by decide) (he : starEach (e :: es) X.env = (false, eval e X.env) :: starEach es X.env := by rfl) (hpl : (backTo cpos (starEach es X.env)).any (·.1) = false := by rfl) :
    PS X (.Raise (some (.Call (.Name x np) (e :: es) [] cpos)) none pos) (tRaise C sp E t) := by
  intro pins s σ H D I h
  rw [arm_exec_Raise]
  obtain ⟨⟨cd, hk, ov, hd⟩, sa, ga, gb, ty⟩ := M.cls
  have hh : X.A.handled = none := I.ok.hd hc
  refine wpAny_bind (wpAny_standAt (raise_exc (K := X.K) hh ?_))
  refine wpAny_bind (wpAny_mono (Q := fun v s1 => ∃ a C dx cd, v = .ref a ∧ X.K.In s1.heap ∧ NewX s1.heap a (.ref C) dx ∧ PySem.W.clsIn X.K C = some cd ∧ overVE cd.mro = true ∧ PySem.W.typeIn X.K (.ref C) = some (.type "type") ∧ X.xe v s1) ?_ (fun v s3 q => wpAny_bind (wpAny_standAt (wpAny_pure q))) fun _ _ z => z)
  refine wpAny_Call_Name_kw (ld_glob I hg hm ?_ hdb)
  refine PySem.W.callWith_K (h₀ := X.base) I.ok.mod.kin M.kp (thn (ha cpos pins s σ H _ I h) fun us s1 ⟨vs, H1, I1, r, zl, q⟩ => ⟨I1.kIn, ?_⟩) he hpl
  obtain ⟨nm, qn, N, bs, bm, hdct, sn, sub, ab, col, dd, k0, k1, k2, k3, k5, mN, oI, cC, nN, iN, T, oF, cF⟩ := M.made s1.heap I1.kIn
  obtain ⟨hp, gg, d, tt, os⟩ := s1
  refine make_excT PySem.F.excBase_ValueError T cC nN iN oF cF (by rw [List.nil_append, ← r.length]; exact zl) ?_
  have fr : H1 (hp.objs.size + 1) = none := I1.hok.fresh (Nat.le_succ _)
  have q2 := q (hp.objs.size + 1) fr
  have J : Inv X pins σ (upd H1 (hp.objs.size + 1) (hoNew (hp.objs.size + 1) (.ref C) none)) ⟨xHeap hp C us, gg, d, tt, os⟩ :=
    I1.laid (t' := tt) (h' := xHeap hp C us) xHeap_keep (Nat.le_succ _) (NewE.ok ⟨_, _, xHeap_at, rfl, rfl, rfl, rfl, rfl⟩)
  have r2 : Vals (V.ref (hp.objs.size + 1) :: vs) (Value.ref (hp.objs.size + 1) :: us) := .cons rfl r
  have hl : (Value.ref (hp.objs.size + 1) :: us).length = ps.length := r2.length.symm.trans (F.len _ _ _ _ q2)
  have bd := hb ⟨xHeap hp C us, gg, d, tt, os⟩ (Value.ref (hp.objs.size + 1) :: us) J.kIn (by rw [List.append_nil]; exact hl)
  rw [List.append_nil] at bd
  refine wpAny_call (codeAny_mono (F.run _ X.stack _ _ ⟨Value.ref (hp.objs.size + 1) :: us, []⟩ (Value.ref (hp.objs.size + 1) :: us) _ _ _ (hr.make C us []) (J.env0.make C us []) bd r2 q2) fun res s' hq => ?_)
  cases res with
  | error er => exact False.elim hq
  | ok fl => cases fl with
    | next => exact False.elim hq
    | brk => exact False.elim hq
    | cont => exact False.elim hq
    | ret u =>
      obtain ⟨v, H2, J2, rv, ev, dx, ea, w2⟩ := J.after hq
      subst ev
      refine ⟨rv, hp.objs.size + 1, C, dx, cd, rfl, J2.kIn, ?_, hk, ov, ty, ?_⟩
      · obtain ⟨⟨oe, ws, g1, g2, g3, g4, _, g6⟩, _, _⟩ := J2.hok _ _ ea
        exact ⟨oe, ws, g1, g2, g3, g4, g6⟩
      · refine want pins σ _ s' _ dx (J2.forget ea) ?_ ?_ drop_same w2
        · obtain ⟨⟨oe, ws, g1, g2, g3, g4, _, g6⟩, _, _⟩ := J2.hok _ _ ea
          exact ⟨oe, ws, g1, g2, g3, g4, g6⟩
        · exact Nat.le_trans I1.sz (Nat.le_succ _)
end
end L2

/-! EXCEPTIONS of own classes: isinstance -/
namespace L2
open PySem PySem.Spec PyProof.Rows PySem.Builtin.ObjectAttr
section
variable {prog : Program} {w : World} {A : Around} {E : Value → Shared → Prop} {s : Shared} {K : PySem.W.Frag} {x C : Addr} {ox : Obj} {od : Option Obj} {cd : ClassData}
theorem looks_isTypeM {M : Model} {h : Heap} (KI : K.In h) (hk : PySem.W.clsIn K C = some cd) : PySem.W.Looks M h (isType (.ref C)) true := by
  unfold PySem.W.clsIn at hk
  split at hk
  · rename_i ho
    exact (PySem.W.Looks.ld (part := _) (KI _ _ ho)).andThen .now
  · cases hk
/-- the facts about __class__ -/
structure XCl (K : PySem.W.Frag) (C : Addr) : Prop where
  ha : PySem.W.findIn K (.ref C) "__class__" = some (some (.builtin "object.__class__"))
  hn : PySem.W.specialIn K (.builtin "object.__class__") "__get__" = some (some (.builtin "getset_descriptor.__get__"))
  htk : PySem.W.takesIn K (.builtin "object.__class__") = some true
  hm : PySem.W.mroIn K C (.type "object") = some true
theorem class_exc {Q : Option Value → Shared → Prop} (KI : K.In s.heap) (I : PySem.W.InstAt s.heap x ox C od) (k : XCls K C) (k2 : XCl K C) (h : Q (some (.ref C)) { s with toks := s.toks + 1 }) : wpAny (model prog w) A (getAttr? (.ref x) "__class__") Q E s := by
  obtain ⟨⟨cd, hk, ov, hd⟩, sa, hg, hb, ty⟩ := k
  obtain ⟨ha, hn, htk, hm⟩ := k2
  have hf : PySem.W.findObj K C od "__class__" = some (.bind (.builtin "getset_descriptor.__get__") (.builtin "object.__class__")) := by
    unfold PySem.W.findObj
    rw [hk, Option.bind_some, ha, Option.bind_some]
    simp only [hn, Option.bind_some, htk]
  obtain ⟨hp, g, d, t, os⟩ := s
  have L0 := I.type (M := model prog w)
  have L1 := PySem.W.looks_findIn (M := model prog w) KI hg
  have L2 := PySem.W.looks_findIn (M := model prog w) KI hb
  have L3 := PySem.W.looks_find (M := model prog w) KI I hf
  have sub : PySem.W.Looks (model prog w) hp (isInstance (.ref x) (.type "BaseException")) true := I.type.andThen (looks_sub KI hk ov (overVE_has ov (by decide)))
  have FX := PySem.F.excAttr_ValueError
  unfold getAttr? getAttrBy? getAttrBy
  refine wpAny_bind (wpAny_mkText (wpAny_bind (wpAny_attempt (wpAny_holding (wpAny_bind (L0.at (wpAny_bind (L1.at ?_))))))))
  show wpAny _ _ (getAttrByItsOwn _ _ _ _ _ _) _ _ _
  unfold getAttrByItsOwn
  refine wpAny_bind (show wpAny _ _ (typeLookup (.ref C) "__getattr__") _ _ _ from L2.at ?_)
  refine wpAny_bind (wpAny_attempt (wpAny_holding ?_))
  show wpAny _ _ (boundAndCalled _ _ _) _ _ _
  unfold boundAndCalled
  rw [FX.ga.bind]
  refine wpAny_bind (wpAny_pure (wpAny_call ?_))
  refine codeAny_call_builtin FX.ga.plain PySem.F.entry_bexc_ga (@PySem.W.check_slot (model prog w) _ _ ⟨hp, g, d, t + 1, os⟩ "BaseException.__getattribute__" "BaseException" "__getattribute__" (.ref x) [.str "__class__" t] [] _ (by decide +kernel) (by decide +kernel) sub (PySem.F.args_bexc_ga _ _) ?_)
  refine wpAny_bind (wpAny_pure (wpAny_bind (wpAny_pure (wpAny_bind (L0.at (wpAny_bind (L3.at ?_)))))))
  show wpAny _ _ (bindTo _ _ _ _) _ _ _
  refine wpAny_bind (wpAny_holding (wpAny_call (PySem.W.class_get (s := ⟨hp, g, d, t + 1, os⟩) (ox := ox) (od := od) KI I hm ?_)))
  refine wpAny_pure ?_
  show wpAny _ _ (handedOut (.ref C)) _ _ _
  rw [PySem.W.handedOut_of rfl]
  exact wpAny_pure (wpAny_pure h)

/-- an exception, as isinstance asks it -/
theorem kitx_exc (k : XCls K C) (k2 : XCl K C) : PySem.W.KitX K (.ref x) (.ref C) (fun h => ∃ ox od, PySem.W.InstAt h x ox C od) where
  ty := fun _ _ _ ⟨_, _, I⟩ => I.type
  it := fun _ _ KI _ => let ⟨_, hk, _⟩ := k.at_; looks_isTypeM KI hk
  ne := fun h tp dd its n sl KI htp => by
    obtain ⟨cd, hk, _⟩ := k.at_
    refine Bool.eq_false_iff.mpr fun q => ?_
    have e : C = tp := Value.ref.inj (beq_iff_eq.mp q)
    subst e
    unfold PySem.W.clsIn at hk
    split at hk
    · rename_i ho
      cases (KI _ _ ho).symm.trans htp
    · cases hk
  ca := fun KI ⟨_, _, I⟩ h => class_exc KI I k k2 h
end
section
variable {X : Cx}
theorem exc_at {pins : List (Addr × Obj)} {σ : St} {H : Hp} {s : Shared} {a c : Addr} {dx : Option Addr} (I : Inv X pins σ H s) (e : H a = some (hoExc a (.ref c) dx)) (hd : ∀ d, dx = some d → ∃ o, s.heap.get? d = some o) : ∃ ox od, PySem.W.InstAt s.heap a ox c od := by
  obtain ⟨⟨oe, vs, he, cl, dc, dt⟩, _, _⟩ := I.hok a _ e
  have nc : PySem.W.notCls oe = true := by
    obtain ⟨o1, o2, o3, o4⟩ := oe
    obtain rfl : o3 = .fields vs := dt
    rfl
  cases dx with
  | none => exact ⟨oe, none, he, cl, nc, by rw [dc]; trivial⟩
  | some d =>
    obtain ⟨o, ho⟩ := hd d rfl
    exact ⟨oe, some o, he, cl, nc, by rw [dc]; exact ho⟩
/-- isinstance(e, C) of a caught exception -/
theorem call_isinstX : CallR X (.builtin "isinstance") (fun xs H Q => ∃ a c d fs y u b, xs = [.ref a, y] ∧ RelV y u ∧ (∀ v, RelV y v → v = u) ∧ H a = some (hoExc a (.ref c) (some d)) ∧ H d = some (.xd fs) ∧ XCls X.K c ∧ XCl X.K c ∧ PySem.W.kitOne X.K (.ref c) u = some b ∧ Q (.bl b) H) := by
  intro pins s σ H xs us Q I r h
  obtain ⟨a, c, d, fs, y, u, b, rfl, ru, un, ea, ed, k, k2, e, q⟩ := h
  obtain ⟨u1, u2, rfl, r1, r2⟩ := vals2 r
  obtain rfl : u1 = Value.ref a := r1
  obtain rfl := un u2 r2
  obtain ⟨mA, ⟨od, _, _, ho, _⟩, _⟩ := (show ObjOk X.prog X.w H s.heap d (.xd fs) from I.hok d _ ed)
  exact PySem.W.kia_one (kitx_exc k k2) I.kIn (exc_at I ea fun d' z => by cases z; exact ⟨od, ho⟩) e (fun z => nomatch z) fun tk => ⟨.bl b, H, I.tok _, rfl, q⟩
/-- isinstance(e, (C, ..)) of a caught exception -/
theorem call_isinstXT : CallR X (.builtin "isinstance") (fun xs H Q => ∃ a c d fs p ys vs b, xs = [.ref a, .ref p] ∧ H a = some (hoExc a (.ref c) (some d)) ∧ H d = some (.xd fs) ∧ H p = some (.tup ys) ∧ Vals ys vs ∧ (∀ ws, Vals ys ws → ws = vs) ∧ XCls X.K c ∧ XCl X.K c ∧ PySem.W.kitAny X.K (.ref c) vs = some b ∧ Q (.bl b) H) := by
  intro pins s σ H xs us Q I r h
  obtain ⟨a, c, d, fs, p, ys, vs, b, rfl, ea, ed, ep, rv, un, k, k2, e, q⟩ := h
  obtain ⟨u1, u2, rfl, r1, r2⟩ := vals2 r
  obtain rfl : u1 = Value.ref a := r1
  obtain rfl : u2 = Value.ref p := r2
  obtain ⟨mA, ⟨od, _, _, ho, _⟩, _⟩ := (show ObjOk X.prog X.w H s.heap d (.xd fs) from I.hok d _ ed)
  obtain ⟨_, its, ri, op, hp, cp, np, dp⟩ := (show ObjOk X.prog X.w H s.heap p (.tup ys) from I.hok p _ ep)
  obtain rfl := un its ri
  obtain ⟨o1, o2, o3, o4⟩ := op
  dsimp only at cp dp
  subst cp dp
  exact PySem.W.kia_tup (kitx_exc k k2) I.kIn (exc_at I ea fun d' z => by cases z; exact ⟨od, ho⟩) hp e (fun z => nomatch z) fun tk => ⟨.bl b, H, I.tok _, rfl, q⟩
end
end L2

/-! EXCEPTIONS of own classes: put together for a law: defs that may throw, classes as they stand behind the top -/
namespace L2
open PySem PySem.Spec PyProof.Rows

/-- the keys of a dict are texts -/
def strKeysB (es : List DictEntry) : Bool := es.all fun e => match e.key with | .str _ _ => true | _ => false
theorem strKeys_of {es : Array DictEntry} (h : strKeysB es.toList = true) : StrKeys es := fun e he => by
  have := List.all_eq_true.mp h e (Array.mem_toList_iff.mpr he)
  cases hk : e.key with
  | str n t => exact ⟨n, t, rfl⟩
  | _ => rw [hk] at this; cases this
theorem ns_K {K : PySem.W.Frag} {h : Heap} {N : Addr} {oc : Value} {od : Option Addr} {es : Array DictEntry} {n : Nat} {sl : Array (Option Value)} (X : K.In h) (l : K.lookup N = some ⟨oc, od, .dict es n, sl⟩) (s : strKeysB es.toList = true) : h.Ns N (nsFind es) :=
  ⟨_, es, n, X _ _ l, rfl, strKeys_of s, fun _ => rfl⟩
theorem nsIn_find {K : PySem.W.Frag} {N : Addr} {oc : Value} {od : Option Addr} {es : Array DictEntry} {n : Nat} {sl : Array (Option Value)} {x : Str} {v : Option Value} (l : K.lookup N = some ⟨oc, od, .dict es n, sl⟩) (e : PySem.W.nsIn K N x = some v) : nsFind es x = v := by
  unfold PySem.W.nsIn at e
  rw [l] at e
  unfold nsFind findBy
  rw [← Array.find?_toList]
  dsimp only at e
  split at e
  · rename_i en he; cases e; rw [he]; rfl
  · rename_i he
    split at e
    · cases e
    · cases e; rw [he]; rfl
/-- an own class under another own one, which stands under ValueError -/
theorem xmake_mk {K : PySem.W.Frag} {C f N G : Addr} {nm q : Str} {bs : List Value} {sn : List Str} {sub : List Value} {ab : Bool} {col : Option Bool} {dd od1 od2 od3 : Option Addr} {k0 k1 k2 k3 k5 : Option Value} {oc1 oc2 c0 : Value} {es1 es2 : Array DictEntry} {n1 n2 : Nat}
    {sl1 sl2 sl3 sl4 : Array (Option Value)} {cg : ClassData} {od4 : Option Addr} {dt : Data}
    (lC : K.lookup C = some (excClassObj nm q C N bs (.ref G :: bmVE) true sn sub ab col dd k0 k1 k2 k3 k5 "ValueError.__new__")) (lN : K.lookup N = some ⟨oc1, od1, .dict es1 n1, sl1⟩) (sN : strKeysB es1.toList = true) (iN : PySem.W.nsIn K N "__init__" = some (some (.ref f)))
    (lG : K.lookup G = some ⟨c0, od2, .cls cg, sl2⟩) (lM : K.lookup cg.ns = some ⟨oc2, od3, .dict es2 n2, sl3⟩) (sM : strKeysB es2.toList = true) (iM : PySem.W.nsIn K cg.ns "__init__" = some none)
    (lf : K.lookup f = some ⟨.type "function", od4, dt, sl4⟩) (kp : PySem.W.keepIn K (.ref C) = true)
    (sa : PySem.W.findIn K (.ref C) "__setattr__" = some (some (.builtin "object.__setattr__"))) (ga : PySem.W.findIn K (.ref C) "__getattribute__" = some (some (.builtin "BaseException.__getattribute__")))
    (gb : PySem.W.findIn K (.ref C) "__getattr__" = some none) (ty : PySem.W.typeIn K (.ref C) = some (.type "type")) : XMake K C f where
  made := fun h X => ⟨nm, q, N, bs, .ref G :: bmVE, true, sn, sub, ab, col, dd, k0, k1, k2, k3, k5, nsFind es1, _, X _ _ lC, ns_K X lN sN, nsIn_find lN iN, .own (X _ _ lG) (ns_K X lM sM) (nsIn_find lM iM) .base, X _ _ lf, rfl⟩
  kp := kp
  cls := ⟨⟨_, by unfold PySem.W.clsIn; rw [lC], rfl, rfl⟩, sa, ga, gb, ty⟩
/-- another own class beside -/
theorem kit_no {K : PySem.W.Frag} {C N : Addr} {cd : ClassData} (ne : (Value.ref C == Value.ref N) = false) (c : PySem.W.clsIn K N = some cd) (t : PySem.W.typeIn K (.ref N) = some (.type "type")) (s : PySem.W.subIn K (.ref C) (.ref N) = some false) : PySem.W.kitOne K (.ref C) (.ref N) = some false := by
  unfold PySem.W.kitOne
  rw [if_neg (by rw [ne]; decide)]
  unfold PySem.W.kitCls
  dsimp only
  rw [if_pos (by rw [c, t]; rfl), s]
theorem kit_self (K : PySem.W.Frag) (C : Addr) : PySem.W.kitOne K (.ref C) (.ref C) = some true := by
  unfold PySem.W.kitOne
  rw [if_pos (by simp)]
theorem kit_ve {K : PySem.W.Frag} {C : Addr} (s : PySem.W.subIn K (.ref C) (.type "ValueError") = some true) : PySem.W.kitOne K (.ref C) (.type "ValueError") = some true := by
  unfold PySem.W.kitOne
  rw [if_neg (show ¬ ((Value.ref C == Value.type "ValueError") = true) from fun h => nomatch beq_iff_eq.mp h)]
  unfold PySem.W.kitCls
  dsimp only
  rw [if_pos (by decide +kernel), s]
theorem boVE : bootBuiltins "ValueError" = some (.type "ValueError") := by decide +kernel
theorem kitAny_cons {K : PySem.W.Frag} {t c : Value} {r : List Value} (h : PySem.W.kitOne K t c = some false) (h2 : PySem.W.kitAny K t r = some false) : PySem.W.kitAny K t (c :: r) = some false := by
  unfold PySem.W.kitAny
  rw [h]
  exact h2
/-- one class beside: its name, its place -/
structure XNo (K : PySem.W.Frag) (mg : Str → Option Value) (C : Addr) (x : Str) (N : Addr) : Prop where
  m : mg x = some (.ref N)
  k : PySem.W.kitOne K (.ref C) (.ref N) = some false
theorem xno_mk {K : PySem.W.Frag} {mg : Str → Option Value} {C N : Addr} {x : Str} {cd : ClassData} (M : Mg K mg) (a : PySem.W.nsIn K mainGlobals x = some (some (.ref N))) (ne : (Value.ref C == Value.ref N) = false) (c : PySem.W.clsIn K N = some cd) (t : PySem.W.typeIn K (.ref N) = some (.type "type"))
    (s : PySem.W.subIn K (.ref C) (.ref N) = some false) : XNo K mg C x N := ⟨M.of a, kit_no ne c t s⟩

section
variable {P : Program} {w : World} {K : PySem.W.Frag} {mg : Str → Option Value} {base : Heap}
/-- THE RULE for a def that may throw -/
theorem At.calX {x : Str} {st : Stmt} {f : Addr} {fd : FuncData} {N ps : List Str} {k : Nat} {sp : Sp} (A : At K mg x st ps f fd) (S : FnScope N ps (defScope st)) (len : ∀ vs H Q E, sp vs H Q E → vs.length = ps.length)
    (hbody : ∀ (cdv : Value) (A : Around) (outer : List Env) (s : Shared) (H : Hp) (vs : List V) (Q : VK) (E : XK), Room k (A.deeper (PyProof.Rows.envOfC x (defScope st) s.heap.objs.size f cdv)) → sp vs H Q E →
      ∃ t, PSs (cxOf (CXE P w) P w K mg base N x (defScope st) f cdv A outer s H E) (defBody st) t ∧ t { nx := fun _ H' => Q .non H', rt := Q } (start N vs) H) : Cal P w K mg base (CXE P w) (k + 1) x ps sp := by
  obtain ⟨oc, od, kV, doc, pm, an, cdv, ct, osl, e, l, c⟩ := A.fn.ex
  subst e
  exact ⟨f, _, oc, od, osl, fn_of l c S len fun A outer s H vs Q E hr hsp => hbody cdv A outer s H vs Q E hr hsp, A.b, A.fn.kp, A.m, l⟩
/-- a call of such a def, in one that may throw, too -/
theorem pe_calX {N : List Str} {qual : Str} {scope : Scope} {f : Addr} {cd : Value} {A : Around} {outer : List Env} {s : Shared} {H : Hp} {E : XK} {k : Nat} {x : Str} {ps : List Str} {sp : Sp} {p pos : Pos} {e : Expr} {es : List Expr} {t : TA}
    (C : Cal P w K mg base (CXE P w) k x ps sp) (hr : Room k (cxOf (CXE P w) P w K mg base N qual scope f cd A outer s H E).A) (ha : PA (cxOf (CXE P w) P w K mg base N qual scope f cd A outer s H E) (e :: es) t) (hg : Gl (cxOf (CXE P w) P w K mg base N qual scope f cd A outer s H E) x) (hdb : (x == ("__debug__" : Str)) = false := by decide)
    (he : starEach (e :: es) (cxOf (CXE P w) P w K mg base N qual scope f cd A outer s H E).env = (false, eval e (cxOf (CXE P w) P w K mg base N qual scope f cd A outer s H E).env) :: starEach es (cxOf (CXE P w) P w K mg base N qual scope f cd A outer s H E).env := by rfl)
    (hpl : (backTo pos (starEach es (cxOf (CXE P w) P w K mg base N qual scope f cd A outer s H E).env)).any (·.1) = false := by rfl) :
    PE (cxOf (CXE P w) P w K mg base N qual scope f cd A outer s H E) (.Call (.Name x p) (e :: es) [] pos) (tCall sp [] E t) := by
  obtain ⟨f', fd, oc, od, osl, F, b, kp, m, _⟩ := C.ex
  exact pe_call F hr hg m kp b .nil passX ha hdb he hpl
/-- an own class of exceptions as a raise wants it -/
structure XCal (P : Program) (w : World) (K : PySem.W.Frag) (mg : Str → Option Value) (base : Heap) (k : Nat) (x : Str) (ps : List Str) (sp : Addr → Sp) (C : Addr) : Prop where
  ex : ∃ f fd j, j + 1 ≤ k ∧ mg x = some (.ref C) ∧ XMake K C f ∧ FnOk P w K mg base CX0 j f fd ps (sp C) ∧ Binds K fd ps []
theorem XCal.mono {x : Str} {ps : List Str} {sp : Addr → Sp} {C : Addr} {j k : Nat} (X : XCal P w K mg base j x ps sp C) (h : j ≤ k) : XCal P w K mg base k x ps sp C := by
  obtain ⟨f, fd, i, hi, r⟩ := X.ex
  exact ⟨f, fd, i, by omega, r⟩
end

theorem hu64 {A : Around} {k : Nat} (hr : Room k A) : A.units + 64 < cLine := by have := hr.un; omega
theorem eqDs_self (xs : List Dt) : eqDs xs xs = true := by
  have := eqD_self (.tup xs)
  unfold eqD at this
  exact this
section
variable {env : Env} {es xs ys : List Expr} {j k : Nat} {p : Pos} {c : Const} {x f : Str} {a b : Expr} {o : Operator} {u : UnaryOp} {kw : List Keyword}
theorem star_c : starEach (.Constant c j p :: es) env = (false, eval (.Constant c j p) env) :: starEach es env := by rfl
theorem star_n : starEach (.Name x p :: es) env = (false, eval (.Name x p) env) :: starEach es env := by rfl
theorem star_t : starEach (.Tuple xs j p :: es) env = (false, eval (.Tuple xs j p) env) :: starEach es env := by rfl
theorem star_l : starEach (.List xs p :: es) env = (false, eval (.List xs p) env) :: starEach es env := by rfl
theorem star_b : starEach (.BinOp a o b p :: es) env = (false, eval (.BinOp a o b p) env) :: starEach es env := by rfl
theorem star_u : starEach (.UnaryOp u a p :: es) env = (false, eval (.UnaryOp u a p) env) :: starEach es env := by rfl
theorem star_s : starEach (.Subscript a b p :: es) env = (false, eval (.Subscript a b p) env) :: starEach es env := by rfl
theorem star_k : starEach (.Call a xs kw p :: es) env = (false, eval (.Call a xs kw p) env) :: starEach es env := by rfl
theorem star_a : starEach (.Attribute a f p :: es) env = (false, eval (.Attribute a f p) env) :: starEach es env := by rfl
end
/-- a written list of texts -/
def constTx : List Expr → Option (List (List Nat))
  | [] => some []
  | .Constant (.str x) _ _ :: r => (constTx r).map (x.cps.toList :: ·)
  | _ => none
def tTxs (ls : List (List Nat)) : TA := fun _ H Q => Q (ls.map fun l => .str (tx l)) H
theorem pa_txs {X : Cx} : ∀ {es : List Expr} {ls : List (List Nat)}, constTx es = some ls → PA X es (tTxs ls)
  | [], ls, h => by cases h; exact pa_nil
  | e :: r, ls, h => by
    unfold constTx at h
    split at h
    · rename_i q; cases q
    · rename_i x _ _ _ q
      cases q
      cases hr : constTx r with
      | none => rw [hr] at h; cases h
      | some l2 =>
        rw [hr] at h
        cases h
        intro pos pins s σ H Q I hq
        refine pa_cons pe_str (pa_txs hr) star_c pos pins s σ H Q I ?_
        show Q (.str x :: _) H
        have e : (.str x : V) = .str (tx x.cps.toList) := by rw [tx_self]
        rw [e]
        exact hq
    · cases h
/-- a raise's object is forgotten again; what was tracked stays -/
theorem same_raise {H H1 : Hp} {a dx : Addr} {o1 o2 o3 : HO} (s : Same H H1) (ha : H1 a = none) (hd : upd H1 a o1 dx = none) (hne : dx ≠ a) : Same H (drop (upd (upd (upd H1 a o1) dx o2) a o3) a) := fun b o hb => by
  have h1 := s b o hb
  have ba : b ≠ a := ne_of_none h1 ha
  rw [upd_ne hne] at hd
  have bd : b ≠ dx := ne_of_none h1 hd
  rw [drop_ne ba, upd_ne ba, upd_ne bd, upd_ne ba]
  exact h1
theorem at_raise {H1 : Hp} {a dx : Addr} {o1 o2 o3 : HO} (hne : dx ≠ a) : drop (upd (upd (upd H1 a o1) dx o2) a o3) a dx = some o2 := by
  rw [drop_ne hne, upd_ne hne, upd_same]
/-- an item of a written list of texts -/
theorem tab_at {tab : List (List Nat)} {i : Int} (h0 : 0 ≤ i) (h1 : i < (tab.length : Int)) : atI (tab.map fun l => V.str (tx l)) i = some (.str (tx (tab.getD i.toNat []))) := by
  have e : ((i.toNat : Nat) : Int) = i := by omega
  rw [← e]
  refine atI_nat ?_
  rw [List.getElem?_map, List.getD_eq_getElem?_getD, Int.toNat_natCast, List.getElem?_eq_getElem (show i.toNat < tab.length by omega)]; rfl
section
variable {X : Cx}
/-! the rules of a clause's suite, with the text's part told apart from the frame -/
theorem call_isXK {K : PySem.W.Frag} (hK : X.K = K) : CallR X (.builtin "isinstance") (fun xs H Q => ∃ a c d fs y u b, xs = [.ref a, y] ∧ RelV y u ∧ (∀ v, RelV y v → v = u) ∧ H a = some (hoExc a (.ref c) (some d)) ∧ H d = some (.xd fs) ∧ XCls K c ∧ XCl K c ∧ PySem.W.kitOne K (.ref c) u = some b ∧ Q (.bl b) H) := by
  subst hK; exact call_isinstX
theorem call_isXTK {K : PySem.W.Frag} (hK : X.K = K) : CallR X (.builtin "isinstance") (fun xs H Q => ∃ a c d fs p ys vs b, xs = [.ref a, .ref p] ∧ H a = some (hoExc a (.ref c) (some d)) ∧ H d = some (.xd fs) ∧ H p = some (.tup ys) ∧ Vals ys vs ∧ (∀ ws, Vals ys ws → ws = vs) ∧ XCls K c ∧ XCl K c ∧ PySem.W.kitAny K (.ref c) vs = some b ∧ Q (.bl b) H) := by
  subst hK; exact call_isinstXT
theorem pe_fldXK {K : PySem.W.Frag} {e : Expr} {f : Str} {pos : Pos} {ta : TE} (hK : X.K = K) (he : PE X e ta) (hb : attributeBase e f X.env (eval e X.env) = eval e X.env := by rfl) : PE X (.Attribute e f pos) (tFldX K ta f) := by
  subst hK; exact pe_fldX he hb
end
/-! what stands behind a clause that took an exception of the class NoPage -/
/-- the words of `__init__(self, at)` of a class under GapsError: self.at = at -/
def spAt (K : PySem.W.Frag) (C : Addr) : Sp := fun vs H Q _ => ∃ (a : Addr) (i : Int), vs = [.ref a, .int i] ∧ H a = some (hoNew a (.ref C) none) ∧ 0 ≤ i ∧ i < 2 ^ 62 ∧ XCls K C ∧ NoAttr K C "at" ∧
  ∀ dx, H dx = none → dx ≠ a → Q .non (upd (upd H dx (.xd [("at", .int i)])) a (hoNew a (.ref C) (some dx)))

/-- what a law needs of its classes: G the one above, C the one that is raised, f its __init__, NS those beside -/
structure ExcT (K : PySem.W.Frag) (mg : Str → Option Value) (st : Stmt) (names : List Str) (G C f : Addr) (fd : FuncData) (NS : List Addr) : Prop where
  mG : mg "GapsError" = some (.ref G)
  mC : mg "NoPage" = some (.ref C)
  nC : PySem.W.nsIn K mainGlobals "NoPage" = some (some (.ref C))
  cl : Clause K G
  mak : XMake K C f
  fn : Fun K "__init__" "NoPage.__init__" st f fd
  bi : Binds K fd ["self", "at"] []
  rd : PySem.W.readsIn K G (.type "type") = true
  fc : PySem.W.findCls K (.ref G) (.type "type") "__init__" = some (.val (.builtin "ValueError.__init__"))
  sp : PySem.W.specialIn K (.ref G) "__getattribute__" = some (some (.builtin "type.__getattribute__"))
  xc : XCl K C
  na : NoAttr K C "at"
  ve : PySem.W.kitOne K (.ref C) (.type "ValueError") = some true
  be : Below K G (.ref C)
  no : Paired (fun x N => XNo K mg C x N) names NS
theorem excT_mk {K : PySem.W.Frag} {mg : Str → Option Value} {st : Stmt} {names : List Str} {NS : List Addr} {C f N G : Addr} {nm q : Str} {bs : List Value} {sn : List Str} {sub : List Value} {ab : Bool} {col : Option Bool} {dd od1 od2 od3 : Option Addr} {k0 k1 k2 k3 k5 : Option Value} {oc1 oc2 c0 : Value} {es1 es2 : Array DictEntry} {n1 n2 : Nat}
    {sl1 sl2 sl3 sl4 : Array (Option Value)} {cg : ClassData} {od4 an : Option Addr} {kV doc pm cdv ct : Value} (M : Mg K mg)
    (aG : PySem.W.nsIn K mainGlobals "GapsError" = some (some (.ref G))) (aC : PySem.W.nsIn K mainGlobals "NoPage" = some (some (.ref C)))
    (lC : K.lookup C = some (excClassObj nm q C N bs (.ref G :: bmVE) true sn sub ab col dd k0 k1 k2 k3 k5 "ValueError.__new__")) (lN : K.lookup N = some ⟨oc1, od1, .dict es1 n1, sl1⟩) (sN : strKeysB es1.toList = true) (iN : PySem.W.nsIn K N "__init__" = some (some (.ref f)))
    (lG : K.lookup G = some ⟨c0, od2, .cls cg, sl2⟩) (lM : K.lookup cg.ns = some ⟨oc2, od3, .dict es2 n2, sl3⟩) (sM : strKeysB es2.toList = true) (iM : PySem.W.nsIn K cg.ns "__init__" = some none)
    (lf : K.lookup f = some ⟨.type "function", od4, .func (PySem.W.fnOf "__init__" "NoPage.__init__" (defArgs st) (defBody st) (defScope st) .none kV doc pm an cdv ct), sl4⟩) (cf : PySem.W.codeIn K cdv "NoPage.__init__" = true) (kf : PySem.W.keepIn K (.ref f) = true) (kp : PySem.W.keepIn K (.ref C) = true)
    (sa : PySem.W.findIn K (.ref C) "__setattr__" = some (some (.builtin "object.__setattr__"))) (ga : PySem.W.findIn K (.ref C) "__getattribute__" = some (some (.builtin "BaseException.__getattribute__")))
    (gb : PySem.W.findIn K (.ref C) "__getattr__" = some none) (ty : PySem.W.typeIn K (.ref C) = some (.type "type")) (tyG : PySem.W.typeIn K (.ref G) = some (.type "type")) (ovG : overVE cg.mro = true)
    (rd : PySem.W.readsIn K G (.type "type") = true) (fc : PySem.W.findCls K (.ref G) (.type "type") "__init__" = some (.val (.builtin "ValueError.__init__"))) (sp : PySem.W.specialIn K (.ref G) "__getattribute__" = some (some (.builtin "type.__getattribute__")))
    (h1 : PySem.W.findIn K (.ref C) "__class__" = some (some (.builtin "object.__class__"))) (h2 : PySem.W.specialIn K (.builtin "object.__class__") "__get__" = some (some (.builtin "getset_descriptor.__get__"))) (h3 : PySem.W.takesIn K (.builtin "object.__class__") = some true) (h4 : PySem.W.mroIn K C (.type "object") = some true)
    (na : PySem.W.findIn K (.ref C) "at" = some none) (ve : PySem.W.subIn K (.ref C) (.type "ValueError") = some true)
    (bi : ∀ (kV doc pm : Value) (an : Option Addr) (cdv ct : Value) (us : List Value), us.length = 2 → bindArgs (PySem.W.fnOf "__init__" "NoPage.__init__" (defArgs st) (defBody st) (defScope st) .none kV doc pm an cdv ct) ⟨us, []⟩ = pure ((["self", "at"] : List Str).zip us))
    (no : Paired (fun x N => XNo K mg C x N) names NS) : ExcT K mg st names G C f (PySem.W.fnOf "__init__" "NoPage.__init__" (defArgs st) (defBody st) (defScope st) .none kV doc pm an cdv ct) NS where
  mG := M.of aG
  mC := M.of aC
  nC := aC
  cl := ⟨tyG, cg, by unfold PySem.W.clsIn; rw [lG], ovG⟩
  mak := xmake_mk lC lN sN iN lG lM sM iM lf kp sa ga gb ty
  fn := fun_mk lf cf kf
  bi := (fun_mk lf cf kf).binds bi
  rd := rd
  fc := fc
  sp := sp
  xc := ⟨h1, h2, h3, h4⟩
  na := na
  ve := kit_ve ve
  be := ⟨C, _, rfl, by unfold PySem.W.clsIn; rw [lC], rfl, by simp⟩
  no := no
/-- the law's facts of exceptions -/
def ExcF (K : PySem.W.Frag) (mg : Str → Option Value) (st : Stmt) (names : List Str) : Prop := ∃ G C f fd NS, ExcT K mg st names G C f fd NS
end L2

/-! EXCEPTIONS of own classes: a plain def called within a clause's suite -/
namespace L2
open PySem PySem.Spec PyProof.Rows
structure RoomC (k : Nat) (A : Around) : Prop where
  dp : A.depth + 3 * k + 5 < recursionLimit
  un : A.units + 16 * k + 200 < cLine
theorem Room.mark {k : Nat} {A : Around} (r : Room k A) (e : Option Value) : RoomC k (A.mark e) := ⟨r.dp, r.un⟩
theorem RoomC.deeper {k : Nat} {A : Around} (r : RoomC (k + 1) A) (env : Env) : RoomC k (A.deeper env) :=
  ⟨by have := r.dp; show A.depth + 1 + 3 * k + 5 < _; omega, by have := r.un; show A.units + 3 + 16 * k + 200 < _; omega⟩
theorem RoomC.mono {j k : Nat} {A : Around} (r : RoomC k A) (h : j ≤ k) : RoomC j A := ⟨by have := r.dp; omega, by have := r.un; omega⟩
/-- the context of a def's body that may run within a clause's suite; nothing is thrown -/
abbrev cxC (P : Program) (w : World) (K : PySem.W.Frag) (mg : Str → Option Value) (base : Heap) (N : List Str) (qual : Str) (scope : Scope) (f : Addr) (cd : Value) (A : Around) (outer : List Env) (s : Shared) (H : Hp) : Cx :=
  { cxOf CX0 P w K mg base N qual scope f cd A outer s H E0 with calm := false, xe := fun _ _ => False }
structure FnOkC (P : Program) (w : World) (K : PySem.W.Frag) (mg : Str → Option Value) (base : Heap) (k : Nat) (f : Addr) (fd : FuncData) (ps : List Str) (sp : Sp) : Prop where
  len : ∀ vs H Q E, sp vs H Q E → vs.length = ps.length
  run : ∀ (A : Around) (outer : List Env) (s : Shared) (H : Hp) (args : Args) (us : List Value) (vs : List V) (Q : VK), RoomC k A → Env0 P w K mg base A outer s H → BindsTo s fd args (ps.zip us) → Vals vs us → sp vs H Q E0 →
    codeAny (model P w) A (.call (.ref f) args) (CR CX0 outer P w H s Q E0) s
theorem fn_ofC {P : Program} {w : World} {K : PySem.W.Frag} {mg : Str → Option Value} {base : Heap} {k : Nat} {f : Addr} {name qual : Str} {params : Arguments} {body : List Stmt} {scope : Scope} {dV kV doc pm cdv ct oc : Value} {an od : Option Addr}
    {osl : Array (Option Value)} {N ps : List Str} {sp : Sp} (lk : K.lookup f = some ⟨oc, od, .func (PySem.W.fnOf name qual params body scope dV kV doc pm an cdv ct), osl⟩) (hcd : PySem.W.codeIn K cdv qual = true) (S : FnScope N ps scope)
    (len : ∀ vs H Q E, sp vs H Q E → vs.length = ps.length)
    (hbody : ∀ (A : Around) (outer : List Env) (s : Shared) (H : Hp) (vs : List V) (Q : VK), RoomC k (A.deeper (envOfC qual scope s.heap.objs.size f cdv)) → sp vs H Q E0 →
      ∃ t, PSs (cxC P w K mg base N qual scope f cdv A outer s H) body t ∧ t { nx := fun _ H' => Q .non H', rt := Q } (start N vs) H) :
    FnOkC P w K mg base (k + 1) f (PySem.W.fnOf name qual params body scope dV kV doc pm an cdv ct) ps sp := by
  refine ⟨len, fun A outer s H args us vs Q hr e0 hb r hsp => ?_⟩
  have hl := len _ _ _ _ hsp
  have KX : K.In s.heap := e0.mod.kin.keeps fun b o e => (e0.bs b o e).1
  have lim : s.heap.NoLimit := e0.mod.nolimit.keeps fun b o e => (e0.bs b o e).1
  have hkind : ∀ y ∈ ps.zip us, scope.names.lookup y.1 = some .local ∨ (scope.names.lookup y.1 = some .cell ∧ ((cellsFrom (s.heap.objs.size + 1) scope.names []).lookup y.1).isSome = true) := fun ⟨n, v⟩ hy => by
    rcases S.par n (List.of_mem_zip hy).1 with q | q
    · exact .inl q
    · exact .inr ⟨q, PySem.W.cellsFrom_some _ _ _ (.inl q)⟩
  refine codeAny_call_function (by have := hr.dp; omega) (KX _ _ lk) rfl S.co S.gen rfl (PySem.W.codeRec_of KX hcd) (hb _ _ _ _ ?_)
  refine wpAny_newFunctionEnv_cells S.kind hkind fun env he s1 x => ?_
  subst he
  refine ⟨lim.keeps x.toInCall.keep, codeAny_func ?_⟩
  obtain ⟨t, ht, hq⟩ := hbody A outer s H vs Q (hr.deeper _) hsp
  have I0 : Inv (cxOf CX0 P w K mg base N qual scope f cdv { A with handled := none } outer s H E0) [] (start N vs) H s1 := inv_start S rfl ⟨e0.frames, e0.mod, e0.bs, e0.bsz, e0.funs, e0.frf, e0.hok, e0.bare⟩ hl r x
  have I : Inv (cxC P w K mg base N qual scope f cdv A outer s H) [] (start N vs) H s1 :=
    ⟨⟨I0.ok.mod, I0.ok.kind, I0.ok.glob, I0.ok.blt, I0.ok.above, I0.ok.inj, I0.ok.has, I0.ok.cab, fun z => (Bool.false_ne_true z).elim, I0.ok.frames, I0.ok.stk, I0.ok.exf, I0.ok.bs, I0.ok.bsz, I0.ok.noex, I0.ok.exfs, I0.ok.funs, I0.ok.frf⟩, I0.os, I0.bare, I0.base, I0.loc, I0.cell, I0.free, I0.freeC, I0.pin, I0.hok, I0.len⟩
  refine wpAny_mono (ht [] s1 (start N vs) H _ I hq) (fun fl s' hs => ?_) fun e s' hs => False.elim hs
  have fin : ∀ {σ' : St} {H' : Hp} {v : V} {u : Value}, Inv (cxC P w K mg base N qual scope f cdv A outer s H) [] σ' H' s' → RelV v u → Q v H' → CE outer P w H s Q u s' :=
    fun {σ' H' v u} J rv q => ⟨v, H', J.os, J.bare, J.base, J.hok, rv, q⟩
  cases fl with
  | ret u =>
    obtain ⟨v, σ', H', J, rv, q⟩ := hs
    exact fin J rv q
  | next =>
    obtain ⟨σ', H', J, q⟩ := hs
    exact fin (v := V.non) (u := Value.none) J rfl q
  | brk =>
    obtain ⟨_, _, _, q⟩ := hs
    exact False.elim q
  | cont =>
    obtain ⟨_, _, _, q⟩ := hs
    exact False.elim q
structure CalC (P : Program) (w : World) (K : PySem.W.Frag) (mg : Str → Option Value) (base : Heap) (k : Nat) (x : Str) (ps : List Str) (sp : Sp) : Prop where
  ex : ∃ (f : Addr) (fd : FuncData), FnOkC P w K mg base k f fd ps sp ∧ Binds K fd ps [] ∧ PySem.W.keepIn K (.ref f) = true ∧ mg x = some (.ref f)
theorem CalC.mono {P : Program} {w : World} {K : PySem.W.Frag} {mg : Str → Option Value} {base : Heap} {j k : Nat} {x : Str} {ps : List Str} {sp : Sp} (C : CalC P w K mg base j x ps sp) (h : j ≤ k) : CalC P w K mg base k x ps sp := by
  obtain ⟨f, fd, F, r⟩ := C.ex
  exact ⟨f, fd, ⟨F.len, fun A outer s H args us vs Q hr => F.run A outer s H args us vs Q (hr.mono h)⟩, r⟩
theorem At.calC {P : Program} {w : World} {K : PySem.W.Frag} {mg : Str → Option Value} {base : Heap} {x : Str} {st : Stmt} {f : Addr} {fd : FuncData} {N ps : List Str} {k : Nat} {sp : Sp} (A : At K mg x st ps f fd) (S : FnScope N ps (defScope st)) (len : ∀ vs H Q E, sp vs H Q E → vs.length = ps.length)
    (hbody : ∀ (cdv : Value) (A : Around) (outer : List Env) (s : Shared) (H : Hp) (vs : List V) (Q : VK), RoomC k (A.deeper (PyProof.Rows.envOfC x (defScope st) s.heap.objs.size f cdv)) → sp vs H Q E0 →
      ∃ t, PSs (cxC P w K mg base N x (defScope st) f cdv A outer s H) (defBody st) t ∧ t { nx := fun _ H' => Q .non H', rt := Q } (start N vs) H) : CalC P w K mg base (k + 1) x ps sp := by
  obtain ⟨oc, od, kV, doc, pm, an, cdv, ct, osl, e, l, c⟩ := A.fn.ex
  subst e
  exact ⟨f, _, fn_ofC l c S len fun A outer s H vs Q hr hsp => hbody cdv A outer s H vs Q hr hsp, A.b, A.fn.kp, A.m⟩
section
variable {X : Cx} {k : Nat} {x : Str} {ps : List Str} {sp : Sp} {p pos : Pos} {e : Expr} {es : List Expr} {t : TA}
theorem pe_calC {P : Program} {w : World} {K : PySem.W.Frag} {mg : Str → Option Value} {base : Heap} (eP : X.prog = P) (ew : X.w = w) (eK : X.K = K) (em : X.mg = mg) (eb : X.base = base) (C : CalC P w K mg base k x ps sp) (hr : RoomC k X.A) (ha : PA X (e :: es) t) (hg : Gl X x) (hdb : (x == ("__debug__" : Str)) = false := by decide)
    (he : starEach (e :: es) X.env = (false, eval e X.env) :: starEach es X.env := by rfl) (hpl : (backTo pos (starEach es X.env)).any (·.1) = false := by rfl) : PE X (.Call (.Name x p) (e :: es) [] pos) (tCall sp [] E0 t) := by
  subst eP ew eK em eb
  obtain ⟨f, fd, F, b, kp, m⟩ := C.ex
  intro pins s σ H Q I h
  refine wpAny_Call_Name_kw (ld_glob I hg m ?_ hdb)
  refine PySem.W.callWith_K (h₀ := X.base) I.ok.mod.kin kp (thn (ha pos pins s σ H _ I h) fun us s1 ⟨vs, H1, I1, r, q⟩ => ⟨I1.kIn, ?_⟩) he hpl
  have q0 : sp (vs ++ []) H1 Q E0 := q
  have q' : sp vs H1 Q E0 := by rw [List.append_nil] at q0; exact q0
  have hl : (us ++ []).length = ps.length := by rw [List.append_nil, ← r.length]; exact F.len _ _ _ _ q'
  have bd := b s1 us I1.kIn hl
  rw [List.append_nil] at bd
  refine wpAny_call (codeAny_mono (F.run X.A X.stack s1 H1 ⟨us, []⟩ us vs Q hr I1.env0 bd r q') fun r s' hq => ?_)
  cases r with
  | error e => exact False.elim hq
  | ok fl =>
    cases fl with
    | ret u => exact I1.after hq
    | next => exact False.elim hq
    | brk => exact False.elim hq
    | cont => exact False.elim hq
end
end L2

/-! FORMS as data; heaps alike but at one place; comprehensions over ranges; slices and sums of tuples -/
namespace L2
open PySem PySem.Spec PyProof.Rows

/-- heaps alike but at one place -/
def SameB (p : Addr) (H H' : Hp) : Prop := ∀ b o, b ≠ p → H b = some o → H' b = some o
theorem SameB.refl (p : Addr) (H : Hp) : SameB p H H := fun _ _ _ h => h
theorem SameB.trans {p : Addr} {H H1 H2 : Hp} (a : SameB p H H1) (b : SameB p H1 H2) : SameB p H H2 := fun c o n h => b c o n (a c o n h)
theorem Same.b {p : Addr} {H H' : Hp} (s : Same H H') : SameB p H H' := fun c o _ h => s c o h
theorem same_drop {p : Addr} {H : Hp} : Same (drop H p) H := fun b o h => by
  by_cases e : b = p
  · rw [e, drop_same] at h; cases h
  · rw [drop_ne e] at h; exact h
theorem SameB.drop {p : Addr} {H H' : Hp} (s : SameB p H H') : Same (drop H p) (drop H' p) := fun b o h => by
  by_cases e : b = p
  · rw [e, drop_same] at h; cases h
  · rw [drop_ne e] at h ⊢; exact s b o e h
theorem SameB.upd {p : Addr} {H : Hp} {o : HO} : SameB p H (upd H p o) := fun b u n h => by rw [upd_ne n]; exact h
theorem SameB.same {p : Addr} {H H' : Hp} (s : SameB p H H') (h : H p = none) : Same H H' := fun b o hb => s b o (ne_of_none hb h) hb
theorem drop_none {p : Addr} {H : Hp} (h : H p = none) : drop H p = H := by
  funext b
  by_cases e : b = p
  · rw [e, drop_same, h]
  · rw [drop_ne e]

/-- the tuples alone -/
def TuO (H : Hp) : Hp := fun b => match H b with | some (.tup xs) => some (.tup xs) | _ => none
theorem TuO_tup {H : Hp} {b : Addr} {xs : List V} (h : H b = some (.tup xs)) : TuO H b = some (.tup xs) := by unfold TuO; rw [h]
theorem TuO_of {H : Hp} {b : Addr} {o : HO} (h : TuO H b = some o) : ∃ xs, o = .tup xs ∧ H b = some (.tup xs) := by
  unfold TuO at h
  split at h
  · rename_i xs e; cases h; exact ⟨xs, rfl, e⟩
  · cases h
theorem TuO_sub {H : Hp} : Same (TuO H) H := fun b o h => by
  obtain ⟨xs, rfl, e⟩ := TuO_of h
  exact e
/-- all tuples stay -/
def SameT (H H' : Hp) : Prop := ∀ b xs, H b = some (.tup xs) → H' b = some (.tup xs)
theorem SameT.to {H H' : Hp} (s : SameT H H') : Same (TuO H) (TuO H') := fun b o h => by
  obtain ⟨xs, rfl, e⟩ := TuO_of h
  exact TuO_tup (s b xs e)
theorem SameT.refl (H : Hp) : SameT H H := fun _ _ h => h
theorem SameT.trans {H H1 H2 : Hp} (a : SameT H H1) (b : SameT H1 H2) : SameT H H2 := fun c o h => b c o (a c o h)
theorem Same.t {H H' : Hp} (s : Same H H') : SameT H H' := fun b xs h => s b _ h
theorem SameT.put {H : Hp} {p : Addr} {ys : List V} {o : HO} (h : H p = some (.lst ys)) : SameT H (upd H p o) := fun b xs e => by
  rw [upd_ne (ne_of e h (by intro z; cases z))]; exact e
theorem SameB.t {H H' : Hp} {p : Addr} {ys : List V} (s : SameB p H H') (h : H p = some (.lst ys)) : SameT H H' := fun b xs e => s b _ (ne_of e h (by intro z; cases z)) e

theorem comp_range {lo : Int} {n : Nat} {g : TG} {te : TE} {σ0 : St} {H0 : Hp} {R : List V → Hp → Prop} (Pv : Nat → St → List V → Hp → Prop) (h0 : Pv 0 σ0 [] H0) (hz : n < sizeLine)
    (hl : ∀ i σ ys H, i ≤ n → Pv i σ ys H → ys.length ≤ i)
    (hs : ∀ i σ ys H, i < n → Pv i σ ys H → g (.int (lo + i)) σ H fun σ2 H2 => te σ2 H2 fun v H4 => Pv (i + 1) σ2 (ys ++ [v]) H4) (hd : ∀ σ ys H, Pv n σ ys H → R ys H) :
    compR (Itr lo n) g tYes te σ0 H0 R := by
  refine ⟨fun i m σ ys H => m = n - i ∧ i ≤ n ∧ Pv i σ ys H, ⟨n, by simp, Nat.zero_le _, h0⟩, ?_⟩
  rintro i m σ ys H ⟨rfl, hi, p⟩
  have hy := hl i σ ys H hi p
  refine ⟨by omega, ?_⟩
  by_cases hlt : i < n
  · refine .inr ⟨hlt, fun σ' ys' H' => Pv (i + 1) σ' ys' H', fun σ' ys' H' p' => ⟨n - (i + 1), by omega, rfl, hlt, p'⟩, fun x H' y => ?_⟩
    obtain ⟨e, ex⟩ := y
    subst e ex
    exact hs i σ ys _ hlt p
  · have e : i = n := by omega
    subst e
    exact .inl ⟨Nat.le_refl _, hd σ ys H p⟩

/-! ### forms as data -/
def wText : List Nat := [116, 101, 120, 116]
def wGap : List Nat := [103, 97, 112]
def wIf : List Nat := [105, 102]
def wEach : List Nat := [101, 97, 99, 104]
def wUse : List Nat := [117, 115, 101]
def txtOf : Dt → Option (List Nat)
  | .tup [.str w, .str l] => if w = wText then some l else none
  | _ => none
def tn (d : Dt) : Nat := match txtOf d with | some l => l.length | none => 0
def tlen (ds : List Dt) : Nat := (ds.map tn).sum
/-- a node: T of its text, N of its name, F of the forms in it -/
def NodeD (T N : List Nat → Prop) (F : List Dt → Prop) (d : Dt) : Prop :=
  (∃ l, d = .tup [.str wText, .str l] ∧ T l) ∨ (∃ x, d = .tup [.str wGap, .str x] ∧ N x) ∨ (∃ x, d = .tup [.str wUse, .str x] ∧ N x) ∨
  (∃ x f, d = .tup [.str wEach, .str x, .tup f] ∧ N x ∧ F f) ∨ (∃ x f g, d = .tup [.str wIf, .str x, .tup f, .tup g] ∧ N x ∧ F f ∧ F g)
/-- a form whose nodes stand at most n deep -/
def FormD (T N : List Nat → Prop) : Nat → List Dt → Prop
  | 0, _ => False
  | n + 1, ds => ds.length ≤ 40 ∧ tlen ds ≤ 320 ∧ ∀ d ∈ ds, NodeD T N (FormD T N n) d
theorem tn_gap {x : List Nat} : tn (.tup [.str wGap, .str x]) = 0 := rfl
theorem tn_use {x : List Nat} : tn (.tup [.str wUse, .str x]) = 0 := rfl
theorem tlen_app (a b : List Dt) : tlen (a ++ b) = tlen a + tlen b := by unfold tlen; rw [List.map_append, List.sum_append_nat]
theorem tlen_le : ∀ (ds : List Dt) (m : Nat), (∀ d ∈ ds, tn d ≤ m) → tlen ds ≤ m * ds.length
  | [], m, _ => by simp [tlen]
  | d :: ds, m, h => by
    have h1 := h d List.mem_cons_self
    have h2 := tlen_le ds m fun e he => h e (List.mem_cons_of_mem _ he)
    unfold tlen at h2 ⊢
    rw [List.map_cons, List.sum_cons, List.length_cons, Nat.mul_succ]
    omega
theorem dts_app {K : PySem.W.Frag} {H : Hp} : ∀ {ds es : List Dt} {vs us : List V}, IsDts K H ds vs → IsDts K H es us → IsDts K H (ds ++ es) (vs ++ us)
  | [], es, vs, us, h1, h2 => by
    unfold IsDts at h1
    subst h1
    exact h2
  | d :: ds, es, vs, us, h1, h2 => by
    unfold IsDts at h1
    obtain ⟨v, r, rfl, hd, hr⟩ := h1
    exact dts_cons hd (dts_app hr h2)
theorem dts_snoc {K : PySem.W.Frag} {H : Hp} {ds : List Dt} {vs : List V} {d : Dt} {v : V} (h1 : IsDts K H ds vs) (h2 : IsDt K H d v) : IsDts K H (ds ++ [d]) (vs ++ [v]) := dts_app h1 (dts_cons h2 dts_nil)
theorem IsDts.same {K : PySem.W.Frag} {H H' : Hp} : ∀ {ds : List Dt} {vs : List V}, IsDts K H ds vs → Same H H' → IsDts K H' ds vs
  | [], vs, h, _ => by unfold IsDts at h ⊢; exact h
  | d :: ds, vs, h, s => by
    unfold IsDts at h
    obtain ⟨v, r, rfl, hd, hr⟩ := h
    exact dts_cons (hd.same s) (hr.same s)
end L2

/-! tuples: slices that may be the whole, sums that may have an empty side -/
namespace HT
open PySem PySem.Spec PyProof.Rows
section
variable {prog : Program} {w : World} {A : Around} {E : Value → Shared → Prop} {s : Shared}
theorem getItem_tuple_whole {t sl : Addr} {items : Array Value} {vl vu : Value} {lo hi : Option Int} {Q : Value → Shared → Prop} (ht : IsTup s.heap t items) (hs : s.heap.IsSliceOf sl vl vu .none) (pl : IsPart vl lo) (pu : IsPart vu hi)
    (hw : sIx items.size 0 lo = 0 ∧ sIx items.size items.size hi = items.size) (h : Q (.ref t) s) : wpAny (model prog w) A (getItem (.ref t) (.ref sl)) Q E s := by
  obtain ⟨os, hos, hcs, hds⟩ := id hs
  have hTs : s.TypeIs (.ref sl) "slice" := ⟨os, hos, hcs⟩
  unfold getItem
  try with_reducible refine wpAny_holding ?_
  first | refine wpAny_bind (wpAny_pure ?_) | skip
  refine wpAny_bind (wpAny_sequenceKey ht.typeIs (by decide) ?_)
  refine wpAny_bind (wpAny_callSpecial?_slot (name := Str.ofString "__getitem__") ht.typeIs PyProof.Rows.slot_tuple_getitem
    (wpAny_call_entry PyProof.Rows.slot_tuple_getitem ht.typeIs entry_tuple_getitem ?_ (args_tuple_getitem _ _)))
  show wpAny _ _ (Builtin.Tuple.tupleItemsOf (.ref t) >>= _) _ _ s
  refine wpAny_bind (tupleItemsOf_ ht ?_)
  refine wpAny_bind (wpAny_typeOf hTs ?_)
  rw [if_pos (by decide)]
  refine wpAny_bind (sliceApplied_gen hs pl pu ?_)
  have hyes : (((sIx items.size 0 lo : Nat) : Int) == 0 && (1 : Int) == 1 && (sIx items.size items.size hi - sIx items.size 0 lo) == items.size) = true := by
    rw [hw.1, hw.2]; simp
  show wpAny _ _ (if (((sIx items.size 0 lo : Nat) : Int) == 0 && (1 : Int) == 1 && (sIx items.size items.size hi - sIx items.size 0 lo) == items.size) = true then _ else _) _ _ s
  rw [if_pos hyes]
  unfold Builtin.Tuple.tupleIsExact
  refine wpAny_bind (wpAny_bind (wpAny_typeOf ht.typeIs (wpAny_pure ?_)))
  rw [if_pos (by decide)]
  first
    | exact wpAny_bind (wpAny_pure (wpAny_pure ⟨_, rfl, wpAny_pure h⟩))
    | exact wpAny_pure ⟨_, rfl, wpAny_pure h⟩
    | (repeat wp_step
       exact ⟨_, rfl, wpAny_pure h⟩)

end
end HT

namespace L2
open PySem PySem.Spec PyProof.Rows
section
variable {X : Cx}
/-- t[a:b]; the whole is the tuple itself -/
def rSlTA (K : PySem.W.Frag) : V → Option Int → Option Int → Hp → VK → Prop := fun x lo hi H Q => ∃ a xs, x = .ref a ∧ SqT K H a xs ∧
  ((HT.sIx xs.length 0 lo = 0 ∧ HT.sIx xs.length xs.length hi = xs.length) → Q (.ref a) H) ∧ (¬ (HT.sIx xs.length 0 lo = 0 ∧ HT.sIx xs.length xs.length hi = xs.length) → ∀ p, H p = none → Q (.ref p) (upd H p (.tup (cutV xs lo hi))))
theorem sl_tupA : SlR X (rSlTA X.K) := by
  intro pins s σ H x v vl vu lo hi sl Q I rx hs pl pu h
  obtain ⟨a, xs, rfl, hx, q1, q2⟩ := h
  by_cases hw : HT.sIx xs.length 0 lo = 0 ∧ HT.sIx xs.length xs.length hi = xs.length
  · cases rx
    obtain ⟨its, r, ht, hz⟩ := I.tuple hx
    have hlen : its.toArray.size = xs.length := by rw [List.size_toArray]; exact r.length.symm
    refine ⟨"tuple", _, PyProof.Rows.slot_tuple_getitem.lookup, ht.typeIs, ?_⟩
    exact HT.getItem_tuple_whole ht hs pl pu (by rw [hlen]; exact hw) ⟨.ref a, H, I, rfl, q1 hw⟩
  · exact sl_tup pins s σ H _ v vl vu lo hi sl Q I rx hs pl pu ⟨a, xs, rfl, hx, hw, q2 hw⟩
/-- t + u -/
def rCatA (K : PySem.W.Frag) : R2 := fun x y H Q => ∃ a b xs ys, x = .ref a ∧ y = .ref b ∧ SqT K H a xs ∧ SqT K H b ys ∧ xs.length + ys.length ≤ sizeLine ∧
  (xs = [] → Q (.ref b) H) ∧ (xs ≠ [] → ys = [] → Q (.ref a) H) ∧ (xs ≠ [] → ys ≠ [] → ∀ p, H p = none → Q (.ref p) (upd H p (.tup (xs ++ ys))))
theorem op_catA : OpR X (binaryOp .Add) (rCatA X.K) := by
  intro pins s σ H x y v u Q I rx ry h
  obtain ⟨a, b, xs, ys, rfl, rfl, ha, hb, hz, q0, q1, q2⟩ := h
  by_cases hx : xs = []
  · cases rx
    cases ry
    obtain ⟨its, r1, p1, _⟩ := I.tuple ha
    obtain ⟨its2, r2, p2, _⟩ := I.tuple hb
    obtain ⟨⟨cls, dd, data, sl⟩, ho, hc, n, hd⟩ := id p1
    obtain ⟨⟨cls2, dd2, data2, sl2⟩, ho2, hc2, n2, hd2⟩ := id p2
    simp only at hc hd hc2 hd2
    subst hc hd hc2 hd2
    have hi : its = [] := r1.nil_iff.mpr hx
    exact concat_meets ⟨_, ho, rfl⟩ ⟨_, ho2, rfl⟩ noFill_tuple_add seq_tuple_add PySem.F.slot_tuple_add PySem.F.entry_tuple_add (PySem.F.args_tuple_add_2 _ _)
      (tuple_addW0 a b its.toArray its2.toArray n n2 dd dd2 sl sl2 (by simp [hi])) ⟨ho, ho2, ⟨.ref b, H, I, rfl, q0 hx⟩⟩
  · exact op_catT pins s σ H _ _ v u Q I rx ry ⟨a, b, xs, ys, rfl, rfl, ha, hb, hx, hz, q1 hx, q2 hx⟩
end
end L2

/-! for a, b in zip(l1, l2), two lists; a def that is never called -/
namespace L2
open PySem PySem.Spec PyProof.Rows
def Itz (K : PySem.W.Frag) (a b : Addr) : It :=
  ⟨fun i H => ∃ xs ys x y, SqL K H a xs ∧ SqL K H b ys ∧ xs[i]? = some x ∧ ys[i]? = some y,
   fun i H v H' => ∃ p x y, H p = none ∧ v = .ref p ∧ H' = upd H p (.tup [x, y]) ∧ (∀ xs, SqL K H a xs → xs[i]? = some x) ∧ ∀ ys, SqL K H b ys → ys[i]? = some y,
   fun i H => ∃ xs ys, SqL K H a xs ∧ SqL K H b ys ∧ (xs.length ≤ i ∨ ys.length ≤ i)⟩
theorem turn_zip {P : Program} {w : World} {K : PySem.W.Frag} {elts : List Expr} {k0 : Nat} {pos : Pos} (z TI TO i1 i2 a b : Addr) (D : ZipApart z TI TO i1 i2 a b) :
    Turn P w K (.Tuple elts k0 pos) (Itz K a b) [z, TI, TO, i1, i2] z (fun i h => IsZip h z TI TO .none ∧ IsPair h TI (.ref i1) (.ref i2) ∧ (∃ u v, IsPair h TO u v) ∧ h.IsListIter i1 a i ∧ h.IsListIter i2 b i) where
  mem := by simp
  obj := fun i h st c hc => by
    obtain ⟨hz, hTI, ⟨u, v, hTO⟩, ⟨o1, e1, _, d1⟩, o2, e2, _, d2⟩ := st
    simp only [List.mem_cons, List.mem_nil_iff, or_false] at hc
    rcases hc with rfl | rfl | rfl | rfl | rfl
    · exact ⟨_, hz, fun v q => nomatch q⟩
    · exact ⟨_, hTI, fun v q => nomatch q⟩
    · exact ⟨_, hTO, fun v q => nomatch q⟩
    · exact ⟨o1, e1, fun v q => by rw [d1] at q; cases q⟩
    · exact ⟨o2, e2, fun v q => by rw [d2] at q; cases q⟩
  keep := fun i h h' st k => by
    obtain ⟨hz, hTI, ⟨u, v, hTO⟩, h1, h2⟩ := st
    exact ⟨k z (by simp) _ hz, k TI (by simp) _ hTI, ⟨u, v, k TO (by simp) _ hTO⟩, h1.at fun o e => k i1 (by simp) o e, h2.at fun o e => k i2 (by simp) o e⟩
  item := by
    intro X hP hw hK hc i pins s σ H E I hf st hg
    subst hP hw hK
    obtain ⟨xs, ys, x, y, ha, hb, hx, hy⟩ := hg
    obtain ⟨its1, r1, p1, _⟩ := I.list ha
    obtain ⟨its2, r2, p2, _⟩ := I.list hb
    obtain ⟨u1, hu1, ru1⟩ := r1.get hx
    obtain ⟨u2, hu2, ru2⟩ := r2.get hy
    obtain ⟨hz, hTI, ⟨u, v, hTO⟩, h1, h2⟩ := st
    refine wpAny_pyNext_zip_item D hz hTI hTO h1 h2 p1.isList p2.isList (x := u1) (y := u2) (by simpa using hu1) (by simpa using hu2) fun h' a1 a2 a3 a4 a5 a6 kk => ?_
    have lt : ∀ {c o}, s.heap.get? c = some o → s.heap.objs.size ≠ c := fun e => Nat.ne_of_gt (Heap.lt_size e)
    refine ⟨.ref s.heap.objs.size, rfl, wpAny_letOwnedTupleGo_zip a1 fun h'' hz'' hs'' => ?_⟩
    have hn : H s.heap.objs.size = none := I.hok.fresh (Nat.le_refl _)
    have keep : ∀ c o, c ∉ [z, TI, TO, i1, i2] → s.heap.get? c = some o → h''.get? c = some o := fun c o hc e => by
      simp only [List.mem_cons, List.mem_nil_iff, or_false, not_or] at hc
      exact hs''.extBut _ _ hc.1 (kk c o hc.1 hc.2.2.1 hc.2.2.2.1 hc.2.2.2.2 e)
    have hT2 : IsPair h'' s.heap.objs.size u1 u2 := hs''.extBut _ _ (lt hz) a5
    refine ⟨.ref s.heap.objs.size, upd H s.heap.objs.size (.tup [x, y]), ?_, rfl, ⟨_, x, y, hn, rfl, rfl, fun xs' hq => by rw [I.list_inj hq ha]; exact hx, fun ys' hq => by rw [I.list_inj hq hb]; exact hy⟩,
      ⟨hz'', hs''.extBut _ _ D.TIz (kk _ _ D.TIz D.TITO D.TIi1 D.TIi2 hTI), ⟨_, _, hs''.extBut _ _ D.TOz a2⟩, a3.extBut hs''.extBut D.i1z, a4.extBut hs''.extBut D.i2z⟩, fun c hc => ?_⟩
    · exact I.turnedNew (fp := [z, TI, TO, i1, i2]) hf keep (Nat.le_refl _) ⟨by show 2 ≤ sizeLine; rw [sizeLine_eq]; decide, [u1, u2], .cons ru1 (.cons ru2 .nil), ⟨_, hT2, rfl, _, rfl⟩⟩
    · have hlt : ∃ o, s.heap.get? c = some o := by
        obtain ⟨o1, e1, _⟩ := h1
        obtain ⟨o2, e2, _⟩ := h2
        simp only [List.mem_cons, List.mem_nil_iff, or_false] at hc
        rcases hc with rfl | rfl | rfl | rfl | rfl
        · exact ⟨_, hz⟩
        · exact ⟨_, hTI⟩
        · exact ⟨_, hTO⟩
        · exact ⟨_, e1⟩
        · exact ⟨_, e2⟩
      obtain ⟨o, ho⟩ := hlt
      rw [upd_ne (Ne.symm (lt ho))]
      exact (hf c hc).1
  done := by
    intro X hP hw hK hc i pins s σ H E I hf st hg
    subst hP hw hK
    obtain ⟨xs, ys, ha, hb, hl⟩ := hg
    obtain ⟨its1, r1, p1, _⟩ := I.list ha
    obtain ⟨its2, r2, p2, _⟩ := I.list hb
    obtain ⟨hz, hTI, ⟨u, v, hTO⟩, h1, h2⟩ := st
    refine wpAny_pyNext_zip_end (I.ok.hd hc) D hz hTI hTO h1 h2 p1.isList p2.isList ?_ fun h' kk => ⟨rfl, I.turnedL (t' := s.toks) (fp := [z, TI, TO, i1, i2]) hf fun c o hc e => ?_⟩
    · have l1 := r1.length
      have l2 := r2.length
      rcases hl with hl | hl
      · exact .inl (by simp; omega)
      · exact .inr (by simp; omega)
    · simp only [List.mem_cons, List.mem_nil_iff, or_false, not_or] at hc
      exact kk c o hc.1 hc.2.2.1 hc.2.2.2.1 hc.2.2.2.2 e
  self := fun _ _ _ _ _ st h => wpAny_pyIter_zip st.1 h
section
variable {X : Cx} {elts : List Expr} {k0 : Nat} {tpos pos p : Pos}
def iZip (K : PySem.W.Frag) (ta : TA) : TI := fun σ H R => ta σ H fun vs H1 => ∃ a b xs ys, vs = [.ref a, .ref b] ∧ SqL K H1 a xs ∧ SqL K H1 b ys ∧ R (Itz K a b) H1
theorem boZip : bootBuiltins "zip" = some (.type "zip") := by decide +kernel
theorem pi_zip {e1 e2 : Expr} {ta : TA} (hg : Gl X "zip") (hm : X.mg "zip" = none) (ha : PA X [e1, e2] ta) (hs : starEach [e1, e2] X.env = (false, eval e1 X.env) :: starEach [e2] X.env := by rfl) (hpl : (backTo pos (starEach [e2] X.env)).any (·.1) = false := by rfl) :
    PI X (.Tuple elts k0 tpos) (.Call (.Name "zip" p) [e1, e2] [] pos) (iZip X.K ta) := by
  intro pins s σ H R I h
  refine Call_ (ld_blt I hg hm boZip (PyProof.Rows.callWith_type1 (thn (ha pos pins s σ H _ I h) fun us s1 ⟨vs, H1, I1, r1, q1⟩ => ?_) hs hpl))
  obtain ⟨a, b, xs, ys, e, hq1, hq2, q⟩ := q1
  subst e
  obtain ⟨u1, u2, rfl, ru1, ru2⟩ := vals2 r1
  obtain rfl : u1 = Value.ref a := ru1
  obtain rfl : u2 = Value.ref b := ru2
  obtain ⟨its1, v1, p1, _⟩ := I1.list hq1
  obtain ⟨its2, v2, p2, _⟩ := I1.list hq2
  refine call_zip_2 p1.isList p2.isList fun h' hz hTI hTO h1 h2 hsz kk => ?_
  refine wpAny_pyIter_zip (s := { s1 with heap := h' }) hz ?_
  have lt1 : a < s1.heap.objs.size := by obtain ⟨o, e, _⟩ := p1.isList; exact Heap.lt_size e
  have lt2 : b < s1.heap.objs.size := by obtain ⟨o, e, _⟩ := p2.isList; exact Heap.lt_size e
  have fp : ∀ c ∈ [s1.heap.objs.size + 4, s1.heap.objs.size + 2, s1.heap.objs.size + 3, s1.heap.objs.size, s1.heap.objs.size + 1], FpOk X pins H1 c := fun c hc => by
    have : @LE.le Nat _ s1.heap.objs.size c := by
      simp only [List.mem_cons, List.mem_nil_iff, or_false] at hc
      rcases hc with rfl | rfl | rfl | rfl | rfl
      · exact Nat.le_add_right _ _
      · exact Nat.le_add_right _ _
      · exact Nat.le_add_right _ _
      · exact Nat.le_refl _
      · exact Nat.le_add_right _ _
    exact I1.fpOk this (I1.hok.fresh this)
  exact ⟨_, _, _, _, H1, rfl, I1.kept (t' := s1.toks) kk, turn_zip _ _ _ _ _ a b (zipApart_new lt1 lt2), ⟨hz, hTI, ⟨_, _, hTO⟩, h1, h2⟩, fp, q⟩
end
theorem for_zip {K : PySem.W.Frag} {a b : Addr} {xs ys : List V} {g : TG} {tb : TS} {D : Ends} {σ : St} {H : Hp} (Pv : Nat → St → Hp → Prop) (h0 : Pv 0 σ H) (hl : ∀ i σ H, i ≤ min xs.length ys.length → Pv i σ H → SqL K H a xs ∧ SqL K H b ys)
    (hs : ∀ i x y p σ H, xs[i]? = some x → ys[i]? = some y → H p = none → Pv i σ H → g (.ref p) σ (upd H p (.tup [x, y])) fun σ2 H2 => tb { D with nx := Pv (i + 1), ct := Pv (i + 1), bk := D.nx } σ2 H2) (hd : ∀ σ H, Pv (min xs.length ys.length) σ H → D.nx σ H) :
    ∃ W : Nat → Nat → St → Hp → Prop, (∃ m, W 0 m σ H) ∧ ∀ i m σ H, W i m σ H →
      ((Itz K a b).stop i H ∧ D.nx σ H) ∨ ((Itz K a b).go i H ∧ ∃ N : St → Hp → Prop, (∀ σ' H', N σ' H' → ∃ m', m' < m ∧ W (i + 1) m' σ' H') ∧ ∀ x H', (Itz K a b).yld i H x H' → g x σ H' fun σ2 H2 => tb { D with nx := N, ct := N, bk := D.nx } σ2 H2) := by
  refine ⟨fun i m σ H => m = min xs.length ys.length - i ∧ i ≤ min xs.length ys.length ∧ Pv i σ H, ⟨_, rfl, Nat.zero_le _, h0⟩, ?_⟩
  rintro i m σ H ⟨rfl, hi, p⟩
  obtain ⟨q1, q2⟩ := hl i σ H hi p
  by_cases hlt : i < min xs.length ys.length
  · have h1 : i < xs.length := by omega
    have h2 : i < ys.length := by omega
    refine .inr ⟨⟨xs, ys, xs[i], ys[i], q1, q2, by simp [h1], by simp [h2]⟩, Pv (i + 1), fun σ' H' p' => ⟨_, by omega, rfl, hlt, p'⟩, fun v H' y => ?_⟩
    obtain ⟨p', x, y', hp', ev, eH, e1, e2⟩ := y
    subst ev eH
    exact hs i x y' p' σ H (e1 xs q1) (e2 ys q2) hp' p
  · have e : i = min xs.length ys.length := by omega
    subst e
    exact .inl ⟨⟨xs, ys, q1, q2, by omega⟩, hd σ H p⟩
/-- a def that nobody calls -/
theorem At.no {P : Program} {w : World} {K : PySem.W.Frag} {mg : Str → Option Value} {base : Heap} {x : Str} {st : Stmt} {f : Addr} {fd : FuncData} {ps : List Str} {k : Nat} {sp : Sp} (A : At K mg x st ps f fd) (h : ∀ vs H Q E, ¬ sp vs H Q E) : Cal P w K mg base CX0 k x ps sp := by
  obtain ⟨oc, od, kV, doc, pm, an, cdv, ct, osl, e, l, c⟩ := A.fn.ex
  exact ⟨f, fd, oc, od, osl, ⟨fun vs H Q E q => (h vs H Q E q).elim, fun A outer s H args us vs Q E hr he hb hv hs => (h vs H Q E hs).elim⟩, A.b, A.fn.kp, A.m, l⟩
end L2

/-! FORMS joined: the mirror, and what is true of it -/
namespace L2
def jt (l : List Nat) : List Dt := if l = [] then [] else [.tup [.str wText, .str l]]
def JL (g : Dt → Dt) : List Nat → List Dt → List Dt
  | ts, [] => jt ts
  | ts, d :: r => match txtOf d with
    | some l => JL g (ts ++ l) r
    | none => jt ts ++ g d :: JL g [] r
def jS (F : List Dt → List Dt) : Dt → Dt
  | .tup ds => .tup (F ds)
  | d => d
def jN (F : List Dt → List Dt) : Dt → Dt
  | .tup (a :: b :: fs) => .tup (a :: b :: fs.map (jS F))
  | d => d
def jF : Nat → List Dt → List Dt
  | 0, ds => ds
  | n + 1, ds => JL (jN (jF n)) [] ds
def spl : List Nat → List Dt → List (List Nat) × List Dt
  | t, [] => ([t], [])
  | t, d :: r => match txtOf d with
    | some l => spl (t ++ l) r
    | none => (t :: (spl [] r).1, d :: (spl [] r).2)
def ij : Bool → List Dt → Bool
  | _, [] => true
  | b, d :: r => match txtOf d with
    | some l => if b = true ∨ l = [] then false else ij true r
    | none => ij false r
theorem JL_text {g : Dt → Dt} {ts l : List Nat} {d : Dt} {r : List Dt} (h : txtOf d = some l) : JL g ts (d :: r) = JL g (ts ++ l) r := by
  show (match txtOf d with | some l => _ | none => _) = _
  rw [h]
theorem JL_node {g : Dt → Dt} {ts : List Nat} {d : Dt} {r : List Dt} (h : txtOf d = none) : JL g ts (d :: r) = jt ts ++ g d :: JL g [] r := by
  show (match txtOf d with | some l => _ | none => _) = _
  rw [h]
theorem spl_text {t l : List Nat} {d : Dt} {r : List Dt} (h : txtOf d = some l) : spl t (d :: r) = spl (t ++ l) r := by
  show (match txtOf d with | some l => _ | none => _) = _
  rw [h]
theorem spl_node {t : List Nat} {d : Dt} {r : List Dt} (h : txtOf d = none) : spl t (d :: r) = (t :: (spl [] r).1, d :: (spl [] r).2) := by
  show (match txtOf d with | some l => _ | none => _) = _
  rw [h]
theorem ij_text {b : Bool} {l : List Nat} {d : Dt} {r : List Dt} (h : txtOf d = some l) : ij b (d :: r) = if b = true ∨ l = [] then false else ij true r := by
  show (match txtOf d with | some l => _ | none => _) = _
  rw [h]
theorem ij_node {b : Bool} {d : Dt} {r : List Dt} (h : txtOf d = none) : ij b (d :: r) = ij false r := by
  show (match txtOf d with | some l => _ | none => _) = _
  rw [h]
theorem txt_jt {l : List Nat} : txtOf (.tup [.str wText, .str l]) = some l := by show (if wText = wText then some l else none) = some l; exact if_pos rfl
theorem jt_nil : jt [] = [] := rfl
theorem jt_ne {l : List Nat} (h : l ≠ []) : jt l = [.tup [.str wText, .str l]] := if_neg h
theorem JL_jt {g : Dt → Dt} {ts us : List Nat} {r : List Dt} : JL g ts (jt us ++ r) = JL g (ts ++ us) r := by
  by_cases h : us = []
  · subst h; rw [jt_nil, List.nil_append, List.append_nil]
  · rw [jt_ne h]; exact JL_text txt_jt
theorem JL_app {g : Dt → Dt} : ∀ (a : List Dt) (ts us : List Nat) (b : List Dt), (∀ d ∈ a, txtOf d = none → txtOf (g d) = none ∧ g (g d) = g d) → JL g ts (JL g us a ++ b) = JL g (ts ++ us) (a ++ b)
  | [], ts, us, b, _ => by show JL g ts (jt us ++ b) = _; rw [JL_jt]; rfl
  | d :: a, ts, us, b, h => by
    have ih := fun ts us => JL_app a ts us b fun e he => h e (List.mem_cons_of_mem _ he)
    cases hd : txtOf d with
    | some l => rw [JL_text hd, ih, List.cons_append, JL_text hd, List.append_assoc]
    | none =>
      obtain ⟨h1, h2⟩ := h d List.mem_cons_self hd
      rw [JL_node hd, List.append_assoc, JL_jt, List.cons_append, JL_node h1, h2, ih, List.cons_append, JL_node hd, List.append_nil]
theorem JL_app2 {g : Dt → Dt} : ∀ (a : List Dt) (ts : List Nat) (b : List Dt), (∀ d ∈ b, txtOf d = none → txtOf (g d) = none ∧ g (g d) = g d) → JL g ts (a ++ JL g [] b) = JL g ts (a ++ b)
  | [], ts, b, h => by
    have := JL_app b ts [] [] h
    simpa using this
  | d :: a, ts, b, h => by
    have ih := fun ts => JL_app2 a ts b h
    cases hd : txtOf d with
    | some l => rw [List.cons_append, JL_text hd, ih, List.cons_append, JL_text hd]
    | none => rw [List.cons_append, JL_node hd, ih, List.cons_append, JL_node hd]
theorem spl_JL {g : Dt → Dt} : ∀ (a : List Dt) (t us : List Nat), (∀ d ∈ a, txtOf d = none → txtOf (g d) = none) → spl t (JL g us a) = ((spl (t ++ us) a).1, (spl (t ++ us) a).2.map g)
  | [], t, us, _ => by
    show spl t (jt us) = _
    by_cases h : us = []
    · subst h; rw [jt_nil, List.append_nil]; rfl
    · rw [jt_ne h, spl_text txt_jt]; rfl
  | d :: a, t, us, h => by
    have ih := fun t us => spl_JL a t us fun e he => h e (List.mem_cons_of_mem _ he)
    cases hd : txtOf d with
    | some l => rw [JL_text hd, ih, spl_text hd, List.append_assoc]
    | none =>
      have h1 := h d List.mem_cons_self hd
      have e : spl t (jt us ++ g d :: JL g [] a) = spl (t ++ us) (g d :: JL g [] a) := by
        by_cases hu : us = []
        · subst hu; rw [jt_nil, List.nil_append, List.append_nil]
        · rw [jt_ne hu]; exact spl_text txt_jt
      rw [JL_node hd, e, spl_node h1, ih, spl_node hd]
      simp
theorem ij_JL {g : Dt → Dt} : ∀ (a : List Dt) (us : List Nat), (∀ d ∈ a, txtOf d = none → txtOf (g d) = none) → ij false (JL g us a) = true
  | [], us, _ => by
    show ij false (jt us) = _
    by_cases h : us = []
    · subst h; rfl
    · rw [jt_ne h, ij_text txt_jt, if_neg (by simp [h])]; rfl
  | d :: a, us, h => by
    have ih := fun us => ij_JL a us fun e he => h e (List.mem_cons_of_mem _ he)
    cases hd : txtOf d with
    | some l => rw [JL_text hd]; exact ih _
    | none =>
      have h1 := h d List.mem_cons_self hd
      rw [JL_node hd]
      by_cases hu : us = []
      · subst hu
        rw [jt_nil, List.nil_append, ij_node h1]
        exact ih _
      · rw [jt_ne hu, List.cons_append, List.nil_append, ij_text txt_jt, if_neg (by simp [hu]), ij_node h1]
        exact ih _
/-! ### the nodes -/
section
variable {T N : List Nat → Prop}
theorem node_cases {F : List Dt → Prop} {d : Dt} (h : NodeD T N F d) : (∃ l, txtOf d = some l ∧ d = .tup [.str wText, .str l] ∧ T l) ∨ (txtOf d = none ∧ tn d = 0 ∧ ∃ w x fs, d = .tup (.str w :: .str x :: fs.map .tup) ∧ N x ∧ w ≠ wText ∧ (∀ f ∈ fs, F f) ∧ fs.length ≤ 2 ∧ (fs = [] ∨ w = wIf ∨ w = wEach) ∧ (w = wGap ∨ w = wUse ∨ w = wEach ∨ w = wIf)) := by
  rcases h with ⟨l, rfl, hl⟩ | ⟨x, rfl, hx⟩ | ⟨x, rfl, hx⟩ | ⟨x, f, rfl, hx, hf⟩ | ⟨x, f, g, rfl, hx, hf, hg⟩
  · exact .inl ⟨l, txt_jt, rfl, hl⟩
  · exact .inr ⟨rfl, rfl, wGap, x, [], rfl, hx, by decide, (fun f hf => nomatch hf), by simp, .inl rfl, .inl rfl⟩
  · exact .inr ⟨rfl, rfl, wUse, x, [], rfl, hx, by decide, (fun f hf => nomatch hf), by simp, .inl rfl, .inr (.inl rfl)⟩
  · exact .inr ⟨rfl, rfl, wEach, x, [f], rfl, hx, by decide, (fun f' hf' => by rw [List.mem_singleton.mp hf']; exact hf), by simp, .inr (.inr rfl), .inr (.inr (.inl rfl))⟩
  · exact .inr ⟨rfl, rfl, wIf, x, [f, g], rfl, hx, by decide, (fun f' hf' => by rcases List.mem_cons.mp hf' with rfl | h; exact hf; rw [List.mem_singleton.mp h]; exact hg), by simp, .inr (.inl rfl), .inr (.inr (.inr rfl))⟩
theorem jN_node {F : List Dt → Prop} {G : List Dt → List Dt} {d : Dt} (h : NodeD T N F d) (ht : txtOf d = none) (hG : ∀ f, F f → F (G f)) (hi : ∀ f, F f → G (G f) = G f) : NodeD T N F (jN G d) ∧ txtOf (jN G d) = none ∧ tn (jN G d) = 0 ∧ jN G (jN G d) = jN G d := by
  rcases h with ⟨l, rfl, hl⟩ | ⟨x, rfl, hx⟩ | ⟨x, rfl, hx⟩ | ⟨x, f, rfl, hx, hf⟩ | ⟨x, f, g, rfl, hx, hf, hg⟩
  · rw [txt_jt] at ht; cases ht
  · exact ⟨.inr (.inl ⟨x, rfl, hx⟩), rfl, rfl, rfl⟩
  · exact ⟨.inr (.inr (.inl ⟨x, rfl, hx⟩)), rfl, rfl, rfl⟩
  · refine ⟨.inr (.inr (.inr (.inl ⟨x, G f, rfl, hx, hG f hf⟩))), rfl, rfl, ?_⟩
    show Dt.tup [.str wEach, .str x, .tup (G (G f))] = _
    rw [hi f hf]; rfl
  · refine ⟨.inr (.inr (.inr (.inr ⟨x, G f, G g, rfl, hx, hG f hf, hG g hg⟩))), rfl, rfl, ?_⟩
    show Dt.tup [.str wIf, .str x, .tup (G (G f)), .tup (G (G g))] = _
    rw [hi f hf, hi g hg]; rfl
theorem tlen_jt (l : List Nat) : tlen (jt l) = l.length := by
  by_cases h : l = []
  · subst h; rfl
  · rw [jt_ne h]; unfold tlen tn; simp only [List.map_cons, List.map_nil, List.sum_cons, List.sum_nil, txt_jt]; omega
theorem tlen_cons (d : Dt) (r : List Dt) : tlen (d :: r) = tn d + tlen r := by unfold tlen; rw [List.map_cons, List.sum_cons]
theorem JL_keeps {F : List Dt → Prop} {g : Dt → Dt} (h0 : T []) (hT : ∀ a b, T a → T b → T (a ++ b)) : ∀ (a : List Dt) (us : List Nat), T us → (∀ d ∈ a, NodeD T N F d) → (∀ d ∈ a, txtOf d = none → NodeD T N F (g d) ∧ tn (g d) = 0) →
    (∀ d ∈ JL g us a, NodeD T N F d) ∧ (JL g us a).length ≤ a.length + (if us = [] then 0 else 1) ∧ tlen (JL g us a) = us.length + tlen a
  | [], us, hu, _, _ => by
    show (∀ d ∈ jt us, _) ∧ (jt us).length ≤ _ ∧ tlen (jt us) = _
    refine ⟨fun d hd => ?_, ?_, by rw [tlen_jt]; rfl⟩
    · by_cases h : us = []
      · rw [h, jt_nil] at hd; cases hd
      · rw [jt_ne h] at hd; rw [List.mem_singleton.mp hd]; exact .inl ⟨us, rfl, hu⟩
    · by_cases h : us = []
      · rw [h]; simp [jt_nil]
      · rw [jt_ne h, if_neg h]; simp
  | d :: a, us, hu, hn, hg => by
    have ih := fun us hu => JL_keeps h0 hT a us hu (fun e he => hn e (List.mem_cons_of_mem _ he)) fun e he => hg e (List.mem_cons_of_mem _ he)
    rcases node_cases (hn d List.mem_cons_self) with ⟨l, hd, rfl, hl⟩ | ⟨hd, ht, _⟩
    · obtain ⟨i1, i2, i3⟩ := ih (us ++ l) (hT _ _ hu hl)
      rw [JL_text hd]
      refine ⟨i1, ?_, ?_⟩
      · rw [List.length_cons]
        have : (if us ++ l = [] then 0 else 1 : Nat) ≤ 1 := by split <;> omega
        omega
      · rw [i3, tlen_cons, List.length_append]
        have : tn (.tup [.str wText, .str l]) = l.length := by unfold tn; rw [txt_jt]
        omega
    · obtain ⟨i1, i2, i3⟩ := ih [] h0
      obtain ⟨g1, g2⟩ := hg d List.mem_cons_self hd
      rw [JL_node hd]
      have j1 : (jt us).length = if us = [] then 0 else 1 := by
        by_cases h : us = []
        · rw [h]; rfl
        · rw [jt_ne h, if_neg h]; rfl
      refine ⟨fun e he => ?_, ?_, ?_⟩
      · rcases List.mem_append.mp he with h | h
        · by_cases hu' : us = []
          · rw [hu', jt_nil] at h; cases h
          · rw [jt_ne hu'] at h; rw [List.mem_singleton.mp h]; exact .inl ⟨us, rfl, hu⟩
        · rcases List.mem_cons.mp h with rfl | h
          · exact g1
          · exact i1 e h
      · rw [List.length_append, List.length_cons, List.length_cons, j1]
        rw [if_pos rfl] at i2
        omega
      · rw [tlen_app, tlen_jt, tlen_cons, i3, tlen_cons, g2, ht]
        simp
theorem jF_ok (h0 : T []) (hT : ∀ a b, T a → T b → T (a ++ b)) : ∀ (n : Nat) (f : List Dt), FormD T N n f → FormD T N n (jF n f) ∧ jF n (jF n f) = jF n f
  | 0, f, h => h.elim
  | n + 1, f, h => by
    have ih := jF_ok h0 hT n
    obtain ⟨h1, h2, h3⟩ := h
    have gd : ∀ d ∈ f, txtOf d = none → NodeD T N (FormD T N n) (jN (jF n) d) ∧ txtOf (jN (jF n) d) = none ∧ tn (jN (jF n) d) = 0 ∧ jN (jF n) (jN (jF n) d) = jN (jF n) d := fun d hd ht => jN_node (h3 d hd) ht (fun g hg => (ih g hg).1) fun g hg => (ih g hg).2
    obtain ⟨k1, k2, k3⟩ := JL_keeps (g := jN (jF n)) h0 hT f [] h0 h3 fun d hd ht => ⟨(gd d hd ht).1, (gd d hd ht).2.2.1⟩
    refine ⟨⟨?_, ?_, k1⟩, ?_⟩
    · show (JL _ [] f).length ≤ 40
      rw [if_pos rfl] at k2; omega
    · show tlen (JL _ [] f) ≤ 320
      rw [k3, List.length_nil]; omega
    · show JL _ [] (JL _ [] f) = JL _ [] f
      have := JL_app (g := jN (jF n)) f [] [] [] fun d hd ht => ⟨(gd d hd ht).2.1, (gd d hd ht).2.2.2⟩
      simpa using this
theorem jF_app (h0 : T []) (hT : ∀ a b, T a → T b → T (a ++ b)) {n : Nat} {a b : List Dt} (ha : ∀ d ∈ a, NodeD T N (FormD T N n) d) (hb : ∀ d ∈ b, NodeD T N (FormD T N n) d) : jF (n + 1) (jF (n + 1) a ++ jF (n + 1) b) = jF (n + 1) (a ++ b) := by
  have gd : ∀ d, NodeD T N (FormD T N n) d → txtOf d = none → txtOf (jN (jF n) d) = none ∧ jN (jF n) (jN (jF n) d) = jN (jF n) d := fun d hd ht => by
    have := jN_node hd ht (fun g hg => (jF_ok h0 hT n g hg).1) fun g hg => (jF_ok h0 hT n g hg).2
    exact ⟨this.2.1, this.2.2.2⟩
  show JL _ [] (JL _ [] a ++ JL _ [] b) = JL _ [] (a ++ b)
  rw [JL_app a [] [] _ fun d hd ht => gd d (ha d hd) ht, List.append_nil, JL_app2 a [] b fun d hd ht => gd d (hb d hd) ht]
end
end L2

/-! lists of data unlike; rules for a block with the text's part told apart; comprehensions over a tuple -/
namespace L2
open PySem PySem.Spec PyProof.Rows PySem.SeqAt
section
variable {X : Cx}
def rNeL (K : PySem.W.Frag) : R2 := fun x y H Q => ∃ xs ys, IsDt K H (.lst xs) x ∧ IsDt K H (.lst ys) y ∧ dps xs < 40 ∧ xs.length = ys.length ∧ Q (.bl (!eqDs xs ys)) H
theorem op_neL (hu : X.A.units + 64 < cLine) : OpR X (compareOp .NotEq) (rNeL X.K) := by
  intro pins s σ H x y v u Q I rx ry h
  obtain ⟨xs, ys, h1, h2, hd, hxy, q⟩ := h
  unfold IsDt at h1 h2
  obtain ⟨p, vs, rfl, h1, h3⟩ := h1
  obtain ⟨p', us, rfl, h2, h4⟩ := h2
  cases rx
  cases ry
  obtain ⟨its, r1, t1, _⟩ := I.list h1
  obtain ⟨its2, r2, t2, _⟩ := I.list h2
  have e1 : its.toArray.size = xs.length := by rw [List.size_toArray, ← r1.length, h3.len]
  have e2 : its2.toArray.size = ys.length := by rw [List.size_toArray, ← r2.length, h4.len]
  refine RcNeAt.lists t1.isList t2.isList (by omega) (by omega) (items_D I (n := 40) hd (by omega) h3 h4 r1 r2) _ _ _ _ ?_
  rw [← all_eqDs, ← hxy, Nat.min_self] at q
  rw [e1]
  simp only [beq_self_eq_true, Bool.and_true] at q
  exact ⟨.bl _, H, I, rfl, q⟩
theorem ix_tupK {K : PySem.W.Frag} (hK : X.K = K) : IxR X (rIxT K) := by subst hK; exact ix_tup
theorem op_in_seqK {K : PySem.W.Frag} (hK : X.K = K) : OpR X (compareOp .In) (rIn K false) := by subst hK; exact op_in_seq
end
theorem comp_tup {K : PySem.W.Frag} {a : Addr} {xs : List V} {g : TG} {tt : TT} {te : TE} {σ0 : St} {H0 : Hp} {R : List V → Hp → Prop} (Pv : Nat → St → List V → Hp → Prop) (h0 : Pv 0 σ0 [] H0) (hz : xs.length < sizeLine)
    (hl : ∀ i σ ys H, i ≤ xs.length → Pv i σ ys H → SqT K H a xs ∧ ys.length ≤ i)
    (hs : ∀ i x σ ys H, xs[i]? = some x → Pv i σ ys H → g x σ H fun σ2 H2 => tt σ2 H2 fun b H3 => if b = true then te σ2 H3 fun v H4 => Pv (i + 1) σ2 (ys ++ [v]) H4 else Pv (i + 1) σ2 ys H3) (hd : ∀ σ ys H, Pv xs.length σ ys H → R ys H) :
    compR (Itt K a) g tt te σ0 H0 R := by
  refine ⟨fun i m σ ys H => m = xs.length - i ∧ i ≤ xs.length ∧ Pv i σ ys H, ⟨xs.length, by simp, Nat.zero_le _, h0⟩, ?_⟩
  rintro i m σ ys H ⟨rfl, hi, p⟩
  obtain ⟨q, hy⟩ := hl i σ ys H hi p
  refine ⟨by omega, ?_⟩
  by_cases hlt : i < xs.length
  · refine .inr ⟨⟨xs, xs[i], q, by simp [hlt]⟩, fun σ' ys' H' => Pv (i + 1) σ' ys' H', fun σ' ys' H' p' => ⟨xs.length - (i + 1), by omega, rfl, hlt, p'⟩, fun x H' y => ?_⟩
    obtain ⟨e, y⟩ := y
    subst e
    exact hs i x σ ys _ (y xs q) p
  · have e : i = xs.length := by omega
    subst e
    exact .inl ⟨⟨xs, q, Nat.le_refl _⟩, hd σ ys H p⟩
theorem IsDts.at {K : PySem.W.Frag} {H : Hp} : ∀ {ds : List Dt} {vs : List V} {i : Nat} {d : Dt}, IsDts K H ds vs → ds[i]? = some d → ∃ v, vs[i]? = some v ∧ IsDt K H d v
  | [], _, _, _, _, e => by simp at e
  | d :: ds, vs, i, e', h, e => by
    unfold IsDts at h
    obtain ⟨v, r, rfl, hd, hr⟩ := h
    cases i with
    | zero => simp at e; subst e; exact ⟨v, by simp, hd⟩
    | succ i =>
      obtain ⟨u, h1, h2⟩ := hr.at (i := i) (by simpa using e)
      exact ⟨u, by simpa using h1, h2⟩
theorem IsDts.atV {K : PySem.W.Frag} {H : Hp} {ds : List Dt} {vs : List V} {i : Nat} {v : V} (h : IsDts K H ds vs) (e : vs[i]? = some v) : ∃ d, ds[i]? = some d ∧ IsDt K H d v := by
  have hi : i < vs.length := (List.getElem?_eq_some_iff.mp e).1
  rw [← h.len] at hi
  obtain ⟨u, h1, h2⟩ := h.at (List.getElem?_eq_getElem hi)
  rw [e] at h1
  cases h1
  exact ⟨_, List.getElem?_eq_getElem hi, h2⟩
theorem dt_tup_inv {K : PySem.W.Frag} {H : Hp} {xs : List Dt} {v : V} (h : IsDt K H (.tup xs) v) : ∃ a vs, v = .ref a ∧ SqT K H a vs ∧ IsDts K H xs vs := by unfold IsDt at h; exact h
theorem dt_str_inv {K : PySem.W.Frag} {H : Hp} {l : List Nat} {v : V} (h : IsDt K H (.str l) v) : v = .str (tx l) := by unfold IsDt at h; exact h
theorem dts_cons_inv {K : PySem.W.Frag} {H : Hp} {d : Dt} {ds : List Dt} {vs : List V} (h : IsDts K H (d :: ds) vs) : ∃ v r, vs = v :: r ∧ IsDt K H d v ∧ IsDts K H ds r := by unfold IsDts at h; exact h
theorem dts_nil_inv {K : PySem.W.Frag} {H : Hp} {vs : List V} (h : IsDts K H [] vs) : vs = [] := by unfold IsDts at h; exact h
section
variable {X : Cx}
/-- a module's whole number -/
theorem pe_gi {pos : Pos} {x : Str} {i : Int} {t : Tok} (hm : X.mg x = some (.int i t)) (hg : Gl X x) (hd : (x == ("__debug__" : Str)) = false := by decide) : PE X (.Name x pos) (tC (.int i)) := pe_glob hg hm ⟨t, rfl⟩ hd
theorem call_isTup : CallR X (.builtin "isinstance") (fun xs H Q => ∃ a vs, xs = [.ref a, .ty "tuple"] ∧ SqT X.K H a vs ∧ Q (.bl true) H) := by
  intro pins s σ H xs us Q I r h
  obtain ⟨a, vs, rfl, hS, q⟩ := h
  obtain ⟨u, w', rfl, r1, r2⟩ := vals2 r
  obtain rfl : u = Value.ref a := r1
  obtain rfl : w' = Value.type "tuple" := r2
  obtain ⟨its, _, p, _⟩ := I.tuple hS
  obtain ⟨o, h1, h2, _⟩ := p
  exact PySem.W.kia_one PySem.W.kitx_tuple I.kIn ⟨o, h1, h2⟩ (kit_tuple_tuple X.K) (fun z => nomatch z) fun tk => ⟨.bl true, H, I.tok _, rfl, q⟩
end
/-- t[:2] of a tuple that begins so -/
theorem slice2 {K : PySem.W.Frag} {H : Hp} {a : Addr} {w x : List Nat} {r : List V} {Q : VK} (hS : SqT K (TuO H) a (.str (tx w) :: .str (tx x) :: r)) (q : ∀ H' p, Same H H' → IsDt K (TuO H') (.tup [.str w, .str x]) (.ref p) → Q (.ref p) H') : rSlTA K (.ref a) none (some 2) H Q := by
  have s2 : HT.sIx (V.str (tx w) :: V.str (tx x) :: r).length (V.str (tx w) :: V.str (tx x) :: r).length (some 2) = 2 := by
    rw [show (2 : Int) = ((2 : Nat) : Int) from rfl, HT.sIx_nat]
    simp only [List.length_cons]; omega
  refine ⟨a, _, rfl, TuO_sub.tup hS, fun z => ?_, fun _ p hp => ?_⟩
  · have z2 := z.2
    rw [s2] at z2
    simp only [List.length_cons] at z2
    have e0 : r = [] := List.length_eq_zero_iff.mp (by omega)
    subst e0
    exact q H a (Same.refl _) (dt_tup hS (dts_cons dt_str (dts_cons dt_str dts_nil)))
  · have ecut : cutV (V.str (tx w) :: V.str (tx x) :: r) none (some 2) = [.str (tx w), .str (tx x)] := by
      unfold cutV
      rw [s2]
      rfl
    rw [ecut]
    exact q _ p (same_new hp _) (dt_tup (SqT.of (TuO_tup upd_same)) (dts_cons dt_str (dts_cons dt_str dts_nil)))
/-- t[2:] of a tuple that begins so -/
theorem sliceF2 {K : PySem.W.Frag} {H : Hp} {a : Addr} {u v : V} {r : List V} {Q : VK} (hS : SqT K H a (u :: v :: r)) (q : ∀ p, H p = none → Q (.ref p) (upd H p (.tup r))) : rSlTA K (.ref a) (some 2) none H Q := by
  have s2 : HT.sIx (u :: v :: r).length 0 (some 2) = 2 := by
    rw [show (2 : Int) = ((2 : Nat) : Int) from rfl, HT.sIx_nat]
    simp only [List.length_cons]; omega
  refine ⟨a, _, rfl, hS, fun z => ?_, fun _ p hp => ?_⟩
  · rw [s2] at z; exact absurd z.1 (by decide)
  · have ecut : cutV (u :: v :: r) (some 2) none = r := by
      unfold cutV
      rw [s2]
      exact List.take_of_length_le (by show r.length ≤ r.length + 2 - 2; omega)
    rw [ecut]
    exact q p hp
theorem ixN_last {n : Nat} (h : 0 < n) : ixN n (-1) = some (n - 1) := by
  unfold ixN
  rw [if_neg (by decide), if_pos (by omega)]
  congr 1
  omega
end L2

/-! OBJECTS of plain own classes: methods and makings with their promises -/
namespace L2
open PySem PySem.Spec PyProof.Rows
structure MetAt (K : PySem.W.Frag) (C : Addr) (m qual : Str) (st : Stmt) (ps : List Str) (f : Addr) (fd : FuncData) : Prop where
  me : Meth K C m f
  fn : Fun K m qual st f fd
  b : Binds K fd ps []
structure MakAt (K : PySem.W.Frag) (C : Addr) (qual : Str) (st : Stmt) (ps : List Str) (f : Addr) (fd : FuncData) : Prop where
  mak : Mk K C f
  fn : Fun K "__init__" qual st f fd
  b : Binds K fd ps []
/-- a method that keeps a promise -/
structure MCal (P : Program) (w : World) (K : PySem.W.Frag) (mg : Str → Option Value) (base : Heap) (CX : CXT) (k : Nat) (C : Addr) (m : Str) (ps : List Str) (sp : Sp) : Prop where
  ex : ∃ (f : Addr) (fd : FuncData), Meth K C m f ∧ FnOk P w K mg base CX k f fd ps sp ∧ Binds K fd ps []
/-- a making that keeps a promise -/
structure KCal (P : Program) (w : World) (K : PySem.W.Frag) (mg : Str → Option Value) (base : Heap) (CX : CXT) (k : Nat) (C : Addr) (x : Str) (ps : List Str) (sp : Sp) : Prop where
  ex : ∃ (f : Addr) (fd : FuncData) (j : Nat), j + 1 ≤ k ∧ mg x = some (.ref C) ∧ Mk K C f ∧ FnOk P w K mg base CX j f fd ps sp ∧ Binds K fd ps []
section
variable {P : Program} {w : World} {K : PySem.W.Frag} {mg : Str → Option Value} {base : Heap} {CX : CXT} {C f : Addr} {x m qual : Str} {st : Stmt} {fd : FuncData} {N ps : List Str} {j k : Nat} {sp sp' : Sp}
theorem MCal.mono (M : MCal P w K mg base CX j C m ps sp) (h : j ≤ k) : MCal P w K mg base CX k C m ps sp := by
  obtain ⟨f, fd, a, F, b⟩ := M.ex
  exact ⟨f, fd, a, F.mono h, b⟩
theorem KCal.mono (M : KCal P w K mg base CX j C x ps sp) (h : j ≤ k) : KCal P w K mg base CX k C x ps sp := by
  obtain ⟨f, fd, i, hi, r⟩ := M.ex
  exact ⟨f, fd, i, Nat.le_trans hi h, r⟩
theorem MetAt.mcal (A : MetAt K C m qual st ps f fd) (S : FnScope N ps (defScope st)) (len : ∀ vs H Q E, sp vs H Q E → vs.length = ps.length)
    (hbody : ∀ (cdv : Value) (A : Around) (outer : List Env) (s : Shared) (H : Hp) (vs : List V) (Q : VK) (E : XK), Room k (A.deeper (PyProof.Rows.envOfC qual (defScope st) s.heap.objs.size f cdv)) → sp vs H Q E →
      ∃ t, PSs (cxOf CX0 P w K mg base N qual (defScope st) f cdv A outer s H E).nox (defBody st) t ∧ t { nx := fun _ H' => Q .non H', rt := Q } (start N vs) H) : MCal P w K mg base CX0 (k + 1) C m ps sp :=
  ⟨f, fd, A.me, A.fn.ok S len hbody, A.b⟩
theorem MakAt.kcal (A : MakAt K C qual st ps f fd) (hm : mg x = some (.ref C)) (S : FnScope N ps (defScope st)) (len : ∀ vs H Q E, sp vs H Q E → vs.length = ps.length)
    (hbody : ∀ (cdv : Value) (A : Around) (outer : List Env) (s : Shared) (H : Hp) (vs : List V) (Q : VK) (E : XK), Room k (A.deeper (PyProof.Rows.envOfC qual (defScope st) s.heap.objs.size f cdv)) → sp vs H Q E →
      ∃ t, PSs (cxOf CX0 P w K mg base N qual (defScope st) f cdv A outer s H E).nox (defBody st) t ∧ t { nx := fun _ H' => Q .non H', rt := Q } (start N vs) H) : KCal P w K mg base CX0 (k + 2) C x ps sp :=
  ⟨f, fd, k + 1, Nat.le_refl _, hm, A.mak, A.fn.ok S len hbody, A.b⟩
end
section
variable {X : Cx} {k : Nat} {C : Addr} {ps : List Str} {sp : Sp} {x m : Str} {p pos apos : Pos} {e o : Expr} {es : List Expr} {ta : TE} {t : TA}
theorem pe_mth {pl : Sem Bool} (c : Cls X.K C) (M : MCal X.prog X.w X.K X.mg X.base CX0 k C m ps sp) (hr : Room k X.A) (he : PE X o ta) (ha : PA X (e :: es) t)
    (hst : starEach (e :: es) X.env = (false, eval e X.env) :: starEach es X.env := by rfl) (hpl : (backTo pos (starEach es X.env)).any (·.1) = false := by rfl)
    (ht : eval (.Call (.Attribute o m apos) (e :: es) [] pos) X.env = (do
      let ov ← eval o X.env
      standAt apos.atName
      let (f, first) ← holding [ov] (getMethod ov m pl)
      callWith pos f first (backTo pos (starEach (e :: es) X.env)) (backToKw pos (keywordEach [] X.env))) := by rfl) :
    PE X (.Call (.Attribute o m apos) (e :: es) [] pos) (tMeth C m sp [] E0 ta t) := by
  obtain ⟨f, fd, a, F, b⟩ := M.ex
  exact pe_meth he c a F hr b .nil pass0 ha hst hpl ht
theorem pe_mth0 {pl : Sem Bool} (c : Cls X.K C) (M : MCal X.prog X.w X.K X.mg X.base CX0 k C m ps sp) (hr : Room k X.A) (he : PE X o ta)
    (ht : eval (.Call (.Attribute o m apos) [] [] pos) X.env = (do
      let ov ← eval o X.env
      standAt apos.atName
      let (f, first) ← holding [ov] (getMethod ov m pl)
      callWith pos f first (backTo pos (starEach [] X.env)) (backToKw pos (keywordEach [] X.env))) := by rfl) :
    PE X (.Call (.Attribute o m apos) [] [] pos) (tMeth C m sp [] E0 ta tNil) := by
  obtain ⟨f, fd, a, F, b⟩ := M.ex
  exact pe_meth0 he c a F hr b .nil pass0 ht
theorem pe_mk0 (M : KCal X.prog X.w X.K X.mg X.base CX0 k C x ps sp) (hr : Room k X.A) (hg : Gl X x) (hdb : (x == ("__debug__" : Str)) = false := by decide) : PE X (.Call (.Name x p) [] [] pos) (tMake C sp [] E0 tNil) := by
  obtain ⟨f, fd, j, hj, m, K, F, b⟩ := M.ex
  exact pe_make0 K F (hr.mono hj) hg m b .nil pass0 hdb
end
end L2

set_option maxHeartbeats 2000000
namespace K40
open PySem L2
def top (i : Nat) : Stmt := PySem.Challenge.pw_safegaps_k40_forms_joined.main.body.getD i (.Pass ⟨0, 0, 0, 0⟩)
def lit0 : List Nat := [32, 33, 34, 35, 36, 38, 39, 40, 41, 42, 43, 44, 45, 46, 47, 48, 49, 50, 51, 52, 53, 54, 55, 56, 57, 58, 59, 60, 61, 62, 63, 64, 65, 66, 67, 68, 69, 70, 71, 72, 73, 74, 75, 76, 77, 78, 79, 80, 81, 82, 83, 84, 85, 86, 87, 88, 89, 90, 91, 92, 93, 94, 95, 96]
def lit1 : List Nat := [97, 98, 99, 100, 101, 102, 103, 104, 105, 106, 107, 108, 109, 110, 111, 112, 113, 114, 115, 116, 117, 118, 119, 120, 121, 122, 123, 124, 125, 126, 10]
def lit2 : List Nat := [123, 125, 60, 62, 38, 34, 39, 94, 126, 58, 47, 63, 61, 59, 43, 10]
def lit3 : List Nat := [97, 98, 99, 100, 102, 103, 104, 106, 107, 108, 109, 110, 111, 112, 113, 114, 115, 116, 117, 118, 119, 120, 121, 122]
abbrev st_forms_in : Stmt := top 1
abbrev st_Joining___init__ : Stmt := inClass (top 2) 0
abbrev st_Joining_put_text : Stmt := inClass (top 2) 1
abbrev st_Joining_put_node : Stmt := inClass (top 2) 2
abbrev st_Joining_so_far : Stmt := inClass (top 2) 3
abbrev st_joined_form : Stmt := top 3
abbrev st__law_cell_at : Stmt := top 5
abbrev st__law_cells : Stmt := top 6
abbrev st__law_signs : Stmt := top 7
abbrev st__law_names : Stmt := top 8
abbrev st__law_take : Stmt := top 9
abbrev st__law_node : Stmt := top 10
abbrev st__law_form : Stmt := top 11
abbrev st__law_grown : Stmt := top 12
abbrev st__law_split : Stmt := top 13
abbrev st__law_is_joined : Stmt := top 14
abbrev st__law_forms_in : Stmt := top 15
abbrev st__law_alike : Stmt := top 16
abbrev st_law : Stmt := top 17
theorem sc_forms_in : FnScope ["node"] ["node"] (defScope st_forms_in) := ⟨rfl, rfl, rfl, by decide +kernel, rfl, by decide +kernel, by decide +kernel⟩
theorem sc_Joining___init__ : FnScope ["self"] ["self"] (defScope st_Joining___init__) := ⟨rfl, rfl, rfl, by decide +kernel, rfl, by decide +kernel, by decide +kernel⟩
theorem sc_Joining_put_text : FnScope ["self", "text"] ["self", "text"] (defScope st_Joining_put_text) := ⟨rfl, rfl, rfl, by decide +kernel, rfl, by decide +kernel, by decide +kernel⟩
theorem sc_Joining_put_node : FnScope ["self", "node"] ["self", "node"] (defScope st_Joining_put_node) := ⟨rfl, rfl, rfl, by decide +kernel, rfl, by decide +kernel, by decide +kernel⟩
theorem sc_Joining_so_far : FnScope ["self", "words"] ["self"] (defScope st_Joining_so_far) := ⟨rfl, rfl, rfl, by decide +kernel, rfl, by decide +kernel, by decide +kernel⟩
theorem sc_joined_form : FnScope ["form", "joining", "node"] ["form"] (defScope st_joined_form) := ⟨rfl, rfl, rfl, by decide +kernel, rfl, by decide +kernel, by decide +kernel⟩
theorem sc__law_cell_at : FnScope ["_law_script", "_law_k"] ["_law_script", "_law_k"] (defScope st__law_cell_at) := ⟨rfl, rfl, rfl, by decide +kernel, rfl, by decide +kernel, by decide +kernel⟩
theorem sc__law_cells : FnScope ["_law_script", "_law_start", "_law_most", "_law_cells_here", "_law_number"] ["_law_script", "_law_start", "_law_most"] (defScope st__law_cells) := ⟨rfl, rfl, rfl, by decide +kernel, rfl, by decide +kernel, by decide +kernel⟩
theorem sc__law_signs : FnScope ["_law_cell", "_law_many", "_law_menu", "_law_number", "_law_rest", "_law_text", "_law_k", "_law_pick"] ["_law_cell", "_law_many"] (defScope st__law_signs) := ⟨rfl, rfl, rfl, by decide +kernel, rfl, by decide +kernel, by decide +kernel⟩
theorem sc__law_names : FnScope ["_law_cell", "_law_many", "_law_letters", "_law_word", "_law_at", "_law_names_here", "_law_k", "_law_other"] ["_law_cell", "_law_many"] (defScope st__law_names) := ⟨rfl, rfl, rfl, by decide +kernel, rfl, by decide +kernel, by decide +kernel⟩
theorem sc__law_take : FnScope ["_law_state"] ["_law_state"] (defScope st__law_take) := ⟨rfl, rfl, rfl, by decide +kernel, rfl, by decide +kernel, by decide +kernel⟩
theorem sc__law_node : FnScope ["_law_state", "_law_names_here", "_law_deep", "_law_cell", "_law_word", "_law_name", "_law_first"] ["_law_state", "_law_names_here", "_law_deep"] (defScope st__law_node) := ⟨rfl, rfl, rfl, by decide +kernel, rfl, by decide +kernel, by decide +kernel⟩
theorem sc__law_form : FnScope ["_law_state", "_law_names_here", "_law_deep", "_law_many"] ["_law_state", "_law_names_here", "_law_deep", "_law_many"] (defScope st__law_form) := ⟨rfl, rfl, rfl, by decide +kernel, rfl, by decide +kernel, by decide +kernel⟩
theorem sc__law_grown : FnScope ["_law_cells_here", "_law_names_here", "_law_state", "_law_nodes"] ["_law_cells_here", "_law_names_here"] (defScope st__law_grown) := ⟨rfl, rfl, rfl, by decide +kernel, rfl, by decide +kernel, by decide +kernel⟩
theorem sc__law_split : FnScope ["_law_form_here", "_law_texts", "_law_nodes", "_law_node_here"] ["_law_form_here"] (defScope st__law_split) := ⟨rfl, rfl, rfl, by decide +kernel, rfl, by decide +kernel, by decide +kernel⟩
theorem sc__law_is_joined : FnScope ["_law_form_here", "_law_last", "_law_node_here"] ["_law_form_here"] (defScope st__law_is_joined) := ⟨rfl, rfl, rfl, by decide +kernel, rfl, by decide +kernel, by decide +kernel⟩
theorem sc__law_forms_in : FnScope ["_law_node_here"] ["_law_node_here"] (defScope st__law_forms_in) := ⟨rfl, rfl, rfl, by decide +kernel, rfl, by decide +kernel, by decide +kernel⟩
theorem sc__law_alike : FnScope ["_law_form_here", "_law_came", "_law_texts", "_law_nodes", "_law_others", "_law_own", "_law_k", "_law_first", "_law_second"] ["_law_form_here", "_law_came"] (defScope st__law_alike) := ⟨rfl, rfl, rfl, by decide +kernel, rfl, by decide +kernel, by decide +kernel⟩
theorem sc_law : FnScope ["_law_script", "_law_names_here", "_law_form_here", "_law_came", "_law_at"] ["_law_script"] (defScope st_law) := ⟨rfl, rfl, rfl, by decide +kernel, rfl, by decide +kernel, by decide +kernel⟩
def SG : List Nat := [10, 32, 33, 34, 35, 36, 38, 39, 40, 41, 42, 43, 44, 45, 46, 47, 48, 49, 50, 51, 52, 53, 54, 55, 56, 57, 58, 59, 60, 61, 62, 63, 64, 65, 66, 67, 68, 69, 70, 71, 72, 73, 74, 75, 76, 77, 78, 79, 80, 81, 82, 83, 84, 85, 86, 87, 88, 89, 90, 91, 92, 93, 94, 95, 96, 97, 98, 99, 100, 101, 102, 103, 104, 105, 106, 107, 108, 109, 110, 111, 112, 113, 114, 115, 116, 117, 118, 119, 120, 121, 122, 123, 124, 125, 126]
def S95 : List Nat := [32, 33, 34, 35, 36, 38, 39, 40, 41, 42, 43, 44, 45, 46, 47, 48, 49, 50, 51, 52, 53, 54, 55, 56, 57, 58, 59, 60, 61, 62, 63, 64, 65, 66, 67, 68, 69, 70, 71, 72, 73, 74, 75, 76, 77, 78, 79, 80, 81, 82, 83, 84, 85, 86, 87, 88, 89, 90, 91, 92, 93, 94, 95, 96, 97, 98, 99, 100, 101, 102, 103, 104, 105, 106, 107, 108, 109, 110, 111, 112, 113, 114, 115, 116, 117, 118, 119, 120, 121, 122, 123, 124, 125, 126, 10]
def S19 : List Nat := [60, 62, 34, 38, 39, 94, 126, 58, 47, 63, 61, 59, 123, 125, 32, 10, 43, 97, 108]
def signF (c : Int) : Nat := if c % 2 = 0 then S19.getD (c / 2 % 19).toNat 0 else S95.getD (c / 2 % 95).toNat 0
theorem signF_in (c : Int) : signF c ∈ SG := by
  have a19 : ∀ i, i < 19 → S19.getD i 0 ∈ SG := by decide +kernel
  have a95 : ∀ i, i < 95 → S95.getD i 0 ∈ SG := by decide +kernel
  unfold signF
  split
  · exact a19 _ (by omega)
  · exact a95 _ (by omega)

def sp__law_sign (K : PySem.W.Frag) : Sp := fun vs H Q _ => ∃ c, vs = [.int c] ∧ Q (.str (tx [signF c])) H
def sp__law_text (K : PySem.W.Frag) : Sp := fun vs H Q _ => ∃ (a : Addr) (ns : List Int), vs = [.ref a] ∧ SqL K H a (ns.map V.int) ∧ ns.length ≤ 63 ∧ ∀ H', Same H H' → Q (.str (tx (ns.map signF))) H'
def sp__law_cell_at (K : PySem.W.Frag) : Sp := fun vs H Q _ => ∃ (a : Addr) (ns : List Int) (k : Int), vs = [.ref a, .int k] ∧ SqL K H a (ns.map V.int) ∧ 0 ≤ k ∧ Q (.int (cellF ns k)) H
/-! the grown form: any that its cells may make -/
def S16 : List Nat := [123, 125, 60, 62, 38, 34, 39, 94, 126, 58, 47, 63, 61, 59, 43, 10]
def M64 : List Nat := [32, 33, 34, 35, 36, 38, 39, 40, 41, 42, 43, 44, 45, 46, 47, 48, 49, 50, 51, 52, 53, 54, 55, 56, 57, 58, 59, 60, 61, 62, 63, 64, 65, 66, 67, 68, 69, 70, 71, 72, 73, 74, 75, 76, 77, 78, 79, 80, 81, 82, 83, 84, 85, 86, 87, 88, 89, 90, 91, 92, 93, 94, 95, 96]
def M31 : List Nat := [97, 98, 99, 100, 101, 102, 103, 104, 105, 106, 107, 108, 109, 110, 111, 112, 113, 114, 115, 116, 117, 118, 119, 120, 121, 122, 123, 124, 125, 126, 10]
def L24 : List Nat := [97, 98, 99, 100, 102, 103, 104, 106, 107, 108, 109, 110, 111, 112, 113, 114, 115, 116, 117, 118, 119, 120, 121, 122]
def SgT (l : List Nat) : Prop := ∀ c ∈ l, c ∈ SG
def NmT (x : List Nat) : Prop := 1 ≤ x.length ∧ x.length ≤ 8 ∧ ∀ c ∈ x, c ∈ L24
abbrev NdG := NodeD SgT NmT
abbrev FmG := FormD SgT NmT
theorem s16_in : ∀ i, i < 16 → S16.getD i 0 ∈ SG := by decide +kernel
theorem m95_in : ∀ i, i < 95 → (M64 ++ M31).getD i 0 ∈ SG := by decide +kernel
theorem l24_in : ∀ i, i < 24 → L24.getD i 0 ∈ L24 := by decide +kernel
def txs (ls : List (List Nat)) : List V := ls.map fun l => .str (tx l)
/-- the state that a form is grown by -/
structure Grow (H : Hp) (ps pc : Addr) (ms : List Int) (i : Nat) : Prop where
  st : H ps = some (.lst [.ref pc, .int (i : Nat)])
  cs : H pc = some (.lst (ms.map V.int))
  ne : pc ≠ ps
def sp__law_cells (K : PySem.W.Frag) : Sp := fun vs H Q _ => ∃ (a : Addr) (ns : List Int), vs = [.ref a, .int 2, .int 40] ∧ SqL K H a (ns.map V.int) ∧ ns.length ≤ 63 ∧ ∀ H' p (ms : List Int), Same H H' → H p = none → H' p = some (.lst (ms.map V.int)) → ms.length ≤ 40 → Q (.ref p) H'
def sp__law_signs (K : PySem.W.Frag) : Sp := fun vs H Q _ => ∃ (c : Int) (m : Nat), vs = [.int c, .int (m : Nat)] ∧ m ≤ 8 ∧ ∀ H' (l : List Nat), Same H H' → l.length = m → SgT l → Q (.str (tx l)) H'
def sp__law_names (K : PySem.W.Frag) : Sp := fun vs H Q _ => ∃ (c : Int), vs = [.int c, .int 4] ∧ ∀ H' p (nms : List (List Nat)), Same H H' → H p = none → H' p = some (.lst (txs nms)) → nms.length = 4 → (∀ x ∈ nms, NmT x) → Q (.ref p) H'
def sp__law_take (K : PySem.W.Frag) : Sp := fun vs H Q _ => ∃ (ps pc : Addr) (ms : List Int) (i : Nat), vs = [.ref ps] ∧ Grow H ps pc ms i ∧ ∀ v : Int, 0 ≤ v → Q (.int v) (upd H ps (.lst [.ref pc, .int ((i + 1 : Nat) : Int)]))
def sp__law_node (n : Nat) (K : PySem.W.Frag) : Sp := fun vs H Q _ => ∃ (ps pc pn : Addr) (ms : List Int) (i : Nat) (nms : List (List Nat)), n ≤ 3 ∧ vs = [.ref ps, .ref pn, .int (4 - (n : Nat))] ∧ Grow H ps pc ms i ∧ H pn = some (.lst (txs nms)) ∧ pn ≠ ps ∧ nms.length = 4 ∧ (∀ x ∈ nms, NmT x) ∧
  ∀ H' v d (j : Nat), i < j → SameB ps H H' → H' ps = some (.lst [.ref pc, .int ((j : Nat) : Int)]) → IsDt K (TuO H') d v → NdG (FmG n) d → tn d ≤ 8 → Q v H'
def sp__law_form : Nat → PySem.W.Frag → Sp
  | 0, _ => fun _ _ _ _ => False
  | n + 1, K => fun vs H Q _ => ∃ (ps pc pn : Addr) (ms : List Int) (i : Nat) (nms : List (List Nat)) (m : Nat), n ≤ 3 ∧ vs = [.ref ps, .ref pn, .int (4 - (n : Nat)), .int (m : Nat)] ∧ m ≤ 3 ∧ Grow H ps pc ms i ∧ H pn = some (.lst (txs nms)) ∧ pn ≠ ps ∧ nms.length = 4 ∧ (∀ x ∈ nms, NmT x) ∧
    ∀ H' v ds (j : Nat), i ≤ j → SameB ps H H' → H' ps = some (.lst [.ref pc, .int ((j : Nat) : Int)]) → IsDt K (TuO H') (.tup ds) v → FmG (n + 1) ds → Q v H'
def sp__law_grown (K : PySem.W.Frag) : Sp := fun vs H Q _ => ∃ (pc pn : Addr) (ms : List Int) (nms : List (List Nat)), vs = [.ref pc, .ref pn] ∧ H pc = some (.lst (ms.map V.int)) ∧ ms.length ≤ 40 ∧ H pn = some (.lst (txs nms)) ∧ nms.length = 4 ∧ (∀ x ∈ nms, NmT x) ∧
  ∀ H' v ds, Same H H' → IsDt K (TuO H') (.tup ds) v → FmG 4 ds → Q v H'
theorem Grow.next {H H' : Hp} {ps pc : Addr} {ms : List Int} {i j : Nat} (g : Grow H ps pc ms i) (s : SameB ps H H') (e : H' ps = some (.lst [.ref pc, .int ((j : Nat) : Int)])) : Grow H' ps pc ms j := ⟨e, s _ _ g.ne g.cs, g.ne⟩
theorem txs_at {ls : List (List Nat)} {i : Int} (h0 : 0 ≤ i) (h1 : i < (ls.length : Int)) : atI (txs ls) i = some (.str (tx (ls.getD i.toNat []))) := tab_at h0 h1
theorem cut40 (ns : List Int) : ∃ ms : List Int, cutV (ns.map V.int) (some 2) (some (2 + 40)) = ms.map V.int ∧ ms.length ≤ 40 := by
  refine ⟨(ns.drop 2).take 40, ?_, by rw [List.length_take]; omega⟩
  unfold cutV
  rw [List.map_take, List.map_drop, List.length_map]
  by_cases h : 2 ≤ ns.length
  · have e1 : HT.sIx ns.length 0 (some 2) = 2 := by show min (2 : Int).toNat ns.length = 2; omega
    have e2 : HT.sIx ns.length ns.length (some (2 + 40)) = min 42 ns.length := by show min ((2 : Int) + 40).toNat ns.length = _; omega
    rw [e1, e2]
    by_cases h2 : 42 ≤ ns.length
    · rw [Nat.min_eq_left h2]
    · rw [Nat.min_eq_right (by omega), List.take_of_length_le (by simp), List.take_of_length_le (by simp; omega)]
  · have e1 : HT.sIx ns.length 0 (some 2) = ns.length := by show min (2 : Int).toNat ns.length = _; omega
    rw [e1, List.drop_eq_nil_of_le (by simp), List.drop_eq_nil_of_le (by simp; omega)]
    simp
def W6 : List (List Nat) := [[116, 101, 120, 116], [116, 101, 120, 116], [103, 97, 112], [105, 102], [101, 97, 99, 104], [117, 115, 101]]
theorem one2 (a b c : Int) : ∃ pk : Int, atI [V.int a, V.int b] (c % 2) = some (.int pk) := by
  have h : c % 2 = 0 ∨ c % 2 = 1 := by omega
  rcases h with h | h
  · rw [h]; exact ⟨a, atI_nat (j := 0) rfl⟩
  · rw [h]; exact ⟨b, atI_nat (j := 1) rfl⟩
theorem ints_at {zs : List Int} {i : Int} (h0 : 0 ≤ i) (h1 : i < (zs.length : Int)) : atI (zs.map V.int) i = some (.int (zs.getD i.toNat 0)) := by
  have e : ((i.toNat : Nat) : Int) = i := by omega
  rw [← e]
  refine atI_nat ?_
  rw [List.getElem?_map, List.getD_eq_getElem?_getD, Int.toNat_natCast, List.getElem?_eq_getElem (show i.toNat < zs.length by omega)]; rfl
theorem ixN_in {n : Nat} {i : Int} (h0 : 0 ≤ i) (h1 : i < (n : Int)) : ixN n i = some i.toNat := by
  unfold ixN
  rw [if_pos h0, if_pos (by omega)]
theorem w6 : ∀ r, r < 6 → W6.getD r [] = wText ∨ W6.getD r [] = wGap ∨ W6.getD r [] = wIf ∨ W6.getD r [] = wEach ∨ W6.getD r [] = wUse := by decide +kernel
def KK : Nat := 10
theorem sgt0 : SgT [] := fun c h => nomatch h
theorem sgtA (a b : List Nat) (ha : SgT a) (hb : SgT b) : SgT (a ++ b) := fun c h => (List.mem_append.mp h).elim (ha c) (hb c)
/-- the heap behind holds all data of the one ahead -/
def sp_forms_in (K : PySem.W.Frag) : Sp := fun vs H Q _ => ∃ (a : Addr) (xs : List V), vs = [.ref a] ∧ SqT K H a xs ∧ 2 ≤ xs.length ∧ ∀ p, H p = none → Q (.ref p) (upd H p (.tup (xs.drop 2)))
/-- what an object of the class Joining has -/
def fl (pn pt : Addr) : List (Str × V) := [("nodes", .ref pn), ("texts", .ref pt)]
theorem nodes_ne : ¬ ("nodes" : Str) = "texts" := by decide +kernel
theorem texts_ne : ¬ ("texts" : Str) = "nodes" := by decide +kernel
theorem fl_mk (pn pt : Addr) : putF "texts" (.ref pt) [(("nodes" : Str), V.ref pn)] = fl pn pt := by
  show (if ("nodes" : Str) = "texts" then _ else (("nodes" : Str), V.ref pn) :: [(("texts" : Str), V.ref pt)]) = _
  rw [if_neg nodes_ne]; rfl
theorem fl_n (pn pt p : Addr) : putF "nodes" (.ref p) (fl pn pt) = fl p pt := by
  show (if ("nodes" : Str) = "nodes" then _ else _) = _
  rw [if_pos rfl]; rfl
theorem fl_t (pn pt p : Addr) : putF "texts" (.ref p) (fl pn pt) = fl pn p := by
  show (if ("nodes" : Str) = "texts" then _ else (("nodes" : Str), V.ref pn) :: (if ("texts" : Str) = "texts" then [(("texts" : Str), V.ref p)] else _)) = _
  rw [if_neg nodes_ne, if_pos rfl]; rfl
theorem fl_nodes (pn pt : Addr) : (fl pn pt).lookup ("nodes" : Str) = some (.ref pn) := by
  unfold fl
  rw [List.lookup_cons, show (("nodes" : Str) == "nodes") = true by decide +kernel]
theorem fl_texts (pn pt : Addr) : (fl pn pt).lookup ("texts" : Str) = some (.ref pt) := by
  unfold fl
  rw [List.lookup_cons, show (("texts" : Str) == "nodes") = false by decide +kernel]
  dsimp only
  rw [List.lookup_cons, show (("texts" : Str) == "texts") = true by decide +kernel]
theorem fl_no (pn pt : Addr) {m : Str} (h1 : (m == "nodes") = false) (h2 : (m == "texts") = false) : (fl pn pt).lookup m = none := by
  unfold fl
  rw [List.lookup_cons, h1]
  dsimp only
  rw [List.lookup_cons, h2]; rfl
structure JAt (C : Addr) (H : Hp) (a dx pn pt : Addr) (ns : List V) (ls : List (List Nat)) : Prop where
  ob : H a = some (.ins C dx (fl pn pt))
  nd : H pn = some (.lst ns)
  tx : H pt = some (.lst (txs ls))
  ne : pn ≠ pt
theorem JAt.same {C : Addr} {H H' : Hp} {a dx pn pt : Addr} {ns : List V} {ls : List (List Nat)} (j : JAt C H a dx pn pt ns ls) (s : Same H H') : JAt C H' a dx pn pt ns ls := ⟨s _ _ j.ob, s _ _ j.nd, s _ _ j.tx, j.ne⟩
theorem SameBi {H H' : Hp} {p C dx : Addr} {fs : List (Str × V)} (s : SameB p H H') (h : H p = some (.ins C dx fs)) : SameT H H' := fun b xs e => s b _ (ne_of e h (by intro z; cases z)) e
def sp_Joining___init__ (K : PySem.W.Frag) (C : Addr) : Sp := fun vs H Q _ => ∃ (a dx : Addr), vs = [.ref a] ∧ H a = some (.ins C dx []) ∧ ∀ H' pn pt, JAt C H' a dx pn pt [] [] → SameB a H H' → H pn = none → H pt = none → Q .non H'
def sp_Joining_put_text (K : PySem.W.Frag) (C : Addr) : Sp := fun vs H Q _ => ∃ (a dx pn pt : Addr) (ns : List V) (ls : List (List Nat)) (l : List Nat), vs = [.ref a, .str (tx l)] ∧ JAt C H a dx pn pt ns ls ∧ ls.length ≤ 1000 ∧ Q .non (upd H pt (.lst (txs (ls ++ [l]))))
def sp_Joining_so_far (K : PySem.W.Frag) (C : Addr) : Sp := fun vs H Q _ => ∃ (a dx pn pt : Addr) (ns : List V) (ls : List (List Nat)), vs = [.ref a] ∧ JAt C H a dx pn pt ns ls ∧ ns.length ≤ 1000 ∧ ls.flatten.length ≤ 1000 ∧
  ∀ H' p us, Same H H' → H p = none → H' p = some (.lst (ns ++ us)) → IsDts K (TuO H') (jt ls.flatten) us → Q (.ref p) H'
def sp_Joining_put_node (K : PySem.W.Frag) (C : Addr) : Sp := fun vs H Q _ => ∃ (a dx pn pt : Addr) (ns : List V) (ls : List (List Nat)) (v : V), vs = [.ref a, v] ∧ JAt C H a dx pn pt ns ls ∧ ns.length ≤ 1000 ∧ ls.flatten.length ≤ 1000 ∧
  ∀ H' pn' pt' us, SameB a H H' → H pn' = none → H pt' = none → JAt C H' a dx pn' pt' (ns ++ us ++ [v]) [] → IsDts K (TuO H') (jt ls.flatten) us → Q .non H'
def sp_joined_form (n : Nat) (K : PySem.W.Frag) : Sp := fun vs H Q _ => ∃ (v : V) (ds : List Dt), vs = [v] ∧ IsDt K (TuO H) (.tup ds) v ∧ FmG n ds ∧ ∀ H' u, Same H H' → IsDt K (TuO H') (.tup (jF n ds)) u → Q u H'
def sp__law_split (K : PySem.W.Frag) : Sp := fun vs H Q _ => ∃ (v : V) (n : Nat) (ds : List Dt), vs = [v] ∧ IsDt K (TuO H) (.tup ds) v ∧ FmG n ds ∧
  ∀ H' p pt pn us, Same H H' → H' p = some (.tup [.ref pt, .ref pn]) → H' pt = some (.lst (txs (spl [] ds).1)) → H' pn = some (.lst us) → IsDts K (TuO H') (spl [] ds).2 us → Q (.ref p) H'
def sp__law_is_joined (K : PySem.W.Frag) : Sp := fun vs H Q _ => ∃ (v : V) (n : Nat) (ds : List Dt), vs = [v] ∧ IsDt K (TuO H) (.tup ds) v ∧ FmG n ds ∧ ij false ds = true ∧ Q (.bl true) H
def sp__law_forms_in (K : PySem.W.Frag) : Sp := fun vs H Q _ => ∃ (a : Addr) (w x : List Nat) (r : List V), vs = [.ref a] ∧ SqT K H a (.str (tx w) :: .str (tx x) :: r) ∧ r.length ≤ 2 ∧ (r = [] ∨ w = wIf ∨ w = wEach) ∧ ∀ H' p, Same H H' → H' p = some (.lst r) → Q (.ref p) H'
def sp__law_alike (n : Nat) (K : PySem.W.Frag) : Sp := fun vs H Q _ => ∃ (u v : V) (ds : List Dt), vs = [u, v] ∧ IsDt K (TuO H) (.tup ds) u ∧ IsDt K (TuO H) (.tup (jF n ds)) v ∧ FmG n ds ∧ ∀ H', Same H H' → Q (.bl true) H'
def sp_law (K : PySem.W.Frag) : Sp := spLaw K
def Kits (_ : PySem.W.Frag) : Prop := True
/-- a tuple's data are tuples of the heap -/
theorem TuO_seq {K : PySem.W.Frag} {H : Hp} {a : Addr} {xs : List V} (h : SqT K (TuO H) a xs) : SqT K H a xs := TuO_sub.tup h
/-- a node's word and second thing -/
theorem node_head {K : PySem.W.Frag} {H : Hp} {F : List Dt → Prop} {d : Dt} {v : V} (hd : NdG F d) (h : IsDt K H d v) : ∃ a w x r, v = .ref a ∧ SqT K H a (.str (tx w) :: .str (tx x) :: r) ∧ (w = wText ↔ (txtOf d).isSome = true) ∧ (∀ l, txtOf d = some l → x = l ∧ r = []) ∧ (∃ ds, d = .tup (.str w :: .str x :: ds) ∧ IsDts K H ds r) := by
  rcases node_cases hd with ⟨l, ht, rfl, hl⟩ | ⟨ht, _, w, x, fs, rfl, _, hw, _⟩
  · obtain ⟨a, vs, rfl, h1, h2⟩ := dt_tup_inv h
    obtain ⟨v1, r1, rfl, d1, h3⟩ := dts_cons_inv h2
    obtain ⟨v2, r2, rfl, d2, h4⟩ := dts_cons_inv h3
    cases dts_nil_inv h4
    cases dt_str_inv d1
    cases dt_str_inv d2
    exact ⟨a, wText, l, [], rfl, h1, by rw [ht]; simp, fun l' e => by rw [ht] at e; cases e; exact ⟨rfl, rfl⟩, _, rfl, dts_nil⟩
  · obtain ⟨a, vs, rfl, h1, h2⟩ := dt_tup_inv h
    obtain ⟨v1, r1, rfl, d1, h3⟩ := dts_cons_inv h2
    obtain ⟨v2, r2, rfl, d2, h4⟩ := dts_cons_inv h3
    cases dt_str_inv d1
    cases dt_str_inv d2
    exact ⟨a, w, x, r2, rfl, h1, by rw [ht]; simp [hw], (fun l' e => by rw [ht] at e; cases e), _, rfl, h4⟩
theorem txs_set (t y : List Nat) : ∀ ts : List (List Nat), (txs (ts ++ [t])).set ts.length (.str (tx y)) = txs (ts ++ [y])
  | [] => rfl
  | a :: ts => by
    show V.str (tx a) :: (txs (ts ++ [t])).set ts.length (.str (tx y)) = _
    rw [txs_set t y ts]; rfl
theorem dts_txs {K : PySem.W.Frag} {H : Hp} : ∀ ls : List (List Nat), IsDts K H (ls.map Dt.str) (txs ls)
  | [] => dts_nil
  | l :: ls => dts_cons dt_str (dts_txs ls)
theorem dps_txs : ∀ ls : List (List Nat), dps (ls.map Dt.str) = 0
  | [] => rfl
  | l :: ls => by
    show max 0 (dps (ls.map Dt.str)) = 0
    rw [dps_txs ls]; rfl
theorem spl_in : ∀ (ds : List Dt) (t : List Nat), (spl t ds).2.length ≤ ds.length ∧ ∀ d ∈ (spl t ds).2, d ∈ ds ∧ txtOf d = none
  | [], t => ⟨Nat.le_refl _, fun d h => nomatch h⟩
  | d :: ds, t => by
    cases hd : txtOf d with
    | some l =>
      obtain ⟨i1, i2⟩ := spl_in ds (t ++ l)
      rw [spl_text hd]
      exact ⟨by rw [List.length_cons]; omega, fun e he => ⟨List.mem_cons_of_mem _ (i2 e he).1, (i2 e he).2⟩⟩
    | none =>
      obtain ⟨i1, i2⟩ := spl_in ds []
      rw [spl_node hd]
      refine ⟨by show (spl [] ds).2.length + 1 ≤ ds.length + 1; omega, fun e he => ?_⟩
      rcases List.mem_cons.mp he with rfl | h
      · exact ⟨List.mem_cons_self, hd⟩
      · exact ⟨List.mem_cons_of_mem _ (i2 e h).1, (i2 e h).2⟩
theorem node_dp {F : List Dt → Prop} {m : Nat} (hF : ∀ f, F f → dps f ≤ m) {d : Dt} (h : NdG F d) : dp d ≤ m + 2 := by
  rcases h with ⟨l, rfl, _⟩ | ⟨x, rfl, _⟩ | ⟨x, rfl, _⟩ | ⟨x, f, rfl, _, hf⟩ | ⟨x, f, g, rfl, _, hf, hg⟩
  · show max 0 (max 0 0) + 1 ≤ m + 2; simp
  · show max 0 (max 0 0) + 1 ≤ m + 2; simp
  · show max 0 (max 0 0) + 1 ≤ m + 2; simp
  · have := hF f hf
    show max 0 (max 0 (max (dps f + 1) 0)) + 1 ≤ m + 2
    omega
  · have := hF f hf
    have := hF g hg
    show max 0 (max 0 (max (dps f + 1) (max (dps g + 1) 0))) + 1 ≤ m + 2
    omega
theorem dps_le : ∀ (ds : List Dt) (m : Nat), (∀ d ∈ ds, dp d ≤ m) → dps ds ≤ m
  | [], m, _ => Nat.zero_le _
  | d :: ds, m, h => by
    have h1 := h d List.mem_cons_self
    have h2 := dps_le ds m fun e he => h e (List.mem_cons_of_mem _ he)
    show max (dp d) (dps ds) ≤ m
    omega
theorem form_dps : ∀ (n : Nat) (ds : List Dt), FmG n ds → dps ds ≤ 2 * n
  | 0, _, h => h.elim
  | n + 1, ds, h => dps_le ds _ fun d hd => node_dp (form_dps n) (h.2.2 d hd)
theorem jF_size {n : Nat} {f : List Dt} (h : FmG (n + 1) f) : (jF (n + 1) f).length ≤ f.length ∧ tlen (jF (n + 1) f) = tlen f ∧ ∀ d ∈ jF (n + 1) f, NdG (FmG n) d := by
  have gd : ∀ d ∈ f, txtOf d = none → NdG (FmG n) (jN (jF n) d) ∧ tn (jN (jF n) d) = 0 := fun d hd ht => by
    have := jN_node (h.2.2 d hd) ht (fun g hg => (jF_ok sgt0 sgtA n g hg).1) fun g hg => (jF_ok sgt0 sgtA n g hg).2
    exact ⟨this.1, this.2.2.1⟩
  obtain ⟨k1, k2, k3⟩ := JL_keeps (g := jN (jF n)) sgt0 sgtA f [] sgt0 h.2.2 gd
  rw [if_pos rfl] at k2
  exact ⟨k2, by show tlen (JL _ [] f) = _; rw [k3, List.length_nil]; omega, k1⟩
theorem form_cut {n : Nat} {ds : List Dt} (h : FmG (n + 1) ds) (k : Nat) : FmG (n + 1) (ds.take k) ∧ FmG (n + 1) (ds.drop k) ∧ (ds.take k).length + (ds.drop k).length = ds.length ∧ tlen (ds.take k) + tlen (ds.drop k) = tlen ds := by
  have e : tlen (ds.take k) + tlen (ds.drop k) = tlen ds := by rw [← tlen_app, List.take_append_drop]
  have e2 : (ds.take k).length + (ds.drop k).length = ds.length := by rw [← List.length_append, List.take_append_drop]
  obtain ⟨h1, h2, h3⟩ := h
  exact ⟨⟨by omega, by omega, fun d hd => h3 d (List.mem_of_mem_take hd)⟩, ⟨by omega, by omega, fun d hd => h3 d (List.mem_of_mem_drop hd)⟩, e2, e⟩
theorem dts_take {K : PySem.W.Frag} {H : Hp} : ∀ {ds : List Dt} {vs : List V} (k : Nat), IsDts K H ds vs → IsDts K H (ds.take k) (vs.take k)
  | [], vs, k, h => by cases dts_nil_inv h; simpa using h
  | d :: ds, vs, 0, h => dts_nil
  | d :: ds, vs, k + 1, h => by
    obtain ⟨v, r, rfl, h1, h2⟩ := dts_cons_inv h
    exact dts_cons h1 (dts_take k h2)
theorem dts_drop {K : PySem.W.Frag} {H : Hp} : ∀ {ds : List Dt} {vs : List V} (k : Nat), IsDts K H ds vs → IsDts K H (ds.drop k) (vs.drop k)
  | [], vs, k, h => by cases dts_nil_inv h; simpa using h
  | d :: ds, vs, 0, h => h
  | d :: ds, vs, k + 1, h => by
    obtain ⟨v, r, rfl, h1, h2⟩ := dts_cons_inv h
    exact dts_drop k h2
theorem sliceTo {K : PySem.W.Frag} {H : Hp} {a : Addr} {us : List V} {ds : List Dt} {i : Int} {Q : VK} (hS : SqT K (TuO H) a us) (hd : IsDts K (TuO H) ds us) (h0 : 0 ≤ i) (h1 : i ≤ (us.length : Int)) (q : ∀ H' p, Same H H' → IsDt K (TuO H') (.tup (ds.take i.toNat)) (.ref p) → Q (.ref p) H') : rSlTA K (.ref a) none (some i) H Q := by
  have e : HT.sIx us.length us.length (some i) = i.toNat := by
    have := HT.sIx_nat us.length us.length i.toNat
    rw [show ((i.toNat : Nat) : Int) = i by omega] at this
    rw [this]; omega
  refine ⟨a, us, rfl, TuO_sub.tup hS, fun z => ?_, fun _ p hp => ?_⟩
  · have z2 := z.2
    rw [e] at z2
    refine q H a (Same.refl _) ?_
    rw [List.take_of_length_le (by rw [hd.len]; omega)]
    exact dt_tup hS hd
  · have ec : cutV us none (some i) = us.take i.toNat := by unfold cutV; rw [e]; rfl
    rw [ec]
    exact q _ p (same_new hp _) (dt_tup (SqT.of (TuO_tup upd_same)) ((dts_take _ hd).same (same_new hp _).t.to))
theorem sliceFr {K : PySem.W.Frag} {H : Hp} {a : Addr} {us : List V} {ds : List Dt} {i : Int} {Q : VK} (hS : SqT K (TuO H) a us) (hd : IsDts K (TuO H) ds us) (h0 : 0 ≤ i) (h1 : i ≤ (us.length : Int)) (q : ∀ H' p, Same H H' → IsDt K (TuO H') (.tup (ds.drop i.toNat)) (.ref p) → Q (.ref p) H') : rSlTA K (.ref a) (some i) none H Q := by
  have e : HT.sIx us.length 0 (some i) = i.toNat := by
    have := HT.sIx_nat us.length 0 i.toNat
    rw [show ((i.toNat : Nat) : Int) = i by omega] at this
    rw [this]; omega
  refine ⟨a, us, rfl, TuO_sub.tup hS, fun z => ?_, fun _ p hp => ?_⟩
  · have z1 := z.1
    rw [e] at z1
    refine q H a (Same.refl _) ?_
    rw [z1]
    exact dt_tup hS hd
  · have ec : cutV us (some i) none = us.drop i.toNat := by
      unfold cutV
      rw [e]
      exact List.take_of_length_le (by rw [List.length_drop]; show us.length - i.toNat ≤ us.length - i.toNat; omega)
    rw [ec]
    exact q _ p (same_new hp _) (dt_tup (SqT.of (TuO_tup upd_same)) ((dts_drop _ hd).same (same_new hp _).t.to))
theorem catA {K : PySem.W.Frag} {H : Hp} {x y : V} {A B : List Dt} {Q : VK} (hx : IsDt K (TuO H) (.tup A) x) (hy : IsDt K (TuO H) (.tup B) y) (hl : A.length + B.length ≤ 1000) (q : ∀ H' p, Same H H' → IsDt K (TuO H') (.tup (A ++ B)) (.ref p) → Q (.ref p) H') : rCatA K x y H Q := by
  obtain ⟨a, us, rfl, hS, hd⟩ := dt_tup_inv hx
  obtain ⟨b, vs, rfl, hS2, hd2⟩ := dt_tup_inv hy
  have l1 := hd.len
  have l2 := hd2.len
  refine ⟨a, b, us, vs, rfl, rfl, TuO_sub.tup hS, TuO_sub.tup hS2, smallE (by omega), fun e => ?_, fun _ e => ?_, fun _ _ p hp => ?_⟩
  · refine q H b (Same.refl _) ?_
    have : A = [] := List.length_eq_zero_iff.mp (by rw [l1, e]; rfl)
    rw [this]
    exact hy
  · refine q H a (Same.refl _) ?_
    have : B = [] := List.length_eq_zero_iff.mp (by rw [l2, e]; rfl)
    rw [this, List.append_nil]
    exact hx
  · exact q _ p (same_new hp _) (dt_tup (SqT.of (TuO_tup upd_same)) (dts_app (hd.same (same_new hp _).t.to) (hd2.same (same_new hp _).t.to)))
theorem form_nil (n : Nat) : FmG (n + 1) [] := ⟨by simp, by decide, fun d h => nomatch h⟩
theorem form_txt (n : Nat) : FmG (n + 1) [.tup [.str wText, .str []]] := ⟨by simp, by decide, fun d h => by rw [List.mem_singleton.mp h]; exact .inl ⟨[], rfl, sgt0⟩⟩
/-- the module's facts -/
structure Txt (w : World) (K : PySem.W.Frag) (mg : Str → Option Value) : Prop where
  d_forms_in : ∃ f fd, At K mg "forms_in" st_forms_in ["node"] f fd
  d_joined_form : ∃ f fd, At K mg "joined_form" st_joined_form ["form"] f fd
  d__law_cell_at : ∃ f fd, At K mg "_law_cell_at" st__law_cell_at ["_law_script", "_law_k"] f fd
  d__law_cells : ∃ f fd, At K mg "_law_cells" st__law_cells ["_law_script", "_law_start", "_law_most"] f fd
  d__law_signs : ∃ f fd, At K mg "_law_signs" st__law_signs ["_law_cell", "_law_many"] f fd
  d__law_names : ∃ f fd, At K mg "_law_names" st__law_names ["_law_cell", "_law_many"] f fd
  d__law_take : ∃ f fd, At K mg "_law_take" st__law_take ["_law_state"] f fd
  d__law_node : ∃ f fd, At K mg "_law_node" st__law_node ["_law_state", "_law_names_here", "_law_deep"] f fd
  d__law_form : ∃ f fd, At K mg "_law_form" st__law_form ["_law_state", "_law_names_here", "_law_deep", "_law_many"] f fd
  d__law_grown : ∃ f fd, At K mg "_law_grown" st__law_grown ["_law_cells_here", "_law_names_here"] f fd
  d__law_split : ∃ f fd, At K mg "_law_split" st__law_split ["_law_form_here"] f fd
  d__law_is_joined : ∃ f fd, At K mg "_law_is_joined" st__law_is_joined ["_law_form_here"] f fd
  d__law_forms_in : ∃ f fd, At K mg "_law_forms_in" st__law_forms_in ["_law_node_here"] f fd
  d__law_alike : ∃ f fd, At K mg "_law_alike" st__law_alike ["_law_form_here", "_law_came"] f fd
  d_law : ∃ f fd, At K mg "law" st_law ["_law_script"] f fd
  m_isinstance : mg "isinstance" = none
  m_len : mg "len" = none
  m_list : mg "list" = none
  m_range : mg "range" = none
  m_tuple : mg "tuple" = none
  m_zip : mg "zip" = none
structure Txt_Joining (K : PySem.W.Frag) (mg : Str → Option Value) (C : Addr) : Prop where
  cl : Cls K C
  m : mg "Joining" = some (.ref C)
  n_nodes : NoAttr K C "nodes"
  n_texts : NoAttr K C "texts"
  d___init__ : ∃ f fd, MakAt K C "Joining.__init__" st_Joining___init__ ["self"] f fd
  d_put_text : ∃ f fd, MetAt K C "put_text" "Joining.put_text" st_Joining_put_text ["self", "text"] f fd
  d_put_node : ∃ f fd, MetAt K C "put_node" "Joining.put_node" st_Joining_put_node ["self", "node"] f fd
  d_so_far : ∃ f fd, MetAt K C "so_far" "Joining.so_far" st_Joining_so_far ["self"] f fd
section
variable {P : Program} {w : World} {K : PySem.W.Frag} {mg : Str → Option Value} {base : Heap}
theorem ok_forms_in (T : Txt w K mg) {k : Nat}   : Cal P w K mg base CX0 (k + 1) "forms_in" ["node"] (sp_forms_in K) := by
  refine T.d_forms_in.elim fun fa e => e.elim fun fd At => At.cal sc_forms_in (fun vs H Q E h => ?_) (fun cdv A outer s H vs Q E hr h => ?_)
  · (first | (obtain ⟨_, rfl, _⟩ := h; rfl) | (obtain ⟨_, _, rfl, _⟩ := h; rfl) | (obtain ⟨_, _, _, rfl, _⟩ := h; rfl) | (obtain ⟨_, _, _, _, rfl, _⟩ := h; rfl) | (obtain ⟨_, _, _, _, _, rfl, _⟩ := h; rfl) | (obtain ⟨_, _, _, _, _, _, rfl, _⟩ := h; rfl) | (obtain ⟨_, _, _, _, _, _, _, rfl, _⟩ := h; rfl) | (obtain ⟨_, _, _, _, _, _, _, _, rfl, _⟩ := h; rfl) | (obtain ⟨_, _, _, _, _, _, _, _, _, rfl, _⟩ := h; rfl) | (obtain ⟨rfl, _⟩ := h; rfl) | exact h.elim)
  refine ⟨_, (@pss_one _ _ _ (@ps_ret _ _ _ _ (pe_slice sl_tupA (pv 0) (po_some pe_int) po_none))), ?_⟩
  obtain ⟨a, xs, rfl, hx, h2, q⟩ := h
  have e2 : HT.sIx xs.length 0 (some 2) = 2 := by show min (2 : Int).toNat xs.length = 2; omega
  refine ⟨_, rfl, _, rfl, a, xs, rfl, hx, fun z => ?_, fun _ p hp => ?_⟩
  · rw [e2] at z; exact absurd z.1 (by decide)
  · have e : cutV xs (some 2) none = xs.drop 2 := by
      unfold cutV
      rw [e2]
      exact List.take_of_length_le (by rw [List.length_drop]; show xs.length - 2 ≤ xs.length - 2; omega)
    rw [e]
    exact q p hp
theorem ok_Joining___init__ (T : Txt w K mg) {k : Nat} {C_Joining : Addr} (J_Joining : Txt_Joining K mg C_Joining)  : KCal P w K mg base CX0 (k + 2) C_Joining "Joining" ["self"] (sp_Joining___init__ K C_Joining) := by
  refine J_Joining.d___init__.elim fun fa e => e.elim fun fd At => At.kcal J_Joining.m sc_Joining___init__ (fun vs H Q E h => ?_) (fun cdv A outer s H vs Q E hr h => ?_)
  · (first | (obtain ⟨_, rfl, _⟩ := h; rfl) | (obtain ⟨_, _, rfl, _⟩ := h; rfl) | (obtain ⟨_, _, _, rfl, _⟩ := h; rfl) | (obtain ⟨_, _, _, _, rfl, _⟩ := h; rfl) | (obtain ⟨_, _, _, _, _, rfl, _⟩ := h; rfl) | (obtain ⟨_, _, _, _, _, _, rfl, _⟩ := h; rfl) | (obtain ⟨_, _, _, _, _, _, _, rfl, _⟩ := h; rfl) | (obtain ⟨_, _, _, _, _, _, _, _, rfl, _⟩ := h; rfl) | (obtain ⟨_, _, _, _, _, _, _, _, _, rfl, _⟩ := h; rfl) | (obtain ⟨rfl, _⟩ := h; rfl) | exact h.elim)
  refine ⟨_, (@pss_cons _ _ _ _ _ (ps_fld (pv 0) (@pe_lst _ _ _ _ pa_nil) rfl)
    (@pss_one _ _ _ (ps_fld (pv 0) (@pe_lst _ _ _ _ pa_nil) rfl))), ?_⟩
  obtain ⟨a, dx, rfl, ha, q⟩ := h
  refine ⟨by show 0 ≤ sizeLine; decide, fun pn hpn => ?_⟩
  have na : a ≠ pn := ne_of_none ha hpn
  refine ⟨_, rfl, a, _, dx, [], rfl, by rw [upd_ne na]; exact ha, J_Joining.cl, J_Joining.n_nodes, by decide, ?_⟩
  refine ⟨by show 0 ≤ sizeLine; decide, fun pt hpt => ?_⟩
  have e1 : upd (upd H pn (.lst [])) a (.ins C_Joining dx (putF "nodes" (.ref pn) [])) a = some (.ins C_Joining dx [("nodes", .ref pn)]) := upd_same
  have e2 : upd (upd H pn (.lst [])) a (.ins C_Joining dx (putF "nodes" (.ref pn) [])) pn = some (.lst []) := by rw [upd_ne (Ne.symm na), upd_same]
  have sB : SameB a H (upd (upd H pn (.lst [])) a (.ins C_Joining dx (putF "nodes" (.ref pn) []))) := fun b o nb hb => by rw [upd_ne nb, upd_ne (ne_of_none hb hpn)]; exact hb
  generalize upd (upd H pn (.lst [])) a (.ins C_Joining dx (putF "nodes" (.ref pn) [])) = H2 at e1 e2 sB hpt
  have nt : a ≠ pt := ne_of_none e1 hpt
  have nn : pn ≠ pt := ne_of_none e2 hpt
  refine ⟨_, rfl, a, _, dx, _, rfl, by rw [upd_ne nt]; exact e1, J_Joining.cl, J_Joining.n_texts, by show 1 < 1000; decide, ?_⟩
  rw [fl_mk]
  refine q _ pn pt ⟨upd_same, by rw [upd_ne (Ne.symm na), upd_ne nn]; exact e2, by rw [upd_ne (Ne.symm nt), upd_same]; rfl, nn⟩ (fun b o nb hb => ?_) hpn ?_
  · rw [upd_ne nb, upd_ne (ne_of_none (sB b o nb hb) hpt)]; exact sB b o nb hb
  · cases hh : H pt with
    | none => rfl
    | some o => exact absurd (sB pt o (Ne.symm nt) hh) (by rw [hpt]; intro z; cases z)
theorem ok_Joining_put_text (T : Txt w K mg) {k : Nat} {C_Joining : Addr} (J_Joining : Txt_Joining K mg C_Joining)  : MCal P w K mg base CX0 (k + 1) C_Joining "put_text" ["self", "text"] (sp_Joining_put_text K C_Joining) := by
  refine J_Joining.d_put_text.elim fun fa e => e.elim fun fd At => At.mcal sc_Joining_put_text (fun vs H Q E h => ?_) (fun cdv A outer s H vs Q E hr h => ?_)
  · (first | (obtain ⟨_, rfl, _⟩ := h; rfl) | (obtain ⟨_, _, rfl, _⟩ := h; rfl) | (obtain ⟨_, _, _, rfl, _⟩ := h; rfl) | (obtain ⟨_, _, _, _, rfl, _⟩ := h; rfl) | (obtain ⟨_, _, _, _, _, rfl, _⟩ := h; rfl) | (obtain ⟨_, _, _, _, _, _, rfl, _⟩ := h; rfl) | (obtain ⟨_, _, _, _, _, _, _, rfl, _⟩ := h; rfl) | (obtain ⟨_, _, _, _, _, _, _, _, rfl, _⟩ := h; rfl) | (obtain ⟨_, _, _, _, _, _, _, _, _, rfl, _⟩ := h; rfl) | (obtain ⟨rfl, _⟩ := h; rfl) | exact h.elim)
  refine ⟨_, (@pss_one _ _ _ (ps_expr (pe_bm PySem.F.plainAttrs_list PySem.F.slot_list_append PySem.F.type_list_append mt_append (pe_fld (pv 0) rfl) (@pa_cons _ _ _ _ _ (pv 1) pa_nil rfl)))), ?_⟩
  obtain ⟨a, dx, pn, pt, ns, ls, l, rfl, J, hl, q⟩ := h
  refine ⟨_, rfl, a, _, dx, _, _, rfl, J.ob, J_Joining.cl, J_Joining.n_texts, fl_texts _ _, .inl ⟨rfl, _, SqL.of J.tx⟩, _, rfl, pt, _, _, rfl, rfl, J.tx, small (by unfold txs; rw [List.length_map]; omega), ?_⟩
  have e : txs ls ++ [.str (tx l)] = txs (ls ++ [l]) := by unfold txs; rw [List.map_append]; rfl
  rw [e]
  exact q
theorem ok_Joining_put_node (T : Txt w K mg) {k : Nat} {C_Joining : Addr} (J_Joining : Txt_Joining K mg C_Joining) (G_Joining_so_far : MCal P w K mg base CX0 k C_Joining "so_far" ["self"] (sp_Joining_so_far K C_Joining)) : MCal P w K mg base CX0 (k + 1) C_Joining "put_node" ["self", "node"] (sp_Joining_put_node K C_Joining) := by
  refine J_Joining.d_put_node.elim fun fa e => e.elim fun fd At => At.mcal sc_Joining_put_node (fun vs H Q E h => ?_) (fun cdv A outer s H vs Q E hr h => ?_)
  · (first | (obtain ⟨_, rfl, _⟩ := h; rfl) | (obtain ⟨_, _, rfl, _⟩ := h; rfl) | (obtain ⟨_, _, _, rfl, _⟩ := h; rfl) | (obtain ⟨_, _, _, _, rfl, _⟩ := h; rfl) | (obtain ⟨_, _, _, _, _, rfl, _⟩ := h; rfl) | (obtain ⟨_, _, _, _, _, _, rfl, _⟩ := h; rfl) | (obtain ⟨_, _, _, _, _, _, _, rfl, _⟩ := h; rfl) | (obtain ⟨_, _, _, _, _, _, _, _, rfl, _⟩ := h; rfl) | (obtain ⟨_, _, _, _, _, _, _, _, _, rfl, _⟩ := h; rfl) | (obtain ⟨rfl, _⟩ := h; rfl) | exact h.elim)
  refine ⟨_, (@pss_cons _ _ _ _ _ (ps_fld (pv 0) (pe_mth0 J_Joining.cl G_Joining_so_far hr (pv 0)) rfl)
    (@pss_cons _ _ _ _ _ (ps_expr (pe_bm PySem.F.plainAttrs_list PySem.F.slot_list_append PySem.F.type_list_append mt_append (pe_fld (pv 0) rfl) (@pa_cons _ _ _ _ _ (pv 1) pa_nil rfl)))
    (@pss_one _ _ _ (ps_fld (pv 0) (@pe_lst _ _ _ _ pa_nil) rfl)))), ?_⟩
  obtain ⟨a, dx, pn, pt, ns, ls, v, rfl, J, hn, hl, q⟩ := h
  refine ⟨_, rfl, a, dx, _, rfl, J.ob, fl_no _ _ (by decide +kernel) (by decide +kernel), a, dx, pn, pt, ns, ls, rfl, J, hn, hl, fun H1 p1 us s1 hp1 hp1' hus => ?_⟩
  have J1 := J.same s1
  refine ⟨_, rfl, a, _, dx, _, rfl, J1.ob, J_Joining.cl, J_Joining.n_nodes, by show 2 < 1000; decide, ?_⟩
  rw [fl_n]
  have n1 : a ≠ p1 := ne_of_none J.ob hp1
  have e2 : upd H1 a (.ins C_Joining dx (fl p1 pt)) a = some (.ins C_Joining dx (fl p1 pt)) := upd_same
  have e2p : upd H1 a (.ins C_Joining dx (fl p1 pt)) p1 = some (.lst (ns ++ us)) := by rw [upd_ne (Ne.symm n1)]; exact hp1'
  have sB : SameB a H (upd H1 a (.ins C_Joining dx (fl p1 pt))) := fun b o nb hb => by rw [upd_ne nb]; exact s1 b o hb
  have sT2 : SameT H1 (upd H1 a (.ins C_Joining dx (fl p1 pt))) := SameBi SameB.upd J1.ob
  have hus2 := hus.same sT2.to
  generalize upd H1 a (.ins C_Joining dx (fl p1 pt)) = H2 at e2 e2p sB sT2 hus2
  have hlu : us.length ≤ 1 := by
    rw [← hus.len]; unfold jt; split <;> simp
  refine ⟨_, rfl, a, _, dx, _, _, rfl, e2, J_Joining.cl, J_Joining.n_nodes, fl_nodes _ _, .inl ⟨rfl, _, SqL.of e2p⟩, _, rfl, p1, _, _, rfl, rfl, e2p, small (by rw [List.length_append]; omega), ?_⟩
  have e3 : upd H2 p1 (.lst (ns ++ us ++ [v])) a = some (.ins C_Joining dx (fl p1 pt)) := by rw [upd_ne n1]; exact e2
  have e3p : upd H2 p1 (.lst (ns ++ us ++ [v])) p1 = some (.lst (ns ++ us ++ [v])) := upd_same
  have sB3 : SameB a H (upd H2 p1 (.lst (ns ++ us ++ [v]))) := fun b o nb hb => by rw [upd_ne (ne_of_none hb hp1)]; exact sB b o nb hb
  have hus3 := hus2.same (SameT.put e2p (o := .lst (ns ++ us ++ [v]))).to
  generalize upd H2 p1 (.lst (ns ++ us ++ [v])) = H3 at e3 e3p sB3 hus3
  refine ⟨by show 0 ≤ sizeLine; decide, fun p4 hp4 => ?_⟩
  have s4 := same_new hp4 (.lst [])
  have n4 : a ≠ p4 := ne_of_none e3 hp4
  have n14 : p1 ≠ p4 := ne_of_none e3p hp4
  refine ⟨_, rfl, a, _, dx, _, rfl, s4 _ _ e3, J_Joining.cl, J_Joining.n_texts, by show 2 < 1000; decide, ?_⟩
  rw [fl_t]
  refine q _ p1 p4 us (fun b o nb hb => ?_) hp1 ?_ ⟨upd_same, by rw [upd_ne (Ne.symm n1)]; exact s4 _ _ e3p, by rw [upd_ne (Ne.symm n4), upd_same]; rfl, n14⟩ ?_
  · rw [upd_ne nb]; exact s4 _ _ (sB3 b o nb hb)
  · cases hh : H p4 with
    | none => rfl
    | some o => exact absurd (sB3 p4 o (Ne.symm n4) hh) (by rw [hp4]; intro z; cases z)
  · exact (hus3.same s4.t.to).same (SameBi SameB.upd (s4 _ _ e3)).to
theorem ok_Joining_so_far (T : Txt w K mg) {k : Nat} {C_Joining : Addr} (J_Joining : Txt_Joining K mg C_Joining)  : MCal P w K mg base CX0 (k + 1) C_Joining "so_far" ["self"] (sp_Joining_so_far K C_Joining) := by
  refine J_Joining.d_so_far.elim fun fa e => e.elim fun fd At => At.mcal sc_Joining_so_far (fun vs H Q E h => ?_) (fun cdv A outer s H vs Q E hr h => ?_)
  · (first | (obtain ⟨_, rfl, _⟩ := h; rfl) | (obtain ⟨_, _, rfl, _⟩ := h; rfl) | (obtain ⟨_, _, _, rfl, _⟩ := h; rfl) | (obtain ⟨_, _, _, _, rfl, _⟩ := h; rfl) | (obtain ⟨_, _, _, _, _, rfl, _⟩ := h; rfl) | (obtain ⟨_, _, _, _, _, _, rfl, _⟩ := h; rfl) | (obtain ⟨_, _, _, _, _, _, _, rfl, _⟩ := h; rfl) | (obtain ⟨_, _, _, _, _, _, _, _, rfl, _⟩ := h; rfl) | (obtain ⟨_, _, _, _, _, _, _, _, _, rfl, _⟩ := h; rfl) | (obtain ⟨rfl, _⟩ := h; rfl) | exact h.elim)
  refine ⟨_, (@pss_cons _ _ _ _ _ (@ps_set _ _ 1 _ _ _ _ sc_Joining_so_far.nd rfl (Or.inl rfl) (pe_bm PySem.F.plainAttrs_str PySem.F.slot_str_join PySem.F.type_str_join mt_join (@pe_tx _ _ [] _ _ rfl) (@pa_cons _ _ _ _ _ (pe_fld (pv 0) rfl) pa_nil rfl)) rfl (Or.inl rfl))
    (@pss_one _ _ _ (@ps_ret _ _ _ _ (@pe_op _ _ _ _ _ _ _ _ op_cat (pe_fld (pv 0) rfl) (pe_ifExp (pt_cmpR op_eq (pv 1) (@pe_tx _ _ [] _ _ rfl) (nomark _)) (@pe_lst _ _ _ _ pa_nil) (@pe_lst _ _ _ _ (@pa_cons _ _ _ _ _ (@pe_tup _ _ _ _ _ (@pa_cons _ _ _ _ _ (@pe_tx _ _ [116, 101, 120, 116] _ _ (by decide +kernel)) (@pa_cons _ _ _ _ _ (pv 1) pa_nil star_n) star_c)) pa_nil rfl))))))), ?_⟩
  obtain ⟨a, dx, pn, pt, ns, ls, rfl, J, hn, hl, q⟩ := h
  refine ⟨rfl, _, rfl, a, _, dx, _, _, rfl, J.ob, J_Joining.cl, J_Joining.n_texts, fl_texts _ _, pt, ls, rfl, rfl, SqL.of J.tx, by omega, ?_⟩
  refine ⟨_, rfl, a, _, dx, _, _, rfl, J.ob, J_Joining.cl, J_Joining.n_nodes, fl_nodes _ _, ?_⟩
  refine ⟨_, rfl, rfl, _, rfl, ?_⟩
  by_cases e : ls.flatten = []
  · rw [decide_eq_true (show V.str (tx ls.flatten) = V.str (tx []) by rw [e])]
    refine iteT ⟨by show 0 ≤ sizeLine; decide, fun p hp => ?_⟩
    have s1 := same_new hp (.lst [])
    refine ⟨pn, p, ns, [], rfl, rfl, s1 _ _ J.nd, upd_same, smallE (by rw [List.length_nil]; omega), fun p2 hp2 => ?_⟩
    have s2 := same_new hp2 (.lst (ns ++ []))
    refine q _ p2 [] (s1.trans s2) (s1.free hp2) upd_same ?_
    rw [e]; exact dts_nil
  · rw [decide_eq_false (show ¬ V.str (tx ls.flatten) = V.str (tx []) from fun z => e (V.str_inj.mp z))]
    refine iteF ⟨_, rfl, by show 2 ≤ sizeLine; decide, fun p hp => ⟨by show 1 ≤ sizeLine; decide, fun p2 hp2 => ?_⟩⟩
    have s1 := same_new hp (.tup [.str (tx [116, 101, 120, 116]), .str (tx ls.flatten)])
    have s2 := same_new hp2 (.lst [.ref p])
    refine ⟨pn, p2, ns, [.ref p], rfl, rfl, s2 _ _ (s1 _ _ J.nd), upd_same, smallE (by rw [List.length_singleton]; omega), fun p3 hp3 => ?_⟩
    have s3 := same_new hp3 (.lst (ns ++ [.ref p]))
    refine q _ p3 [.ref p] (s1.trans (s2.trans s3)) ((s1.trans s2).free hp3) upd_same ?_
    rw [jt_ne e]
    exact dts_cons (dt_tup (SqT.of (TuO_tup (s3 _ _ (s2 _ _ upd_same)))) (dts_cons dt_str (dts_cons dt_str dts_nil))) dts_nil
theorem ok_joined_form (T : Txt w K mg) {k : Nat} {n : Nat} {C_Joining : Addr} (J_Joining : Txt_Joining K mg C_Joining) (G_forms_in : Cal P w K mg base CX0 k "forms_in" ["node"] (sp_forms_in K)) (G_Joining___init__ : KCal P w K mg base CX0 k C_Joining "Joining" ["self"] (sp_Joining___init__ K C_Joining)) (G_Joining_put_text : MCal P w K mg base CX0 k C_Joining "put_text" ["self", "text"] (sp_Joining_put_text K C_Joining)) (G_Joining_put_node : MCal P w K mg base CX0 k C_Joining "put_node" ["self", "node"] (sp_Joining_put_node K C_Joining)) (G_Joining_so_far : MCal P w K mg base CX0 k C_Joining "so_far" ["self"] (sp_Joining_so_far K C_Joining)) (G_joined_form : Cal P w K mg base CX0 k "joined_form" ["form"] (sp_joined_form n K)) : Cal P w K mg base CX0 (k + 1) "joined_form" ["form"] (sp_joined_form (n + 1) K) := by
  refine T.d_joined_form.elim fun fa e => e.elim fun fd At => At.cal sc_joined_form (fun vs H Q E h => ?_) (fun cdv A outer s H vs Q E hr h => ?_)
  · (first | (obtain ⟨_, rfl, _⟩ := h; rfl) | (obtain ⟨_, _, rfl, _⟩ := h; rfl) | (obtain ⟨_, _, _, rfl, _⟩ := h; rfl) | (obtain ⟨_, _, _, _, rfl, _⟩ := h; rfl) | (obtain ⟨_, _, _, _, _, rfl, _⟩ := h; rfl) | (obtain ⟨_, _, _, _, _, _, rfl, _⟩ := h; rfl) | (obtain ⟨_, _, _, _, _, _, _, rfl, _⟩ := h; rfl) | (obtain ⟨_, _, _, _, _, _, _, _, rfl, _⟩ := h; rfl) | (obtain ⟨_, _, _, _, _, _, _, _, _, rfl, _⟩ := h; rfl) | (obtain ⟨rfl, _⟩ := h; rfl) | exact h.elim)
  have m_tuple := T.m_tuple
  refine ⟨_, (@pss_cons _ _ _ _ _ (@ps_set _ _ 1 _ _ _ _ sc_joined_form.nd rfl (Or.inl rfl) (pe_mk0 G_Joining___init__ hr rfl) rfl (Or.inl rfl))
    (@pss_cons _ _ _ _ _ (ps_for PassesOwn.never rfl (pi_tup (pv 0)) (pg_name (i := 2) sc_joined_form.nd rfl (Or.inl rfl))
    (@pss_one _ _ _ (@ps_if _ _ _ _ _ _ _ _ (pt_cmpR op_eq (@pe_ix _ _ _ _ _ _ _ ix_tup (pv 2) pe_int (fun _ _ => rfl)) (@pe_tx _ _ [116, 101, 120, 116] _ _ (by decide +kernel)) (nomark _))
      (@pss_one _ _ _ (ps_expr (pe_mth J_Joining.cl G_Joining_put_text hr (pv 1) (@pa_cons _ _ _ _ _ (@pe_ix _ _ _ _ _ _ _ ix_tup (pv 2) pe_int (fun _ _ => rfl)) pa_nil rfl))))
      (@pss_one _ _ _ (ps_expr (pe_mth J_Joining.cl G_Joining_put_node hr (pv 1) (@pa_cons _ _ _ _ _ (@pe_op _ _ _ _ _ _ _ _ op_catA (pe_slice sl_tupA (pv 2) po_none (po_some pe_int)) (pe_callTy call_tuple_of rfl m_tuple boTuple (@pa_cons _ _ _ _ _ (pe_comp (vars := ["inner"]) rfl (CompScope.own rfl (by decide +kernel)) (pi_tup (pe_cal G_forms_in hr (@pa_cons _ _ _ _ _ (pv 2) pa_nil rfl) rfl)) (fun pins cl C fp s H => ⟨pgc 0 (by decide +kernel) rfl rfl, pifs_nil, (pe_cal G_joined_form hr (@pa_cons _ _ _ _ _ (pv 0) pa_nil rfl) rfl)⟩)) pa_nil rfl))) pa_nil rfl)))))))
    (@pss_one _ _ _ (@ps_ret _ _ _ _ (pe_callTy call_tuple_of rfl m_tuple boTuple (@pa_cons _ _ _ _ _ (pe_mth0 J_Joining.cl G_Joining_so_far hr (pv 1)) pa_nil rfl)))))), ?_⟩
  obtain ⟨v, ds, rfl, hv, hf, q⟩ := h
  obtain ⟨a, us, rfl, hS, hd⟩ := dt_tup_inv hv
  obtain ⟨hf1, hf2, hf3⟩ := hf
  intro pj dx hpj hdx hne
  refine ⟨pj, dx, rfl, upd_same, fun H1 pn0 pt0 J0 sB0 hpn0 hpt0 => ⟨rfl, ?_⟩⟩
  have s1 : Same H H1 := fun b o hb => by
    have nb : b ≠ pj := ne_of_none hb hpj
    exact sB0 b o nb (by rw [upd_ne nb, upd_ne (ne_of_none hb hdx)]; exact hb)
  have hpt0H : H pt0 = none := by
    cases hh : H pt0 with
    | none => rfl
    | some o =>
      have nb : pt0 ≠ pj := ne_of_none hh hpj
      rw [upd_ne nb, upd_ne (ne_of_none hh hdx), hh] at hpt0
      cases hpt0
  have hS1 := s1.tup (TuO_seq hS)
  refine ⟨_, rfl, a, rfl, ⟨us, hS1⟩, ?_⟩
  refine for_tup (xs := us) (fun i σ H2 => ∃ (pn pt : Addr) (ls : List (List Nat)) (ns : List Dt) (vs : List V) (o : Option V), σ = [some (.ref a), some (.ref pj), o] ∧ H pt = none ∧ Same H H2 ∧ JAt C_Joining H2 pj dx pn pt vs ls ∧ IsDts K (TuO H2) ns vs ∧
      ns ++ JL (jN (jF n)) ls.flatten (ds.drop i) = jF (n + 1) ds ∧ ls.flatten.length + tlen (ds.drop i) ≤ 320 ∧ ns.length ≤ 2 * i ∧ ls.length ≤ i)
    ⟨pn0, pt0, [], [], [], none, rfl, hpt0H, s1, J0, dts_nil, rfl, by simpa using hf2, by simp, by simp⟩ (fun i σ H2 hi pv => ?_) (fun i z σ H2 hz pv => ?_) (fun σ H2 pv => ?_)
  · obtain ⟨pn, pt, ls, ns, vs, o, rfl, _, sH, _⟩ := pv
    exact sH.tup (TuO_seq hS)
  · obtain ⟨pn, pt, ls, ns, vs, o, rfl, hptH, sH, J, hns, hJ, hT, hnl, hll⟩ := pv
    obtain ⟨d, hdi, hdv⟩ := hd.atV hz
    have hdm : d ∈ ds := List.mem_of_getElem? hdi
    have hi40 : i < ds.length := (List.getElem?_eq_some_iff.mp hdi).1
    have hdrop : ds.drop i = d :: ds.drop (i + 1) := by
      obtain ⟨h1, h2⟩ := List.getElem?_eq_some_iff.mp hdi
      rw [List.drop_eq_getElem_cons h1, h2]
    have hdv2 := hdv.same sH.t.to
    have hnd := hf3 d hdm
    obtain ⟨c, w2, x2, r2, rfl, hc, hwt, htx, es, hde, hr⟩ := node_head hnd hdv2
    have hc' := TuO_seq hc
    rw [hdrop] at hJ hT
    rw [tlen_cons] at hT
    have hlv : vs.length = ns.length := hns.len.symm
    refine ⟨_, rfl, c, _, 0, _, rfl, rfl, hc', atI_nat (j := 0) rfl, rfl, _, rfl, ?_⟩
    have cmp : decide (V.str (tx w2) = V.str (tx [116, 101, 120, 116])) = decide (w2 = wText) := by
      by_cases e : w2 = wText
      · rw [e]; rfl
      · rw [decide_eq_false e, decide_eq_false (show ¬ V.str (tx w2) = V.str (tx [116, 101, 120, 116]) from fun z => e (V.str_inj.mp z))]
    rw [cmp]
    cases hd' : txtOf d with
    | some l =>
      obtain ⟨rfl, rfl⟩ := htx l hd'
      rw [hd'] at hwt
      rw [decide_eq_true (hwt.mpr rfl)]
      rw [JL_text hd'] at hJ
      have htn : tn d = x2.length := by unfold tn; rw [hd']
      refine iteT ⟨_, rfl, pj, dx, _, rfl, J.ob, fl_no _ _ (by decide +kernel) (by decide +kernel), _, rfl, c, _, 1, _, rfl, rfl, hc', atI_nat (j := 1) rfl, ?_⟩
      refine ⟨pj, dx, pn, pt, vs, ls, x2, rfl, J, by omega, ?_⟩
      have nto : pj ≠ pt := ne_of J.ob J.tx (by intro z; cases z)
      refine ⟨pn, pt, ls ++ [x2], ns, vs, _, rfl, hptH, fun b o hb => by rw [upd_ne (ne_of_none hb hptH)]; exact sH b o hb, ⟨by rw [upd_ne nto]; exact J.ob, by rw [upd_ne J.ne]; exact J.nd, upd_same, J.ne⟩, hns.same (SameT.put J.tx).to, ?_, ?_, by omega, by rw [List.length_append, List.length_singleton]; omega⟩
      · rw [List.flatten_append]
        simpa using hJ
      · rw [List.flatten_append, List.length_append]
        simp only [List.flatten_cons, List.flatten_nil, List.append_nil]
        omega
    | none =>
      rw [hd'] at hwt
      rw [decide_eq_false (show ¬ w2 = wText from fun z => by have := hwt.mp z; cases this)]
      rw [JL_node hd'] at hJ
      have hfs : ∃ fs : List (List Dt), es = fs.map Dt.tup ∧ (∀ f ∈ fs, FmG n f) ∧ fs.length ≤ 2 := by
        rcases node_cases hnd with ⟨l, ht, _⟩ | ⟨_, _, w', x', fs, e, _, _, hF, hl, _⟩
        · rw [hd'] at ht; cases ht
        · have e2 : es = fs.map Dt.tup := by
            rw [hde] at e
            injection e with e
            injection e with _ e
            injection e
          exact ⟨fs, e2, hF, hl⟩
      obtain ⟨fs, rfl, hF, hl2⟩ := hfs
      have hlr : r2.length = fs.length := by rw [← hr.len, List.length_map]
      refine iteF ⟨_, rfl, pj, dx, _, rfl, J.ob, fl_no _ _ (by decide +kernel) (by decide +kernel), ?_⟩
      refine ⟨_, rfl, ?_⟩
      dsimp only [tNoPart]
      refine ⟨_, rfl, ?_⟩
      refine slice2 hc fun Ha pa sa hpa => ?_
      refine ⟨_, rfl, c, _, rfl, sa.tup hc', by simp only [List.length_cons]; omega, fun pf hpf => ?_⟩
      have s3 := same_new hpf (.tup r2)
      have e3 : SqT K (upd Ha pf (.tup r2)) pf r2 := SqT.of upd_same
      refine ⟨pf, rfl, ⟨_, e3⟩, ?_⟩
      have hrh := (hr.same sa.t.to).same s3.t.to
      refine comp_tup (xs := r2) (fun i σ ys H4 => (∃ o, σ = [o]) ∧ Same (upd Ha pf (.tup r2)) H4 ∧ IsDts K (TuO H4) ((fs.take i).map fun f => Dt.tup (jF n f)) ys) ⟨⟨none, rfl⟩, Same.refl _, dts_nil⟩ (small (by omega)) (fun i σ ys H4 hi pv => ?_) (fun i z σ ys H4 hz pv => ?_) (fun σ ys H4 pv => ?_)
      · refine ⟨pv.2.1.tup e3, ?_⟩
        rw [← pv.2.2.len, List.length_map, List.length_take]; omega
      · obtain ⟨⟨o, rfl⟩, s4, hys⟩ := pv
        obtain ⟨d', hd2, hdv'⟩ := hrh.atV hz
        have hif : i < fs.length := by rw [← hlr]; exact (List.getElem?_eq_some_iff.mp hz).1
        have ed : d' = .tup fs[i] := by
          rw [List.getElem?_map, List.getElem?_eq_getElem hif] at hd2
          exact (Option.some.inj hd2).symm
        subst ed
        refine ⟨_, rfl, z, fs[i], rfl, hdv'.same s4.t.to, hF _ (List.getElem_mem hif), fun H5 u s5 hu => ⟨⟨_, rfl⟩, s4.trans s5, ?_⟩⟩
        rw [List.take_add_one, List.getElem?_eq_getElem hif, List.map_append]
        exact dts_snoc (hys.same s5.t.to) hu
      · obtain ⟨⟨o, rfl⟩, s4, hys⟩ := pv
        rw [hlr, List.take_length] at hys
        intro pl hpl
        refine ⟨pl, ys, rfl, .inl ⟨SqL.of upd_same, fun pz hpz => ?_⟩⟩
        have s6 := (same_new hpl (.lst ys)).trans (same_new hpz (.tup ys))
        have et : upd (upd H4 pl (.lst ys)) pz (.tup ys) pz = some (.tup ys) := upd_same
        generalize upd (upd H4 pl (.lst ys)) pz (.tup ys) = H6 at s6 et
        have sA := (s3.trans s4).trans s6
        refine catA (A := [.str w2, .str x2]) (B := fs.map fun f => Dt.tup (jF n f)) (hpa.same sA.t.to) (dt_tup (SqT.of (TuO_tup et)) (hys.same s6.t.to)) (by simp only [List.length_cons, List.length_nil, List.length_map]; omega) fun H7 p7 s7 h7 => ?_
        have s27 := sa.trans (sA.trans s7)
        have eg : jN (jF n) d = .tup ([.str w2, .str x2] ++ fs.map fun f => Dt.tup (jF n f)) := by
          rw [hde]
          show Dt.tup (.str w2 :: .str x2 :: (fs.map Dt.tup).map (jS (jF n))) = _
          rw [List.map_map]; rfl
        have J7 := J.same s27
        refine ⟨pj, dx, pn, pt, vs, ls, .ref p7, rfl, J7, by omega, by omega, fun H8 pn' pt' us3 sB8 hpn' hpt' J8 hus8 => ?_⟩
        have sT8 : SameT H7 H8 := SameBi sB8 J7.ob
        have sH8 : Same H H8 := fun b o hb => sB8 b o (ne_of_none hb hpj) (s27 _ _ (sH b o hb))
        have hlu : (jt ls.flatten).length ≤ 1 := by unfold jt; split <;> simp
        refine ⟨pn', pt', [], ns ++ jt ls.flatten ++ [jN (jF n) d], _, _, rfl, ?_, sH8, J8, ?_, ?_, ?_, ?_, by simp⟩
        · cases hh : H pt' with
          | none => rfl
          | some o => rw [s27 _ _ (sH _ _ hh)] at hpt'; cases hpt'
        · exact dts_snoc (dts_app (hns.same (s27.t.trans sT8).to) hus8) (by rw [eg]; exact h7.same sT8.to)
        · rw [← hJ]
          simp [List.append_assoc]
        · have : tn d = 0 := by unfold tn; rw [hd']
          simp only [List.flatten_nil, List.length_nil]; omega
        · rw [List.length_append, List.length_append, List.length_singleton]
          omega
  · obtain ⟨pn, pt, ls, ns, vs, o, rfl, hptH, sH, J, hns, hJ, hT, hnl, hll⟩ := pv
    have hul : us.length = ds.length := hd.len.symm
    have hlv : vs.length = ns.length := hns.len.symm
    rw [hul, List.drop_length] at hJ hT
    refine ⟨_, rfl, pj, dx, _, rfl, J.ob, fl_no _ _ (by decide +kernel) (by decide +kernel), ?_⟩
    refine ⟨pj, dx, pn, pt, vs, ls, rfl, J, by omega, by have : tlen ([] : List Dt) = 0 := rfl; omega, fun H3 p3 us3 s3 hp3 hpl3 hus3 => ?_⟩
    refine ⟨p3, _, rfl, .inl ⟨SqL.of hpl3, fun pz hpz => ?_⟩⟩
    have s4 := same_new hpz (.tup (vs ++ us3))
    refine q _ _ (sH.trans (s3.trans s4)) (dt_tup (SqT.of (TuO_tup upd_same)) ?_)
    rw [← hJ]
    exact dts_app (hns.same (s3.trans s4).t.to) (hus3.same s4.t.to)
theorem ok__law_cell_at (T : Txt w K mg) {k : Nat}   : Cal P w K mg base CX0 (k + 1) "_law_cell_at" ["_law_script", "_law_k"] (sp__law_cell_at K) := by
  refine T.d__law_cell_at.elim fun fa e => e.elim fun fd At => At.cal sc__law_cell_at (fun vs H Q E h => ?_) (fun cdv A outer s H vs Q E hr h => ?_)
  · (first | (obtain ⟨_, rfl, _⟩ := h; rfl) | (obtain ⟨_, _, rfl, _⟩ := h; rfl) | (obtain ⟨_, _, _, rfl, _⟩ := h; rfl) | (obtain ⟨_, _, _, _, rfl, _⟩ := h; rfl) | (obtain ⟨_, _, _, _, _, rfl, _⟩ := h; rfl) | (obtain ⟨_, _, _, _, _, _, rfl, _⟩ := h; rfl) | (obtain ⟨_, _, _, _, _, _, _, rfl, _⟩ := h; rfl) | (obtain ⟨_, _, _, _, _, _, _, _, rfl, _⟩ := h; rfl) | (obtain ⟨_, _, _, _, _, _, _, _, _, rfl, _⟩ := h; rfl) | (obtain ⟨rfl, _⟩ := h; rfl) | exact h.elim)
  have m_len := T.m_len
  refine ⟨_, (@pss_cons _ _ _ _ _ (@ps_if _ _ _ _ _ _ _ _ (pt_cmpR op_lt (pv 1) (pe_callB call_len_seq rfl m_len boLen (@pa_cons _ _ _ _ _ (pv 0) pa_nil rfl)) (nomark _))
    (@pss_one _ _ _ (@ps_ret _ _ _ _ (@pe_ix _ _ _ _ _ _ _ ix_ints (pv 0) (pv 1) (fun _ _ => rfl))))
    pss_nil)
    (@pss_one _ _ _ (@ps_ret _ _ _ _ pe_int))), ?_⟩
  obtain ⟨a, ns, k, rfl, hS, h0, q⟩ := h
  refine ⟨_, rfl, _, rfl, a, _, rfl, .inl hS, _, _, rfl, rfl, _, rfl, ite2 (fun c => ?_) (fun c => ?_)⟩
  · have c' : k < (((ns.map V.int).length : Nat) : Int) := of_decide_eq_true c
    rw [List.length_map] at c'
    have e : cellF ns k = ns.getD k.toNat 0 := if_pos c'
    rw [e] at q
    exact ⟨_, rfl, _, rfl, a, ns, k, rfl, rfl, hS, h0, c', q⟩
  · have c' : ¬ k < (((ns.map V.int).length : Nat) : Int) := of_decide_eq_false (Bool.eq_false_iff.mpr c)
    rw [List.length_map] at c'
    have e : cellF ns k = 0 := if_neg c'
    rw [e] at q
    exact q
theorem ok__law_cells (T : Txt w K mg) {k : Nat}  (G__law_cell_at : Cal P w K mg base CX0 k "_law_cell_at" ["_law_script", "_law_k"] (sp__law_cell_at K)) : Cal P w K mg base CX0 (k + 1) "_law_cells" ["_law_script", "_law_start", "_law_most"] (sp__law_cells K) := by
  refine T.d__law_cells.elim fun fa e => e.elim fun fd At => At.cal sc__law_cells (fun vs H Q E h => ?_) (fun cdv A outer s H vs Q E hr h => ?_)
  · (first | (obtain ⟨_, rfl, _⟩ := h; rfl) | (obtain ⟨_, _, rfl, _⟩ := h; rfl) | (obtain ⟨_, _, _, rfl, _⟩ := h; rfl) | (obtain ⟨_, _, _, _, rfl, _⟩ := h; rfl) | (obtain ⟨_, _, _, _, _, rfl, _⟩ := h; rfl) | (obtain ⟨_, _, _, _, _, _, rfl, _⟩ := h; rfl) | (obtain ⟨_, _, _, _, _, _, _, rfl, _⟩ := h; rfl) | (obtain ⟨_, _, _, _, _, _, _, _, rfl, _⟩ := h; rfl) | (obtain ⟨_, _, _, _, _, _, _, _, _, rfl, _⟩ := h; rfl) | (obtain ⟨rfl, _⟩ := h; rfl) | exact h.elim)
  have m_len := T.m_len
  have m_list := T.m_list
  refine ⟨_, (@pss_cons _ _ _ _ _ (@ps_set _ _ 3 _ _ _ _ sc__law_cells.nd rfl (Or.inl rfl) (pe_callTy call_list_of rfl m_list boList (@pa_cons _ _ _ _ _ (pe_slice sl_list (pv 0) (po_some (pv 1)) (po_some (@pe_op _ _ _ _ _ _ _ _ op_add (pv 1) (pv 2)))) pa_nil rfl)) rfl (Or.inl rfl))
    (@pss_cons _ _ _ _ _ (@ps_if _ _ _ _ _ _ _ _ (pt_cmpR op_eq (@pe_op _ _ _ _ _ _ _ _ (op_modL 4 (by decide)) (@pe_op _ _ _ _ _ _ _ _ (op_divL 7 (by decide) (by decide)) (pe_cal G__law_cell_at hr (@pa_cons _ _ _ _ _ (pv 0) (@pa_cons _ _ _ _ _ pe_int pa_nil star_c) star_n) rfl) pe_int) pe_int) pe_int (nomark _))
    (@pss_cons _ _ _ _ _ (@ps_set _ _ 4 _ _ _ _ sc__law_cells.nd rfl (Or.inl rfl) (@pe_op _ _ _ _ _ _ _ _ op_add (@pe_op _ _ _ _ _ _ _ _ (op_modL 2147483647 (by decide)) (pe_cal G__law_cell_at hr (@pa_cons _ _ _ _ _ (pv 0) (@pa_cons _ _ _ _ _ pe_int pa_nil star_c) star_n) rfl) pe_int) pe_int) rfl (Or.inl rfl))
      (@pss_one _ _ _ (ps_while PassesOwn.never (pt_cmpR op_lt (pe_callB call_len_seq rfl m_len boLen (@pa_cons _ _ _ _ _ (pv 3) pa_nil rfl)) (pv 2) (nomark _))
      (@pss_cons _ _ _ _ _ (@ps_set _ _ 4 _ _ _ _ sc__law_cells.nd rfl (Or.inl rfl) (@pe_op _ _ _ _ _ _ _ _ (op_modL 2147483647 (by decide)) (@pe_op _ _ _ _ _ _ _ _ op_add (@pe_op _ _ _ _ _ _ _ _ op_add (@pe_op _ _ _ _ _ _ _ _ op_mul (pv 4) (pv 4)) (@pe_op _ _ _ _ _ _ _ _ op_mul pe_int (pv 4))) (pe_callB call_len_seq rfl m_len boLen (@pa_cons _ _ _ _ _ (pv 3) pa_nil rfl))) pe_int) rfl (Or.inl rfl))
        (@pss_one _ _ _ (ps_expr (pe_bm PySem.F.plainAttrs_list PySem.F.slot_list_append PySem.F.type_list_append mt_append (pv 3) (@pa_cons _ _ _ _ _ (@pe_op _ _ _ _ _ _ _ _ op_add (@pe_op _ _ _ _ _ _ _ _ op_mul (pv 4) pe_int) (@pe_op _ _ _ _ _ _ _ _ (op_divL 11 (by decide) (by decide)) (pv 4) pe_int)) pa_nil rfl))))))))
    pss_nil)
    (@pss_one _ _ _ (@ps_ret _ _ _ _ (pv 3))))), ?_⟩
  obtain ⟨a, ns, rfl, hS, h63, q⟩ := h
  refine ⟨_, rfl, _, rfl, _, rfl, _, rfl, _, rfl, _, _, rfl, rfl, _, rfl, a, _, rfl, hS, fun p hp => ?_⟩
  obtain ⟨ms, ems, hms⟩ := cut40 ns
  rw [ems]
  refine ⟨p, _, rfl, .inl (SqL.of upd_same), fun pl hpl => ?_⟩
  have s1 := (same_new hp (.lst (ms.map V.int))).trans (same_new hpl (.lst (ms.map V.int)))
  have hplH : H pl = none := (same_new hp (.lst (ms.map V.int))).free hpl
  have e1 : upd (upd H p (.lst (ms.map V.int))) pl (.lst (ms.map V.int)) pl = some (.lst (ms.map V.int)) := upd_same
  generalize upd (upd H p (.lst (ms.map V.int))) pl (.lst (ms.map V.int)) = H1 at s1 e1
  refine ⟨_, rfl, a, ns, 1, rfl, s1.seq hS, by decide, _, rfl, rfl, _, rfl, rfl, rfl, _, rfl, ite2 (fun c => ?_) (fun c => ?_)⟩
  · refine ⟨_, rfl, a, ns, 1, rfl, s1.seq hS, by decide, _, rfl, rfl, _, _, rfl, rfl, ?_⟩
    refine while_by (fun σ H2 => ∃ (zs : List Int) (m : Int), σ = [some (.ref a), some (.int 2), some (.int 40), some (.ref pl), some (.int m)] ∧ 0 ≤ m ∧ m < 3000000000 ∧ SameB pl H1 H2 ∧ H2 pl = some (.lst (zs.map V.int)) ∧ zs.length ≤ 40)
      (fun σ H2 => match H2 pl with | some (.lst xs) => 40 - xs.length | _ => 0) ⟨ms, _, rfl, by omega, by omega, SameB.refl _ _, e1, hms⟩ (fun σ H2 pv => ?_) (fun σ H Q Q' h ⟨a, b, c, d, e, f, g, i, j, k, l, m, n, o, q⟩ => ⟨a, b, c, d, e, f, g, i, j, k, l, m, n, o, h _ _ q⟩)
    obtain ⟨zs, m, rfl, m0, m1, sB, hz, hl⟩ := pv
    refine ⟨_, rfl, pl, _, rfl, .inl (SqL.of hz), _, rfl, _, _, rfl, rfl, _, rfl, ite2 (fun c2 => ?_) (fun c2 => ?_)⟩
    · have hlt : zs.length < 40 := by
        have := of_decide_eq_true c2
        rw [List.length_map] at this
        omega
      refine ⟨_, rfl, _, rfl, _, _, rfl, rfl, .inl ⟨by omega, by omega⟩, _, rfl, _, _, rfl, rfl, .inl ⟨by decide, by decide⟩, _, _, rfl, rfl, _, rfl, pl, _, rfl, .inl (SqL.of hz), _, _, rfl, rfl, _, rfl, rfl, ?_⟩
      have r0 : ∀ z : Int, 0 ≤ z % 2147483647 ∧ z % 2147483647 < 2147483647 := fun z => by omega
      obtain ⟨r1, r2⟩ := r0 (m * m + 48271 * m + (((zs.map V.int).length : Nat) : Int))
      generalize (m * m + 48271 * m + (((zs.map V.int).length : Nat) : Int)) % 2147483647 = m' at r1 r2
      refine ⟨_, rfl, .inl ⟨rfl, _, SqL.of hz⟩, _, rfl, _, _, rfl, rfl, .inl ⟨by omega, by omega⟩, _, rfl, _, rfl, rfl, _, _, rfl, rfl, pl, _, _, rfl, rfl, hz, small (by rw [List.length_map]; omega), ?_⟩
      refine ⟨⟨zs ++ [m' * 1048583 + m' / 11], m', rfl, r1, by omega, sB.trans SameB.upd, ?_, ?_⟩, ?_⟩
      · rw [upd_same, List.map_append]; rfl
      · rw [List.length_append, List.length_singleton]; omega
      · show (match upd H2 pl (.lst (zs.map V.int ++ [V.int (m' * 1048583 + m' / 11)])) pl with | some (.lst xs) => 40 - xs.length | _ => 0) < (match H2 pl with | some (.lst xs) => 40 - xs.length | _ => 0)
        rw [upd_same, hz]
        show 40 - (zs.map V.int ++ [_]).length < 40 - (zs.map V.int).length
        rw [List.length_append, List.length_map, List.length_singleton]; omega
    · exact ⟨_, rfl, q _ pl zs (fun b o hb => sB b o (ne_of_none hb hplH) (s1 b o hb)) hplH hz hl⟩
  · exact ⟨_, rfl, q _ pl ms s1 hplH e1 hms⟩
theorem ok__law_signs (T : Txt w K mg) {k : Nat}   : Cal P w K mg base CX0 (k + 1) "_law_signs" ["_law_cell", "_law_many"] (sp__law_signs K) := by
  refine T.d__law_signs.elim fun fa e => e.elim fun fd At => At.cal sc__law_signs (fun vs H Q E h => ?_) (fun cdv A outer s H vs Q E hr h => ?_)
  · (first | (obtain ⟨_, rfl, _⟩ := h; rfl) | (obtain ⟨_, _, rfl, _⟩ := h; rfl) | (obtain ⟨_, _, _, rfl, _⟩ := h; rfl) | (obtain ⟨_, _, _, _, rfl, _⟩ := h; rfl) | (obtain ⟨_, _, _, _, _, rfl, _⟩ := h; rfl) | (obtain ⟨_, _, _, _, _, _, rfl, _⟩ := h; rfl) | (obtain ⟨_, _, _, _, _, _, _, rfl, _⟩ := h; rfl) | (obtain ⟨_, _, _, _, _, _, _, _, rfl, _⟩ := h; rfl) | (obtain ⟨_, _, _, _, _, _, _, _, _, rfl, _⟩ := h; rfl) | (obtain ⟨rfl, _⟩ := h; rfl) | exact h.elim)
  have m_range := T.m_range
  refine ⟨_, (@pss_cons _ _ _ _ _ (@ps_set _ _ 2 _ _ _ _ sc__law_signs.nd rfl (Or.inl rfl) (@pe_tx _ _ lit0 _ _ (by decide +kernel)) rfl (Or.inl rfl))
    (@pss_cons _ _ _ _ _ (@ps_set _ _ 2 _ _ _ _ sc__law_signs.nd rfl (Or.inl rfl) (@pe_op _ _ _ _ _ _ _ _ op_addS (pv 2) (@pe_tx _ _ lit1 _ _ (by decide +kernel))) rfl (Or.inl rfl))
    (@pss_cons _ _ _ _ _ (@ps_set _ _ 3 _ _ _ _ sc__law_signs.nd rfl (Or.inl rfl) (@pe_op _ _ _ _ _ _ _ _ op_add (@pe_op _ _ _ _ _ _ _ _ (op_modL 2147483647 (by decide)) (pv 0) pe_int) pe_int) rfl (Or.inl rfl))
    (@pss_cons _ _ _ _ _ (@ps_set _ _ 4 _ _ _ _ sc__law_signs.nd rfl (Or.inl rfl) (@pe_op _ _ _ _ _ _ _ _ (op_divL 2 (by decide) (by decide)) (pv 0) pe_int) rfl (Or.inl rfl))
    (@pss_cons _ _ _ _ _ (@ps_set _ _ 5 _ _ _ _ sc__law_signs.nd rfl (Or.inl rfl) (@pe_tx _ _ [] _ _ rfl) rfl (Or.inl rfl))
    (@pss_cons _ _ _ _ _ (ps_for PassesOwn.never rfl (pi_range1 rfl m_range (@pa_cons _ _ _ _ _ (pv 1) pa_nil rfl)) (pg_name (i := 6) sc__law_signs.nd rfl (Or.inl rfl))
    (@pss_cons _ _ _ _ _ (@ps_set _ _ 3 _ _ _ _ sc__law_signs.nd rfl (Or.inl rfl) (@pe_op _ _ _ _ _ _ _ _ (op_modL 2147483647 (by decide)) (@pe_op _ _ _ _ _ _ _ _ op_add (@pe_op _ _ _ _ _ _ _ _ op_add (@pe_op _ _ _ _ _ _ _ _ op_mul (pv 3) (pv 3)) (@pe_op _ _ _ _ _ _ _ _ op_mul pe_int (pv 3))) (pv 6)) pe_int) rfl (Or.inl rfl))
      (@pss_cons _ _ _ _ _ (@ps_set _ _ 7 _ _ _ _ sc__law_signs.nd rfl (Or.inl rfl) (@pe_ix _ _ _ _ _ _ _ ix_list (@pe_lst _ _ _ _ (@pa_cons _ _ _ _ _ (pv 4) (@pa_cons _ _ _ _ _ (@pe_op _ _ _ _ _ _ _ _ (op_divL 64 (by decide) (by decide)) (pv 3) pe_int) pa_nil star_b) star_n)) (@pe_op _ _ _ _ _ _ _ _ (op_modL 2 (by decide)) (pv 0) pe_int) (fun _ _ => rfl)) rfl (Or.inl rfl))
      (@pss_cons _ _ _ _ _ (@ps_set _ _ 4 _ _ _ _ sc__law_signs.nd rfl (Or.inl rfl) (@pe_op _ _ _ _ _ _ _ _ (op_divL 190 (by decide) (by decide)) (pv 4) pe_int) rfl (Or.inl rfl))
      (@pss_one _ _ _ (@ps_if _ _ _ _ _ _ _ _ (pt_cmpR op_eq (@pe_op _ _ _ _ _ _ _ _ (op_modL 2 (by decide)) (pv 7) pe_int) pe_int (nomark _))
      (@pss_one _ _ _ (@ps_set _ _ 5 _ _ _ _ sc__law_signs.nd rfl (Or.inl rfl) (@pe_op _ _ _ _ _ _ _ _ op_addS (pv 5) (@pe_ix _ _ _ _ _ _ _ ix_strD (@pe_tx _ _ lit2 _ _ (by decide +kernel)) (@pe_op _ _ _ _ _ _ _ _ (op_modL 16 (by decide)) (@pe_op _ _ _ _ _ _ _ _ (op_divL 2 (by decide) (by decide)) (pv 7) pe_int) pe_int) (fun _ _ => rfl))) rfl (Or.inl rfl)))
      (@pss_one _ _ _ (@ps_set _ _ 5 _ _ _ _ sc__law_signs.nd rfl (Or.inl rfl) (@pe_op _ _ _ _ _ _ _ _ op_addS (pv 5) (@pe_ix _ _ _ _ _ _ _ ix_strD (pv 2) (@pe_op _ _ _ _ _ _ _ _ (op_modL 95 (by decide)) (@pe_op _ _ _ _ _ _ _ _ (op_divL 2 (by decide) (by decide)) (pv 7) pe_int) pe_int) (fun _ _ => rfl))) rfl (Or.inl rfl)))))))))
    (@pss_one _ _ _ (@ps_ret _ _ _ _ (pv 5))))))))), ?_⟩
  obtain ⟨c, m, rfl, hm, q⟩ := h
  refine ⟨_, rfl, _, _, rfl, rfl, smallE (by decide +kernel), _, rfl, _, rfl, rfl, _, _, rfl, rfl, _, rfl, _, rfl, rfl, ?_⟩
  refine ⟨_, rfl, _, rfl, by omega, by omega, ?_⟩
  rw [Int.toNat_natCast]
  refine for_range (fun i σ H2 => ∃ (num rest : Int) (l : List Nat) (o6 o7 : Option V), σ = [some (.int c), some (.int (m : Nat)), some (.str (tx (M64 ++ M31))), some (.int num), some (.int rest), some (.str (tx l)), o6, o7] ∧ 0 ≤ num ∧ num < 3000000000 ∧ l.length = i ∧ SgT l ∧ Same H H2)
    ⟨_, _, [], none, none, rfl, by omega, by omega, rfl, (fun x hx => nomatch hx), Same.refl _⟩ (fun i σ H2 hi pv => ?_) (fun σ H2 pv => ?_)
  · obtain ⟨num, rest, l, o6, o7, rfl, n0, n1, hl, hsg, sH⟩ := pv
    refine ⟨_, rfl, _, rfl, _, _, rfl, rfl, .inl ⟨by omega, by omega⟩, _, rfl, _, _, rfl, rfl, .inl ⟨by decide, by decide⟩, _, _, rfl, rfl, _, rfl, _, _, rfl, rfl, _, rfl, rfl, ?_⟩
    have r0 : ∀ z : Int, 0 ≤ z % 2147483647 ∧ z % 2147483647 < 2147483647 := fun z => by omega
    obtain ⟨r1, r2⟩ := r0 (num * num + 48271 * num + (0 + (i : Int)))
    generalize (num * num + 48271 * num + (0 + (i : Int))) % 2147483647 = num' at r1 r2
    refine ⟨_, rfl, _, rfl, _, rfl, rfl, by show 2 ≤ sizeLine; decide, fun p hp => ?_⟩
    obtain ⟨pk, hpk⟩ := one2 rest (num' / 64) c
    refine ⟨_, rfl, _, rfl, rfl, p, _, _, _, rfl, rfl, SqL.of upd_same, hpk, _, rfl, _, rfl, rfl, ?_⟩
    have sH' := sH.trans (same_new hp (.lst [.int rest, .int (num' / 64)]))
    generalize upd H2 p (.lst [.int rest, .int (num' / 64)]) = H3 at sH'
    refine ⟨_, rfl, _, rfl, rfl, rfl, _, rfl, ite2 (fun e => ?_) (fun e => ?_)⟩
    · refine ⟨_, rfl, _, rfl, _, rfl, rfl, _, rfl, rfl, S16, _, rfl, rfl, by decide +kernel, by omega, by show pk / 2 % 16 < 16; omega, _, _, rfl, rfl, smallE (by rw [List.length_singleton]; omega), ?_⟩
      exact ⟨num', _, _, _, _, rfl, r1, by omega, by rw [List.length_append, List.length_singleton]; omega, fun x hx => (List.mem_append.mp hx).elim (hsg x) fun h => by rw [List.mem_singleton.mp h]; exact s16_in _ (by omega), sH'⟩
    · refine ⟨_, rfl, _, rfl, _, rfl, _, rfl, rfl, _, rfl, rfl, M64 ++ M31, _, rfl, rfl, by decide +kernel, by omega, by show pk / 2 % 95 < 95; omega, _, _, rfl, rfl, smallE (by rw [List.length_singleton]; omega), ?_⟩
      exact ⟨num', _, _, _, _, rfl, r1, by omega, by rw [List.length_append, List.length_singleton]; omega, fun x hx => (List.mem_append.mp hx).elim (hsg x) fun h => by rw [List.mem_singleton.mp h]; exact m95_in _ (by omega), sH'⟩
  · obtain ⟨num, rest, l, o6, o7, rfl, n0, n1, hl, hsg, sH⟩ := pv
    exact ⟨_, rfl, q H2 l sH hl hsg⟩
theorem ok__law_names (T : Txt w K mg) {k : Nat}   : Cal P w K mg base CX0 (k + 1) "_law_names" ["_law_cell", "_law_many"] (sp__law_names K) := by
  refine T.d__law_names.elim fun fa e => e.elim fun fd At => At.cal sc__law_names (fun vs H Q E h => ?_) (fun cdv A outer s H vs Q E hr h => ?_)
  · (first | (obtain ⟨_, rfl, _⟩ := h; rfl) | (obtain ⟨_, _, rfl, _⟩ := h; rfl) | (obtain ⟨_, _, _, rfl, _⟩ := h; rfl) | (obtain ⟨_, _, _, _, rfl, _⟩ := h; rfl) | (obtain ⟨_, _, _, _, _, rfl, _⟩ := h; rfl) | (obtain ⟨_, _, _, _, _, _, rfl, _⟩ := h; rfl) | (obtain ⟨_, _, _, _, _, _, _, rfl, _⟩ := h; rfl) | (obtain ⟨_, _, _, _, _, _, _, _, rfl, _⟩ := h; rfl) | (obtain ⟨_, _, _, _, _, _, _, _, _, rfl, _⟩ := h; rfl) | (obtain ⟨rfl, _⟩ := h; rfl) | exact h.elim)
  have m_len := T.m_len
  have m_list := T.m_list
  have m_range := T.m_range
  refine ⟨_, (@pss_cons _ _ _ _ _ (@ps_set _ _ 2 _ _ _ _ sc__law_names.nd rfl (Or.inr rfl) (@pe_tx _ _ lit3 _ _ (by decide +kernel)) rfl (Or.inl rfl))
    (@pss_cons _ _ _ _ _ (@ps_set _ _ 0 _ _ _ _ sc__law_names.nd rfl (Or.inr rfl) (@pe_op _ _ _ _ _ _ _ _ op_mod (pv 0) (@pe_op _ _ _ _ _ _ _ _ op_pow pe_int pe_int)) rfl (Or.inl rfl))
    (@pss_cons _ _ _ _ _ (ps_comp (i := 3) (vars := ["_law_k"]) (frs' := ["_law_cell"]) (fr := [0]) rfl sc__law_names.nd rfl (Or.inl rfl) (CompScope.free rfl (by decide +kernel) rfl (.cons ⟨rfl, rfl⟩ .nil)) (pi_range1 rfl m_range (@pa_cons _ _ _ _ _ (@pe_op _ _ _ _ _ _ _ _ op_add pe_int (@pe_op _ _ _ _ _ _ _ _ (op_modL 8 (by decide)) (pv 0) pe_int)) pa_nil rfl)) (fun pins cl C fp s H => ⟨pgc 0 (by decide +kernel) rfl rfl, pifs_nil, (@pe_op _ _ _ _ _ _ _ _ (op_modL 24 (by decide)) (@pe_op _ _ _ _ _ _ _ _ op_add (@pe_op _ _ _ _ _ _ _ _ op_fdiv (pv 1) (@pe_op _ _ _ _ _ _ _ _ op_add (pv 0) pe_int)) (@pe_op _ _ _ _ _ _ _ _ op_mul (pv 0) (pv 0))) pe_int)⟩))
    (@pss_cons _ _ _ _ _ (@ps_set _ _ 4 _ _ _ _ sc__law_names.nd rfl (Or.inl rfl) (@pe_op _ _ _ _ _ _ _ _ op_mod (@pe_op _ _ _ _ _ _ _ _ (op_divL 8 (by decide) (by decide)) (pv 0) pe_int) (pe_callB call_len_seq rfl m_len boLen (@pa_cons _ _ _ _ _ (pv 3) pa_nil rfl))) rfl (Or.inl rfl))
    (@pss_cons _ _ _ _ _ (@ps_set _ _ 5 _ _ _ _ sc__law_names.nd rfl (Or.inl rfl) (@pe_lst _ _ _ _ pa_nil) rfl (Or.inl rfl))
    (@pss_cons _ _ _ _ _ (ps_for PassesOwn.never rfl (pi_range1 rfl m_range (@pa_cons _ _ _ _ _ (pv 1) pa_nil rfl)) (pg_name (i := 6) sc__law_names.nd rfl (Or.inl rfl))
    (@pss_cons _ _ _ _ _ (@ps_set _ _ 7 _ _ _ _ sc__law_names.nd rfl (Or.inl rfl) (pe_callTy call_list_of rfl m_list boList (@pa_cons _ _ _ _ _ (pv 3) pa_nil rfl)) rfl (Or.inl rfl))
      (@pss_cons _ _ _ _ _ (ps_asg (@pe_op _ _ _ _ _ _ _ _ (op_modL 24 (by decide)) (@pe_op _ _ _ _ _ _ _ _ op_add (@pe_ix _ _ _ _ _ _ _ ix_list (pv 3) (pv 4) (fun _ _ => rfl)) (pv 6)) pe_int) (pg_sub (pv 7) (pv 4) set_list))
      (@pss_one _ _ _ (ps_expr (pe_bm PySem.F.plainAttrs_list PySem.F.slot_list_append PySem.F.type_list_append mt_append (pv 5) (@pa_cons _ _ _ _ _ (pe_bm PySem.F.plainAttrs_str PySem.F.slot_str_join PySem.F.type_str_join mt_join (@pe_tx _ _ [] _ _ rfl) (@pa_cons _ _ _ _ _ (pe_comp (vars := ["_law_one"]) (frs' := ["_law_letters"]) (fr := [2]) rfl (CompScope.free rfl (by decide +kernel) rfl (.cons ⟨rfl, rfl⟩ .nil)) (pi_list (pv 7)) (fun pins cl C fp s H => ⟨pgc 0 (by decide +kernel) rfl rfl, pifs_nil, (@pe_ix _ _ _ _ _ _ _ ix_strD (pv 1) (pv 0) (fun _ _ => rfl))⟩)) pa_nil rfl)) pa_nil rfl)))))))
    (@pss_one _ _ _ (@ps_ret _ _ _ _ (pv 5))))))))), ?_⟩
  obtain ⟨c, rfl, q⟩ := h
  refine ⟨_, rfl, _, _, rfl, rfl, ⟨by decide, by decide, by decide⟩, _, _, rfl, rfl, (by show (0 : Int) < 10 ^ Int.toNat 9; decide), ?_⟩
  have d0 : 0 ≤ c % 10 ^ Int.toNat 9 := Int.emod_nonneg _ (by decide)
  dsimp only
  generalize c % 10 ^ Int.toNat 9 = d at d0
  refine ⟨_, rfl, _, rfl, rfl, _, _, rfl, rfl, _, rfl, by omega, by omega, ?_⟩
  have hj : 1 ≤ (1 + d % 8).toNat ∧ (1 + d % 8).toNat ≤ 8 := by omega
  generalize (1 + d % 8).toNat = nw at hj
  refine comp_range (fun i σ ys H2 => ∃ (zs : List Int) (o : Option V), σ = [o, some (.int d)] ∧ ys = zs.map V.int ∧ zs.length = i ∧ (∀ z ∈ zs, 0 ≤ z ∧ z < 24) ∧ H2 = H) ⟨[], none, rfl, rfl, rfl, (fun z hz => nomatch hz), rfl⟩ (small (by omega)) (fun i σ ys H2 hi pv => ?_) (fun i σ ys H2 hi pv => ?_) (fun σ ys H2 pv => ?_)
  · obtain ⟨zs, o, rfl, rfl, hl, _, _⟩ := pv
    rw [List.length_map]; omega
  · obtain ⟨zs, o, rfl, rfl, hl, hz, rfl⟩ := pv
    refine ⟨_, rfl, _, rfl, _, _, rfl, rfl, _, _, rfl, rfl, ⟨by omega, by omega⟩, _, rfl, _, rfl, _, _, rfl, rfl, .inl ⟨by omega, by omega⟩, _, _, rfl, rfl, _, rfl, rfl, ?_⟩
    refine ⟨zs ++ [_], _, rfl, by rw [List.map_append]; rfl, by rw [List.length_append, List.length_singleton]; omega, fun z hz' => (List.mem_append.mp hz').elim (hz z) fun h => ?_, rfl⟩
    rw [List.mem_singleton.mp h]
    exact ⟨Int.emod_nonneg _ (by decide), Int.emod_lt_of_pos _ (by decide)⟩
  · obtain ⟨zs, o, rfl, rfl, hl, hz, rfl⟩ := pv
    intro pw hpw
    have s1 := same_new hpw (.lst (zs.map V.int))
    have e1 : upd H2 pw (.lst (zs.map V.int)) pw = some (.lst (zs.map V.int)) := upd_same
    generalize upd H2 pw (.lst (zs.map V.int)) = H1 at s1 e1
    refine ⟨_, rfl, _, rfl, rfl, _, rfl, pw, _, rfl, .inl (SqL.of e1), _, _, rfl, rfl, by rw [List.length_map]; omega, ?_⟩
    have a0 : ∀ x : Int, 0 ≤ x % (((zs.map V.int).length : Nat) : Int) ∧ x % (((zs.map V.int).length : Nat) : Int) < (zs.length : Int) := fun x => by
      rw [List.length_map]
      exact ⟨Int.emod_nonneg _ (by omega), Int.emod_lt_of_pos _ (by omega)⟩
    obtain ⟨at0, at1⟩ := a0 (d / 8)
    dsimp only
    generalize d / 8 % (((zs.map V.int).length : Nat) : Int) = at' at at0 at1
    refine ⟨by show 0 ≤ sizeLine; decide, fun pn hpn => ?_⟩
    have npw : pw ≠ pn := ne_of_none e1 hpn
    have hpnH : H2 pn = none := s1.free hpn
    refine ⟨_, rfl, 4, rfl, by omega, by omega, ?_⟩
    refine for_range (n := 4) (fun i σ H3 => ∃ (nms : List (List Nat)) (o6 o7 : Option V), σ = [some (.int d), some (.int 4), some (.str (tx L24)), some (.ref pw), some (.int at'), some (.ref pn), o6, o7] ∧ SameB pn H1 H3 ∧ H3 pn = some (.lst (txs nms)) ∧ nms.length = i ∧ ∀ x ∈ nms, NmT x)
      ⟨[], none, none, rfl, SameB.upd, upd_same, rfl, (fun x hx => nomatch hx)⟩ (fun i σ H3 hi pv => ?_) (fun σ H3 pv => ?_)
    · obtain ⟨nms, o6, o7, rfl, sB, hn, hlen, hok⟩ := pv
      have hw3 : H3 pw = some (.lst (zs.map V.int)) := sB _ _ npw e1
      refine ⟨_, rfl, pw, _, rfl, .inl (SqL.of hw3), fun po hpo => ?_⟩
      have s4 := same_new hpo (.lst (zs.map V.int))
      have hn4 := s4 _ _ hn
      have hw4 := s4 _ _ hw3
      have ho4 : upd H3 po (.lst (zs.map V.int)) po = some (.lst (zs.map V.int)) := upd_same
      have npo : po ≠ pn := Ne.symm (ne_of_none hn hpo)
      have sB4 : SameB pn H1 (upd H3 po (.lst (zs.map V.int))) := sB.trans s4.b
      generalize upd H3 po (.lst (zs.map V.int)) = H4 at hn4 hw4 ho4 sB4 s4
      refine ⟨_, rfl, _, rfl, pw, _, _, _, rfl, rfl, SqL.of hw4, ints_at at0 at1, _, rfl, _, _, rfl, rfl, _, rfl, rfl, ?_⟩
      have v0 : ∀ x : Int, 0 ≤ x % 24 ∧ x % 24 < 24 := fun x => by omega
      obtain ⟨v1, v2⟩ := v0 (zs.getD at'.toNat 0 + (0 + (i : Int)))
      generalize (zs.getD at'.toNat 0 + (0 + (i : Int))) % 24 = nv at v1 v2
      refine ⟨_, rfl, _, rfl, po, _, _, at'.toNat, rfl, rfl, ho4, ixN_in at0 (by rw [List.length_map]; exact at1), ?_⟩
      have eset : (zs.map V.int).set at'.toNat (.int nv) = (zs.set at'.toNat nv).map V.int := by rw [List.map_set]
      rw [eset]
      have hz2 : ∀ z ∈ zs.set at'.toNat nv, 0 ≤ z ∧ z < 24 := fun z h => by
        rcases List.mem_or_eq_of_mem_set h with h | h
        · exact hz z h
        · rw [h]; exact ⟨v1, v2⟩
      have hl2 : (zs.set at'.toNat nv).length = nw := by rw [List.length_set]; exact hl
      generalize zs.set at'.toNat nv = ws at hz2 hl2
      have s5 : SameB po H4 (upd H4 po (.lst (ws.map V.int))) := SameB.upd
      have hn5 := s5 _ _ (Ne.symm npo) hn4
      have ho5 : upd H4 po (.lst (ws.map V.int)) po = some (.lst (ws.map V.int)) := upd_same
      have sB5 : SameB pn H1 (upd H4 po (.lst (ws.map V.int))) := fun b o hb h => by
        have h4 := sB4 b o hb h
        have : b ≠ po := fun z => by
          subst z
          have h3 := sB b o hb h
          rw [hpo] at h3; cases h3
        exact s5 b o this h4
      generalize upd H4 po (.lst (ws.map V.int)) = H5 at hn5 ho5 sB5
      refine ⟨_, rfl, .inl ⟨rfl, _, SqL.of hn5⟩, rfl, _, rfl, po, rfl, ⟨_, SqL.of ho5⟩, ?_⟩
      refine comp_listM (xs := ws.map V.int) (fun v => match v with | .int z => .str (tx [L24.getD z.toNat 0]) | _ => .non) (fun H' => H' = H5) rfl rfl (by rw [List.length_map]; omega) (fun H' e => by rw [e]; exact SqL.of ho5) (fun x H' Qk hx e q' => ?_) fun H' e => ?_
      · subst e
        obtain ⟨z, hzm, rfl⟩ := List.mem_map.mp hx
        obtain ⟨z0, z1⟩ := hz2 z hzm
        exact ⟨_, rfl, _, rfl, L24, _, rfl, rfl, by decide +kernel, z0, by show z < 24; exact z1, q' _ rfl⟩
      · subst e
        intro p6 hp6
        have s6 := same_new hp6 (.lst ((ws.map V.int).map fun v => match v with | .int z => .str (tx [L24.getD z.toNat 0]) | _ => .non))
        have hn6 := s6 _ _ hn5
        refine ⟨p6, ws.map fun z => [L24.getD z.toNat 0], rfl, rfl, SqL.of ?_, ?_, ?_⟩
        · rw [upd_same, List.map_map, List.map_map]; rfl
        · rw [flat1 (fun z : Int => L24.getD z.toNat 0), List.length_map]; omega
        · rw [flat1 (fun z : Int => L24.getD z.toNat 0)]
          refine ⟨pn, _, _, rfl, rfl, hn6, small (by unfold txs; rw [List.length_map]; omega), ?_⟩
          refine ⟨nms ++ [ws.map fun z => L24.getD z.toNat 0], _, _, rfl, (sB5.trans s6.b).trans SameB.upd, ?_, by rw [List.length_append, List.length_singleton]; omega, fun x hx => (List.mem_append.mp hx).elim (hok x) fun h => ?_⟩
          · rw [upd_same]; unfold txs; rw [List.map_append]; rfl
          · rw [List.mem_singleton.mp h]
            refine ⟨by rw [List.length_map]; omega, by rw [List.length_map]; omega, fun y hy => ?_⟩
            obtain ⟨z, hzm, rfl⟩ := List.mem_map.mp hy
            obtain ⟨z0, z1⟩ := hz2 z hzm
            exact l24_in _ (by omega)
    · obtain ⟨nms, o6, o7, rfl, sB, hn, hlen, hok⟩ := pv
      exact ⟨_, rfl, q _ pn nms (fun b o hb => sB b o (ne_of_none hb hpnH) (s1 b o hb)) hpnH hn hlen hok⟩
theorem ok__law_take (T : Txt w K mg) {k : Nat}   : Cal P w K mg base CX0 (k + 1) "_law_take" ["_law_state"] (sp__law_take K) := by
  refine T.d__law_take.elim fun fa e => e.elim fun fd At => At.cal sc__law_take (fun vs H Q E h => ?_) (fun cdv A outer s H vs Q E hr h => ?_)
  · (first | (obtain ⟨_, rfl, _⟩ := h; rfl) | (obtain ⟨_, _, rfl, _⟩ := h; rfl) | (obtain ⟨_, _, _, rfl, _⟩ := h; rfl) | (obtain ⟨_, _, _, _, rfl, _⟩ := h; rfl) | (obtain ⟨_, _, _, _, _, rfl, _⟩ := h; rfl) | (obtain ⟨_, _, _, _, _, _, rfl, _⟩ := h; rfl) | (obtain ⟨_, _, _, _, _, _, _, rfl, _⟩ := h; rfl) | (obtain ⟨_, _, _, _, _, _, _, _, rfl, _⟩ := h; rfl) | (obtain ⟨_, _, _, _, _, _, _, _, _, rfl, _⟩ := h; rfl) | (obtain ⟨rfl, _⟩ := h; rfl) | exact h.elim)
  have m_len := T.m_len
  refine ⟨_, (@pss_cons _ _ _ _ _ (ps_asg (@pe_op _ _ _ _ _ _ _ _ op_add (@pe_ix _ _ _ _ _ _ _ ix_list (pv 0) pe_int (fun _ _ => rfl)) pe_int) (pg_sub (pv 0) pe_int set_list))
    (@pss_cons _ _ _ _ _ (@ps_if _ _ _ _ _ _ _ _ (pt_cmpR op_gt (@pe_ix _ _ _ _ _ _ _ ix_list (pv 0) pe_int (fun _ _ => rfl)) (pe_callB call_len_seq rfl m_len boLen (@pa_cons _ _ _ _ _ (@pe_ix _ _ _ _ _ _ _ ix_list (pv 0) pe_int (fun _ _ => rfl)) pa_nil rfl)) (nomark _))
    (@pss_one _ _ _ (@ps_ret _ _ _ _ pe_int))
    pss_nil)
    (@pss_one _ _ _ (@ps_ret _ _ _ _ (@pe_op _ _ _ _ _ _ _ _ op_mod (@pe_ix _ _ _ _ _ _ _ ix_list (@pe_ix _ _ _ _ _ _ _ ix_list (pv 0) pe_int (fun _ _ => rfl)) (@pe_op _ _ _ _ _ _ _ _ op_sub (@pe_ix _ _ _ _ _ _ _ ix_list (pv 0) pe_int (fun _ _ => rfl)) pe_int) (fun _ _ => rfl)) (@pe_op _ _ _ _ _ _ _ _ op_pow pe_int pe_int)))))), ?_⟩
  obtain ⟨ps, pc, ms, i, rfl, g, q⟩ := h
  refine ⟨_, rfl, ps, _, 1, _, rfl, rfl, SqL.of g.st, atI_nat (j := 1) rfl, _, _, rfl, rfl, _, rfl, ps, _, 1, 1, rfl, rfl, g.st, rfl, ?_⟩
  have ei : ((i : Nat) : Int) + 1 = ((i + 1 : Nat) : Int) := by omega
  show _
  have e1 : upd H ps (.lst ([V.ref pc, .int (i : Nat)].set 1 (.int (((i : Nat) : Int) + 1)))) = upd H ps (.lst [.ref pc, .int ((i + 1 : Nat) : Int)]) := by rw [ei]; rfl
  rw [e1]
  have h1 : upd H ps (.lst [.ref pc, .int ((i + 1 : Nat) : Int)]) ps = some (.lst [.ref pc, .int ((i + 1 : Nat) : Int)]) := upd_same
  have h2 : upd H ps (.lst [.ref pc, .int ((i + 1 : Nat) : Int)]) pc = some (.lst (ms.map V.int)) := by rw [upd_ne g.ne]; exact g.cs
  generalize upd H ps (.lst [.ref pc, .int ((i + 1 : Nat) : Int)]) = H1 at q h1 h2
  refine ⟨_, rfl, ps, _, 1, _, rfl, rfl, SqL.of h1, atI_nat (j := 1) rfl, _, rfl, ps, _, 0, _, rfl, rfl, SqL.of h1, atI_nat (j := 0) rfl, pc, _, rfl, .inl (SqL.of h2), _, _, rfl, rfl, _, rfl, ite2 (fun c => ?_) (fun c => ?_)⟩
  · exact q 0 (by omega)
  · have c' : ¬ (((ms.map V.int).length : Nat) : Int) < ((i + 1 : Nat) : Int) := of_decide_eq_false (Bool.eq_false_iff.mpr c)
    rw [List.length_map] at c'
    have hi : i < ms.length := by omega
    have e2 : ((i + 1 : Nat) : Int) - 1 = ((i : Nat) : Int) := by omega
    refine ⟨_, rfl, ps, _, 0, _, rfl, rfl, SqL.of h1, atI_nat (j := 0) rfl, _, rfl, ps, _, 1, _, rfl, rfl, SqL.of h1, atI_nat (j := 1) rfl, _, _, rfl, rfl, pc, _, _, .int (ms.getD i 0), rfl, rfl, SqL.of h2, ?_, _, _, rfl, rfl, ⟨by decide, by decide, by decide⟩, _, _, rfl, rfl, (by show (0 : Int) < 10 ^ Int.toNat 30; decide), ?_⟩
    · rw [e2]
      refine atI_nat ?_
      rw [List.getElem?_map, List.getElem?_eq_getElem hi, List.getD_eq_getElem?_getD, List.getElem?_eq_getElem hi]; rfl
    · exact q _ (Int.emod_nonneg _ (by decide))
theorem ok__law_node (T : Txt w K mg) {k : Nat} {n : Nat}  (G__law_signs : Cal P w K mg base CX0 k "_law_signs" ["_law_cell", "_law_many"] (sp__law_signs K)) (G__law_take : Cal P w K mg base CX0 k "_law_take" ["_law_state"] (sp__law_take K)) (G__law_form : Cal P w K mg base CX0 k "_law_form" ["_law_state", "_law_names_here", "_law_deep", "_law_many"] (sp__law_form n K)) : Cal P w K mg base CX0 (k + 1) "_law_node" ["_law_state", "_law_names_here", "_law_deep"] (sp__law_node n K) := by
  refine T.d__law_node.elim fun fa e => e.elim fun fd At => At.cal sc__law_node (fun vs H Q E h => ?_) (fun cdv A outer s H vs Q E hr h => ?_)
  · (first | (obtain ⟨_, rfl, _⟩ := h; rfl) | (obtain ⟨_, _, rfl, _⟩ := h; rfl) | (obtain ⟨_, _, _, rfl, _⟩ := h; rfl) | (obtain ⟨_, _, _, _, rfl, _⟩ := h; rfl) | (obtain ⟨_, _, _, _, _, rfl, _⟩ := h; rfl) | (obtain ⟨_, _, _, _, _, _, rfl, _⟩ := h; rfl) | (obtain ⟨_, _, _, _, _, _, _, rfl, _⟩ := h; rfl) | (obtain ⟨_, _, _, _, _, _, _, _, rfl, _⟩ := h; rfl) | (obtain ⟨_, _, _, _, _, _, _, _, _, rfl, _⟩ := h; rfl) | (obtain ⟨rfl, _⟩ := h; rfl) | exact h.elim)
  have m_len := T.m_len
  refine ⟨_, (@pss_cons _ _ _ _ _ (@ps_set _ _ 3 _ _ _ _ sc__law_node.nd rfl (Or.inl rfl) (pe_cal G__law_take hr (@pa_cons _ _ _ _ _ (pv 0) pa_nil rfl) rfl) rfl (Or.inl rfl))
    (@pss_cons _ _ _ _ _ (@ps_set _ _ 4 _ _ _ _ sc__law_node.nd rfl (Or.inl rfl) (@pe_ix _ _ _ _ _ _ _ ix_list (@pe_lst _ _ _ _ (@pa_txs _ _ [[116, 101, 120, 116], [116, 101, 120, 116], [103, 97, 112], [105, 102], [101, 97, 99, 104], [117, 115, 101]] (by decide +kernel))) (@pe_op _ _ _ _ _ _ _ _ (op_modL 6 (by decide)) (pv 3) pe_int) (fun _ _ => rfl)) rfl (Or.inl rfl))
    (@pss_cons _ _ _ _ _ (@ps_set _ _ 3 _ _ _ _ sc__law_node.nd rfl (Or.inl rfl) (@pe_op _ _ _ _ _ _ _ _ (op_divL 6 (by decide) (by decide)) (pv 3) pe_int) rfl (Or.inl rfl))
    (@pss_cons _ _ _ _ _ (@ps_set _ _ 5 _ _ _ _ sc__law_node.nd rfl (Or.inl rfl) (@pe_ix _ _ _ _ _ _ _ ix_list (pv 1) (@pe_op _ _ _ _ _ _ _ _ op_mod (pv 3) (pe_callB call_len_seq rfl m_len boLen (@pa_cons _ _ _ _ _ (pv 1) pa_nil rfl))) (fun _ _ => rfl)) rfl (Or.inl rfl))
    (@pss_cons _ _ _ _ _ (@ps_set _ _ 3 _ _ _ _ sc__law_node.nd rfl (Or.inl rfl) (@pe_op _ _ _ _ _ _ _ _ op_fdiv (pv 3) (pe_callB call_len_seq rfl m_len boLen (@pa_cons _ _ _ _ _ (pv 1) pa_nil rfl))) rfl (Or.inl rfl))
    (@pss_cons _ _ _ _ _ (@ps_if _ _ _ _ _ _ _ _ (PW.pt (pw_and (pt_cmpR op_in_seq (pv 4) (@pe_tup _ _ _ _ _ (@pa_cons _ _ _ _ _ (@pe_tx _ _ [105, 102] _ _ rfl) (@pa_cons _ _ _ _ _ (@pe_tx _ _ [101, 97, 99, 104] _ _ (by decide +kernel)) pa_nil star_c) star_c)) (by with_unfolding_all rfl)) (pw_and1 (pt_cmpR op_lt (pv 2) pe_int (nomark _)))))
    (@pss_cons _ _ _ _ _ (@ps_set _ _ 6 _ _ _ _ sc__law_node.nd rfl (Or.inl rfl) (pe_cal G__law_form hr (@pa_cons _ _ _ _ _ (pv 0) (@pa_cons _ _ _ _ _ (pv 1) (@pa_cons _ _ _ _ _ (@pe_op _ _ _ _ _ _ _ _ op_add (pv 2) pe_int) (@pa_cons _ _ _ _ _ (@pe_op _ _ _ _ _ _ _ _ (op_modL 4 (by decide)) (pv 3) pe_int) pa_nil star_b) star_b) star_n) star_n) rfl) rfl (Or.inl rfl))
      (@pss_cons _ _ _ _ _ (@ps_if _ _ _ _ _ _ _ _ (pt_cmpR op_eq (pv 4) (@pe_tx _ _ [101, 97, 99, 104] _ _ (by decide +kernel)) (nomark _))
      (@pss_one _ _ _ (@ps_ret _ _ _ _ (@pe_tup _ _ _ _ _ (@pa_cons _ _ _ _ _ (@pe_tx _ _ [101, 97, 99, 104] _ _ (by decide +kernel)) (@pa_cons _ _ _ _ _ (pv 5) (@pa_cons _ _ _ _ _ (pv 6) pa_nil star_n) star_n) star_c))))
      pss_nil)
      (@pss_one _ _ _ (@ps_ret _ _ _ _ (@pe_tup _ _ _ _ _ (@pa_cons _ _ _ _ _ (@pe_tx _ _ [105, 102] _ _ rfl) (@pa_cons _ _ _ _ _ (pv 5) (@pa_cons _ _ _ _ _ (pv 6) (@pa_cons _ _ _ _ _ (pe_cal G__law_form hr (@pa_cons _ _ _ _ _ (pv 0) (@pa_cons _ _ _ _ _ (pv 1) (@pa_cons _ _ _ _ _ (@pe_op _ _ _ _ _ _ _ _ op_add (pv 2) pe_int) (@pa_cons _ _ _ _ _ (@pe_op _ _ _ _ _ _ _ _ (op_modL 3 (by decide)) (@pe_op _ _ _ _ _ _ _ _ (op_divL 4 (by decide) (by decide)) (pv 3) pe_int) pe_int) pa_nil star_b) star_b) star_n) star_n) rfl) pa_nil star_k) star_n) star_n) star_c))))))
    pss_nil)
    (@pss_cons _ _ _ _ _ (@ps_if _ _ _ _ _ _ _ _ (pt_cmpR op_in_seq (pv 4) (@pe_tup _ _ _ _ _ (@pa_cons _ _ _ _ _ (@pe_tx _ _ [103, 97, 112] _ _ rfl) (@pa_cons _ _ _ _ _ (@pe_tx _ _ [117, 115, 101] _ _ rfl) pa_nil star_c) star_c)) (by with_unfolding_all rfl))
    (@pss_one _ _ _ (@ps_ret _ _ _ _ (@pe_tup _ _ _ _ _ (@pa_cons _ _ _ _ _ (pv 4) (@pa_cons _ _ _ _ _ (pv 5) pa_nil star_n) star_n))))
    pss_nil)
    (@pss_one _ _ _ (@ps_ret _ _ _ _ (@pe_tup _ _ _ _ _ (@pa_cons _ _ _ _ _ (@pe_tx _ _ [116, 101, 120, 116] _ _ (by decide +kernel)) (@pa_cons _ _ _ _ _ (pe_cal G__law_signs hr (@pa_cons _ _ _ _ _ (pv 3) (@pa_cons _ _ _ _ _ (@pe_op _ _ _ _ _ _ _ _ (op_modL 9 (by decide)) (pv 3) pe_int) pa_nil star_b) star_n) rfl) pa_nil star_k) star_c))))))))))), ?_⟩
  obtain ⟨ps, pc, pn, ms, i, nms, hn3, rfl, g, hpn, npn, hl4, hok, q⟩ := h
  refine ⟨_, rfl, ps, pc, ms, i, rfl, g, fun cv c0 => ?_⟩
  have sB1 : SameB ps H (upd H ps (.lst [.ref pc, .int ((i + 1 : Nat) : Int)])) := SameB.upd
  have st1 : upd H ps (.lst [.ref pc, .int ((i + 1 : Nat) : Int)]) ps = some (.lst [.ref pc, .int ((i + 1 : Nat) : Int)]) := upd_same
  generalize upd H ps (.lst [.ref pc, .int ((i + 1 : Nat) : Int)]) = H1 at sB1 st1
  refine ⟨by show 6 ≤ sizeLine; decide, fun p1 hp1 => ?_⟩
  have s2 := same_new hp1 (.lst ([[116, 101, 120, 116], [116, 101, 120, 116], [103, 97, 112], [105, 102], [101, 97, 99, 104], [117, 115, 101]].map fun l => V.str (tx l)))
  have sB2 := sB1.trans (s2.b (p := ps))
  have st2 := s2 _ _ st1
  have pn2 := sB2 _ _ npn hpn
  have e6 : SqL K (upd H1 p1 (.lst ([[116, 101, 120, 116], [116, 101, 120, 116], [103, 97, 112], [105, 102], [101, 97, 99, 104], [117, 115, 101]].map fun l => V.str (tx l)))) p1 (W6.map fun l => V.str (tx l)) := SqL.of upd_same
  have hw6 := w6 (cv % 6).toNat (by omega)
  have hlen : (((txs nms).length : Nat) : Int) = 4 := by unfold txs; rw [List.length_map, hl4]; rfl
  refine ⟨_, rfl, _, rfl, rfl, p1, _, _, _, rfl, rfl, e6, tab_at (tab := W6) (by omega) (by show cv % 6 < 6; omega), _, rfl, _, rfl, rfl, ?_⟩
  refine ⟨_, rfl, _, rfl, _, rfl, pn, _, rfl, .inl (SqL.of pn2), _, _, rfl, rfl, (by show (0 : Int) < _; rw [hlen]; decide), pn, _, _, _, rfl, rfl, SqL.of pn2, txs_at (by rw [hlen]; omega) (by rw [hlen, hl4]; omega), ?_⟩
  have hnm : NmT (nms.getD (cv / 6 % (((txs nms).length : Nat) : Int)).toNat []) := by
    rw [hlen]
    refine hok _ ?_
    rw [List.getD_eq_getElem?_getD, List.getElem?_eq_getElem (show (cv / 6 % 4).toNat < nms.length by omega)]
    exact List.getElem_mem _
  refine ⟨_, rfl, _, rfl, pn, _, rfl, .inl (SqL.of pn2), _, _, rfl, rfl, by rw [hlen]; exact ⟨by decide, by decide⟩, ?_⟩
  dsimp only
  generalize nms.getD (cv / 6 % (((txs nms).length : Nat) : Int)).toNat [] = nm at hnm
  have hc0 : 0 ≤ cv / 6 / (((txs nms).length : Nat) : Int) := by rw [hlen]; omega
  generalize cv / 6 / (((txs nms).length : Nat) : Int) = cl at hc0
  generalize W6.getD (cv % 6).toNat [] = wd at hw6
  generalize upd H1 p1 (.lst ([[116, 101, 120, 116], [116, 101, 120, 116], [103, 97, 112], [105, 102], [101, 97, 99, 104], [117, 115, 101]].map fun l => V.str (tx l))) = H2 at sB2 st2 pn2
  have fin2 : ∀ (H5 : Hp) (w' x' : List Nat), SameB ps H H5 → H5 ps = some (.lst [.ref pc, .int ((i + 1 : Nat) : Int)]) → NdG (FmG n) (.tup [.str w', .str x']) → tn (.tup [.str w', .str x']) ≤ 8 → ∀ p, H5 p = none → Q (.ref p) (upd H5 p (.tup [.str (tx w'), .str (tx x')])) := fun H5 w' x' sB5 st5 hnd htn p hp =>
    q _ _ _ (i + 1) (by omega) (sB5.trans (same_new hp _).b) (same_new hp _ _ _ st5) (dt_tup (SqT.of (TuO_tup upd_same)) (dts_cons dt_str (dts_cons dt_str dts_nil))) hnd htn
  refine ⟨_, rfl, by show 2 ≤ sizeLine; decide, fun p3 hp3 => ?_⟩
  have s3 := same_new hp3 (.tup [.str (tx [105, 102]), .str (tx [101, 97, 99, 104])])
  have sB3 := sB2.trans (s3.b (p := ps))
  have st3 := s3 _ _ st2
  have pn3 := sB3 _ _ npn hpn
  have e3 : SqT K (upd H2 p3 (.tup [.str (tx [105, 102]), .str (tx [101, 97, 99, 104])])) p3 [.str (tx [105, 102]), .str (tx [101, 97, 99, 104])] := SqT.of upd_same
  generalize upd H2 p3 (.tup [.str (tx [105, 102]), .str (tx [101, 97, 99, 104])]) = H3 at sB3 st3 pn3 e3
  refine ⟨p3, _, rfl, .inr e3, rfl, rfl, _, rfl, ?_⟩
  rcases hw6 with rfl | rfl | rfl | rfl | rfl
  · refine ite2 (fun c => absurd c (by decide +kernel)) (fun _ => ?_)
    refine iteF ?_
    refine ⟨_, rfl, by show 2 ≤ sizeLine; decide, fun p4 hp4 => ?_⟩
    have s4 := same_new hp4 (.tup [.str (tx [103, 97, 112]), .str (tx [117, 115, 101])])
    refine ⟨p4, _, rfl, .inr (SqT.of upd_same), rfl, rfl, _, rfl, ite2 (fun c => absurd c (by decide +kernel)) (fun _ => ?_)⟩
    refine ⟨_, rfl, _, rfl, _, rfl, rfl, cl, (cl % 9).toNat, ?_, by omega, fun H5 l s5 hl hsg => ?_⟩
    · show [V.int cl, V.int (cl % 9)] = _
      rw [show (((cl % 9).toNat : Nat) : Int) = cl % 9 by omega]
    · exact ⟨by show 2 ≤ sizeLine; decide, fin2 _ _ _ ((sB3.trans (s4.b (p := ps))).trans (s5.b (p := ps))) (s5 _ _ (s4 _ _ st3)) (.inl ⟨l, rfl, hsg⟩) (by show l.length ≤ 8; omega)⟩
  · refine ite2 (fun c => absurd c (by decide +kernel)) (fun _ => ?_)
    refine iteF ?_
    refine ⟨_, rfl, by show 2 ≤ sizeLine; decide, fun p4 hp4 => ?_⟩
    have s4 := same_new hp4 (.tup [.str (tx [103, 97, 112]), .str (tx [117, 115, 101])])
    refine ⟨p4, _, rfl, .inr (SqT.of upd_same), rfl, rfl, _, rfl, ite2 (fun _ => ?_) (fun c => absurd (by decide +kernel) c)⟩
    refine ⟨_, rfl, _, rfl, by show 2 ≤ sizeLine; decide, ?_⟩
    exact fin2 _ _ _ (sB3.trans (s4.b (p := ps))) (s4 _ _ st3) (.inr (.inl ⟨nm, rfl, hnm⟩)) (Nat.zero_le _)
  · refine ite2 (fun _ => ?_) (fun c => absurd (by decide +kernel) c)
    cases n with
    | zero =>
      refine ⟨_, rfl, _, _, rfl, rfl, _, rfl, ite2 (fun c => absurd c (by decide)) (fun _ => ?_)⟩
      refine ⟨_, rfl, by show 2 ≤ sizeLine; decide, fun p4 hp4 => ?_⟩
      have s4 := same_new hp4 (.tup [.str (tx [103, 97, 112]), .str (tx [117, 115, 101])])
      refine ⟨p4, _, rfl, .inr (SqT.of upd_same), rfl, rfl, _, rfl, ite2 (fun c => absurd c (by decide +kernel)) (fun _ => ?_)⟩
      refine ⟨_, rfl, _, rfl, _, rfl, rfl, cl, (cl % 9).toNat, ?_, by omega, fun H5 l s5 hl hsg => ?_⟩
      · show [V.int cl, V.int (cl % 9)] = _
        rw [show (((cl % 9).toNat : Nat) : Int) = cl % 9 by omega]
      · exact ⟨by show 2 ≤ sizeLine; decide, fin2 _ _ _ ((sB3.trans (s4.b (p := ps))).trans (s5.b (p := ps))) (s5 _ _ (s4 _ _ st3)) (.inl ⟨l, rfl, hsg⟩) (by show l.length ≤ 8; omega)⟩
    | succ n =>
      refine ⟨_, rfl, _, _, rfl, rfl, _, rfl, ite2 (fun _ => ?_) (fun c => absurd (decide_eq_true (show (4 - ((n + 1 : Nat) : Int)) < 4 by omega)) c)⟩
      refine ⟨_, rfl, _, rfl, _, rfl, _, _, rfl, rfl, _, rfl, _, rfl, rfl, ?_⟩
      refine ⟨ps, pc, pn, ms, i + 1, nms, (cl % 4).toNat, by omega, ?_, by omega, g.next sB3 st3, pn3, npn, hl4, hok, fun H4 v1 f1 j hj sB34 st4 hv1 hf1 => ?_⟩
      · show [V.ref ps, V.ref pn, V.int (4 - ((n + 1 : Nat) : Int) + 1), V.int (cl % 4)] = _
        rw [show (4 - ((n + 1 : Nat) : Int) + 1) = 4 - ((n : Nat) : Int) by omega, show (((cl % 4).toNat : Nat) : Int) = cl % 4 by omega]
      have sB4 := sB3.trans sB34
      refine ⟨_, rfl, rfl, _, rfl, ite2 (fun c => absurd c (by decide +kernel)) (fun _ => ?_)⟩
      refine ⟨_, rfl, _, rfl, _, rfl, _, rfl, _, rfl, _, _, rfl, rfl, _, rfl, _, rfl, rfl, _, rfl, rfl, ?_⟩
      refine ⟨ps, pc, pn, ms, j, nms, (cl / 4 % 3).toNat, by omega, ?_, by omega, g.next sB4 st4, sB4 _ _ npn hpn, npn, hl4, hok, fun H5 v2 f2 j2 hj2 sB5 st5 hv2 hf2 => ?_⟩
      · show [V.ref ps, V.ref pn, V.int (4 - ((n + 1 : Nat) : Int) + 1), V.int (cl / 4 % 3)] = _
        rw [show (4 - ((n + 1 : Nat) : Int) + 1) = 4 - ((n : Nat) : Int) by omega, show (((cl / 4 % 3).toNat : Nat) : Int) = cl / 4 % 3 by omega]
      refine ⟨by show 4 ≤ sizeLine; decide, fun p hp => ?_⟩
      have s6 := same_new hp (.tup [.str (tx [105, 102]), .str (tx nm), v1, v2])
      exact q _ _ (.tup [.str wIf, .str nm, .tup f1, .tup f2]) j2 (by omega) ((sB4.trans sB5).trans s6.b) (s6 _ _ st5) (dt_tup (SqT.of (TuO_tup upd_same)) (dts_cons dt_str (dts_cons dt_str (dts_cons (hv1.same ((sB5.t st4).trans s6.t).to) (dts_cons (hv2.same s6.t.to) dts_nil))))) (.inr (.inr (.inr (.inr ⟨nm, f1, f2, rfl, hnm, hf1, hf2⟩)))) (Nat.zero_le _)
  · refine ite2 (fun _ => ?_) (fun c => absurd (by decide +kernel) c)
    cases n with
    | zero =>
      refine ⟨_, rfl, _, _, rfl, rfl, _, rfl, ite2 (fun c => absurd c (by decide)) (fun _ => ?_)⟩
      refine ⟨_, rfl, by show 2 ≤ sizeLine; decide, fun p4 hp4 => ?_⟩
      have s4 := same_new hp4 (.tup [.str (tx [103, 97, 112]), .str (tx [117, 115, 101])])
      refine ⟨p4, _, rfl, .inr (SqT.of upd_same), rfl, rfl, _, rfl, ite2 (fun c => absurd c (by decide +kernel)) (fun _ => ?_)⟩
      refine ⟨_, rfl, _, rfl, _, rfl, rfl, cl, (cl % 9).toNat, ?_, by omega, fun H5 l s5 hl hsg => ?_⟩
      · show [V.int cl, V.int (cl % 9)] = _
        rw [show (((cl % 9).toNat : Nat) : Int) = cl % 9 by omega]
      · exact ⟨by show 2 ≤ sizeLine; decide, fin2 _ _ _ ((sB3.trans (s4.b (p := ps))).trans (s5.b (p := ps))) (s5 _ _ (s4 _ _ st3)) (.inl ⟨l, rfl, hsg⟩) (by show l.length ≤ 8; omega)⟩
    | succ n =>
      refine ⟨_, rfl, _, _, rfl, rfl, _, rfl, ite2 (fun _ => ?_) (fun c => absurd (decide_eq_true (show (4 - ((n + 1 : Nat) : Int)) < 4 by omega)) c)⟩
      refine ⟨_, rfl, _, rfl, _, rfl, _, _, rfl, rfl, _, rfl, _, rfl, rfl, ?_⟩
      refine ⟨ps, pc, pn, ms, i + 1, nms, (cl % 4).toNat, by omega, ?_, by omega, g.next sB3 st3, pn3, npn, hl4, hok, fun H4 v1 f1 j hj sB34 st4 hv1 hf1 => ?_⟩
      · show [V.ref ps, V.ref pn, V.int (4 - ((n + 1 : Nat) : Int) + 1), V.int (cl % 4)] = _
        rw [show (4 - ((n + 1 : Nat) : Int) + 1) = 4 - ((n : Nat) : Int) by omega, show (((cl % 4).toNat : Nat) : Int) = cl % 4 by omega]
      have sB4 := sB3.trans sB34
      refine ⟨_, rfl, rfl, _, rfl, ite2 (fun _ => ?_) (fun c => absurd (by decide +kernel) c)⟩
      refine ⟨_, rfl, _, rfl, by show 3 ≤ sizeLine; decide, fun p hp => ?_⟩
      have s6 := same_new hp (.tup [.str (tx [101, 97, 99, 104]), .str (tx nm), v1])
      exact q _ _ (.tup [.str wEach, .str nm, .tup f1]) j (by omega) (sB4.trans s6.b) (s6 _ _ st4) (dt_tup (SqT.of (TuO_tup upd_same)) (dts_cons dt_str (dts_cons dt_str (dts_cons (hv1.same s6.t.to) dts_nil)))) (.inr (.inr (.inr (.inl ⟨nm, f1, rfl, hnm, hf1⟩)))) (Nat.zero_le _)
  · refine ite2 (fun c => absurd c (by decide +kernel)) (fun _ => ?_)
    refine iteF ?_
    refine ⟨_, rfl, by show 2 ≤ sizeLine; decide, fun p4 hp4 => ?_⟩
    have s4 := same_new hp4 (.tup [.str (tx [103, 97, 112]), .str (tx [117, 115, 101])])
    refine ⟨p4, _, rfl, .inr (SqT.of upd_same), rfl, rfl, _, rfl, ite2 (fun _ => ?_) (fun c => absurd (by decide +kernel) c)⟩
    refine ⟨_, rfl, _, rfl, by show 2 ≤ sizeLine; decide, ?_⟩
    exact fin2 _ _ _ (sB3.trans (s4.b (p := ps))) (s4 _ _ st3) (.inr (.inr (.inl ⟨nm, rfl, hnm⟩))) (Nat.zero_le _)
theorem ok__law_form (T : Txt w K mg) {k : Nat} {n : Nat}  (G__law_node : Cal P w K mg base CX0 k "_law_node" ["_law_state", "_law_names_here", "_law_deep"] (sp__law_node n K)) : Cal P w K mg base CX0 (k + 1) "_law_form" ["_law_state", "_law_names_here", "_law_deep", "_law_many"] (sp__law_form (n + 1) K) := by
  refine T.d__law_form.elim fun fa e => e.elim fun fd At => At.cal sc__law_form (fun vs H Q E h => ?_) (fun cdv A outer s H vs Q E hr h => ?_)
  · (first | (obtain ⟨_, rfl, _⟩ := h; rfl) | (obtain ⟨_, _, rfl, _⟩ := h; rfl) | (obtain ⟨_, _, _, rfl, _⟩ := h; rfl) | (obtain ⟨_, _, _, _, rfl, _⟩ := h; rfl) | (obtain ⟨_, _, _, _, _, rfl, _⟩ := h; rfl) | (obtain ⟨_, _, _, _, _, _, rfl, _⟩ := h; rfl) | (obtain ⟨_, _, _, _, _, _, _, rfl, _⟩ := h; rfl) | (obtain ⟨_, _, _, _, _, _, _, _, rfl, _⟩ := h; rfl) | (obtain ⟨_, _, _, _, _, _, _, _, _, rfl, _⟩ := h; rfl) | (obtain ⟨rfl, _⟩ := h; rfl) | exact h.elim)
  have m_range := T.m_range
  have m_tuple := T.m_tuple
  refine ⟨_, (@pss_one _ _ _ (@ps_ret _ _ _ _ (pe_callTy call_tuple_of rfl m_tuple boTuple (@pa_cons _ _ _ _ _ (pe_comp (vars := ["_law_k"]) (frs' := ["_law_state", "_law_names_here", "_law_deep"]) (fr := [0, 1, 2]) rfl (CompScope.free rfl (by decide +kernel) rfl (.cons ⟨rfl, rfl⟩ (.cons ⟨rfl, rfl⟩ (.cons ⟨rfl, rfl⟩ .nil)))) (pi_range1 rfl m_range (@pa_cons _ _ _ _ _ (pv 3) pa_nil rfl)) (fun pins cl C fp s H => ⟨pgc 0 (by decide +kernel) rfl rfl, pifs_nil, (pe_cal G__law_node hr (@pa_cons _ _ _ _ _ (pv 1) (@pa_cons _ _ _ _ _ (pv 2) (@pa_cons _ _ _ _ _ (pv 3) pa_nil star_n) star_n) star_n) rfl)⟩)) pa_nil rfl)))), ?_⟩
  obtain ⟨ps, pc, pn, ms, i, nms, m, hn3, rfl, hm, g, hpn, npn, hl4, hok, q⟩ := h
  refine ⟨_, rfl, _, rfl, by omega, by omega, ?_⟩
  rw [Int.toNat_natCast]
  refine comp_range (fun t σ ys H2 => ∃ (o : Option V) (ds : List Dt) (j : Nat), σ = [o, some (.ref ps), some (.ref pn), some (.int (4 - (n : Nat)))] ∧ i ≤ j ∧ SameB ps H H2 ∧ H2 ps = some (.lst [.ref pc, .int ((j : Nat) : Int)]) ∧ IsDts K (TuO H2) ds ys ∧ ds.length = t ∧ ∀ d ∈ ds, NdG (FmG n) d ∧ tn d ≤ 8)
    ⟨none, [], i, rfl, Nat.le_refl _, SameB.refl _ _, g.st, dts_nil, rfl, (fun d hd => nomatch hd)⟩ (small (by omega)) (fun t σ ys H2 ht pv => ?_) (fun t σ ys H2 ht pv => ?_) (fun σ ys H2 pv => ?_)
  · obtain ⟨o, ds, j, rfl, _, _, _, hd, hl, _⟩ := pv
    rw [← hd.len]; omega
  · obtain ⟨o, ds, j, rfl, hij, sB, hst, hd, hl, ha⟩ := pv
    refine ⟨_, rfl, _, rfl, _, rfl, ps, pc, pn, ms, j, nms, hn3, rfl, g.next sB hst, sB _ _ npn hpn, npn, hl4, hok, fun H3 v d j' hj sB3 hst3 hv hnd htn => ?_⟩
    exact ⟨_, ds ++ [d], j', rfl, by omega, sB.trans sB3, hst3, dts_snoc (hd.same (sB3.t hst).to) hv, by rw [List.length_append, List.length_singleton]; omega, fun e he => (List.mem_append.mp he).elim (ha e) fun h => by rw [List.mem_singleton.mp h]; exact ⟨hnd, htn⟩⟩
  · obtain ⟨o, ds, j, rfl, hij, sB, hst, hd, hl, ha⟩ := pv
    intro p hp
    refine ⟨p, _, rfl, .inl ⟨SqL.of upd_same, fun pt hpt => ?_⟩⟩
    have s1 := (same_new hp (.lst ys)).trans (same_new hpt (.tup ys))
    have et : upd (upd H2 p (.lst ys)) pt (.tup ys) pt = some (.tup ys) := upd_same
    generalize upd (upd H2 p (.lst ys)) pt (.tup ys) = H3 at s1 et
    refine q H3 _ ds j hij (sB.trans s1.b) (s1 _ _ hst) (dt_tup (SqT.of (TuO_tup et)) (hd.same s1.t.to)) ⟨by omega, ?_, fun d hd' => (ha d hd').1⟩
    have := tlen_le ds 8 fun d hd' => (ha d hd').2
    omega
theorem ok__law_grown (T : Txt w K mg) {k : Nat}  (G__law_node : Cal P w K mg base CX0 k "_law_node" ["_law_state", "_law_names_here", "_law_deep"] (sp__law_node 3 K)) : Cal P w K mg base CX0 (k + 1) "_law_grown" ["_law_cells_here", "_law_names_here"] (sp__law_grown K) := by
  refine T.d__law_grown.elim fun fa e => e.elim fun fd At => At.cal sc__law_grown (fun vs H Q E h => ?_) (fun cdv A outer s H vs Q E hr h => ?_)
  · (first | (obtain ⟨_, rfl, _⟩ := h; rfl) | (obtain ⟨_, _, rfl, _⟩ := h; rfl) | (obtain ⟨_, _, _, rfl, _⟩ := h; rfl) | (obtain ⟨_, _, _, _, rfl, _⟩ := h; rfl) | (obtain ⟨_, _, _, _, _, rfl, _⟩ := h; rfl) | (obtain ⟨_, _, _, _, _, _, rfl, _⟩ := h; rfl) | (obtain ⟨_, _, _, _, _, _, _, rfl, _⟩ := h; rfl) | (obtain ⟨_, _, _, _, _, _, _, _, rfl, _⟩ := h; rfl) | (obtain ⟨_, _, _, _, _, _, _, _, _, rfl, _⟩ := h; rfl) | (obtain ⟨rfl, _⟩ := h; rfl) | exact h.elim)
  have m_len := T.m_len
  have m_tuple := T.m_tuple
  refine ⟨_, (@pss_cons _ _ _ _ _ (@ps_set _ _ 2 _ _ _ _ sc__law_grown.nd rfl (Or.inl rfl) (@pe_lst _ _ _ _ (@pa_cons _ _ _ _ _ (pv 0) (@pa_cons _ _ _ _ _ pe_int pa_nil star_c) star_n)) rfl (Or.inl rfl))
    (@pss_cons _ _ _ _ _ (@ps_set _ _ 3 _ _ _ _ sc__law_grown.nd rfl (Or.inl rfl) (@pe_lst _ _ _ _ pa_nil) rfl (Or.inl rfl))
    (@pss_cons _ _ _ _ _ (ps_while PassesOwn.never (pt_cmpR op_lt (@pe_ix _ _ _ _ _ _ _ ix_list (pv 2) pe_int (fun _ _ => rfl)) (pe_callB call_len_seq rfl m_len boLen (@pa_cons _ _ _ _ _ (pv 0) pa_nil rfl)) (nomark _))
    (@pss_one _ _ _ (ps_expr (pe_bm PySem.F.plainAttrs_list PySem.F.slot_list_append PySem.F.type_list_append mt_append (pv 3) (@pa_cons _ _ _ _ _ (pe_cal G__law_node hr (@pa_cons _ _ _ _ _ (pv 2) (@pa_cons _ _ _ _ _ (pv 1) (@pa_cons _ _ _ _ _ pe_int pa_nil star_c) star_n) star_n) rfl) pa_nil rfl)))))
    (@pss_one _ _ _ (@ps_ret _ _ _ _ (pe_callTy call_tuple_of rfl m_tuple boTuple (@pa_cons _ _ _ _ _ (pv 3) pa_nil rfl))))))), ?_⟩
  obtain ⟨pc, pn, ms, nms, rfl, hpc, hm40, hpn, hl4, hok, q⟩ := h
  refine ⟨_, rfl, by show 2 ≤ sizeLine; decide, fun ps hps => ?_⟩
  have npc : pc ≠ ps := ne_of_none hpc hps
  have npn : pn ≠ ps := ne_of_none hpn hps
  have s1 := same_new hps (.lst [.ref pc, .int 0])
  have st1 : upd H ps (.lst [.ref pc, .int 0]) ps = some (.lst [.ref pc, .int ((0 : Nat) : Int)]) := upd_same
  generalize upd H ps (.lst [.ref pc, .int 0]) = H1 at s1 st1
  refine ⟨by show 0 ≤ sizeLine; decide, fun pl hpl => ?_⟩
  have hplH : H pl = none := s1.free hpl
  have nps : ps ≠ pl := ne_of_none st1 hpl
  have s2 := same_new hpl (.lst [])
  have st2 := s2 _ _ st1
  have el : upd H1 pl (.lst []) pl = some (.lst []) := upd_same
  have s12 := s1.trans s2
  generalize upd H1 pl (.lst []) = H2 at s2 st2 el s12
  refine while_by (fun σ H3 => ∃ (j : Nat) (ds : List Dt) (vs : List V), σ = [some (.ref pc), some (.ref pn), some (.ref ps), some (.ref pl)] ∧ Same H H3 ∧ H3 ps = some (.lst [.ref pc, .int ((j : Nat) : Int)]) ∧ H3 pl = some (.lst vs) ∧ IsDts K (TuO H3) ds vs ∧ ds.length ≤ j ∧ ds.length ≤ 40 ∧ ∀ d ∈ ds, NdG (FmG 3) d ∧ tn d ≤ 8)
    (fun σ H3 => match H3 ps with | some (.lst [_, .int j]) => ms.length - j.toNat | _ => 0) ⟨0, [], [], rfl, s12, st2, el, dts_nil, Nat.le_refl _, by simp, (fun d hd => nomatch hd)⟩ (fun σ H3 pv => ?_) (fun σ H Q Q' h ⟨a, b, c, d, e, f, g1, g2, g3, g4, a2, b2, c2, d2, e2, f2, i, j, k, l, m, n, q⟩ => ⟨a, b, c, d, e, f, g1, g2, g3, g4, a2, b2, c2, d2, e2, f2, i, j, k, l, m, n, h _ _ q⟩)
  obtain ⟨j, ds, vs, rfl, sH, hst, hl, hd, hdj, hd40, ha⟩ := pv
  have hpc3 := sH _ _ hpc
  refine ⟨_, rfl, ps, _, 1, _, rfl, rfl, SqL.of hst, atI_nat (j := 1) rfl, _, rfl, pc, _, rfl, .inl (SqL.of hpc3), _, _, rfl, rfl, _, rfl, ite2 (fun c => ?_) (fun c => ?_)⟩
  · have hlt : j < ms.length := by
      have := of_decide_eq_true c
      rw [List.length_map] at this
      omega
    refine ⟨_, rfl, .inl ⟨rfl, _, SqL.of hl⟩, _, rfl, _, rfl, ps, pc, pn, ms, j, nms, by decide, rfl, ⟨hst, hpc3, npc⟩, sH _ _ hpn, npn, hl4, hok, fun H4 v d j' hj sB4 hst4 hv hnd htn => ?_⟩
    have hl4' := sB4 _ _ (Ne.symm nps) hl
    refine ⟨pl, _, _, rfl, rfl, hl4', small (by rw [← hd.len]; omega), ?_⟩
    have sT : SameT H3 H4 := sB4.t hst
    have sT2 : SameT H4 (upd H4 pl (.lst (vs ++ [v]))) := SameT.put hl4'
    refine ⟨⟨j', ds ++ [d], vs ++ [v], rfl, ?_, ?_, upd_same, dts_snoc (hd.same (sT.trans sT2).to) (hv.same sT2.to), ?_, ?_, fun e he => (List.mem_append.mp he).elim (ha e) fun h => by rw [List.mem_singleton.mp h]; exact ⟨hnd, htn⟩⟩, ?_⟩
    · intro b o hb
      have h3 := sH b o hb
      have nb : b ≠ pl := ne_of_none hb hplH
      have nb2 : b ≠ ps := ne_of_none hb hps
      rw [upd_ne nb]
      exact sB4 b o nb2 h3
    · rw [upd_ne nps]; exact hst4
    · rw [List.length_append, List.length_singleton]; omega
    · rw [List.length_append, List.length_singleton]; omega
    · show (match upd H4 pl (.lst (vs ++ [v])) ps with | some (.lst [_, .int j]) => ms.length - j.toNat | _ => 0) < (match H3 ps with | some (.lst [_, .int j]) => ms.length - j.toNat | _ => 0)
      rw [upd_ne nps, hst4, hst]
      show ms.length - ((j' : Nat) : Int).toNat < ms.length - ((j : Nat) : Int).toNat
      omega
  · refine ⟨_, rfl, pl, _, rfl, .inl ⟨SqL.of hl, fun pt hpt => ?_⟩⟩
    have s5 := same_new hpt (.tup vs)
    refine q _ _ ds (sH.trans s5) (dt_tup (SqT.of (TuO_tup upd_same)) (hd.same s5.t.to)) ⟨hd40, ?_, fun d hd' => (ha d hd').1⟩
    have := tlen_le ds 8 fun d hd' => (ha d hd').2
    omega
theorem ok__law_split (T : Txt w K mg) {k : Nat}   : Cal P w K mg base CX0 (k + 1) "_law_split" ["_law_form_here"] (sp__law_split K) := by
  refine T.d__law_split.elim fun fa e => e.elim fun fd At => At.cal sc__law_split (fun vs H Q E h => ?_) (fun cdv A outer s H vs Q E hr h => ?_)
  · (first | (obtain ⟨_, rfl, _⟩ := h; rfl) | (obtain ⟨_, _, rfl, _⟩ := h; rfl) | (obtain ⟨_, _, _, rfl, _⟩ := h; rfl) | (obtain ⟨_, _, _, _, rfl, _⟩ := h; rfl) | (obtain ⟨_, _, _, _, _, rfl, _⟩ := h; rfl) | (obtain ⟨_, _, _, _, _, _, rfl, _⟩ := h; rfl) | (obtain ⟨_, _, _, _, _, _, _, rfl, _⟩ := h; rfl) | (obtain ⟨_, _, _, _, _, _, _, _, rfl, _⟩ := h; rfl) | (obtain ⟨_, _, _, _, _, _, _, _, _, rfl, _⟩ := h; rfl) | (obtain ⟨rfl, _⟩ := h; rfl) | exact h.elim)
  refine ⟨_, (@pss_cons _ _ _ _ _ (@ps_set _ _ 1 _ _ _ _ sc__law_split.nd rfl (Or.inl rfl) (@pe_lst _ _ _ _ (@pa_cons _ _ _ _ _ (@pe_tx _ _ [] _ _ rfl) pa_nil rfl)) rfl (Or.inl rfl))
    (@pss_cons _ _ _ _ _ (@ps_set _ _ 2 _ _ _ _ sc__law_split.nd rfl (Or.inl rfl) (@pe_lst _ _ _ _ pa_nil) rfl (Or.inl rfl))
    (@pss_cons _ _ _ _ _ (ps_for PassesOwn.never rfl (pi_tup (pv 0)) (pg_name (i := 3) sc__law_split.nd rfl (Or.inl rfl))
    (@pss_one _ _ _ (@ps_if _ _ _ _ _ _ _ _ (pt_cmpR op_eq (@pe_ix _ _ _ _ _ _ _ ix_tup (pv 3) pe_int (fun _ _ => rfl)) (@pe_tx _ _ [116, 101, 120, 116] _ _ (by decide +kernel)) (nomark _))
      (@pss_one _ _ _ (ps_asg (@pe_op _ _ _ _ _ _ _ _ op_addS (@pe_ix _ _ _ _ _ _ _ ix_list (pv 1) (pe_un un_neg pe_int) (fun _ _ => rfl)) (@pe_ix _ _ _ _ _ _ _ ix_tup (pv 3) pe_int (fun _ _ => rfl))) (pg_sub (pv 1) (pe_un un_neg pe_int) set_list)))
      (@pss_cons _ _ _ _ _ (ps_expr (pe_bm PySem.F.plainAttrs_list PySem.F.slot_list_append PySem.F.type_list_append mt_append (pv 2) (@pa_cons _ _ _ _ _ (pv 3) pa_nil rfl)))
        (@pss_one _ _ _ (ps_expr (pe_bm PySem.F.plainAttrs_list PySem.F.slot_list_append PySem.F.type_list_append mt_append (pv 1) (@pa_cons _ _ _ _ _ (@pe_tx _ _ [] _ _ rfl) pa_nil rfl))))))))
    (@pss_one _ _ _ (@ps_ret _ _ _ _ (@pe_tup _ _ _ _ _ (@pa_cons _ _ _ _ _ (pv 1) (@pa_cons _ _ _ _ _ (pv 2) pa_nil star_n) star_n))))))), ?_⟩
  obtain ⟨v, n, ds, rfl, hv, hf, q⟩ := h
  obtain ⟨a, us, rfl, hS, hd⟩ := dt_tup_inv hv
  cases n with
  | zero => exact hf.elim
  | succ n =>
  obtain ⟨hf1, hf2, hf3⟩ := hf
  refine ⟨by show 1 ≤ sizeLine; decide, fun pt hpt => ⟨by show 0 ≤ sizeLine; decide, fun pn hpn => ?_⟩⟩
  have npt : pn ≠ pt := fun z => by rw [z, upd_same] at hpn; cases hpn
  have s1 := (same_new hpt (.lst [.str (tx [])])).trans (same_new hpn (.lst []))
  have et1 : upd (upd H pt (.lst [.str (tx [])])) pn (.lst []) pt = some (.lst (txs ([] ++ [[]]))) := by rw [upd_ne (Ne.symm npt), upd_same]; rfl
  have en1 : upd (upd H pt (.lst [.str (tx [])])) pn (.lst []) pn = some (.lst []) := upd_same
  have hpnH : H pn = none := (same_new hpt (.lst [.str (tx [])])).free hpn
  generalize upd (upd H pt (.lst [.str (tx [])])) pn (.lst []) = H1 at s1 en1 et1
  refine ⟨_, rfl, a, rfl, ⟨us, s1.tup (TuO_seq hS)⟩, ?_⟩
  refine for_tup (xs := us) (fun i σ H2 => ∃ (ts : List (List Nat)) (t : List Nat) (ns : List Dt) (vs : List V) (o : Option V), σ = [some (.ref a), some (.ref pt), some (.ref pn), o] ∧ Same H H2 ∧ H2 pt = some (.lst (txs (ts ++ [t]))) ∧ H2 pn = some (.lst vs) ∧ IsDts K (TuO H2) ns vs ∧
      ts ++ (spl t (ds.drop i)).1 = (spl [] ds).1 ∧ ns ++ (spl t (ds.drop i)).2 = (spl [] ds).2 ∧ t.length + tlen (ds.drop i) ≤ 320 ∧ ts.length ≤ i ∧ ns.length ≤ i)
    ⟨[], [], [], [], none, rfl, s1, et1, en1, dts_nil, rfl, rfl, by simpa using hf2, by simp, by simp⟩ (fun i σ H2 hi pv => ?_) (fun i z σ H2 hz pv => ?_) (fun σ H2 pv => ?_)
  · obtain ⟨ts, t, ns, vs, o, rfl, sH, _⟩ := pv
    exact sH.tup (TuO_seq hS)
  · obtain ⟨ts, t, ns, vs, o, rfl, sH, ht, hn, hns, hJ1, hJ2, hT, htl, hnl⟩ := pv
    obtain ⟨d, hdi, hdv⟩ := hd.atV hz
    have hdm : d ∈ ds := List.mem_of_getElem? hdi
    have hi40 : i < ds.length := (List.getElem?_eq_some_iff.mp hdi).1
    have hdrop : ds.drop i = d :: ds.drop (i + 1) := by
      obtain ⟨h1, h2⟩ := List.getElem?_eq_some_iff.mp hdi
      rw [List.drop_eq_getElem_cons h1, h2]
    have hdv2 := hdv.same sH.t.to
    obtain ⟨c, w2, x2, r2, rfl, hc, hwt, htx, _⟩ := node_head (hf3 d hdm) hdv2
    have hc' := TuO_seq hc
    rw [hdrop] at hJ1 hJ2 hT
    rw [tlen_cons] at hT
    refine ⟨_, rfl, c, _, 0, _, rfl, rfl, hc', atI_nat (j := 0) rfl, rfl, _, rfl, ?_⟩
    have cmp : decide (V.str (tx w2) = V.str (tx [116, 101, 120, 116])) = decide (w2 = wText) := by
      by_cases e : w2 = wText
      · rw [e]; rfl
      · rw [decide_eq_false e, decide_eq_false (show ¬ V.str (tx w2) = V.str (tx [116, 101, 120, 116]) from fun z => e (V.str_inj.mp z))]
    rw [cmp]
    have elen : (txs (ts ++ [t])).length = ts.length + 1 := by unfold txs; rw [List.length_map, List.length_append, List.length_singleton]
    cases hd' : txtOf d with
    | some l =>
      obtain ⟨rfl, rfl⟩ := htx l hd'
      rw [hd'] at hwt
      rw [decide_eq_true (hwt.mpr rfl)]
      rw [spl_text hd'] at hJ1 hJ2
      have htn : tn d = x2.length := by unfold tn; rw [hd']
      have hat : atI (txs (ts ++ [t])) (-1) = some (.str (tx t)) := by
        unfold atI
        rw [elen, ixN_last (by omega)]
        show (txs (ts ++ [t]))[ts.length + 1 - 1]? = _
        unfold txs
        simp
      refine iteT ⟨_, rfl, _, rfl, pt, _, _, _, rfl, rfl, SqL.of ht, hat, _, rfl, c, _, 1, _, rfl, rfl, hc', atI_nat (j := 1) rfl, _, _, rfl, rfl, smallE (by omega), _, rfl, _, rfl, pt, _, _, ts.length, rfl, rfl, ht, by rw [elen]; exact ixN_last (by omega), ?_⟩
      have eset : (txs (ts ++ [t])).set ts.length (.str (tx (t ++ x2))) = txs (ts ++ [t ++ x2]) := txs_set t (t ++ x2) ts
      rw [eset]
      refine ⟨ts, t ++ x2, ns, vs, _, rfl, fun b o hb => by rw [upd_ne (ne_of_none hb hpt)]; exact sH b o hb, upd_same, by rw [upd_ne npt]; exact hn, hns.same (SameT.put ht).to, hJ1, hJ2, by rw [List.length_append]; omega, by omega, by omega⟩
    | none =>
      rw [hd'] at hwt
      rw [decide_eq_false (show ¬ w2 = wText from fun z => by have := hwt.mp z; cases this)]
      rw [spl_node hd'] at hJ1 hJ2
      have hlv : vs.length = ns.length := hns.len.symm
      refine iteF ⟨_, rfl, .inl ⟨rfl, _, SqL.of hn⟩, _, rfl, pn, _, _, rfl, rfl, hn, small (by omega), ?_⟩
      have sT4 : SameT H2 (upd H2 pn (.lst (vs ++ [.ref c]))) := SameT.put hn
      have ht4 : upd H2 pn (.lst (vs ++ [.ref c])) pt = some (.lst (txs (ts ++ [t]))) := by rw [upd_ne (Ne.symm npt)]; exact ht
      have hn4 : upd H2 pn (.lst (vs ++ [.ref c])) pn = some (.lst (vs ++ [.ref c])) := upd_same
      have sH4 : Same H (upd H2 pn (.lst (vs ++ [.ref c]))) := fun b o hb => by rw [upd_ne (ne_of_none hb hpnH)]; exact sH b o hb
      have hns4 := dts_snoc (hns.same sT4.to) (hdv2.same sT4.to)
      generalize upd H2 pn (.lst (vs ++ [.ref c])) = H4 at sT4 ht4 hn4 sH4 hns4
      refine ⟨_, rfl, .inl ⟨rfl, _, SqL.of ht4⟩, pt, _, _, rfl, rfl, ht4, small (by rw [elen]; omega), ?_⟩
      refine ⟨ts ++ [t], [], _, _, _, rfl, fun b o hb => by rw [upd_ne (ne_of_none hb hpt)]; exact sH4 b o hb, ?_, by rw [upd_ne npt]; exact hn4, hns4.same (SameT.put ht4).to, ?_, ?_, ?_, by rw [List.length_append, List.length_singleton]; omega, by rw [List.length_append, List.length_singleton]; omega⟩
      · rw [upd_same]; unfold txs; rw [List.map_append (l₁ := ts ++ [t])]; rfl
      · rw [List.append_assoc]; exact hJ1
      · rw [List.append_assoc]; exact hJ2
      · simp only [List.length_nil]; omega
  · obtain ⟨ts, t, ns, vs, o, rfl, sH, ht, hn, hns, hJ1, hJ2, hT, htl, hnl⟩ := pv
    have hul : us.length = ds.length := hd.len.symm
    rw [hul, List.drop_length] at hJ1 hJ2
    refine ⟨_, rfl, _, rfl, by show 2 ≤ sizeLine; decide, fun p hp => ?_⟩
    have s9 := same_new hp (.tup [.ref pt, .ref pn])
    refine q _ p pt pn vs (sH.trans s9) upd_same (by rw [← hJ1]; exact s9 _ _ ht) (s9 _ _ hn) ?_
    rw [← hJ2]
    show IsDts K _ (ns ++ []) vs
    rw [List.append_nil]
    exact hns.same s9.t.to
theorem ok__law_is_joined (T : Txt w K mg) {k : Nat}   : Cal P w K mg base CX0 (k + 1) "_law_is_joined" ["_law_form_here"] (sp__law_is_joined K) := by
  refine T.d__law_is_joined.elim fun fa e => e.elim fun fd At => At.cal sc__law_is_joined (fun vs H Q E h => ?_) (fun cdv A outer s H vs Q E hr h => ?_)
  · (first | (obtain ⟨_, rfl, _⟩ := h; rfl) | (obtain ⟨_, _, rfl, _⟩ := h; rfl) | (obtain ⟨_, _, _, rfl, _⟩ := h; rfl) | (obtain ⟨_, _, _, _, rfl, _⟩ := h; rfl) | (obtain ⟨_, _, _, _, _, rfl, _⟩ := h; rfl) | (obtain ⟨_, _, _, _, _, _, rfl, _⟩ := h; rfl) | (obtain ⟨_, _, _, _, _, _, _, rfl, _⟩ := h; rfl) | (obtain ⟨_, _, _, _, _, _, _, _, rfl, _⟩ := h; rfl) | (obtain ⟨_, _, _, _, _, _, _, _, _, rfl, _⟩ := h; rfl) | (obtain ⟨rfl, _⟩ := h; rfl) | exact h.elim)
  refine ⟨_, (@pss_cons _ _ _ _ _ (@ps_set _ _ 1 _ _ _ _ sc__law_is_joined.nd rfl (Or.inl rfl) (@pe_tx _ _ [] _ _ rfl) rfl (Or.inl rfl))
    (@pss_cons _ _ _ _ _ (ps_for PassesOwn.never rfl (pi_tup (pv 0)) (pg_name (i := 2) sc__law_is_joined.nd rfl (Or.inl rfl))
    (@pss_cons _ _ _ _ _ (@ps_if _ _ _ _ _ _ _ _ (PW.pt (pw_and (pt_cmpR op_eq (@pe_ix _ _ _ _ _ _ _ ix_tup (pv 2) pe_int (fun _ _ => rfl)) (@pe_tx _ _ [116, 101, 120, 116] _ _ (by decide +kernel)) (nomark _)) (pw_and1 (PW.pt (pw_or (pt_cmpR op_eq (pv 1) (@pe_tx _ _ [116, 101, 120, 116] _ _ (by decide +kernel)) (nomark _)) (pw_or1 (pt_cmpR op_eq (@pe_ix _ _ _ _ _ _ _ ix_tup (pv 2) pe_int (fun _ _ => rfl)) (@pe_tx _ _ [] _ _ rfl) (nomark _))))))))
      (@pss_one _ _ _ (@ps_ret _ _ _ _ pe_bl))
      pss_nil)
      (@pss_one _ _ _ (@ps_set _ _ 1 _ _ _ _ sc__law_is_joined.nd rfl (Or.inl rfl) (@pe_ix _ _ _ _ _ _ _ ix_tup (pv 2) pe_int (fun _ _ => rfl)) rfl (Or.inl rfl)))))
    (@pss_one _ _ _ (@ps_ret _ _ _ _ pe_bl)))), ?_⟩
  obtain ⟨v, n, ds, rfl, hv, hf, hij, q⟩ := h
  obtain ⟨a, us, rfl, hS, hd⟩ := dt_tup_inv hv
  cases n with
  | zero => exact hf.elim
  | succ n =>
  refine ⟨_, rfl, a, rfl, ⟨us, TuO_seq hS⟩, ?_⟩
  refine for_tup (xs := us) (fun i σ H2 => (∃ (b : Bool) (w : List Nat) (o : Option V), σ = [some (.ref a), some (.str (tx w)), o] ∧ (w = wText ↔ b = true) ∧ ij b (ds.drop i) = true) ∧ H2 = H) ⟨⟨false, [], none, rfl, by simp [wText], hij⟩, rfl⟩ (fun i σ H2 hi pv => by rw [pv.2]; exact TuO_seq hS) (fun i x σ H2 hx pv => ?_) (fun σ H2 pv => ?_)
  · obtain ⟨⟨b, w, o, rfl, hw, hj⟩, rfl⟩ := pv
    obtain ⟨d, hdi, hdv⟩ := hd.atV hx
    have hdm : d ∈ ds := List.mem_of_getElem? hdi
    have hdrop : ds.drop i = d :: ds.drop (i + 1) := by
      obtain ⟨h1, h2⟩ := List.getElem?_eq_some_iff.mp hdi
      rw [List.drop_eq_getElem_cons h1, h2]
    obtain ⟨c, w2, x2, r2, rfl, hc, hwt, htx, _⟩ := node_head (hf.2.2 d hdm) hdv
    have hc' := TuO_seq hc
    rw [hdrop] at hj
    have cmp : ∀ a b : List Nat, decide (V.str (tx a) = V.str (tx b)) = decide (a = b) := fun a b => by
      by_cases e : a = b
      · rw [e]; simp
      · rw [decide_eq_false e, decide_eq_false (fun z => e (V.str_inj.mp z))]
    refine ⟨_, rfl, c, _, 0, _, rfl, rfl, hc', atI_nat (j := 0) rfl, rfl, _, rfl, ?_⟩
    rw [cmp]
    cases hd' : txtOf d with
    | some l =>
      obtain ⟨rfl, rfl⟩ := htx l hd'
      rw [hd'] at hwt
      have ew : w2 = wText := hwt.mpr rfl
      rw [ij_text hd'] at hj
      have hb : ¬ (b = true ∨ x2 = []) := fun z => by rw [if_pos z] at hj; cases hj
      rw [if_neg hb] at hj
      rw [decide_eq_true (show w2 = [116, 101, 120, 116] from ew)]
      refine iteT ?_
      refine ⟨_, rfl, rfl, _, rfl, ?_⟩
      rw [cmp, decide_eq_false (show ¬ w = [116, 101, 120, 116] from fun z => hb (.inl (hw.mp z)))]
      refine iteF ⟨_, rfl, c, _, 1, _, rfl, rfl, hc', atI_nat (j := 1) rfl, rfl, _, rfl, ?_⟩
      rw [cmp, decide_eq_false (show ¬ x2 = [] from fun z => hb (.inr z))]
      refine iteF ⟨_, rfl, c, _, 0, _, rfl, rfl, hc', atI_nat (j := 0) rfl, ⟨true, w2, _, rfl, by simp [ew], hj⟩, rfl⟩
    | none =>
      rw [hd'] at hwt
      have ew : w2 ≠ wText := fun z => by have := hwt.mp z; cases this
      rw [ij_node hd'] at hj
      rw [decide_eq_false (show ¬ w2 = [116, 101, 120, 116] from ew)]
      refine iteF (iteF ⟨_, rfl, c, _, 0, _, rfl, rfl, hc', atI_nat (j := 0) rfl, ⟨false, w2, _, rfl, by simp [ew], hj⟩, rfl⟩)
  · obtain ⟨_, rfl⟩ := pv
    exact q
theorem ok__law_forms_in (T : Txt w K mg) {k : Nat}   : Cal P w K mg base CX0 (k + 1) "_law_forms_in" ["_law_node_here"] (sp__law_forms_in K) := by
  refine T.d__law_forms_in.elim fun fa e => e.elim fun fd At => At.cal sc__law_forms_in (fun vs H Q E h => ?_) (fun cdv A outer s H vs Q E hr h => ?_)
  · (first | (obtain ⟨_, rfl, _⟩ := h; rfl) | (obtain ⟨_, _, rfl, _⟩ := h; rfl) | (obtain ⟨_, _, _, rfl, _⟩ := h; rfl) | (obtain ⟨_, _, _, _, rfl, _⟩ := h; rfl) | (obtain ⟨_, _, _, _, _, rfl, _⟩ := h; rfl) | (obtain ⟨_, _, _, _, _, _, rfl, _⟩ := h; rfl) | (obtain ⟨_, _, _, _, _, _, _, rfl, _⟩ := h; rfl) | (obtain ⟨_, _, _, _, _, _, _, _, rfl, _⟩ := h; rfl) | (obtain ⟨_, _, _, _, _, _, _, _, _, rfl, _⟩ := h; rfl) | (obtain ⟨rfl, _⟩ := h; rfl) | exact h.elim)
  refine ⟨_, (@pss_one _ _ _ (@ps_ret _ _ _ _ (pe_comp (vars := ["_law_one"]) (frs' := ["_law_node_here"]) (fr := [0]) rfl (CompScope.free rfl (by decide +kernel) rfl (.cons ⟨rfl, rfl⟩ .nil)) (pi_tup (pe_slice sl_tupA (pv 0) (po_some pe_int) po_none)) (fun pins cl C fp s H => ⟨pgc 0 (by decide +kernel) rfl rfl, pifs_one (pt_cmpR (op_in_seqK (K := K) rfl) (@pe_ix _ _ _ _ _ _ _ (ix_tupK (K := K) rfl) (pv 1) pe_int (fun _ _ => rfl)) (@pe_tup _ _ _ _ _ (@pa_cons _ _ _ _ _ (@pe_tx _ _ [105, 102] _ _ rfl) (@pa_cons _ _ _ _ _ (@pe_tx _ _ [101, 97, 99, 104] _ _ (by decide +kernel)) pa_nil star_c) star_c)) (by with_unfolding_all rfl)), (pv 0)⟩)))), ?_⟩
  obtain ⟨a, w, x, r, rfl, hS, hl, hw, q⟩ := h
  refine ⟨_, rfl, _, rfl, ?_⟩
  dsimp only [tNoPart]
  refine sliceF2 hS fun p hp => ?_
  have s1 := same_new hp (.tup r)
  have e1 : SqT K (upd H p (.tup r)) p r := SqT.of upd_same
  generalize upd H p (.tup r) = H1 at s1 e1
  refine ⟨p, rfl, ⟨_, e1⟩, ?_⟩
  refine comp_tup (xs := r) (fun i σ ys H2 => (∃ o, σ = [o, some (.ref a)]) ∧ Same H1 H2 ∧ ys = r.take i) ⟨⟨none, rfl⟩, Same.refl _, rfl⟩ (small (by omega)) (fun i σ ys H2 hi pv => ?_) (fun i z σ ys H2 hz pv => ?_) (fun σ ys H2 pv => ?_)
  · obtain ⟨_, s2, rfl⟩ := pv
    exact ⟨s2.tup e1, by rw [List.length_take]; omega⟩
  · obtain ⟨⟨o, rfl⟩, s2, rfl⟩ := pv
    have hS2 := (s1.trans s2).tup hS
    refine ⟨_, rfl, a, _, 0, _, rfl, rfl, hS2, atI_nat (j := 0) rfl, by show 2 ≤ sizeLine; decide, fun p3 hp3 => ?_⟩
    refine ⟨p3, _, rfl, .inr (SqT.of upd_same), rfl, rfl, _, rfl, ?_⟩
    have hin : inV (.str (tx w)) [.str (tx [105, 102]), .str (tx [101, 97, 99, 104])] = true := by
      rcases hw with h | h | h
      · rw [h] at hz; simp at hz
      · rw [h]; decide +kernel
      · rw [h]; decide +kernel
    refine ite2 (fun _ => ?_) (fun c => absurd hin c)
    exact ⟨_, rfl, ⟨_, rfl⟩, s2.trans (same_new hp3 _), by rw [List.take_add_one, hz]; rfl⟩
  · obtain ⟨⟨o, rfl⟩, s2, rfl⟩ := pv
    intro p4 hp4
    exact q _ p4 ((s1.trans s2).trans (same_new hp4 _)) (by rw [upd_same, List.take_length])
theorem ok__law_alike (T : Txt w K mg) {k : Nat} {n : Nat}  (G__law_split : Cal P w K mg base CX0 k "_law_split" ["_law_form_here"] (sp__law_split K)) (G__law_is_joined : Cal P w K mg base CX0 k "_law_is_joined" ["_law_form_here"] (sp__law_is_joined K)) (G__law_forms_in : Cal P w K mg base CX0 k "_law_forms_in" ["_law_node_here"] (sp__law_forms_in K)) (G__law_alike : Cal P w K mg base CX0 k "_law_alike" ["_law_form_here", "_law_came"] (sp__law_alike n K)) : Cal P w K mg base CX0 (k + 1) "_law_alike" ["_law_form_here", "_law_came"] (sp__law_alike (n + 1) K) := by
  refine T.d__law_alike.elim fun fa e => e.elim fun fd At => At.cal sc__law_alike (fun vs H Q E h => ?_) (fun cdv A outer s H vs Q E hr h => ?_)
  · (first | (obtain ⟨_, rfl, _⟩ := h; rfl) | (obtain ⟨_, _, rfl, _⟩ := h; rfl) | (obtain ⟨_, _, _, rfl, _⟩ := h; rfl) | (obtain ⟨_, _, _, _, rfl, _⟩ := h; rfl) | (obtain ⟨_, _, _, _, _, rfl, _⟩ := h; rfl) | (obtain ⟨_, _, _, _, _, _, rfl, _⟩ := h; rfl) | (obtain ⟨_, _, _, _, _, _, _, rfl, _⟩ := h; rfl) | (obtain ⟨_, _, _, _, _, _, _, _, rfl, _⟩ := h; rfl) | (obtain ⟨_, _, _, _, _, _, _, _, _, rfl, _⟩ := h; rfl) | (obtain ⟨rfl, _⟩ := h; rfl) | exact h.elim)
  have m_isinstance := T.m_isinstance
  have m_len := T.m_len
  have m_range := T.m_range
  have m_tuple := T.m_tuple
  have m_zip := T.m_zip
  refine ⟨_, (@pss_cons _ _ _ _ _ (@ps_if _ _ _ _ _ _ _ _ (PW.pt (pw_or (pt_not (pt_val (pe_callB call_isTup rfl m_isinstance boI (@pa_cons _ _ _ _ _ (pv 1) (@pa_cons _ _ _ _ _ (pe_ty m_tuple boTuple rfl) pa_nil star_n) star_n)))) (pw_or1 (pt_not (pt_val (pe_cal G__law_is_joined hr (@pa_cons _ _ _ _ _ (pv 1) pa_nil rfl) rfl))))))
    (@pss_one _ _ _ (@ps_ret _ _ _ _ pe_bl))
    pss_nil)
    (@pss_cons _ _ _ _ _ (ps_asg (pe_cal G__law_split hr (@pa_cons _ _ _ _ _ (pv 0) pa_nil rfl) rfl) (pg_tup rfl (pgs_cons (pg_name (i := 2) sc__law_alike.nd rfl (Or.inl rfl)) (pgs_cons (pg_name (i := 3) sc__law_alike.nd rfl (Or.inl rfl)) pgs_nil))))
    (@pss_cons _ _ _ _ _ (ps_asg (pe_cal G__law_split hr (@pa_cons _ _ _ _ _ (pv 1) pa_nil rfl) rfl) (pg_tup rfl (pgs_cons (pg_name (i := 4) sc__law_alike.nd rfl (Or.inl rfl)) (pgs_cons (pg_name (i := 5) sc__law_alike.nd rfl (Or.inl rfl)) pgs_nil))))
    (@pss_cons _ _ _ _ _ (@ps_if _ _ _ _ _ _ _ _ (PW.pt (pw_or (pt_cmpR (op_neL (hu64 hr)) (pv 2) (pv 4) (nomark _)) (pw_or1 (pt_cmpR op_ne (pe_callB call_len_seq rfl m_len boLen (@pa_cons _ _ _ _ _ (pv 3) pa_nil rfl)) (pe_callB call_len_seq rfl m_len boLen (@pa_cons _ _ _ _ _ (pv 5) pa_nil rfl)) (nomark _)))))
    (@pss_one _ _ _ (@ps_ret _ _ _ _ pe_bl))
    pss_nil)
    (@pss_cons _ _ _ _ _ (ps_for PassesOwn.never rfl (pi_range1 rfl m_range (@pa_cons _ _ _ _ _ (pe_callB call_len_seq rfl m_len boLen (@pa_cons _ _ _ _ _ (pv 3) pa_nil rfl)) pa_nil rfl)) (pg_name (i := 6) sc__law_alike.nd rfl (Or.inl rfl))
    (@pss_cons _ _ _ _ _ (@ps_if _ _ _ _ _ _ _ _ (PW.pt (pw_or (pt_cmpR op_ne (pe_callB call_len_seq rfl m_len boLen (@pa_cons _ _ _ _ _ (@pe_ix _ _ _ _ _ _ _ ix_list (pv 3) (pv 6) (fun _ _ => rfl)) pa_nil rfl)) (pe_callB call_len_seq rfl m_len boLen (@pa_cons _ _ _ _ _ (@pe_ix _ _ _ _ _ _ _ ix_list (pv 5) (pv 6) (fun _ _ => rfl)) pa_nil rfl)) (nomark _)) (pw_or1 (pt_cmpR (op_neT (hu64 hr)) (pe_slice sl_tupA (@pe_ix _ _ _ _ _ _ _ ix_list (pv 3) (pv 6) (fun _ _ => rfl)) po_none (po_some pe_int)) (pe_slice sl_tupA (@pe_ix _ _ _ _ _ _ _ ix_list (pv 5) (pv 6) (fun _ _ => rfl)) po_none (po_some pe_int)) (nomark _)))))
      (@pss_one _ _ _ (@ps_ret _ _ _ _ pe_bl))
      pss_nil)
      (@pss_one _ _ _ (ps_for PassesOwn.never rfl (pi_zip rfl m_zip (@pa_cons _ _ _ _ _ (pe_cal G__law_forms_in hr (@pa_cons _ _ _ _ _ (@pe_ix _ _ _ _ _ _ _ ix_list (pv 3) (pv 6) (fun _ _ => rfl)) pa_nil rfl) rfl) (@pa_cons _ _ _ _ _ (pe_cal G__law_forms_in hr (@pa_cons _ _ _ _ _ (@pe_ix _ _ _ _ _ _ _ ix_list (pv 5) (pv 6) (fun _ _ => rfl)) pa_nil rfl) rfl) pa_nil star_k) star_k)) (pg_tup rfl (pgs_cons (pg_name (i := 7) sc__law_alike.nd rfl (Or.inl rfl)) (pgs_cons (pg_name (i := 8) sc__law_alike.nd rfl (Or.inl rfl)) pgs_nil)))
      (@pss_one _ _ _ (@ps_if _ _ _ _ _ _ _ _ (pt_not (pt_val (pe_cal G__law_alike hr (@pa_cons _ _ _ _ _ (pv 7) (@pa_cons _ _ _ _ _ (pv 8) pa_nil star_n) star_n) rfl)))
        (@pss_one _ _ _ (@ps_ret _ _ _ _ pe_bl))
        pss_nil))))))
    (@pss_one _ _ _ (@ps_ret _ _ _ _ pe_bl))))))), ?_⟩
  obtain ⟨u, v, ds, rfl, hu, hv, hf, q⟩ := h
  obtain ⟨a1, us1, rfl, hS1, hd1⟩ := dt_tup_inv hu
  obtain ⟨a2, us2, rfl, hS2, hd2⟩ := dt_tup_inv hv
  obtain ⟨hJ, _⟩ := jF_ok sgt0 sgtA (n + 1) ds hf
  have gd : ∀ d ∈ ds, txtOf d = none → txtOf (jN (jF n) d) = none := fun d hd ht => (jN_node (hf.2.2 d hd) ht (fun g hg => (jF_ok sgt0 sgtA n g hg).1) fun g hg => (jF_ok sgt0 sgtA n g hg).2).2.1
  have hij : ij false (jF (n + 1) ds) = true := ij_JL ds [] gd
  have hsp : spl [] (jF (n + 1) ds) = ((spl [] ds).1, (spl [] ds).2.map (jN (jF n))) := spl_JL ds [] [] gd
  refine ⟨_, rfl, a2, _, rfl, TuO_seq hS2, _, rfl, iteF ?_⟩
  refine ⟨_, rfl, .ref a2, n + 1, _, rfl, hv, hJ, hij, _, rfl, iteF ?_⟩
  refine ⟨_, rfl, .ref a1, n + 1, ds, rfl, hu, hf, fun H1 p1 pt1 pn1 ns1 s1 hp1 hpt1 hpn1 hns1 => ?_⟩
  refine ⟨p1, _, rfl, SqT.of hp1, rfl, _, _, rfl, _, _, rfl, rfl, ?_⟩
  refine ⟨_, rfl, .ref a2, n + 1, _, rfl, hv.same s1.t.to, hJ, fun H2 p2 pt2 pn2 ns2 s2 hp2 hpt2 hpn2 hns2 => ?_⟩
  rw [hsp] at hpt2 hns2
  refine ⟨p2, _, rfl, SqT.of hp2, rfl, _, _, rfl, _, _, rfl, rfl, ?_⟩
  have hpt1' := s2 _ _ hpt1
  have hpn1' := s2 _ _ hpn1
  have hns1' := hns1.same s2.t.to
  obtain ⟨hNl, hNm⟩ := spl_in ds []
  generalize (spl [] ds).1 = TS at hpt1' hpt2 hpt1
  generalize (spl [] ds).2 = NS at hns1' hns2 hNl hNm hns1
  have hl1 : ns1.length = NS.length := hns1'.len.symm
  have hl2 : ns2.length = NS.length := by rw [← hns2.len, List.length_map]
  refine ⟨_, rfl, _, rfl, TS.map Dt.str, TS.map Dt.str, dt_lst (SqL.of hpt1') (dts_txs TS), dt_lst (SqL.of hpt2) (dts_txs TS), by rw [dps_txs]; decide, rfl, _, rfl, ?_⟩
  rw [eqDs_self]
  refine iteF ?_
  refine ⟨_, rfl, pn1, _, rfl, .inl (SqL.of hpn1'), _, rfl, pn2, _, rfl, .inl (SqL.of hpn2), rfl, _, rfl, ?_⟩
  rw [hl1, hl2, decide_eq_true rfl]
  refine iteF ?_
  have hf1 := hf.1
  refine ⟨_, rfl, pn1, _, rfl, .inl (SqL.of hpn1'), _, rfl, by omega, by omega, ?_⟩
  rw [Int.toNat_natCast, hl1]
  refine for_range (fun i σ H3 => (∃ o6 o7 o8, σ = [some (.ref a1), some (.ref a2), some (.ref pt1), some (.ref pn1), some (.ref pt2), some (.ref pn2), o6, o7, o8]) ∧ Same H2 H3) ⟨⟨_, _, _, rfl⟩, Same.refl _⟩ (fun i σ H3 hi pv => ?_) (fun σ H3 pv => ?_)
  · obtain ⟨⟨o6, o7, o8, rfl⟩, s3⟩ := pv
    have ei : (0 : Int) + (i : Int) = ((i : Nat) : Int) := by omega
    rw [ei]
    obtain ⟨hdm, hdt⟩ := hNm NS[i] (List.getElem_mem hi)
    obtain ⟨v1, hv1, dv1⟩ := hns1'.at (List.getElem?_eq_getElem hi)
    obtain ⟨v2, hv2, dv2⟩ := hns2.at (d := jN (jF n) NS[i]) (by rw [List.getElem?_map, List.getElem?_eq_getElem hi]; rfl)
    have hnd := hf.2.2 _ hdm
    obtain ⟨w, x, fs, ed, hF, hfl, hfw⟩ : ∃ w x fs, NS[i] = .tup (.str w :: .str x :: fs.map Dt.tup) ∧ (∀ f ∈ fs, FmG n f) ∧ fs.length ≤ 2 ∧ (fs = [] ∨ w = wIf ∨ w = wEach) := by
      rcases node_cases hnd with ⟨l, ht, _⟩ | ⟨_, _, w', x', fs, e, _, _, hF, hl, hw, _⟩
      · rw [hdt] at ht; cases ht
      · exact ⟨w', x', fs, e, hF, hl, hw⟩
    rw [ed] at dv1 dv2
    obtain ⟨c1, q1, rfl, hc1, hq1⟩ := dt_tup_inv dv1
    obtain ⟨z1, r1a, rfl, hz1, hq1a⟩ := dts_cons_inv hq1
    obtain ⟨z2, r1, rfl, hz2, hq1b⟩ := dts_cons_inv hq1a
    cases dt_str_inv hz1
    cases dt_str_inv hz2
    have dv2' : IsDt K (TuO H2) (.tup (.str w :: .str x :: (fs.map Dt.tup).map (jS (jF n)))) v2 := dv2
    obtain ⟨c2, q2, rfl, hc2, hq2⟩ := dt_tup_inv dv2'
    obtain ⟨z3, r2a, rfl, hz3, hq2a⟩ := dts_cons_inv hq2
    obtain ⟨z4, r2, rfl, hz4, hq2b⟩ := dts_cons_inv hq2a
    cases dt_str_inv hz3
    cases dt_str_inv hz4
    have hr1 : r1.length = fs.length := by rw [← hq1b.len, List.length_map]
    have hr2 : r2.length = fs.length := by rw [← hq2b.len, List.length_map, List.length_map]
    have hpn1'' := s3 _ _ hpn1'
    have hpn2'' := s3 _ _ hpn2
    have hc1' := s3.t.to.tup hc1
    have hc2' := s3.t.to.tup hc2
    refine ⟨_, rfl, _, rfl, pn1, _, _, _, rfl, rfl, SqL.of hpn1'', atI_nat hv1, c1, _, rfl, .inr (TuO_seq hc1'), _, rfl, _, rfl, pn2, _, _, _, rfl, rfl, SqL.of hpn2'', atI_nat hv2, c2, _, rfl, .inr (TuO_seq hc2'), rfl, _, rfl, ?_⟩
    have el : (V.str (tx w) :: V.str (tx x) :: r1).length = (V.str (tx w) :: V.str (tx x) :: r2).length := by simp only [List.length_cons]; omega
    rw [el, decide_eq_true rfl]
    refine iteF ?_
    refine ⟨_, rfl, _, rfl, pn1, _, _, _, rfl, rfl, SqL.of hpn1'', atI_nat hv1, ?_⟩
    dsimp only [tNoPart]
    refine ⟨_, rfl, ?_⟩
    refine slice2 hc1' fun H4 p4 s4 hp4 => ?_
    have hpn2_4 := s4 _ _ hpn2''
    refine ⟨_, rfl, _, rfl, pn2, _, _, _, rfl, rfl, SqL.of hpn2_4, atI_nat hv2, ?_⟩
    dsimp only [tNoPart]
    refine ⟨_, rfl, ?_⟩
    refine slice2 (s4.t.to.tup hc2') fun H5 p5 s5 hp5 => ?_
    refine ⟨[.str w, .str x], [.str w, .str x], (hp4.same s5.t.to).same TuO_sub, hp5.same TuO_sub, by show max 0 (max 0 0) < 40; decide, _, rfl, ?_⟩
    rw [eqDs_self]
    refine iteF ?_
    have s35 := s3.trans (s4.trans s5)
    have hc1_5 := s35.t.to.tup hc1
    have hc2_5 := s35.t.to.tup hc2
    have hwr1 : r1 = [] ∨ w = wIf ∨ w = wEach := hfw.elim (fun e => .inl (List.length_eq_zero_iff.mp (by rw [hr1, e]; rfl))) .inr
    have hwr2 : r2 = [] ∨ w = wIf ∨ w = wEach := hfw.elim (fun e => .inl (List.length_eq_zero_iff.mp (by rw [hr2, e]; rfl))) .inr
    refine ⟨_, rfl, _, rfl, pn1, _, _, _, rfl, rfl, SqL.of (s35 _ _ hpn1'), atI_nat hv1, c1, w, x, r1, rfl, TuO_seq hc1_5, by omega, hwr1, fun H6 pf1 s6 hpf1 => ?_⟩
    refine ⟨_, rfl, _, rfl, pn2, _, _, _, rfl, rfl, SqL.of (s6 _ _ (s35 _ _ hpn2)), atI_nat hv2, c2, w, x, r2, rfl, s6.tup (TuO_seq hc2_5), by omega, hwr2, fun H7 pf2 s7 hpf2 => ?_⟩
    have s37 := s35.trans (s6.trans s7)
    refine ⟨pf1, pf2, r1, r2, rfl, SqL.of (s7 _ _ hpf1), SqL.of hpf2, ?_⟩
    refine for_zip (xs := r1) (ys := r2) (fun j σ H8 => (∃ o7 o8, σ = [some (.ref a1), some (.ref a2), some (.ref pt1), some (.ref pn1), some (.ref pt2), some (.ref pn2), some (.int ((i : Nat) : Int)), o7, o8]) ∧ Same H7 H8) ⟨⟨_, _, rfl⟩, Same.refl _⟩ (fun j σ H8 hj pv => ⟨pv.2.seq (SqL.of (s7 _ _ hpf1)), pv.2.seq (SqL.of hpf2)⟩) (fun j y1 y2 p8 σ H8 hy1 hy2 hp8 pv => ?_) (fun σ H8 pv => ?_)
    · obtain ⟨⟨o7, o8, rfl⟩, s8⟩ := pv
      have s9 := same_new hp8 (.tup [y1, y2])
      have s29 := s37.trans (s8.trans s9)
      refine ⟨p8, _, rfl, SqT.of upd_same, rfl, _, _, rfl, _, _, rfl, rfl, ?_⟩
      have hjf : j < fs.length := by rw [← hr1]; exact (List.getElem?_eq_some_iff.mp hy1).1
      obtain ⟨f1, ef1, df1⟩ := hq1b.atV hy1
      obtain ⟨f2, ef2, df2⟩ := hq2b.atV hy2
      rw [List.getElem?_map, List.getElem?_eq_getElem hjf] at ef1
      rw [List.getElem?_map, List.getElem?_map, List.getElem?_eq_getElem hjf] at ef2
      cases ef1
      cases ef2
      refine ⟨_, rfl, _, rfl, y1, y2, fs[j], rfl, df1.same s29.t.to, df2.same s29.t.to, hF _ (List.getElem_mem hjf), fun H9 s10 => ⟨_, rfl, iteF ⟨⟨_, _, rfl⟩, s8.trans (s9.trans s10)⟩⟩⟩
    · obtain ⟨⟨o7, o8, rfl⟩, s8⟩ := pv
      exact ⟨⟨_, _, _, rfl⟩, s37.trans s8⟩
  · exact q _ (s1.trans (s2.trans pv.2))
theorem ok_law (T : Txt w K mg) {k : Nat}  (G_joined_form : Cal P w K mg base CX0 k "joined_form" ["form"] (sp_joined_form 4 K)) (G__law_cell_at : Cal P w K mg base CX0 k "_law_cell_at" ["_law_script", "_law_k"] (sp__law_cell_at K)) (G__law_cells : Cal P w K mg base CX0 k "_law_cells" ["_law_script", "_law_start", "_law_most"] (sp__law_cells K)) (G__law_names : Cal P w K mg base CX0 k "_law_names" ["_law_cell", "_law_many"] (sp__law_names K)) (G__law_grown : Cal P w K mg base CX0 k "_law_grown" ["_law_cells_here", "_law_names_here"] (sp__law_grown K)) (G__law_alike : Cal P w K mg base CX0 k "_law_alike" ["_law_form_here", "_law_came"] (sp__law_alike 4 K)) : Cal P w K mg base CX0 (k + 1) "law" ["_law_script"] (sp_law K) := by
  refine T.d_law.elim fun fa e => e.elim fun fd At => At.cal sc_law (fun vs H Q E h => ?_) (fun cdv A outer s H vs Q E hr h => ?_)
  · (first | (obtain ⟨_, rfl, _⟩ := h; rfl) | (obtain ⟨_, _, rfl, _⟩ := h; rfl) | (obtain ⟨_, _, _, rfl, _⟩ := h; rfl) | (obtain ⟨_, _, _, _, rfl, _⟩ := h; rfl) | (obtain ⟨_, _, _, _, _, rfl, _⟩ := h; rfl) | (obtain ⟨_, _, _, _, _, _, rfl, _⟩ := h; rfl) | (obtain ⟨_, _, _, _, _, _, _, rfl, _⟩ := h; rfl) | (obtain ⟨_, _, _, _, _, _, _, _, rfl, _⟩ := h; rfl) | (obtain ⟨_, _, _, _, _, _, _, _, _, rfl, _⟩ := h; rfl) | (obtain ⟨rfl, _⟩ := h; rfl) | exact h.elim)
  have m_len := T.m_len
  refine ⟨_, (@pss_cons _ _ _ _ _ (@ps_set _ _ 1 _ _ _ _ sc_law.nd rfl (Or.inl rfl) (pe_cal G__law_names hr (@pa_cons _ _ _ _ _ (pe_cal G__law_cell_at hr (@pa_cons _ _ _ _ _ (pv 0) (@pa_cons _ _ _ _ _ pe_int pa_nil star_c) star_n) rfl) (@pa_cons _ _ _ _ _ pe_int pa_nil star_c) star_k) rfl) rfl (Or.inl rfl))
    (@pss_cons _ _ _ _ _ (@ps_set _ _ 2 _ _ _ _ sc_law.nd rfl (Or.inl rfl) (pe_cal G__law_grown hr (@pa_cons _ _ _ _ _ (pe_cal G__law_cells hr (@pa_cons _ _ _ _ _ (pv 0) (@pa_cons _ _ _ _ _ pe_int (@pa_cons _ _ _ _ _ pe_int pa_nil star_c) star_c) star_n) rfl) (@pa_cons _ _ _ _ _ (pv 1) pa_nil star_n) star_k) rfl) rfl (Or.inl rfl))
    (@pss_cons _ _ _ _ _ (@ps_set _ _ 3 _ _ _ _ sc_law.nd rfl (Or.inl rfl) (pe_cal G_joined_form hr (@pa_cons _ _ _ _ _ (pv 2) pa_nil rfl) rfl) rfl (Or.inl rfl))
    (@pss_cons _ _ _ _ _ (@ps_if _ _ _ _ _ _ _ _ (PW.pt (pw_or (pt_not (pt_val (pe_cal G__law_alike hr (@pa_cons _ _ _ _ _ (pv 2) (@pa_cons _ _ _ _ _ (pv 3) pa_nil star_n) star_n) rfl))) (pw_or1 (pt_cmpR (op_neT (hu64 hr)) (pe_cal G_joined_form hr (@pa_cons _ _ _ _ _ (pv 3) pa_nil rfl) rfl) (pv 3) (nomark _)))))
    (@pss_one _ _ _ (@ps_ret _ _ _ _ pe_bl))
    pss_nil)
    (@pss_cons _ _ _ _ _ (@ps_set _ _ 4 _ _ _ _ sc_law.nd rfl (Or.inl rfl) (@pe_op _ _ _ _ _ _ _ _ op_mod (pe_cal G__law_cell_at hr (@pa_cons _ _ _ _ _ (pv 0) (@pa_cons _ _ _ _ _ pe_int pa_nil star_c) star_n) rfl) (@pe_op _ _ _ _ _ _ _ _ op_add (pe_callB call_len_seq rfl m_len boLen (@pa_cons _ _ _ _ _ (pv 2) pa_nil rfl)) pe_int)) rfl (Or.inl rfl))
    (@pss_cons _ _ _ _ _ (@ps_if _ _ _ _ _ _ _ _ (pt_cmpR (op_neT (hu64 hr)) (pe_cal G_joined_form hr (@pa_cons _ _ _ _ _ (@pe_op _ _ _ _ _ _ _ _ op_catA (pe_cal G_joined_form hr (@pa_cons _ _ _ _ _ (pe_slice sl_tupA (pv 2) po_none (po_some (pv 4))) pa_nil rfl) rfl) (pe_cal G_joined_form hr (@pa_cons _ _ _ _ _ (pe_slice sl_tupA (pv 2) (po_some (pv 4)) po_none) pa_nil rfl) rfl)) pa_nil rfl) rfl) (pv 3) (nomark _))
    (@pss_one _ _ _ (@ps_ret _ _ _ _ pe_bl))
    pss_nil)
    (@pss_one _ _ _ (@ps_ret _ _ _ _ (pe_and (pe_cmpR (op_eqT (hu64 hr)) (pe_cal G_joined_form hr (@pa_cons _ _ _ _ _ (@pe_tup _ _ _ _ _ pa_nil) pa_nil rfl) rfl) (@pe_tup _ _ _ _ _ pa_nil) (nomark _)) (pe_one (pe_cmpR (op_eqT (hu64 hr)) (pe_cal G_joined_form hr (@pa_cons _ _ _ _ _ (@pe_tup _ _ _ _ _ (@pa_cons _ _ _ _ _ (@pe_tup _ _ _ _ _ (@pa_cons _ _ _ _ _ (@pe_tx _ _ [116, 101, 120, 116] _ _ (by decide +kernel)) (@pa_cons _ _ _ _ _ (@pe_tx _ _ [] _ _ rfl) pa_nil star_c) star_c)) pa_nil rfl)) pa_nil rfl) rfl) (@pe_tup _ _ _ _ _ pa_nil) (nomark _)))))))))))), ?_⟩
  obtain ⟨a, ns, rfl, hS, hO, h63, q⟩ := h
  refine ⟨_, rfl, a, ns, 0, rfl, hS, by decide, _, rfl, fun H1 pn nms s1 _ hpn hl4 hok => ?_⟩
  refine ⟨_, rfl, a, ns, rfl, s1.seq hS, h63, fun H2 pc ms s2 _ hpc hm => ?_⟩
  refine ⟨_, rfl, pc, pn, ms, nms, rfl, hpc, hm, s2 _ _ hpn, hl4, hok, fun H3 v ds s3 hv hf => ?_⟩
  have s13 := s1.trans (s2.trans s3)
  obtain ⟨c, us, rfl, hc, hd⟩ := dt_tup_inv hv
  refine ⟨_, rfl, .ref c, ds, rfl, hv, hf, fun H4 u s4 hu => ?_⟩
  obtain ⟨hJ, hI⟩ := jF_ok sgt0 sgtA 4 ds hf
  have hdp := form_dps 4 _ hJ
  refine ⟨_, rfl, _, rfl, .ref c, u, ds, rfl, hv.same s4.t.to, hu, hf, fun H5 s5 => ⟨_, rfl, iteF ?_⟩⟩
  refine ⟨_, rfl, u, _, rfl, hu.same s5.t.to, hJ, fun H6 u6 s6 hu6 => ?_⟩
  have s46 := s5.trans s6
  refine ⟨_, rfl, _, _, hu6.same TuO_sub, (hu.same s46.t.to).same TuO_sub, by rw [hI]; omega, _, rfl, ?_⟩
  rw [hI, eqDs_self]
  refine iteF ?_
  have s36 := s4.trans s46
  have hcs := s36.t.to.tup hc
  refine ⟨_, rfl, a, ns, 1, rfl, (s13.trans s36).seq hS, by decide, _, rfl, c, _, rfl, .inr (TuO_seq hcs), _, _, rfl, rfl, _, _, rfl, rfl, by show (0 : Int) < _ + 1; omega, ?_⟩
  dsimp only
  have a0 : 0 ≤ cellF ns 1 % (((us.length : Nat) : Int) + 1) ∧ cellF ns 1 % (((us.length : Nat) : Int) + 1) ≤ (us.length : Int) := ⟨Int.emod_nonneg _ (by omega), by have := Int.emod_lt_of_pos (cellF ns 1) (show (0 : Int) < ((us.length : Nat) : Int) + 1 by omega); omega⟩
  obtain ⟨at0, at1⟩ := a0
  generalize cellF ns 1 % (((us.length : Nat) : Int) + 1) = at' at at0 at1
  obtain ⟨hf1, hf2, hfl, hft⟩ := form_cut hf at'.toNat
  refine ⟨_, rfl, ?_⟩
  dsimp only [tNoPart]
  refine ⟨_, rfl, _, rfl, ?_⟩
  refine sliceTo hcs (hd.same s36.t.to) at0 at1 fun H7 p7 s7 h7 => ?_
  refine ⟨.ref p7, _, rfl, h7, hf1, fun H8 u8 s8 hu8 => ?_⟩
  have s38 := s36.trans (s7.trans s8)
  refine ⟨_, rfl, _, rfl, _, rfl, ?_⟩
  dsimp only [tNoPart]
  refine sliceFr (s38.t.to.tup hc) (hd.same s38.t.to) at0 at1 fun H9 p9 s9 h9 => ?_
  refine ⟨.ref p9, _, rfl, h9, hf2, fun H10 u10 s10 hu10 => ?_⟩
  obtain ⟨k1, k2, k3⟩ : (jF 4 (ds.take at'.toNat)).length ≤ (ds.take at'.toNat).length ∧ tlen (jF 4 (ds.take at'.toNat)) = tlen (ds.take at'.toNat) ∧ ∀ d ∈ jF 4 (ds.take at'.toNat), NdG (FmG 3) d := jF_size (n := 3) hf1
  obtain ⟨k4, k5, k6⟩ : (jF 4 (ds.drop at'.toNat)).length ≤ (ds.drop at'.toNat).length ∧ tlen (jF 4 (ds.drop at'.toNat)) = tlen (ds.drop at'.toNat) ∧ ∀ d ∈ jF 4 (ds.drop at'.toNat), NdG (FmG 3) d := jF_size (n := 3) hf2
  have hcf := hf.1
  have hct := hf.2.1
  have hsum : FmG 4 (jF 4 (ds.take at'.toNat) ++ jF 4 (ds.drop at'.toNat)) := ⟨by rw [List.length_append]; omega, by rw [tlen_app]; omega, fun d h => (List.mem_append.mp h).elim (k3 d) (k6 d)⟩
  refine catA (hu8.same (s9.trans s10).t.to) hu10 (by omega) fun H11 p11 s11 h11 => ?_
  refine ⟨.ref p11, _, rfl, h11, hsum, fun H12 u12 s12 hu12 => ?_⟩
  have s412 := s46.trans (s7.trans (s8.trans (s9.trans (s10.trans (s11.trans s12)))))
  have hE : jF 4 (jF 4 (ds.take at'.toNat) ++ jF 4 (ds.drop at'.toNat)) = jF 4 ds := by
    rw [jF_app sgt0 sgtA hf1.2.2 hf2.2.2, List.take_append_drop]
  rw [hE] at hu12
  refine ⟨_, rfl, _, _, hu12.same TuO_sub, (hu.same s412.t.to).same TuO_sub, by omega, _, rfl, ?_⟩
  rw [eqDs_self]
  refine iteF ?_
  refine ⟨by show 0 ≤ sizeLine; decide, fun p13 hp13 => ⟨.ref p13, [], rfl, dt_tup (SqT.of (TuO_tup upd_same)) dts_nil, form_nil 3, fun H14 u14 s14 hu14 => ?_⟩⟩
  refine ⟨by show 0 ≤ sizeLine; decide, fun p15 hp15 => ⟨[], [], (hu14.same (same_new hp15 _).t.to).same TuO_sub, dt_tup (SqT.of upd_same) dts_nil, by decide, true, rfl, iteT ?_⟩⟩
  refine ⟨by show 2 ≤ sizeLine; decide, fun p16 hp16 => ⟨by show 1 ≤ sizeLine; decide, fun p17 hp17 => ?_⟩⟩
  refine ⟨.ref p17, [.tup [.str wText, .str []]], rfl, dt_tup (SqT.of (TuO_tup upd_same)) (dts_cons (dt_tup (SqT.of (TuO_tup (same_new hp17 _ _ _ upd_same))) (dts_cons dt_str (dts_cons dt_str dts_nil))) dts_nil), form_txt 3, fun H18 u18 s18 hu18 => ?_⟩
  refine ⟨by show 0 ≤ sizeLine; decide, fun p19 hp19 => ⟨[], [], (hu18.same (same_new hp19 _).t.to).same TuO_sub, dt_tup (SqT.of upd_same) dts_nil, by decide, q _⟩⟩

theorem all_ok (T : Txt w K mg) {C_Joining : Addr} (J_Joining : Txt_Joining K mg C_Joining) (kits : Kits K) : Cal P w K mg base CX0 KK "law" ["_law_script"] (spLaw K) := by
  have ca := ok__law_cell_at (P := P) (base := base) (k := 0) T
  have ce := ok__law_cells (k := 1) T ca
  have sg := ok__law_signs (P := P) (base := base) (k := 0) T
  have nm := ok__law_names (P := P) (base := base) (k := 0) T
  have tk := ok__law_take (P := P) (base := base) (k := 0) T
  have f0 : Cal P w K mg base CX0 1 "_law_form" ["_law_state", "_law_names_here", "_law_deep", "_law_many"] (sp__law_form 0 K) := T.d__law_form.elim fun f e => e.elim fun fd A => A.no fun vs H Q E h => h
  have n0 := ok__law_node (k := 1) T sg tk f0
  have f1 := ok__law_form (k := 2) T n0
  have n1 := ok__law_node (k := 3) T (sg.mono (by decide)) (tk.mono (by decide)) f1
  have f2 := ok__law_form (k := 4) T n1
  have n2 := ok__law_node (k := 5) T (sg.mono (by decide)) (tk.mono (by decide)) f2
  have f3 := ok__law_form (k := 6) T n2
  have n3 := ok__law_node (k := 7) T (sg.mono (by decide)) (tk.mono (by decide)) f3
  have gr := ok__law_grown (k := 8) T n3
  have fi := ok_forms_in (P := P) (base := base) (k := 0) T
  have ji := ok_Joining___init__ (P := P) (w := w) (base := base) (k := 0) T J_Joining
  have jp := ok_Joining_put_text (P := P) (w := w) (base := base) (k := 0) T J_Joining
  have js := ok_Joining_so_far (P := P) (w := w) (base := base) (k := 0) T J_Joining
  have jn := ok_Joining_put_node (P := P) (w := w) (base := base) (k := 1) T J_Joining js
  have j0 : Cal P w K mg base CX0 1 "joined_form" ["form"] (sp_joined_form 0 K) := T.d_joined_form.elim fun f e => e.elim fun fd A => A.no fun vs H Q E h => by
    obtain ⟨_, _, _, _, h, _⟩ := h
    exact h
  have j1 := ok_joined_form (k := 2) T J_Joining (fi.mono (by decide)) ji (jp.mono (by decide)) jn (js.mono (by decide)) (j0.mono (by decide))
  have j2 := ok_joined_form (k := 3) T J_Joining (fi.mono (by decide)) (ji.mono (by decide)) (jp.mono (by decide)) (jn.mono (by decide)) (js.mono (by decide)) j1
  have j3 := ok_joined_form (k := 4) T J_Joining (fi.mono (by decide)) (ji.mono (by decide)) (jp.mono (by decide)) (jn.mono (by decide)) (js.mono (by decide)) j2
  have j4 := ok_joined_form (k := 5) T J_Joining (fi.mono (by decide)) (ji.mono (by decide)) (jp.mono (by decide)) (jn.mono (by decide)) (js.mono (by decide)) j3
  have sl := ok__law_split (P := P) (base := base) (k := 0) T
  have ij := ok__law_is_joined (P := P) (base := base) (k := 0) T
  have lf := ok__law_forms_in (P := P) (base := base) (k := 0) T
  have a0 : Cal P w K mg base CX0 1 "_law_alike" ["_law_form_here", "_law_came"] (sp__law_alike 0 K) := T.d__law_alike.elim fun f e => e.elim fun fd A => A.no fun vs H Q E h => by
    obtain ⟨_, _, _, _, _, _, h, _⟩ := h
    exact h
  have a1 := ok__law_alike (k := 1) T sl ij lf a0
  have a2 := ok__law_alike (k := 2) T (sl.mono (by decide)) (ij.mono (by decide)) (lf.mono (by decide)) a1
  have a3 := ok__law_alike (k := 3) T (sl.mono (by decide)) (ij.mono (by decide)) (lf.mono (by decide)) a2
  have a4 := ok__law_alike (k := 4) T (sl.mono (by decide)) (ij.mono (by decide)) (lf.mono (by decide)) a3
  exact ok_law (k := 9) T (j4.mono (by decide)) (ca.mono (by decide)) (ce.mono (by decide)) (nm.mono (by decide)) gr (a4.mono (by decide))
end
theorem all_mk {l : PySem.W.OpenLaw} {w : World} {K : PySem.W.Frag} {h : Heap} {mg : Str → Option Value} {fa : Addr} (X : K.In h) (G_ : h.Ns mainGlobals mg) (hfa : mg "law" = some (.ref fa))
    {C_Joining : Addr} (aC_Joining : PySem.W.nsIn K mainGlobals "Joining" = some (some (.ref C_Joining))) (pg_Joining : PySem.W.plainGet K C_Joining Str.empty = true) (hd_Joining : PySem.W.hasDictIn K C_Joining = true) (po_Joining : PySem.W.plainOver K C_Joining = true) (sa_Joining : PySem.W.findIn K (.ref C_Joining) "__setattr__" = some (some (.builtin "object.__setattr__"))) (mk_Joining : PySem.W.makesIn K C_Joining = true) (kc_Joining : PySem.W.keepIn K (.ref C_Joining) = true)
    (n_Joining_nodes : PySem.W.findIn K (.ref C_Joining) "nodes" = some none)
    (n_Joining_texts : PySem.W.findIn K (.ref C_Joining) "texts" = some none)
    {f0 : Addr} {od0 an0 : Option Addr} {sl0 : Array (Option Value)} {oc0 kV0 dc0 pm0 cd0 ct0 : Value}
    (a0 : PySem.W.nsIn K mainGlobals "forms_in" = some (some (.ref f0))) (l0 : K.lookup f0 = some ⟨oc0, od0, .func (PySem.W.fnOf "forms_in" "forms_in" (defArgs st_forms_in) (defBody st_forms_in) (defScope st_forms_in) .none kV0 dc0 pm0 an0 cd0 ct0), sl0⟩) (c0 : PySem.W.codeIn K cd0 "forms_in" = true) (k0 : PySem.W.keepIn K (.ref f0) = true)
    {f1 : Addr} {od1 an1 : Option Addr} {sl1 : Array (Option Value)} {oc1 kV1 dc1 pm1 cd1 ct1 : Value}
    (a1 : PySem.W.findIn K (.ref C_Joining) "__init__" = some (some (.ref f1))) (i1 : PySem.W.isFn K (.ref f1) = true) (l1 : K.lookup f1 = some ⟨oc1, od1, .func (PySem.W.fnOf "__init__" "Joining.__init__" (defArgs st_Joining___init__) (defBody st_Joining___init__) (defScope st_Joining___init__) .none kV1 dc1 pm1 an1 cd1 ct1), sl1⟩) (c1 : PySem.W.codeIn K cd1 "Joining.__init__" = true) (k1 : PySem.W.keepIn K (.ref f1) = true)
    {f2 : Addr} {od2 an2 : Option Addr} {sl2 : Array (Option Value)} {oc2 kV2 dc2 pm2 cd2 ct2 : Value}
    (a2 : PySem.W.findIn K (.ref C_Joining) "put_text" = some (some (.ref f2))) (i2 : PySem.W.isFn K (.ref f2) = true) (l2 : K.lookup f2 = some ⟨oc2, od2, .func (PySem.W.fnOf "put_text" "Joining.put_text" (defArgs st_Joining_put_text) (defBody st_Joining_put_text) (defScope st_Joining_put_text) .none kV2 dc2 pm2 an2 cd2 ct2), sl2⟩) (c2 : PySem.W.codeIn K cd2 "Joining.put_text" = true) (k2 : PySem.W.keepIn K (.ref f2) = true)
    {f3 : Addr} {od3 an3 : Option Addr} {sl3 : Array (Option Value)} {oc3 kV3 dc3 pm3 cd3 ct3 : Value}
    (a3 : PySem.W.findIn K (.ref C_Joining) "put_node" = some (some (.ref f3))) (i3 : PySem.W.isFn K (.ref f3) = true) (l3 : K.lookup f3 = some ⟨oc3, od3, .func (PySem.W.fnOf "put_node" "Joining.put_node" (defArgs st_Joining_put_node) (defBody st_Joining_put_node) (defScope st_Joining_put_node) .none kV3 dc3 pm3 an3 cd3 ct3), sl3⟩) (c3 : PySem.W.codeIn K cd3 "Joining.put_node" = true) (k3 : PySem.W.keepIn K (.ref f3) = true)
    {f4 : Addr} {od4 an4 : Option Addr} {sl4 : Array (Option Value)} {oc4 kV4 dc4 pm4 cd4 ct4 : Value}
    (a4 : PySem.W.findIn K (.ref C_Joining) "so_far" = some (some (.ref f4))) (i4 : PySem.W.isFn K (.ref f4) = true) (l4 : K.lookup f4 = some ⟨oc4, od4, .func (PySem.W.fnOf "so_far" "Joining.so_far" (defArgs st_Joining_so_far) (defBody st_Joining_so_far) (defScope st_Joining_so_far) .none kV4 dc4 pm4 an4 cd4 ct4), sl4⟩) (c4 : PySem.W.codeIn K cd4 "Joining.so_far" = true) (k4 : PySem.W.keepIn K (.ref f4) = true)
    {f5 : Addr} {od5 an5 : Option Addr} {sl5 : Array (Option Value)} {oc5 kV5 dc5 pm5 cd5 ct5 : Value}
    (a5 : PySem.W.nsIn K mainGlobals "joined_form" = some (some (.ref f5))) (l5 : K.lookup f5 = some ⟨oc5, od5, .func (PySem.W.fnOf "joined_form" "joined_form" (defArgs st_joined_form) (defBody st_joined_form) (defScope st_joined_form) .none kV5 dc5 pm5 an5 cd5 ct5), sl5⟩) (c5 : PySem.W.codeIn K cd5 "joined_form" = true) (k5 : PySem.W.keepIn K (.ref f5) = true)
    {f6 : Addr} {od6 an6 : Option Addr} {sl6 : Array (Option Value)} {oc6 kV6 dc6 pm6 cd6 ct6 : Value}
    (a6 : PySem.W.nsIn K mainGlobals "_law_cell_at" = some (some (.ref f6))) (l6 : K.lookup f6 = some ⟨oc6, od6, .func (PySem.W.fnOf "_law_cell_at" "_law_cell_at" (defArgs st__law_cell_at) (defBody st__law_cell_at) (defScope st__law_cell_at) .none kV6 dc6 pm6 an6 cd6 ct6), sl6⟩) (c6 : PySem.W.codeIn K cd6 "_law_cell_at" = true) (k6 : PySem.W.keepIn K (.ref f6) = true)
    {f7 : Addr} {od7 an7 : Option Addr} {sl7 : Array (Option Value)} {oc7 kV7 dc7 pm7 cd7 ct7 : Value}
    (a7 : PySem.W.nsIn K mainGlobals "_law_cells" = some (some (.ref f7))) (l7 : K.lookup f7 = some ⟨oc7, od7, .func (PySem.W.fnOf "_law_cells" "_law_cells" (defArgs st__law_cells) (defBody st__law_cells) (defScope st__law_cells) .none kV7 dc7 pm7 an7 cd7 ct7), sl7⟩) (c7 : PySem.W.codeIn K cd7 "_law_cells" = true) (k7 : PySem.W.keepIn K (.ref f7) = true)
    {f8 : Addr} {od8 an8 : Option Addr} {sl8 : Array (Option Value)} {oc8 kV8 dc8 pm8 cd8 ct8 : Value}
    (a8 : PySem.W.nsIn K mainGlobals "_law_signs" = some (some (.ref f8))) (l8 : K.lookup f8 = some ⟨oc8, od8, .func (PySem.W.fnOf "_law_signs" "_law_signs" (defArgs st__law_signs) (defBody st__law_signs) (defScope st__law_signs) .none kV8 dc8 pm8 an8 cd8 ct8), sl8⟩) (c8 : PySem.W.codeIn K cd8 "_law_signs" = true) (k8 : PySem.W.keepIn K (.ref f8) = true)
    {f9 : Addr} {od9 an9 : Option Addr} {sl9 : Array (Option Value)} {oc9 kV9 dc9 pm9 cd9 ct9 : Value}
    (a9 : PySem.W.nsIn K mainGlobals "_law_names" = some (some (.ref f9))) (l9 : K.lookup f9 = some ⟨oc9, od9, .func (PySem.W.fnOf "_law_names" "_law_names" (defArgs st__law_names) (defBody st__law_names) (defScope st__law_names) .none kV9 dc9 pm9 an9 cd9 ct9), sl9⟩) (c9 : PySem.W.codeIn K cd9 "_law_names" = true) (k9 : PySem.W.keepIn K (.ref f9) = true)
    {f10 : Addr} {od10 an10 : Option Addr} {sl10 : Array (Option Value)} {oc10 kV10 dc10 pm10 cd10 ct10 : Value}
    (a10 : PySem.W.nsIn K mainGlobals "_law_take" = some (some (.ref f10))) (l10 : K.lookup f10 = some ⟨oc10, od10, .func (PySem.W.fnOf "_law_take" "_law_take" (defArgs st__law_take) (defBody st__law_take) (defScope st__law_take) .none kV10 dc10 pm10 an10 cd10 ct10), sl10⟩) (c10 : PySem.W.codeIn K cd10 "_law_take" = true) (k10 : PySem.W.keepIn K (.ref f10) = true)
    {f11 : Addr} {od11 an11 : Option Addr} {sl11 : Array (Option Value)} {oc11 kV11 dc11 pm11 cd11 ct11 : Value}
    (a11 : PySem.W.nsIn K mainGlobals "_law_node" = some (some (.ref f11))) (l11 : K.lookup f11 = some ⟨oc11, od11, .func (PySem.W.fnOf "_law_node" "_law_node" (defArgs st__law_node) (defBody st__law_node) (defScope st__law_node) .none kV11 dc11 pm11 an11 cd11 ct11), sl11⟩) (c11 : PySem.W.codeIn K cd11 "_law_node" = true) (k11 : PySem.W.keepIn K (.ref f11) = true)
    {f12 : Addr} {od12 an12 : Option Addr} {sl12 : Array (Option Value)} {oc12 kV12 dc12 pm12 cd12 ct12 : Value}
    (a12 : PySem.W.nsIn K mainGlobals "_law_form" = some (some (.ref f12))) (l12 : K.lookup f12 = some ⟨oc12, od12, .func (PySem.W.fnOf "_law_form" "_law_form" (defArgs st__law_form) (defBody st__law_form) (defScope st__law_form) .none kV12 dc12 pm12 an12 cd12 ct12), sl12⟩) (c12 : PySem.W.codeIn K cd12 "_law_form" = true) (k12 : PySem.W.keepIn K (.ref f12) = true)
    {f13 : Addr} {od13 an13 : Option Addr} {sl13 : Array (Option Value)} {oc13 kV13 dc13 pm13 cd13 ct13 : Value}
    (a13 : PySem.W.nsIn K mainGlobals "_law_grown" = some (some (.ref f13))) (l13 : K.lookup f13 = some ⟨oc13, od13, .func (PySem.W.fnOf "_law_grown" "_law_grown" (defArgs st__law_grown) (defBody st__law_grown) (defScope st__law_grown) .none kV13 dc13 pm13 an13 cd13 ct13), sl13⟩) (c13 : PySem.W.codeIn K cd13 "_law_grown" = true) (k13 : PySem.W.keepIn K (.ref f13) = true)
    {f14 : Addr} {od14 an14 : Option Addr} {sl14 : Array (Option Value)} {oc14 kV14 dc14 pm14 cd14 ct14 : Value}
    (a14 : PySem.W.nsIn K mainGlobals "_law_split" = some (some (.ref f14))) (l14 : K.lookup f14 = some ⟨oc14, od14, .func (PySem.W.fnOf "_law_split" "_law_split" (defArgs st__law_split) (defBody st__law_split) (defScope st__law_split) .none kV14 dc14 pm14 an14 cd14 ct14), sl14⟩) (c14 : PySem.W.codeIn K cd14 "_law_split" = true) (k14 : PySem.W.keepIn K (.ref f14) = true)
    {f15 : Addr} {od15 an15 : Option Addr} {sl15 : Array (Option Value)} {oc15 kV15 dc15 pm15 cd15 ct15 : Value}
    (a15 : PySem.W.nsIn K mainGlobals "_law_is_joined" = some (some (.ref f15))) (l15 : K.lookup f15 = some ⟨oc15, od15, .func (PySem.W.fnOf "_law_is_joined" "_law_is_joined" (defArgs st__law_is_joined) (defBody st__law_is_joined) (defScope st__law_is_joined) .none kV15 dc15 pm15 an15 cd15 ct15), sl15⟩) (c15 : PySem.W.codeIn K cd15 "_law_is_joined" = true) (k15 : PySem.W.keepIn K (.ref f15) = true)
    {f16 : Addr} {od16 an16 : Option Addr} {sl16 : Array (Option Value)} {oc16 kV16 dc16 pm16 cd16 ct16 : Value}
    (a16 : PySem.W.nsIn K mainGlobals "_law_forms_in" = some (some (.ref f16))) (l16 : K.lookup f16 = some ⟨oc16, od16, .func (PySem.W.fnOf "_law_forms_in" "_law_forms_in" (defArgs st__law_forms_in) (defBody st__law_forms_in) (defScope st__law_forms_in) .none kV16 dc16 pm16 an16 cd16 ct16), sl16⟩) (c16 : PySem.W.codeIn K cd16 "_law_forms_in" = true) (k16 : PySem.W.keepIn K (.ref f16) = true)
    {f17 : Addr} {od17 an17 : Option Addr} {sl17 : Array (Option Value)} {oc17 kV17 dc17 pm17 cd17 ct17 : Value}
    (a17 : PySem.W.nsIn K mainGlobals "_law_alike" = some (some (.ref f17))) (l17 : K.lookup f17 = some ⟨oc17, od17, .func (PySem.W.fnOf "_law_alike" "_law_alike" (defArgs st__law_alike) (defBody st__law_alike) (defScope st__law_alike) .none kV17 dc17 pm17 an17 cd17 ct17), sl17⟩) (c17 : PySem.W.codeIn K cd17 "_law_alike" = true) (k17 : PySem.W.keepIn K (.ref f17) = true)
    {f18 : Addr} {od18 an18 : Option Addr} {sl18 : Array (Option Value)} {oc18 kV18 dc18 pm18 cd18 ct18 : Value}
    (a18 : PySem.W.nsIn K mainGlobals "law" = some (some (.ref f18))) (l18 : K.lookup f18 = some ⟨oc18, od18, .func (PySem.W.fnOf "law" "law" (defArgs st_law) (defBody st_law) (defScope st_law) .none kV18 dc18 pm18 an18 cd18 ct18), sl18⟩) (c18 : PySem.W.codeIn K cd18 "law" = true) (k18 : PySem.W.keepIn K (.ref f18) = true)
    (z_isinstance : PySem.W.nsIn K mainGlobals "isinstance" = some none)
    (z_len : PySem.W.nsIn K mainGlobals "len" = some none)
    (z_list : PySem.W.nsIn K mainGlobals "list" = some none)
    (z_range : PySem.W.nsIn K mainGlobals "range" = some none)
    (z_tuple : PySem.W.nsIn K mainGlobals "tuple" = some none)
    (z_zip : PySem.W.nsIn K mainGlobals "zip" = some none)
    (kits : Kits K) :
    ∃ fd : FuncData, (∀ (s : Shared) (v : Value), BindsTo s fd ⟨[v], []⟩ [("_law_script", v)]) ∧ ∀ base : Heap, K.In base → base.Ns mainGlobals mg → FnOk l.prog w K mg base CX0 KK fa fd ["_law_script"] (spLaw K) := by
  have e := hfa.symm.trans (PySem.W.mg_of X G_ a18)
  cases e
  have T : Txt w K mg := ⟨⟨_, _, at_mk (mg_mk X G_) a0 l0 c0 k0 (fun _ _ _ _ _ _ us hl => match us, hl with | [_], _ => rfl)⟩, ⟨_, _, at_mk (mg_mk X G_) a5 l5 c5 k5 (fun _ _ _ _ _ _ us hl => match us, hl with | [_], _ => rfl)⟩, ⟨_, _, at_mk (mg_mk X G_) a6 l6 c6 k6 (fun _ _ _ _ _ _ us hl => match us, hl with | [_, _], _ => rfl)⟩, ⟨_, _, at_mk (mg_mk X G_) a7 l7 c7 k7 (fun _ _ _ _ _ _ us hl => match us, hl with | [_, _, _], _ => rfl)⟩, ⟨_, _, at_mk (mg_mk X G_) a8 l8 c8 k8 (fun _ _ _ _ _ _ us hl => match us, hl with | [_, _], _ => rfl)⟩, ⟨_, _, at_mk (mg_mk X G_) a9 l9 c9 k9 (fun _ _ _ _ _ _ us hl => match us, hl with | [_, _], _ => rfl)⟩, ⟨_, _, at_mk (mg_mk X G_) a10 l10 c10 k10 (fun _ _ _ _ _ _ us hl => match us, hl with | [_], _ => rfl)⟩, ⟨_, _, at_mk (mg_mk X G_) a11 l11 c11 k11 (fun _ _ _ _ _ _ us hl => match us, hl with | [_, _, _], _ => rfl)⟩, ⟨_, _, at_mk (mg_mk X G_) a12 l12 c12 k12 (fun _ _ _ _ _ _ us hl => match us, hl with | [_, _, _, _], _ => rfl)⟩, ⟨_, _, at_mk (mg_mk X G_) a13 l13 c13 k13 (fun _ _ _ _ _ _ us hl => match us, hl with | [_, _], _ => rfl)⟩, ⟨_, _, at_mk (mg_mk X G_) a14 l14 c14 k14 (fun _ _ _ _ _ _ us hl => match us, hl with | [_], _ => rfl)⟩, ⟨_, _, at_mk (mg_mk X G_) a15 l15 c15 k15 (fun _ _ _ _ _ _ us hl => match us, hl with | [_], _ => rfl)⟩, ⟨_, _, at_mk (mg_mk X G_) a16 l16 c16 k16 (fun _ _ _ _ _ _ us hl => match us, hl with | [_], _ => rfl)⟩, ⟨_, _, at_mk (mg_mk X G_) a17 l17 c17 k17 (fun _ _ _ _ _ _ us hl => match us, hl with | [_, _], _ => rfl)⟩, ⟨_, _, at_mk (mg_mk X G_) a18 l18 c18 k18 (fun _ _ _ _ _ _ us hl => match us, hl with | [_], _ => rfl)⟩, PySem.W.mg_none_of X G_ z_isinstance, PySem.W.mg_none_of X G_ z_len, PySem.W.mg_none_of X G_ z_list, PySem.W.mg_none_of X G_ z_range, PySem.W.mg_none_of X G_ z_tuple, PySem.W.mg_none_of X G_ z_zip⟩
  have J_Joining : Txt_Joining K mg C_Joining := ⟨⟨pg_Joining, hd_Joining, po_Joining, sa_Joining⟩, PySem.W.mg_of X G_ aC_Joining, n_Joining_nodes, n_Joining_texts, ⟨_, _, ⟨⟨mk_Joining, a1, i1, kc_Joining⟩, fun_mk l1 c1 k1, ((fun_mk (st := st_Joining___init__) l1 c1 k1).binds (ps := ["self"]) fun _ _ _ _ _ _ us hl => match us, hl with | [_], _ => rfl)⟩⟩, ⟨_, _, ⟨⟨a2, i2, k2⟩, fun_mk l2 c2 k2, ((fun_mk (st := st_Joining_put_text) l2 c2 k2).binds (ps := ["self", "text"]) fun _ _ _ _ _ _ us hl => match us, hl with | [_, _], _ => rfl)⟩⟩, ⟨_, _, ⟨⟨a3, i3, k3⟩, fun_mk l3 c3 k3, ((fun_mk (st := st_Joining_put_node) l3 c3 k3).binds (ps := ["self", "node"]) fun _ _ _ _ _ _ us hl => match us, hl with | [_, _], _ => rfl)⟩⟩, ⟨_, _, ⟨⟨a4, i4, k4⟩, fun_mk l4 c4 k4, ((fun_mk (st := st_Joining_so_far) l4 c4 k4).binds (ps := ["self"]) fun _ _ _ _ _ _ us hl => match us, hl with | [_], _ => rfl)⟩⟩⟩
  refine ⟨PySem.W.fnOf "law" "law" (defArgs st_law) (defBody st_law) (defScope st_law) .none kV18 dc18 pm18 an18 cd18 ct18, fun s v => .of_eq rfl, fun base _ _ => ?_⟩
  exact (all_ok (P := l.prog) (w := w) (base := base) T J_Joining kits).fn_at (PySem.W.mg_of X G_ a18) (fun_mk l18 c18 k18)
end K40
open PySem PySem.W PyProof.Rows
set_option maxRecDepth 100000 in
set_option maxHeartbeats 0 in
theorem PySem.Challenge.cw_safegaps_k40_forms_joined_holds : PySem.Challenge.rw_safegaps_k40_forms_joined.Holds := by
  w_on; o_law; k_head; (case hw => w_witness2)
  k_fill
  refine L2.law_walk (l := PySem.Challenge.rw_safegaps_k40_forms_joined) (x := "_law_script") (k := K40.KK) rfl rfl ⟨rfl, by decide, by decide⟩ (fun w h Y => PySem.W.kIn_of Y) ?F
  case F =>
    intro w mg fa h KX G hmg
    refine' K40.all_mk KX G hmg ?aC_Joining ?pg_Joining ?hd_Joining ?po_Joining ?sa_Joining ?mk_Joining ?kc_Joining ?n_Joining_nodes ?n_Joining_texts ?a0 ?l0 ?c0 ?k0 ?a1 ?i1 ?l1 ?c1 ?k1 ?a2 ?i2 ?l2 ?c2 ?k2 ?a3 ?i3 ?l3 ?c3 ?k3 ?a4 ?i4 ?l4 ?c4 ?k4 ?a5 ?l5 ?c5 ?k5 ?a6 ?l6 ?c6 ?k6 ?a7 ?l7 ?c7 ?k7 ?a8 ?l8 ?c8 ?k8 ?a9 ?l9 ?c9 ?k9 ?a10 ?l10 ?c10 ?k10 ?a11 ?l11 ?c11 ?k11 ?a12 ?l12 ?c12 ?k12 ?a13 ?l13 ?c13 ?k13 ?a14 ?l14 ?c14 ?k14 ?a15 ?l15 ?c15 ?k15 ?a16 ?l16 ?c16 ?k16 ?a17 ?l17 ?c17 ?k17 ?a18 ?l18 ?c18 ?k18 ?z_isinstance ?z_len ?z_list ?z_range ?z_tuple ?z_zip ?kits
    (case aC_Joining => k_is)
    (case pg_Joining => k_is)
    (case hd_Joining => k_is)
    (case po_Joining => k_is)
    (case sa_Joining => k_is)
    (case mk_Joining => k_is)
    (case kc_Joining => k_is)
    (case n_Joining_nodes => k_is)
    (case n_Joining_texts => k_is)
    (case a0 => k_is)
    (case l0 => k_is)
    (case c0 => k_is)
    (case k0 => k_is)
    (case a1 => k_is)
    (case i1 => k_is)
    (case l1 => k_is)
    (case c1 => k_is)
    (case k1 => k_is)
    (case a2 => k_is)
    (case i2 => k_is)
    (case l2 => k_is)
    (case c2 => k_is)
    (case k2 => k_is)
    (case a3 => k_is)
    (case i3 => k_is)
    (case l3 => k_is)
    (case c3 => k_is)
    (case k3 => k_is)
    (case a4 => k_is)
    (case i4 => k_is)
    (case l4 => k_is)
    (case c4 => k_is)
    (case k4 => k_is)
    (case a5 => k_is)
    (case l5 => k_is)
    (case c5 => k_is)
    (case k5 => k_is)
    (case a6 => k_is)
    (case l6 => k_is)
    (case c6 => k_is)
    (case k6 => k_is)
    (case a7 => k_is)
    (case l7 => k_is)
    (case c7 => k_is)
    (case k7 => k_is)
    (case a8 => k_is)
    (case l8 => k_is)
    (case c8 => k_is)
    (case k8 => k_is)
    (case a9 => k_is)
    (case l9 => k_is)
    (case c9 => k_is)
    (case k9 => k_is)
    (case a10 => k_is)
    (case l10 => k_is)
    (case c10 => k_is)
    (case k10 => k_is)
    (case a11 => k_is)
    (case l11 => k_is)
    (case c11 => k_is)
    (case k11 => k_is)
    (case a12 => k_is)
    (case l12 => k_is)
    (case c12 => k_is)
    (case k12 => k_is)
    (case a13 => k_is)
    (case l13 => k_is)
    (case c13 => k_is)
    (case k13 => k_is)
    (case a14 => k_is)
    (case l14 => k_is)
    (case c14 => k_is)
    (case k14 => k_is)
    (case a15 => k_is)
    (case l15 => k_is)
    (case c15 => k_is)
    (case k15 => k_is)
    (case a16 => k_is)
    (case l16 => k_is)
    (case c16 => k_is)
    (case k16 => k_is)
    (case a17 => k_is)
    (case l17 => k_is)
    (case c17 => k_is)
    (case k17 => k_is)
    (case a18 => k_is)
    (case l18 => k_is)
    (case c18 => k_is)
    (case k18 => k_is)
    (case z_isinstance => k_is)
    (case z_len => k_is)
    (case z_list => k_is)
    (case z_range => k_is)
    (case z_tuple => k_is)
    (case z_zip => k_is)
    (case kits => (exact True.intro))

