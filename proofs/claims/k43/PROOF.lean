import PyProof.Rows.All
import Wide.All
import OpenK.AllK
import Wide.FinOn
import Lean
import PyProof.EqAt
import PyProof.EqKinds
import PyProof.TupleCall
import PyProof.ExcInit
import PyProof.ExcClass2
import PyProof.Rows.FStr
import PyProof.Rows.ZipGen
import PySem.Challenge.RW_safegaps_k43_whole_forms_read
set_option Elab.async false
set_option linter.all false
set_option maxRecDepth 100000
namespace L2
open PySem PySem.Spec PyProof.Rows

noncomputable abbrev Key := Sum Int Str
noncomputable def keyIs : Key → Value → Bool
  | .inl k, v => Value.isInt k v
  | .inr x, v => Value.isStrOf x v
noncomputable def keyH (w : World) : Key → Int
  | .inl k => hashInt k
  | .inr x => hashStr w x
theorem keyIs_shape : ∀ {k : Key} {v : Value}, keyIs k v = true → (∃ i t, k = Sum.inl i ∧ v = Value.int i t) ∨ (∃ x t, k = Sum.inr x ∧ v = Value.str x t)
  | .inl i, v, h => by
    obtain ⟨t, e⟩ := Value.isInt_shape (k := i) (v := v) h
    exact .inl ⟨i, t, rfl, e⟩
  | .inr x, v, h => by
    obtain ⟨t, e⟩ := Value.isStrOf_shape (x := x) (v := v) h
    exact .inr ⟨x, t, rfl, e⟩
theorem keyIs_int (i : Int) (t : Tok) : keyIs (.inl i) (.int i t) = true := by simp [keyIs, Value.isInt]
theorem keyIs_str (x : Str) (t : Tok) : keyIs (.inr x) (.str x t) = true := by simp [keyIs, Value.isStrOf]
theorem key_ll (a b : Int) : decide ((Sum.inl a : Key) = Sum.inl b) = (a == b) := by
  by_cases e : a = b
  · subst e; simp
  · have h : ¬ (Sum.inl a : Key) = Sum.inl b := fun q => e (Sum.inl.inj q)
    rw [decide_eq_false h]
    exact (beq_eq_false_iff_ne.mpr e).symm
theorem key_rr (a b : Str) : decide ((Sum.inr a : Key) = Sum.inr b) = decide (a = b) := by
  by_cases e : a = b
  · subst e; simp
  · have h : ¬ (Sum.inr a : Key) = Sum.inr b := fun q => e (Sum.inr.inj q)
    rw [decide_eq_false h, decide_eq_false e]
theorem key_lr (a : Int) (b : Str) : decide ((Sum.inl a : Key) = Sum.inr b) = false := decide_eq_false (fun q => nomatch q)
theorem key_rl (a : Str) (b : Int) : decide ((Sum.inr a : Key) = Sum.inl b) = false := decide_eq_false (fun q => nomatch q)

noncomputable def mixKind (prog : Program) (w : World) : PySem.KeyKind prog w Key where
  is := keyIs
  hash := keyH w
  inj := fun v a b ha hb => by
    rcases keyIs_shape ha with ⟨i, t, rfl, rfl⟩ | ⟨x, t, rfl, rfl⟩
    · rcases keyIs_shape hb with ⟨j, u, rfl, e⟩ | ⟨y, u, rfl, e⟩
      · injection e with e1 _; rw [e1]
      · exact nomatch e
    · rcases keyIs_shape hb with ⟨j, u, rfl, e⟩ | ⟨y, u, rfl, e⟩
      · exact nomatch e
      · injection e with e1 _; rw [e1]
  byValue := fun k v h => by
    rcases keyIs_shape h with ⟨i, t, rfl, rfl⟩ | ⟨x, t, rfl, rfl⟩ <;> rfl
  pyHash := fun hv h => by
    rcases keyIs_shape hv with ⟨i, t, rfl, rfl⟩ | ⟨x, t, rfl, rfl⟩
    · exact wpAny_pyHash_int h
    · exact wpAny_pyHash_str h
  eqBool := fun hu hv h => by
    rcases keyIs_shape hu with ⟨i, t, rfl, rfl⟩ | ⟨x, t, rfl, rfl⟩
    · rcases keyIs_shape hv with ⟨j, u, rfl, rfl⟩ | ⟨y, u, rfl, rfl⟩
      · rw [key_ll] at h; exact wpAny_eqBool_int h
      · rw [key_lr] at h; exact SeqAt.EqAt.int_str i t y u _ _ _ _ h
    · rcases keyIs_shape hv with ⟨j, u, rfl, rfl⟩ | ⟨y, u, rfl, rfl⟩
      · rw [key_rl] at h; exact SeqAt.EqAt.str_int x t j u _ _ _ _ h
      · rw [key_rr] at h; exact wpAny_eqBool_str h
  «strs» := fun k x t v h => by
    rcases keyIs_shape h with ⟨i, u, rfl, e⟩ | ⟨y, u, rfl, e⟩
    · exact nomatch e
    · injection e with e1 _
      subst e1
      cases v <;> rfl

theorem mixKind_int (prog : Program) (w : World) (i : Int) (t : Tok) : (mixKind prog w).is (.inl i) (.int i t) = true := keyIs_int i t
theorem mixKind_str (prog : Program) (w : World) (x : Str) (t : Tok) : (mixKind prog w).is (.inr x) (.str x t) = true := keyIs_str x t
end L2

namespace L2
open PySem PySem.Spec PyProof.Rows

inductive V where
  | non | bl (b : Bool) | int (i : Int) | str (x : Str) | byt (b : Array UInt8) | flt (b : UInt64) | ref (a : Addr) | ty (n : String)
  deriving DecidableEq

noncomputable def RelV : V → Value → Prop
  | .non, u => u = Value.none
  | .bl b, u => u = Value.bool b
  | .int i, u => ∃ t, u = Value.int i t
  | .str x, u => ∃ t, u = Value.str x t
  | .byt b, u => ∃ t, u = Value.bytes b t
  | .flt b, u => ∃ t, u = Value.float b t
  | .ref a, u => u = Value.ref a
  | .ty n, u => u = Value.type n

noncomputable abbrev Vals : List V → List Value → Prop := Paired RelV
theorem Vals.length {xs : List V} {us : List Value} (r : Vals xs us) : xs.length = us.length := Paired.length r
theorem Vals.get : ∀ {xs : List V} {us : List Value} {i : Nat} {x : V}, Vals xs us → xs[i]? = some x → ∃ u, us[i]? = some u ∧ RelV x u
  | _, _, _, _, .nil, e => by simp at e
  | _, _, 0, _, .cons r _, e => by simp at e; subst e; exact ⟨_, rfl, r⟩
  | _, _, i + 1, x, .cons _ t, e => by
    obtain ⟨u, h1, h2⟩ := Vals.get (i := i) (x := x) t (by simpa using e)
    exact ⟨u, by simpa using h1, h2⟩
theorem Vals.set {x : V} {u : Value} (r : RelV x u) : ∀ {xs : List V} {us : List Value} (i : Nat), Vals xs us → Vals (xs.set i x) (us.set i u)
  | _, _, _, .nil => .nil
  | _, _, 0, .cons _ t => .cons r t
  | _, _, i + 1, .cons q t => .cons q (Vals.set r i t)
theorem Vals.append : ∀ {xs ys : List V} {us ws : List Value}, Vals xs us → Vals ys ws → Vals (xs ++ ys) (us ++ ws)
  | _, _, _, _, .nil, s => s
  | _, _, _, _, .cons r t, s => .cons r (Vals.append t s)
theorem Vals.take : ∀ {xs : List V} {us : List Value} (n : Nat), Vals xs us → Vals (xs.take n) (us.take n)
  | _, _, 0, _ => .nil
  | _, _, _ + 1, .nil => .nil
  | _, _, n + 1, .cons r t => .cons r (Vals.take n t)
theorem Vals.drop : ∀ {xs : List V} {us : List Value} (n : Nat), Vals xs us → Vals (xs.drop n) (us.drop n)
  | _, _, 0, r => r
  | _, _, _ + 1, .nil => .nil
  | _, _, n + 1, .cons _ t => Vals.drop n t
noncomputable def RelO : Option V → Option Value → Prop
  | some v, some u => RelV v u
  | none, none => True
  | _, _ => False
noncomputable def KV {κ : Type} : List (κ × V) → List (κ × Value) → Prop := Paired fun (p : κ × V) (q : κ × Value) => p.1 = q.1 ∧ RelV p.2 q.2

noncomputable def kV : Key → V
  | .inl i => .int i
  | .inr x => .str x

inductive HO where
  /-- a list -/
  | lst (xs : List V)
  /-- a tuple (never changes) -/
  | tup (xs : List V)
  /-- a dict whose keys are ints and texts; one whose keys are tuples of ints and texts (the empty one is both) -/
  | dK (kvs : List (Key × V)) | dT (kvs : List (List Key × V))
  /-- a set of ints: its members, its size -/
  | set (S : Int → Bool) (n : Nat)
  /-- an instance of the class at C, its dict at dx, its attributes -/
  | ins (C dx : Addr) (fs : List (Str × V))
  /-- the dict of the instance at x -/
  | own (x : Addr)
  /-- the dict of an exception -/
  | xd (fs : List (Str × V))
  /-- a bound method, f of x -/
  | met (f x : Addr)
  /-- a range object lo, lo + 1, .. below hi -/
  | rng (lo hi : Int)
  /-- a thing that is known to the object (the script; a dict while a loop walks it): read, never written while it is so -/
  | frz (o : Obj) (u : HO)
  /-- a code object's table -/
  | tbl (ps : Array Value)
  /-- any other thing, by what is true of its one object (a def of one's own: SetO a S n := HO.ext fun h => ..) -/
  | ext (φ : Heap → Prop)

noncomputable abbrev Hp := Addr → Option HO
noncomputable def upd (H : Hp) (a : Addr) (o : HO) : Hp := fun b => if b = a then some o else H b
theorem upd_same {H : Hp} {a : Addr} {o : HO} : upd H a o a = some o := by unfold upd; rw [if_pos rfl]
theorem upd_ne {H : Hp} {a b : Addr} {o : HO} (h : b ≠ a) : upd H a o b = H b := by unfold upd; rw [if_neg h]
theorem ne_of {H : Hp} {a b : Addr} {o u : HO} (h : H a = some o) (h' : H b = some u) (d : o ≠ u) : a ≠ b := by
  intro e; subst e; rw [h] at h'; exact d (Option.some.inj h')
theorem ne_of_none {H : Hp} {a b : Addr} {o : HO} (h : H a = some o) (h' : H b = none) : a ≠ b := by
  intro e; subst e; rw [h] at h'; cases h'

section
variable (P : Program) (w : World)
noncomputable def ObjOk (H : Hp) (h : Heap) (a : Addr) : HO → Prop
  | .lst xs => xs.length ≤ sizeLine ∧ ∃ (its : List Value) (n : Nat), Vals xs its ∧ h.get? a = some { cls := .type "list", data := .seq its.toArray n }
  | .tup xs => xs.length ≤ sizeLine ∧ ∃ its : List Value, Vals xs its ∧ IsTup h a its.toArray
  | .dK kvs => kvs.length ≤ sizeLine ∧ (a == sysModules) = false ∧ ∃ vs, KV kvs vs ∧ h.DictOf (mixKind P w) a vs
  | .dT kvs => kvs.length ≤ sizeLine ∧ (a == sysModules) = false ∧ ∃ xs : List (List Key × Addr × Value),
      Paired (fun (p : List Key × V) (q : List Key × Addr × Value) => p.1 = q.1 ∧ H q.2.1 = some (.tup (p.1.map kV)) ∧ RelV p.2 q.2.2) kvs xs ∧
      ∃ o es ep, h.get? a = some o ∧ o.ExactDict ∧ o.data = .dict es ep ∧ es.toList = xs.map (entryOfKey (tupleKind (mixKind P w))) ∧ (xs.map (·.1)).Nodup
  | .set S n => h.SetOf (intKind P w) a S n
  | .ins C dx fs => H dx = some (.own a) ∧ fs.length ≤ 1000 ∧ dx ≠ a ∧ h.get? a = some (PySem.W.instObj C dx) ∧
      ∃ mA, h.Ns1 dx mA ∧ (∀ f, RelO (fs.lookup f) (mA f)) ∧ PySem.Within mA (fs.map (·.1))
  | .own _ => ∃ o, h.get? a = some o
  | .xd fs => ∃ mA, h.Ns1 a mA ∧ ∀ f, RelO (fs.lookup f) (mA f)
  | .rng lo hi => ∃ t u v, h.get? a = some { cls := .type "range", data := .fields #[.int lo t, .int hi u, .int 1 v] }
  | .frz o u => h.get? a = some o ∧ ObjOk H h a u
  | .tbl ps => h.get? a = some { cls := .none, data := .fields ps }
  | .met f x => h.get? a = some (PySem.W.methodObj (.ref f) (.ref x))
  | .ext φ => φ h ∧ (∃ o, h.get? a = some o) ∧ ∀ h1 h2 : Heap, φ h1 → (∀ o, h1.get? a = some o → h2.get? a = some o) → φ h2
noncomputable def HOk (H : Hp) (h : Heap) : Prop := ∀ a o, H a = some o → ObjOk P w H h a o
end

section
variable {P : Program} {w : World} {H H' : Hp} {h h' : Heap} {a : Addr} {o : HO}
theorem ObjOk.lt (x : ObjOk P w H h a o) : a < h.objs.size := by
  cases o with
  | lst xs => obtain ⟨_, _, _, _, e⟩ := x; exact Heap.lt_size e
  | tup xs => obtain ⟨_, _, _, p⟩ := x; exact p.lt
  | dK kvs => obtain ⟨_, _, _, _, o, _, _, e, _⟩ := x; exact Heap.lt_size e
  | dT kvs => obtain ⟨_, _, _, _, o, _, _, e, _⟩ := x; exact Heap.lt_size e
  | set S n => obtain ⟨o, _, _, _, e, _⟩ := x; exact Heap.lt_size e
  | ins C dx fs => obtain ⟨_, _, _, e, _⟩ := x; exact Heap.lt_size e
  | own y => obtain ⟨_, e⟩ := x; exact Heap.lt_size e
  | xd fs => obtain ⟨_, ⟨_, _, _, e, _⟩, _⟩ := x; exact Heap.lt_size e
  | rng lo hi => obtain ⟨_, _, _, e⟩ := x; exact Heap.lt_size e
  | frz ob u => obtain ⟨e, _⟩ := x; exact Heap.lt_size e
  | tbl ps => exact Heap.lt_size (show h.get? a = some _ from x)
  | met f y => exact Heap.lt_size (show h.get? a = some _ from x)
  | ext φ => obtain ⟨_, ⟨_, e⟩, _⟩ := x; exact Heap.lt_size e
theorem Paired.mapP {α β : Type} {F G : α → β → Prop} : ∀ {l₁ : List α} {l₂ : List β}, Paired F l₁ l₂ → (∀ a b, F a b → G a b) → Paired G l₁ l₂
  | _, _, .nil, _ => .nil
  | _, _, .cons r t, f => .cons (f _ _ r) (Paired.mapP t f)
theorem ObjOk.stay (x : ObjOk P w H h a o) (k : ∀ b u, (b = a ∨ H b = some (.own a)) → h.get? b = some u → h'.get? b = some u)
    (ho : ∀ b, H b = some (.own a) → H' b = some (.own a)) (ht : ∀ b xs, H b = some (.tup xs) → H' b = some (.tup xs)) : ObjOk P w H' h' a o := by
  induction o with
  | lst xs => obtain ⟨z, its, n, r, e⟩ := x; exact ⟨z, its, n, r, k _ _ (.inl rfl) e⟩
  | tup xs => obtain ⟨z, its, r, ob, e, c⟩ := x; exact ⟨z, its, r, ob, k _ _ (.inl rfl) e, c⟩
  | dK kvs => obtain ⟨z, y, vs, r, ob, es, ep, e, c⟩ := x; exact ⟨z, y, vs, r, ob, es, ep, k _ _ (.inl rfl) e, c⟩
  | dT kvs =>
    obtain ⟨z, y, xs, r, ob, es, ep, e, c⟩ := x
    exact ⟨z, y, xs, Paired.mapP r fun p q z => ⟨z.1, ht _ _ z.2.1, z.2.2⟩, ob, es, ep, k _ _ (.inl rfl) e, c⟩
  | set S n => obtain ⟨ob, es, ep, t, e, c⟩ := x; exact ⟨ob, es, ep, t, k _ _ (.inl rfl) e, c⟩
  | ins C dx fs =>
    obtain ⟨d, z, ne, e, mA, ⟨od, es, ep, e2, c⟩, r⟩ := x
    exact ⟨ho _ d, z, ne, k _ _ (.inl rfl) e, mA, ⟨od, es, ep, k _ _ (.inr d) e2, c⟩, r⟩
  | own y => obtain ⟨ob, e⟩ := x; exact ⟨ob, k _ _ (.inl rfl) e⟩
  | xd fs => obtain ⟨mA, ⟨od, es, ep, e, c⟩, r⟩ := x; exact ⟨mA, ⟨od, es, ep, k _ _ (.inl rfl) e, c⟩, r⟩
  | rng lo hi => obtain ⟨t, u, v, e⟩ := x; exact ⟨t, u, v, k _ _ (.inl rfl) e⟩
  | frz ob u ih => obtain ⟨e, q⟩ := x; exact ⟨k _ _ (.inl rfl) e, ih q⟩
  | tbl ps =>
    have e : h.get? a = some { cls := .none, data := .fields ps } := x
    show h'.get? a = some { cls := .none, data := .fields ps }
    exact k a _ (.inl rfl) e
  | met f y =>
    have e : h.get? a = some (PySem.W.methodObj (.ref f) (.ref y)) := x
    show h'.get? a = some (PySem.W.methodObj (.ref f) (.ref y))
    exact k a _ (.inl rfl) e
  | ext φ => obtain ⟨p, ⟨o, e⟩, st⟩ := x; exact ⟨st _ _ p fun o q => k _ _ (.inl rfl) q, ⟨o, k _ _ (.inl rfl) e⟩, st⟩
theorem HOk.lt (x : HOk P w H h) (e : H a = some o) : a < h.objs.size := (x a o e).lt
theorem HOk.fresh (x : HOk P w H h) (e : h.objs.size ≤ a) : H a = none := by
  cases q : H a with
  | none => rfl
  | some u => exact absurd (Nat.lt_of_lt_of_le (x.lt q) e) (Nat.lt_irrefl _)
theorem HOk.kept (x : HOk P w H h) (k : ∀ b u, h.get? b = some u → h'.get? b = some u) : HOk P w H h' := fun a o e =>
  (x a o e).stay (fun b u _ q => k b u q) (fun _ q => q) fun _ _ q => q
theorem HOk.laid (x : HOk P w H h) (k : ∀ b u, h.get? b = some u → h'.get? b = some u) (hp : h.objs.size ≤ a) (new : ObjOk P w (upd H a o) h' a o) : HOk P w (upd H a o) h' := fun b u e => by
  have hn := x.fresh hp
  by_cases hb : b = a
  · subst hb; rw [upd_same] at e; cases e; exact new
  · rw [upd_ne hb] at e
    exact (x b u e).stay (fun c v _ q => k c v q) (fun c q => by rw [upd_ne (ne_of_none q hn)]; exact q) fun c xs q => by rw [upd_ne (ne_of_none q hn)]; exact q
end

noncomputable def Rd (H : Hp) (a : Addr) (u : HO) : Prop := H a = some u ∨ ∃ o, H a = some (.frz o u)
theorem Rd.ok {P : Program} {w : World} {H : Hp} {h : Heap} {a : Addr} {u : HO} (r : Rd H a u) (x : HOk P w H h) : ObjOk P w H h a u := by
  rcases r with r | ⟨o, r⟩
  · exact x a u r
  · obtain ⟨_, q⟩ := x a _ r
    exact q
noncomputable def Mut : Option HO → Prop
  | some (.lst _) => True
  | some (.dK _) => True
  | some (.dT _) => True
  | some (.set _ _) => True
  | some (.ins _ _ _) => True
  | some (.ext _) => True
  | _ => False
section
variable {P : Program} {w : World} {H : Hp} {h h' : Heap} {x e : Addr} {o' : HO}
theorem HOk.write (ok : HOk P w H h) (mu : Mut (H x)) (he : e = x ∨ H e = some (.own x)) (k : ∀ b u, b ≠ e → h.get? b = some u → h'.get? b = some u) (heo : ∃ u, h'.get? e = some u)
    (new : ObjOk P w (upd H x o') h' x o') : HOk P w (upd H x o') h' := fun b u q => by
  have nown : ∀ c y, H c = some (.own y) → c ≠ x := fun c y r z => by subst z; rw [r] at mu; exact mu
  have ntup : ∀ c xs, H c = some (.tup xs) → c ≠ x := fun c xs r z => by subst z; rw [r] at mu; exact mu
  by_cases hb : b = x
  · subst hb; rw [upd_same] at q; cases q; exact new
  · rw [upd_ne hb] at q
    by_cases hbe : b = e
    · have q' : H b = some (.own x) := by
        rcases he with z | z
        · exact absurd (hbe.trans z) hb
        · rw [hbe]; exact z
      rw [q] at q'; cases q'
      obtain ⟨v, hv⟩ := heo
      exact ⟨v, by rw [hbe]; exact hv⟩
    · refine (ok b u q).stay (fun c v hc r => k c v ?_ r) (fun c r => by rw [upd_ne (nown c b r)]; exact r) fun c xs r => by rw [upd_ne (ntup c xs r)]; exact r
      rcases hc with rfl | hc
      · exact hbe
      · rintro rfl
        rcases he with z | z
        · exact nown c b hc z
        · rw [hc] at z; cases z; exact hb rfl
end

structure Un (fs ex : List Addr) (H H' : Hp) (h h' : Heap) : Prop where
  keep : ∀ b o, h.get? b = some o → H b = none → b ∉ fs → b ∉ ex → h'.get? b = some o
  slot : ∀ b o, h.get? b = some o → H b = none → b ∈ fs → b ∉ ex → ∃ sl, h'.get? b = some { o with slots := sl }
  free : ∀ b o, h.get? b = some o → H b = none → b ∉ ex → H' b = none
  there : ∀ b o, h.get? b = some o → b ∉ ex → ∃ o', h'.get? b = some o'
  tups : ∀ b xs, H b = some (.tup xs) → H' b = some (.tup xs)
  frzs : ∀ b o u, H b = some (.frz o u) → H' b = some (.frz o u)
  tbls : ∀ b ps, H b = some (.tbl ps) → ∃ more, H' b = some (.tbl (ps ++ more))
section
variable {fs fs' ex ex' : List Addr} {H H1 H2 : Hp} {h h1 h2 h' : Heap} {a x e : Addr} {o : HO}
theorem Un.any (u : Un fs ex H H1 h h1) {b : Addr} {ob : Obj} (q : h.get? b = some ob) (n : H b = none) (hx : b ∉ ex) : ∃ sl, h1.get? b = some { ob with slots := sl } := by
  by_cases hb : b ∈ fs
  · exact u.slot b ob q n hb hx
  · exact ⟨ob.slots, u.keep b ob q n hb hx⟩
theorem Un.kept (k : ∀ b u, h.get? b = some u → h'.get? b = some u) : Un fs ex H H h h' :=
  ⟨fun b ob q _ _ _ => k b ob q, fun b ob q _ _ _ => ⟨ob.slots, k b ob q⟩, fun _ _ _ n _ => n, fun b ob q _ => ⟨ob, k b ob q⟩, fun _ _ q => q, fun _ _ _ q => q, fun _ ps q => ⟨#[], by rw [q]; simp⟩⟩
theorem Un.refl : Un fs ex H H h h := Un.kept fun _ _ q => q
theorem Un.laid (k : ∀ b u, h.get? b = some u → h'.get? b = some u) (hp : h.objs.size ≤ a) (hn : H a = none) : Un fs ex H (upd H a o) h h' where
  keep := fun b u q _ _ _ => k b u q
  slot := fun b u q _ _ _ => ⟨u.slots, k b u q⟩
  free := fun b u q n _ => by rw [upd_ne (Nat.ne_of_lt (Nat.lt_of_lt_of_le (Heap.lt_size q) hp))]; exact n
  there := fun b u q _ => ⟨u, k b u q⟩
  tups := fun b xs q => by rw [upd_ne (ne_of_none q hn)]; exact q
  frzs := fun b u xs q => by rw [upd_ne (ne_of_none q hn)]; exact q
  tbls := fun b ps q => ⟨#[], by rw [upd_ne (ne_of_none q hn), q]; simp⟩
theorem Un.write (mu : Mut (H x)) (he : e = x ∨ H e = some (.own x)) (k : ∀ b u, b ≠ e → h.get? b = some u → h'.get? b = some u) (heo : ∃ u, h'.get? e = some u) : Un fs ex H (upd H x o) h h' := by
  have hx : ∀ b, H b = none → b ≠ x := fun b n z => by subst z; rw [n] at mu; exact mu
  have hb : ∀ b, H b = none → b ≠ e := fun b n z => by
    subst z
    rcases he with r | r
    · exact hx b n r
    · rw [n] at r; cases r
  have hm : ∀ b u, H b = some u → ¬ Mut (some u) → b ≠ x := fun b u q nm z => by subst z; rw [q] at mu; exact nm mu
  refine ⟨fun b u q n _ _ => k b u (hb b n) q, fun b u q n _ _ => ⟨u.slots, k b u (hb b n) q⟩, fun b u q n _ => by rw [upd_ne (hx b n)]; exact n, fun b u q _ => ?_,
    fun b xs q => by rw [upd_ne (hm b _ q fun z => z)]; exact q, fun b u xs q => by rw [upd_ne (hm b _ q fun z => z)]; exact q, fun b ps q => ⟨#[], by rw [upd_ne (hm b _ q fun z => z), q]; simp⟩⟩
  by_cases hbe : b = e
  · subst hbe; exact heo
  · exact ⟨u, k b u hbe q⟩
end

noncomputable def trk (h : Heap) (H : Hp) : List Addr := (List.range h.objs.size).filter fun a => (H a).isSome
noncomputable def hidT (h : Heap) (H : Hp) : Heap := PySem.W.hideAll h (trk h H)
theorem hidT_size (h : Heap) (H : Hp) : (hidT h H).objs.size = h.objs.size := PySem.W.hideAll_size _ _
theorem hidT_get {h : Heap} {H : Hp} {b : Addr} {o : Obj} (e : h.get? b = some o) (n : H b = none) : (hidT h H).get? b = some o :=
  PySem.W.hideAll_get _ e fun hm => by
    have q : (H b).isSome = true := (List.mem_filter.mp hm).2
    rw [n] at q; simp at q
theorem of_hidT {h : Heap} {H : Hp} {b : Addr} {o : Obj} (e : (hidT h H).get? b = some o) : h.get? b = some o ∧ H b = none := by
  have e' : h.get? b = some o := PySem.W.of_hideAll (trk h H) e
  refine ⟨e', ?_⟩
  cases q : H b with
  | none => rfl
  | some x =>
    have hm : b ∈ trk h H := List.mem_filter.mpr ⟨List.mem_range.mpr (Heap.lt_size e'), by simp [q]⟩
    have z : (hidT h H).get? b = none := PySem.W.hideAll_none (trk h H) hm
    rw [z] at e; cases e

end L2

namespace L2
open PySem PySem.Spec PyProof.Rows

structure Mod (K : PySem.W.Frag) (mg : Str → Option Value) (base : Heap) : Prop where
  kin : K.In base
  glob : base.Ns mainGlobals mg
  blt : ∃ mb, base.Ns builtinsNs mb ∧ ∀ x : Str, x ≠ "__name__" → mb x = bootBuiltins x
  nolimit : base.NoLimit

structure Cx where
  prog : Program
  w : World
  K : PySem.W.Frag
  mg : Str → Option Value
  base : Heap
  A : Around
  N : List Str
  s₀ : Shared
  H₀ : Hp
  env : Env
  outer : List Env
  stack : List Env
  ex : List Addr
  fn : Str → Bool
  calm : Bool
  pn : List (Addr × Obj)
  xe : Value → Shared → Prop
noncomputable def frs (l : List Env) : List Addr := l.filterMap (·.frame)
noncomputable abbrev Cx.fs (X : Cx) : List Addr := frs X.outer

noncomputable def Vis (sc : Scope) (x : Str) : Prop := sc.names.lookup x = some .local ∨ sc.names.lookup x = some .cell ∨ sc.names.lookup x = some .free
noncomputable def Loc (sc : Scope) (x : Str) : Prop := sc.names.lookup x = some .local ∨ sc.names.lookup x = some .cell
noncomputable def Look (env : Env) (h : Heap) (m : Str → Option Value) (x : Str) (u : Value) : Prop :=
  (env.kindOf x = some .local ∧ m x = some u) ∨ ((env.kindOf x = some .cell ∨ env.kindOf x = some .free) ∧ ∃ c, env.cells.lookup x = some c ∧ h.IsCell c (some u))

structure Cx.Ok (X : Cx) : Prop where
  mod : Mod X.K X.mg X.base
  kind : X.env.scope.kind = .function
  glob : X.env.globals = mainGlobals
  blt : X.env.builtins = builtinsNs
  above : X.s₀.heap.objs.size ≤ X.env.locals
  inj : ∀ x y c, X.env.cells.lookup x = some c → X.env.cells.lookup y = some c → x = y
  has : ∀ x, (X.env.kindOf x = some .cell ∨ X.env.kindOf x = some .free) → ∃ c, X.env.cells.lookup x = some c
  cab : ∀ x c, X.fn x = true → X.env.cells.lookup x = some c → X.s₀.heap.objs.size ≤ c
  hd : X.calm = true → X.A.handled = none
  frames : X.A.frames = some X.stack
  stk : X.stack = X.outer ∨ (X.stack = X.env :: X.outer ∧ X.env.frame = some X.env.locals)
  exf : ∀ b ∈ X.ex, b ≠ X.env.locals ∧ ∀ x c, X.env.cells.lookup x = some c → c ≠ b
  bs : ∀ b o, X.base.get? b = some o → X.s₀.heap.get? b = some o ∧ X.H₀ b = none
  bsz : X.base.objs.size ≤ X.s₀.heap.objs.size
  noex : ∀ b o, X.base.get? b = some o → b ∉ X.ex
  exfs : ∀ b ∈ X.ex, b ∉ X.fs
  funs : X.s₀.heap.FunFrames X.base X.outer
  frf : ∀ b ∈ X.fs, X.H₀ b = none

structure Inv (X : Cx) (pins : List (Addr × Obj)) (σ : List (Option V)) (H : Hp) (s : Shared) : Prop where
  ok : X.Ok
  os : s.os = X.s₀.os
  bare : AllBare s.gens
  base : Un X.fs X.ex X.H₀ H X.s₀.heap s.heap
  loc : ∃ m, s.heap.Ns X.env.locals m ∧ ∀ (i : Nat) (x : Str) (v : V), X.N[i]? = some x → σ[i]? = some (some v) → Vis X.env.scope x → ∃ u, RelV v u ∧ Look X.env s.heap m x u
  cell : ∀ x c, X.env.cells.lookup x = some c → ∃ v, s.heap.IsCell c v
  free : H X.env.locals = none
  freeC : ∀ x c, X.env.cells.lookup x = some c → H c = none
  pin : ∀ p ∈ X.pn ++ pins, s.heap.get? p.1 = some p.2 ∧ H p.1 = none ∧ p.1 ≠ X.env.locals ∧ p.1 ∉ X.fs ∧ ∀ v, p.2.data ≠ .cell v
  hok : HOk X.prog X.w H s.heap
  len : σ.length = X.N.length

section
variable {X : Cx} {pins : List (Addr × Obj)} {σ : List (Option V)} {H H' : Hp} {s : Shared} {h' : Heap}

theorem Cx.Ok.nofr (ok : X.Ok) {b : Addr} {o : Obj} (e : X.base.get? b = some o) : b ∉ X.fs := fun hb => by
  have := (ok.funs.mem hb).1
  rw [e] at this; cases this
theorem Inv.bs (I : Inv X pins σ H s) : ∀ b o, X.base.get? b = some o → s.heap.get? b = some o ∧ H b = none := fun b o e =>
  ⟨I.base.keep b o (I.ok.bs b o e).1 (I.ok.bs b o e).2 (I.ok.nofr e) (I.ok.noex b o e), I.base.free b o (I.ok.bs b o e).1 (I.ok.bs b o e).2 (I.ok.noex b o e)⟩
theorem Inv.bk (I : Inv X pins σ H s) : ∀ b o, X.base.get? b = some o → s.heap.get? b = some o := fun b o e => (I.bs b o e).1
theorem Inv.mod (I : Inv X pins σ H s) : Mod X.K X.mg X.base := I.ok.mod
theorem Inv.kIn (I : Inv X pins σ H s) : X.K.In s.heap := I.ok.mod.kin.keeps I.bk
theorem Inv.lt (I : Inv X pins σ H s) : X.env.locals < s.heap.objs.size := let ⟨_, hn, _⟩ := I.loc; hn.lt
theorem Inv.sz (I : Inv X pins σ H s) : X.s₀.heap.objs.size ≤ s.heap.objs.size := Nat.le_trans I.ok.above (Nat.le_of_lt I.lt)
theorem Inv.nofs (I : Inv X pins σ H s) {a : Addr} (h : s.heap.objs.size ≤ a) : a ∉ X.fs := fun hb => by
  obtain ⟨_, o, ho, _⟩ := I.ok.funs.mem hb
  exact absurd (Nat.lt_of_lt_of_le (Heap.lt_size ho) (Nat.le_trans I.sz h)) (Nat.lt_irrefl _)
theorem Inv.cne (I : Inv X pins σ H s) : ∀ x c, X.env.cells.lookup x = some c → c ≠ X.env.locals := fun x c e z => by
  obtain ⟨v, o, ho, hd⟩ := I.cell x c e
  obtain ⟨m, ⟨o', es, ep, ho', hd', _⟩, _⟩ := I.loc
  rw [z, ho'] at ho; cases ho; rw [hd'] at hd; cases hd
theorem Inv.funs (I : Inv X pins σ H s) : s.heap.FunFrames X.base X.outer := by
  have all : ∀ (l : List Env), (∀ b ∈ frs l, b ∈ X.fs) → X.s₀.heap.FunFrames X.base l → s.heap.FunFrames X.base l := by
    intro l
    induction l with
    | nil => intro _ _; trivial
    | cons env r ih =>
      intro hs hl
      obtain ⟨hk, ⟨L, o, hf, hn, ho, hd⟩, hr⟩ := hl
      have hL : L ∈ X.fs := hs L (by unfold frs; rw [List.filterMap_cons, hf]; exact List.mem_cons_self)
      obtain ⟨sl, e⟩ := I.base.slot L o ho (I.ok.frf L hL) hL fun z => I.ok.exfs L z hL
      exact ⟨hk, ⟨L, _, hf, hn, e, hd⟩, ih (fun b hb => hs b (by unfold frs; rw [List.filterMap_cons, hf]; exact List.mem_cons_of_mem _ hb)) hr⟩
  exact all X.outer (fun _ hb => hb) I.ok.funs

theorem Inv.stack (I : Inv X pins σ H s) : s.heap.FunFrames X.base X.stack := by
  rcases I.ok.stk with e | ⟨e, hf⟩
  · rw [e]; exact I.funs
  · rw [e]
    obtain ⟨m, hn, _⟩ := I.loc
    refine .cons (by rw [I.ok.kind]; decide) hf hn ?_ I.funs
    exact Heap.get?_none_of_le (Nat.le_trans I.ok.bsz I.ok.above)
theorem Inv.stkSub (I : Inv X pins σ H s) : ∀ b ∈ frs X.stack, b ∈ X.env.locals :: X.fs := fun b hb => by
  rcases I.ok.stk with e | ⟨e, hf⟩
  · rw [e] at hb; exact List.mem_cons_of_mem _ hb
  · rw [e] at hb
    unfold frs at hb
    rw [List.filterMap_cons, hf] at hb
    exact hb
theorem Inv.stkFree (I : Inv X pins σ H s) : ∀ b ∈ frs X.stack, H b = none := fun b hb => by
  rcases List.mem_cons.mp (I.stkSub b hb) with e | hb
  · rw [e]; exact I.free
  · obtain ⟨_, o, ho, _⟩ := I.ok.funs.mem hb
    exact I.base.free b o ho (I.ok.frf b hb) fun z => I.ok.exfs b z hb

theorem Inv.step {g' : Array GenState} {t' : Nat} {d' : Drawn} {ch : List Addr} (I : Inv X pins σ H s)
    (hch : ∀ b ∈ ch, (b ∈ X.ex ∨ X.s₀.heap.objs.size ≤ b) ∧ b ≠ X.env.locals ∧ (∀ x c, X.env.cells.lookup x = some c → c ≠ b) ∧ ∀ p ∈ X.pn ++ pins, p.1 ≠ b)
    (keep : ∀ b o, b ≠ X.env.locals → b ∉ X.fs → b ∉ ch → s.heap.get? b = some o → H b = none → h'.get? b = some o)
    (slot : ∀ b o, b ≠ X.env.locals → b ∈ X.fs → b ∉ ch → s.heap.get? b = some o → H b = none → ∃ sl, h'.get? b = some { o with slots := sl }) (free : ∀ b o, b ∉ ch → s.heap.get? b = some o → H b = none → H' b = none)
    (there : ∀ b o, b ∉ ch → s.heap.get? b = some o → ∃ o', h'.get? b = some o')
    (tups : ∀ b xs, H b = some (.tup xs) → H' b = some (.tup xs)) (frzs : ∀ b o u, H b = some (.frz o u) → H' b = some (.frz o u)) (tbls : ∀ b ps, H b = some (.tbl ps) → ∃ more, H' b = some (.tbl (ps ++ more)))
    (ns : ∀ m, s.heap.Ns X.env.locals m → h'.Ns X.env.locals m) (hok : HOk X.prog X.w H' h') (hg : AllBare g') :
    Inv X pins σ H' { s with heap := h', gens := g', drawn := d', toks := t' } := by
  have neL : ∀ b o, X.s₀.heap.get? b = some o → b ≠ X.env.locals := fun b o e => Nat.ne_of_lt (Nat.lt_of_lt_of_le (Heap.lt_size e) I.ok.above)
  have neC : ∀ b o, X.s₀.heap.get? b = some o → b ∉ X.ex → b ∉ ch := fun b o e hx hb => by
    rcases (hch b hb).1 with z | z
    · exact hx z
    · exact absurd (Nat.lt_of_lt_of_le (Heap.lt_size e) z) (Nat.lt_irrefl _)
  have cellK : ∀ x c, X.env.cells.lookup x = some c → ∀ v, s.heap.IsCell c v → h'.IsCell c v := fun x c e v ⟨o, ho, hd⟩ => by
    have nch : c ∉ ch := fun z => (hch c z).2.2.1 x c e rfl
    by_cases hc : c ∈ X.fs
    · obtain ⟨sl, q⟩ := slot c o (I.cne x c e) hc nch ho (I.freeC x c e)
      exact ⟨_, q, hd⟩
    · exact ⟨o, keep c o (I.cne x c e) hc nch ho (I.freeC x c e), hd⟩
  refine ⟨I.ok, I.os, hg, ⟨fun b o e n hb hx => ?_, fun b o e n hb hx => ?_, fun b o e n hx => ?_, fun b o e hx => ?_, fun b xs e => tups b xs (I.base.tups b xs e), fun b o xs e => frzs b o xs (I.base.frzs b o xs e), fun b ps e => ?_⟩, ?_, fun x c e => ?_, ?_, fun x c e => ?_, fun p hp => ?_, hok, I.len⟩
  · exact keep b o (neL b o e) hb (neC b o e hx) (I.base.keep b o e n hb hx) (I.base.free b o e n hx)
  · obtain ⟨sl, e1⟩ := I.base.slot b o e n hb hx
    obtain ⟨sl', e2⟩ := slot b _ (neL b o e) hb (neC b o e hx) e1 (I.base.free b o e n hx)
    exact ⟨sl', e2⟩
  · obtain ⟨o', e1⟩ := I.base.there b o e hx
    exact free b o' (neC b o e hx) e1 (I.base.free b o e n hx)
  · obtain ⟨o', e1⟩ := I.base.there b o e hx
    exact there b o' (neC b o e hx) e1
  · obtain ⟨m1, e1⟩ := I.base.tbls b ps e
    obtain ⟨m2, e2⟩ := tbls b _ e1
    exact ⟨m1 ++ m2, by rw [e2, Array.append_assoc]⟩
  · obtain ⟨m, hn, hl⟩ := I.loc
    refine ⟨m, ns m hn, fun i x v e1 e2 e3 => ?_⟩
    obtain ⟨u, r, l⟩ := hl i x v e1 e2 e3
    refine ⟨u, r, ?_⟩
    rcases l with l | ⟨k, c, e, z⟩
    · exact .inl l
    · exact .inr ⟨k, c, e, cellK x c e _ z⟩
  · obtain ⟨v, z⟩ := I.cell x c e
    exact ⟨v, cellK x c e v z⟩
  · obtain ⟨m, ⟨o, _, _, ho, _⟩, _⟩ := I.loc
    exact free _ o (fun z => (hch _ z).2.1 rfl) ho I.free
  · obtain ⟨v, o, ho, hd⟩ := I.cell x c e
    exact free c o (fun z => (hch c z).2.2.1 x c e rfl) ho (I.freeC x c e)
  · obtain ⟨e, n, ne, nf, d⟩ := I.pin p hp
    have nch : p.1 ∉ ch := fun z => (hch p.1 z).2.2.2 p hp rfl
    exact ⟨keep p.1 p.2 ne nf nch e n, free p.1 p.2 nch e n, ne, nf, d⟩
theorem Inv.un {t' : Nat} (I : Inv X pins σ H s) (u : Un X.fs [] H H' s.heap h') (hok : HOk X.prog X.w H' h') : Inv X pins σ H' { s with heap := h', toks := t' } := by
  obtain ⟨m, ⟨o, es, ep, ho, r⟩, _⟩ := id I.loc
  obtain ⟨sl, hL⟩ := u.any ho I.free (by simp)
  exact I.step (g' := s.gens) (d' := s.drawn) (ch := []) (fun _ z => nomatch z) (fun b o _ hb _ e n => u.keep b o e n hb (by simp)) (fun b o _ hb _ e n => u.slot b o e n hb (by simp)) (fun b o _ e n => u.free b o e n (by simp)) (fun b o _ e => u.there b o e (by simp)) u.tups u.frzs u.tbls (fun m' hm => by
    obtain ⟨o', es', ep', ho', r'⟩ := hm
    rw [ho] at ho'; cases ho'
    exact ⟨_, es', ep', hL, r'⟩) hok I.bare
theorem Inv.call {g' : Array GenState} {t' : Nat} {d' : Drawn} {ch : List Addr} (I : Inv X pins σ H s) (u : Un (frs X.stack) ch H H' s.heap h') (hok : HOk X.prog X.w H' h') (hg : AllBare g')
    (hch : ∀ b ∈ ch, (b ∈ X.ex ∨ X.s₀.heap.objs.size ≤ b) ∧ b ≠ X.env.locals ∧ (∀ x c, X.env.cells.lookup x = some c → c ≠ b) ∧ ∀ p ∈ X.pn ++ pins, p.1 ≠ b) :
    Inv X pins σ H' { s with heap := h', gens := g', drawn := d', toks := t' } := by
  obtain ⟨m, ⟨o, es, ep, ho, r⟩, _⟩ := id I.loc
  obtain ⟨sl, hL⟩ := u.any ho I.free fun z => (hch _ z).2.1 rfl
  exact I.step (ch := ch) hch (fun b o hL hb hc e n => u.keep b o e n (fun z => (List.mem_cons.mp (I.stkSub b z)).elim hL hb) hc) (fun b o _ _ hc e n => u.any e n hc) (fun b o hc e n => u.free b o e n hc) (fun b o hc e => u.there b o e hc) u.tups u.frzs u.tbls (fun m' hm => by
    obtain ⟨o', es', ep', ho', r'⟩ := hm
    rw [ho] at ho'; cases ho'
    exact ⟨_, es', ep', hL, r'⟩) hok hg
theorem Inv.turned {t' : Nat} {it : Addr} (I : Inv X pins σ H s) (k : ∀ b o, b ≠ it → s.heap.get? b = some o → h'.get? b = some o) (hn : H it = none) (hL : it ≠ X.env.locals)
    (h1 : it ∈ X.ex ∨ X.s₀.heap.objs.size ≤ it) (h2 : ∀ x c, X.env.cells.lookup x = some c → c ≠ it) (h3 : ∀ p ∈ X.pn ++ pins, p.1 ≠ it) : Inv X pins σ H { s with heap := h', toks := t' } := by
  have nit : ∀ b u, H b = some u → b ≠ it := fun b u e z => by rw [z, hn] at e; cases e
  refine I.step (g' := s.gens) (d' := s.drawn) (ch := [it]) (fun b hb => ?_) (fun b o _ _ hc e _ => k b o (fun z => hc (by simp [z])) e) (fun b o _ _ hc e _ => ⟨o.slots, k b o (fun z => hc (by simp [z])) e⟩) (fun _ _ _ _ n => n)
    (fun b o hc e => ⟨o, k b o (fun z => hc (by simp [z])) e⟩) (fun _ _ e => e) (fun _ _ _ e => e) (fun b ps e => ⟨#[], by rw [e]; simp⟩) (fun m hm => ?_) (fun b u e => ?_) I.bare
  · have e : b = it := by simpa using hb
    subst e
    exact ⟨h1, hL, h2, h3⟩
  · obtain ⟨o, es, ep, ho, r⟩ := hm
    exact ⟨o, es, ep, k _ o (Ne.symm hL) ho, r⟩
  · refine (I.hok b u e).stay (fun c v hc q => k c v ?_ q) (fun _ q => q) fun _ _ q => q
    rcases hc with z | z
    · rw [z]; exact nit b u e
    · exact nit c _ z
theorem Inv.tok (I : Inv X pins σ H s) (t : Nat) : Inv X pins σ H { s with toks := t } := I.un (h' := s.heap) (t' := t) Un.refl I.hok
theorem Inv.kept {t' : Nat} (I : Inv X pins σ H s) (k : ∀ b u, s.heap.get? b = some u → h'.get? b = some u) : Inv X pins σ H { s with heap := h', toks := t' } := I.un (Un.kept k) (I.hok.kept k)
theorem Inv.laid {a : Addr} {o : HO} {t' : Nat} (I : Inv X pins σ H s) (k : ∀ b u, s.heap.get? b = some u → h'.get? b = some u) (hp : s.heap.objs.size ≤ a) (new : ObjOk X.prog X.w (upd H a o) h' a o) :
    Inv X pins σ (upd H a o) { s with heap := h', toks := t' } := I.un (Un.laid k hp (I.hok.fresh hp)) (I.hok.laid k hp new)
theorem Inv.write {x e : Addr} {o : HO} {t' : Nat} (I : Inv X pins σ H s) (mu : Mut (H x)) (he : e = x ∨ H e = some (.own x)) (k : ∀ b u, b ≠ e → s.heap.get? b = some u → h'.get? b = some u) (heo : ∃ u, h'.get? e = some u)
    (new : ObjOk X.prog X.w (upd H x o) h' x o) : Inv X pins σ (upd H x o) { s with heap := h', toks := t' } := I.un (Un.write mu he k heo) (I.hok.write mu he k heo new)
theorem Inv.pins_of {pins' : List (Addr × Obj)} (I : Inv X pins σ H s) (h : ∀ p ∈ pins', s.heap.get? p.1 = some p.2 ∧ H p.1 = none ∧ p.1 ≠ X.env.locals ∧ p.1 ∉ X.fs ∧ ∀ v, p.2.data ≠ .cell v) : Inv X pins' σ H s :=
  ⟨I.ok, I.os, I.bare, I.base, I.loc, I.cell, I.free, I.freeC, fun p hp => (List.mem_append.mp hp).elim (fun z => I.pin p (List.mem_append_left _ z)) (h p), I.hok, I.len⟩

theorem nodup_ix {N : List Str} (hN : N.Nodup) {i j : Nat} {x : Str} (a : N[i]? = some x) (b : N[j]? = some x) : i = j := by
  obtain ⟨h1, e1⟩ := List.getElem?_eq_some_iff.mp a
  obtain ⟨h2, e2⟩ := List.getElem?_eq_some_iff.mp b
  exact (List.getElem_inj hN).mp (e1.trans e2.symm)

theorem store_ok2 {M : Model} {A : Around} {E : Value → Shared → Prop} {i : Nat} {x : Str} {v : V} {u : Value} {Q : Unit → Shared → Prop} (I : Inv X pins σ H s) (hN : X.N.Nodup) (hi : X.N[i]? = some x) (hx : Loc X.env.scope x) (r : RelV v u)
    (h : ∀ s', Inv X pins (σ.set i (some v)) H s' → (∃ a, Heap.SameBut a s.heap s'.heap ∧ (a = X.env.locals ∨ X.env.cells.lookup x = some a)) → Q () s') (hf : X.fn x = true ∨ X.env.scope.names.lookup x = some .local := by first | exact .inl rfl | exact .inr rfl | assumption) : wpAny M A (storeName X.env x u) Q E s := by
  obtain ⟨m, hn, hl⟩ := id I.loc
  have hcls : (X.env.scope.kind == .class || (X.env.scope.kind == .module && X.env.locals != X.env.globals)) = false := by rw [I.ok.kind]; rfl
  have hiσ : i < σ.length := by rw [I.len]; exact (List.getElem?_eq_some_iff.mp hi).1
  have cne := I.cne
  have tracked : ∀ {a : Addr} {h' : Heap}, (∃ o, s.heap.get? a = some o ∧ H a = none) → Heap.SameBut a s.heap h' → HOk X.prog X.w H h' := fun {a h'} ha hs b ob e => by
    obtain ⟨_, _, hfree⟩ := ha
    refine (I.hok b ob e).stay (fun c w' hc q => (hs.2 c ?_).trans q) (fun _ q => q) fun _ _ q => q
    rintro rfl
    rcases hc with rfl | hc
    · rw [hfree] at e; cases e
    · rw [hfree] at hc; cases hc
  rcases hx with hk | hk
  · refine wpAny_storeName_local hk hn (fun h' hn' hs => ?_) hcls
    obtain ⟨oL, _, _, hoL, _⟩ := id hn
    refine h _ ⟨I.ok, I.os, I.bare, ⟨fun b o e n hb hx => ?_, fun b o e n hb hx => ?_, I.base.free, fun b o e hx => ?_, I.base.tups, I.base.frzs, I.base.tbls⟩, ⟨_, hn', fun j y v' e1 e2 e3 => ?_⟩, fun y c e => ?_, I.free, I.freeC, fun p hp => ?_, tracked ⟨oL, hoL, I.free⟩ hs, by simpa using I.len⟩ ⟨_, hs, .inl rfl⟩
    · exact (hs.2 b (Nat.ne_of_lt (Nat.lt_of_lt_of_le (Heap.lt_size e) I.ok.above))).trans (I.base.keep b o e n hb hx)
    · obtain ⟨sl, e1⟩ := I.base.slot b o e n hb hx
      exact ⟨sl, (hs.2 b (Nat.ne_of_lt (Nat.lt_of_lt_of_le (Heap.lt_size e) I.ok.above))).trans e1⟩
    · obtain ⟨o', e1⟩ := I.base.there b o e hx
      exact ⟨o', (hs.2 b (Nat.ne_of_lt (Nat.lt_of_lt_of_le (Heap.lt_size e) I.ok.above))).trans e1⟩
    · by_cases hj : j = i
      · subst hj
        rw [hi] at e1; cases e1
        rw [List.getElem?_set_self hiσ] at e2
        cases e2
        exact ⟨u, r, .inl ⟨hk, by simp⟩⟩
      · rw [List.getElem?_set_ne (Ne.symm hj)] at e2
        obtain ⟨u', r', q⟩ := hl j y v' e1 e2 e3
        refine ⟨u', r', ?_⟩
        rcases q with ⟨k, e⟩ | ⟨k, c, e, z⟩
        · refine .inl ⟨k, ?_⟩
          have : y ≠ x := fun e => hj (nodup_ix hN e1 (e ▸ hi))
          simp [this, e]
        · exact .inr ⟨k, c, e, z.sameBut hs (cne y c e)⟩
    · obtain ⟨w', z⟩ := I.cell y c e
      exact ⟨w', z.sameBut hs (cne y c e)⟩
    · obtain ⟨e, n, ne, nf, d⟩ := I.pin p hp
      exact ⟨(hs.2 p.1 ne).trans e, n, ne, nf, d⟩
  · have hfn : X.fn x = true := by
      rcases hf with z | z
      · exact z
      · rw [z] at hk; cases hk
    obtain ⟨c, hc⟩ := I.ok.has x (.inl hk)
    obtain ⟨w', z⟩ := I.cell x c hc
    refine wpAny_storeName_cell I.ok.kind hk hc z (fun h' hc' hs => ?_)
    obtain ⟨oc, hoc, hocd⟩ := id z
    refine h { s with heap := h' } ⟨I.ok, I.os, I.bare, ⟨fun b o e n hb hx => ?_, fun b o e n hb hx => ?_, I.base.free, fun b o e hx => ?_, I.base.tups, I.base.frzs, I.base.tbls⟩, ⟨m, hn.sameBut hs (Ne.symm (cne x c hc)), fun j y v' e1 e2 e3 => ?_⟩, fun y c' e => ?_, I.free, I.freeC, fun p hp => ?_, tracked ⟨oc, hoc, I.freeC x c hc⟩ hs, by simpa using I.len⟩ ⟨c, hs, .inr hc⟩
    · exact (hs.2 b (Nat.ne_of_lt (Nat.lt_of_lt_of_le (Heap.lt_size e) (I.ok.cab x c hfn hc)))).trans (I.base.keep b o e n hb hx)
    · obtain ⟨sl, e1⟩ := I.base.slot b o e n hb hx
      exact ⟨sl, (hs.2 b (Nat.ne_of_lt (Nat.lt_of_lt_of_le (Heap.lt_size e) (I.ok.cab x c hfn hc)))).trans e1⟩
    · obtain ⟨o', e1⟩ := I.base.there b o e hx
      exact ⟨o', (hs.2 b (Nat.ne_of_lt (Nat.lt_of_lt_of_le (Heap.lt_size e) (I.ok.cab x c hfn hc)))).trans e1⟩
    · by_cases hj : j = i
      · subst hj
        rw [hi] at e1; cases e1
        rw [List.getElem?_set_self hiσ] at e2
        cases e2
        exact ⟨u, r, .inr ⟨.inl hk, c, hc, hc'⟩⟩
      · rw [List.getElem?_set_ne (Ne.symm hj)] at e2
        obtain ⟨u', r', q⟩ := hl j y v' e1 e2 e3
        refine ⟨u', r', ?_⟩
        rcases q with q | ⟨k, c', e, z'⟩
        · exact .inl q
        · refine .inr ⟨k, c', e, z'.sameBut hs ?_⟩
          rintro rfl
          exact hj (nodup_ix hN e1 (I.ok.inj _ _ _ e hc ▸ hi))
    · by_cases hcc : c' = c
      · subst hcc; exact ⟨_, hc'⟩
      · obtain ⟨w2, z2⟩ := I.cell y c' e
        exact ⟨w2, z2.sameBut hs hcc⟩
    · obtain ⟨e, n, ne, nf, d⟩ := I.pin p hp
      refine ⟨(hs.2 p.1 ?_).trans e, n, ne, nf, d⟩
      intro q
      rw [q, hoc] at e
      have q' : oc = p.2 := Option.some.inj e
      exact d w' (by rw [← q']; exact hocd)
theorem store_ok {M : Model} {A : Around} {E : Value → Shared → Prop} {i : Nat} {x : Str} {v : V} {u : Value} {Q : Unit → Shared → Prop} (I : Inv X pins σ H s) (hN : X.N.Nodup) (hi : X.N[i]? = some x) (hx : Loc X.env.scope x) (r : RelV v u)
    (h : ∀ s', Inv X pins (σ.set i (some v)) H s' → Q () s') (hf : X.fn x = true ∨ X.env.scope.names.lookup x = some .local := by first | exact .inl rfl | exact .inr rfl | assumption) : wpAny M A (storeName X.env x u) Q E s :=
  store_ok2 I hN hi hx r (fun s' I' _ => h s' I') hf
theorem Inv.call' {s' : Shared} {ch : List Addr} (I : Inv X pins σ H s) (ho : s'.os = s.os) (u : Un (frs X.stack) ch H H' s.heap s'.heap) (hok : HOk X.prog X.w H' s'.heap) (hg : AllBare s'.gens)
    (hch : ∀ b ∈ ch, (b ∈ X.ex ∨ X.s₀.heap.objs.size ≤ b) ∧ b ≠ X.env.locals ∧ (∀ x c, X.env.cells.lookup x = some c → c ≠ b) ∧ ∀ p ∈ X.pn ++ pins, p.1 ≠ b) : Inv X pins σ H' s' := by
  obtain ⟨h', g', d', t', o'⟩ := s'
  have e : o' = s.os := ho
  subst e
  exact I.call (g' := g') (t' := t') (d' := d') u hok hg hch
end

noncomputable abbrev XK := Value → Option Addr → Hp → Prop
noncomputable abbrev St := List (Option V)
noncomputable abbrev VK := V → Hp → Prop
noncomputable abbrev TE := St → Hp → VK → Prop
noncomputable abbrev TT := St → Hp → (Bool → Hp → Prop) → Prop
noncomputable abbrev TA := St → Hp → (List V → Hp → Prop) → Prop
structure Ends where
  nx : St → Hp → Prop
  rt : VK
  bk : St → Hp → Prop := fun _ _ => False
  ct : St → Hp → Prop := fun _ _ => False
noncomputable abbrev TS := Ends → St → Hp → Prop

noncomputable def EP (X : Cx) (pins : List (Addr × Obj)) (σ : St) (Q : VK) (u : Value) (s' : Shared) : Prop := ∃ v H', Inv X pins σ H' s' ∧ RelV v u ∧ Q v H'
noncomputable def TP (X : Cx) (pins : List (Addr × Obj)) (σ : St) (Q : Bool → Hp → Prop) (b : Bool) (s' : Shared) : Prop := ∃ H', Inv X pins σ H' s' ∧ Q b H'
noncomputable def AP (X : Cx) (pins : List (Addr × Obj)) (σ : St) (Q : List V → Hp → Prop) (us : List Value) (s' : Shared) : Prop := ∃ vs H', Inv X pins σ H' s' ∧ Vals vs us ∧ Q vs H'
noncomputable def SP (X : Cx) (pins : List (Addr × Obj)) (D : Ends) (f : Flow) (s' : Shared) : Prop :=
  match f with
  | .next => ∃ σ' H', Inv X pins σ' H' s' ∧ D.nx σ' H'
  | .brk => ∃ σ' H', Inv X pins σ' H' s' ∧ D.bk σ' H'
  | .cont => ∃ σ' H', Inv X pins σ' H' s' ∧ D.ct σ' H'
  | .ret u => ∃ v σ' H', Inv X pins σ' H' s' ∧ RelV v u ∧ D.rt v H'

noncomputable def PE (X : Cx) (e : Expr) (t : TE) : Prop :=
  ∀ (pins : List (Addr × Obj)) (s : Shared) (σ : St) (H : Hp) (Q : VK), Inv X pins σ H s → t σ H Q → wpAny (model X.prog X.w) X.A (eval e X.env) (EP X pins σ Q) X.xe s
noncomputable def PT (X : Cx) (e : Expr) (t : TT) : Prop :=
  ∀ (pins : List (Addr × Obj)) (s : Shared) (σ : St) (H : Hp) (Q : Bool → Hp → Prop), Inv X pins σ H s → t σ H Q → wpAny (model X.prog X.w) X.A (isTrue e X.env (eval e X.env)) (TP X pins σ Q) X.xe s
noncomputable def PW (X : Cx) (e : Expr) (t : TT) : Prop :=
  ∀ (whole : Sem Value) (pins : List (Addr × Obj)) (s : Shared) (σ : St) (H : Hp) (Q : Bool → Hp → Prop), Inv X pins σ H s → t σ H Q → wpAny (model X.prog X.w) X.A (isTrue e X.env whole) (TP X pins σ Q) X.xe s
theorem PW.pt {X : Cx} {e : Expr} {t : TT} (h : PW X e t) : PT X e t := h _
noncomputable def PA (X : Cx) (es : List Expr) (t : TA) : Prop :=
  ∀ (pos : Pos) (pins : List (Addr × Obj)) (s : Shared) (σ : St) (H : Hp) (Q : List V → Hp → Prop), Inv X pins σ H s → t σ H Q → wpAny (model X.prog X.w) X.A (spliced (backTo pos (starEach es X.env))) (AP X pins σ Q) X.xe s
noncomputable def PS (X : Cx) (st : Stmt) (t : TS) : Prop :=
  ∀ (pins : List (Addr × Obj)) (s : Shared) (σ : St) (H : Hp) (D : Ends), Inv X pins σ H s → t D σ H → wpAny (model X.prog X.w) X.A (exec st X.env) (SP X pins D) X.xe s
noncomputable def PSs (X : Cx) (st : List Stmt) (t : TS) : Prop :=
  ∀ (pins : List (Addr × Obj)) (s : Shared) (σ : St) (H : Hp) (D : Ends), Inv X pins σ H s → t D σ H → wpAny (model X.prog X.w) X.A (execs st X.env) (SP X pins D) X.xe s
theorem thn {α : Type} {t : Sem α} {Q Q' : α → Shared → Prop} {M : Model} {A : Around} {E : Value → Shared → Prop} {s : Shared} (h : wpAny M A t Q E s) (hQ : ∀ a s, Q a s → Q' a s) : wpAny M A t Q' E s := wpAny_mono h hQ fun _ _ x => x
end L2

namespace L2
open PySem PySem.Spec PyProof.Rows
section
variable {X : Cx}

noncomputable def tVar (i : Nat) : TE := fun σ H Q => ∃ v, σ[i]? = some (some v) ∧ Q v H
noncomputable def tC (v : V) : TE := fun _ H Q => Q v H
theorem pe_var {i : Nat} {x : Str} {pos : Pos} (hN : X.N[i]? = some x) (hv : Vis X.env.scope x) (hd : (x == ("__debug__" : Str)) = false := by decide) (hcd : (x == ("__classdict__" : Str)) = false := by decide) : PE X (.Name x pos) (tVar i) := by
  intro pins s σ H Q I h
  obtain ⟨v, e, h⟩ := h
  obtain ⟨m, hn, hl⟩ := I.loc
  obtain ⟨u, r, l⟩ := hl i x v hN e hv
  have fin : EP X pins σ Q u s := ⟨v, H, I, r, h⟩
  rcases l with ⟨hk, hm⟩ | ⟨hk, c, hc, hcell⟩
  · exact wpAny_Name (wpAny_loadName_local I.ok.kind hk hn hm fin) hd
  · rcases hk with hk | hk
    · exact wpAny_Name (wpAny_loadName_cell I.ok.kind hk hc hcell fin) hd
    · exact wpAny_Name (wpAny_loadName_free I.ok.kind hk hc hcell fin hcd) hd
theorem pe_int {i j pos} : PE X (.Constant (.int i) j pos) (tC (.int i)) := fun _ _ _ H _ I h => wpAny_Constant_int ⟨.int i, H, I.tok _, ⟨_, rfl⟩, h⟩
theorem pe_bl {b j pos} : PE X (.Constant (.bool b) j pos) (tC (.bl b)) := fun _ _ _ H _ I h => Constant_bool ⟨.bl b, H, I, rfl, h⟩
theorem pe_str {x j pos} : PE X (.Constant (.str x) j pos) (tC (.str x)) := fun _ _ _ H _ I h => Calls.Constant_str ⟨.str x, H, I.tok _, ⟨_, rfl⟩, h⟩

noncomputable def Gl (X : Cx) (x : Str) : Prop := X.env.kindOf x = some .globalImplicit
theorem ld_glob {E : Value → Shared → Prop} {pins : List (Addr × Obj)} {s : Shared} {σ : St} {H : Hp} {x : Str} {u : Value} {pos : Pos} {Q : Value → Shared → Prop} (I : Inv X pins σ H s) (hg : Gl X x) (hm : X.mg x = some u) (h : Q u s)
    (hd : (x == ("__debug__" : Str)) = false := by decide) : wpAny (model X.prog X.w) X.A (eval (.Name x pos) X.env) Q E s :=
  Calls.Name_function_global I.ok.kind hg (Calls.loadGlobal_global (by rw [I.ok.glob]; exact I.mod.glob.keeps I.bk) hm h) hd
theorem ld_blt {E : Value → Shared → Prop} {pins : List (Addr × Obj)} {s : Shared} {σ : St} {H : Hp} {x : Str} {u : Value} {pos : Pos} {Q : Value → Shared → Prop} (I : Inv X pins σ H s) (hg : Gl X x) (hm : X.mg x = none) (hv : bootBuiltins x = some u) (h : Q u s)
    (hn : x ≠ "__name__" := by decide) (hd : (x == ("__debug__" : Str)) = false := by decide) : wpAny (model X.prog X.w) X.A (eval (.Name x pos) X.env) Q E s := by
  obtain ⟨mb, h1, h2⟩ := I.mod.blt
  exact Calls.Name_function_global I.ok.kind hg (Calls.loadGlobal_builtin (by rw [I.ok.glob]; exact I.mod.glob.keeps I.bk) hm (by rw [I.ok.blt]; exact h1.keeps I.bk) ((h2 x hn).trans hv) h) hd
theorem pe_glob {x : Str} {v : V} {u : Value} {pos : Pos} (hg : Gl X x) (hm : X.mg x = some u) (r : RelV v u) (hd : (x == ("__debug__" : Str)) = false := by decide) : PE X (.Name x pos) (tC v) :=
  fun _ _ _ H _ I h => ld_glob I hg hm ⟨v, H, I, r, h⟩ hd
theorem pe_bltn {x : Str} {v : V} {u : Value} {pos : Pos} (hg : Gl X x) (hm : X.mg x = none) (hv : bootBuiltins x = some u) (r : RelV v u) (hn : x ≠ "__name__" := by decide) (hd : (x == ("__debug__" : Str)) = false := by decide) : PE X (.Name x pos) (tC v) :=
  fun _ _ _ H _ I h => ld_blt I hg hm hv ⟨v, H, I, r, h⟩ hn hd

variable {a b : Expr} {ta tb : TE} {pos : Pos}
noncomputable def tB (t : TE) : TT := fun σ H Q => t σ H fun x H1 => ∃ c, x = .bl c ∧ Q c H1
theorem pt_val {e : Expr} {t : TE} (h : PE X e t) (he : ∀ whole, isTrue e X.env whole = (do let v ← whole; standAt e.pos; holding [v] (truthy v)) := by intro _; rfl) : PT X e (tB t) := by
  intro pins s σ H Q I hw
  refine isTrue_plain (thn (h pins s σ H _ I hw) fun v s1 ⟨x, H1, I1, r1, q1⟩ => ?_) (he _)
  obtain ⟨d, rfl, q⟩ := q1
  cases r1
  exact wpAny_truthy_bool ⟨H1, I1, q⟩

variable {tA tB' : TT} {rest : List Expr}
noncomputable def tAnd (t u : TT) : TT := fun σ H Q => t σ H fun c H1 => if c = true then u σ H1 Q else Q false H1
noncomputable def tOr (t u : TT) : TT := fun σ H Q => t σ H fun c H1 => if c = true then Q true H1 else u σ H1 Q
noncomputable def tNot (t : TT) : TT := fun σ H Q => t σ H fun c H1 => Q (!c) H1
theorem pw_and1 (ha : PT X a tA) : PW X (.BoolOp .And [a] pos) tA := by
  intro wh pins s σ H Q I h
  refine isTrue_and (thn (ha pins s σ H Q I h) fun c s1 e => ?_)
  cases c with
  | true => exact isTrue_and_nil e
  | false => exact e
theorem pw_or1 (ha : PT X a tA) : PW X (.BoolOp .Or [a] pos) tA := by
  intro wh pins s σ H Q I h
  refine isTrue_or (thn (ha pins s σ H Q I h) fun c s1 e => ?_)
  cases c with
  | false => exact isTrue_or_nil e
  | true => exact e
theorem pw_and (ha : PT X a tA) (hb : PW X (.BoolOp .And (b :: rest) pos) tB') : PW X (.BoolOp .And (a :: b :: rest) pos) (tAnd tA tB') := by
  intro wh pins s σ H Q I h
  refine isTrue_and (thn (ha pins s σ H _ I h) fun c s1 ⟨H1, I1, q1⟩ => ?_)
  cases c with
  | true => exact hb wh pins s1 σ H1 Q I1 q1
  | false => exact ⟨H1, I1, q1⟩
theorem pw_or (ha : PT X a tA) (hb : PW X (.BoolOp .Or (b :: rest) pos) tB') : PW X (.BoolOp .Or (a :: b :: rest) pos) (tOr tA tB') := by
  intro wh pins s σ H Q I h
  refine isTrue_or (thn (ha pins s σ H _ I h) fun c s1 ⟨H1, I1, q1⟩ => ?_)
  cases c with
  | true => exact ⟨H1, I1, q1⟩
  | false => exact hb wh pins s1 σ H1 Q I1 q1
theorem pt_not (ha : PT X a tA) : PT X (.UnaryOp .Not a pos) (tNot tA) := by
  intro pins s σ H Q I h
  exact isTrue_not (ha pins s σ H (fun c H1 => Q (!c) H1) I h)
noncomputable def tAndV (ta tb : TE) : TE := fun σ H Q => ta σ H fun x H1 => ∃ c, x = .bl c ∧ if c = true then tb σ H1 Q else Q (.bl false) H1
theorem pe_one {op} {t : TE} (h : PE X a t) : PE X (.BoolOp op [a] pos) t := fun pins s σ H Q I hw => BoolOp_one (h pins s σ H Q I hw)
theorem pe_and (ha : PE X a ta) (hb : PE X (.BoolOp .And (b :: rest) pos) tb) : PE X (.BoolOp .And (a :: b :: rest) pos) (tAndV ta tb) := by
  intro pins s σ H Q I h
  refine BoolOp_and (thn (ha pins s σ H _ I h) fun v s1 ⟨x, H1, I1, r1, q1⟩ => ?_)
  obtain ⟨c, rfl, q1⟩ := q1
  cases r1
  refine wpAny_truthy_bool ?_
  cases c with
  | true => exact hb pins s1 σ H1 Q I1 q1
  | false => exact ⟨.bl false, H1, I1, rfl, q1⟩
noncomputable def tIf (t : TT) (ta tb : TE) : TE := fun σ H Q => t σ H fun c H1 => if c = true then ta σ H1 Q else tb σ H1 Q
theorem pe_ifExp {c : Expr} (hc : PT X c tA) (ha : PE X a ta) (hb : PE X b tb) : PE X (.IfExp c a b pos) (tIf tA ta tb) := by
  intro pins s σ H Q I h
  refine wpAny_IfExp (thn (hc pins s σ H _ I h) fun d s1 ⟨H1, I1, q1⟩ => ?_)
  cases d with
  | true => exact ha pins s1 σ H1 Q I1 q1
  | false => exact hb pins s1 σ H1 Q I1 q1
end
end L2

namespace L2
open PySem PySem.Spec PyProof.Rows

noncomputable def SqL (K : PySem.W.Frag) (H : Hp) (a : Addr) (xs : List V) : Prop :=
  Rd H a (.lst xs) ∨
    ∃ (o : Obj) (its : Array Value) (n : Nat), K.lookup a = some o ∧ o.cls = .type "list" ∧ o.dict = none ∧ o.data = .seq its n ∧ its.size ≤ sizeLine ∧ Vals xs its.toList
noncomputable def SqT (K : PySem.W.Frag) (H : Hp) (a : Addr) (xs : List V) : Prop :=
  Rd H a (.tup xs) ∨
    ∃ (o : Obj) (its : Array Value) (n : Nat), K.lookup a = some o ∧ o.cls = .type "tuple" ∧ o.data = .seq its n ∧ its.size ≤ sizeLine ∧ Vals xs its.toList
noncomputable def absV : Value → Option V
  | .none => some .non
  | .bool b => some (.bl b)
  | .int i _ => some (.int i)
  | .str x _ => some (.str x)
  | .bytes b _ => some (.byt b)
  | .float b _ => some (.flt b)
  | .ref a => some (.ref a)
  | .type n => some (.ty n)
  | _ => none
theorem RelV.abs {x : V} {u : Value} (r : RelV x u) : absV u = some x := by
  cases x with
  | non => cases r; rfl
  | bl _ => cases r; rfl
  | int _ => obtain ⟨t, rfl⟩ := r; rfl
  | str _ => obtain ⟨t, rfl⟩ := r; rfl
  | byt _ => obtain ⟨t, rfl⟩ := r; rfl
  | flt _ => obtain ⟨t, rfl⟩ := r; rfl
  | ref _ => cases r; rfl
  | ty _ => cases r; rfl
theorem RelV.inj {x y : V} {u : Value} (r : RelV x u) (q : RelV y u) : x = y := Option.some.inj (r.abs.symm.trans q.abs)
theorem Vals.inj : ∀ {xs ys : List V} {us : List Value}, Vals xs us → Vals ys us → xs = ys
  | _, _, _, .nil, .nil => rfl
  | _, _, _, .cons r t, .cons r' t' => by rw [r.inj r', Vals.inj t t']
section
variable {X : Cx} {pins : List (Addr × Obj)} {σ : St} {H : Hp} {s : Shared} {a : Addr} {xs ys : List V}
theorem SqL.of {K : PySem.W.Frag} (h : H a = some (.lst xs)) : SqL K H a xs := .inl (.inl h)
theorem SqT.of {K : PySem.W.Frag} (h : H a = some (.tup xs)) : SqT K H a xs := .inl (.inl h)
theorem Inv.list (I : Inv X pins σ H s) (h : SqL X.K H a xs) : ∃ its : List Value, Vals xs its ∧ PlainL s.heap a its.toArray ∧ xs.length ≤ sizeLine := by
  rcases h with h | ⟨o, its, n, hk, hc, hd, hs, hz, r⟩
  · obtain ⟨z, its, n, r, e⟩ := h.ok I.hok
    exact ⟨its, r, ⟨_, n, e, rfl, rfl, rfl⟩, z⟩
  · refine ⟨its.toList, r, ⟨o, n, I.kIn a o hk, hc, hd, by simpa using hs⟩, ?_⟩
    have e := r.length
    simp only [Array.length_toList] at e
    (first | lia | omega)
theorem Inv.tuple (I : Inv X pins σ H s) (h : SqT X.K H a xs) : ∃ its : List Value, Vals xs its ∧ IsTup s.heap a its.toArray ∧ xs.length ≤ sizeLine := by
  rcases h with h | ⟨o, its, n, hk, hc, hs, hz, r⟩
  · obtain ⟨z, its, r, p⟩ := h.ok I.hok
    exact ⟨its, r, p, z⟩
  · refine ⟨its.toList, r, ⟨o, I.kIn a o hk, hc, n, by simpa using hs⟩, ?_⟩
    have e := r.length
    simp only [Array.length_toList] at e
    (first | lia | omega)
theorem Inv.list_inj (I : Inv X pins σ H s) (h : SqL X.K H a xs) (h' : SqL X.K H a ys) : xs = ys := by
  obtain ⟨its, r, ⟨o, n, e, _, _, d⟩, _⟩ := I.list h
  obtain ⟨its', r', ⟨o', n', e', _, _, d'⟩, _⟩ := I.list h'
  rw [e] at e'; cases e'
  rw [d] at d'
  injection d' with d1 _
  have : its = its' := by simpa using congrArg Array.toList d1
  subst this
  exact r.inj r'
theorem Inv.tuple_inj (I : Inv X pins σ H s) (h : SqT X.K H a xs) (h' : SqT X.K H a ys) : xs = ys := by
  obtain ⟨its, r, ⟨o, e, _, n, d⟩, _⟩ := I.tuple h
  obtain ⟨its', r', ⟨o', e', _, n', d'⟩, _⟩ := I.tuple h'
  rw [e] at e'; cases e'
  rw [d] at d'
  injection d' with d1 _
  have : its = its' := by simpa using congrArg Array.toList d1
  subst this
  exact r.inj r'
end

noncomputable abbrev Cx.wish (X : Cx) (E : Value → Shared → Prop) : Cx := { X with xe := E }
noncomputable abbrev Cx.nox (X : Cx) : Cx := X.wish fun _ _ => False
theorem Cx.Ok.wish {X : Cx} (ok : X.Ok) (E : Value → Shared → Prop) : (X.wish E).Ok :=
  ⟨ok.mod, ok.kind, ok.glob, ok.blt, ok.above, ok.inj, ok.has, ok.cab, ok.hd, ok.frames, ok.stk, ok.exf, ok.bs, ok.bsz, ok.noex, ok.exfs, ok.funs, ok.frf⟩
theorem Cx.Ok.unwish {X : Cx} {E : Value → Shared → Prop} (ok : (X.wish E).Ok) : X.Ok :=
  ⟨ok.mod, ok.kind, ok.glob, ok.blt, ok.above, ok.inj, ok.has, ok.cab, ok.hd, ok.frames, ok.stk, ok.exf, ok.bs, ok.bsz, ok.noex, ok.exfs, ok.funs, ok.frf⟩
section
variable {X : Cx} {pins : List (Addr × Obj)} {σ : St} {H : Hp} {s : Shared} {E : Value → Shared → Prop}
theorem Inv.wish (I : Inv X pins σ H s) (E : Value → Shared → Prop) : Inv (X.wish E) pins σ H s := ⟨I.ok.wish E, I.os, I.bare, I.base, I.loc, I.cell, I.free, I.freeC, I.pin, I.hok, I.len⟩
theorem Inv.unwish (I : Inv (X.wish E) pins σ H s) : Inv X pins σ H s := ⟨I.ok.unwish, I.os, I.bare, I.base, I.loc, I.cell, I.free, I.freeC, I.pin, I.hok, I.len⟩
theorem SP.unwish {D : Ends} {f : Flow} {s' : Shared} (h : SP (X.wish E) pins D f s') : SP X pins D f s' := by
  cases f with
  | next => obtain ⟨σ', H', I, q⟩ := h; exact ⟨σ', H', I.unwish, q⟩
  | brk => obtain ⟨σ', H', I, q⟩ := h; exact ⟨σ', H', I.unwish, q⟩
  | cont => obtain ⟨σ', H', I, q⟩ := h; exact ⟨σ', H', I.unwish, q⟩
  | ret u => obtain ⟨v, σ', H', I, r, q⟩ := h; exact ⟨v, σ', H', I.unwish, r, q⟩
theorem PSs.nox {st : List Stmt} {t : TS} (h : PSs X.nox st t) : PSs X st t := fun pins s σ H D I hw =>
  wpAny_mono (h pins s σ H D (I.wish _) hw) (fun _ _ q => q.unwish) fun _ _ z => False.elim z
end

section
variable {X : Cx} {st : Stmt} {rest : List Stmt} {t u : TS} {e : Expr} {te : TE} {pos : Pos}
noncomputable def tNext : TS := fun D σ H => D.nx σ H
noncomputable def tSeq (t u : TS) : TS := fun D σ H => t { D with nx := u D } σ H
theorem pss_nil : PSs X [] tNext := fun _ _ σ H _ I h => wpAny_execs_nil ⟨σ, H, I, h⟩
theorem pss_cons (h1 : PS X st t) (h2 : PSs X rest u) : PSs X (st :: rest) (tSeq t u) := by
  intro pins s σ H D I h
  refine wpAny_execs_cons (thn (h1 pins s σ H { D with nx := u D } I h) fun f s1 q => ?_)
  cases f with
  | next =>
    obtain ⟨σ', H', I', q⟩ := q
    exact h2 pins s1 σ' H' D I' q
  | ret v => exact q
  | brk => exact q
  | cont => exact q
theorem pss_one (h1 : PS X st t) : PSs X [st] t := by
  intro pins s σ H D I h
  refine wpAny_execs_cons (thn (h1 pins s σ H D I h) fun f s1 q => ?_)
  cases f with
  | next => exact wpAny_execs_nil q
  | ret v => exact q
  | brk => exact q
  | cont => exact q
theorem Inv.quiet {pins : List (Addr × Obj)} {σ : St} {H : Hp} {s : Shared} (I : Inv X pins σ H s) : interactive X.env = false := by simp [interactive, I.ok.kind]
noncomputable def tDrop (te : TE) : TS := fun D σ H => te σ H fun _ H1 => D.nx σ H1
theorem ps_expr (he : PE X e te) (hs : swapsWith e none pos.line X.env = pure false := by rfl) : PS X (.Expr e pos) (tDrop te) := by
  intro pins s σ H D I h
  exact wpAny_Expr_any (thn (he pins s σ H _ I h) fun v s1 ⟨x, H1, I1, r1, q1⟩ => ⟨σ, H1, I1, q1⟩) I.quiet hs
noncomputable def tRet (te : TE) : TS := fun D σ H => te σ H D.rt
theorem ps_ret (he : PE X e te) : PS X (.Return (some e) pos) (tRet te) := by
  intro pins s σ H D I h
  exact wpAny_Return_some (thn (he pins s σ H _ I h) fun v s1 ⟨x, H1, I1, r1, q1⟩ => ⟨x, σ, H1, I1, r1, q1⟩)
noncomputable def tIfS (c : TT) (t u : TS) : TS := fun D σ H => c σ H fun b H1 => if b = true then t D σ H1 else u D σ H1
theorem ps_if {c : Expr} {a b : List Stmt} {tc : TT} (hc : PT X c tc) (ha : PSs X a t) (hb : PSs X b u) : PS X (.If c a b pos) (tIfS tc t u) := by
  intro pins s σ H D I h
  refine wpAny_If (thn (hc pins s σ H _ I h) fun d s1 ⟨H1, I1, q1⟩ => ?_)
  cases d with
  | true => exact ha pins s1 σ H1 D I1 q1
  | false => exact hb pins s1 σ H1 D I1 q1
noncomputable def tNever : TS := fun _ _ _ => False
theorem ps_never : PS X st tNever := fun _ _ _ _ _ _ h => h.elim
end

noncomputable abbrev TG := V → St → Hp → (St → Hp → Prop) → Prop
noncomputable abbrev TGs := List V → St → Hp → (St → Hp → Prop) → Prop
noncomputable def PG (X : Cx) (target : Expr) (t : TG) : Prop :=
  ∀ (pins : List (Addr × Obj)) (s : Shared) (σ : St) (H : Hp) (v : V) (u : Value) (Q : St → Hp → Prop), Inv X pins σ H s → RelV v u → t v σ H Q →
    wpAny (model X.prog X.w) X.A (assign target X.env u) (fun _ s' => ∃ σ' H', Inv X pins σ' H' s' ∧ Q σ' H') X.xe s
noncomputable def PGs (X : Cx) (ts : List Expr) (t : TGs) : Prop :=
  ∀ (pins : List (Addr × Obj)) (s : Shared) (σ : St) (H : Hp) (vs : List V) (us : List Value) (Q : St → Hp → Prop), Inv X pins σ H s → Vals vs us → t vs σ H Q →
    wpAny (model X.prog X.w) X.A (assignInOrder ((assignEach ts X.env).map (·.2)) us) (fun _ s' => ∃ σ' H', Inv X pins σ' H' s' ∧ Q σ' H') X.xe s
noncomputable abbrev TSet := V → V → V → Hp → (Hp → Prop) → Prop
noncomputable def PSet (X : Cx) (t : TSet) : Prop :=
  ∀ (pins : List (Addr × Obj)) (s : Shared) (σ : St) (H : Hp) (o i v : V) (ov iv u : Value) (Q : Hp → Prop), Inv X pins σ H s → RelV o ov → RelV i iv → RelV v u → t o i v H Q →
    wpAny (model X.prog X.w) X.A (setItem ov iv u) (fun _ s' => ∃ H', Inv X pins σ H' s' ∧ Q H') X.xe s
section
variable {X : Cx} {pos : Pos}
noncomputable def gName (i : Nat) : TG := fun v σ H Q => Q (σ.set i (some v)) H
theorem pg_name {i : Nat} {x : Str} (hN : X.N.Nodup) (hi : X.N[i]? = some x) (hx : Loc X.env.scope x) (hf : X.fn x = true ∨ X.env.scope.names.lookup x = some .local := by first | exact .inl rfl | exact .inr rfl | assumption) : PG X (.Name x pos) (gName i) := by
  intro pins s σ H v u Q I r h
  exact wpAny_assign_Name (store_ok I hN hi hx r (fun s' I' => ⟨_, H, I', h⟩) hf)
noncomputable def gNil : TGs := fun vs σ H Q => vs = [] ∧ Q σ H
noncomputable def gCons (t : TG) (u : TGs) : TGs := fun vs σ H Q => ∃ v r, vs = v :: r ∧ t v σ H fun σ' H' => u r σ' H' Q
theorem pgs_nil : PGs X [] gNil := by
  intro pins s σ H vs us Q I r h
  obtain ⟨e, h⟩ := h
  subst e
  cases r
  exact assignInOrder_nil ⟨σ, H, I, h⟩
theorem pgs_cons {e : Expr} {es : List Expr} {t : TG} {u : TGs} (h1 : PG X e t) (h2 : PGs X es u)
    (hs : (assignEach (e :: es) X.env).map (·.2) = assign e X.env :: (assignEach es X.env).map (·.2) := by rfl) : PGs X (e :: es) (gCons t u) := by
  intro pins s σ H vs us Q I r h
  obtain ⟨v, vr, e1, h⟩ := h
  subst e1
  cases r with
  | cons r rr =>
    rw [hs]
    refine assignInOrder_cons (thn (h1 pins s σ H _ _ _ I r h) fun _ s1 ⟨σ1, H1, I1, q1⟩ => ?_)
    exact h2 pins s1 σ1 H1 _ _ Q I1 rr q1
noncomputable def gTup (K : PySem.W.Frag) (n : Nat) (t : TGs) : TG := fun v σ H Q => ∃ a xs, v = .ref a ∧ SqT K H a xs ∧ xs.length = n ∧ t xs σ H Q
theorem pg_tup {es : List Expr} {k : Nat} {t : TGs} {n : Nat} (hc : X.calm = true) (h : PGs X es t)
    (hn : (assignEach es X.env).length = n := by rfl) (hst : (assignEach es X.env).findIdx? (·.1) = none := by rfl) : PG X (.Tuple es k pos) (gTup X.K n t) := by
  intro pins s σ H v u Q I r hw
  obtain ⟨a, xs, e1, hq, hl, hw⟩ := hw
  subst e1
  cases r
  obtain ⟨its, rv, ht, hz⟩ := I.tuple hq
  refine assign_Tuple_tuple (I.ok.hd hc) ht (by simp [hn, ← hl, rv.length]) hst fun h' hx => ?_
  have I1 : Inv X pins σ H { s with heap := h' } := I.kept (t' := s.toks) fun b o e => hx b o (Nat.ne_of_lt (Heap.lt_size e)) e
  exact h pins _ σ H xs _ Q I1 (by simpa using rv) hw
noncomputable def gSub (to ti : TE) (t : TSet) : TG := fun v σ H Q => to σ H fun o H1 => ti σ H1 fun i H2 => t o i v H2 fun H3 => Q σ H3
theorem pg_sub {o i : Expr} {to ti : TE} {t : TSet} (ho : PE X o to) (hi : PE X i ti) (hs : PSet X t)
    (ha : ∀ v, assign (.Subscript o i pos) X.env v = (do
      let ov ← holding [v] (eval o X.env)
      let iv ← holding [v, ov] (eval i X.env)
      standAt pos
      holding [v, ov, iv] (setItem ov iv v)
      release [v, ov, iv] []) := by intro _; rfl) : PG X (.Subscript o i pos) (gSub to ti t) := by
  intro pins s σ H v u Q I r h
  rw [ha]
  refine wpAny_bind (wpAny_holding (thn (ho pins s σ H _ I h) fun ov s1 ⟨x, H1, I1, r1, q1⟩ => ?_))
  refine wpAny_bind (wpAny_holding (thn (hi pins s1 σ H1 _ I1 q1) fun iv s2 ⟨y, H2, I2, r2, q2⟩ => ?_))
  refine wpAny_bind (wpAny_standAt (wpAny_bind (wpAny_holding (thn (hs pins s2 σ H2 x y v ov iv u _ I2 r1 r2 r q2) fun _ s3 ⟨H3, I3, q3⟩ => ?_))))
  exact wpAny_release ⟨σ, H3, I3, q3⟩
noncomputable def tAsg (te : TE) (g : TG) : TS := fun D σ H => te σ H fun x H1 => g x σ H1 D.nx
theorem ps_asg {tg e : Expr} {te : TE} {g : TG} (he : PE X e te) (hg : PG X tg g) (hs : swapsWithSole [tg] e pos.line X.env = pure false := by rfl) (hw : swappedStores [tg] e X.env = pure none := by rfl)
    (h1 : (assignEach [tg] X.env).map (·.2) = [assign tg X.env] := by rfl) : PS X (.Assign [tg] e pos) (tAsg te g) := by
  intro pins s σ H D I h
  refine wpAny_Assign_stores (thn (he pins s σ H _ I h) fun v s1 ⟨x, H1, I1, r1, q1⟩ => ?_) hs hw
  rw [h1]
  exact thn (hg pins s1 σ H1 x v _ I1 r1 q1) fun _ s2 q => q
theorem ps_set {i : Nat} {x : Str} {e : Expr} {te : TE} {pos' : Pos} (hN : X.N.Nodup) (hi : X.N[i]? = some x) (hx : Loc X.env.scope x) (he : PE X e te) (hs : swapsWith e (some (.Name x pos')) pos.line X.env = pure false := by rfl) (hf : X.fn x = true ∨ X.env.scope.names.lookup x = some .local := by first | exact .inl rfl | exact .inr rfl | assumption) :
    PS X (.Assign [.Name x pos'] e pos) (tAsg te (gName i)) := by
  intro pins s σ H D I h
  refine wpAny_Assign_Name (thn (he pins s σ H _ I h) fun v s1 ⟨y, H1, I1, r1, q1⟩ => ?_) hs
  exact store_ok I1 hN hi hx r1 (fun s2 I2 => ⟨_, H1, I2, q1⟩) hf
end

section
variable {X : Cx} {pos : Pos}
noncomputable def tWhile (c : TT) (tb : TS) : TS := fun D σ H => ∃ W : Nat → St → Hp → Prop, (∃ m, W m σ H) ∧ ∀ m σ H, W m σ H →
  c σ H fun b H1 => if b = true then ∃ N : St → Hp → Prop, (∀ σ' H', N σ' H' → ∃ m', m' < m ∧ W m' σ' H') ∧ tb { D with nx := N, ct := N, bk := D.nx } σ H1 else D.nx σ H1
theorem ps_while {c : Expr} {body : List Stmt} {tc : TT} {tb : TS} (hp : PassesOwn (model X.prog X.w) X.A X.env X.xe) (hc : PT X c tc) (hb : PSs X body tb) : PS X (.While c body [] pos) (tWhile tc tb) := by
  intro pins s σ H D I h
  obtain ⟨W, ⟨m0, w0⟩, turn⟩ := h
  refine wpAny_While (codeAny_whileLoop (fun n s' => ∃ σ' H', Inv X pins σ' H' s' ∧ W n σ' H') ?_ m0 ⟨σ, H, I, w0⟩)
  rintro n s1 ⟨σ1, H1, I1, w1⟩
  refine wpAny_passesOwn hp (thn (hc pins s1 σ1 H1 _ I1 (turn n σ1 H1 w1)) fun b s2 ⟨H2, I2, q2⟩ => ?_)
  cases b with
  | true =>
    obtain ⟨N, hN, q2⟩ := q2
    rw [if_pos rfl]
    refine wpAny_passesOwn hp (thn (hb pins s2 σ1 H2 _ I2 q2) fun f s3 q3 => ?_)
    cases f with
    | next =>
      obtain ⟨σ3, H3, I3, n3⟩ := q3
      obtain ⟨m', hm, w3⟩ := hN σ3 H3 n3
      exact ⟨m', hm, σ3, H3, I3, w3⟩
    | cont =>
      obtain ⟨σ3, H3, I3, n3⟩ := q3
      obtain ⟨m', hm, w3⟩ := hN σ3 H3 n3
      exact ⟨m', hm, σ3, H3, I3, w3⟩
    | brk => exact q3
    | ret v => exact q3
  | false =>
    rw [if_neg Bool.false_ne_true]
    exact wpAny_execs_nil ⟨σ1, H2, I2, q2⟩
end

structure It where
  go : Nat → Hp → Prop
  yld : Nat → Hp → V → Hp → Prop
  stop : Nat → Hp → Prop
noncomputable def FpOk (X : Cx) (pins : List (Addr × Obj)) (H : Hp) (b : Addr) : Prop :=
  H b = none ∧ b ≠ X.env.locals ∧ b ∉ X.fs ∧ (b ∈ X.ex ∨ X.s₀.heap.objs.size ≤ b) ∧ (∀ x c, X.env.cells.lookup x = some c → c ≠ b) ∧ ∀ p ∈ X.pn ++ pins, p.1 ≠ b
theorem Inv.fpOk {X : Cx} {pins : List (Addr × Obj)} {σ : St} {H H' : Hp} {s : Shared} {b : Addr} (I : Inv X pins σ H s) (hb : s.heap.objs.size ≤ b) (hn : H' b = none) : FpOk X pins H' b := by
  refine ⟨hn, Nat.ne_of_gt (Nat.lt_of_lt_of_le I.lt hb), I.nofs hb, .inr (Nat.le_trans I.sz hb), fun x c e z => ?_, fun p hp z => ?_⟩
  · obtain ⟨v, q⟩ := I.cell x c e
    exact absurd (Nat.lt_of_lt_of_le q.lt (by rw [z]; exact hb)) (Nat.lt_irrefl _)
  · exact absurd (Nat.lt_of_lt_of_le (Heap.lt_size (I.pin p hp).1) (by rw [z]; exact hb)) (Nat.lt_irrefl _)
structure Turn (P : Program) (w : World) (K : PySem.W.Frag) (tg : Expr) (J : It) (fp : List Addr) (it : Addr) (tn : Nat → Heap → Prop) : Prop where
  mem : it ∈ fp
  obj : ∀ i h, tn i h → ∀ b ∈ fp, ∃ o, h.get? b = some o ∧ ∀ v, o.data ≠ .cell v
  keep : ∀ i h h', tn i h → (∀ b ∈ fp, ∀ o, h.get? b = some o → h'.get? b = some o) → tn i h'
  item : ∀ (X : Cx), X.prog = P → X.w = w → X.K = K → X.calm = true → ∀ (i : Nat) (pins : List (Addr × Obj)) (s : Shared) (σ : St) (H : Hp) (E : Value → Shared → Prop), Inv X pins σ H s → (∀ b ∈ fp, FpOk X pins H b) → tn i s.heap → J.go i H →
    wpAny (model P w) X.A (pyNext (.ref it)) (fun r s1 => ∃ u, r = some u ∧
      wpAny (model P w) X.A (letOwnedTupleGo tg (.ref it) u) (fun _ s2 => ∃ x H', Inv X pins σ H' s2 ∧ RelV x u ∧ J.yld i H x H' ∧ tn (i + 1) s2.heap ∧ ∀ b ∈ fp, H' b = none) E s1) E s
  done : ∀ (X : Cx), X.prog = P → X.w = w → X.K = K → X.calm = true → ∀ (i : Nat) (pins : List (Addr × Obj)) (s : Shared) (σ : St) (H : Hp) (E : Value → Shared → Prop), Inv X pins σ H s → (∀ b ∈ fp, FpOk X pins H b) → tn i s.heap → J.stop i H →
    wpAny (model P w) X.A (pyNext (.ref it)) (fun r s1 => r = none ∧ Inv X pins σ H s1) E s
  self : ∀ (A : Around) (i : Nat) (s : Shared) (Q : Value → Shared → Prop) (E : Value → Shared → Prop), tn i s.heap → Q (.ref it) s → wpAny (model P w) A (pyIter (.ref it)) Q E s
noncomputable abbrev TI := St → Hp → (It → Hp → Prop) → Prop
noncomputable def PIE (X : Cx) (pins : List (Addr × Obj)) (σ : St) (tg : Expr) (R : It → Hp → Prop) (itv : Value) (s2 : Shared) : Prop :=
  ∃ (it : Addr) (fp : List Addr) (tn : Nat → Heap → Prop) (J : It) (H' : Hp), itv = .ref it ∧ Inv X pins σ H' s2 ∧ Turn X.prog X.w X.K tg J fp it tn ∧ tn 0 s2.heap ∧ (∀ b ∈ fp, FpOk X pins H' b) ∧ R J H'
noncomputable def PI (X : Cx) (tg iter : Expr) (wi : TI) : Prop :=
  ∀ (pins : List (Addr × Obj)) (s : Shared) (σ : St) (H : Hp) (R : It → Hp → Prop), Inv X pins σ H s → wi σ H R →
    wpAny (model X.prog X.w) X.A (eval iter X.env) (fun v s1 => wpAny (model X.prog X.w) X.A (pyIter v) (PIE X pins σ tg R) X.xe s1) X.xe s

theorem go_of {M : Model} {A : Around} {E : Value → Shared → Prop} {s : Shared} {tg : Expr} {it : Addr} {u : Value} {o : Obj} {n : String} {vs : Array Value} {Q : Unit → Shared → Prop} (ho : s.heap.get? it = some o) (hc : o.cls = .type n) (hd : o.data = .fields vs)
    (hn : ["enumerate", "zip", "dict_itemiterator", "dict_reverseitemiterator", "odict_iterator", "itertools.zip_longest", "itertools.pairwise"].contains n = false) (hQ : Q () s) : wpAny M A (letOwnedTupleGo tg (.ref it) u) Q E s := by
  unfold letOwnedTupleGo
  cases tg <;> first
    | exact wpAny_pure hQ
    | (cases u <;> first
        | exact wpAny_pure hQ
        | (refine wpAny_bind (wpAny_load ho ?_)
           rw [hc, hd]
           show wpAny M A (if (["enumerate", "zip", "dict_itemiterator", "dict_reverseitemiterator", "odict_iterator", "itertools.zip_longest", "itertools.pairwise"].contains n && vs[0]? == some (rawInt _)) = true then _ else _) Q E s
           rw [if_neg (by intro h; rw [hn, Bool.false_and] at h; cases h)]
           exact wpAny_pure hQ))

noncomputable def Itl (K : PySem.W.Frag) (a : Addr) : It :=
  ⟨fun i H => ∃ xs x, SqL K H a xs ∧ xs[i]? = some x, fun i H x H' => H' = H ∧ ∀ xs, SqL K H a xs → xs[i]? = some x, fun i H => ∃ xs, SqL K H a xs ∧ xs.length ≤ i⟩
noncomputable def Itt (K : PySem.W.Frag) (a : Addr) : It :=
  ⟨fun i H => ∃ xs x, SqT K H a xs ∧ xs[i]? = some x, fun i H x H' => H' = H ∧ ∀ xs, SqT K H a xs → xs[i]? = some x, fun i H => ∃ xs, SqT K H a xs ∧ xs.length ≤ i⟩
noncomputable def Itr (lo : Int) (n : Nat) : It := ⟨fun i _ => i < n, fun i H x H' => H' = H ∧ x = .int (lo + i), fun i _ => n ≤ i⟩
theorem turn_list {P : Program} {w : World} {K : PySem.W.Frag} {tg : Expr} (a it : Addr) : Turn P w K tg (Itl K a) [it] it (fun i h => h.IsListIter it a i) where
  mem := by simp
  obj := fun i h st b hb => by
    have e : b = it := by simpa using hb
    subst e
    obtain ⟨o, e, c, d⟩ := st
    exact ⟨o, e, fun v z => by rw [d] at z; cases z⟩
  keep := fun i h h' st k => st.at fun o e => k it (by simp) o e
  item := by
    intro X hP hw hK hc i pins s σ H E I hf st hg
    subst hP hw hK
    obtain ⟨xs, x, hq, hx⟩ := hg
    obtain ⟨its, rv, p, hz⟩ := I.list hq
    obtain ⟨u, hu, ru⟩ := rv.get hx
    obtain ⟨f0, f1, f2, f3, f4, f5⟩ := hf it (by simp)
    refine wpAny_pyNext_list_item st p.isList (x := u) (by simpa using hu) fun h' st' sb => ?_
    have I1 : Inv X pins σ H { s with heap := h' } := I.turned (t' := s.toks) (fun b o hb e => (sb.2 b hb).trans e) f0 f1 f3 f4 f5
    obtain ⟨o, e, c, d⟩ := id st'
    exact ⟨u, rfl, go_of (s := { s with heap := h' }) e c d (by decide) ⟨x, H, I1, ru, ⟨rfl, fun ys hy => by rw [I.list_inj hy hq]; exact hx⟩, st', fun b hb => (hf b hb).1⟩⟩
  done := by
    intro X hP hw hK hc i pins s σ H E I hf st hg
    subst hP hw hK
    obtain ⟨xs, hq, hx⟩ := hg
    obtain ⟨its, rv, p, hz⟩ := I.list hq
    obtain ⟨f0, f1, f2, f3, f4, f5⟩ := hf it (by simp)
    have hl := rv.length
    exact wpAny_pyNext_list_end (I.ok.hd hc) st p.isList (by simp; (first | lia | omega)) fun h' eb => ⟨rfl, I.turned (t' := s.toks) (fun b o hb e => eb b o hb e) f0 f1 f3 f4 f5⟩
  self := fun _ _ _ _ _ st h => wpAny_pyIter_listiter st h
theorem turn_tuple {P : Program} {w : World} {K : PySem.W.Frag} {tg : Expr} (a it : Addr) : Turn P w K tg (Itt K a) [it] it (fun i h => h.IsTupleIter it a i) where
  mem := by simp
  obj := fun i h st b hb => by
    have e : b = it := by simpa using hb
    subst e
    obtain ⟨o, e, c, d⟩ := st
    exact ⟨o, e, fun v z => by rw [d] at z; cases z⟩
  keep := fun i h h' st k => st.at fun o e => k it (by simp) o e
  item := by
    intro X hP hw hK hc i pins s σ H E I hf st hg
    subst hP hw hK
    obtain ⟨xs, x, hq, hx⟩ := hg
    obtain ⟨its, rv, p, hz⟩ := I.tuple hq
    obtain ⟨u, hu, ru⟩ := rv.get hx
    obtain ⟨f0, f1, f2, f3, f4, f5⟩ := hf it (by simp)
    refine wpAny_pyNext_tuple_item st (show s.heap.IsTuple a its.toArray from p) (x := u) (by simpa using hu) fun h' st' sb => ?_
    have I1 : Inv X pins σ H { s with heap := h' } := I.turned (t' := s.toks) (fun b o hb e => (sb.2 b hb).trans e) f0 f1 f3 f4 f5
    obtain ⟨o, e, c, d⟩ := id st'
    exact ⟨u, rfl, go_of (s := { s with heap := h' }) e c d (by decide) ⟨x, H, I1, ru, ⟨rfl, fun ys hy => by rw [I.tuple_inj hy hq]; exact hx⟩, st', fun b hb => (hf b hb).1⟩⟩
  done := by
    intro X hP hw hK hc i pins s σ H E I hf st hg
    subst hP hw hK
    obtain ⟨xs, hq, hx⟩ := hg
    obtain ⟨its, rv, p, hz⟩ := I.tuple hq
    obtain ⟨f0, f1, f2, f3, f4, f5⟩ := hf it (by simp)
    have hl := rv.length
    exact wpAny_pyNext_tuple_end (I.ok.hd hc) st (show s.heap.IsTuple a its.toArray from p) (by simp; (first | lia | omega)) fun h' eb => ⟨rfl, I.turned (t' := s.toks) (fun b o hb e => eb b o hb e) f0 f1 f3 f4 f5⟩
  self := fun _ _ _ _ _ st h => wpAny_pyIter_tupleiter st h
theorem turn_range {P : Program} {w : World} {K : PySem.W.Frag} {tg : Expr} (it : Addr) (lo : Int) (n : Nat) : Turn P w K tg (Itr lo n) [it] it (fun i h => IsRangeIter h it (lo + (i : Nat) * 1) ((n : Int) - (i : Nat)) 1) where
  mem := by simp
  obj := fun i h st b hb => by
    have e : b = it := by simpa using hb
    subst e
    exact ⟨_, st, fun v z => by
      have z' : Data.fields _ = Data.cell v := z
      cases z'⟩
  keep := fun i h h' st k => k it (by simp) _ st
  item := by
    intro X hP hw hK hc i pins s σ H E I hf st hg
    subst hP hw hK
    obtain ⟨f0, f1, f2, f3, f4, f5⟩ := hf it (by simp)
    have W := Walks.range (prog := X.prog) (w := X.w) (I.ok.hd hc) it lo 1 n
    refine W.item i s _ _ hg st fun v h' tk hv st' kk => ?_
    obtain ⟨t, rfl⟩ := hv
    have I1 : Inv X pins σ H { s with heap := h', toks := tk } := I.turned (fun b o hb e => kk b o (by simpa using hb) e) f0 f1 f3 f4 f5
    refine ⟨_, rfl, go_of (s := { s with heap := h', toks := tk }) (n := "range_iterator") st' rfl rfl (by decide) ⟨.int (lo + i), H, I1, ⟨t, ?_⟩, ⟨rfl, rfl⟩, st', fun b hb => (hf b hb).1⟩⟩
    rw [Int.mul_one]
  done := by
    intro X hP hw hK hc i pins s σ H E I hf st hg
    subst hP hw hK
    obtain ⟨f0, f1, f2, f3, f4, f5⟩ := hf it (by simp)
    exact wpAny_pyNext_range_end (I.ok.hd hc) st (by have : n ≤ i := hg; (first | lia | omega)) fun h' eb => ⟨rfl, I.turned (t' := s.toks) (fun b o hb e => eb b o hb e) f0 f1 f3 f4 f5⟩
  self := fun _ _ _ _ _ st h => wpAny_pyIter_rangeiter st h
end L2

namespace L2
open PySem PySem.Spec PyProof.Rows
section
variable {X : Cx} {tg : Expr}
noncomputable def iList (K : PySem.W.Frag) (tl : TE) : TI := fun σ H R => tl σ H fun x H1 => ∃ a, x = .ref a ∧ (∃ xs, SqL K H1 a xs) ∧ R (Itl K a) H1
noncomputable def iTup (K : PySem.W.Frag) (tl : TE) : TI := fun σ H R => tl σ H fun x H1 => ∃ a, x = .ref a ∧ (∃ xs, SqT K H1 a xs) ∧ R (Itt K a) H1
theorem pi_list {l : Expr} {tl : TE} (hl : PE X l tl) : PI X tg l (iList X.K tl) := by
  intro pins s σ H R I h
  refine thn (hl pins s σ H _ I h) fun v s1 ⟨x, H1, I1, r1, q1⟩ => ?_
  obtain ⟨a, e, ⟨xs, hq⟩, q⟩ := q1
  subst e
  cases r1
  obtain ⟨its, rv, p, hz⟩ := I1.list hq
  refine wpAny_pyIter_list p.isList ?_
  refine ⟨s1.heap.objs.size, [s1.heap.objs.size], _, _, H1, rfl, I1.kept (t' := s1.toks) fun b o e => Heap.get?_push_of_some _ e, turn_list a _, ⟨_, Heap.get?_push_size _ rfl, rfl, rfl⟩, fun b hb => ?_, q⟩
  have e : b = s1.heap.objs.size := by simpa using hb
  subst e
  exact I1.fpOk (Nat.le_refl _) (I1.hok.fresh (Nat.le_refl _))
theorem pi_tup {l : Expr} {tl : TE} (hl : PE X l tl) : PI X tg l (iTup X.K tl) := by
  intro pins s σ H R I h
  refine thn (hl pins s σ H _ I h) fun v s1 ⟨x, H1, I1, r1, q1⟩ => ?_
  obtain ⟨a, e, ⟨xs, hq⟩, q⟩ := q1
  subst e
  cases r1
  obtain ⟨its, rv, p, hz⟩ := I1.tuple hq
  refine wpAny_pyIter_tuple (show s1.heap.IsTuple a its.toArray from p) ?_
  refine ⟨s1.heap.objs.size, [s1.heap.objs.size], _, _, H1, rfl, I1.kept (t' := s1.toks) fun b o e => Heap.get?_push_of_some _ e, turn_tuple a _, ⟨_, Heap.get?_push_size _ rfl, rfl, rfl⟩, fun b hb => ?_, q⟩
  have e : b = s1.heap.objs.size := by simpa using hb
  subst e
  exact I1.fpOk (Nat.le_refl _) (I1.hok.fresh (Nat.le_refl _))
theorem range_it {pins : List (Addr × Obj)} {σ : St} {H : Hp} {s : Shared} {R : It → Hp → Prop} {E : Value → Shared → Prop} {lo hi : Int} {t u v : Tok} {tk : Nat} (I : Inv X pins σ H s) (h1 : -(2 ^ 62) ≤ lo) (h2 : lo < 2 ^ 62) (h3 : -(2 ^ 62) ≤ hi) (h4 : hi < 2 ^ 62)
    (q : R (Itr lo (hi - lo).toNat) H) : wpAny (model X.prog X.w) X.A (pyIter (.ref s.heap.objs.size)) (PIE X pins σ tg R) E { s with heap := s.heap.push { cls := .type "range", data := .fields #[.int lo t, .int hi u, .int 1 v] }, toks := tk } := by
  refine wpAny_pyIter_range (IsRange.new ..) (small_one h1 h2 h3 h4) ?_
  have I1 : Inv X pins σ H { s with heap := s.heap.push { cls := .type "range", data := .fields #[.int lo t, .int hi u, .int 1 v] }, toks := tk } := I.kept fun b o e => Heap.get?_push_of_some _ e
  refine ⟨(s.heap.push { cls := .type "range", data := .fields #[.int lo t, .int hi u, .int 1 v] }).objs.size, [(s.heap.push { cls := .type "range", data := .fields #[.int lo t, .int hi u, .int 1 v] }).objs.size], _, _, H, rfl,
    I1.kept (t' := tk) fun b o e => Heap.get?_push_of_some _ e, turn_range _ lo (hi - lo).toNat, ?_, fun b hb => ?_, q⟩
  · have e1 : lo + ((0 : Nat) : Int) * 1 = lo := by simp
    have e2 : (((hi - lo).toNat : Nat) : Int) - ((0 : Nat) : Int) = Builtin.Range.rangeSize lo hi 1 := by rw [rangeSize_one]; split <;> (first | lia | omega)
    show IsRangeIter _ _ (lo + ((0 : Nat) : Int) * 1) ((((hi - lo).toNat : Nat) : Int) - ((0 : Nat) : Int)) 1
    rw [e1, e2]
    exact Heap.get?_push_size _ rfl
  · have e : b = (s.heap.push { cls := .type "range", data := .fields #[.int lo t, .int hi u, .int 1 v] }).objs.size := by simpa using hb
    subst e
    exact I1.fpOk (Nat.le_refl _) (I1.hok.fresh (Nat.le_refl _))
noncomputable def iRng1 (ta : TA) : TI := fun σ H R => ta σ H fun vs H1 => ∃ j : Int, vs = [.int j] ∧ -(2 ^ 62) ≤ j ∧ j < 2 ^ 62 ∧ R (Itr 0 j.toNat) H1
theorem pi_range1 {a : Expr} {ta : TA} {p pos : Pos} (hg : Gl X "range") (hm : X.mg "range" = none) (ha : PA X [a] ta) (hs : starEach [a] X.env = [(false, eval a X.env)] := by rfl) : PI X tg (.Call (.Name "range" p) [a] [] pos) (iRng1 ta) := by
  intro pins s σ H R I h
  refine Call_ (ld_blt I hg hm boot_range (PyProof.Rows.callWith_type1 (thn (ha pos pins s σ H _ I h) fun us s1 ⟨vs, H1, I1, r1, q1⟩ => ?_) hs rfl))
  obtain ⟨j, e, q1, q2, q⟩ := q1
  subst e
  cases r1 with
  | cons r rr =>
    cases rr
    obtain ⟨t, rfl⟩ := r
    exact call_range_1 (range_it I1 (by (first | lia | omega)) (by (first | lia | omega)) q1 q2 (by simpa using q))
noncomputable def tFor (wi : TI) (g : TG) (tb : TS) : TS := fun D σ H => wi σ H fun J H1 => ∃ W : Nat → Nat → St → Hp → Prop, (∃ m, W 0 m σ H1) ∧ ∀ i m σ H, W i m σ H →
  (J.stop i H ∧ D.nx σ H) ∨ (J.go i H ∧ ∃ N : St → Hp → Prop, (∀ σ' H', N σ' H' → ∃ m', m' < m ∧ W (i + 1) m' σ' H') ∧ ∀ x H', J.yld i H x H' → g x σ H' fun σ2 H2 => tb { D with nx := N, ct := N, bk := D.nx } σ2 H2)
noncomputable def pinsAt (fp : List Addr) (h : Heap) : List (Addr × Obj) := fp.filterMap fun b => (h.get? b).map fun o => (b, o)
theorem mem_pinsAt {fp : List Addr} {h : Heap} {b : Addr} {o : Obj} (hb : b ∈ fp) (e : h.get? b = some o) : (b, o) ∈ pinsAt fp h := List.mem_filterMap.mpr ⟨b, hb, by rw [e]; rfl⟩
theorem of_pinsAt {fp : List Addr} {h : Heap} {p : Addr × Obj} (hp : p ∈ pinsAt fp h) : p.1 ∈ fp ∧ h.get? p.1 = some p.2 := by
  obtain ⟨b, hb, e⟩ := List.mem_filterMap.mp hp
  cases q : h.get? b with
  | none => rw [q] at e; cases e
  | some o =>
    rw [q] at e
    have e' : (b, o) = p := Option.some.inj e
    subst e'
    exact ⟨hb, q⟩
theorem Inv.pinned {pins : List (Addr × Obj)} {σ : St} {H : Hp} {s : Shared} {fp : List Addr} (I : Inv X pins σ H s) (hf : ∀ b ∈ fp, FpOk X pins H b) (ho : ∀ b ∈ fp, ∃ o, s.heap.get? b = some o ∧ ∀ v, o.data ≠ .cell v) : Inv X (pins ++ pinsAt fp s.heap) σ H s :=
  I.pins_of fun p hp => (List.mem_append.mp hp).elim (fun z => I.pin p (List.mem_append_right _ z)) fun z => by
    obtain ⟨hb, e⟩ := of_pinsAt z
    obtain ⟨f0, f1, f2, _⟩ := hf p.1 hb
    obtain ⟨o, e', d⟩ := ho p.1 hb
    rw [e] at e'; cases e'
    exact ⟨e, f0, f1, f2, d⟩
theorem Inv.unpinned {pins pl : List (Addr × Obj)} {σ : St} {H : Hp} {s : Shared} (I : Inv X (pins ++ pl) σ H s) : Inv X pins σ H s := I.pins_of fun p hp => I.pin p (List.mem_append_right _ (List.mem_append_left _ hp))
theorem ps_for {iter : Expr} {body : List Stmt} {wi : TI} {g : TG} {tb : TS} {pos : Pos} (hp : PassesOwn (model X.prog X.w) X.A X.env X.xe) (hc : X.calm = true) (hi : PI X tg iter wi) (hg : PG X tg g) (hb : PSs X body tb)
    (hs : ∀ x, foldedSetIterable iter X.env x = pure x := by intro _; rfl) : PS X (.For tg iter body [] pos) (tFor wi g tb) := by
  intro pins s σ H D I h
  refine wpAny_For (thn (hi pins s σ H _ I h) fun v s1 h1 => thn h1 fun itv s2 h2 => ?_) hs
  obtain ⟨it, fp, tn, J, H2, e, I2, T, st2, f2, W, ⟨m0, w0⟩, turn⟩ := h2
  subst e
  -- what stays true of the iterator's objects through the loop
  have stat : ∀ {H' : Hp}, (∀ b ∈ fp, H' b = none) → ∀ b ∈ fp, FpOk X pins H' b := fun hn b hb => ⟨hn b hb, (f2 b hb).2⟩
  refine codeAny_forLoop_any (fun n s' => ∃ i σ' H', Inv X pins σ' H' s' ∧ tn i s'.heap ∧ (∀ b ∈ fp, H' b = none) ∧ W i n σ' H') ?_ m0 ⟨0, σ, H2, I2, st2, fun b hb => (f2 b hb).1, w0⟩
  rintro n s3 ⟨i, σ3, H3, I3, st3, fr3, w3⟩
  rcases turn i n σ3 H3 w3 with ⟨stop, qn⟩ | ⟨go, N, hN, step⟩
  · refine wpAny_passesOwn hp (thn (T.done X rfl rfl rfl hc i pins s3 σ3 H3 X.xe I3 (stat fr3) st3 stop) fun r s4 ⟨hr, I4⟩ => ?_)
    subst hr
    exact wpAny_execs_nil ⟨σ3, H3, I4, qn⟩
  · refine wpAny_passesOwn hp (thn (T.item X rfl rfl rfl hc i pins s3 σ3 H3 X.xe I3 (stat fr3) st3 go) fun r s4 ⟨u, hr, h4⟩ => ?_)
    subst hr
    refine wpAny_passesOwn hp (thn h4 fun _ s5 ⟨x, H5, I5, r5, y5, st5, fr5⟩ => ?_)
    have I5' := I5.pinned (stat fr5) (T.obj _ _ st5)
    refine wpAny_passesOwn hp (thn (hg _ s5 σ3 H5 x u _ I5' r5 (step x H5 y5)) fun _ s6 ⟨σ6, H6, I6, q6⟩ => ?_)
    refine wpAny_passesOwn hp (thn (hb _ s6 σ6 H6 _ I6 q6) fun f s7 q7 => ?_)
    have again : ∀ {σ7 : St} {H7 : Hp}, Inv X (pins ++ pinsAt fp s5.heap) σ7 H7 s7 → N σ7 H7 → ∃ m, m < n ∧ ∃ i σ' H', Inv X pins σ' H' s7 ∧ tn i s7.heap ∧ (∀ b ∈ fp, H' b = none) ∧ W i m σ' H' := fun {σ7 H7} I7 n7 => by
      obtain ⟨m', hm, w7⟩ := hN σ7 H7 n7
      refine ⟨m', hm, i + 1, σ7, H7, I7.unpinned, T.keep _ _ _ st5 fun b hb o e => (I7.pin (b, o) (List.mem_append_right _ (List.mem_append_right _ (mem_pinsAt hb e)))).1, fun b hb => ?_, w7⟩
      obtain ⟨o, e, d⟩ := T.obj _ _ st5 b hb
      exact (I7.pin (b, o) (List.mem_append_right _ (List.mem_append_right _ (mem_pinsAt hb e)))).2.1
    cases f with
    | next => obtain ⟨σ7, H7, I7, n7⟩ := q7; exact again I7 n7
    | cont => obtain ⟨σ7, H7, I7, n7⟩ := q7; exact again I7 n7
    | brk => obtain ⟨σ7, H7, I7, q7⟩ := q7; exact ⟨σ7, H7, I7.unpinned, q7⟩
    | ret v => obtain ⟨x7, σ7, H7, I7, r7, q7⟩ := q7; exact ⟨x7, σ7, H7, I7.unpinned, r7, q7⟩
end

theorem for_list {K : PySem.W.Frag} {a : Addr} {xs : List V} {g : TG} {tb : TS} {D : Ends} {σ : St} {H : Hp} (Pv : Nat → St → Hp → Prop) (h0 : Pv 0 σ H) (hl : ∀ i σ H, i ≤ xs.length → Pv i σ H → SqL K H a xs)
    (hs : ∀ i x σ H, xs[i]? = some x → Pv i σ H → g x σ H fun σ2 H2 => tb { D with nx := Pv (i + 1), ct := Pv (i + 1), bk := D.nx } σ2 H2) (hd : ∀ σ H, Pv xs.length σ H → D.nx σ H) :
    ∃ W : Nat → Nat → St → Hp → Prop, (∃ m, W 0 m σ H) ∧ ∀ i m σ H, W i m σ H →
      ((Itl K a).stop i H ∧ D.nx σ H) ∨ ((Itl K a).go i H ∧ ∃ N : St → Hp → Prop, (∀ σ' H', N σ' H' → ∃ m', m' < m ∧ W (i + 1) m' σ' H') ∧ ∀ x H', (Itl K a).yld i H x H' → g x σ H' fun σ2 H2 => tb { D with nx := N, ct := N, bk := D.nx } σ2 H2) := by
  refine ⟨fun i m σ H => m = xs.length - i ∧ i ≤ xs.length ∧ Pv i σ H, ⟨xs.length, by simp, Nat.zero_le _, h0⟩, ?_⟩
  rintro i m σ H ⟨rfl, hi, p⟩
  have q := hl i σ H hi p
  by_cases hlt : i < xs.length
  · refine .inr ⟨⟨xs, xs[i], q, by simp [hlt]⟩, Pv (i + 1), fun σ' H' p' => ⟨xs.length - (i + 1), by (first | lia | omega), rfl, hlt, p'⟩, fun x H' y => ?_⟩
    obtain ⟨e, y⟩ := y
    subst e
    exact hs i x σ _ (y xs q) p
  · have e : i = xs.length := by (first | lia | omega)
    subst e
    exact .inl ⟨⟨xs, q, Nat.le_refl _⟩, hd σ H p⟩
theorem for_tup {K : PySem.W.Frag} {a : Addr} {xs : List V} {g : TG} {tb : TS} {D : Ends} {σ : St} {H : Hp} (Pv : Nat → St → Hp → Prop) (h0 : Pv 0 σ H) (hl : ∀ i σ H, i ≤ xs.length → Pv i σ H → SqT K H a xs)
    (hs : ∀ i x σ H, xs[i]? = some x → Pv i σ H → g x σ H fun σ2 H2 => tb { D with nx := Pv (i + 1), ct := Pv (i + 1), bk := D.nx } σ2 H2) (hd : ∀ σ H, Pv xs.length σ H → D.nx σ H) :
    ∃ W : Nat → Nat → St → Hp → Prop, (∃ m, W 0 m σ H) ∧ ∀ i m σ H, W i m σ H →
      ((Itt K a).stop i H ∧ D.nx σ H) ∨ ((Itt K a).go i H ∧ ∃ N : St → Hp → Prop, (∀ σ' H', N σ' H' → ∃ m', m' < m ∧ W (i + 1) m' σ' H') ∧ ∀ x H', (Itt K a).yld i H x H' → g x σ H' fun σ2 H2 => tb { D with nx := N, ct := N, bk := D.nx } σ2 H2) := by
  refine ⟨fun i m σ H => m = xs.length - i ∧ i ≤ xs.length ∧ Pv i σ H, ⟨xs.length, by simp, Nat.zero_le _, h0⟩, ?_⟩
  rintro i m σ H ⟨rfl, hi, p⟩
  have q := hl i σ H hi p
  by_cases hlt : i < xs.length
  · refine .inr ⟨⟨xs, xs[i], q, by simp [hlt]⟩, Pv (i + 1), fun σ' H' p' => ⟨xs.length - (i + 1), by (first | lia | omega), rfl, hlt, p'⟩, fun x H' y => ?_⟩
    obtain ⟨e, y⟩ := y
    subst e
    exact hs i x σ _ (y xs q) p
  · have e : i = xs.length := by (first | lia | omega)
    subst e
    exact .inl ⟨⟨xs, q, Nat.le_refl _⟩, hd σ H p⟩
theorem for_range {lo : Int} {n : Nat} {g : TG} {tb : TS} {D : Ends} {σ : St} {H : Hp} (Pv : Nat → St → Hp → Prop) (h0 : Pv 0 σ H)
    (hs : ∀ i σ H, i < n → Pv i σ H → g (.int (lo + i)) σ H fun σ2 H2 => tb { D with nx := Pv (i + 1), ct := Pv (i + 1), bk := D.nx } σ2 H2) (hd : ∀ σ H, Pv n σ H → D.nx σ H) :
    ∃ W : Nat → Nat → St → Hp → Prop, (∃ m, W 0 m σ H) ∧ ∀ i m σ H, W i m σ H →
      ((Itr lo n).stop i H ∧ D.nx σ H) ∨ ((Itr lo n).go i H ∧ ∃ N : St → Hp → Prop, (∀ σ' H', N σ' H' → ∃ m', m' < m ∧ W (i + 1) m' σ' H') ∧ ∀ x H', (Itr lo n).yld i H x H' → g x σ H' fun σ2 H2 => tb { D with nx := N, ct := N, bk := D.nx } σ2 H2) := by
  refine ⟨fun i m σ H => m = n - i ∧ i ≤ n ∧ Pv i σ H, ⟨n, by simp, Nat.zero_le _, h0⟩, ?_⟩
  rintro i m σ H ⟨rfl, hi, p⟩
  by_cases hlt : i < n
  · refine .inr ⟨hlt, Pv (i + 1), fun σ' H' p' => ⟨n - (i + 1), by (first | lia | omega), rfl, hlt, p'⟩, fun x H' y => ?_⟩
    obtain ⟨e, y⟩ := y
    subst e y
    exact hs i σ _ hlt p
  · have e : i = n := by (first | lia | omega)
    subst e
    exact .inl ⟨Nat.le_refl _, hd σ H p⟩
theorem while_by {c : TT} {tb : TS} {D : Ends} {σ : St} {H : Hp} (Pv : St → Hp → Prop) (μ : St → Hp → Nat) (h0 : Pv σ H)
    (hs : ∀ σ H, Pv σ H → c σ H fun b H1 => if b = true then tb { D with nx := fun σ' H' => Pv σ' H' ∧ μ σ' H' < μ σ H, ct := fun σ' H' => Pv σ' H' ∧ μ σ' H' < μ σ H, bk := D.nx } σ H1 else D.nx σ H1)
    (mono : ∀ σ H Q Q', (∀ b H1, Q b H1 → Q' b H1) → c σ H Q → c σ H Q') : tWhile c tb D σ H := by
  refine ⟨fun m σ H => m = μ σ H ∧ Pv σ H, ⟨_, rfl, h0⟩, ?_⟩
  rintro m σ H ⟨rfl, p⟩
  refine mono σ H _ _ (fun b H1 q => ?_) (hs σ H p)
  cases b with
  | true => exact ⟨_, fun σ' H' ⟨p', l⟩ => ⟨_, l, rfl, p'⟩, q⟩
  | false => exact q
end L2

namespace L2
open PySem PySem.Spec PyProof.Rows

noncomputable abbrev R2 := V → V → Hp → VK → Prop
noncomputable def OpR (X : Cx) (f : Value → Value → Sem Value) (r : R2) : Prop :=
  ∀ (pins : List (Addr × Obj)) (s : Shared) (σ : St) (H : Hp) (x y : V) (v u : Value) (Q : VK), Inv X pins σ H s → RelV x v → RelV y u → r x y H Q →
    wpAny (model X.prog X.w) X.A (f v u) (EP X pins σ Q) X.xe s
noncomputable def UnR (X : Cx) (f : Value → Sem Value) (r : V → Hp → VK → Prop) : Prop :=
  ∀ (pins : List (Addr × Obj)) (s : Shared) (σ : St) (H : Hp) (x : V) (v : Value) (Q : VK), Inv X pins σ H s → RelV x v → r x H Q →
    wpAny (model X.prog X.w) X.A (f v) (EP X pins σ Q) X.xe s
noncomputable def CallR (X : Cx) (f : Value) (r : List V → Hp → VK → Prop) : Prop :=
  ∀ (pins : List (Addr × Obj)) (s : Shared) (σ : St) (H : Hp) (xs : List V) (us : List Value) (Q : VK), Inv X pins σ H s → Vals xs us → r xs H Q →
    wpAny (model X.prog X.w) X.A (call f us) (EP X pins σ Q) X.xe s
noncomputable def tOp (r : R2) (ta tb : TE) : TE := fun σ H Q => ta σ H fun x H1 => tb σ H1 fun y H2 => r x y H2 Q
noncomputable def tUn (r : V → Hp → VK → Prop) (ta : TE) : TE := fun σ H Q => ta σ H fun x H1 => r x H1 Q
noncomputable def rI (C : Int → Int → Prop) (g : Int → Int → V) : R2 := fun x y H Q => ∃ i j, x = .int i ∧ y = .int j ∧ C i j ∧ Q (g i j) H
noncomputable def rI0 (g : Int → Int → V) : R2 := fun x y H Q => ∃ i j, x = .int i ∧ y = .int j ∧ Q (g i j) H
noncomputable def rU (g : Int → V) : V → Hp → VK → Prop := fun x H Q => ∃ i, x = .int i ∧ Q (g i) H

section
variable {X : Cx} {a b c : Expr} {ta tb tc : TE} {pos : Pos}

theorem binT (ha : PE X a ta) (hb : PE X b tb) {pins : List (Addr × Obj)} {s : Shared} {σ : St} {H : Hp} {R : V → V → Hp → Prop} (I : Inv X pins σ H s)
    (h : ta σ H fun x H1 => tb σ H1 fun y H2 => R x y H2) {Q : Value → Shared → Prop} {f : Value → Value → Sem Value}
    (hf : ∀ v u s2 x y H2, Inv X pins σ H2 s2 → RelV x v → RelV y u → R x y H2 → wpAny (model X.prog X.w) X.A (f v u) Q X.xe s2) :
    wpAny (model X.prog X.w) X.A (eval a X.env) (fun v s₁ => wpAny (model X.prog X.w) X.A (eval b X.env) (fun u s₂ => wpAny (model X.prog X.w) X.A (f v u) Q X.xe s₂) X.xe s₁) X.xe s := by
  refine thn (ha pins s σ H _ I h) fun v s1 ⟨x, H1, I1, r1, q1⟩ => ?_
  refine thn (hb pins s1 σ H1 _ I1 q1) fun u s2 ⟨y, H2, I2, r2, q2⟩ => ?_
  exact hf v u s2 x y H2 I2 r1 r2 q2

theorem pe_op {op : Operator} {r : R2} (ho : OpR X (binaryOp op) r) (ha : PE X a ta) (hb : PE X b tb) : PE X (.BinOp a op b pos) (tOp r ta tb) := by
  intro pins s σ H Q I h
  exact wpAny_BinOp (binT ha hb I h fun v u s2 x y H2 I2 rx ry q => ho pins s2 σ H2 x y v u Q I2 rx ry q)
theorem pe_un {op : UnaryOp} {r : V → Hp → VK → Prop} (ho : UnR X (unaryOp op) r) (ha : PE X a ta) : PE X (.UnaryOp op a pos) (tUn r ta) := by
  intro pins s σ H Q I h
  exact UnaryOp_ (thn (ha pins s σ H _ I h) fun v s1 ⟨x, H1, I1, r1, q1⟩ => ho pins s1 σ H1 x v Q I1 r1 q1)
theorem opI {f : Value → Value → Sem Value} {C : Int → Int → Prop} {g : Int → Int → Int}
    (rule : ∀ (i j : Int) (t u : Tok) (s : Shared) (Q : Value → Shared → Prop) (E : Value → Shared → Prop), C i j → Q (.int (g i j) s.toks) { s with toks := s.toks + 1 } → wpAny (model X.prog X.w) X.A (f (.int i t) (.int j u)) Q E s) :
    OpR X f (rI C fun i j => .int (g i j)) := by
  intro pins s σ H x y v u Q I rx ry h
  obtain ⟨i, j, rfl, rfl, hc, q⟩ := h
  obtain ⟨t, rfl⟩ := rx
  obtain ⟨t', rfl⟩ := ry
  exact rule i j t t' s _ _ hc ⟨.int (g i j), H, I.tok _, ⟨_, rfl⟩, q⟩
theorem opI0 {f : Value → Value → Sem Value} {g : Int → Int → Int}
    (rule : ∀ (i j : Int) (t u : Tok) (s : Shared) (Q : Value → Shared → Prop) (E : Value → Shared → Prop), Q (.int (g i j) s.toks) { s with toks := s.toks + 1 } → wpAny (model X.prog X.w) X.A (f (.int i t) (.int j u)) Q E s) :
    OpR X f (rI0 fun i j => .int (g i j)) := by
  intro pins s σ H x y v u Q I rx ry h
  obtain ⟨i, j, rfl, rfl, q⟩ := h
  obtain ⟨t, rfl⟩ := rx
  obtain ⟨t', rfl⟩ := ry
  exact rule i j t t' s _ _ ⟨.int (g i j), H, I.tok _, ⟨_, rfl⟩, q⟩
theorem opB0 {f : Value → Value → Sem Value} {g : Int → Int → Bool}
    (rule : ∀ (i j : Int) (t u : Tok) (s : Shared) (Q : Value → Shared → Prop) (E : Value → Shared → Prop), Q (.bool (g i j)) s → wpAny (model X.prog X.w) X.A (f (.int i t) (.int j u)) Q E s) :
    OpR X f (rI0 fun i j => .bl (g i j)) := by
  intro pins s σ H x y v u Q I rx ry h
  obtain ⟨i, j, rfl, rfl, q⟩ := h
  obtain ⟨t, rfl⟩ := rx
  obtain ⟨t', rfl⟩ := ry
  exact rule i j t t' s _ _ ⟨.bl (g i j), H, I, rfl, q⟩

noncomputable def CDiv (i j : Int) : Prop := 0 < j ∧ j < 1073741824
noncomputable def CPow (i j : Int) : Prop := 0 ≤ j ∧ j ≤ 1000000 ∧ i.natAbs < 2 ^ 64
noncomputable def CMul (i j : Int) : Prop := (-(2 ^ 64) < i ∧ i < 2 ^ 64) ∨ (-(2 ^ 64) < j ∧ j < 2 ^ 64)
theorem CMul.ok {i j : Int} (h : CMul i j) : IntMulOk i j := by
  rcases h with ⟨h1, h2⟩ | ⟨h1, h2⟩
  · exact .of_left (intBits_le_64 h1 h2)
  · exact .of_right (intBits_le_64 h1 h2)
theorem op_add : OpR X (binaryOp .Add) (rI0 fun i j => .int (i + j)) := opI0 fun _ _ _ _ _ _ _ q => add_int q
theorem op_sub : OpR X (binaryOp .Sub) (rI0 fun i j => .int (i - j)) := opI0 fun _ _ _ _ _ _ _ q => sub_int q
theorem op_mul : OpR X (binaryOp .Mult) (rI CMul fun i j => .int (i * j)) := opI fun _ _ _ _ _ _ _ hc q => mul_int q hc.ok
theorem op_fdiv : OpR X (binaryOp .FloorDiv) (rI CDiv fun i j => .int (i / j)) := opI fun i j _ _ _ _ _ hc q => by
  have h1 : (0 : Int) < j := hc.1
  have h2 : j < 1073741824 := hc.2
  exact floordiv_int (by (first | lia | omega)) (by rw [Int.fdiv_eq_ediv_of_nonneg i (by (first | lia | omega))]; exact q) (.inl (PyProof.noPylong_small (by (first | lia | omega))))
theorem op_mod : OpR X (binaryOp .Mod) (rI (fun _ j => 0 < j) fun i j => .int (i % j)) := opI fun i j _ _ _ _ _ hc q => by
  have h1 : (0 : Int) < j := hc
  exact mod_int' (by (first | lia | omega)) (by rw [Int.fmod_eq_emod_of_nonneg i (by (first | lia | omega))]; exact q)
theorem op_pow : OpR X (binaryOp .Pow) (rI CPow fun i j => .int (i ^ j.toNat)) := opI fun _ _ _ _ _ _ _ hc q => pow_int_small hc.1 hc.2.1 hc.2.2 q
theorem unI {f : Value → Sem Value} {g : Int → Int}
    (rule : ∀ (i : Int) (t : Tok) (s : Shared) (Q : Value → Shared → Prop) (E : Value → Shared → Prop), Q (.int (g i) s.toks) { s with toks := s.toks + 1 } → wpAny (model X.prog X.w) X.A (f (.int i t)) Q E s) :
    UnR X f (rU fun i => .int (g i)) := by
  intro pins s σ H x v Q I rx h
  obtain ⟨i, rfl, q⟩ := h
  obtain ⟨t, rfl⟩ := rx
  exact rule i t s _ _ ⟨.int (g i), H, I.tok _, ⟨_, rfl⟩, q⟩
theorem un_neg : UnR X (unaryOp .USub) (rU fun i => .int (-i)) := unI fun _ _ _ _ _ q => neg_int q
end

noncomputable def scal : V → V → Bool
  | .non, .non => true | .non, .int _ => true | .int _, .non => true | .non, .bl _ => true | .bl _, .non => true | .non, .str _ => true | .str _, .non => true
  | .int _, .int _ => true | .bl _, .bl _ => true | .str _, .str _ => true | .byt _, .byt _ => true
  | .int _, .str _ => true | .str _, .int _ => true | .bl _, .str _ => true | .str _, .bl _ => true
  | _, _ => false
noncomputable def rEq : R2 := fun x y H Q => scal x y = true ∧ Q (.bl (decide (x = y))) H
noncomputable def rNe : R2 := fun x y H Q => scal x y = true ∧ Q (.bl (!decide (x = y))) H

theorem dec_int {i j : Int} : decide (V.int i = V.int j) = (i == j) := by
  rw [Bool.eq_iff_iff]
  simp
theorem dec_bl {i j : Bool} : decide (V.bl i = V.bl j) = (i == j) := by
  rw [Bool.eq_iff_iff]
  simp
theorem dec_str {i j : Str} : decide (V.str i = V.str j) = (i == j) := by
  rw [Bool.eq_iff_iff]
  simp
theorem dec_byt {i j : Array UInt8} : decide (V.byt i = V.byt j) = (i.toList == j.toList) := by
  rw [Bool.eq_iff_iff]
  cases i
  cases j
  simp

section
variable {X : Cx} {a b c : Expr} {ta tb tc : TE} {pos : Pos}
theorem fin_bl {pins : List (Addr × Obj)} {σ : St} {H : Hp} {s : Shared} {Q : VK} {k k' : Bool} (I : Inv X pins σ H s) (q : Q (.bl k) H) (e : k = k') : EP X pins σ Q (.bool k') s := by
  subst e
  exact ⟨.bl k, H, I, rfl, q⟩
theorem op_eq : OpR X (compareOp .Eq) rEq := by
  intro pins s σ H x y v u Q I rx ry h
  obtain ⟨hs, q⟩ := h
  cases x with
  | non =>
    cases rx
    cases y with
    | non => cases ry; exact PySem.EqNone.eq_none_none (fin_bl I q (by simp))
    | bl j => cases ry; exact PySem.EqNone.eq_none_bool (fin_bl I q (by simp))
    | int j => obtain ⟨t', rfl⟩ := ry; exact PySem.EqNone.eq_none_int (fin_bl I q (by simp))
    | str j => obtain ⟨t', rfl⟩ := ry; exact PySem.EqNone.eq_none_str (fin_bl I q (by simp))
    | _ => exact absurd (show false = true from hs) Bool.false_ne_true
  | bl i =>
    cases rx
    cases y with
    | non => cases ry; exact PySem.EqNone.eq_bool_none (fin_bl I q (by simp))
    | bl j => cases ry; exact eq_bool (fin_bl I q dec_bl)
    | str j => obtain ⟨t', rfl⟩ := ry; exact PySem.EqMixed.eq_bool_str (fin_bl I q (by simp))
    | _ => exact absurd (show false = true from hs) Bool.false_ne_true
  | int i =>
    obtain ⟨t, rfl⟩ := rx
    cases y with
    | non => cases ry; exact PySem.EqNone.eq_int_none (fin_bl I q (by simp))
    | int j => obtain ⟨t', rfl⟩ := ry; exact eq_int (fin_bl I q dec_int)
    | str j => obtain ⟨t', rfl⟩ := ry; exact PySem.EqMixed.eq_int_str (fin_bl I q (by simp))
    | _ => exact absurd (show false = true from hs) Bool.false_ne_true
  | str i =>
    obtain ⟨t, rfl⟩ := rx
    cases y with
    | non => cases ry; exact PySem.EqNone.eq_str_none (fin_bl I q (by simp))
    | bl j => cases ry; exact PySem.EqMixed.eq_str_bool (fin_bl I q (by simp))
    | int j => obtain ⟨t', rfl⟩ := ry; exact PySem.EqMixed.eq_str_int (fin_bl I q (by simp))
    | str j => obtain ⟨t', rfl⟩ := ry; exact eq_str (fin_bl I q dec_str)
    | _ => exact absurd (show false = true from hs) Bool.false_ne_true
  | byt i =>
    obtain ⟨t, rfl⟩ := rx
    cases y with
    | byt j => obtain ⟨t', rfl⟩ := ry; exact PySem.W.eq_bytes (fin_bl I q dec_byt)
    | _ => exact absurd (show false = true from hs) Bool.false_ne_true
  | _ => cases y <;> exact absurd (show false = true from hs) Bool.false_ne_true
theorem op_ne : OpR X (compareOp .NotEq) rNe := by
  intro pins s σ H x y v u Q I rx ry h
  obtain ⟨hs, q⟩ := h
  cases x with
  | non =>
    cases rx
    cases y with
    | non => cases ry; exact PySem.EqNone.ne_none_none (fin_bl I q (by simp))
    | bl j => cases ry; exact PySem.EqNone.ne_none_bool (fin_bl I q (by simp))
    | int j => obtain ⟨t', rfl⟩ := ry; exact PySem.EqNone.ne_none_int (fin_bl I q (by simp))
    | str j => obtain ⟨t', rfl⟩ := ry; exact PySem.EqNone.ne_none_str (fin_bl I q (by simp))
    | _ => exact absurd (show false = true from hs) Bool.false_ne_true
  | bl i =>
    cases rx
    cases y with
    | non => cases ry; exact PySem.EqNone.ne_bool_none (fin_bl I q (by simp))
    | bl j => cases ry; exact ne_bool (fin_bl I q (congrArg not dec_bl))
    | str j => obtain ⟨t', rfl⟩ := ry; exact PySem.EqMixed.ne_bool_str (fin_bl I q (by simp))
    | _ => exact absurd (show false = true from hs) Bool.false_ne_true
  | int i =>
    obtain ⟨t, rfl⟩ := rx
    cases y with
    | non => cases ry; exact PySem.EqNone.ne_int_none (fin_bl I q (by simp))
    | int j => obtain ⟨t', rfl⟩ := ry; exact ne_int (fin_bl I q (congrArg not dec_int))
    | str j => obtain ⟨t', rfl⟩ := ry; exact PySem.EqMixed.ne_int_str (fin_bl I q (by simp))
    | _ => exact absurd (show false = true from hs) Bool.false_ne_true
  | str i =>
    obtain ⟨t, rfl⟩ := rx
    cases y with
    | non => cases ry; exact PySem.EqNone.ne_str_none (fin_bl I q (by simp))
    | bl j => cases ry; exact PySem.EqMixed.ne_str_bool (fin_bl I q (by simp))
    | int j => obtain ⟨t', rfl⟩ := ry; exact PySem.EqMixed.ne_str_int (fin_bl I q (by simp))
    | str j => obtain ⟨t', rfl⟩ := ry; exact ne_str (fin_bl I q (congrArg not dec_str))
    | _ => exact absurd (show false = true from hs) Bool.false_ne_true
  | byt i =>
    obtain ⟨t, rfl⟩ := rx
    cases y with
    | byt j => obtain ⟨t', rfl⟩ := ry; exact PySem.W.ne_bytes (fin_bl I q (congrArg not dec_byt))
    | _ => exact absurd (show false = true from hs) Bool.false_ne_true
  | _ => cases y <;> exact absurd (show false = true from hs) Bool.false_ne_true

theorem op_lt : OpR X (compareOp .Lt) (rI0 fun i j => .bl (decide (i < j))) := opB0 fun _ _ _ _ _ _ _ q => lt_int q
theorem op_le : OpR X (compareOp .LtE) (rI0 fun i j => .bl (decide (i ≤ j))) := opB0 fun _ _ _ _ _ _ _ q => le_int q
theorem op_gt : OpR X (compareOp .Gt) (rI0 fun i j => .bl (decide (j < i))) := opB0 fun _ _ _ _ _ _ _ q => gt_int q
theorem op_in_str : OpR X (compareOp .In) (fun x y H Q => ∃ i j, x = .str i ∧ y = .str j ∧ Q (.bl (!(Builtin.Str.occurrences j i 0 j.length 1).isEmpty)) H) := by
  intro pins s σ H x y v u Q I rx ry h
  obtain ⟨i, j, rfl, rfl, q⟩ := h
  obtain ⟨t, rfl⟩ := rx
  obtain ⟨t', rfl⟩ := ry
  exact in_str (fin_bl I q rfl)

theorem nomark (b : Expr) {op : CmpOp} (h : op ≠ .In := by decide) (h2 : op ≠ .NotIn := by decide) : behindInMarks op b = false := by
  have e1 : (op == CmpOp.In) = false := by cases op <;> first | rfl | exact absurd rfl h
  have e2 : (op == CmpOp.NotIn) = false := by cases op <;> first | rfl | exact absurd rfl h2
  cases b <;> simp [behindInMarks, e1, e2]
theorem pe_cmpR {op : CmpOp} {r : R2} (ho : OpR X (compareOp op) r) (ha : PE X a ta) (hb : PE X b tb) (hm : behindInMarks op b = false) : PE X (.Compare a [op] [b] pos) (tOp r ta tb) := by
  intro pins s σ H Q I h
  exact wpAny_Compare1 (binT ha hb I h fun v u s2 x y H2 I2 rx ry q => ho pins s2 σ H2 x y v u Q I2 rx ry q) hm
noncomputable def tTest (t : TE) : TT := fun σ H Q => t σ H fun x H' => ∃ k, x = .bl k ∧ Q k H'
theorem pt_cmpR {op : CmpOp} {r : R2} (ho : OpR X (compareOp op) r) (ha : PE X a ta) (hb : PE X b tb) (hm : behindInMarks op b = false) : PT X (.Compare a [op] [b] pos) (tTest (tOp r ta tb)) := by
  intro pins s σ H Q I h
  refine wpAny_isTrue_Compare1 (thn (ha pins s σ H _ I h) fun v s1 ⟨x, H1, I1, r1, q1⟩ => thn (hb pins s1 σ H1 _ I1 q1) fun u s2 ⟨y, H2, I2, r2, q2⟩ =>
    thn (ho pins s2 σ H2 x y v u _ I2 r1 r2 q2) fun c s3 ⟨z, H3, I3, r3, k, e, q3⟩ => ?_) hm
  subst e
  cases r3
  exact wpAny_truthy_bool ⟨H3, I3, q3⟩
noncomputable def tChain (r r' : R2) (ta tb tc : TE) : TE := fun σ H Q => ta σ H fun x H1 => tb σ H1 fun y H2 => r x y H2 fun z H3 => ∃ k, z = .bl k ∧
  (if k = true then tc σ H3 fun w' H4 => r' y w' H4 Q else Q (.bl false) H3)
theorem pe_chain {op op' : CmpOp} {r r' : R2} (ho : OpR X (compareOp op) r) (ho' : OpR X (compareOp op') r') (ha : PE X a ta) (hb : PE X b tb) (hc : PE X c tc)
    (hm : lastMarks [op, op'] [b, c] = false := by with_unfolding_all rfl) : PE X (.Compare a [op, op'] [b, c] pos) (tChain r r' ta tb tc) := by
  intro pins s σ H Q I h
  refine Compare_chain (thn (ha pins s σ H _ I h) fun v s1 ⟨x, H1, I1, r1, q1⟩ => chain_link (thn (hb pins s1 σ H1 _ I1 q1) fun u s2 ⟨y, H2, I2, r2, q2⟩ =>
    thn (ho pins s2 σ H2 x y v u _ I2 r1 r2 q2) fun d s3 ⟨z, H3, I3, r3, k, e, q3⟩ => ?_)) hm
  subst e
  cases r3
  refine wpAny_truthy_bool ?_
  cases k with
  | false => exact ite_ff ⟨.bl false, H3, I3, rfl, q3⟩
  | true => exact ite_tt (chain_last (thn (hc pins s3 σ H3 _ I3 q3) fun w' s4 ⟨z', H4, I4, r4, q4⟩ => ho' pins s4 σ H4 y z' u w' Q I4 r2 r4 q4))
theorem line63 : (sizeLine : Nat) < 2 ^ 63 := by rw [sizeLine_eq]; decide
theorem op_add_str : OpR X (binaryOp .Add) (fun x y H Q => ∃ i j, x = .str i ∧ y = .str j ∧ i.length + j.length ≤ sizeLine ∧ Q (.str (i ++ j)) H) := by
  intro pins s σ H x y v u Q I rx ry h
  obtain ⟨i, j, rfl, rfl, hz, q⟩ := h
  obtain ⟨t, rfl⟩ := rx
  obtain ⟨t', rfl⟩ := ry
  exact add_str (fun t' tk => ⟨.str (i ++ j), H, I.tok _, ⟨_, rfl⟩, q⟩) hz
theorem vals1 {x : V} {us : List Value} (r : Vals [x] us) : ∃ u, us = [u] ∧ RelV x u := by
  cases r with
  | cons r1 r2 => cases r2; exact ⟨_, rfl, r1⟩
theorem vals2 {x y : V} {us : List Value} (r : Vals [x, y] us) : ∃ u w', us = [u, w'] ∧ RelV x u ∧ RelV y w' := by
  cases r with
  | cons r1 r2 =>
    cases r2 with
    | cons r3 r4 => cases r4; exact ⟨_, _, rfl, r1, r3⟩
end
end L2

namespace L2
open PySem PySem.Spec PyProof.Rows

structure ObjM (h : Heap) (x dx C : Addr) (mA : Str → Option Value) : Prop where
  obj : h.get? x = some (PySem.W.instObj C dx)
  ns : h.Ns1 dx mA
  ne : dx ≠ x

theorem lookIn_ns {h : Heap} {dx : Addr} {mA : Str → Option Value} (n : h.Ns1 dx mA) : ∃ od, h.get? dx = some od ∧ ∀ name, PySem.W.lookIn name od = some (mA name) := by
  obtain ⟨o, es, ep, ho, hd, hk, _, hm⟩ := n
  refine ⟨o, ho, fun name => ?_⟩
  have e := hm name
  unfold nsFind findBy at e
  rw [← Array.find?_toList] at e
  unfold PySem.W.lookIn
  rw [hd]
  dsimp only
  split
  · rename_i y q
    rw [q] at e
    exact congrArg some e
  · rename_i q
    rw [q] at e
    have a : es.toList.any (·.refKey) = false := by
      rw [List.any_eq_false]
      intro y hy
      obtain ⟨z, t, hkey⟩ := hk y (Array.mem_toList_iff.mp hy)
      simp [DictEntry.refKey, hkey]
    have a' : ¬ es.toList.any (·.refKey) = true := by rw [a]; exact Bool.false_ne_true
    rw [if_neg a']
    exact congrArg some e

theorem ObjM.look {h : Heap} {x dx C : Addr} {mA : Str → Option Value} (I : ObjM h x dx C mA) : ∃ od, PySem.W.InstAt h x (PySem.W.instObj C dx) C (some od) ∧ ∀ name, PySem.W.lookIn name od = some (mA name) :=
  let ⟨od, ho, hl⟩ := lookIn_ns I.ns
  ⟨od, ⟨I.obj, rfl, rfl, ho⟩, hl⟩

section
variable {prog : Program} {w : World} {A : Around} {E : Value → Shared → Prop} {s : Shared} {K : PySem.W.Frag} {x dx C f : Addr} {mA : Str → Option Value} {name : Str} {v : Value}

theorem get_map {expr : Bool} {Q : Value → Shared → Prop} (X : K.In s.heap) (I : ObjM s.heap x dx C mA) (hg : PySem.W.plainGet K C name = true) (hh : PySem.W.hasDictIn K C = true)
    (ha : PySem.W.findIn K (.ref C) name = some none) (hv : mA name = some v) (hv' : PySem.W.handedIn v = true) (h : Q v { s with toks := s.toks + 1 }) :
    wpAny (model prog w) A (getAttr (.ref x) name expr) Q E s := by
  obtain ⟨od, J, hl⟩ := I.look
  exact PySem.W.get_value X J (PySem.W.plainGet_of hg).1 (PySem.W.findObj_own hh ha rfl (by rw [hl, hv])) hv' h

theorem get_meth {pl : Sem Bool} {Q : Value × List Value → Shared → Prop} (X : K.In s.heap) (I : ObjM s.heap x dx C mA) (hg : PySem.W.plainGet K C name = true)
    (hf : PySem.W.findIn K (.ref C) name = some (some (.ref f))) (ht : PySem.W.isFn K (.ref f) = true) (hv : mA name = none) (h : Q (.ref f, [.ref x]) s) :
    wpAny (model prog w) A (getMethod (.ref x) name pl) Q E s := by
  obtain ⟨od, J, hl⟩ := I.look
  exact PySem.W.method_fn X J (PySem.W.plainGet_of hg).1 (PySem.W.plainGet_of hg).2 hf (beq_iff_eq.mp ht) (by show (PySem.W.lookIn name od).map (·.isSome) = some false; rw [hl, hv]; rfl) h

theorem set_map {ns : List Str} {Q : Unit → Shared → Prop} (X : K.In s.heap) (I : ObjM s.heap x dx C mA)
    (hs : PySem.W.findIn K (.ref C) "__setattr__" = some (some (.builtin "object.__setattr__"))) (hp : PySem.W.plainOver K C = true) (ht : PySem.W.takerIn K C name = some none) (hh : PySem.W.hasDictIn K C = true)
    (hw : PySem.Within mA ns) (hsz : ns.length ≤ sizeLine)
    (h : ∀ h', ObjM h' x dx C (fun y => if y = name then some v else mA y) → Heap.SameBut dx s.heap h' → Q () { s with heap := h', toks := s.toks + 2 }) :
    wpAny (model prog w) A (setAttr (.ref x) name v) Q E s := by
  obtain ⟨od, J, hl⟩ := I.look
  refine PySem.W.set_plain X J hs (PySem.W.osa_open (s := { s with toks := s.toks + 1 }) (r := none) X J hp ht fun b => ?_)
  obtain ⟨cd, hc, hd'⟩ := PySem.W.any_some hh
  have hx : s.heap.get? x = some ⟨.ref C, some dx, .plain, #[]⟩ := I.obj
  refine wpAny_bind (wpAny_pure (wpAny_bind (wpAny_bind (wpAny_loadPart hx (wpAny_bind (PySem.W.Looks.here (s := { s with toks := s.toks + 1 }) (PySem.W.looks_clsIn X hc) ?_))))))
  rw [hd']
  refine wpAny_pure (a := some dx) (wpAny_bind (wpAny_pure (wpAny_bind ?_)))
  refine wpAny_nsSet1 (s := { s with toks := s.toks + 1 }) I.ns fun h' hn2 hs2 => ?_
  obtain ⟨oD, esD, epD, hoD, hdD, hcD⟩ := hn2.count (PySem.Within.cons name v hw)
  refine wpAny_bind (wpAny_lookBehind hoD (by rw [hdD]; exact pastItsLine_dict (Nat.le_trans hcD (by rw [List.length_cons]; (first | lia | omega)))) ?_)
  exact wpAny_pure (h _ ⟨(hs2.2 _ (Ne.symm I.ne)).trans I.obj, hn2, I.ne⟩ hs2)

theorem make_map {R : Result → Shared → Prop} {vs : List Value} {kw : List (Str × Value)} (X : K.In s.heap) (hm : PySem.W.makesIn K C = true)
    (hi : PySem.W.findIn K (.ref C) "__init__" = some (some (.ref f))) (hf : PySem.W.typeIn K (.ref f) = some (.type "function"))
    (h : codeAny (model prog w) (A.under (.builtin "type.__call__" ⟨.ref C :: vs, kw⟩)) (.call (.ref f) ⟨.ref (s.heap.objs.size + 1) :: vs, kw⟩) (PySem.W.InitBack (s.heap.objs.size + 1) R)
      { s with heap := (s.heap.push PySem.W.emptyDict).push (PySem.W.instObj C s.heap.objs.size) }) :
    codeAny (model prog w) A (.call (.ref C) ⟨vs, kw⟩) R s := by
  obtain ⟨hh, g, d, t, os⟩ := s
  exact PySem.W.make_core (PySem.W.makes_of X hm) (PySem.W.looks_findIn X hi) (fun self => PySem.W.bind_fn X self hf) (.inl rfl) h
end

noncomputable def putF (f : Str) (v : V) : List (Str × V) → List (Str × V)
  | [] => [(f, v)]
  | (g, x) :: r => if g = f then (g, v) :: r else (g, x) :: putF f v r
theorem lookup_putF (f g : Str) (v : V) : ∀ fs : List (Str × V), (putF f v fs).lookup g = if g = f then some v else fs.lookup g
  | [] => by
    show List.lookup g [(f, v)] = _
    by_cases h : g = f
    · have hb : (g == f) = true := beq_iff_eq.mpr h
      simp only [List.lookup, hb, if_pos h]
    · have hb : (g == f) = false := beq_eq_false_iff_ne.mpr h
      simp only [List.lookup, hb, if_neg h]
  | (k, x) :: r => by
    have ih := lookup_putF f g v r
    rw [show putF f v ((k, x) :: r) = (if k = f then (k, v) :: r else (k, x) :: putF f v r) from rfl]
    by_cases hk : k = f
    · rw [if_pos hk]
      by_cases h : g = k
      · have hb : (g == k) = true := beq_iff_eq.mpr h
        simp only [List.lookup, hb, if_pos (h.trans hk)]
      · have hb : (g == k) = false := beq_eq_false_iff_ne.mpr h
        simp only [List.lookup, hb, if_neg (fun e : g = f => h (e.trans hk.symm))]
    · rw [if_neg hk]
      by_cases h : g = k
      · have hb : (g == k) = true := beq_iff_eq.mpr h
        simp only [List.lookup, hb, if_neg (fun e : g = f => hk (h.symm.trans e))]
      · have hb : (g == k) = false := beq_eq_false_iff_ne.mpr h
        simp only [List.lookup, hb]
        exact ih
theorem keys_putF (f : Str) (v : V) : ∀ fs : List (Str × V), f ∈ (putF f v fs).map (·.1) ∧ ∀ g, g ∈ fs.map (·.1) → g ∈ (putF f v fs).map (·.1)
  | [] => ⟨by simp [putF], fun g h => by simp at h⟩
  | (k, x) :: r => by
    obtain ⟨i1, i2⟩ := keys_putF f v r
    rw [show putF f v ((k, x) :: r) = (if k = f then (k, v) :: r else (k, x) :: putF f v r) from rfl]
    by_cases hk : k = f
    · rw [if_pos hk]
      subst hk
      exact ⟨by simp, fun g h => by simpa using h⟩
    · rw [if_neg hk]
      refine ⟨?_, fun g h => ?_⟩
      · rw [List.map_cons]
        exact List.mem_cons_of_mem _ i1
      · rw [List.map_cons] at h ⊢
        rcases List.mem_cons.mp h with e | e
        · exact List.mem_cons.mpr (.inl e)
        · exact List.mem_cons_of_mem _ (i2 g e)
theorem length_putF (f : Str) (v : V) : ∀ fs : List (Str × V), (putF f v fs).length ≤ fs.length + 1
  | [] => by simp [putF]
  | (k, x) :: r => by
    have ih := length_putF f v r
    rw [show putF f v ((k, x) :: r) = (if k = f then (k, v) :: r else (k, x) :: putF f v r) from rfl]
    by_cases hk : k = f
    · rw [if_pos hk, List.length_cons, List.length_cons]; (first | lia | omega)
    · rw [if_neg hk, List.length_cons, List.length_cons]; (first | lia | omega)

theorem RelO.some_of {v : V} {o : Option Value} (r : RelO (some v) o) : ∃ u, o = some u ∧ RelV v u := by
  cases o with
  | none => exact (show False from r).elim
  | some u => exact ⟨u, rfl, r⟩
theorem RelO.none_of {o : Option Value} (r : RelO none o) : o = none := by
  cases o with
  | none => rfl
  | some u => exact (show False from r).elim
theorem handed_of {v : V} {u : Value} (r : RelV v u) : PySem.W.handedIn u = true := by
  cases v with
  | non => cases (show u = Value.none from r); rfl
  | bl b => cases (show u = Value.bool b from r); rfl
  | int i => obtain ⟨t, e⟩ := (show ∃ t, u = Value.int i t from r); cases e; rfl
  | str x => obtain ⟨t, e⟩ := (show ∃ t, u = Value.str x t from r); cases e; rfl
  | byt b => obtain ⟨t, e⟩ := (show ∃ t, u = Value.bytes b t from r); cases e; rfl
  | flt b => obtain ⟨t, e⟩ := (show ∃ t, u = Value.float b t from r); cases e; rfl
  | ref a => cases (show u = Value.ref a from r); rfl
  | ty n => cases (show u = Value.type n from r); rfl

section
variable {P : Program} {w : World} {H H' : Hp} {h h' : Heap} {a C dx : Addr} {fs fs' : List (Str × V)}
theorem ins_get (hok : HOk P w H h) (e : H a = some (.ins C dx fs)) : ∃ mA, ObjM h a dx C mA ∧ (∀ f, RelO (fs.lookup f) (mA f)) ∧ PySem.Within mA (fs.map (·.1)) ∧ fs.length ≤ 1000 ∧ H dx = some (.own a) := by
  obtain ⟨d, z, ne, ob, mA, n, r, q⟩ := (show ObjOk P w H h a (.ins C dx fs) from hok a _ e)
  exact ⟨mA, ⟨ob, n, ne⟩, r, q, z, d⟩
end

structure Cls (K : PySem.W.Frag) (C : Addr) : Prop where
  pg : PySem.W.plainGet K C Str.empty = true
  hd : PySem.W.hasDictIn K C = true
  po : PySem.W.plainOver K C = true
  sa : PySem.W.findIn K (.ref C) "__setattr__" = some (some (.builtin "object.__setattr__"))
theorem Cls.get {K : PySem.W.Frag} {C : Addr} (c : Cls K C) (f : Str) : PySem.W.plainGet K C f = true := c.pg
noncomputable def NoAttr (K : PySem.W.Frag) (C : Addr) (f : Str) : Prop := PySem.W.findIn K (.ref C) f = some none
theorem NoAttr.taker {K : PySem.W.Frag} {C : Addr} {f : Str} (n : NoAttr K C f) : PySem.W.takerIn K C f = some none := by
  unfold PySem.W.takerIn
  rw [show PySem.W.findIn K (.ref C) f = some none from n]
  rfl
structure Meth (K : PySem.W.Frag) (C : Addr) (m : Str) (f : Addr) : Prop where
  at_ : PySem.W.findIn K (.ref C) m = some (some (.ref f))
  fn : PySem.W.isFn K (.ref f) = true
  kp : PySem.W.keepIn K (.ref f) = true

section
variable {X : Cx} {pins : List (Addr × Obj)} {σ : St} {H : Hp} {s : Shared} {a C dx : Addr} {fs : List (Str × V)} {f : Str} {v : V} {A : Around} {E : Value → Shared → Prop}

theorem getattr_ok {b : Bool} {Q : Value → Shared → Prop} (I : Inv X pins σ H s) (e : H a = some (.ins C dx fs)) (c : Cls X.K C) (n : NoAttr X.K C f) (l : fs.lookup f = some v)
    (h : ∀ u s', Inv X pins σ H s' → RelV v u → Q u s') : wpAny (model X.prog X.w) A (getAttr (.ref a) f b) Q E s := by
  obtain ⟨mA, O, r, _, _, _⟩ := ins_get I.hok e
  obtain ⟨u, hu, ru⟩ := RelO.some_of (v := v) (o := mA f) (by rw [← l]; exact r f)
  exact get_map I.kIn O (c.get f) c.hd n hu (handed_of ru) (h u _ (I.tok _) ru)

theorem getmeth_ok {m : Str} {g : Addr} {pl : Sem Bool} {Q : Value × List Value → Shared → Prop} (I : Inv X pins σ H s) (e : H a = some (.ins C dx fs)) (c : Cls X.K C) (k : Meth X.K C m g) (l : fs.lookup m = none)
    (h : Q (.ref g, [.ref a]) s) : wpAny (model X.prog X.w) A (getMethod (.ref a) m pl) Q E s := by
  obtain ⟨mA, O, r, _, _, _⟩ := ins_get I.hok e
  have hn : mA m = none := RelO.none_of (by rw [← l]; exact r m)
  exact get_meth I.kIn O (c.get m) k.at_ k.fn hn h

theorem setattr_ok {y : V} {u : Value} {Q : Unit → Shared → Prop} (I : Inv X pins σ H s) (e : H a = some (.ins C dx fs)) (c : Cls X.K C) (n : NoAttr X.K C f) (hl : fs.length < 1000) (ry : RelV y u)
    (h : ∀ s', Inv X pins σ (upd H a (.ins C dx (putF f y fs))) s' → Q () s') : wpAny (model X.prog X.w) A (setAttr (.ref a) f u) Q E s := by
  obtain ⟨mA, O, r, wi, _, ho⟩ := ins_get I.hok e
  have hz : (fs.map (·.1)).length ≤ sizeLine := by rw [List.length_map, sizeLine_eq]; (first | lia | omega)
  refine set_map I.kIn O c.sa c.po n.taker c.hd wi hz fun h' O' sb => h _ ?_
  have hd : ∃ o, h'.get? dx = some o := let ⟨o, _, _, e', _⟩ := O'.ns; ⟨o, e'⟩
  refine I.write (x := a) (e := dx) (by rw [e]; exact True.intro) (.inr ho) (fun b q hb z => (sb.2 b hb).trans z) hd ?_
  refine ⟨by rw [upd_ne O.ne]; exact ho, ?_, O.ne, O'.obj, _, O'.ns, fun g => ?_, fun g hg => ?_⟩
  · have := length_putF f y fs; (first | lia | omega)
  · show RelO ((putF f y fs).lookup g) (if g = f then some u else mA g)
    rw [lookup_putF]
    by_cases q : g = f
    · rw [if_pos q, if_pos q]; exact ry
    · rw [if_neg q, if_neg q]; exact r g
  · by_cases q : g = f
    · rw [q]; exact (keys_putF f y fs).1
    · refine (keys_putF f y fs).2 g (wi g fun z => hg ?_)
      show (if g = f then some u else mA g) = none
      rw [if_neg q]; exact z

theorem Inv.made (I : Inv X pins σ H s) : Inv X pins σ (upd (upd H s.heap.objs.size (.own (s.heap.objs.size + 1))) (s.heap.objs.size + 1) (.ins C s.heap.objs.size []))
    { s with heap := (s.heap.push PySem.W.emptyDict).push (PySem.W.instObj C s.heap.objs.size) } := by
  have e1 : (s.heap.push PySem.W.emptyDict).get? s.heap.objs.size = some PySem.W.emptyDict := Heap.get?_push_size s.heap rfl
  have e2 : ((s.heap.push PySem.W.emptyDict).push (PySem.W.instObj C s.heap.objs.size)).get? (s.heap.objs.size + 1) = some (PySem.W.instObj C s.heap.objs.size) := by
    have := Heap.get?_push_size (s.heap.push PySem.W.emptyDict) (o := PySem.W.instObj C s.heap.objs.size) rfl
    rwa [Heap.size_push] at this
  have e3 : (s.heap.push PySem.W.emptyDict).Ns s.heap.objs.size (fun _ => none) := ⟨PySem.W.emptyDict, #[], _, e1, rfl, (fun e he => absurd he (by simp)), fun _ => rfl⟩
  have I1 := I.laid (a := s.heap.objs.size) (o := .own (s.heap.objs.size + 1)) (h' := s.heap.push PySem.W.emptyDict) (t' := s.toks) (fun b u q => Heap.get?_push_of_some _ q) (Nat.le_refl _) ⟨_, e1⟩
  refine I1.laid (a := s.heap.objs.size + 1) (o := .ins C s.heap.objs.size []) (t' := s.toks) (fun b u q => Heap.get?_push_of_some _ q) (Nat.le_of_eq (Heap.size_push _ _)) ?_
  have ne : s.heap.objs.size ≠ s.heap.objs.size + 1 := Nat.ne_of_lt (Nat.lt_succ_self _)
  refine ⟨by rw [upd_ne ne, upd_same], Nat.zero_le _, ne, e2, fun _ => none, (Heap.Ns1.of_empty e3).at fun o q => Heap.get?_push_of_some _ q, fun _ => True.intro, fun y hy => absurd rfl hy⟩

theorem attr_of {prog : Program} {w : World} {env : Env} {e : Expr} {f : Str} {pos : Pos} {s : Shared} {Q : Value → Shared → Prop} (hb : attributeBase e f env (eval e env) = eval e env)
    (h : wpAny (model prog w) A (eval e env) (fun o s₁ => wpAny (model prog w) A (getAttr o f true) Q E s₁) E s) : wpAny (model prog w) A (eval (.Attribute e f pos) env) Q E s :=
  Attribute_any_ h (by rw [arm_eval_Attribute, hb])
end

noncomputable def tFld (K : PySem.W.Frag) (ta : TE) (f : Str) : TE := fun σ H Q => ta σ H fun x H1 => ∃ a C dx fs v, x = .ref a ∧ H1 a = some (.ins C dx fs) ∧ Cls K C ∧ NoAttr K C f ∧ fs.lookup f = some v ∧ Q v H1
noncomputable def sFld (K : PySem.W.Frag) (ta tv : TE) (f : Str) : TS := fun D σ H => tv σ H fun y H1 => ta σ H1 fun x H2 => ∃ a C dx fs, x = .ref a ∧ H2 a = some (.ins C dx fs) ∧ Cls K C ∧ NoAttr K C f ∧ fs.length < 1000 ∧
  D.nx σ (upd H2 a (.ins C dx (putF f y fs)))
section
variable {X : Cx} {o e value : Expr} {f : Str} {pos pos' tpos : Pos} {ta tv : TE}
theorem pe_fld (he : PE X e ta) (hb : attributeBase e f X.env (eval e X.env) = eval e X.env) : PE X (.Attribute e f pos) (tFld X.K ta f) := by
  intro pins s σ H Q I h
  refine attr_of hb (thn (he pins s σ H _ I h) fun u s1 ⟨x, H1, I1, rx, a, C, dx, fs, v, ex, ea, c, n, l, q⟩ => ?_)
  subst ex
  obtain rfl : u = Value.ref a := rx
  exact getattr_ok I1 ea c n l fun u' s2 I2 ru => ⟨v, H1, I2, ru, q⟩
theorem ps_fld (ha : PE X o ta) (hv : PE X value tv) (hs : swapsWith value (some (.Attribute o f pos')) pos.line X.env = pure false) : PS X (.Assign [.Attribute o f pos'] value pos) (sFld X.K ta tv f) := by
  intro pins s σ H D I h
  refine plainObj_wpAny_Assign_Attribute (thn (hv pins s σ H _ I h) fun u s1 ⟨y, H1, I1, ry, q⟩ => thn (ha pins s1 σ H1 _ I1 q) fun ov s2 ⟨x, H2, I2, rx, a, C, dx, fs, ex, ea, c, n, l, q2⟩ => ?_) hs
  subst ex
  obtain rfl : ov = Value.ref a := rx
  exact setattr_ok I2 ea c n l ry fun s3 I3 => ⟨σ, _, I3, q2⟩
end

section
variable {X : Cx} {pins : List (Addr × Obj)} {σ : St} {H : Hp} {s : Shared} {A : Around} {E : Value → Shared → Prop} {Q : Value → Shared → Prop} {c : Value} {b : Bool}
inductive TyOf (K : PySem.W.Frag) (H : Hp) : V → Value → Prop where
  | non : TyOf K H .non (.type "NoneType")
  | bl (x : Bool) : TyOf K H (.bl x) (.type "bool")
  | int (i : Int) : TyOf K H (.int i) (.type "int")
  | str (x : Str) : TyOf K H (.str x) (.type "str")
  | flt (x : UInt64) : TyOf K H (.flt x) (.type "float")
  | lst {a : Addr} {xs : List V} (e : H a = some (.lst xs)) : TyOf K H (.ref a) (.type "list")
  | frz {a : Addr} {o : Obj} {xs : List V} (e : H a = some (.frz o (.lst xs))) : TyOf K H (.ref a) (.type "list")
  | tup {a : Addr} {xs : List V} (e : H a = some (.tup xs)) : TyOf K H (.ref a) (.type "tuple")
  | dK {a : Addr} {kvs : List (Key × V)} (e : H a = some (.dK kvs)) : TyOf K H (.ref a) (.type "dict")
  | dT {a : Addr} {kvs : List (List Key × V)} (e : H a = some (.dT kvs)) : TyOf K H (.ref a) (.type "dict")
  | ins {a C dx : Addr} {fs : List (Str × V)} (e : H a = some (.ins C dx fs)) (cl : Cls K C) (ha : PySem.W.findIn K (.ref C) "__class__" = some (some (.builtin "object.__class__")))
      (hn : PySem.W.specialIn K (.builtin "object.__class__") "__get__" = some (some (.builtin "getset_descriptor.__get__"))) (htk : PySem.W.takesIn K (.builtin "object.__class__") = some true)
      (hm : PySem.W.mroIn K C (.type "object") = some true) : TyOf K H (.ref a) (.ref C)
theorem isinst_ok {x : V} {u t : Value} (I : Inv X pins σ H s) (rx : RelV x u) (ty : TyOf X.K H x t) (e : PySem.W.kitOne X.K t c = some b) (h : ∀ tk, Q (.bool b) { s with toks := tk }) :
    wpAny (model X.prog X.w) A (call (.builtin "isinstance") [u, c]) Q E s := by
  cases ty with
  | non => cases (show u = Value.none from rx); exact PySem.W.kia_one PySem.W.kitx_none I.kIn True.intro e (fun z => nomatch z) h
  | bl y => cases (show u = Value.bool y from rx); exact PySem.W.kia_one PySem.W.kitx_bool I.kIn True.intro e (fun z => nomatch z) h
  | int i => obtain ⟨t, q⟩ := (show ∃ t, u = Value.int i t from rx); cases q; exact PySem.W.kia_one PySem.W.kitx_int I.kIn True.intro e (fun z => nomatch z) h
  | str y => obtain ⟨t, q⟩ := (show ∃ t, u = Value.str y t from rx); cases q; exact PySem.W.kia_one PySem.W.kitx_str I.kIn True.intro e (fun z => nomatch z) h
  | flt y => obtain ⟨t, q⟩ := (show ∃ t, u = Value.float y t from rx); cases q; exact PySem.W.kia_one PySem.W.kitx_float I.kIn True.intro e (fun z => nomatch z) h
  | @lst a xs ea =>
    cases (show u = Value.ref a from rx)
    obtain ⟨_, _, n, _, h1⟩ := (show ObjOk X.prog X.w H s.heap a (.lst xs) from I.hok a _ ea)
    exact PySem.W.kia_one PySem.W.kitx_list I.kIn ⟨_, h1, rfl⟩ e (fun z => nomatch z) h
  | @frz a ob xs ea =>
    cases (show u = Value.ref a from rx)
    obtain ⟨_, _, _, n, _, h1⟩ := (show ObjOk X.prog X.w H s.heap a (.frz ob (.lst xs)) from I.hok a _ ea)
    exact PySem.W.kia_one PySem.W.kitx_list I.kIn ⟨_, h1, rfl⟩ e (fun z => nomatch z) h
  | @tup a xs ea =>
    cases (show u = Value.ref a from rx)
    obtain ⟨_, _, _, p⟩ := (show ObjOk X.prog X.w H s.heap a (.tup xs) from I.hok a _ ea)
    obtain ⟨o, h1, h2, _⟩ := p
    exact PySem.W.kia_one PySem.W.kitx_tuple I.kIn ⟨o, h1, h2⟩ e (fun z => nomatch z) h
  | @dK a kvs ea =>
    cases (show u = Value.ref a from rx)
    obtain ⟨_, _, vs, _, p⟩ := (show ObjOk X.prog X.w H s.heap a (.dK kvs) from I.hok a _ ea)
    obtain ⟨o, es, ep, h1, h2, _⟩ := p
    exact PySem.W.kia_one PySem.W.kitx_dict I.kIn ⟨o, h1, h2.1⟩ e (fun z => nomatch z) h
  | @dT a kvs ea =>
    cases (show u = Value.ref a from rx)
    obtain ⟨_, _, xs, _, o, es, ep, h1, h2, _⟩ := (show ObjOk X.prog X.w H s.heap a (.dT kvs) from I.hok a _ ea)
    exact PySem.W.kia_one PySem.W.kitx_dict I.kIn ⟨o, h1, h2.1⟩ e (fun z => nomatch z) h
  | @ins a C dx fs ea cl ha hn htk hm =>
    cases (show u = Value.ref a from rx)
    obtain ⟨mA, O, _⟩ := ins_get I.hok ea
    obtain ⟨od, J, _⟩ := O.look
    exact PySem.W.kia_one (PySem.W.kitx_own (cl.get _) cl.hd ha hn htk hm) I.kIn J e (fun z => nomatch z) h
end
end L2

namespace L2
open PySem PySem.Spec PyProof.Rows

structure Room (k : Nat) (A : Around) : Prop where
  hd : A.handled = none
  dp : A.depth + 3 * k + 5 < recursionLimit
  un : A.units + 16 * k + 200 < cLine
theorem Room.mono {j k : Nat} {A : Around} (r : Room k A) (h : j ≤ k) : Room j A := ⟨r.hd, by have := r.dp; (first | lia | omega), by have := r.un; (first | lia | omega)⟩
theorem Room.deeper {k : Nat} {A : Around} (r : Room (k + 1) A) (env : Env) : Room k (A.deeper env) :=
  ⟨r.hd, by have := r.dp; show A.depth + 1 + 3 * k + 5 < _; (first | lia | omega), by have := r.un; show A.units + 3 + 16 * k + 200 < _; (first | lia | omega)⟩
theorem make_depth {A : Around} {C : Addr} {us : List Value} {kw : List (Str × Value)} : (A.under (.builtin "type.__call__" ⟨.ref C :: us, kw⟩)).depth = A.depth + 1 := by
  first | rfl | simp [Around.under, Code.weight, Code.isCreation, Code.isGuard, Code.isCaller, Code.frames, Code.isFrame, guardIds]
theorem make_units {A : Around} {C : Addr} {us : List Value} {kw : List (Str × Value)} : (A.under (.builtin "type.__call__" ⟨.ref C :: us, kw⟩)).units = A.units + 1 := by
  first | rfl | simp [Around.under, Code.cUnits, Code.frames, Code.isFrame]
theorem Room.make {k : Nat} {A : Around} (r : Room (k + 1) A) (C : Addr) (us : List Value) (kw : List (Str × Value)) : Room k (A.under (.builtin "type.__call__" ⟨.ref C :: us, kw⟩)) :=
  ⟨r.hd, by have := r.dp; rw [make_depth]; (first | lia | omega), by have := r.un; rw [make_units]; (first | lia | omega)⟩
theorem Room.depth {k : Nat} {A : Around} (r : Room k A) : A.depth < recursionLimit := by have := r.dp; (first | lia | omega)
theorem Room.units {k : Nat} {A : Around} (r : Room k A) : A.units + 64 < cLine := by have := r.un; (first | lia | omega)
noncomputable def tNil : TA := fun _ H Q => Q [] H
noncomputable def tCons (ta : TE) (tr : TA) : TA := fun σ H Q => ta σ H fun x H1 => tr σ H1 fun xs H2 => Q (x :: xs) H2
section
variable {X : Cx} {e : Expr} {es : List Expr} {te : TE} {t : TA} {pos : Pos}
theorem pa_nil : PA X [] tNil := fun _ _ _ _ H Q I h => Calls.spliced_nil ⟨[], H, I, .nil, h⟩
theorem pa_cons (ha : PE X e te) (hr : PA X es t) (hs : starEach (e :: es) X.env = (false, eval e X.env) :: starEach es X.env := by rfl) : PA X (e :: es) (tCons te t) := by
  intro pos pins s σ H Q I h
  rw [hs]
  show wpAny _ _ (spliced ((false, eval e X.env) :: backTo pos (starEach es X.env))) _ _ s
  refine Calls.spliced_cons (thn (ha pins s σ H _ I h) fun u s1 ⟨x, H1, I1, r1, q1⟩ => ?_)
  exact thn (hr pos pins s1 σ H1 _ I1 q1) fun us s2 ⟨xs, H2, I2, r2, q2⟩ => ⟨x :: xs, H2, I2, .cons r1 r2, q2⟩

noncomputable def tTup (t : TA) : TE := fun σ H Q => t σ H fun xs H1 => xs.length ≤ sizeLine ∧ ∀ p, H1 p = none → Q (.ref p) (upd H1 p (.tup xs))
noncomputable def tLst (t : TA) : TE := fun σ H Q => t σ H fun xs H1 => xs.length ≤ sizeLine ∧ ∀ p, H1 p = none → Q (.ref p) (upd H1 p (.lst xs))
theorem pe_tup {x1} (h : PA X es t) : PE X (.Tuple es x1 pos) (tTup t) := by
  intro pins s σ H Q I hq
  refine wpAny_Tuple_spliced (thn (h pos pins s σ H _ I hq) fun us s1 ⟨xs, H1, I1, r, z, q⟩ => ⟨by rw [← r.length]; exact z, ?_⟩)
  have hf : H1 s1.heap.objs.size = none := I1.hok.fresh (Nat.le_refl _)
  refine ⟨.ref s1.heap.objs.size, upd H1 s1.heap.objs.size (.tup xs), I1.laid (t' := s1.toks) (fun b u e => Heap.get?_push_of_some _ e) (Nat.le_refl _) ?_, rfl, q _ hf⟩
  exact ⟨z, us, r, ⟨_, Heap.get?_push_size _ rfl, rfl, _, rfl⟩⟩
theorem pe_lst (h : PA X es t) : PE X (.List es pos) (tLst t) := by
  intro pins s σ H Q I hq
  refine wpAny_List_spliced (thn (h pos pins s σ H _ I hq) fun us s1 ⟨xs, H1, I1, r, z, q⟩ => ⟨by rw [← r.length]; exact z, ?_⟩)
  have hf : H1 s1.heap.objs.size = none := I1.hok.fresh (Nat.le_refl _)
  refine ⟨.ref s1.heap.objs.size, upd H1 s1.heap.objs.size (.lst xs), I1.laid (t' := s1.toks) (fun b u e => Heap.get?_push_of_some _ e) (Nat.le_refl _) ?_, rfl, q _ hf⟩
  exact ⟨z, us, 0, r, Heap.get?_push_size _ rfl⟩
end

noncomputable abbrev Sp := List V → Hp → VK → XK → Prop
noncomputable abbrev CXT := List Env → Hp → Shared → XK → Value → Shared → Prop

structure Env0 (P : Program) (w : World) (K : PySem.W.Frag) (mg : Str → Option Value) (base : Heap) (A : Around) (outer : List Env) (s : Shared) (H : Hp) : Prop where
  frames : A.frames = some outer
  mod : Mod K mg base
  bs : ∀ b o, base.get? b = some o → s.heap.get? b = some o ∧ H b = none
  bsz : base.objs.size ≤ s.heap.objs.size
  funs : s.heap.FunFrames base outer
  frf : ∀ b ∈ frs outer, H b = none
  hok : HOk P w H s.heap
  bare : AllBare s.gens
noncomputable def CE (outer : List Env) (P : Program) (w : World) (H : Hp) (s : Shared) (Q : VK) (u : Value) (s' : Shared) : Prop :=
  ∃ v H', s'.os = s.os ∧ AllBare s'.gens ∧ Un (frs outer) [] H H' s.heap s'.heap ∧ HOk P w H' s'.heap ∧ RelV v u ∧ Q v H'
noncomputable def CR (CX : CXT) (outer : List Env) (P : Program) (w : World) (H : Hp) (s : Shared) (Q : VK) (E : XK) (r : Result) (s' : Shared) : Prop :=
  match r with
  | .ok (.ret u) => CE outer P w H s Q u s'
  | .ok _ => False
  | .error e => CX outer H s E e s'
structure FnOk (P : Program) (w : World) (K : PySem.W.Frag) (mg : Str → Option Value) (base : Heap) (CX : CXT) (k : Nat) (f : Addr) (fd : FuncData) (ps : List Str) (sp : Sp) : Prop where
  len : ∀ vs H Q E, sp vs H Q E → vs.length = ps.length
  run : ∀ (A : Around) (outer : List Env) (s : Shared) (H : Hp) (args : Args) (us : List Value) (vs : List V) (Q : VK) (E : XK), Room k A → Env0 P w K mg base A outer s H → BindsTo s fd args (ps.zip us) → Vals vs us → sp vs H Q E →
    codeAny (model P w) A (.call (.ref f) args) (CR CX outer P w H s Q E) s
theorem FnOk.mono {P : Program} {w : World} {K : PySem.W.Frag} {mg : Str → Option Value} {base : Heap} {CX : CXT} {j k : Nat} {f : Addr} {fd : FuncData} {ps : List Str} {sp : Sp} (F : FnOk P w K mg base CX j f fd ps sp) (h : j ≤ k) :
    FnOk P w K mg base CX k f fd ps sp := ⟨F.len, fun A outer s H args us vs Q E hr => F.run A outer s H args us vs Q E (hr.mono h)⟩
theorem Env0.make {P : Program} {w : World} {K : PySem.W.Frag} {mg : Str → Option Value} {base : Heap} {A : Around} {outer : List Env} {s : Shared} {H : Hp} (e : Env0 P w K mg base A outer s H) (C : Addr) (us : List Value) (kw : List (Str × Value)) :
    Env0 P w K mg base (A.under (.builtin "type.__call__" ⟨.ref C :: us, kw⟩)) outer s H := ⟨by first | exact e.frames | (simpa [Around.under, Code.envs, Code.isFrame, pushEnvs] using e.frames), e.mod, e.bs, e.bsz, e.funs, e.frf, e.hok, e.bare⟩
section
variable {X : Cx} {pins : List (Addr × Obj)} {σ : St} {H : Hp} {s s' : Shared}
theorem Inv.env0 (I : Inv X pins σ H s) : Env0 X.prog X.w X.K X.mg X.base X.A X.stack s H :=
  ⟨I.ok.frames, I.ok.mod, I.bs, Nat.le_trans I.ok.bsz I.sz, I.stack, I.stkFree, I.hok, I.bare⟩
theorem Inv.after {Q : VK} {u : Value} (I : Inv X pins σ H s) (h : CE X.stack X.prog X.w H s Q u s') : EP X pins σ Q u s' := by
  obtain ⟨v, H', os, bare, un, hok, r, q⟩ := h
  obtain ⟨hh, g, d, t, os'⟩ := s'
  obtain rfl : os' = s.os := os
  exact ⟨v, H', I.call (h' := hh) (g' := g) (d' := d) (t' := t) (ch := []) un hok bare (fun b z => absurd z (by simp)), r, q⟩
end

noncomputable def tCall (sp : Sp) (dvs : List V) (E : XK) (t : TA) : TE := fun σ H Q => t σ H fun vs H1 => sp (vs ++ dvs) H1 Q E
noncomputable def tMeth (C : Addr) (m : Str) (sp : Sp) (dvs : List V) (E : XK) (ta : TE) (t : TA) : TE := fun σ H Q => ta σ H fun x H1 => ∃ a dx fs, x = .ref a ∧ H1 a = some (.ins C dx fs) ∧ fs.lookup m = none ∧
  t σ H1 fun vs H2 => sp (x :: (vs ++ dvs)) H2 Q E
noncomputable def tMake (C : Addr) (sp : Sp) (dvs : List V) (E : XK) (t : TA) : TE := fun σ H Q => t σ H fun vs H1 => ∀ x dx, H1 x = none → H1 dx = none → dx ≠ x →
  sp (.ref x :: (vs ++ dvs)) (upd (upd H1 dx (.own x)) x (.ins C dx [])) (fun v H2 => v = .non ∧ Q (.ref x) H2) E

noncomputable def Binds (K : PySem.W.Frag) (fd : FuncData) (ps : List Str) (ds : List Value) : Prop :=
  ∀ (s : Shared) (us : List Value), K.In s.heap → (us ++ ds).length = ps.length → BindsTo s fd ⟨us, []⟩ (ps.zip (us ++ ds))
theorem Binds.all {K : PySem.W.Frag} {fd : FuncData} {ps : List Str} (h : ∀ us : List Value, us.length = ps.length → bindArgs fd ⟨us, []⟩ = pure (ps.zip us)) : Binds K fd ps [] := fun s us _ hl => by
  rw [List.append_nil] at hl ⊢
  exact .of_eq (h us hl)

noncomputable def Passes (CX : CXT) (X : Cx) (E : XK) : Prop := ∀ (pins : List (Addr × Obj)) (σ : St) (H : Hp) (s : Shared) (e : Value) (s' : Shared), Inv X pins σ H s → CX X.stack H s E e s' → X.xe e s'

section
variable {X : Cx} {CX : CXT} {k : Nat} {f C : Addr} {fd : FuncData} {ps : List Str} {sp : Sp} {dvs : List V} {ds : List Value} {E : XK} {x m : Str} {p pos apos : Pos} {e o : Expr} {es : List Expr} {ta : TE} {t : TA}

theorem run_fn {pins : List (Addr × Obj)} {σ : St} {H : Hp} {s : Shared} {Q : VK} {us : List Value} {vs : List V} (F : FnOk X.prog X.w X.K X.mg X.base CX k f fd ps sp) (hr : Room k X.A) (hb : Binds X.K fd ps ds) (hd : Vals dvs ds) (hx : Passes CX X E)
    (I : Inv X pins σ H s) (r : Vals vs us) (h : sp (vs ++ dvs) H Q E) : wpAny (model X.prog X.w) X.A (call (.ref f) us) (EP X pins σ Q) X.xe s := by
  have r2 : Vals (vs ++ dvs) (us ++ ds) := r.append hd
  have hl : (us ++ ds).length = ps.length := by rw [← r2.length]; exact F.len _ _ _ _ h
  refine wpAny_call (codeAny_mono (F.run X.A X.stack s H ⟨us, []⟩ (us ++ ds) (vs ++ dvs) Q E hr I.env0 (hb s us I.kIn hl) r2 h) fun r s' hq => ?_)
  cases r with
  | error e => exact hx pins σ H s e s' I hq
  | ok fl =>
    cases fl with
    | ret u => exact I.after hq
    | next => exact False.elim hq
    | brk => exact False.elim hq
    | cont => exact False.elim hq

theorem pe_call (F : FnOk X.prog X.w X.K X.mg X.base CX k f fd ps sp) (hr : Room k X.A) (hg : Gl X x) (hm : X.mg x = some (.ref f)) (hk : PySem.W.keepIn X.K (.ref f) = true) (hb : Binds X.K fd ps ds) (hd : Vals dvs ds) (hx : Passes CX X E)
    (ha : PA X (e :: es) t) (hdb : (x == ("__debug__" : Str)) = false := by decide) (he : starEach (e :: es) X.env = (false, eval e X.env) :: starEach es X.env := by rfl) (hpl : (backTo pos (starEach es X.env)).any (·.1) = false := by rfl) :
    PE X (.Call (.Name x p) (e :: es) [] pos) (tCall sp dvs E t) := by
  intro pins s σ H Q I h
  refine wpAny_Call_Name_kw (ld_glob I hg hm ?_ hdb)
  refine PySem.W.callWith_K (h₀ := X.base) I.ok.mod.kin hk (thn (ha pos pins s σ H _ I h) fun us s1 ⟨vs, H1, I1, r, q⟩ => ⟨I1.kIn, ?_⟩) he hpl
  exact run_fn F hr hb hd hx I1 r q
theorem pe_meth {pl : Sem Bool} (he : PE X o ta) (c : Cls X.K C) (hm : Meth X.K C m f) (F : FnOk X.prog X.w X.K X.mg X.base CX k f fd ps sp) (hr : Room k X.A) (hb : Binds X.K fd ps ds) (hd : Vals dvs ds) (hx : Passes CX X E) (ha : PA X (e :: es) t)
    (hst : starEach (e :: es) X.env = (false, eval e X.env) :: starEach es X.env := by rfl) (hpl : (backTo pos (starEach es X.env)).any (·.1) = false := by rfl)
    (ht : eval (.Call (.Attribute o m apos) (e :: es) [] pos) X.env = (do
      let ov ← eval o X.env
      standAt apos.atName
      let (f, first) ← holding [ov] (getMethod ov m pl)
      callWith pos f first (backTo pos (starEach (e :: es) X.env)) (backToKw pos (keywordEach [] X.env))) := by rfl) :
    PE X (.Call (.Attribute o m apos) (e :: es) [] pos) (tMeth C m sp dvs E ta t) := by
  intro pins s σ H Q I h
  refine PySem.W.methodCall_KW (pl := pl) (thn (he pins s σ H _ I h) fun u s1 ⟨x, H1, I1, rx, a, dx, fs, ex, ea, l, q⟩ => ?_) ht
  subst ex
  obtain rfl : u = Value.ref a := rx
  refine getmeth_ok I1 ea c hm l ?_
  refine PySem.W.callWith_K (first := [.ref a]) (h₀ := X.base) I.ok.mod.kin hm.kp (thn (ha pos pins s1 σ H1 _ I1 q) fun us s2 ⟨vs, H2, I2, r, q2⟩ => ⟨I2.kIn, ?_⟩) hst hpl
  exact run_fn (us := .ref a :: us) (vs := .ref a :: vs) F hr hb hd hx I2 (.cons rfl r) q2
theorem pe_meth0 {pl : Sem Bool} (he : PE X o ta) (c : Cls X.K C) (hm : Meth X.K C m f) (F : FnOk X.prog X.w X.K X.mg X.base CX k f fd ps sp) (hr : Room k X.A) (hb : Binds X.K fd ps ds) (hd : Vals dvs ds) (hx : Passes CX X E)
    (ht : eval (.Call (.Attribute o m apos) [] [] pos) X.env = (do
      let ov ← eval o X.env
      standAt apos.atName
      let (f, first) ← holding [ov] (getMethod ov m pl)
      callWith pos f first (backTo pos (starEach [] X.env)) (backToKw pos (keywordEach [] X.env))) := by rfl) :
    PE X (.Call (.Attribute o m apos) [] [] pos) (tMeth C m sp dvs E ta tNil) := by
  intro pins s σ H Q I h
  refine PySem.W.methodCall_KW (pl := pl) (thn (he pins s σ H _ I h) fun u s1 ⟨x, H1, I1, rx, a, dx, fs, ex, ea, l, q⟩ => ?_) ht
  subst ex
  obtain rfl : u = Value.ref a := rx
  refine getmeth_ok I1 ea c hm l ?_
  exact PySem.W.callWith_K0 (first := [.ref a]) I1.kIn hm.kp (run_fn (us := [.ref a]) (vs := [.ref a]) F hr hb hd hx I1 (.cons rfl .nil) q)

structure Mk (K : PySem.W.Frag) (C f : Addr) : Prop where
  makes : PySem.W.makesIn K C = true
  init : PySem.W.findIn K (.ref C) "__init__" = some (some (.ref f))
  fn : PySem.W.isFn K (.ref f) = true
  kp : PySem.W.keepIn K (.ref C) = true

theorem run_make {pins : List (Addr × Obj)} {σ : St} {H : Hp} {s : Shared} {Q : VK} {us : List Value} {vs : List V} (M : Mk X.K C f) (F : FnOk X.prog X.w X.K X.mg X.base CX k f fd ps sp) (hr : Room (k + 1) X.A) (hb : Binds X.K fd ps ds) (hd : Vals dvs ds)
    (hx : Passes CX X E) (I : Inv X pins σ H s) (r : Vals vs us)
    (h : ∀ x dx, H x = none → H dx = none → dx ≠ x → sp (.ref x :: (vs ++ dvs)) (upd (upd H dx (.own x)) x (.ins C dx [])) (fun v H2 => v = .non ∧ Q (.ref x) H2) E) :
    wpAny (model X.prog X.w) X.A (call (.ref C) us) (EP X pins σ Q) X.xe s := by
  have hq := h (s.heap.objs.size + 1) s.heap.objs.size (I.hok.fresh (Nat.le_succ _)) (I.hok.fresh (Nat.le_refl _)) (Nat.ne_of_lt (Nat.lt_succ_self _))
  have I2 := Inv.made (C := C) I
  have r2 : Vals (V.ref (s.heap.objs.size + 1) :: (vs ++ dvs)) (Value.ref (s.heap.objs.size + 1) :: (us ++ ds)) := .cons rfl (r.append hd)
  have hl : (Value.ref (s.heap.objs.size + 1) :: us ++ ds).length = ps.length := by
    have e := r2.length
    rw [F.len _ _ _ _ hq] at e
    exact e.symm
  refine wpAny_call (make_map (f := f) I.kIn M.makes M.init (beq_iff_eq.mp M.fn) (codeAny_mono (F.run _ X.stack _ _ ⟨Value.ref (s.heap.objs.size + 1) :: us, []⟩ (Value.ref (s.heap.objs.size + 1) :: (us ++ ds)) _ _ E (hr.make C us [])
    (I2.env0.make C us []) (hb _ (Value.ref (s.heap.objs.size + 1) :: us) I2.kIn hl) r2 hq) fun r s' hq' => ?_))
  cases r with
  | error e => exact hx pins σ _ _ e s' I2 hq'
  | ok fl =>
    cases fl with
    | ret u =>
      obtain ⟨v, H', I3, rv, ev, q3⟩ := I2.after hq'
      subst ev
      exact ⟨rv, ⟨V.ref (s.heap.objs.size + 1), H', I3, rfl, q3⟩⟩
    | next => exact False.elim hq'
    | brk => exact False.elim hq'
    | cont => exact False.elim hq'
theorem pe_make (M : Mk X.K C f) (F : FnOk X.prog X.w X.K X.mg X.base CX k f fd ps sp) (hr : Room (k + 1) X.A) (hg : Gl X x) (hm : X.mg x = some (.ref C)) (hb : Binds X.K fd ps ds) (hd : Vals dvs ds) (hx : Passes CX X E)
    (ha : PA X (e :: es) t) (hdb : (x == ("__debug__" : Str)) = false := by decide) (he : starEach (e :: es) X.env = (false, eval e X.env) :: starEach es X.env := by rfl) (hpl : (backTo pos (starEach es X.env)).any (·.1) = false := by rfl) :
    PE X (.Call (.Name x p) (e :: es) [] pos) (tMake C sp dvs E t) := by
  intro pins s σ H Q I h
  refine wpAny_Call_Name_kw (ld_glob I hg hm ?_ hdb)
  refine PySem.W.callWith_K (h₀ := X.base) I.ok.mod.kin M.kp (thn (ha pos pins s σ H _ I h) fun us s1 ⟨vs, H1, I1, r, q⟩ => ⟨I1.kIn, ?_⟩) he hpl
  exact run_make M F hr hb hd hx I1 r q
theorem pe_make0 (M : Mk X.K C f) (F : FnOk X.prog X.w X.K X.mg X.base CX k f fd ps sp) (hr : Room (k + 1) X.A) (hg : Gl X x) (hm : X.mg x = some (.ref C)) (hb : Binds X.K fd ps ds) (hd : Vals dvs ds) (hx : Passes CX X E)
    (hdb : (x == ("__debug__" : Str)) = false := by decide) : PE X (.Call (.Name x p) [] [] pos) (tMake C sp dvs E tNil) := by
  intro pins s σ H Q I h
  refine wpAny_Call_Name_kw (ld_glob I hg hm ?_ hdb)
  exact PySem.W.callWith_K0 I.kIn M.kp (run_make (us := []) M F hr hb hd hx I .nil h)
end

section
variable {X : Cx} {CX : CXT} {k : Nat} {f C : Addr} {fd : FuncData} {ps ks : List Str} {sp : Sp} {E : XK} {x m : Str} {p pos apos kpos : Pos} {e o : Expr} {es : List Expr} {kws : List Keyword} {te ta : TE} {t tk : TA} {nm : Option Str}
variable {g : List Value → List Value → List Value} {gV : List V → List V → List V}
end

structure FnScope (N P : List Str) (sc : Scope) : Prop where
  kind : sc.kind = .function
  co : sc.isCoroutine = false
  gen : sc.isGenerator = false
  nd : N.Nodup
  pre : N.take P.length = P
  par : ∀ x ∈ P, sc.names.lookup x = some .local ∨ sc.names.lookup x = some .cell
  nofree : ∀ y ∈ sc.names, y.2 ≠ .free

theorem bindL_out {kindOf : Str → Option NameKind} {x : Str} : ∀ {binds : List (Str × Value)} {m : Str → Option Value}, (∀ v, (x, v) ∉ binds) → bindL kindOf binds m x = m x
  | [], _, _ => rfl
  | (n, v) :: r, m, h => by
    unfold bindL
    rw [bindL_out fun w hw => h w (List.mem_cons_of_mem _ hw)]
    split
    · have : x ≠ n := by rintro rfl; exact h v List.mem_cons_self
      simp [this]
    · rfl
theorem bindC_out {kindOf : Str → Option NameKind} {x : Str} : ∀ {binds : List (Str × Value)} {m : Str → Option Value}, (∀ v, (x, v) ∉ binds) → bindC kindOf binds m x = m x
  | [], _, _ => rfl
  | (n, v) :: r, m, h => by
    unfold bindC
    rw [bindC_out fun w hw => h w (List.mem_cons_of_mem _ hw)]
    split
    · rfl
    · have : x ≠ n := by rintro rfl; exact h v List.mem_cons_self
      simp [this]
theorem bindL_get {kindOf : Str → Option NameKind} {x : Str} {v : Value} : ∀ {P : List Str} {vs : List Value} {i : Nat} {m : Str → Option Value}, P.Nodup → P[i]? = some x → vs[i]? = some v → kindOf x = some .local →
    bindL kindOf (P.zip vs) m x = some v
  | [], _, _, _, _, h, _, _ => by simp at h
  | _ :: _, [], _, _, _, _, h, _ => by simp at h
  | p :: P, w :: vs, 0, m, nd, h1, h2, hk => by
    simp at h1 h2; subst h1; subst h2
    show bindL kindOf ((p, w) :: P.zip vs) m p = _
    unfold bindL
    rw [bindL_out fun v hv => (List.nodup_cons.mp nd).1 (List.of_mem_zip hv).1, if_pos hk]
    simp
  | p :: P, w :: vs, i + 1, m, nd, h1, h2, hk => by
    show bindL kindOf ((p, w) :: P.zip vs) m x = _
    unfold bindL
    exact bindL_get (i := i) (List.nodup_cons.mp nd).2 (by simpa using h1) (by simpa using h2) hk
theorem bindC_get {kindOf : Str → Option NameKind} {x : Str} {v : Value} : ∀ {P : List Str} {vs : List Value} {i : Nat} {m : Str → Option Value}, P.Nodup → P[i]? = some x → vs[i]? = some v → kindOf x ≠ some .local →
    bindC kindOf (P.zip vs) m x = some v
  | [], _, _, _, _, h, _, _ => by simp at h
  | _ :: _, [], _, _, _, _, h, _ => by simp at h
  | p :: P, w :: vs, 0, m, nd, h1, h2, hk => by
    simp at h1 h2; subst h1; subst h2
    show bindC kindOf ((p, w) :: P.zip vs) m p = _
    unfold bindC
    rw [bindC_out fun v hv => (List.nodup_cons.mp nd).1 (List.of_mem_zip hv).1, if_neg hk]
    simp
  | p :: P, w :: vs, i + 1, m, nd, h1, h2, hk => by
    show bindC kindOf ((p, w) :: P.zip vs) m x = _
    unfold bindC
    exact bindC_get (i := i) (List.nodup_cons.mp nd).2 (by simpa using h1) (by simpa using h2) hk

noncomputable def start (N : List Str) (vs : List V) : St := vs.map some ++ List.replicate (N.length - vs.length) none

noncomputable def cxOf (CX : CXT) (P : Program) (w : World) (K : PySem.W.Frag) (mg : Str → Option Value) (base : Heap) (N : List Str) (qual : Str) (scope : Scope) (f : Addr) (cd : Value) (A : Around) (outer : List Env) (s : Shared) (H : Hp) (E : XK) : Cx where
  prog := P
  w := w
  K := K
  mg := mg
  base := base
  A := A.deeper (envOfC qual scope s.heap.objs.size f cd)
  N := N
  s₀ := s
  H₀ := H
  env := envOfC qual scope s.heap.objs.size f cd
  outer := outer
  stack := envOfC qual scope s.heap.objs.size f cd :: outer
  ex := []
  calm := true
  fn := fun _ => true
  pn := []
  xe := fun e s' => wpAny (model P w) (A.deeper (envOfC qual scope s.heap.objs.size f cd)) (leaving (envOfC qual scope s.heap.objs.size f cd) e) (fun _ s'' => CX outer H s E e s'') (fun e' s'' => CX outer H s E e' s'') s'

theorem cell_has {sc : Scope} {n : Nat} {x : Str} (h : sc.names.lookup x = some .cell) : ∃ c, (cellsFrom n sc.names []).lookup x = some c := by
  have q := PySem.W.cellsFrom_some sc.names n [] (.inl h)
  exact Option.isSome_iff_exists.mp q

theorem inv_start {CX : CXT} {P : Program} {w : World} {K : PySem.W.Frag} {mg : Str → Option Value} {base : Heap} {N ps : List Str} {qual : Str} {scope : Scope} {f : Addr} {cd : Value} {A : Around} {outer : List Env} {s s1 : Shared} {H : Hp} {E : XK} {us : List Value} {vs : List V}
    (S : FnScope N ps scope) (hd : A.handled = none) (e0 : Env0 P w K mg base A outer s H) (hl : vs.length = ps.length) (r : Vals vs us)
    (x : InCallC s s.heap.objs.size (bindL (envOfC qual scope s.heap.objs.size f cd).kindOf (ps.zip us) fun _ => none) (cellsFrom (s.heap.objs.size + 1) scope.names []) (bindC (envOfC qual scope s.heap.objs.size f cd).kindOf (ps.zip us) fun _ => none) s1) :
    Inv (cxOf CX P w K mg base N qual scope f cd A outer s H E) [] (start N vs) H s1 := by
  have hpl : ps.length ≤ N.length := by have := congrArg List.length S.pre; rw [List.length_take] at this; (first | lia | omega)
  obtain ⟨h1, tk, rfl, hk⟩ := x.done
  have noA : ∀ b : Addr, b ∉ (cxOf CX P w K mg base N qual scope f cd A outer s H E).ex := fun b z => absurd (show b ∈ ([] : List Addr) from z) (by simp)
  refine ⟨⟨e0.mod, S.kind, rfl, rfl, Nat.le_refl _, fun y z c h1 h2 => ?_, fun y hy => ?_, fun y c _ h => ?_, fun _ => hd, Around.frames_deeper e0.frames, .inr ⟨rfl, rfl⟩, fun b z => absurd z (noA b), e0.bs, e0.bsz, fun b _ _ => noA b, fun b z => absurd z (noA b), e0.funs, e0.frf⟩,
    rfl, e0.bare, Un.kept hk, ⟨_, x.toInCall.ns, fun i y v h1 h2 h3 => ?_⟩, fun y c h => ⟨_, x.cell y c h⟩, e0.hok.fresh (Nat.le_refl _), fun y c h => ?_, fun p hp => absurd (show p ∈ ([] : List (Addr × Obj)) from hp) (by simp), e0.hok.kept hk, ?_⟩
  · exact name_of_addr x.apart (PySem.mem_of_lookup h1) (PySem.mem_of_lookup h2)
  · have hy : scope.names.lookup y = some .cell ∨ scope.names.lookup y = some .free := hy
    rcases hy with hy | hy
    · exact cell_has hy
    · exact absurd rfl (S.nofree _ (PySem.mem_of_lookup hy))
  · exact Nat.le_of_lt (x.above y c (PySem.mem_of_lookup h))
  · have hi : i < vs.length := by
      unfold start at h2
      by_cases hi : i < vs.length
      · exact hi
      · rw [List.getElem?_append_right (by simpa using hi)] at h2
        rw [List.getElem?_replicate] at h2
        split at h2 <;> cases h2
    have ha : vs[i]? = some v := by
      unfold start at h2
      rw [List.getElem?_append_left (by simpa using hi), List.getElem?_map] at h2
      cases e : vs[i]? with
      | none => rw [e] at h2; cases h2
      | some a => rw [e] at h2; cases h2; rfl
    obtain ⟨u, hu, rv⟩ := r.get ha
    have hp : ps[i]? = some y := by
      rw [← S.pre, List.getElem?_take_of_lt (by (first | lia | omega))]; exact h1
    have ndP : ps.Nodup := by rw [← S.pre]; exact S.nd.sublist (List.take_sublist _ _)
    refine ⟨u, rv, ?_⟩
    rcases S.par y (List.mem_of_getElem? hp) with k | k
    · exact .inl ⟨k, bindL_get ndP hp hu k⟩
    · obtain ⟨c, e⟩ := cell_has (n := s.heap.objs.size + 1) k
      refine .inr ⟨.inl k, c, e, ?_⟩
      have q := x.cell y c e
      rw [bindC_get ndP hp hu (by show scope.names.lookup y ≠ _; rw [k]; decide)] at q
      exact q
  · exact e0.hok.fresh (Nat.le_of_lt (x.above y c (PySem.mem_of_lookup h)))
  · unfold start
    show _ = N.length
    rw [List.length_append, List.length_map, List.length_replicate]
    (first | lia | omega)

theorem fn_of {CX : CXT} {P : Program} {w : World} {K : PySem.W.Frag} {mg : Str → Option Value} {base : Heap} {k : Nat} {f : Addr} {name qual : Str} {params : Arguments} {body : List Stmt} {scope : Scope} {dV kV doc pm cdv ct oc : Value} {an od : Option Addr}
    {osl : Array (Option Value)} {N ps : List Str} {sp : Sp} (lk : K.lookup f = some ⟨oc, od, .func (PySem.W.fnOf name qual params body scope dV kV doc pm an cdv ct), osl⟩) (hcd : PySem.W.codeIn K cdv qual = true) (S : FnScope N ps scope)
    (len : ∀ vs H Q E, sp vs H Q E → vs.length = ps.length)
    (hbody : ∀ (A : Around) (outer : List Env) (s : Shared) (H : Hp) (vs : List V) (Q : VK) (E : XK), Room k (A.deeper (envOfC qual scope s.heap.objs.size f cdv)) → sp vs H Q E →
      ∃ t, PSs (cxOf CX P w K mg base N qual scope f cdv A outer s H E) body t ∧ t { nx := fun _ H' => Q .non H', rt := Q } (start N vs) H) :
    FnOk P w K mg base CX (k + 1) f (PySem.W.fnOf name qual params body scope dV kV doc pm an cdv ct) ps sp := by
  refine ⟨len, fun A outer s H args us vs Q E hr e0 hb r hsp => ?_⟩
  have hl := len _ _ _ _ hsp
  have KX : K.In s.heap := e0.mod.kin.keeps fun b o e => (e0.bs b o e).1
  have lim : s.heap.NoLimit := e0.mod.nolimit.keeps fun b o e => (e0.bs b o e).1
  have hkind : ∀ y ∈ ps.zip us, scope.names.lookup y.1 = some .local ∨ (scope.names.lookup y.1 = some .cell ∧ ((cellsFrom (s.heap.objs.size + 1) scope.names []).lookup y.1).isSome = true) := fun ⟨n, v⟩ hy => by
    rcases S.par n (List.of_mem_zip hy).1 with q | q
    · exact .inl q
    · exact .inr ⟨q, PySem.W.cellsFrom_some _ _ _ (.inl q)⟩
  refine codeAny_call_function hr.depth (KX _ _ lk) rfl S.co S.gen rfl (PySem.W.codeRec_of KX hcd) (hb _ _ _ _ ?_)
  refine wpAny_newFunctionEnv_cells S.kind hkind fun env he s1 x => ?_
  subst he
  refine ⟨lim.keeps x.toInCall.keep, codeAny_func ?_⟩
  obtain ⟨t, ht, hq⟩ := hbody A outer s H vs Q E (hr.deeper _) hsp
  have I : Inv (cxOf CX P w K mg base N qual scope f cdv A outer s H E) [] (start N vs) H s1 := inv_start S hr.hd e0 hl r x
  refine wpAny_mono (ht [] s1 (start N vs) H _ I hq) (fun fl s' hs => ?_) fun e s' hs => hs
  have fin : ∀ {σ' : St} {H' : Hp} {v : V} {u : Value}, Inv (cxOf CX P w K mg base N qual scope f cdv A outer s H E) [] σ' H' s' → RelV v u → Q v H' → CE outer P w H s Q u s' :=
    fun {σ' H' v u} J rv q => ⟨v, H', J.os, J.bare, J.base, J.hok, rv, q⟩
  cases fl with
  | ret u =>
    obtain ⟨v, σ', H', J, rv, q⟩ := hs
    exact fin J rv q
  | next =>
    obtain ⟨σ', H', J, q⟩ := hs
    exact fin (v := V.non) (u := Value.none) J rfl q
  | brk =>
    obtain ⟨_, _, _, q⟩ := hs
    exact False.elim q
  | cont =>
    obtain ⟨_, _, _, q⟩ := hs
    exact False.elim q
end L2

namespace L2
open PySem PySem.Spec PyProof.Rows
section
variable {X : Cx} {x : Str} {p pos : Pos} {e : Expr} {es : List Expr} {t : TA} {id T : String} {r : List V → Hp → VK → Prop}

noncomputable def tCB (r : List V → Hp → VK → Prop) (t : TA) : TE := fun σ H Q => t σ H fun vs H1 => r vs H1 Q
theorem pe_callB (hc : CallR X (.builtin id) r) (hg : Gl X x) (hm : X.mg x = none) (hv : bootBuiltins x = some (.builtin id)) (ha : PA X (e :: es) t) (hn : x ≠ "__name__" := by decide) (hdb : (x == ("__debug__" : Str)) = false := by decide)
    (he : starEach (e :: es) X.env = (false, eval e X.env) :: starEach es X.env := by rfl) (hpl : (backTo pos (starEach es X.env)).any (·.1) = false := by rfl) : PE X (.Call (.Name x p) (e :: es) [] pos) (tCB r t) := by
  intro pins s σ H Q I h
  refine wpAny_Call_Name_kw (ld_blt I hg hm hv ?_ hn hdb)
  exact PyProof.Rows.callWith_builtin1 (thn (ha pos pins s σ H _ I h) fun us s1 ⟨vs, H1, I1, r1, q1⟩ => hc pins s1 σ H1 vs us Q I1 r1 q1) he hpl
theorem pe_callTy (hc : CallR X (.type T) r) (hg : Gl X x) (hm : X.mg x = none) (hv : bootBuiltins x = some (.type T)) (ha : PA X (e :: es) t) (hn : x ≠ "__name__" := by decide) (hdb : (x == ("__debug__" : Str)) = false := by decide)
    (he : starEach (e :: es) X.env = (false, eval e X.env) :: starEach es X.env := by rfl) (hpl : (backTo pos (starEach es X.env)).any (·.1) = false := by rfl) : PE X (.Call (.Name x p) (e :: es) [] pos) (tCB r t) := by
  intro pins s σ H Q I h
  refine wpAny_Call_Name_kw (ld_blt I hg hm hv ?_ hn hdb)
  exact PyProof.Rows.callWith_type1 (thn (ha pos pins s σ H _ I h) fun us s1 ⟨vs, H1, I1, r1, q1⟩ => hc pins s1 σ H1 vs us Q I1 r1 q1) he hpl
end
end L2

namespace HT
open PySem PyProof.Rows

section
open PySem.SeqAt
open PySem.AutoSeq1 (wpAny_loadPart')
open PySem.MeetsSeq PySem.MeetsSeq2 PySem.MeetsSeq3

end

section
variable {prog : Program} {w : World} {A : Around} {E : Value → Shared → Prop} {s : Shared}

theorem cat_tup {t b : Addr} {vs ws : List Value} {Q : Value → Shared → Prop} (ht : IsTup s.heap t vs.toArray) (hb : IsTup s.heap b ws.toArray) (hv : vs ≠ [])
    (h1 : ws = [] → Q (.ref t) s) (h2 : ws ≠ [] → Q (.ref s.heap.objs.size) { s with heap := s.heap.push { cls := .type "tuple", data := .seq (vs ++ ws).toArray } })
    (hsz : vs.length + ws.length ≤ sizeLine) : wpAny (model prog w) A (binaryOp .Add (.ref t) (.ref b)) Q E s := by
  obtain ⟨⟨cls, dd, data, sl⟩, ho, hc, n, hd⟩ := id ht
  obtain ⟨⟨cls2, dd2, data2, sl2⟩, ho2, hc2, n2, hd2⟩ := id hb
  simp only at hc hd hc2 hd2
  subst hc hd hc2 hd2
  have e : vs.toArray ++ ws.toArray = (vs ++ ws).toArray := by simp
  by_cases hw : ws = []
  · exact concat_meets ⟨_, ho, rfl⟩ ⟨_, ho2, rfl⟩ noFill_tuple_add seq_tuple_add PySem.F.slot_tuple_add PySem.F.entry_tuple_add (PySem.F.args_tuple_add_2 _ _)
      (tuple_addW1 t b vs.toArray ws.toArray n n2 dd dd2 sl sl2 (by simpa using hv) (by simp [hw])) ⟨ho, ho2, h1 hw⟩
  · refine concat_meets ⟨_, ho, rfl⟩ ⟨_, ho2, rfl⟩ noFill_tuple_add seq_tuple_add PySem.F.slot_tuple_add PySem.F.entry_tuple_add (PySem.F.args_tuple_add_2 _ _)
      (tuple_addW2 t b vs.toArray ws.toArray n n2 dd dd2 sl sl2 (by simpa using hv) (by simpa using hw) (by rw [List.size_toArray, List.size_toArray]; exact hsz)) ⟨ho, ho2, ?_⟩
    rw [e]
    exact h2 hw

noncomputable def sIx (n d : Nat) : Option Int → Nat
  | none => d
  | some v => if v < 0 then (v + (n : Int)).toNat else min v.toNat n
theorem sIx_nat (n d k : Nat) : sIx n d (some (k : Int)) = min k n := by
  show (if (k : Int) < 0 then ((k : Int) + (n : Int)).toNat else min (k : Int).toNat n) = min k n
  rw [if_neg (by (first | lia | omega)), Int.toNat_natCast]
theorem sIx_le (n d : Nat) (hd : d ≤ n) (o : Option Int) : sIx n d o ≤ n := by
  cases o with
  | none => exact hd
  | some v =>
    show (if v < 0 then (v + (n : Int)).toNat else min v.toNat n) ≤ n
    by_cases hv : v < 0
    · rw [if_pos hv]; (first | lia | omega)
    · rw [if_neg hv]; exact Nat.min_le_right _ _
theorem clip_eq (v : Int) (n d : Nat) : (if v < 0 then max (v + (n : Int)) 0 else min v (n : Int)) = ((sIx n d (some v) : Nat) : Int) := by
  show (if v < 0 then max (v + (n : Int)) 0 else min v (n : Int)) = (((if v < 0 then (v + (n : Int)).toNat else min v.toNat n) : Nat) : Int)
  by_cases hv : v < 0
  · simp only [if_pos hv]; (first | lia | omega)
  · simp only [if_neg hv]; (first | lia | omega)
theorem adjust_gen (lo hi : Option Int) (n : Nat) : Builtin.Slice.sliceAdjust lo hi 1 (n : Int) = (((sIx n 0 lo : Nat) : Int), ((sIx n n hi : Nat) : Int)) := by
  have h1 : ¬ ((1 : Int) < 0) := by (first | lia | omega)
  unfold Builtin.Slice.sliceAdjust
  simp only [h1, if_false]
  refine Prod.ext ?_ ?_
  · cases lo with
    | none => rfl
    | some v => exact clip_eq v n 0
  · cases hi with
    | none => rfl
    | some v => exact clip_eq v n n
theorem places_gen (i j : Nat) : Builtin.Slice.slicePlaces (i : Int) (j : Int) 1 = j - i := by
  unfold Builtin.Slice.slicePlaces
  have h1 : (1 : Int) > 0 := by (first | lia | omega)
  simp only [h1, if_true, Int.ediv_one]
  split <;> (first | lia | omega)
theorem slicePart_ {v : Value} {o : Option Int} {Q : Option Int → Shared → Prop} (p : IsPart v o) (h : Q o s) : wpAny (model prog w) A (Builtin.Slice.slicePartIndex v) Q E s := by
  cases p with
  | none => exact slicePart_none h
  | int i t => exact slicePart_int h
theorem sliceApplied_gen {sl : Addr} {vl vu : Value} {lo hi : Option Int} {n : Nat} {Q : Int × Int × Nat → Shared → Prop} (hs : s.heap.IsSliceOf sl vl vu .none) (pl : IsPart vl lo) (pu : IsPart vu hi)
    (h : Q (((sIx n 0 lo : Nat) : Int), 1, sIx n n hi - sIx n 0 lo) s) : wpAny (model prog w) A (Builtin.Slice.sliceApplied (.ref sl) (pure (n : Int))) Q E s := by
  obtain ⟨os, hos, hcs, hds⟩ := id hs
  unfold Builtin.Slice.sliceApplied Builtin.Slice.sliceFields
  refine wpAny_bind (wpAny_bind (wpAny_field hos hds (x := vl) rfl (wpAny_bind (wpAny_field hos hds (x := vu) rfl (wpAny_bind (wpAny_field hos hds (x := .none) rfl (wpAny_pure ?_)))))))
  refine wpAny_bind (slicePart_none ?_)
  show wpAny _ _ (if ((1 : Int) == 0) = true then _ else _) _ _ s
  rw [if_neg (by decide)]
  refine wpAny_bind (slicePart_ pl (wpAny_bind (slicePart_ pu (wpAny_bind (wpAny_pure ?_)))))
  show wpAny _ _ (match Builtin.Slice.sliceAdjust lo hi 1 (n : Int) with | (lo, hi) => pure (lo, (1 : Int), Builtin.Slice.slicePlaces lo hi 1)) _ _ s
  rw [adjust_gen lo hi n]
  show wpAny _ _ (pure (((sIx n 0 lo : Nat) : Int), (1 : Int), Builtin.Slice.slicePlaces ((sIx n 0 lo : Nat) : Int) ((sIx n n hi : Nat) : Int) 1)) _ _ s
  rw [places_gen]
  exact wpAny_pure h
theorem pick_gen (xs : Array Value) (i k : Nat) : ((List.range k).filterMap fun (m : Nat) => xs[((i : Int) + (m : Int) * 1).toNat]?).toArray = ((xs.toList.drop i).take k).toArray := by
  have e : (fun (m : Nat) => xs[((i : Int) + (m : Int) * 1).toNat]?) = fun m => xs[i + m]? := by
    funext m
    have : ((i : Int) + (m : Int) * 1).toNat = i + m := by (first | lia | omega)
    rw [this]
  rw [e]
  have := pick_run xs i k
  rw [List.filterMap_map] at this
  have e2 : ((fun x => xs[x]?) ∘ fun x => i + x) = fun m => xs[i + m]? := rfl
  rw [e2] at this
  rw [this]

theorem getItem_tuple_cut {t sl : Addr} {items : Array Value} {vl vu : Value} {lo hi : Option Int} {Q : Value → Shared → Prop} (ht : IsTup s.heap t items) (hs : s.heap.IsSliceOf sl vl vu .none) (pl : IsPart vl lo) (pu : IsPart vu hi)
    (hw : ¬ (sIx items.size 0 lo = 0 ∧ sIx items.size items.size hi = items.size))
    (h : Q (.ref s.heap.objs.size) { s with heap := s.heap.push { cls := .type "tuple", data := .seq ((items.toList.drop (sIx items.size 0 lo)).take (sIx items.size items.size hi - sIx items.size 0 lo)).toArray } })
    (hsz : items.size ≤ sizeLine) : wpAny (model prog w) A (getItem (.ref t) (.ref sl)) Q E s := by
  have htake : sizeOk (.seq ((items.toList.drop (sIx items.size 0 lo)).take (sIx items.size items.size hi - sIx items.size 0 lo)).toArray) := by
    show ((items.toList.drop (sIx items.size 0 lo)).take (sIx items.size items.size hi - sIx items.size 0 lo)).toArray.size ≤ sizeLine
    rw [List.size_toArray, List.length_take, List.length_drop, Array.length_toList]
    (first | lia | omega)
  have hj : sIx items.size items.size hi ≤ items.size := sIx_le _ _ (Nat.le_refl _) hi
  obtain ⟨os, hos, hcs, hds⟩ := id hs
  have hTs : s.TypeIs (.ref sl) "slice" := ⟨os, hos, hcs⟩
  unfold getItem
  try with_reducible refine wpAny_holding ?_
  first | refine wpAny_bind (wpAny_pure ?_) | skip
  refine wpAny_bind (wpAny_sequenceKey ht.typeIs (by decide) ?_)
  refine wpAny_bind (wpAny_callSpecial?_slot (name := Str.ofString "__getitem__") ht.typeIs PyProof.Rows.slot_tuple_getitem
    (wpAny_call_entry PyProof.Rows.slot_tuple_getitem ht.typeIs entry_tuple_getitem ?_ (args_tuple_getitem _ _)))
  show wpAny _ _ (Builtin.Tuple.tupleItemsOf (.ref t) >>= _) _ _ s
  refine wpAny_bind (tupleItemsOf_ ht ?_)
  refine wpAny_bind (wpAny_typeOf hTs ?_)
  rw [if_pos (by decide)]
  refine wpAny_bind (sliceApplied_gen hs pl pu ?_)
  have hno : ¬ ((((sIx items.size 0 lo : Nat) : Int) == 0 && (1 : Int) == 1 && (sIx items.size items.size hi - sIx items.size 0 lo) == items.size) = true) := by
    intro q
    rw [Bool.and_eq_true, Bool.and_eq_true] at q
    have q1 : ((sIx items.size 0 lo : Nat) : Int) = 0 := eq_of_beq q.1.1
    have q2 : sIx items.size items.size hi - sIx items.size 0 lo = items.size := eq_of_beq q.2
    exact hw ⟨by (first | lia | omega), by (first | lia | omega)⟩
  show wpAny _ _ (if (((sIx items.size 0 lo : Nat) : Int) == 0 && (1 : Int) == 1 && (sIx items.size items.size hi - sIx items.size 0 lo) == items.size) = true then _ else _) _ _ s
  rw [if_neg hno, pick_gen]
  first
    | exact wpAny_bind (m := Builtin.Tuple.tupleExact _) (wpAny_newObj_type (wpAny_pure ⟨_, rfl, wpAny_pure h⟩) htake)
    | exact wpAny_bind (m := Builtin.Tuple.tupleExact _) (wpAny_newObj_type (wpAny_bind (wpAny_pure (wpAny_pure ⟨_, rfl, wpAny_pure h⟩))) htake)
    | exact wpAny_bind (wpAny_bind (m := Builtin.Tuple.tupleExact _) (wpAny_newObj_type (wpAny_pure (wpAny_pure ⟨_, rfl, wpAny_pure h⟩)) htake))
    | exact wpAny_bind (wpAny_bind (m := Builtin.Tuple.tupleExact _) (wpAny_newObj_type (wpAny_pure ⟨_, rfl, wpAny_pure h⟩) htake))
end
end HT

namespace L2
open PySem PySem.Spec PyProof.Rows

noncomputable abbrev TO := St → Hp → (Option Int → Hp → Prop) → Prop
noncomputable def PO (X : Cx) (e : Option Expr) (t : TO) : Prop :=
  ∀ (pins : List (Addr × Obj)) (s : Shared) (σ : St) (H : Hp) (Q : Option Int → Hp → Prop), Inv X pins σ H s → t σ H Q →
    wpAny (model X.prog X.w) X.A (evalPart e X.env) (fun u s' => ∃ o H', Inv X pins σ H' s' ∧ IsPart u o ∧ Q o H') X.xe s
noncomputable def tNoPart : TO := fun _ H Q => Q none H
noncomputable def tPart (t : TE) : TO := fun σ H Q => t σ H fun x H1 => ∃ i, x = .int i ∧ Q (some i) H1

section
variable {X : Cx} {e : Expr} {te : TE} {lo hi : Option Expr} {tl th : TO} {pos p2 : Pos}

theorem po_none : PO X none tNoPart := by
  intro pins s σ H Q I h
  rw [evalPart_none]
  exact wpAny_pure ⟨none, H, I, .none, h⟩
theorem po_some (h : PE X e te) : PO X (some e) (tPart te) := by
  intro pins s σ H Q I hw
  rw [evalPart_some]
  refine thn (h pins s σ H _ I hw) fun u s1 ⟨x, H1, I1, r1, q1⟩ => ?_
  obtain ⟨i, rfl, q⟩ := q1
  obtain ⟨t, rfl⟩ := r1
  exact ⟨some i, H1, I1, .int i t, q⟩

noncomputable def SlR (X : Cx) (r : V → Option Int → Option Int → Hp → VK → Prop) : Prop :=
  ∀ (pins : List (Addr × Obj)) (s : Shared) (σ : St) (H : Hp) (x : V) (v vl vu : Value) (lo hi : Option Int) (sl : Addr) (Q : VK), Inv X pins σ H s → RelV x v → s.heap.IsSliceOf sl vl vu .none → IsPart vl lo → IsPart vu hi → r x lo hi H Q →
    ∃ T id, typeLookup (.type T) "__getitem__" = pure (some (.builtin id)) ∧ s.TypeIs v T ∧ wpAny (model X.prog X.w) X.A (getItem v (.ref sl)) (EP X pins σ Q) X.xe s
noncomputable def tSl (r : V → Option Int → Option Int → Hp → VK → Prop) (te : TE) (tl th : TO) : TE := fun σ H Q => te σ H fun x H1 => tl σ H1 fun l H2 => th σ H2 fun u H3 => r x l u H3 Q
theorem pe_slice {r : V → Option Int → Option Int → Hp → VK → Prop} (hr : SlR X r) (he : PE X e te) (hl : PO X lo tl) (hu : PO X hi th) : PE X (.Subscript e (.Slice lo hi none p2) pos) (tSl r te tl th) := by
  intro pins s σ H Q I h
  refine Subscript_ (thn (he pins s σ H _ I h) fun v s1 ⟨x, H1, I1, r1, q1⟩ => ?_)
  refine wpAny_Slice (thn (hl pins s1 σ H1 _ I1 q1) fun vl s2 ⟨l, H2, I2, pl, q2⟩ => thn (hu pins s2 σ H2 _ I2 q2) fun vu s3 ⟨u, H3, I3, pu, q3⟩ => ?_)
  rw [evalPart_none]
  refine wpAny_pure ?_
  have I4 : Inv X pins σ H3 { s3 with heap := s3.heap.push { cls := .type "slice", data := .fields #[vl, vu, .none] } } := I3.kept (t' := s3.toks) fun b ob q => Heap.get?_push_of_some _ q
  obtain ⟨T, id, hT, ht, hg⟩ := hr pins { s3 with heap := s3.heap.push { cls := .type "slice", data := .fields #[vl, vu, .none] } } σ H3 x v vl vu l u s3.heap.objs.size Q I4 r1 (Heap.IsSliceOf.new ..) pl pu q3
  show wpAny (model X.prog X.w) X.A (subscriptTail e (.Slice lo hi none p2) v (.ref s3.heap.objs.size)) (EP X pins σ Q) X.xe { s3 with heap := s3.heap.push { cls := .type "slice", data := .fields #[vl, vu, .none] } }
  exact tail_any (ops := [.ref s3.heap.objs.size, v]) ht hT hg (by with_unfolding_all rfl)

noncomputable def cutV (xs : List V) (lo hi : Option Int) : List V := (xs.drop (HT.sIx xs.length 0 lo)).take (HT.sIx xs.length xs.length hi - HT.sIx xs.length 0 lo)
theorem cutV_length (xs : List V) (lo hi : Option Int) : (cutV xs lo hi).length ≤ xs.length := by
  unfold cutV
  rw [List.length_take, List.length_drop]
  (first | lia | omega)
noncomputable def rSlT (K : PySem.W.Frag) : V → Option Int → Option Int → Hp → VK → Prop := fun x lo hi H Q => ∃ a xs, x = .ref a ∧ SqT K H a xs ∧
  ¬ (HT.sIx xs.length 0 lo = 0 ∧ HT.sIx xs.length xs.length hi = xs.length) ∧ ∀ p, H p = none → Q (.ref p) (upd H p (.tup (cutV xs lo hi)))
theorem sl_tup : SlR X (rSlT X.K) := by
  intro pins s σ H x v vl vu lo hi sl Q I rx hs pl pu h
  obtain ⟨a, xs, rfl, hx, hw, q⟩ := h
  cases rx
  obtain ⟨its, r, ht, hz⟩ := I.tuple hx
  have hlen : its.toArray.size = xs.length := by rw [List.size_toArray]; exact r.length.symm
  refine ⟨"tuple", _, PyProof.Rows.slot_tuple_getitem.lookup, ht.typeIs, ?_⟩
  refine HT.getItem_tuple_cut ht hs pl pu (by rw [hlen]; exact hw) ?_ (by rw [hlen]; exact hz)
  rw [hlen]
  refine ⟨.ref s.heap.objs.size, _, I.laid (t' := s.toks) (o := .tup (cutV xs lo hi)) (fun b ob q => Heap.get?_push_of_some _ q) (Nat.le_refl _) ?_, rfl, q _ (I.hok.fresh (Nat.le_refl _))⟩
  exact ⟨Nat.le_trans (cutV_length xs lo hi) hz, _, (r.drop (HT.sIx xs.length 0 lo)).take (HT.sIx xs.length xs.length hi - HT.sIx xs.length 0 lo), IsTup.new _ _⟩

noncomputable def rCatT (K : PySem.W.Frag) : R2 := fun x y H Q => ∃ a b xs ys, x = .ref a ∧ y = .ref b ∧ SqT K H a xs ∧ SqT K H b ys ∧ xs ≠ [] ∧ xs.length + ys.length ≤ sizeLine ∧
  (ys = [] → Q (.ref a) H) ∧ (ys ≠ [] → ∀ p, H p = none → Q (.ref p) (upd H p (.tup (xs ++ ys))))
theorem Vals.nil_iff {xs : List V} {us : List Value} (r : Vals xs us) : us = [] ↔ xs = [] := by
  cases r with
  | nil => simp
  | cons _ _ => simp
theorem op_catT : OpR X (binaryOp .Add) (rCatT X.K) := by
  intro pins s σ H x y v u Q I rx ry h
  obtain ⟨a, b, xs, ys, rfl, rfl, ha, hb, hx, hz, q1, q2⟩ := h
  cases rx
  cases ry
  obtain ⟨its, r1, p1, _⟩ := I.tuple ha
  obtain ⟨its2, r2, p2, _⟩ := I.tuple hb
  refine HT.cat_tup p1 p2 (fun z => hx (r1.nil_iff.mp z)) (fun z => ⟨.ref a, H, I, rfl, q1 (r2.nil_iff.mp z)⟩) (fun z => ?_) (by rw [← r1.length, ← r2.length]; exact hz)
  refine ⟨.ref s.heap.objs.size, _, I.laid (t' := s.toks) (o := .tup (xs ++ ys)) (fun b ob q => Heap.get?_push_of_some _ q) (Nat.le_refl _) ?_, rfl, q2 (fun w => z (r2.nil_iff.mpr w)) _ (I.hok.fresh (Nat.le_refl _))⟩
  exact ⟨by rw [List.length_append]; exact hz, _, r1.append r2, IsTup.new _ _⟩
end
end L2

namespace L2
open PySem PySem.Spec PyProof.Rows

noncomputable def ixN (n : Nat) (i : Int) : Option Nat := if 0 ≤ i then (if i < n then some i.toNat else none) else if -(n : Int) ≤ i then some (i + n).toNat else none
noncomputable def atI {α : Type} (xs : List α) (i : Int) : Option α := (ixN xs.length i).bind fun j => xs[j]?
theorem ixN_seq {n : Nat} {i : Int} {j : Nat} (h : ixN n i = some j) : seqIndex? i n = some j ∧ j < n ∧ -(n : Int) ≤ i ∧ i < n := by
  unfold ixN at h
  by_cases h0 : 0 ≤ i
  · rw [if_pos h0] at h
    by_cases h1 : i < n
    · rw [if_pos h1] at h
      have e : i.toNat = j := Option.some.inj h
      exact ⟨by rw [seqIndex_of h0 h1, e], by (first | lia | omega), by (first | lia | omega), h1⟩
    · rw [if_neg h1] at h; cases h
  · rw [if_neg h0] at h
    by_cases h1 : -(n : Int) ≤ i
    · rw [if_pos h1] at h
      have e : (i + n).toNat = j := Option.some.inj h
      exact ⟨by rw [seqIndex_neg (by (first | lia | omega)) h1, e], by (first | lia | omega), h1, by (first | lia | omega)⟩
    · rw [if_neg h1] at h; cases h
theorem atI_get {α : Type} {xs : List α} {i : Int} {v : α} (h : atI xs i = some v) : ∃ j, seqIndex? i xs.length = some j ∧ xs[j]? = some v ∧ j < xs.length ∧ -(xs.length : Int) ≤ i ∧ i < xs.length := by
  unfold atI at h
  cases e : ixN xs.length i with
  | none => rw [e] at h; cases h
  | some j =>
    rw [e] at h
    obtain ⟨h1, h2, h3, h4⟩ := ixN_seq e
    exact ⟨j, h1, h, h2, h3, h4⟩
theorem atI_nat {α : Type} {xs : List α} {j : Nat} {v : α} (h : xs[j]? = some v) : atI xs (j : Int) = some v := by
  have hj : j < xs.length := (List.getElem?_eq_some_iff.mp h).1
  have e : ixN xs.length (j : Int) = some j := by
    unfold ixN
    rw [if_pos (by (first | lia | omega)), if_pos (by (first | lia | omega))]; simp
  unfold atI; rw [e]; exact h
noncomputable def PlainIx (b : Expr) : Prop := ∀ o i, subscripted b false o i = operate [o, i] (getItem o i)
noncomputable def IxR (X : Cx) (r : R2) : Prop :=
  ∀ (value slice : Expr) (pins : List (Addr × Obj)) (s : Shared) (σ : St) (H : Hp) (x y : V) (v u : Value) (Q : VK), Inv X pins σ H s → RelV x v → RelV y u → r x y H Q →
    subscripted slice false v u = operate [v, u] (getItem v u) → wpAny (model X.prog X.w) X.A (subscriptTail value slice v u) (EP X pins σ Q) X.xe s
noncomputable def MtR (X : Cx) (id : String) (r : V → List V → Hp → VK → Prop) : Prop :=
  ∀ (pins : List (Addr × Obj)) (s : Shared) (σ : St) (H : Hp) (x : V) (xs : List V) (v : Value) (us : List Value) (Q : VK), Inv X pins σ H s → RelV x v → Vals xs us → r x xs H Q →
    wpAny (model X.prog X.w) X.A (call (.builtin id) (v :: us)) (EP X pins σ Q) X.xe s
section
variable {X : Cx} {a b : Expr} {ta tb : TE} {pos : Pos}
theorem pe_ix {r : R2} (hr : IxR X r) (ha : PE X a ta) (hb : PE X b tb) (hs : PlainIx b) : PE X (.Subscript a b pos) (tOp r ta tb) := by
  intro pins s σ H Q I h
  exact Subscript_ (binT ha hb I h fun v u s2 x y H2 I2 rx ry q => hr a b pins s2 σ H2 x y v u Q I2 rx ry q (hs _ _))

noncomputable def rIxL (K : PySem.W.Frag) : R2 := fun x y H Q => ∃ p xs i v, x = .ref p ∧ y = .int i ∧ SqL K H p xs ∧ atI xs i = some v ∧ Q v H
noncomputable def rIxT (K : PySem.W.Frag) : R2 := fun x y H Q => ∃ p xs i v, x = .ref p ∧ y = .int i ∧ SqT K H p xs ∧ atI xs i = some v ∧ Q v H
noncomputable def rIxS : R2 := fun x y H Q => ∃ z i c, x = .str z ∧ y = .int i ∧ z.length ≤ sizeLine ∧ atI z.cps.toList i = some c ∧ Q (.str ⟨#[c]⟩) H
theorem ix_list : IxR X (rIxL X.K) := by
  intro value slice pins s σ H x y v u Q I rx ry h hs
  obtain ⟨p, xs, i, z, rfl, rfl, hq, he, q⟩ := h
  cases rx
  obtain ⟨t, rfl⟩ := ry
  obtain ⟨its, r, pl, hz⟩ := I.list hq
  obtain ⟨j, h1, h2, h3, h4, h5⟩ := atI_get he
  obtain ⟨w, ew, rw'⟩ := r.get h2
  have hl := r.length
  have hn := line63
  have fin : EP X pins σ Q w s := ⟨z, H, I, rw', q⟩
  by_cases h0 : 0 ≤ i
  · have hj : i.toNat = j := by
      rw [seqIndex_of h0 h5] at h1
      exact Option.some.inj h1
    exact item_listR pl.isList h0 (by (first | lia | omega)) (by rw [hj]; simpa using ew) fin hs
  · have hj : (i + (its.toArray.size : Int)).toNat = j := by
      rw [seqIndex_neg (by (first | lia | omega)) h4] at h1
      rw [List.size_toArray, ← hl]
      exact Option.some.inj h1
    exact subscriptTail_builtinR (x := w) pl.isList.typeIs slot_list_getitem.lookup
      (wpAny_getItem_list_neg (Q := fun r s' => r = w ∧ EP X pins σ Q r s') pl.isList (by (first | lia | omega)) (by rw [List.size_toArray] <;> (first | lia | omega)) (by (first | lia | omega)) (by rw [hj]; simpa using ew) ⟨rfl, fin⟩) hs
theorem ix_tup : IxR X (rIxT X.K) := by
  intro value slice pins s σ H x y v u Q I rx ry h hs
  obtain ⟨p, xs, i, z, rfl, rfl, hq, he, q⟩ := h
  cases rx
  obtain ⟨t, rfl⟩ := ry
  obtain ⟨its, r, pl, hz⟩ := I.tuple hq
  obtain ⟨j, h1, h2, h3, h4, h5⟩ := atI_get he
  obtain ⟨w, ew, rw'⟩ := r.get h2
  have hl := r.length
  have hn := line63
  have fin : EP X pins σ Q w s := ⟨z, H, I, rw', q⟩
  exact subscriptTail_builtinR (x := w) pl.typeIs slot_tuple_getitem.lookup
    (getItem_tuple (j := j) (Q := fun r s' => r = w ∧ EP X pins σ Q r s') pl (by (first | lia | omega)) (by (first | lia | omega)) (by rw [List.size_toArray, ← hl]; exact h1) (by simpa using ew) ⟨rfl, fin⟩) hs
theorem ix_str : IxR X rIxS := by
  intro value slice pins s σ H x y v u Q I rx ry h hs
  obtain ⟨z, i, c, rfl, rfl, hz, he, q⟩ := h
  obtain ⟨t, rfl⟩ := rx
  obtain ⟨t', rfl⟩ := ry
  obtain ⟨j, h1, h2, h3, h4, h5⟩ := atI_get he
  have hl : z.cps.toList.length = z.length := by simp [Str.length]
  rw [hl] at h1 h4 h5
  have hn := line63
  exact tail_any (typeIs_str s z t) slot_str_getitem.lookup (getItem_str (c := c) (by
    have e1 : decide (i < -(2 ^ 63 : Int)) = false := decide_eq_false (by (first | lia | omega))
    have e2 : decide (i ≥ 2 ^ 63) = false := decide_eq_false (by (first | lia | omega))
    rw [e1, e2, Bool.or_false]) (by rw [h1]; simpa using h2) ⟨.str ⟨#[c]⟩, H, I.tok _, ⟨_, rfl⟩, q⟩) hs
theorem mapSeq_set (its : List Value) (n j : Nat) (u : Value) : Obj.mapSeq (·.setIfInBounds j u) { cls := .type "list", data := .seq its.toArray n } = { cls := .type "list", data := .seq (its.set j u).toArray n } := by
  simp [Obj.mapSeq]
theorem Inv.lst {pins : List (Addr × Obj)} {σ : St} {H : Hp} {s : Shared} {p : Addr} {xs : List V} (I : Inv X pins σ H s) (h : H p = some (.lst xs)) :
    ∃ (its : List Value) (n : Nat), Vals xs its ∧ s.heap.get? p = some { cls := .type "list", data := .seq its.toArray n } ∧ xs.length ≤ sizeLine := by
  obtain ⟨z, its, n, r, e⟩ := I.hok p _ h
  exact ⟨its, n, r, e, z⟩
theorem Inv.lstUpd {pins : List (Addr × Obj)} {σ : St} {H : Hp} {s : Shared} {p : Addr} {xs ys : List V} {its its' : List Value} {n n' : Nat} {f : Obj → Obj} (I : Inv X pins σ H s) (h : H p = some (.lst xs))
    (ho : s.heap.get? p = some { cls := .type "list", data := .seq its.toArray n }) (hf : f { cls := .type "list", data := .seq its.toArray n } = { cls := .type "list", data := .seq its'.toArray n' }) (r : Vals ys its') (hz : ys.length ≤ sizeLine) (t : Nat) :
    Inv X pins σ (upd H p (.lst ys)) { s with heap := s.heap.update p f, toks := t } := by
  have e : (s.heap.update p f).get? p = some { cls := .type "list", data := .seq its'.toArray n' } := by
    rw [Heap.get?_update_self f ho (by rw [hf] <;> rfl), hf]
  refine I.write (x := p) (e := p) (by rw [h]; trivial) (.inl rfl) (fun b u hb q => (Heap.get?_update_other _ _ (Ne.symm hb)).trans q) ⟨_, e⟩ ?_
  exact ⟨hz, its', n', r, e⟩
noncomputable def rSetL : V → V → V → Hp → (Hp → Prop) → Prop := fun o i v H Q => ∃ p xs k j, o = .ref p ∧ i = .int k ∧ H p = some (.lst xs) ∧ ixN xs.length k = some j ∧ Q (upd H p (.lst (xs.set j v)))
theorem set_list : PSet X rSetL := by
  intro pins s σ H o i v ov iv u Q I ro ri rv h
  obtain ⟨p, xs, k, j, rfl, rfl, hp, hj, q⟩ := h
  cases ro
  obtain ⟨t, rfl⟩ := ri
  obtain ⟨its, n, r, ho, hz⟩ := I.lst hp
  obtain ⟨h1, h2, h3, h4⟩ := ixN_seq hj
  have hl := r.length
  have hn := line63
  have I' : Inv X pins σ (upd H p (.lst (xs.set j v))) { s with heap := s.heap.update p (Obj.mapSeq (·.setIfInBounds j u)) } :=
    I.lstUpd hp ho (mapSeq_set its n j u) (r.set rv j) (by rw [List.length_set]; exact hz) s.toks
  by_cases h0 : 0 ≤ k
  · have hk : k.toNat = j := by
      rw [seqIndex_of h0 h4] at h1
      exact Option.some.inj h1
    exact PySem.W.ki_setAt ho h0 (by (first | lia | omega)) (by rw [List.size_toArray, ← hl]; exact h4) (by rw [hk]; exact ⟨_, I', q⟩)
  · have hk : (k + (its.toArray.size : Int)).toNat = j := by
      rw [seqIndex_neg (by (first | lia | omega)) h3] at h1
      rw [List.size_toArray, ← hl]
      exact Option.some.inj h1
    exact PySem.W.ki_setBack ho (by (first | lia | omega)) (by rw [List.size_toArray, ← hl]; exact h3) (by (first | lia | omega)) (by rw [hk]; exact ⟨_, I', q⟩)

theorem slice_bounds (lo hi : Option Int) (n : Nat) : (sliceBounds lo hi none n).1 = ((HT.sIx n 0 lo : Nat) : Int) ∧ (sliceBounds lo hi none n).2.1 = ((HT.sIx n n hi : Nat) : Int) ∧ (sliceBounds lo hi none n).2.2 = 1 := by
  refine ⟨?_, ?_, rfl⟩
  · cases lo with
    | none => simp [sliceBounds, HT.sIx]
    | some i =>
      simp only [sliceBounds, HT.sIx, Option.getD_none, show (1 : Int) > 0 by decide, if_true]
      by_cases h : i < 0
      · simp only [h, if_true] <;> (first | lia | omega)
      · simp only [h, if_false] <;> (first | lia | omega)
  · cases hi with
    | none => simp [sliceBounds, HT.sIx]
    | some i =>
      simp only [sliceBounds, HT.sIx, Option.getD_none, show (1 : Int) > 0 by decide, if_true]
      by_cases h : i < 0
      · simp only [h, if_true] <;> (first | lia | omega)
      · simp only [h, if_false] <;> (first | lia | omega)
theorem slicePick_cut (its : List Value) (lo hi : Option Int) : slicePick its.toArray lo hi none = ((its.drop (HT.sIx its.length 0 lo)).take (HT.sIx its.length its.length hi - HT.sIx its.length 0 lo)).toArray := by
  obtain ⟨h1, h2, h3⟩ := slice_bounds lo hi its.toArray.size
  unfold slicePick
  rw [h1, h2, h3]
  simp only [sliceRange_one, pick_run, List.size_toArray] <;> rfl
noncomputable def rSlL (K : PySem.W.Frag) : V → Option Int → Option Int → Hp → VK → Prop := fun x lo hi H Q => ∃ a xs, x = .ref a ∧ SqL K H a xs ∧ ∀ p, H p = none → Q (.ref p) (upd H p (.lst (cutV xs lo hi)))
theorem sl_list : SlR X (rSlL X.K) := by
  intro pins s σ H x v vl vu lo hi sl Q I rx hs pl pu h
  obtain ⟨a, xs, rfl, hx, q⟩ := h
  cases rx
  obtain ⟨its, r, ht, hz⟩ := I.list hx
  have hlen := r.length
  refine ⟨"list", _, slot_list_getitem.lookup, ht.isList.typeIs, ?_⟩
  refine wpAny_getItem_list_slice ht.isList hs pl pu .none (by simp) ?_ (by rw [List.size_toArray] <;> (first | lia | omega))
  rw [slicePick_cut, ← hlen]
  refine ⟨.ref s.heap.objs.size, _, I.laid (t' := s.toks) (o := .lst (cutV xs lo hi)) (fun b ob q => Heap.get?_push_of_some _ q) (Nat.le_refl _) ?_, rfl, q _ (I.hok.fresh (Nat.le_refl _))⟩
  exact ⟨Nat.le_trans (cutV_length xs lo hi) hz, _, 0, (r.drop (HT.sIx xs.length 0 lo)).take (HT.sIx xs.length xs.length hi - HT.sIx xs.length 0 lo), Heap.get?_push_size _ rfl⟩

noncomputable def flatV : V → Bool
  | .non => true
  | .bl _ => true
  | .int _ => true
  | .str _ => true
  | _ => false
noncomputable def eqV : V → V → Bool
  | .non, .non => true
  | .bl a, .bl b => a == b
  | .bl a, .int b => (if a then 1 else 0) == b
  | .int a, .bl b => a == (if b then 1 else 0)
  | .int a, .int b => a == b
  | .str a, .str b => a == b
  | _, _ => false
theorem eqAt_V {A : Around} {s : Shared} {y x : V} {u v : Value} (ry : RelV y u) (rx : RelV x v) (fy : flatV y = true) (fx : flatV x = true) : SeqAt.EqAt A s u v (eqV y x) := by
  cases y with
  | non =>
    cases ry
    cases x with
    | non => cases rx; exact SeqAt.EqAt.same _
    | bl b => cases rx; exact SeqAt.EqAt.none_bool b
    | int b => obtain ⟨t, rfl⟩ := rx; exact SeqAt.EqAt.none_int b t
    | str b => obtain ⟨t, rfl⟩ := rx; exact SeqAt.EqAt.none_str b t
    | _ => exact absurd (show false = true from fx) Bool.false_ne_true
  | bl a =>
    cases ry
    cases x with
    | non => cases rx; exact SeqAt.EqAt.bool_none a
    | bl b => cases rx; exact SeqAt.EqAt.bool_bool a b
    | int b => obtain ⟨t, rfl⟩ := rx; exact SeqAt.EqAt.bool_int a b t
    | str b => obtain ⟨t, rfl⟩ := rx; exact SeqAt.EqAt.bool_str a b t
    | _ => exact absurd (show false = true from fx) Bool.false_ne_true
  | int a =>
    obtain ⟨t', rfl⟩ := ry
    cases x with
    | non => cases rx; exact SeqAt.EqAt.int_none a t'
    | bl b => cases rx; exact SeqAt.EqAt.int_bool a t' b
    | int b => obtain ⟨t, rfl⟩ := rx; exact SeqAt.EqAt.int_int a t' b t
    | str b => obtain ⟨t, rfl⟩ := rx; exact SeqAt.EqAt.int_str a t' b t
    | _ => exact absurd (show false = true from fx) Bool.false_ne_true
  | str a =>
    obtain ⟨t', rfl⟩ := ry
    cases x with
    | non => cases rx; exact SeqAt.EqAt.str_none a t'
    | bl b => cases rx; exact SeqAt.EqAt.str_bool a t' b
    | int b => obtain ⟨t, rfl⟩ := rx; exact SeqAt.EqAt.str_int a t' b t
    | str b => obtain ⟨t, rfl⟩ := rx; exact SeqAt.EqAt.str_str a t' b t
    | _ => exact absurd (show false = true from fx) Bool.false_ne_true
  | _ => exact absurd (show false = true from fy) Bool.false_ne_true
noncomputable def eqU (x : V) (u : Value) : Bool := match u with
  | .none => eqV .non x
  | .bool b => eqV (.bl b) x
  | .int i _ => eqV (.int i) x
  | .str z _ => eqV (.str z) x
  | _ => false
theorem eqU_of {x y : V} {u : Value} (r : RelV y u) (f : flatV y = true) : eqU x u = eqV y x := by
  cases y with
  | non => cases r; rfl
  | bl b => cases r; rfl
  | int i => obtain ⟨t, rfl⟩ := r; rfl
  | str z => obtain ⟨t, rfl⟩ := r; rfl
  | _ => exact absurd (show false = true from f) Bool.false_ne_true
theorem any_eqU {x : V} : ∀ {xs : List V} {us : List Value}, Vals xs us → xs.all flatV = true → us.any (eqU x) = xs.any fun y => eqV y x
  | _, _, .nil, _ => rfl
  | y :: xs, u :: us, .cons r t, f => by
    rw [List.all_cons, Bool.and_eq_true] at f
    rw [List.any_cons, List.any_cons, eqU_of r f.1, any_eqU t f.2]
theorem mem_eqAt {A : Around} {s : Shared} {x : V} {v : Value} (rx : RelV x v) (fx : flatV x = true) : ∀ {xs : List V} {us : List Value}, Vals xs us → xs.all flatV = true → ∀ u ∈ us, SeqAt.EqAt A s u v (eqU x u)
  | _, _, .nil, _ => fun u hu => by cases hu
  | y :: xs, u :: us, .cons r t, f => fun u' hu => by
    rw [List.all_cons, Bool.and_eq_true] at f
    rcases List.mem_cons.mp hu with rfl | hu
    · rw [eqU_of r f.1]; exact eqAt_V r rx f.1 fx
    · exact mem_eqAt rx fx t f.2 u' hu
noncomputable def inV (x : V) (xs : List V) : Bool := xs.any fun y => eqV y x
noncomputable def rIn (K : PySem.W.Frag) (neg : Bool) : R2 := fun x y H Q => ∃ p xs, y = .ref p ∧ (SqL K H p xs ∨ SqT K H p xs) ∧ flatV x = true ∧ xs.all flatV = true ∧ Q (.bl (if neg then !inV x xs else inV x xs)) H
theorem op_in_seq : OpR X (compareOp .In) (rIn X.K false) := by
  intro pins s σ H x y v u Q I rx ry h
  obtain ⟨p, xs, rfl, hq, fx, fs, q⟩ := h
  cases ry
  rcases hq with hq | hq
  · obtain ⟨its, r, pl, hz⟩ := I.list hq
    refine SeqAt.in_listAt (eqU x) pl.isList (fun w hw => mem_eqAt rx fx r fs w (by simpa using hw)) ⟨.bl _, H, I, rfl, ?_⟩
    rw [show its.toArray.any (eqU x) = its.any (eqU x) by simp, any_eqU r fs]
    exact q
  · obtain ⟨its, r, pl, hz⟩ := I.tuple hq
    refine SeqAt.in_tupleAt (eqU x) pl (fun w hw => mem_eqAt rx fx r fs w (by simpa using hw)) ⟨.bl _, H, I, rfl, ?_⟩
    rw [show its.toArray.any (eqU x) = its.any (eqU x) by simp, any_eqU r fs]
    exact q
theorem op_notIn_seq : OpR X (compareOp .NotIn) (rIn X.K true) := by
  intro pins s σ H x y v u Q I rx ry h
  obtain ⟨p, xs, rfl, hq, fx, fs, q⟩ := h
  cases ry
  rcases hq with hq | hq
  · obtain ⟨its, r, pl, hz⟩ := I.list hq
    refine SeqAt.notIn_listAt (eqU x) pl.isList (fun w hw => mem_eqAt rx fx r fs w (by simpa using hw)) ⟨.bl _, H, I, rfl, ?_⟩
    rw [show its.toArray.any (eqU x) = its.any (eqU x) by simp, any_eqU r fs]
    exact q
  · obtain ⟨its, r, pl, hz⟩ := I.tuple hq
    refine SeqAt.notIn_tupleAt (eqU x) pl (fun w hw => mem_eqAt rx fx r fs w (by simpa using hw)) ⟨.bl _, H, I, rfl, ?_⟩
    rw [show its.toArray.any (eqU x) = its.any (eqU x) by simp, any_eqU r fs]
    exact q
theorem call_len_seq : CallR X (.builtin "len") (fun xs H Q => ∃ p ys, xs = [.ref p] ∧ (SqL X.K H p ys ∨ SqT X.K H p ys) ∧ Q (.int ys.length) H) := by
  intro pins s σ H xs us Q I r h
  obtain ⟨p, ys, rfl, hq, q⟩ := h
  obtain ⟨u, rfl, rx⟩ := vals1 r
  cases rx
  have hn := line63
  rcases hq with hq | hq
  · obtain ⟨its, r', pl, hz⟩ := I.list hq
    have hlen := r'.length
    exact Calls.call_len_list pl.isList (by simp only [List.size_toArray] <;> (first | lia | omega)) ⟨.int ys.length, H, I.tok _, ⟨s.toks + 1, by rw [List.size_toArray, hlen]⟩, q⟩
  · obtain ⟨its, r', pl, hz⟩ := I.tuple hq
    have hlen := r'.length
    exact len_tuple pl (by simp only [List.size_toArray] <;> (first | lia | omega)) ⟨.int ys.length, H, I.tok _, ⟨s.toks + 1, by rw [List.size_toArray, hlen]⟩, q⟩
theorem call_len_str : CallR X (.builtin "len") (fun xs H Q => ∃ z, xs = [.str z] ∧ z.length ≤ sizeLine ∧ Q (.int z.length) H) := by
  intro pins s σ H xs us Q I r h
  obtain ⟨z, rfl, hz, q⟩ := h
  obtain ⟨u, rfl, t, rfl⟩ := vals1 r
  have hn := line63
  exact len_str (by (first | lia | omega)) ⟨.int z.length, H, I.tok _, ⟨_, rfl⟩, q⟩
theorem call_list_of : CallR X (.type "list") (fun xs H Q => ∃ p ys, xs = [.ref p] ∧ (SqL X.K H p ys ∨ SqT X.K H p ys) ∧ ∀ l, H l = none → Q (.ref l) (upd H l (.lst ys))) := by
  intro pins s σ H xs us Q I r h
  obtain ⟨p, ys, rfl, hq, q⟩ := h
  obtain ⟨u, rfl, rx⟩ := vals1 r
  cases rx
  have fin : ∀ (its : List Value), Vals ys its → ys.length ≤ sizeLine → ∀ (h' : Heap) (c' : Nat), (∀ b o', s.heap.get? b = some o' → h'.get? b = some o') →
      h'.get? s.heap.objs.size = some { cls := .type "list", dict := none, data := .seq its.toArray c', slots := #[] } → EP X pins σ Q (.ref s.heap.objs.size) { s with heap := h' } := fun its r' hz h' c' kp e =>
    ⟨.ref s.heap.objs.size, _, I.laid (t' := s.toks) kp (Nat.le_refl _) (show ObjOk X.prog X.w _ h' _ (.lst ys) from ⟨hz, its, c', r', e⟩), rfl, q _ (I.hok.fresh (Nat.le_refl _))⟩
  rcases hq with hq | hq
  · obtain ⟨its, r', pl, hz⟩ := I.list hq
    have hlen := r'.length
    obtain ⟨o, ho, hc, n, hd⟩ := pl.isList
    exact call_list_seq p (.inl rfl) ho hc hd (fun h' c' kp e => fin its r' hz h' c' kp e) (by simp only [List.size_toArray] <;> (first | lia | omega))
  · obtain ⟨its, r', pl, hz⟩ := I.tuple hq
    have hlen := r'.length
    obtain ⟨o, ho, hc, n, hd⟩ := pl
    exact call_list_seq p (.inr rfl) ho hc hd (fun h' c' kp e => fin its r' hz h' c' kp e) (by simp only [List.size_toArray] <;> (first | lia | omega))
theorem call_tuple_of : CallR X (.type "tuple") (fun xs H Q => ∃ p ys, xs = [.ref p] ∧ ((SqL X.K H p ys ∧ ∀ l, H l = none → Q (.ref l) (upd H l (.tup ys))) ∨ (SqT X.K H p ys ∧ Q (.ref p) H))) := by
  intro pins s σ H xs us Q I r h
  obtain ⟨p, ys, rfl, h⟩ := h
  obtain ⟨u, rfl, rx⟩ := vals1 r
  cases rx
  rcases h with ⟨hq, q⟩ | ⟨hq, q⟩
  · obtain ⟨its, r', pl, hz⟩ := I.list hq
    have hlen := r'.length
    refine call_tuple_list pl.isList (fun h' kp => ?_) (by simp only [List.size_toArray] <;> (first | lia | omega))
    have I1 : Inv X pins σ H { s with heap := h' } := I.kept (t' := s.toks) kp
    have I2 : Inv X pins σ (upd H h'.objs.size (.tup ys)) { s with heap := h'.push { cls := .type "tuple", data := .seq its.toArray } } :=
      I1.laid (t' := s.toks) (fun b o e => Heap.get?_push_of_some _ e) (Nat.le_refl _) (show ObjOk X.prog X.w _ _ _ (.tup ys) from ⟨hz, its, r', IsTup.new _ _⟩)
    exact ⟨.ref h'.objs.size, _, I2, rfl, q _ (I1.hok.fresh (Nat.le_refl _))⟩
  · obtain ⟨its, r', pl, hz⟩ := I.tuple hq
    exact call_tuple_same pl ⟨.ref p, H, I, rfl, q⟩

noncomputable def tyV (K : PySem.W.Frag) (T : String) (x : V) (H : Hp) : Prop := match x with
  | .str _ => T = "str"
  | .int _ => T = "int"
  | .ref p => (T = "list" ∧ ∃ xs, SqL K H p xs) ∨ (T = "tuple" ∧ ∃ o, K.lookup p = some o ∧ o.cls = .type "tuple" ∧ o.dict = none) ∨
      (T = "dict" ∧ ((∃ kvs, H p = some (.dK kvs)) ∨ ∃ kvs, H p = some (.dT kvs))) ∨ (T = "set" ∧ ∃ S n, H p = some (.set S n))
  | _ => False
theorem tyV_is {pins : List (Addr × Obj)} {σ : St} {H : Hp} {s : Shared} {T : String} {x : V} {v : Value} (I : Inv X pins σ H s) (r : RelV x v) (ty : tyV X.K T x H) :
    s.TypeIs v T ∧ ∀ a, v = .ref a → ∃ ob, s.heap.get? a = some ob ∧ ob.dict = none := by
  cases x with
  | str z =>
    obtain ⟨t, rfl⟩ := r
    cases (show T = "str" from ty)
    exact ⟨typeIs_str s z t, fun _ e => nomatch e⟩
  | int i =>
    obtain ⟨t, rfl⟩ := r
    cases (show T = "int" from ty)
    exact ⟨typeIs_int s i t, fun _ e => nomatch e⟩
  | ref p =>
    cases r
    rcases ty with ⟨rfl, xs, hq⟩ | ⟨rfl, o, hk, hc, hd⟩ | ⟨rfl, hk⟩ | ⟨rfl, S, n, hk⟩
    · obtain ⟨its, _, pl, _⟩ := I.list hq
      refine ⟨pl.isList.typeIs, fun a e => ?_⟩
      cases e
      obtain ⟨o, n, e, c, hd, _⟩ := pl
      exact ⟨o, e, hd⟩
    · refine ⟨⟨o, I.kIn p o hk, hc⟩, fun a e => ?_⟩
      cases e
      exact ⟨o, I.kIn _ o hk, hd⟩
    · have z : ∃ o, s.heap.get? p = some o ∧ o.ExactDict := by
        rcases hk with ⟨kvs, hk⟩ | ⟨kvs, hk⟩
        · obtain ⟨_, _, _, _, o, _, _, e, ex, _⟩ := I.hok p _ hk
          exact ⟨o, e, ex⟩
        · obtain ⟨_, _, _, _, o, _, _, e, ex, _⟩ := I.hok p _ hk
          exact ⟨o, e, ex⟩
      obtain ⟨o, e, ex⟩ := z
      refine ⟨⟨o, e, ex.1⟩, fun a e2 => ?_⟩
      cases e2
      exact ⟨o, e, ex.2.1⟩
    · obtain ⟨o, _, _, _, e, ex, _⟩ := I.hok p _ hk
      refine ⟨⟨o, e, ex.1⟩, fun a e2 => ?_⟩
      cases e2
      exact ⟨o, e, ex.2.1⟩
  | _ => exact False.elim ty
noncomputable def tBM0 (K : PySem.W.Frag) (T : String) (r : V → List V → Hp → VK → Prop) (to : TE) : TE := fun σ H Q => to σ H fun x H1 => tyV K T x H1 ∧ r x [] H1 Q
noncomputable def tBM (K : PySem.W.Frag) (T : String) (r : V → List V → Hp → VK → Prop) (to : TE) (t : TA) : TE := fun σ H Q => to σ H fun x H1 => tyV K T x H1 ∧ t σ H1 fun xs H2 => r x xs H2 Q
variable {o e : Expr} {es : List Expr} {to : TE} {t : TA} {name : Str} {apos cpos : Pos} {T id : String} {r : V → List V → Hp → VK → Prop}
theorem pe_bm0 (pa : PlainAttrs T) (slot : Slot T name id) (hty : typeOf (.builtin id) = pure (.type "method_descriptor")) (hm : MtR X id r) (ho : PE X o to)
    (hbase : attributeBase o name X.env (eval o X.env) = eval o X.env := by rfl) (hline : (apos.endLine == cpos.line) = true := by rfl) : PE X (.Call (.Attribute o name apos) [] [] cpos) (tBM0 X.K T r to) := by
  intro pins s σ H Q I h
  refine wpAny_Call_method0_late hbase hline (thn (ho pins s σ H _ I h) fun v s1 ⟨x, H1, I1, r1, ty, q1⟩ => ?_)
  obtain ⟨h1, h2⟩ := tyV_is I1 r1 ty
  exact ⟨T, id, pa, slot, hty, h1, h2, Calls.callWith_builtin rfl (PySem.evalArgs_none (hm pins s1 σ H1 x [] v [] Q I1 r1 .nil q1))⟩
theorem pe_bm (pa : PlainAttrs T) (slot : Slot T name id) (hty : typeOf (.builtin id) = pure (.type "method_descriptor")) (hm : MtR X id r) (ho : PE X o to) (ha : PA X (e :: es) t)
    (hbase : attributeBase o name X.env (eval o X.env) = eval o X.env := by rfl)
    (hfew : ((backTo cpos (starEach (e :: es) X.env)).all (fun x => !x.1) && (backToKw cpos (keywordEach [] X.env)).all (fun x => x.1.isSome)
      && decide ((e :: es).length + ([] : List Keyword).length + (if ([] : List Keyword).isEmpty then 0 else 1) < 30)) = true := by rfl)
    (hline : (apos.endLine == cpos.line) = true := by rfl) (hs : starEach (e :: es) X.env = (false, eval e X.env) :: starEach es X.env := by rfl) (hplain : (backTo cpos (starEach es X.env)).any (·.1) = false := by rfl) :
    PE X (.Call (.Attribute o name apos) (e :: es) [] cpos) (tBM X.K T r to t) := by
  intro pins s σ H Q I h
  refine wpAny_Call_method_late hbase hfew hline rfl (thn (ho pins s σ H _ I h) fun v s1 ⟨x, H1, I1, r1, ty, q1⟩ => ?_)
  obtain ⟨h1, h2⟩ := tyV_is I1 r1 ty
  refine ⟨T, id, pa, slot, hty, h1, h2, ?_⟩
  have hA := ha cpos pins s1 σ H1 _ I1 q1
  rw [hs] at hA ⊢
  refine Calls.callWith_builtin (by show (false || (backTo cpos (starEach es X.env)).any (·.1)) = false; rw [hplain] <;> rfl) (Calls.evalArgs_plain ?_)
  exact thn hA fun us s2 ⟨vs, H2, I2, r2, q2⟩ => hm pins s2 σ H2 x vs v us Q I2 r1 r2 q2
/- xs.append(e), list.index on a module's tuple .. are MtR facts of 06m -/
end
end L2

namespace L2
open PySem PySem.Spec PyProof.Rows

noncomputable def MtM (X : Cx) (id : String) (r : V → List V → Hp → VK → Prop) : Prop :=
  ∀ (pins : List (Addr × Obj)) (s : Shared) (σ : St) (H : Hp) (x : V) (xs : List V) (v : Value) (us : List Value) (Q : VK), Inv X pins σ H s → RelV x v → Vals xs us → r x xs H Q →
    wpAny (model X.prog X.w) X.A (call (.builtin id) (v :: us)) (EP X pins σ Q) X.xe s

theorem Vals.one : ∀ {x : V} {us : List Value}, Vals [x] us → ∃ u, us = [u] ∧ RelV x u
  | _, _, .cons r .nil => ⟨_, rfl, r⟩
theorem Vals.zero : ∀ {us : List Value}, Vals [] us → us = []
  | _, .nil => rfl
theorem Vals.dropLast {xs : List V} {us : List Value} (h : Vals xs us) : Vals xs.dropLast us.dropLast := by
  induction h with
  | nil => exact .nil
  | cons r t ih =>
    cases t with
    | nil => exact .nil
    | cons q t' => exact .cons r ih
theorem erase_last {α : Type} (l : List α) : l.eraseIdx (l.length - 1) = l.dropLast := by
  induction l with
  | nil => rfl
  | cons a r ih =>
    cases r with
    | nil => rfl
    | cons b r =>
      have e : (a :: b :: r).length - 1 = ((b :: r).length - 1) + 1 := by
        have h1 : (a :: b :: r).length = r.length + 2 := rfl
        have h2 : (b :: r).length = r.length + 1 := rfl
        (first | lia | omega)
      rw [e, List.eraseIdx_cons_succ, ih]
      all_goals rfl
section
variable {X : Cx} {pins : List (Addr × Obj)} {σ : St} {H : Hp} {s : Shared} {l b : Addr} {xs ys zs : List V}

theorem Inv.lset {its its' : List Value} {n : Nat} {f : Array Value → Array Value} {t' : Nat} (I : Inv X pins σ H s) (hH : H l = some (.lst xs))
    (e : s.heap.get? l = some { cls := .type "list", data := .seq its.toArray n }) (hf : f its.toArray = its'.toArray) (hv : Vals ys its') (hz : ys.length ≤ sizeLine) :
    Inv X pins σ (upd H l (.lst ys)) { s with heap := s.heap.update l (Obj.mapSeq f), toks := t' } := by
  have q := PySem.IsL.update e f
  rw [hf] at q
  refine I.write (x := l) (e := l) (by rw [hH]; exact trivial) (.inl rfl) (fun b' u hb hu => (Heap.get?_update_other s.heap (Obj.mapSeq f) (Ne.symm hb)).trans hu) ⟨_, q⟩ ?_
  exact ⟨hz, its', _, hv, q⟩
theorem Inv.lnew {its : List Value} {t' : Nat} (I : Inv X pins σ H s) (hv : Vals ys its) (hz : ys.length ≤ sizeLine) :
    Inv X pins σ (upd H s.heap.objs.size (.lst ys)) { s with heap := s.heap.push { cls := .type "list", data := .seq its.toArray }, toks := t' } :=
  I.laid (fun _ _ q => Heap.get?_push_of_some _ q) (Nat.le_refl _) ⟨hz, its, 0, hv, Heap.get?_push_size _ rfl⟩
theorem Inv.fresh (I : Inv X pins σ H s) : H s.heap.objs.size = none := I.hok.fresh (Nat.le_refl _)
theorem Inv.lstM (I : Inv X pins σ H s) (hH : H l = some (.lst xs)) : xs.length ≤ sizeLine ∧ ∃ (its : List Value) (n : Nat), Vals xs its ∧ xs.length = its.length ∧ s.heap.get? l = some { cls := .type "list", data := .seq its.toArray n } := by
  obtain ⟨z, its, n, r, e⟩ := I.hok l _ hH
  exact ⟨z, its, n, r, r.length, e⟩

theorem notLongL {n : Nat} (h : n ≤ sizeLine) : Builtin.List.listTooLong n = false := by
  unfold Builtin.List.listTooLong
  exact decide_eq_false (by (first | lia | omega))
end

section
variable {X : Cx}

noncomputable def rAppend : V → List V → Hp → VK → Prop := fun x vs H Q => ∃ l xs y, x = .ref l ∧ vs = [y] ∧ H l = some (.lst xs) ∧ xs.length < sizeLine ∧ Q .non (upd H l (.lst (xs ++ [y])))
theorem mt_append : MtM X "list.append" rAppend := by
  intro pins s σ H x vs v us Q I rx rv h
  obtain ⟨l, xs, y, rfl, rfl, hH, hz, q⟩ := h
  cases rx
  obtain ⟨u, rfl, ru⟩ := rv.one
  obtain ⟨z, its, n, r, hl, e⟩ := I.lstM hH
  refine call_meets F.slot_list_append ⟨_, e, rfl⟩ F.entry_list_append (F.args_list_append_2 _ _) (PySem.list_append l its.toArray n u (by rw [List.size_toArray]; (first | lia | omega))) ⟨e, ?_⟩
  refine ⟨.non, _, I.lset (its' := its ++ [u]) hH e (by simp) (r.append (.cons ru .nil)) ?_, rfl, q⟩
  rw [List.length_append, List.length_singleton]
  (first | lia | omega)

noncomputable def rPop : V → List V → Hp → VK → Prop := fun x vs H Q => ∃ l xs y, x = .ref l ∧ vs = [] ∧ H l = some (.lst xs) ∧ xs[xs.length - 1]? = some y ∧ Q y (upd H l (.lst xs.dropLast))
theorem mt_pop : MtM X "list.pop" rPop := by
  intro pins s σ H x vs v us Q I rx rv h
  obtain ⟨l, xs, y, rfl, rfl, hH, hy, q⟩ := h
  cases rx
  have hus := rv.zero
  subst hus
  obtain ⟨z, its, n, r, hl, e⟩ := I.lstM hH
  obtain ⟨u, hu, ru⟩ := r.get hy
  have hy' : its.toArray[its.toArray.size - 1]? = some u := by
    show its.toArray[its.length - 1]? = some u
    rw [← Array.getElem?_toList, ← hl]
    exact hu
  refine call_meets F.slot_list_pop ⟨_, e, rfl⟩ F.entry_list_pop (F.args_list_pop_1 _) (MeetsSeq.list_pop_last l its.toArray n u hy' (by rw [List.size_toArray]; (first | lia | omega))) ⟨e, ?_⟩
  refine ⟨y, _, I.lset (its' := its.dropLast) hH e ?_ r.dropLast ?_, ru, q⟩
  · show its.toArray.eraseIdxIfInBounds (its.toArray.size - 1) = its.dropLast.toArray
    rw [List.size_toArray, List.eraseIdxIfInBounds_toArray, erase_last]
  · rw [List.length_dropLast]
    (first | lia | omega)

noncomputable def rCat : R2 := fun x y H Q => ∃ l b xs zs, x = .ref l ∧ y = .ref b ∧ H l = some (.lst xs) ∧ H b = some (.lst zs) ∧ xs.length + zs.length ≤ sizeLine ∧ ∀ p, H p = none → Q (.ref p) (upd H p (.lst (xs ++ zs)))
theorem op_cat : OpR X (binaryOp .Add) rCat := by
  intro pins s σ H x y v u Q I rx ry h
  obtain ⟨l, b, xs, zs, rfl, rfl, hH, hB, hz, q⟩ := h
  cases rx
  cases ry
  obtain ⟨z, its, n, r, hl, e⟩ := I.lstM hH
  obtain ⟨z2, its2, n2, r2, hl2, e2⟩ := I.lstM hB
  refine PySem.P.add_list e e2 ?_ (by rw [List.size_toArray, List.size_toArray]; (first | lia | omega))
  have ea : its.toArray ++ its2.toArray = (its ++ its2).toArray := by simp
  rw [ea]
  exact ⟨.ref _, _, I.lnew (t' := s.toks) (r.append r2) (by rw [List.length_append]; (first | lia | omega)), rfl, q _ I.fresh⟩
end

section
variable {prog : Program} {w : World} {A : Around} {E : Value → Shared → Prop} {s : Shared}
set_option maxRecDepth 100000 in
end

section
variable {X : Cx}
end
end L2

namespace Att
open PySem PySem.W PySem.Calls PyProof.Rows

theorem ints_of_wellAll {P : Params} {h : Heap} : ∀ (ns : List Int) (vs : List Value), WellAll P h vs (ns.map WData.int) → IntsAre vs ns := by
  intro ns
  induction ns with
  | nil =>
    intro vs w
    rw [List.map_nil] at w
    cases w
    exact .nil
  | cons n ns ih =>
    intro vs w
    rw [List.map_cons] at w
    cases w with
    | cons a b =>
      cases a
      exact .cons _ _ (ih _ b)

theorem script_of {l : OpenLaw} {n : Nat} (hn : l.most = some n) {P : Params} {h : Heap} {args : List WData} {vals : List Value}
    (hpre : l.row.toRowW.claim.pre args = true) (hwl : WellAll P h vals args) :
    ∃ a vs ns, vals = [Value.ref a] ∧ args = [WData.list (ns.map WData.int)] ∧ h.get? a = some { cls := .type "list", data := .seq vs.toArray } ∧ IntsAre vs ns ∧ ns.length ≤ n := by
  have hsh : WShape.hasAll [] args [.list .int] = true := (pre_splitW hpre).1
  have hc : l.pre.holds [] { args := args } = true := (pre_splitW hpre).2
  obtain ⟨d, r, rfl, h1, h2⟩ := hasAllW_cons hsh
  obtain rfl := hasAllW_nil h2
  obtain ⟨xs, rfl, h3⟩ := hasW_list h1
  obtain ⟨ns, rfl⟩ := items_int h3
  have hlen : ns.length ≤ n := by
    unfold OpenLaw.pre at hc
    have h4 : (WTm.not (.lt (.lit (.int (n : Int))) (.len (.arg 0)))).holds [] { args := [.list (ns.map .int)] } = true := by
      have h4 := (holds_andW hc).1
      rw [hn] at h4
      exact h4
    have h5 := condW_of h4 (w_not (w_lt w_lit (w_len_list (w_arg rfl))))
    rw [List.length_map] at h5
    refine Nat.le_of_not_lt fun q => ?_
    have q' : (n : Int) < ((ns.length : Nat) : Int) := by (first | lia | omega)
    first
      | (rw [decide_eq_true q'] at h5; exact absurd h5 (by decide))
      | (simp at h5; (first | lia | omega))
  cases hwl with
  | cons w1 w2 =>
    cases w2
    cases w1 with
    | list ho hall => exact ⟨_, _, ns, rfl, rfl, ho, ints_of_wellAll ns _ hall, hlen⟩

theorem post_true (l : OpenLaw) (args : List WData) : l.row.toRowW.claim.post args (.bool true) args = true :=
  postW_of (r := l.row.toRowW) (X := (true == true))
    (show WShape.has [] (.bool true) .bool = true by first | rfl | decide | simp [WShape.has, WShape.arms, WShape.armsAll])
    (show (WTm.eq .res (.lit (.bool true))).value [] { args := args, res := some (.bool true), after := args } = some (.bool (true == true)) from w_eq_bool (w_res rfl) w_lit) rfl

theorem attach_call {l : OpenLaw} {n : Nat} {q : Program} {loose : List Str} {XP : (Str → Option Value) → Heap → Prop} {YP : World → Heap → Prop} {d : DefRec}
    (hn : l.most = some n) (hdf : d.params.defaults = [])
    (call : ∀ (w : World) (s₀ s₁ : Shared) (mg mb : Str → Option Value) (fa : Addr) (o : Obj) (pm cd doc : Value) (a : Addr) (vs : List Value) (ns : List Int),
      Ground q loose [] XP w s₀ mg mb s₁.heap → YP w s₁.heap →
      s₁.heap.get? fa = some o → o.data = .func (docDef d.name d.params d.body d.scope pm cd doc) → s₁.heap.CodeRec cd d.name → mg d.name = some (.ref fa) →
      s₁.heap.get? a = some { cls := .type "list", data := .seq vs.toArray } → IntsAre vs ns → ns.length ≤ n → s₁.gens = #[] →
      codeAny (model l.prog w) callerA (.call (.ref fa) ⟨[.ref a], []⟩) (fun r s' => r = .ok (.ret (.bool true)) ∧ OldK s₁.heap s'.heap ∧ s'.os = s₁.os ∧ AllBare s'.gens) s₁) :
    WalkO q loose XP YP l.row.toRowW d [] (fun f vs => PySem.call f vs) := by
  intro w s₀ s₁ mg mb G Y fa o pm cd doc dV kV ho hd hcd hD hmg hg args vals as hpre hlay hrd hwl hlo
  obtain rfl : dV = .none := Dflts.none hD hdf
  obtain rfl : kV = .none := Dflts.noKw hD
  obtain ⟨a, vs, ns, rfl, rfl, hobj, hints, hlen⟩ := script_of hn hpre hwl
  refine enter_call (codeAny_mono (call w s₀ s₁ mg mb fa o pm cd doc a vs ns G Y ho (fd_plain hd) hcd hmg hobj hints hlen hg) fun r s' hq => ?_)
  obtain ⟨rfl, h2, h3, h4⟩ := hq
  exact ⟨.inl ⟨.bool true, .bool true, [], rfl, fun _ => rfl, .bool true, post_true l _, fun _ => ⟨List.Pairwise.nil, fun _ hm => (nomatch hm)⟩⟩, h2, h3, h4⟩

section
variable {prog : Program} {w : World} {A : Around} {E : Value → Shared → Prop} {s : Shared} {K : Frag}

end
end Att

namespace L2
open PySem PySem.Spec PyProof.Rows

theorem vals_ints : ∀ {vs : List Value} {ns : List Int}, IntsAre vs ns → Vals (ns.map V.int) vs
  | _, _, .nil => .nil
  | _, _, .cons n t h => .cons ⟨t, rfl⟩ (vals_ints h)

noncomputable def Only (H : Hp) : Prop := ∀ b, H b = none ∨ ∃ o xs, H b = some (.frz o (.lst xs))

theorem law_call {P : Program} {w : World} {K : PySem.W.Frag} {mg mb : Str → Option Value} {CX : CXT} {k : Nat} {fa a : Addr} {fd : FuncData} {x : Str} {sp : Sp} {s₁ : Shared} {vs : List Value} {ns : List Int}
    (KX : K.In s₁.heap) (hns : s₁.heap.Ns mainGlobals mg) (hb : s₁.heap.Ns builtinsNs mb) (hbb : ∀ x : Str, x ≠ "__name__" → mb x = bootBuiltins x) (hlim : s₁.heap.NoLimit) (hg : s₁.gens = #[])
    (ha : s₁.heap.get? a = some { cls := .type "list", data := .seq vs.toArray }) (hi : IntsAre vs ns) (hl : ns.length ≤ sizeLine) (hr : Room k callerA)
    (F : ∀ base : Heap, K.In base → base.Ns mainGlobals mg → FnOk P w K mg base CX k fa fd [x] sp) (hbind : ∀ (s : Shared) (u : Value), BindsTo s fd ⟨[u], []⟩ [(x, u)])
    (hsp : ∀ H : Hp, Only H → SqL K H a (ns.map V.int) → sp [.ref a] H (fun v _ => v = .bl true) fun _ _ _ => False)
    (hCX : ∀ H e s', CX [] H s₁ (fun _ _ _ => False) e s' → False) :
    codeAny (model P w) callerA (.call (.ref fa) ⟨[.ref a], []⟩) (fun r s' => r = .ok (.ret (.bool true)) ∧ OldK s₁.heap s'.heap ∧ s'.os = s₁.os ∧ AllBare s'.gens) s₁ := by
  have rv := vals_ints hi
  have lenV := hi.length
  -- from an abstract heap in which nothing but the script may be tracked
  have core : ∀ H : Hp, Only H → SqL K H a (ns.map V.int) → HOk P w H s₁.heap → (∀ b, H b ≠ none → b = a) → (H a ≠ none → K.lookup a = none) →
      codeAny (model P w) callerA (.call (.ref fa) ⟨[.ref a], []⟩) (fun r s' => r = .ok (.ret (.bool true)) ∧ OldK s₁.heap s'.heap ∧ s'.os = s₁.os ∧ AllBare s'.gens) s₁ := by
    intro H hO hS hok hA hK
    have base_of : ∀ {b : Addr} {o : Obj}, s₁.heap.get? b = some o → H b = none → (hidT s₁.heap H).get? b = some o := fun e n => hidT_get e n
    have noA : ∀ {b : Addr} {o : Obj} {es : Array DictEntry} {ep : Nat}, s₁.heap.get? b = some o → o.data = .dict es ep → H b = none := fun {b o es ep} e d => by
      cases q : H b with
      | none => rfl
      | some u =>
        have e' : b = a := hA b (by rw [q]; simp)
        subst e'
        rw [ha] at e; cases e
        have d' : Data.seq vs.toArray _ = Data.dict es ep := d
        cases d'
    have nsK : ∀ {b : Addr} {m : Str → Option Value}, s₁.heap.Ns b m → (hidT s₁.heap H).Ns b m := fun {b m} ⟨o, es, ep, e, d, r⟩ => ⟨o, es, ep, base_of e (noA e d), d, r⟩
    have hKb : K.In (hidT s₁.heap H) := fun b o e => base_of (KX b o e) (by
      cases q : H b with
      | none => rfl
      | some u =>
        have e' : b = a := hA b (by rw [q]; simp)
        subst e'
        rw [hK (by rw [q]; simp)] at e; cases e)
    have hM : Mod K mg (hidT s₁.heap H) := ⟨hKb, nsK hns, ⟨mb, nsK hb, hbb⟩, let ⟨mc, h1, h2⟩ := hlim; ⟨mc, nsK h1, h2⟩⟩
    have e0 : Env0 P w K mg (hidT s₁.heap H) callerA [] s₁ H := ⟨rfl, hM, fun b o e => of_hidT e, Nat.le_of_eq (hidT_size _ _), trivial, fun b hb => absurd (show b ∈ ([] : List Addr) from hb) (by simp), hok, .of_eq hg⟩
    refine codeAny_mono ((F _ hKb (nsK hns)).run callerA [] s₁ H ⟨[.ref a], []⟩ [.ref a] [.ref a] _ _ hr e0 (hbind s₁ (.ref a)) (.cons rfl .nil) (hsp H hO hS)) fun r s' h => ?_
    cases r with
    | error e => exact (hCX H e s' h).elim
    | ok fl =>
      cases fl with
      | next => exact False.elim h
      | brk => exact False.elim h
      | cont => exact False.elim h
      | ret u =>
        obtain ⟨v, H', os, bare, un, hok', r', q⟩ := h
        have q' : v = .bl true := q
        subst q'
        obtain rfl : u = Value.bool true := r'
        refine ⟨rfl, OldK.of_keep fun b o e => ?_, os, bare⟩
        cases q : H b with
        | none => exact un.keep b o e q (by intro z; exact absurd (show b ∈ ([] : List Addr) from z) (by simp)) (by simp)
        | some u =>
          rcases hO b with z | ⟨ob, xs, z⟩
          · rw [q] at z; cases z
          · have z2 := un.frzs b ob _ z
            obtain ⟨e1, _⟩ := hok b _ z
            obtain ⟨e2, _⟩ := hok' b _ z2
            rw [e] at e1; cases e1
            exact e2
  cases hk : K.lookup a with
  | some o =>
    -- the script is one of the module's own objects
    have e := KX a o hk
    rw [ha] at e
    cases e
    refine core (fun _ => none) (fun _ => .inl rfl) (.inr ⟨_, vs.toArray, _, hk, rfl, rfl, rfl, by rw [List.size_toArray, lenV]; exact hl, by simpa using rv⟩) (fun b u z => by have z' : (none : Option HO) = some u := z; cases z') (fun b z => absurd rfl z) fun z => absurd rfl z
  | none =>
    refine core (fun b => if b = a then some (.frz { cls := .type "list", data := .seq vs.toArray } (.lst (ns.map V.int))) else none) (fun b => ?_) (.inl (.inr ⟨{ cls := .type "list", data := .seq vs.toArray }, if_pos rfl⟩)) (fun b u z => ?_) (fun b z => ?_) fun _ => hk
    · by_cases hb : b = a
      · exact .inr ⟨_, _, if_pos hb⟩
      · exact .inl (if_neg hb)
    · by_cases hb : b = a
      · have z' := (if_pos hb).symm.trans z
        cases z'
        subst hb
        exact ⟨ha, by rw [List.length_map]; exact hl, vs, _, rv, ha⟩
      · have z' := (if_neg hb).symm.trans z
        cases z'
    · by_cases hb : b = a
      · exact hb
      · exact absurd (if_neg hb) z
end L2

namespace L2
open PySem PySem.Spec PyProof.Rows

theorem walk_of {l : PySem.W.OpenLaw} {n k : Nat} {q : Program} {loose : List Str} {XP : (Str → Option Value) → Heap → Prop} {YP : World → Heap → Prop} {d : DefRec} {K : Params → PySem.W.Frag} {CX : World → CXT} {sp : World → Sp} {x : Str}
    (hn : l.most = some n) (hn2 : n ≤ sizeLine) (hdf : d.params.defaults = []) (hr : Room k callerA)
    (hY : ∀ (w : World) (h : Heap), YP w h → (K w.params).In h)
    (F : ∀ (w : World) (mg : Str → Option Value) (fa : Addr) (h : Heap), (K w.params).In h → h.Ns mainGlobals mg → mg d.name = some (.ref fa) →
      ∃ fd : FuncData, (∀ (s : Shared) (u : Value), BindsTo s fd ⟨[u], []⟩ [(x, u)]) ∧
        ∀ base : Heap, (K w.params).In base → base.Ns mainGlobals mg → FnOk l.prog w (K w.params) mg base (CX w) k fa fd [x] (sp w))
    (hsp : ∀ (w : World) (H : Hp) (a : Addr) (ns : List Int), ns.length ≤ n → Only H → SqL (K w.params) H a (ns.map V.int) → sp w [.ref a] H (fun v _ => v = .bl true) fun _ _ _ => False)
    (hCX : ∀ (w : World) (H : Hp) (s : Shared) (e : Value) (s' : Shared), CX w [] H s (fun _ _ _ => False) e s' → False) :
    PySem.W.WalkO q loose XP YP l.row.toRowW d [] (fun f vs => PySem.call f vs) := by
  refine Att.attach_call hn hdf fun w s₀ s₁ mg mb fa o pm cd doc a vs ns G Y ho hd hcd hmg hobj hints hlen hg => ?_
  have KX := hY w _ Y
  obtain ⟨fd, hb, hF⟩ := F w mg fa _ KX G.T.g hmg
  exact law_call KX G.T.g G.T.b G.T.builtins G.T.nolimit hg hobj hints (Nat.le_trans hlen hn2) hr hF hb (fun H hO hS => hsp w H a ns hlen hO hS) fun H e s' => hCX w H s₁ e s'
end L2



namespace L2
open PySem PySem.Spec PyProof.Rows

noncomputable def inClass (s : Stmt) (j : Nat) : Stmt := match s with
  | .ClassDef _ _ _ body _ _ _ _ _ _ _ => body.getD j (.Pass ⟨0, 0, 0, 0⟩)
  | _ => .Pass ⟨0, 0, 0, 0⟩
noncomputable def defArgs (s : Stmt) : Arguments := match s with
  | .FunctionDef _ a _ _ _ _ _ _ _ _ => a
  | _ => { posonlyargs := [], args := [], vararg := none, kwonlyargs := [], kw_defaults := [], kwarg := none, defaults := [] }
noncomputable def defBody (s : Stmt) : List Stmt := match s with
  | .FunctionDef _ _ b _ _ _ _ _ _ _ => b
  | _ => []
noncomputable def defScope (s : Stmt) : Scope := match s with
  | .FunctionDef _ _ _ _ _ _ sc _ _ _ => sc
  | _ => { kind := .function, names := [], isGenerator := false, isCoroutine := false }

noncomputable abbrev CX0 : CXT := fun _ _ _ _ _ _ => False
noncomputable abbrev E0 : XK := fun _ _ _ => False
theorem pass0 {X : Cx} : Passes CX0 X E0 := fun _ _ _ _ _ _ _ h => h.elim

structure Fun (K : PySem.W.Frag) (x qual : Str) (st : Stmt) (f : Addr) (fd : FuncData) : Prop where
  ex : ∃ (oc : Value) (od : Option Addr) (kV doc pm : Value) (an : Option Addr) (cdv ct : Value) (osl : Array (Option Value)),
    fd = PySem.W.fnOf x qual (defArgs st) (defBody st) (defScope st) .none kV doc pm an cdv ct ∧ K.lookup f = some ⟨oc, od, .func fd, osl⟩ ∧ PySem.W.codeIn K cdv qual = true
  kp : PySem.W.keepIn K (.ref f) = true
section
variable {P : Program} {w : World} {K : PySem.W.Frag} {mg : Str → Option Value} {base : Heap}
theorem Fun.ok {x qual : Str} {st : Stmt} {f : Addr} {fd : FuncData} {N ps : List Str} {k : Nat} {sp : Sp} (F : Fun K x qual st f fd) (S : FnScope N ps (defScope st)) (len : ∀ vs H Q E, sp vs H Q E → vs.length = ps.length)
    (hbody : ∀ (cdv : Value) (A : Around) (outer : List Env) (s : Shared) (H : Hp) (vs : List V) (Q : VK) (E : XK), Room k (A.deeper (envOfC qual (defScope st) s.heap.objs.size f cdv)) → sp vs H Q E →
      ∃ t, PSs (cxOf CX0 P w K mg base N qual (defScope st) f cdv A outer s H E).nox (defBody st) t ∧ t { nx := fun _ H' => Q .non H', rt := Q } (start N vs) H) : FnOk P w K mg base CX0 (k + 1) f fd ps sp := by
  obtain ⟨oc, od, kV, doc, pm, an, cdv, ct, osl, rfl, lk, hcd⟩ := F.ex
  refine fn_of lk hcd S len fun A outer s H vs Q E hr hsp => ?_
  obtain ⟨t, h, q⟩ := hbody cdv A outer s H vs Q E hr hsp
  exact ⟨t, h.nox, q⟩
theorem Fun.binds {x qual : Str} {st : Stmt} {f : Addr} {fd : FuncData} {ps : List Str} (F : Fun K x qual st f fd)
    (h : ∀ (kV doc pm : Value) (an : Option Addr) (cdv ct : Value) (us : List Value), us.length = ps.length → bindArgs (PySem.W.fnOf x qual (defArgs st) (defBody st) (defScope st) .none kV doc pm an cdv ct) ⟨us, []⟩ = pure (ps.zip us)) : Binds K fd ps [] := by
  obtain ⟨oc, od, kV, doc, pm, an, cdv, ct, osl, rfl, lk, hcd⟩ := F.ex
  exact .all (h kV doc pm an cdv ct)
theorem fun_mk {x qual : Str} {st : Stmt} {f : Addr} {oc : Value} {od an : Option Addr} {osl : Array (Option Value)} {kV doc pm cdv ct : Value} (l : K.lookup f = some ⟨oc, od, .func (PySem.W.fnOf x qual (defArgs st) (defBody st) (defScope st) .none kV doc pm an cdv ct), osl⟩)
    (c : PySem.W.codeIn K cdv qual = true) (k : PySem.W.keepIn K (.ref f) = true) : Fun K x qual st f (PySem.W.fnOf x qual (defArgs st) (defBody st) (defScope st) .none kV doc pm an cdv ct) := ⟨⟨oc, od, kV, doc, pm, an, cdv, ct, osl, rfl, l, c⟩, k⟩
end
theorem hu_of {A : Around} {k : Nat} (hr : Room k A) : A.units + 1 < cLine := Nat.lt_of_le_of_lt (Nat.add_le_add_left (by decide : 1 ≤ 64) _) hr.units
section
variable {X : Cx}
theorem pv (i : Nat) {x : Str} {pos : Pos} (hN : X.N[i]? = some x := by rfl) (hv : Vis X.env.scope x := by first | exact Or.inl rfl | exact Or.inr (Or.inl rfl) | exact Or.inr (Or.inr rfl)) (hd : (x == ("__debug__" : Str)) = false := by decide)
    (hcd : (x == ("__classdict__" : Str)) = false := by decide) : PE X (.Name x pos) (tVar i) := pe_var hN hv hd hcd
end

theorem iteF {A B : Prop} (h : B) : if false = true then A else B := by
  rw [if_neg Bool.false_ne_true]
  exact h
theorem iteT {A B : Prop} (h : A) : if true = true then A else B := by
  rw [if_pos rfl]
  exact h
theorem ite2 {c A B : Prop} [Decidable c] (h1 : c → A) (h2 : ¬ c → B) : if c then A else B := by
  by_cases h : c
  · rw [if_pos h]
    exact h1 h
  · rw [if_neg h]
    exact h2 h
noncomputable def Same (H H' : Hp) : Prop := ∀ b o, H b = some o → H' b = some o
theorem Same.refl (H : Hp) : Same H H := fun _ _ h => h
theorem Same.trans {H H1 H2 : Hp} (a : Same H H1) (b : Same H1 H2) : Same H H2 := fun c o h => b c o (a c o h)
theorem Same.free {H H' : Hp} (e : Same H H') {l : Addr} (h : H' l = Option.none) : H l = Option.none := by
  cases q : H l with
  | none => rfl
  | some o =>
    rw [e l o q] at h
    cases h
theorem Same.seq {K : PySem.W.Frag} {H H' : Hp} {a : Addr} {xs : List V} (e : Same H H') (h : SqL K H a xs) : SqL K H' a xs := by
  rcases h with (h | ⟨o, h⟩) | h
  · exact .inl (.inl (e _ _ h))
  · exact .inl (.inr ⟨o, e _ _ h⟩)
  · exact .inr h

end L2

namespace L2
open PySem PySem.Spec PyProof.Rows

section
variable {κ : Type} [DecidableEq κ]
noncomputable def valV (kvs : List (κ × V)) (k : κ) : Option V := (kvs.find? fun kv => decide (kv.1 = k)).map (·.2)
noncomputable def putK (kvs : List (κ × V)) (k : κ) (v : V) : List (κ × V) :=
  if (kvs.any fun kv => decide (kv.1 = k)) = true then kvs.map (fun kv => if kv.1 = k then (kv.1, v) else kv) else kvs ++ [(k, v)]
theorem valV_pos {p : κ × V} {r : List (κ × V)} {k : κ} (e : p.1 = k) : valV (p :: r) k = some p.2 := by simp [valV, List.find?_cons, e]
theorem valV_neg {p : κ × V} {r : List (κ × V)} {k : κ} (e : ¬ p.1 = k) : valV (p :: r) k = valV r k := by simp [valV, List.find?_cons, e]
theorem length_putK (kvs : List (κ × V)) (k : κ) (v : V) : (putK kvs k v).length ≤ kvs.length + 1 := by
  unfold putK
  split
  · rw [List.length_map]; (first | lia | omega)
  · rw [List.length_append, List.length_cons, List.length_nil]; (first | lia | omega)
theorem RelO.isSome_eq {o : Option V} {u : Option Value} (r : RelO o u) : o.isSome = u.isSome := by
  cases o with
  | none => cases u with
    | none => rfl
    | some _ => exact (show False from r).elim
  | some _ => cases u with
    | none => exact (show False from r).elim
    | some _ => rfl
theorem RelO.getD {o : Option V} {u : Option Value} {d : V} {d' : Value} (r : RelO o u) (rd : RelV d d') : RelV (o.getD d) (u.getD d') := by
  cases o with
  | none => cases u with
    | none => exact rd
    | some _ => exact (show False from r).elim
  | some _ => cases u with
    | none => exact (show False from r).elim
    | some _ => exact r

theorem KV.val {kvs : List (κ × V)} {vs : List (κ × Value)} (r : KV kvs vs) (k : κ) : RelO (valV kvs k) (valueAt vs k) := by
  unfold KV at r
  induction r with
  | nil => exact True.intro
  | @cons p q ps qs h t ih =>
    obtain ⟨h1, h2⟩ := h
    by_cases e : p.1 = k
    · have e' : q.1 = k := h1.symm.trans e
      have b : valueAt (q :: qs) k = some q.2 := by simp [valueAt, List.find?_cons, e']
      rw [valV_pos e, b]; exact h2
    · have e' : ¬ q.1 = k := fun z => e (h1.trans z)
      have b : valueAt (q :: qs) k = valueAt qs k := by simp [valueAt, List.find?_cons, e']
      rw [valV_neg e, b]; exact ih
theorem KV.any {kvs : List (κ × V)} {vs : List (κ × Value)} (r : KV kvs vs) (k : κ) : (kvs.any fun kv => decide (kv.1 = k)) = vs.any fun kv => decide (kv.1 = k) := by
  unfold KV at r
  induction r with
  | nil => rfl
  | cons h t ih => rw [List.any_cons, List.any_cons, ih, h.1]
theorem KV.repl {kvs : List (κ × V)} {vs : List (κ × Value)} (r : KV kvs vs) (k : κ) {y : V} {u : Value} (ry : RelV y u) :
    KV (kvs.map fun kv => if kv.1 = k then (kv.1, y) else kv) (vs.map fun kv => if kv.1 = k then (kv.1, u) else kv) := by
  unfold KV at r ⊢
  induction r with
  | nil => exact .nil
  | @cons p q ps qs h t ih =>
    rw [List.map_cons, List.map_cons]
    refine .cons ?_ ih
    obtain ⟨h1, h2⟩ := h
    by_cases e : p.1 = k
    · rw [if_pos e, if_pos (h1.symm.trans e)]; exact ⟨h1, ry⟩
    · rw [if_neg e, if_neg (fun z => e (h1.trans z))]; exact ⟨h1, h2⟩
theorem KV.put {kvs : List (κ × V)} {vs : List (κ × Value)} (r : KV kvs vs) (k : κ) {y : V} {u : Value} (ry : RelV y u) : KV (putK kvs k y) (stored vs k u) := by
  unfold putK stored
  rw [r.any k]
  by_cases e : (vs.any fun kv => decide (kv.1 = k)) = true
  · rw [if_pos e, if_pos e]; exact r.repl k ry
  · rw [if_neg e, if_neg e]; exact Paired.snoc r ⟨rfl, ry⟩
end


theorem kV_is {P : Program} {w : World} {k : Key} {u : Value} (r : RelV (kV k) u) : (mixKind P w).is k u = true := by
  cases k with
  | inl i => obtain ⟨t, e⟩ := (show ∃ t, u = Value.int i t from r); subst e; exact mixKind_int P w i t
  | inr x => obtain ⟨t, e⟩ := (show ∃ t, u = Value.str x t from r); subst e; exact mixKind_str P w x t
theorem items_are {P : Program} {w : World} : ∀ {ks : List Key} {us : List Value}, Vals (ks.map kV) us → ItemsAre (mixKind P w) ks us
  | [], _, r => by rw [List.map_nil] at r; cases r; exact .nil
  | k :: ks, _, r => by
    rw [List.map_cons] at r
    cases r with
    | cons h t => exact .cons (kV_is h) (items_are t)

noncomputable abbrev KT (H : Hp) : List (List Key × V) → List (List Key × Addr × Value) → Prop := Paired fun p q => p.1 = q.1 ∧ H q.2.1 = some (.tup (p.1.map kV)) ∧ RelV p.2 q.2.2
theorem KT.val {H : Hp} {kvs : List (List Key × V)} {xs : List (List Key × Addr × Value)} (r : KT H kvs xs) (k : List Key) : RelO (valV kvs k) ((atKey xs k).map (·.2)) := by
  induction r with
  | nil => exact True.intro
  | @cons p q ps qs h t ih =>
    obtain ⟨h1, _, h2⟩ := h
    by_cases e : p.1 = k
    · have e' : q.1 = k := h1.symm.trans e
      have b : atKey (q :: qs) k = some q.2 := by simp [atKey, List.find?_cons, e']
      rw [valV_pos e, b]; exact h2
    · have e' : ¬ q.1 = k := fun z => e (h1.trans z)
      have b : atKey (q :: qs) k = atKey qs k := by simp [atKey, List.find?_cons, e']
      rw [valV_neg e, b]; exact ih
section
variable {P : Program} {w : World} {H : Hp} {h : Heap} {a : Addr}
theorem rd_of {u : HO} (ok : HOk P w H h) (e : Rd H a u) : ObjOk P w H h a u := e.ok ok
theorem dk_rd {kvs : List (Key × V)} (ok : HOk P w H h) (e : Rd H a (.dK kvs)) : kvs.length ≤ sizeLine ∧ (a == sysModules) = false ∧ ∃ vs, KV kvs vs ∧ h.DictOf (mixKind P w) a vs :=
  show ObjOk P w H h a (.dK kvs) from rd_of ok e
theorem dk_of {kvs : List (Key × V)} (ok : HOk P w H h) (e : H a = some (.dK kvs)) : kvs.length ≤ sizeLine ∧ (a == sysModules) = false ∧ ∃ vs, KV kvs vs ∧ h.DictOf (mixKind P w) a vs := dk_rd ok (.inl e)
theorem key_of {ks : List Key} (ok : HOk P w H h) (e : H a = some (.tup (ks.map kV))) : (tupleKind (mixKind P w)).is h ks a := by
  obtain ⟨_, its, r, o, h1, h2, n, h3⟩ := (show ObjOk P w H h a (.tup (ks.map kV)) from ok a _ e)
  exact ⟨o, its.toArray, n, h1, h2, h3, by simpa using items_are r⟩
theorem dt_rd {kvs : List (List Key × V)} (ok : HOk P w H h) (e : Rd H a (.dT kvs)) : kvs.length ≤ sizeLine ∧ (a == sysModules) = false ∧
    ∃ xs, KT H kvs xs ∧ h.DictOfH (tupleKind (mixKind P w)) a xs := by
  obtain ⟨z, y, xs, r, o, es, ep, h1, h2, h3, h4, h5⟩ := (show ObjOk P w H h a (.dT kvs) from rd_of ok e)
  refine ⟨z, y, xs, r, o, es, ep, h1, h2, h3, h4, fun x hx => ?_, h5⟩
  have all : ∀ {l : List (List Key × V)} {m : List (List Key × Addr × Value)}, KT H l m → ∀ x ∈ m, (tupleKind (mixKind P w)).is h x.1 x.2.1 := by
    intro l m q
    induction q with
    | nil => intro x hx; exact nomatch hx
    | @cons p q ps qs hq t ih =>
      intro x hx
      rcases List.mem_cons.mp hx with e | hx
      · subst e
        exact key_of ok (by rw [← hq.1]; exact hq.2.1)
      · exact ih x hx
  exact all r x hx
end

noncomputable def DGet (H : Hp) (a : Addr) (y : V) (r : Option V) : Prop :=
  (∃ kvs k, Rd H a (.dK kvs) ∧ y = kV k ∧ r = valV kvs k) ∨ ∃ kvs k b, Rd H a (.dT kvs) ∧ y = .ref b ∧ H b = some (.tup (k.map kV)) ∧ r = valV kvs k
theorem DGet.k {H : Hp} {a : Addr} {kvs : List (Key × V)} {k : Key} (e : H a = some (.dK kvs)) : DGet H a (kV k) (valV kvs k) := .inl ⟨kvs, k, .inl e, rfl, rfl⟩
section
variable {X : Cx} {pins : List (Addr × Obj)} {σ : St} {H : Hp} {s : Shared} {a : Addr} {y v : V} {u r : Value} {o : Option V} {A : Around} {E : Value → Shared → Prop}

theorem Inv.big (I : Inv X pins σ H s) : sysModules < s.heap.objs.size := by
  have h : mainGlobals < s.heap.objs.size := (I.mod.glob.keeps I.bk).lt
  exact Nat.lt_trans (by decide) h

theorem d_write {h' : Heap} {t' : Nat} {ob : HO} (I : Inv X pins σ H s) (mu : Mut (H a)) (hs : Heap.SameBut a s.heap h') (he : ∃ q, h'.get? a = some q) (new : ObjOk X.prog X.w (upd H a ob) h' a ob) :
    Inv X pins σ (upd H a ob) { s with heap := h', toks := t' } :=
  I.write (x := a) (e := a) mu (.inl rfl) (fun b q hb z => (hs.2 b hb).trans z) he new
theorem dk_new {P : Program} {w : World} {H' : Hp} {h' : Heap} {kvs : List (Key × V)} {vs : List (Key × Value)} (z : kvs.length ≤ sizeLine) (hd : (a == sysModules) = false) (rel : KV kvs vs) (dd : h'.DictOf (mixKind P w) a vs) :
    ObjOk P w H' h' a (.dK kvs) := ⟨z, hd, vs, rel, dd⟩
end

section
variable {X : Cx} {pins : List (Addr × Obj)} {σ : St} {H : Hp} {s : Shared} {a : Addr} {kvs : List (Key × V)} {k : Key} {u : Value} {A : Around} {E : Value → Shared → Prop}
end


section
variable {X : Cx} {o i e value : Expr} {pos pos' tpos : Pos} {td ty tv : TE}
end


theorem dk_empty {P : Program} {w : World} {H : Hp} (h : Heap) (hb : sysModules < h.objs.size) : ObjOk P w H (h.push { cls := .type "dict", data := .dict #[] }) h.objs.size (.dK []) :=
  ⟨Nat.zero_le _, beq_eq_false_iff_ne.mpr (Ne.symm (Nat.ne_of_lt hb)), [], .nil, Heap.DictOf.new h⟩
section
variable {X : Cx} {pos : Pos}
end

noncomputable def tPairs : List (TE × TE) → St → Hp → (List (V × V) → Hp → Prop) → Prop
  | [], _, H, Q => Q [] H
  | (tk, tv) :: r, σ, H, Q => tk σ H fun x H1 => tv σ H1 fun y H2 => tPairs r σ H2 fun ps H3 => Q ((x, y) :: ps) H3
noncomputable abbrev VV : List (V × V) → List (Value × Value) → Prop := Paired fun p q => RelV p.1 q.1 ∧ RelV p.2 q.2
noncomputable def PPs (X : Cx) (pos : Pos) (keys : List (Option Expr)) (values : List Expr) (trs : List (TE × TE)) : Prop :=
  ∀ (pins : List (Addr × Obj)) (s : Shared) (σ : St) (H : Hp) (Q : List (V × V) → Hp → Prop), Inv X pins σ H s → tPairs trs σ H Q →
    wpAny (model X.prog X.w) X.A (evalPairs (pairTrees keys values X.env pos)) (fun vs s' => ∃ ps H', Inv X pins σ H' s' ∧ VV ps vs ∧ Q ps H') X.xe s
theorem pps_nil {X : Cx} {pos : Pos} : PPs X pos [] [] [] := fun pins s σ H Q I h => pairTrees_nil_walk ⟨[], H, I, .nil, h⟩
theorem pps_cons {X : Cx} {pos : Pos} {k v : Expr} {ks : List (Option Expr)} {vs : List Expr} {tk tv : TE} {trs : List (TE × TE)} (hk : PE X k tk) (hv : PE X v tv) (hr : PPs X pos ks vs trs) :
    PPs X pos (some k :: ks) (v :: vs) ((tk, tv) :: trs) := fun pins s σ H Q I h =>
  pairTrees_cons_walk (thn (hk pins s σ H _ I h) fun u s1 ⟨x, H1, I1, rx, q1⟩ => thn (hv pins s1 σ H1 _ I1 q1) fun w2 s2 ⟨y, H2, I2, ry, q2⟩ =>
    thn (hr pins s2 σ H2 _ I2 q2) fun ws s3 ⟨ps, H3, I3, rel, q3⟩ => ⟨(x, y) :: ps, H3, I3, .cons ⟨rx, ry⟩ rel, q3⟩)

noncomputable def mergeK (kvs more : List (Key × V)) : List (Key × V) := more.foldl (fun acc kv => putK acc kv.1 kv.2) kvs
theorem KV.merge : ∀ {more : List (Key × V)} {rs : List (Key × Value)} {kvs : List (Key × V)} {vs : List (Key × Value)}, KV more rs → KV kvs vs → KV (mergeK kvs more) (merged vs rs) := by
  intro more rs kvs vs r
  unfold KV at r
  induction r generalizing kvs vs with
  | nil => intro q; exact q
  | @cons p q ps qs h t ih =>
    intro r0
    have e : KV (putK kvs p.1 p.2) (stored vs q.1 q.2) := by
      have := r0.put p.1 h.2
      rw [← h.1]; exact this
    exact ih e
theorem length_mergeK : ∀ (more kvs : List (Key × V)), (mergeK kvs more).length ≤ kvs.length + more.length
  | [], kvs => by show kvs.length ≤ kvs.length + 0; (first | lia | omega)
  | p :: r, kvs => by
    have h1 := length_mergeK r (putK kvs p.1 p.2)
    have h2 := length_putK kvs p.1 p.2
    show (mergeK (putK kvs p.1 p.2) r).length ≤ _
    rw [List.length_cons]; (first | lia | omega)
theorem carries_of {P : Program} {w : World} : ∀ {kvs : List (Key × V)} {ws : List (Value × Value)}, VV (kvs.map fun kv => (kV kv.1, kv.2)) ws → ∃ rs, Carries (mixKind P w) ws rs ∧ KV kvs rs
  | [], _, r => by rw [List.map_nil] at r; cases r; exact ⟨[], True.intro, .nil⟩
  | p :: kvs, _, r => by
    rw [List.map_cons] at r
    cases r with
    | @cons a b as bs h t =>
      obtain ⟨rs, c, q⟩ := carries_of (P := P) (w := w) t
      obtain ⟨b1, b2⟩ := b
      exact ⟨(p.1, b2) :: rs, ⟨kV_is h.1, rfl, c⟩, .cons ⟨rfl, h.2⟩ q⟩
noncomputable def tDisp (trs : List (TE × TE)) : TE := fun σ H Q => ∀ p, H p = none → tPairs trs σ (upd H p (.dK [])) fun ps H2 => H2 p = some (.dK []) ∧ ∃ kvs : List (Key × V), ps = kvs.map (fun kv => (kV kv.1, kv.2)) ∧ kvs.length ≤ 15 ∧ Q (.ref p) (upd H2 p (.dK (mergeK [] kvs)))
theorem pe_disp {X : Cx} {pos : Pos} {keys : List (Option Expr)} {values : List Expr} {trs : List (TE × TE)} (h : PPs X pos keys values trs) (hall : keys.all (·.isSome) = true) (hl : keys.length = values.length) (h0 : keys ≠ [])
    (h15 : keys.length ≤ 15) : PE X (.Dict keys values pos) (tDisp trs) := by
  intro pins s σ H Q I q
  have hn := I.hok.fresh (Nat.le_refl s.heap.objs.size)
  have I1 := I.laid (a := s.heap.objs.size) (o := .dK []) (h' := s.heap.push { cls := .type "dict", data := .dict #[] }) (t' := s.toks) (fun _ _ q => Heap.get?_push_of_some _ q) (Nat.le_refl _) (dk_empty s.heap I.big)
  refine wpAny_Dict_walk (knd := mixKind X.prog X.w) hall hl h0 h15 (thn (h pins _ σ _ _ I1 (q _ hn)) fun ws s2 ⟨ps, H2, I2, rel, e, kvs, ep, lk, q2⟩ => ?_)
  subst ep
  obtain ⟨rs, c, rk⟩ := carries_of (P := X.prog) (w := X.w) rel
  obtain ⟨z, hd, vs0, r0, dd⟩ := dk_of I2.hok e
  cases r0
  refine ⟨rs, c, dd, fun h' dd' hs => ⟨.ref s.heap.objs.size, _, ?_, rfl, q2⟩⟩
  have hz : (mergeK [] kvs).length ≤ sizeLine := by
    have h1 := length_mergeK kvs []
    rw [List.length_nil] at h1
    rw [sizeLine_eq]; (first | lia | omega)
  have he : ∃ q, h'.get? s.heap.objs.size = some q := let ⟨q, _, _, hq, _⟩ := dd'; ⟨q, hq⟩
  exact d_write I2 (by rw [e]; exact True.intro) hs he (dk_new hz hd (rk.merge .nil) dd')


structure M2 (X : Cx) (o : Expr) (m : Str) (apos : Pos) (e f : Expr) (cpos : Pos) : Prop where
  base : attributeBase o m X.env (eval o X.env) = eval o X.env
  few : ((backTo cpos (starEach [e, f] X.env)).all (fun x => !x.1) && (backToKw cpos (keywordEach [] X.env)).all (fun x => x.1.isSome)
    && decide (([e, f] : List Expr).length + ([] : List Keyword).length + (if ([] : List Keyword).isEmpty then 0 else 1) < 30)) = true
  line : (apos.endLine == cpos.line) = true
  trees : backTo cpos (starEach [e, f] X.env) = [(false, eval e X.env), (false, eval f X.env)]

noncomputable def IsD (H : Hp) (a : Addr) : Prop := (∃ kvs, Rd H a (.dK kvs)) ∨ ∃ kvs, Rd H a (.dT kvs)
theorem isD_at {X : Cx} {pins : List (Addr × Obj)} {σ : St} {H : Hp} {s : Shared} {a : Addr} (I : Inv X pins σ H s) (d : IsD H a) :
    s.TypeIs (.ref a) "dict" ∧ (∀ b, Value.ref a = .ref b → ∃ ob, s.heap.get? b = some ob ∧ ob.dict = none) ∧ (a == sysModules) = false := by
  rcases d with ⟨kvs, e⟩ | ⟨kvs, e⟩
  · obtain ⟨_, hd, vs, _, dd⟩ := dk_rd I.hok e
    refine ⟨dd.typeIs, fun b q => ?_, hd⟩
    cases q
    obtain ⟨ob, _, _, h1, h2, _⟩ := dd
    exact ⟨ob, h1, h2.2.1⟩
  · obtain ⟨_, hd, xs, _, dd⟩ := dt_rd I.hok e
    refine ⟨dd.typeIs, fun b q => ?_, hd⟩
    cases q
    obtain ⟨ob, _, _, h1, h2, _⟩ := dd
    exact ⟨ob, h1, h2.2.1⟩

section
variable {X : Cx} {pins : List (Addr × Obj)} {σ : St} {H : Hp} {s : Shared} {a : Addr} {y d : V} {u r : Value} {o : Option V} {A : Around} {E : Value → Shared → Prop}
theorem d_get2 {Q : Value → Shared → Prop} (hu : A.units + 1 < cLine) (I : Inv X pins σ H s) (g : DGet H a y o) (ry : RelV y u) (rd : RelV d r) (h : ∀ w' s', Inv X pins σ H s' → RelV (o.getD d) w' → Q w' s') :
    wpAny (model X.prog X.w) A (call (.builtin "dict.get") [.ref a, u, r]) Q E s := by
  rcases g with ⟨kvs, k, e, ey, l⟩ | ⟨kvs, k, b, e, ey, eb, l⟩
  · subst ey
    obtain ⟨z, hd, vs, rel, dd⟩ := dk_rd I.hok e
    refine call_meetsIn PySem.F.slot_dict_get dd.typeIs PySem.F.entry_dict_get (PySem.F.args_dict_get_3 _ _ _) (meets_dict_get_default (mixKind X.prog X.w) a (kV_is ry) hd r) ⟨_, dd.mapOf, h _ _ (I.tok _) ?_⟩
    rw [l]
    exact (rel.val k).getD rd
  · subst ey
    cases (show u = Value.ref b from ry)
    obtain ⟨z, hd, xs, rel, dd⟩ := dt_rd I.hok e
    refine call_meetsIn PySem.F.slot_dict_get dd.typeIs PySem.F.entry_dict_get (PySem.F.args_dict_get_3 _ _ _) (meetsH_dict_get_default (tupleKind (mixKind X.prog X.w)) a b hd r) ⟨tupleKind_room_in1 hu, k, xs, key_of I.hok eb, dd, h _ _ (I.tok _) ?_⟩
    rw [l]
    exact (rel.val k).getD rd
end

noncomputable def tDGet2 (td ty tx : TE) : TE := fun σ H Q => td σ H fun x H1 => ∃ a, x = .ref a ∧ IsD H1 a ∧ ty σ H1 fun y H2 => tx σ H2 fun z H3 => ∃ o, DGet H3 a y o ∧ Q (o.getD z) H3
section
variable {X : Cx} {o e f : Expr} {apos cpos : Pos} {td ty tx : TE}
theorem pe_dget2 (hu : X.A.units + 1 < cLine) (ho : PE X o td) (he : PE X e ty) (hf : PE X f tx) (m : M2 X o "get" apos e f cpos) : PE X (.Call (.Attribute o "get" apos) [e, f] [] cpos) (tDGet2 td ty tx) := by
  intro pins s σ H Q I h
  refine wpAny_Call_method m.base m.few m.line PySem.F.plainAttrs_dict PySem.F.slot_dict_get PySem.F.type_dict_get (thn (ho pins s σ H _ I h) fun u s1 ⟨x, H1, I1, rx, a, ex, d, q1⟩ => ?_)
  subst ex
  obtain rfl : u = Value.ref a := rx
  obtain ⟨t1, t2, _⟩ := isD_at I1 d
  refine ⟨t1, t2, ?_⟩
  rw [m.trees]
  refine Calls.callWith_builtin rfl (Calls.evalArgs_plain (Calls.spliced_cons (thn (he pins s1 σ H1 _ I1 q1) fun iv s2 ⟨y, H2, I2, ry, q2⟩ =>
    Calls.spliced_cons (thn (hf pins s2 σ H2 _ I2 q2) fun fv s3 ⟨z, H3, I3, rz, ov, g, q3⟩ => Calls.spliced_nil ?_))))
  exact d_get2 hu I3 g ry rz fun w' s4 I4 rw' => ⟨_, H3, I4, rw', q3⟩
end

section
variable {X : Cx} {pins : List (Addr × Obj)} {σ : St} {H : Hp} {s : Shared} {a : Addr} {kvs : List (Key × V)} {A : Around} {E : Value → Shared → Prop}
end


section
variable {X : Cx} {pins : List (Addr × Obj)} {σ : St} {H : Hp} {s : Shared} {a : Addr} {y : V} {u : Value} {A : Around} {E : Value → Shared → Prop}
end
end L2

namespace L2
open PySem PySem.Spec PyProof.Rows
section
variable {X : Cx}
end
section
variable {κ : Type} [DecidableEq κ]
end
end L2

namespace L2
open PySem PySem.Spec PyProof.Rows

noncomputable def closList (env : Env) : List (Str × NameKind) → List (Str × Addr) → List (Str × Addr)
  | [], cs => cs
  | (n, k) :: r, cs => closList env r (if k == .free then (match env.cells.lookup n with | some c => (n, c) :: cs | none => cs) else cs)
theorem closureFor_list {env : Env} {scope : Scope} (h : ∀ x ∈ scope.names, x.2 = .free → ∃ c, env.cells.lookup x.1 = some c) : closureFor scope env = pure (closList env scope.names []) := by
  unfold closureFor
  have key : ∀ (names : List (Str × NameKind)) (cs : List (Str × Addr)), (∀ x ∈ names, x.2 = .free → ∃ c, env.cells.lookup x.1 = some c) →
      (forIn names cs (fun (x : Str × NameKind) (r : List (Str × Addr)) => (match x with | (name, kind) => if (kind == NameKind.free) = true then (do let c ← cellOf env name; pure (ForInStep.yield ((name, c) :: r))) else pure (ForInStep.yield r) : Sem (ForInStep (List (Str × Addr)))))) = (pure (closList env names cs) : Sem (List (Str × Addr))) := by
    intro names
    induction names with
    | nil => intro cs _; rfl
    | cons x r ih =>
      intro cs hx
      obtain ⟨n, k⟩ := x
      have hr := fun y hy => hx y (List.mem_cons_of_mem _ hy)
      rw [List.forIn_cons]
      by_cases hk : k = .free
      · subst hk
        obtain ⟨c, hc⟩ := hx (n, .free) List.mem_cons_self rfl
        have hc' : env.cells.lookup n = some c := hc
        have e1 : cellOf env n = pure c := by unfold cellOf; rw [hc']
        simp only [beq_self_eq_true, if_true, e1, pure_bind, closList, hc']
        exact ih _ hr
      · have hb : (k == NameKind.free) = false := by simpa using hk
        simp only [hb, Bool.false_eq_true, if_false, pure_bind, closList]
        exact ih _ hr
  have := key scope.names [] h
  simpa using this
theorem closList_mem {env : Env} : ∀ {names : List (Str × NameKind)} {cs : List (Str × Addr)} {x : Str} {c : Addr}, (x, c) ∈ closList env names cs → (x, c) ∈ cs ∨ env.cells.lookup x = some c
  | [], cs, x, c, h => .inl h
  | (n, k) :: r, cs, x, c, h => by
    rcases closList_mem (names := r) h with h | h
    · by_cases hk : (k == NameKind.free) = true
      · rw [if_pos hk] at h
        cases e : env.cells.lookup n with
        | none => rw [e] at h; exact .inl h
        | some d =>
          rw [e] at h
          rcases List.mem_cons.mp h with z | z
          · cases z; exact .inr e
          · exact .inl z
      · rw [if_neg hk] at h; exact .inl h
    · exact .inr h
theorem closList_has {env : Env} : ∀ {names : List (Str × NameKind)} {cs : List (Str × Addr)} {x : Str}, ((∃ c, (x, c) ∈ cs) ∨ ((x, NameKind.free) ∈ names ∧ ∃ c, env.cells.lookup x = some c)) → ∃ c, (x, c) ∈ closList env names cs
  | [], cs, x, h => by
    rcases h with h | ⟨h, _⟩
    · exact h
    · cases h
  | (n, k) :: r, cs, x, h => by
    refine closList_has (names := r) ?_
    by_cases hk : (k == NameKind.free) = true
    · rw [if_pos hk]
      rcases h with ⟨c, h⟩ | ⟨h, c, hc⟩
      · cases e : env.cells.lookup n with
        | none => exact .inl ⟨c, h⟩
        | some d => exact .inl ⟨c, List.mem_cons_of_mem _ h⟩
      · rcases List.mem_cons.mp h with z | z
        · cases z
          rw [hc]
          exact .inl ⟨c, List.mem_cons_self⟩
        · exact .inr ⟨z, c, hc⟩
    · rw [if_neg hk]
      rcases h with h | ⟨h, c, hc⟩
      · exact .inl h
      · rcases List.mem_cons.mp h with z | z
        · cases z; exact absurd (by rfl : (NameKind.free == NameKind.free) = true) hk
        · exact .inr ⟨z, c, hc⟩
theorem lookup_of_mem {κ β : Type} [BEq κ] [LawfulBEq κ] : ∀ {l : List (κ × β)} {x : κ} {c : β}, (x, c) ∈ l → ∃ d, l.lookup x = some d
  | (n, d) :: r, x, c, h => by
    by_cases e : x = n
    · subst e; exact ⟨d, by simp [List.lookup_cons]⟩
    · rcases List.mem_cons.mp h with z | z
      · cases z; exact absurd rfl e
      · obtain ⟨d', hd⟩ := lookup_of_mem z
        refine ⟨d', ?_⟩
        have : (x == n) = false := by simpa using e
        simp [List.lookup_cons, this, hd]
theorem relabel_lookup {scope : Scope} {env : Env} {x : Str} : (relabel scope env).names.lookup x = (scope.names.lookup x).map fun k => if (k == .free && env.scope.kind == .function && env.kindOf x == some .cell) then .cell else k := by
  unfold relabel
  show List.lookup x (scope.names.map fun (n, k) => if (k == .free && env.scope.kind == .function && env.kindOf n == some .cell) then (n, .cell) else (n, k)) = _
  generalize scope.names = l
  induction l with
  | nil => rfl
  | cons p r ih =>
    obtain ⟨n, k⟩ := p
    rw [List.map_cons]
    by_cases e : x = n
    · subst e
      by_cases hc : (k == NameKind.free && env.scope.kind == .function && env.kindOf x == some .cell) = true
      · rw [show (match (x, k) with | (n, k) => if (k == .free && env.scope.kind == .function && env.kindOf n == some .cell) = true then (n, NameKind.cell) else (n, k)) = (x, .cell) from if_pos hc]
        rw [List.lookup_cons, List.lookup_cons, beq_self_eq_true]
        show some NameKind.cell = some (if _ then _ else _)
        rw [if_pos hc]
      · rw [show (match (x, k) with | (n, k) => if (k == .free && env.scope.kind == .function && env.kindOf n == some .cell) = true then (n, NameKind.cell) else (n, k)) = (x, k) from if_neg hc]
        rw [List.lookup_cons, List.lookup_cons, beq_self_eq_true]
        show some k = some (if _ then _ else _)
        rw [if_neg hc]
    · have hb : (x == n) = false := by simpa using e
      by_cases hc : (k == NameKind.free && env.scope.kind == .function && env.kindOf n == some .cell) = true
      · rw [show (match (n, k) with | (n, k) => if (k == .free && env.scope.kind == .function && env.kindOf n == some .cell) = true then (n, NameKind.cell) else (n, k)) = (n, .cell) from if_pos hc]
        simp only [List.lookup_cons, hb]; exact ih
      · rw [show (match (n, k) with | (n, k) => if (k == .free && env.scope.kind == .function && env.kindOf n == some .cell) = true then (n, NameKind.cell) else (n, k)) = (n, k) from if_neg hc]
        simp only [List.lookup_cons, hb]; exact ih

noncomputable abbrev compX (X : Cx) (pins : List (Addr × Obj)) (N' : List Str) (scope : Scope) (cl : List (Str × Addr)) (C : Addr) (fp : List Addr) (s : Shared) (H : Hp) : Cx :=
  { X with N := N', s₀ := s, H₀ := H, env := compEnvC scope cl C X.env, outer := X.stack, stack := X.stack, ex := fp, fn := fun _ => false, pn := X.pn ++ pins, xe := fun _ _ => False }

noncomputable def PIfs (X : Cx) (ifs : List Expr) (tt : TT) : Prop :=
  ∀ (pins : List (Addr × Obj)) (s : Shared) (σ : St) (H : Hp) (Q : Bool → Hp → Prop), Inv X pins σ H s → tt σ H Q →
    wpAny (model X.prog X.w) X.A (forIn ifs true fun c r => if r = true then do let ok ← isTrue c X.env (eval c X.env); pure (ForInStep.yield ok) else pure (ForInStep.yield r)) (TP X pins σ Q) X.xe s
noncomputable def tYes : TT := fun _ H Q => Q true H
theorem pifs_nil {X : Cx} : PIfs X [] tYes := fun _ _ _ H _ I h => wpAny_tests_nil ⟨H, I, h⟩
noncomputable def compR (J : It) (g : TG) (tt : TT) (te : TE) (σ0 : St) (H0 : Hp) (R : List V → Hp → Prop) : Prop :=
  ∃ W : Nat → Nat → St → List V → Hp → Prop, (∃ m, W 0 m σ0 [] H0) ∧ ∀ i m σ xs H, W i m σ xs H → xs.length < sizeLine ∧
    ((J.stop i H ∧ R xs H) ∨ (J.go i H ∧ ∃ N : St → List V → Hp → Prop, (∀ σ' xs' H', N σ' xs' H' → ∃ m', m' < m ∧ W (i + 1) m' σ' xs' H') ∧
      ∀ x H', J.yld i H x H' → g x σ H' fun σ2 H2 => tt σ2 H2 fun b H3 => if b = true then te σ2 H3 fun v H4 => N σ2 (xs ++ [v]) H4 else N σ2 xs H3))
noncomputable def compS (n : Nat) (fr : List Nat) (σ : St) : St := List.replicate n none ++ fr.map fun j => (σ[j]?).join

section
variable {X : Cx} {pins : List (Addr × Obj)} {σ : St} {H : Hp} {s : Shared} {tg elt iter : Expr} {ifs : List Expr} {scope : Scope} {pos : Pos} {it : Addr} {fp : List Addr} {tn : Nat → Heap → Prop} {J : It}
  {vars frs' : List Str} {fr : List Nat} {g : TG} {tt : TT} {te : TE}

structure CompScope (X : Cx) (scope : Scope) (vars frs' : List Str) (fr : List Nat) : Prop where
  kind : scope.kind = .function
  nocell : ∀ y ∈ scope.names, y.2 ≠ .cell
  names : ∀ x ∈ scope.names, x.2 = .local → scope.names.lookup x.1 = some .local
  frees : ∀ y ∈ scope.names, y.2 = .free → X.env.kindOf y.1 = some .cell ∨ X.env.kindOf y.1 = some .free
  fr : Paired (fun (x : Str) (j : Nat) => X.N[j]? = some x ∧ scope.names.lookup x = some .free) frs' fr

theorem Paired.get {α β : Type} {F : α → β → Prop} : ∀ {l₁ : List α} {l₂ : List β} {i : Nat} {a : α}, Paired F l₁ l₂ → l₁[i]? = some a → ∃ b, l₂[i]? = some b ∧ F a b
  | _, _, _, _, .nil, e => by simp at e
  | _, _, 0, _, .cons r _, e => by simp at e; subst e; exact ⟨_, rfl, r⟩
  | _, _, i + 1, a, .cons _ t, e => by
    obtain ⟨b, h1, h2⟩ := Paired.get (i := i) (a := a) t (by simpa using e)
    exact ⟨b, by simpa using h1, h2⟩

theorem Inv.notStk (I : Inv X pins σ H s) {b : Addr} (h1 : b ≠ X.env.locals) (h2 : b ∉ X.fs) : b ∉ frs X.stack := fun z => by
  rcases List.mem_cons.mp (I.stkSub b z) with e | e
  · exact h1 e
  · exact h2 e
theorem Inv.stkLt (I : Inv X pins σ H s) {b : Addr} (h : b ∈ frs X.stack) : b < s.heap.objs.size := by
  obtain ⟨_, o, e, _⟩ := I.stack.mem h
  exact Heap.lt_size e

theorem comp_block {RR : Value → Addr → Result → Shared → Prop} {E : Value → Shared → Prop} (I : Inv X pins σ H s) (hc : X.calm = true) (T : Turn X.prog X.w X.K tg J fp it tn) (st : tn 0 s.heap) (f : ∀ b ∈ fp, FpOk X pins H b)
    (S : CompScope X scope vars frs' fr) {R : List V → Hp → Prop} (r : compR J g tt te (compS vars.length fr σ) H R)
    (hb : ∀ (cl : List (Str × Addr)) (C : Addr), PG (compX X pins (vars ++ frs') scope cl C fp s H) tg g ∧ PIfs (compX X pins (vars ++ frs') scope cl C fp s H) ifs tt ∧ PE (compX X pins (vars ++ frs') scope cl C fp s H) elt te)
    (fin : ∀ (D C : Addr) (s' : Shared) (H' : Hp) (xs : List V), H' D = none → xs.length < sizeLine → R xs H' → Inv X pins σ (upd H' D (.lst xs)) s' → FpOk X pins (upd H' D (.lst xs)) C → (∃ m, s'.heap.Ns C m) → RR (.ref D) C (.ok .next) s') :
    wpAny (model X.prog X.w) X.A (newList []) (fun acc s₃ => wpAny (model X.prog X.w) X.A (newFunctionEnv scope X.env.globals (closList X.env scope.names []) [] X.env.qual none .none (some X.env)) (fun cenv s₄ =>
      codeAny (model X.prog X.w) X.A (.compStart (.ListComp elt [⟨tg, iter, ifs, 0⟩] scope pos) 0 (.ref it) acc { cenv with scope := relabel scope X.env }) (RR acc cenv.locals) s₄) E s₃) E s := by
  refine wpAny_newObj_type (wpAny_newFunctionEnv S.nocell (by intro y hy; simp at hy) (fun h₁ hns₁ hsb₁ => ?_) S.kind)
  dsimp only at hns₁ hsb₁ ⊢
  generalize hH2 : s.heap.push { cls := .type "list", dict := none, data := .seq ([] : List Value).toArray } = H2 at hns₁ hsb₁ ⊢
  have hC : H2.objs.size = s.heap.objs.size + 1 := by rw [← hH2, Heap.size_push]
  -- D = s.heap.objs.size, C = H2.objs.size
  have hDC : s.heap.objs.size ≠ H2.objs.size := by (first | lia | omega)
  have below : ∀ b, b < s.heap.objs.size → b ≠ H2.objs.size ∧ b ≠ s.heap.objs.size := fun b hb => ⟨by (first | lia | omega), by (first | lia | omega)⟩
  have old : ∀ b o, s.heap.get? b = some o → h₁.get? b = some o := fun b o e => hsb₁.extBut b o (below b (Heap.lt_size e)).1 (Heap.get?_push_of_some _ (hH2 ▸ Heap.get?_push_of_some _ e))
  have hacc : h₁.PlainList s.heap.objs.size #[] := ⟨_, hsb₁.extBut _ _ hDC (Heap.get?_push_of_some _ (hH2 ▸ Heap.get?_push_size _ rfl))⟩
  generalize hDe : s.heap.objs.size = D at *
  generalize hCe : H2.objs.size = C at *
  obtain ⟨hPG, hPI, hPE⟩ := hb (closList X.env scope.names []) C
  generalize hcle : closList X.env scope.names [] = cl at *
  have hcl1 : ∀ x c, cl.lookup x = some c → X.env.cells.lookup x = some c := fun x c e => by
    subst hcle
    rcases closList_mem (PySem.mem_of_lookup e) with z | z
    · cases z
    · exact z
  have hcl2 : ∀ x, scope.names.lookup x = some .free → ∃ c, cl.lookup x = some c := fun x e => by
    subst hcle
    obtain ⟨c, hc⟩ := I.ok.has x (S.frees (x, .free) (PySem.mem_of_lookup e) rfl)
    obtain ⟨d, hd⟩ := closList_has (env := X.env) (names := scope.names) (cs := []) (x := x) (.inr ⟨PySem.mem_of_lookup e, c, hc⟩)
    exact lookup_of_mem hd
  have kind' : ∀ x k, (compEnvC scope cl C X.env).kindOf x = some k → (k = .cell ∨ k = .free) → scope.names.lookup x = some .free := fun x k e hk => by
    have e' : (relabel scope X.env).names.lookup x = some k := e
    rw [relabel_lookup] at e'
    cases q : scope.names.lookup x with
    | none => rw [q] at e'; cases e'
    | some k0 =>
      rw [q, Option.map_some] at e'
      have e2 := Option.some.inj e'
      by_cases z : (k0 == NameKind.free && X.env.scope.kind == .function && X.env.kindOf x == some .cell) = true
      · have : k0 = .free := by
          simp only [Bool.and_eq_true, beq_iff_eq] at z
          exact z.1.1
        rw [this]
      · rw [if_neg z] at e2
        subst e2
        rcases hk with rfl | rfl
        · exact absurd rfl (S.nocell _ (PySem.mem_of_lookup q))
        · rfl
  have fpLt : ∀ b ∈ fp, @LT.lt Nat _ b D := fun b hb => by
    obtain ⟨o, e, _⟩ := T.obj 0 _ st b hb
    rw [← hDe]; exact Heap.lt_size e
  have ok' : (compX X pins (vars ++ frs') scope cl C fp s H).Ok := by
    refine ⟨I.ok.mod, ?_, I.ok.glob, I.ok.blt, ?_, ?_, ?_, ?_, I.ok.hd, I.ok.frames, .inl rfl, ?_, I.bs, Nat.le_trans I.ok.bsz I.sz, ?_, ?_, I.stack, I.stkFree⟩
    · exact S.kind
    · show s.heap.objs.size ≤ C
      (first | lia | omega)
    · intro x y c h1 h2
      exact I.ok.inj x y c (hcl1 x c h1) (hcl1 y c h2)
    · intro x hx
      rcases hx with hx | hx
      · exact hcl2 x (kind' x _ hx (.inl rfl))
      · exact hcl2 x (kind' x _ hx (.inr rfl))
    · intro x c h1
      exact absurd h1 Bool.false_ne_true
    · intro b hb
      have hlt := fpLt b hb
      refine ⟨fun z => ?_, fun x c e => (f b hb).2.2.2.2.1 x c (hcl1 x c e)⟩
      have z' : @Eq Nat b C := z
      (first | lia | omega)
    · intro b o e hb
      rcases (f b hb).2.2.2.1 with z | z
      · exact I.ok.noex b o e z
      · have h1 : @LT.lt Nat _ b X.base.objs.size := Heap.lt_size e
        have h2 := I.ok.bsz
        (first | lia | omega)
    · intro b hb
      exact I.notStk (f b hb).2.1 (f b hb).2.2.1
  obtain ⟨n0, hacc0⟩ := hacc
  -- the first state
  have pinC : ∀ p ∈ X.pn ++ pins, p.1 ≠ D ∧ p.1 ≠ C := fun p hp => by
    have h1 : @LT.lt Nat _ p.1 _ := Heap.lt_size (I.pin p hp).1
    exact ⟨fun z => by have z' : @Eq Nat p.1 D := z; (first | lia | omega), fun z => by have z' : @Eq Nat p.1 C := z; (first | lia | omega)⟩
  have hD0 : H D = none := I.hok.fresh (by (first | lia | omega))
  have hC0 : H C = none := I.hok.fresh (by (first | lia | omega))
  have stkD : D ∉ frs X.stack := fun z => by
    have h1 : @LT.lt Nat _ D _ := I.stkLt z
    (first | lia | omega)
  have I1 : Inv (compX X pins (vars ++ frs') scope cl C fp s H) [(D, { cls := .type "list", data := .seq ([] : List Value).toArray n0 })] (compS vars.length fr σ) H { s with heap := h₁, toks := s.toks + ([] : List (Str × Value)).length } := by
    refine ⟨ok', rfl, I.bare, Un.kept old, ⟨_, hns₁, fun i x v h1 h2 h3 => ?_⟩, fun x c e => ?_, hC0, fun x c e => I.freeC x c (hcl1 x c e), fun p hp => ?_, I.hok.kept old, ?_⟩
    · -- a name closed over
      have h1' : (vars ++ frs')[i]? = some x := h1
      unfold compS at h2
      by_cases hi : i < vars.length
      · rw [List.getElem?_append_left (by simpa using hi), List.getElem?_replicate] at h2
        split at h2 <;> cases h2
      · have hi' : vars.length ≤ i := by (first | lia | omega)
        rw [List.getElem?_append_right (by simpa using hi'), List.getElem?_map, List.length_replicate] at h2
        rw [List.getElem?_append_right hi'] at h1'
        obtain ⟨j, hj, hN, hfree⟩ := Paired.get S.fr h1'
        rw [hj] at h2
        have h2' : (σ[j]?).join = some v := by simpa using h2
        have h2'' : σ[j]? = some (some v) := by
          cases q : σ[j]? with
          | none => rw [q] at h2'; cases h2'
          | some w' => rw [q] at h2'; have : w' = some v := h2'; rw [this]
        have hk := S.frees (x, .free) (PySem.mem_of_lookup hfree) rfl
        have hk' : X.env.kindOf x = some .cell ∨ X.env.kindOf x = some .free := hk
        obtain ⟨m, hn, hl⟩ := I.loc
        obtain ⟨u, ru, lu⟩ := hl j x v hN h2'' (by rcases hk' with z | z; exact .inr (.inl z); exact .inr (.inr z))
        refine ⟨u, ru, .inr ⟨?_, ?_⟩⟩
        · have e : (compEnvC scope cl C X.env).kindOf x = some (if (NameKind.free == .free && X.env.scope.kind == .function && X.env.kindOf x == some .cell) = true then .cell else .free) := by
            show (relabel scope X.env).names.lookup x = _
            rw [relabel_lookup, hfree]; rfl
          by_cases z : (NameKind.free == .free && X.env.scope.kind == .function && X.env.kindOf x == some .cell) = true
          · rw [if_pos z] at e; exact .inl e
          · rw [if_neg z] at e; exact .inr e
        · obtain ⟨c, hc'⟩ := hcl2 x hfree
          refine ⟨c, hc', ?_⟩
          rcases lu with ⟨l1, _⟩ | ⟨_, c', e', z'⟩
          · rcases hk' with z | z
            · rw [z] at l1; cases l1
            · rw [z] at l1; cases l1
          · have := hcl1 x c hc'
            rw [e'] at this; cases this
            obtain ⟨o, ho, hd⟩ := z'
            exact ⟨o, old _ _ ho, hd⟩
    · obtain ⟨v, o, ho, hd⟩ := I.cell x c (hcl1 x c e)
      exact ⟨v, o, old _ _ ho, hd⟩
    · rcases List.mem_append.mp hp with hp | hp
      · obtain ⟨e1, e2, e3, e4, e5⟩ := I.pin p hp
        exact ⟨old _ _ e1, e2, (pinC p hp).2, I.notStk e3 e4, e5⟩
      · have e : p = (D, { cls := .type "list", data := .seq ([] : List Value).toArray n0 }) := by simpa using hp
        subst e
        exact ⟨hacc0, hD0, hDC, stkD, fun v z => by cases z⟩
    · show (compS vars.length fr σ).length = (vars ++ frs').length
      unfold compS
      rw [List.length_append, List.length_append, List.length_replicate, List.length_map, Paired.length S.fr]
  -- the loop
  have loop : ∀ s₃ : Shared, s₃ = { s with heap := h₁, toks := s.toks + ([] : List (Str × Value)).length } →
      codeAny (model X.prog X.w) X.A (.compLoop (.ListComp elt [⟨tg, iter, ifs, 0⟩] scope pos) 0 (.ref it) (.ref D) (compEnvC scope cl C X.env)) (RR (.ref D) C) s₃ := by
    rintro s₃ rfl
    obtain ⟨W, ⟨m0, w0⟩, turn⟩ := r
    have stat : ∀ {H' : Hp} {o : Obj}, (∀ b ∈ fp, H' b = none) → ∀ b ∈ fp, FpOk (compX X pins (vars ++ frs') scope cl C fp s H) [(D, o)] H' b := fun {H' o} hn b hb => by
      have hlt := fpLt b hb
      refine ⟨hn b hb, fun z => ?_, I.notStk (f b hb).2.1 (f b hb).2.2.1, .inl hb, fun x c e => (f b hb).2.2.2.2.1 x c (hcl1 x c e), fun p hp => ?_⟩
      · have z' : @Eq Nat b C := z
        (first | lia | omega)
      · rcases List.mem_append.mp hp with hp | hp
        · exact (f b hb).2.2.2.2.2 p hp
        · have e : p = (D, o) := by simpa using hp
          subst e
          intro z
          have z' : @Eq Nat D b := z
          (first | lia | omega)
    refine codeAny_loop rfl (fun n s' => ∃ i σ' xs H' its k, Inv (compX X pins (vars ++ frs') scope cl C fp s H) [(D, { cls := .type "list", data := .seq its k })] σ' H' s' ∧ Vals xs its.toList ∧ tn i s'.heap ∧ (∀ b ∈ fp, H' b = none) ∧ W i n σ' xs H') ?_ m0
      ⟨0, _, [], H, _, _, I1, .nil, T.keep _ _ _ st fun b _ o e => old b o e, fun b hb => (f b hb).1, w0⟩
    rintro n s3 ⟨i, σ3, xs, H3, its, k, I3, rv3, st3, fr3, w3⟩
    show wpAny _ X.A ((compTurn (.ListComp elt [⟨tg, iter, ifs, 0⟩] scope pos) 0 (.ref it) (.ref D) (compEnvC scope cl C X.env)).onRaise (fun x => do noteFrame x (compEnvC scope cl C X.env); theTreesLotGoes x)) _ _ s3
    refine wpAny_noted ?_
    rw [compTurn_list]
    refine wpAny_bind (wpAny_standAt (wpAny_bind ?_))
    obtain ⟨hsz, turn3⟩ := turn i n σ3 xs H3 w3
    rcases turn3 with ⟨stop, qn⟩ | ⟨go, N, hN, step⟩
    · refine thn (T.done (compX X pins (vars ++ frs') scope cl C fp s H) rfl rfl rfl hc i _ s3 σ3 H3 _ I3 (stat fr3) st3 stop) fun r s4 ⟨hr, I4⟩ => ?_
      subst hr
      refine wpAny_pure ?_
      -- out of the block
      obtain ⟨eD, nD, _⟩ := I4.pin (D, _) (List.mem_append_right _ List.mem_cons_self)
      have ne_of' : ∀ {b : Addr} {u : HO}, H3 b = some u → b ≠ D := fun e z => by
        rw [z] at e
        have nD' : H3 D = none := nD
        rw [nD'] at e
        cases e
      have hU : Un (frs X.stack) fp H (upd H3 D (.lst xs)) s.heap s4.heap := by
        have u := I4.base
        refine ⟨u.keep, u.slot, fun b o e n hx => ?_, u.there, fun b ys e => ?_, fun b o y e => ?_, fun b ps e => ?_⟩
        · rw [upd_ne (fun z => by have h1 : @LT.lt Nat _ b _ := Heap.lt_size e; have z' : @Eq Nat b D := z; (first | lia | omega))]; exact u.free b o e n hx
        · have q := u.tups b ys e
          rw [upd_ne (ne_of' q)]; exact q
        · have q := u.frzs b o y e
          rw [upd_ne (ne_of' q)]; exact q
        · obtain ⟨more, q⟩ := u.tbls b ps e
          exact ⟨more, by rw [upd_ne (ne_of' q)]; exact q⟩
      have hok4 : HOk X.prog X.w (upd H3 D (.lst xs)) s4.heap := fun b u e => by
        by_cases hbD : b = D
        · subst hbD
          rw [upd_same] at e; cases e
          exact ⟨Nat.le_of_lt hsz, its.toList, k, rv3, by simpa using eD⟩
        · rw [upd_ne hbD] at e
          exact (I4.hok b u e).stay (fun _ _ _ q => q) (fun c q => by rw [upd_ne (ne_of' q)]; exact q) fun c ys q => by rw [upd_ne (ne_of' q)]; exact q
      have I5 : Inv X pins σ (upd H3 D (.lst xs)) s4 := I.call' (ch := fp) I4.os hU hok4 I4.bare fun b hb => ⟨(f b hb).2.2.2.1, (f b hb).2.1, (f b hb).2.2.2.2.1, (f b hb).2.2.2.2.2⟩
      have fC : FpOk X pins (upd H3 D (.lst xs)) C := I.fpOk (by (first | lia | omega)) (by rw [upd_ne (Ne.symm hDC)]; exact I4.free)
      obtain ⟨m4, hn4, _⟩ := I4.loc
      exact fin D C s4 H3 xs nD hsz qn I5 fC ⟨m4, hn4⟩
    · refine thn (T.item (compX X pins (vars ++ frs') scope cl C fp s H) rfl rfl rfl hc i _ s3 σ3 H3 _ I3 (stat fr3) st3 go) fun r s4 ⟨u, hr, h4⟩ => ?_
      subst hr
      refine wpAny_bind (thn h4 fun _ s5 ⟨x, H5, I5, r5, y5, st5, fr5⟩ => ?_)
      have I5' := I5.pinned (stat fr5) (T.obj _ _ st5)
      refine wpAny_bind (wpAny_mono (hPG _ s5 σ3 H5 x u _ I5' r5 (step x H5 y5)) (fun _ s6 ⟨σ6, H6, I6, q6⟩ => ?_) fun _ _ z => False.elim z)
      refine wpAny_bind (wpAny_mono (hPI _ s6 σ6 H6 _ I6 q6) (fun ok s7 ⟨H7, I7, q7⟩ => ?_) fun _ _ z => False.elim z)
      have mD : ∀ {σ' : St} {H' : Hp} {s' : Shared}, Inv (compX X pins (vars ++ frs') scope cl C fp s H) ([(D, { cls := .type "list", data := .seq its k })] ++ pinsAt fp s5.heap) σ' H' s' → s'.heap.get? D = some { cls := .type "list", data := .seq its k } ∧ H' D = none := fun J =>
        let q := J.pin (D, _) (List.mem_append_right _ (List.mem_append_left _ List.mem_cons_self))
        ⟨q.1, q.2.1⟩
      have mF : ∀ {σ' : St} {H' : Hp} {s' : Shared}, Inv (compX X pins (vars ++ frs') scope cl C fp s H) ([(D, { cls := .type "list", data := .seq its k })] ++ pinsAt fp s5.heap) σ' H' s' →
          (∀ b ∈ fp, ∀ o, s5.heap.get? b = some o → s'.heap.get? b = some o) ∧ (∀ b ∈ fp, H' b = none) := fun J =>
        ⟨fun b hb o e => (J.pin (b, o) (List.mem_append_right _ (List.mem_append_right _ (mem_pinsAt hb e)))).1, fun b hb => by
          obtain ⟨o, e, d⟩ := T.obj _ _ st5 b hb
          exact (J.pin (b, o) (List.mem_append_right _ (List.mem_append_right _ (mem_pinsAt hb e)))).2.1⟩
      cases ok with
      | false =>
        have q7' : N σ6 xs H7 := q7
        obtain ⟨m', hm, w7⟩ := hN _ _ _ q7'
        refine wpAny_pure ⟨rfl, m', hm, i + 1, σ6, xs, H7, its, k, I7.unpinned, rv3, T.keep _ _ _ st5 (mF I7).1, (mF I7).2, w7⟩
      | true =>
        have q7' : te σ6 H7 fun v H4 => N σ6 (xs ++ [v]) H4 := q7
        refine wpAny_bind (wpAny_bind (wpAny_mono (hPE _ s7 σ6 H7 _ I7 q7') (fun y s8 ⟨v, H8, I8, r8, q8⟩ => ?_) fun _ _ z => False.elim z))
        obtain ⟨eD, nD⟩ := mD I8
        have hl8 : s8.heap.PlainList D its := ⟨k, eD⟩
        have hsz' : its.size ≤ sizeLine := by
          have e1 := rv3.length
          have e2 : its.toList.length = its.size := Array.length_toList
          (first | lia | omega)
        refine wpAny_bind (wpAny_list_append_plain (hsz := hsz') hl8 fun h₅ hl₅ hs₅ => wpAny_pure (wpAny_pure ⟨rfl, ?_⟩))
        obtain ⟨k', ek'⟩ := hl₅
        obtain ⟨m', hm, w8⟩ := hN _ _ _ q8
        -- the list has grown
        have J1 : Inv (compX X pins (vars ++ frs') scope cl C fp s H) (pinsAt fp s5.heap) σ6 H8 s8 := I8.pins_of fun p hp => I8.pin p (List.mem_append_right _ (List.mem_append_right _ hp))
        have nDC : D ≠ (compX X pins (vars ++ frs') scope cl C fp s H).env.locals := hDC
        have J2 : Inv (compX X pins (vars ++ frs') scope cl C fp s H) (pinsAt fp s5.heap) σ6 H8 { s8 with heap := h₅ } := by
          refine J1.turned (t' := s8.toks) (it := D) (fun b o hb e => (hs₅.2 b hb).trans e) nD nDC (.inr ?_) ?_ ?_
          · show s.heap.objs.size ≤ D
            (first | lia | omega)
          · intro x c e z
            have z' : c = D := z
            obtain ⟨v', o', ho', hd'⟩ := I8.cell x c e
            rw [z', eD] at ho'
            cases ho'
            cases hd'
          · intro p hp z
            rcases List.mem_append.mp hp with hp | hp
            · exact (pinC p hp).1 z
            · have h1 := fpLt p.1 (of_pinsAt hp).1
              have z' : @Eq Nat p.1 D := z
              (first | lia | omega)
        have hDn : D ∉ frs X.stack := stkD
        refine ⟨m', hm, i + 1, σ6, xs ++ [v], H8, its.push y, k', ?_, ?_, ?_, (mF I8).2, w8⟩
        · refine J2.pins_of fun p hp => ?_
          have e : p = (D, { cls := .type "list", data := .seq (its.push y) k' }) := by simpa using hp
          subst e
          exact ⟨ek', nD, nDC, hDn, fun v z => by cases z⟩
        · rw [Array.toList_push]
          exact rv3.append (.cons r8 .nil)
        · refine T.keep _ _ _ st5 fun b hb o e => ?_
          have hlt := fpLt b hb
          exact (hs₅.2 b (fun z => by have z' : @Eq Nat b D := z; (first | lia | omega))).trans ((mF I8).1 b hb o e)
  exact codeAny_compStart_list (loop _ rfl) (T.self _ 0 _ _ _ (T.keep _ _ _ st fun b _ o e => old b o e) (loop _ rfl))

noncomputable def tComp (wi : TI) (n : Nat) (fr : List Nat) (g : TG) (tt : TT) (te : TE) : TE := fun σ H Q => wi σ H fun J H1 => compR J g tt te (compS n fr σ) H1 fun xs H2 => ∀ p, H2 p = none → Q (.ref p) (upd H2 p (.lst xs))
theorem pe_comp {wi : TI} (hc : X.calm = true) (S : CompScope X scope vars frs' fr) (hi : PI X tg iter wi)
    (hb : ∀ (pins : List (Addr × Obj)) (cl : List (Str × Addr)) (C : Addr) (fp : List Addr) (s : Shared) (H : Hp), PG (compX X pins (vars ++ frs') scope cl C fp s H) tg g ∧ PIfs (compX X pins (vars ++ frs') scope cl C fp s H) ifs tt ∧ PE (compX X pins (vars ++ frs') scope cl C fp s H) elt te)
    (hs : ∀ x, foldedSetIterable iter X.env x = pure x := by intro _; rfl) : PE X (.ListComp elt [⟨tg, iter, ifs, 0⟩] scope pos) (tComp wi vars.length fr g tt te) := by
  intro pins s σ H Q I h
  have hcl : closureFor scope X.env = pure (closList X.env scope.names []) := closureFor_list fun y hy hk => I.ok.has y.1 (S.frees y hy hk)
  rw [eval_ListComp]
  refine wpAny_comprehension_free (use := none) rfl hs hcl S.kind S.names (thn (hi pins s σ H _ I h) fun v s1 h1 => thn h1 fun itv s2 h2 => ?_)
  obtain ⟨it, fp, tn, J, H2, e, I2, T, st2, f2, r⟩ := h2
  subst e
  refine comp_block (RR := fun acc C => compPost (model X.prog X.w) X.A X.xe none (EP X pins σ Q) acc C) I2 hc T st2 f2 S r (fun cl C => hb pins cl C fp s2 H2) ?_
  intro D C s' H' xs hD hz q I' fC ⟨m, hn⟩
  refine ⟨m, hn, fun h' hs' => ?_⟩
  obtain ⟨f0, f1, _, f3, f4, f5⟩ := fC
  exact ⟨.ref D, _, I'.turned (t' := s'.toks) (it := C) (fun b o hb e => (hs'.2 b hb).trans e) f0 f1 f3 f4 f5, rfl, q D hD⟩
theorem ps_comp {wi : TI} {i : Nat} {x : Str} {pos' spos : Pos} (hc : X.calm = true) (hN : X.N.Nodup) (hi' : X.N[i]? = some x) (hx : Loc X.env.scope x) (S : CompScope X scope vars frs' fr) (hi : PI X tg iter wi)
    (hb : ∀ (pins : List (Addr × Obj)) (cl : List (Str × Addr)) (C : Addr) (fp : List Addr) (s : Shared) (H : Hp), PG (compX X pins (vars ++ frs') scope cl C fp s H) tg g ∧ PIfs (compX X pins (vars ++ frs') scope cl C fp s H) ifs tt ∧ PE (compX X pins (vars ++ frs') scope cl C fp s H) elt te)
    (hw : swapsWith (.ListComp elt [⟨tg, iter, ifs, 0⟩] scope pos) (some (.Name x pos')) spos.line X.env = pure true := by rfl)
    (hf : X.fn x = true ∨ X.env.scope.names.lookup x = some .local := by first | exact .inl rfl | exact .inr rfl | assumption)
    (hs : ∀ x, foldedSetIterable iter X.env x = pure x := by intro _; rfl) : PS X (.Assign [.Name x pos'] (.ListComp elt [⟨tg, iter, ifs, 0⟩] scope pos) spos) (tAsg (tComp wi vars.length fr g tt te) (gName i)) := by
  intro pins s σ H D0 I h
  have hcl : closureFor scope X.env = pure (closList X.env scope.names []) := closureFor_list fun y hy hk => I.ok.has y.1 (S.frees y hy hk)
  rw [exec_Assign_Name_used x pos' _ spos hw]
  refine wpAny_bind (wpAny_standAt (wpAny_bind ?_))
  show wpAny _ _ (comprehension (.ListComp elt [⟨tg, iter, ifs, 0⟩] scope pos) scope X.env (firstIterPos [⟨tg, iter, ifs, 0⟩] pos) (newList []) (firstAsync [⟨tg, iter, ifs, 0⟩]) (firstIter [⟨tg, iter, ifs, 0⟩] X.env) (some (assign (.Name x pos') X.env)) >>= fun _ => pure ()) _ _ _
  refine wpAny_bind (wpAny_comprehension_free (use := some (assign (.Name x pos') X.env)) rfl hs hcl S.kind S.names (thn (hi pins s σ H _ I h) fun v s1 h1 => thn h1 fun itv s2 h2 => ?_))
  obtain ⟨it, fp, tn, J, H2, e, I2, T, st2, f2, r⟩ := h2
  subst e
  refine comp_block (RR := fun acc C => compPost (model X.prog X.w) X.A X.xe (some (assign (.Name x pos') X.env)) (fun _ s' => wpAny (model X.prog X.w) X.A (pure ()) (fun _ s'' => wpAny (model X.prog X.w) X.A (pure Flow.next) (SP X pins D0) X.xe s'') X.xe s') acc C) I2 hc T st2 f2 S r (fun cl C => hb pins cl C fp s2 H2) ?_
  intro D C s' H' xs hD hz q I' fC ⟨m, hn⟩
  obtain ⟨f0, f1, _, f3, f4, f5⟩ := fC
  refine wpAny_assign_Name (store_ok2 I' hN hi' hx (v := .ref D) rfl (fun s'' I'' ⟨a, sb, ha⟩ => ?_) hf)
  have hCa : C ≠ a := by
    rcases ha with z | z
    · rw [z]; exact f1
    · exact fun z' => f4 x a z z'.symm
  refine ⟨m, hn.sameBut sb hCa, fun h' hs' => wpAny_pure (wpAny_pure ⟨_, _, I''.turned (t' := s''.toks) (it := C) (fun b o hb e => (hs'.2 b hb).trans e) f0 f1 f3 f4 f5, q D hD⟩)⟩
end

theorem comp_list {K : PySem.W.Frag} {a : Addr} {xs : List V} {g : TG} {te : TE} {σ0 : St} {H0 : Hp} {R : List V → Hp → Prop} (Pv : Nat → St → List V → Hp → Prop) (h0 : Pv 0 σ0 [] H0) (hz : xs.length < sizeLine)
    (hl : ∀ i σ ys H, i ≤ xs.length → Pv i σ ys H → SqL K H a xs ∧ ys.length ≤ i)
    (hs : ∀ i x σ ys H, xs[i]? = some x → Pv i σ ys H → g x σ H fun σ2 H2 => te σ2 H2 fun v H4 => Pv (i + 1) σ2 (ys ++ [v]) H4) (hd : ∀ σ ys H, Pv xs.length σ ys H → R ys H) :
    compR (Itl K a) g tYes te σ0 H0 R := by
  refine ⟨fun i m σ ys H => m = xs.length - i ∧ i ≤ xs.length ∧ Pv i σ ys H, ⟨xs.length, by simp, Nat.zero_le _, h0⟩, ?_⟩
  rintro i m σ ys H ⟨rfl, hi, p⟩
  obtain ⟨q, hy⟩ := hl i σ ys H hi p
  refine ⟨by (first | lia | omega), ?_⟩
  by_cases hlt : i < xs.length
  · refine .inr ⟨⟨xs, xs[i], q, by simp [hlt]⟩, fun σ' ys' H' => Pv (i + 1) σ' ys' H', fun σ' ys' H' p' => ⟨xs.length - (i + 1), by (first | lia | omega), rfl, hlt, p'⟩, fun x H' y => ?_⟩
    obtain ⟨e, y⟩ := y
    subst e
    exact hs i x σ ys _ (y xs q) p
  · have e : i = xs.length := by (first | lia | omega)
    subst e
    exact .inl ⟨⟨xs, q, Nat.le_refl _⟩, hd σ ys H p⟩
end L2

namespace L2
open PySem PySem.Spec PyProof.Rows

noncomputable abbrev tx (l : List Nat) : Str := ⟨l.toArray⟩
theorem tx_self (x : Str) : tx x.cps.toList = x := by cases x; simp [tx]
theorem tx_inj {a b : List Nat} (h : tx a = tx b) : a = b := by
  have : (tx a).cps.toList = (tx b).cps.toList := by rw [h]
  simpa [tx] using this
theorem tx_eq {a b : List Nat} : (tx a = tx b) ↔ a = b := ⟨tx_inj, fun h => by rw [h]⟩
theorem tx_len (a : List Nat) : (tx a).length = a.length := by simp [tx, Str.length]
theorem tx_app (a b : List Nat) : tx a ++ tx b = tx (a ++ b) := by
  show Str.mk (_ ++ _) = _
  simp [tx]
theorem V.str_inj {a b : List Nat} : (V.str (tx a) = V.str (tx b)) ↔ a = b := by
  constructor
  · intro h; injection h with h; exact tx_inj h
  · intro h; rw [h]

section
variable {X : Cx} {tg : Expr} {a b : Expr} {ta tb : TE} {pos : Pos}
theorem pe_tx {x : Str} {l : List Nat} {j pos} (h : x = tx l) : PE X (.Constant (.str x) j pos) (tC (.str (tx l))) := by subst h; exact pe_str

noncomputable def Its (l : List Nat) : It := ⟨fun i _ => i < l.length, fun i H x H' => H' = H ∧ ∃ c, l[i]? = some c ∧ x = .str (tx [c]), fun i _ => i = l.length⟩
theorem turn_str {P : Program} {w : World} {K : PySem.W.Frag} {tg : Expr} (it : Addr) (x : Str) (t : Tok) (ty : String)
    (W : ∀ A : Around, A.handled = none → Walks P w A it [it] [it] x.cps.size (SignAt x) (fun i h => h.IsStrIter it ty x t i))
    (hn : ["enumerate", "zip", "dict_itemiterator", "dict_reverseitemiterator", "odict_iterator", "itertools.zip_longest", "itertools.pairwise"].contains ty = false)
    (hself : ∀ (A : Around) (i : Nat) (s : Shared) (Q : Value → Shared → Prop) (E : Value → Shared → Prop), s.heap.IsStrIter it ty x t i → Q (.ref it) s → wpAny (model P w) A (pyIter (.ref it)) Q E s) :
    Turn P w K tg (Its x.cps.toList) [it] it (fun i h => h.IsStrIter it ty x t i) where
  mem := by simp
  obj := fun i h st b hb => by
    have e : b = it := by simpa using hb
    subst e
    obtain ⟨o, e, c, d⟩ := st
    exact ⟨o, e, fun v z => by rw [d] at z; cases z⟩
  keep := fun i h h' st k => by
    obtain ⟨o, e, r⟩ := st
    exact ⟨o, k it (by simp) o e, r⟩
  item := by
    intro X hP hw hK hc i pins s σ H E I hf st hg
    subst hP hw hK
    have hg' : i < x.cps.toList.length := hg
    rw [Array.length_toList] at hg'
    obtain ⟨f0, f1, f2, f3, f4, f5⟩ := hf it (by simp)
    refine (W X.A (I.ok.hd hc)).item i s _ E hg' st fun v h' tk hv st' kk => ?_
    obtain ⟨c, u, hcx, rfl⟩ := hv
    have I1 : Inv X pins σ H { s with heap := h', toks := tk } := I.turned (fun b o hb e => kk b o (by simpa using hb) e) f0 f1 f3 f4 f5
    obtain ⟨o, e, c1, d⟩ := id st'
    exact ⟨_, rfl, go_of (s := { s with heap := h', toks := tk }) e c1 d hn ⟨.str (tx [c]), H, I1, ⟨u, rfl⟩, ⟨rfl, c, by simpa using hcx, rfl⟩, st', fun b hb => (hf b hb).1⟩⟩
  done := by
    intro X hP hw hK hc i pins s σ H E I hf st hg
    subst hP hw hK
    have hg' : i = x.cps.size := by simpa [Its] using hg
    obtain ⟨f0, f1, f2, f3, f4, f5⟩ := hf it (by simp)
    exact (W X.A (I.ok.hd hc)).done s _ E (hg' ▸ st) fun h' tk kk => ⟨rfl, I.turned (fun b o hb e => kk b o (by simpa using hb) e) f0 f1 f3 f4 f5⟩
  self := hself
noncomputable def iStr (tl : TE) : TI := fun σ H R => tl σ H fun x H1 => ∃ l, x = .str (tx l) ∧ R (Its l) H1
theorem pi_str {l : Expr} {tl : TE} (hl : PE X l tl) : PI X tg l (iStr tl) := by
  intro pins s σ H R I h
  refine thn (hl pins s σ H _ I h) fun v s1 ⟨x, H1, I1, r1, q1⟩ => ?_
  obtain ⟨l, e, q⟩ := q1
  subst e
  obtain ⟨t, rfl⟩ := r1
  have el : (tx l).cps.toList = l := by simp [tx]
  have fp : ∀ o : Obj, ∀ b ∈ [s1.heap.objs.size], FpOk X pins H1 b := fun o b hb => by
    have e : b = s1.heap.objs.size := by simpa using hb
    subst e
    exact I1.fpOk (Nat.le_refl _) (I1.hok.fresh (Nat.le_refl _))
  cases ha : (tx l).cps.all (· < 128) with
  | false =>
    refine wpAny_pyIter_wide ha ?_
    refine ⟨s1.heap.objs.size, [s1.heap.objs.size], _, _, H1, rfl, I1.kept (t' := s1.toks) fun b o e => Heap.get?_push_of_some _ e,
      turn_str _ (tx l) t "str_iterator" (fun A hA => Walks.strWide hA _ (tx l) t) (by decide +kernel) (fun A i s Q E st h => wpAny_pyIter_striter_wide st h), ⟨_, Heap.get?_push_size _ rfl, rfl, rfl⟩, fp default, by rw [el]; exact q⟩
  | true =>
    refine wpAny_pyIter_ascii ha ?_
    refine ⟨s1.heap.objs.size, [s1.heap.objs.size], _, _, H1, rfl, I1.kept (t' := s1.toks) fun b o e => Heap.get?_push_of_some _ e,
      turn_str _ (tx l) t "str_ascii_iterator" (fun A hA => Walks.strAscii hA _ (tx l) t) (by decide +kernel) (fun A i s Q E st h => wpAny_pyIter_striter_ascii st h), ⟨_, Heap.get?_push_size _ rfl, rfl, rfl⟩, fp default, by rw [el]; exact q⟩
theorem for_str {l : List Nat} {g : TG} {tb : TS} {D : Ends} {σ : St} {H : Hp} (Pv : Nat → St → Hp → Prop) (h0 : Pv 0 σ H)
    (hs : ∀ i c σ H, l[i]? = some c → Pv i σ H → g (.str (tx [c])) σ H fun σ2 H2 => tb { D with nx := Pv (i + 1), ct := Pv (i + 1), bk := D.nx } σ2 H2) (hd : ∀ σ H, Pv l.length σ H → D.nx σ H) :
    ∃ W : Nat → Nat → St → Hp → Prop, (∃ m, W 0 m σ H) ∧ ∀ i m σ H, W i m σ H →
      ((Its l).stop i H ∧ D.nx σ H) ∨ ((Its l).go i H ∧ ∃ N : St → Hp → Prop, (∀ σ' H', N σ' H' → ∃ m', m' < m ∧ W (i + 1) m' σ' H') ∧ ∀ x H', (Its l).yld i H x H' → g x σ H' fun σ2 H2 => tb { D with nx := N, ct := N, bk := D.nx } σ2 H2) := by
  refine ⟨fun i m σ H => m = l.length - i ∧ i ≤ l.length ∧ Pv i σ H, ⟨l.length, by simp, Nat.zero_le _, h0⟩, ?_⟩
  rintro i m σ H ⟨rfl, hi, p⟩
  by_cases hlt : i < l.length
  · refine .inr ⟨hlt, Pv (i + 1), fun σ' H' p' => ⟨l.length - (i + 1), by (first | lia | omega), rfl, hlt, p'⟩, fun x H' y => ?_⟩
    obtain ⟨e, c, hc, ex⟩ := y
    subst e ex
    exact hs i c σ _ hc p
  · have e : i = l.length := by (first | lia | omega)
    subst e
    exact .inl ⟨rfl, hd σ H p⟩
theorem comp_str {l : List Nat} {g : TG} {te : TE} {σ0 : St} {H0 : Hp} {R : List V → Hp → Prop} (Pv : Nat → St → List V → Hp → Prop) (h0 : Pv 0 σ0 [] H0) (hz : l.length < sizeLine)
    (hl : ∀ i σ ys H, i ≤ l.length → Pv i σ ys H → ys.length ≤ i)
    (hs : ∀ i c σ ys H, l[i]? = some c → Pv i σ ys H → g (.str (tx [c])) σ H fun σ2 H2 => te σ2 H2 fun v H4 => Pv (i + 1) σ2 (ys ++ [v]) H4) (hd : ∀ σ ys H, Pv l.length σ ys H → R ys H) :
    compR (Its l) g tYes te σ0 H0 R := by
  refine ⟨fun i m σ ys H => m = l.length - i ∧ i ≤ l.length ∧ Pv i σ ys H, ⟨l.length, by simp, Nat.zero_le _, h0⟩, ?_⟩
  rintro i m σ ys H ⟨rfl, hi, p⟩
  have hy := hl i σ ys H hi p
  refine ⟨by (first | lia | omega), ?_⟩
  by_cases hlt : i < l.length
  · refine .inr ⟨hlt, fun σ' ys' H' => Pv (i + 1) σ' ys' H', fun σ' ys' H' p' => ⟨l.length - (i + 1), by (first | lia | omega), rfl, hlt, p'⟩, fun x H' y => ?_⟩
    obtain ⟨e, c, hc, ex⟩ := y
    subst e ex
    exact hs i c σ ys _ hc p
  · have e : i = l.length := by (first | lia | omega)
    subst e
    exact .inl ⟨rfl, hd σ ys H p⟩

theorem op_addS : OpR X (binaryOp .Add) (fun x y H Q => ∃ i j, x = .str (tx i) ∧ y = .str (tx j) ∧ i.length + j.length ≤ sizeLine ∧ Q (.str (tx (i ++ j))) H) := by
  intro pins s σ H x y v u Q I rx ry h
  obtain ⟨i, j, rfl, rfl, hz, q⟩ := h
  refine op_add_str pins s σ H _ _ v u Q I rx ry ⟨tx i, tx j, rfl, rfl, by rw [tx_len, tx_len]; exact hz, ?_⟩
  rw [tx_app]; exact q
theorem op_inS : OpR X (compareOp .In) (fun x y H Q => ∃ c j, x = .str (tx [c]) ∧ y = .str (tx j) ∧ Q (.bl (decide (c ∈ j))) H) := by
  intro pins s σ H x y v u Q I rx ry h
  obtain ⟨c, j, rfl, rfl, q⟩ := h
  refine op_in_str pins s σ H _ _ v u Q I rx ry ⟨tx [c], tx j, rfl, rfl, ?_⟩
  have e : (!(Builtin.Str.occurrences (tx j) (tx [c]) 0 (tx j).length 1).isEmpty) = decide (c ∈ j) := by
    have := StrLaws.found_one (tx j) c
    simpa [tx] using this
  rw [e]; exact q
theorem ix_strS : IxR X (fun x y H Q => ∃ (l : List Nat) (i : Int) (c : Nat), x = .str (tx l) ∧ y = .int i ∧ l.length ≤ sizeLine ∧ 0 ≤ i ∧ l[i.toNat]? = some c ∧ Q (.str (tx [c])) H) := by
  intro value slice pins s σ H x y v u Q I rx ry h hs
  obtain ⟨l, i, c, rfl, rfl, hz, h0, hc, q⟩ := h
  refine ix_str value slice pins s σ H _ _ v u Q I rx ry ⟨tx l, i, c, rfl, rfl, by rw [tx_len]; exact hz, ?_, q⟩ hs
  have e : i = ((i.toNat : Nat) : Int) := by (first | lia | omega)
  rw [e]
  exact atI_nat (by simpa [tx] using hc)
theorem call_lenS : CallR X (.builtin "len") (fun xs H Q => ∃ l : List Nat, xs = [.str (tx l)] ∧ l.length ≤ sizeLine ∧ Q (.int (l.length : Nat)) H) := by
  intro pins s σ H xs us Q I r h
  obtain ⟨l, rfl, hz, q⟩ := h
  refine call_len_str pins s σ H _ us Q I r ⟨tx l, rfl, by rw [tx_len]; exact hz, ?_⟩
  rw [tx_len]; exact q
theorem strsAre_of : ∀ {ys : List Str} {us : List Value}, Vals (ys.map V.str) us → StrsAre us ys
  | [], us, r => by cases r; exact .nil
  | y :: r, us, h => by
    rw [List.map_cons] at h
    cases h with
    | cons r1 r2 =>
      obtain ⟨t, e⟩ := r1
      subst e
      exact .cons y t (strsAre_of r2)
theorem join_empty : ∀ ls : List (List Nat), Str.join (tx []) (ls.map tx) = tx ls.flatten
  | [] => rfl
  | [a] => by show tx a = tx (a ++ []); rw [List.append_nil]
  | a :: b :: r => by
    have ih := join_empty (b :: r)
    show tx a ++ tx [] ++ Str.join (tx []) ((b :: r).map tx) = _
    rw [ih, tx_app, tx_app]
    simp
theorem mt_join : MtR X "str.join" (fun x xs H Q => ∃ (D : Addr) (ls : List (List Nat)), x = .str (tx []) ∧ xs = [.ref D] ∧ SqL X.K H D (ls.map fun l => .str (tx l)) ∧ ls.flatten.length ≤ 16777216 ∧ Q (.str (tx ls.flatten)) H) := by
  intro pins s σ H x xs v us Q I rx rs h
  obtain ⟨D, ls, rfl, rfl, hq, hz, q⟩ := h
  obtain ⟨t, rfl⟩ := rx
  obtain ⟨u, rfl, ru⟩ := vals1 rs
  cases ru
  obtain ⟨its, r, pl, _⟩ := I.list hq
  have r' : Vals ((ls.map tx).map V.str) its := by rw [List.map_map]; exact r
  have e : ((ls.map tx).map (·.length)).sum = ls.flatten.length := by
    rw [List.map_map, List.length_flatten]
    congr 1
  refine join_list (ys := ls.map tx) pl.isList (strsAre_of r') (by rw [e, tx_len]; simpa using hz) fun t' k => ⟨.str (tx ls.flatten), H, I.tok _, ⟨t', ?_⟩, q⟩
  show Value.str (Txt.join (tx []) (ls.map tx)) t' = _
  rw [show Txt.join (tx []) (ls.map tx) = Str.join (tx []) (ls.map tx) from StrLaws.glued_eq_join _ _, join_empty]

theorem bools_get : ∀ {bs : List Bool} {us : List Value} {i : Nat} {v : Value}, Vals (bs.map V.bl) us → us[i]? = some v → ∃ b, bs[i]? = some b ∧ v = .bool b
  | [], us, i, v, r, e => by cases r; simp at e
  | b :: r, us, i, v, h, e => by
    rw [List.map_cons] at h
    cases h with
    | cons r1 r2 =>
      cases i with
      | zero =>
        simp at e; subst e
        cases r1
        exact ⟨b, rfl, rfl⟩
      | succ i =>
        obtain ⟨b', h1, h2⟩ := bools_get (i := i) r2 (by simpa using e)
        exact ⟨b', by simpa using h1, h2⟩
theorem call_allB (hc : X.calm = true) : CallR X (.builtin "all") (fun xs H Q => ∃ (D : Addr) (bs : List Bool), xs = [.ref D] ∧ SqL X.K H D (bs.map V.bl) ∧ Q (.bl (bs.all id)) H) := by
  intro pins s σ H xs us Q I r h
  obtain ⟨D, bs, rfl, hq, q⟩ := h
  obtain ⟨u, rfl, ru⟩ := vals1 r
  cases ru
  obtain ⟨its, rv, pl, hz⟩ := I.list hq
  have hlt : D < s.heap.objs.size := by obtain ⟨_, _, e, _⟩ := pl; exact Heap.lt_size e
  refine call_all_walk (wpAny_pyIter_list pl.isList ?_)
  refine ⟨s.heap.objs.size, [s.heap.objs.size, D], [s.heap.objs.size], its.toArray.size, _, _, fun i => (bs[i]?).getD true, rfl, Walks.list (A := X.A.in1) (I.ok.hd hc) _ D (Nat.ne_of_lt hlt) its.toArray,
    ⟨⟨_, Heap.get?_push_size _ rfl, rfl, rfl⟩, pl.isList.push _⟩, fun i v s' Q' E' hP hQ => ?_, fun h' tk hk => ?_⟩
  · obtain ⟨b, e, rfl⟩ := bools_get (bs := bs) rv (i := i) (v := v) (by simpa using hP)
    simp only [e, Option.getD_some] at hQ
    exact wpAny_truthy_bool hQ
  · have e : ((List.range its.toArray.size).all fun i => (bs[i]?).getD true) = bs.all id := by
      have hl := rv.length
      rw [List.length_map] at hl
      rw [List.size_toArray, ← hl]; exact LSm.range_all bs
    rw [e]
    exact ⟨.bl _, H, I.kept (LSm.kept_iter hk), rfl, q⟩
theorem call_isinst : CallR X (.builtin "isinstance") (fun xs H Q => ∃ x T t b, xs = [x, .ty T] ∧ TyOf X.K H x t ∧ PySem.W.kitOne X.K t (.type T) = some b ∧ Q (.bl b) H) := by
  intro pins s σ H xs us Q I r h
  obtain ⟨x, T, t, b, rfl, ty, e, q⟩ := h
  obtain ⟨u, w', rfl, r1, r2⟩ := vals2 r
  cases r2
  exact isinst_ok I r1 ty e fun tk => ⟨.bl b, H, I.tok _, rfl, q⟩
end
end L2

namespace L2
open PySem PySem.Spec PyProof.Rows

theorem CompScope.own {X : Cx} {scope : Scope} {vars : List Str} (k : scope.kind = .function) (h : (scope.names.all fun y => y.2 != .cell && y.2 != .free && (y.2 != .local || scope.names.lookup y.1 == some .local)) = true) : CompScope X scope vars [] [] := by
  have a : ∀ y ∈ scope.names, (y.2 ≠ .cell ∧ y.2 ≠ .free) ∧ (y.2 = .local → scope.names.lookup y.1 = some .local) := fun y hy => by
    have := List.all_eq_true.mp h y hy
    simp only [Bool.and_eq_true, bne_iff_ne, Bool.or_eq_true, beq_iff_eq, ne_eq] at this
    exact ⟨this.1, fun z => this.2.resolve_left fun q => q z⟩
  exact ⟨k, fun y hy => (a y hy).1.1, fun y hy => (a y hy).2, fun y hy z => absurd z (a y hy).1.2, .nil⟩
theorem CompScope.free {X : Cx} {scope : Scope} {vars frs' : List Str} {fr : List Nat} (k : scope.kind = .function) (h : (scope.names.all fun y => y.2 != .cell && (y.2 != .local || scope.names.lookup y.1 == some .local)) = true)
    (f : (scope.names.all fun y => y.2 != .free || X.env.kindOf y.1 == some .cell || X.env.kindOf y.1 == some .free) = true)
    (p : Paired (fun (x : Str) (j : Nat) => X.N[j]? = some x ∧ scope.names.lookup x = some .free) frs' fr) : CompScope X scope vars frs' fr := by
  refine ⟨k, fun y hy => ?_, fun y hy => ?_, fun y hy => ?_, p⟩
  · have := List.all_eq_true.mp h y hy
    simp only [Bool.and_eq_true, bne_iff_ne, Bool.or_eq_true, beq_iff_eq, ne_eq] at this
    exact this.1
  · have := List.all_eq_true.mp h y hy
    simp only [Bool.and_eq_true, bne_iff_ne, Bool.or_eq_true, beq_iff_eq, ne_eq] at this
    exact fun z => this.2.resolve_left fun q => q z
  · have := List.all_eq_true.mp f y hy
    simp only [bne_iff_ne, Bool.or_eq_true, beq_iff_eq, ne_eq] at this
    intro z
    rcases this with (q | q) | q
    · exact absurd z q
    · exact .inl q
    · exact .inr q
structure Mg (K : PySem.W.Frag) (mg : Str → Option Value) : Prop where
  of : ∀ {x : Str} {v : Value}, PySem.W.nsIn K mainGlobals x = some (some v) → mg x = some v
  no : ∀ {x : Str}, PySem.W.nsIn K mainGlobals x = some none → mg x = none
theorem mg_mk {K : PySem.W.Frag} {h : Heap} {mg : Str → Option Value} (X : K.In h) (G : h.Ns mainGlobals mg) : Mg K mg := ⟨fun e => PySem.W.mg_of X G e, fun e => PySem.W.mg_none_of X G e⟩
structure At (K : PySem.W.Frag) (mg : Str → Option Value) (x : Str) (st : Stmt) (ps : List Str) (f : Addr) (fd : FuncData) : Prop where
  fn : Fun K x x st f fd
  m : mg x = some (.ref f)
  b : Binds K fd ps []
theorem at_mk {K : PySem.W.Frag} {mg : Str → Option Value} {x : Str} {st : Stmt} {ps : List Str} {f : Addr} {oc : Value} {od an : Option Addr} {osl : Array (Option Value)} {kV doc pm cdv ct : Value} (M : Mg K mg) (a : PySem.W.nsIn K mainGlobals x = some (some (.ref f)))
    (l : K.lookup f = some ⟨oc, od, .func (PySem.W.fnOf x x (defArgs st) (defBody st) (defScope st) .none kV doc pm an cdv ct), osl⟩) (c : PySem.W.codeIn K cdv x = true) (k : PySem.W.keepIn K (.ref f) = true)
    (h : ∀ (kV doc pm : Value) (an : Option Addr) (cdv ct : Value) (us : List Value), us.length = ps.length → bindArgs (PySem.W.fnOf x x (defArgs st) (defBody st) (defScope st) .none kV doc pm an cdv ct) ⟨us, []⟩ = pure (ps.zip us)) :
    At K mg x st ps f (PySem.W.fnOf x x (defArgs st) (defBody st) (defScope st) .none kV doc pm an cdv ct) := ⟨fun_mk l c k, M.of a, (fun_mk l c k).binds h⟩
structure Cal (P : Program) (w : World) (K : PySem.W.Frag) (mg : Str → Option Value) (base : Heap) (CX : CXT) (k : Nat) (x : Str) (ps : List Str) (sp : Sp) : Prop where
  ex : ∃ (f : Addr) (fd : FuncData) (oc : Value) (od : Option Addr) (osl : Array (Option Value)), FnOk P w K mg base CX k f fd ps sp ∧ Binds K fd ps [] ∧ PySem.W.keepIn K (.ref f) = true ∧ mg x = some (.ref f) ∧ K.lookup f = some ⟨oc, od, .func fd, osl⟩
theorem Cal.mono {P : Program} {w : World} {K : PySem.W.Frag} {mg : Str → Option Value} {base : Heap} {CX : CXT} {j k : Nat} {x : Str} {ps : List Str} {sp : Sp} (C : Cal P w K mg base CX j x ps sp) (h : j ≤ k) : Cal P w K mg base CX k x ps sp := by
  obtain ⟨f, fd, oc, od, osl, F, r⟩ := C.ex
  exact ⟨f, fd, oc, od, osl, F.mono h, r⟩
theorem Cal.fn_at {P : Program} {w : World} {K : PySem.W.Frag} {mg : Str → Option Value} {base : Heap} {CX : CXT} {k : Nat} {x q : Str} {ps : List Str} {sp : Sp} {fa : Addr} {fd : FuncData} {st : Stmt} (C : Cal P w K mg base CX k x ps sp) (m : mg x = some (.ref fa)) (F : Fun K x q st fa fd) : FnOk P w K mg base CX k fa fd ps sp := by
  obtain ⟨f, fd', oc, od, osl, G, _, _, m', l'⟩ := C.ex
  rw [m] at m'
  cases m'
  obtain ⟨oc2, od2, kV, doc, pm, an, cdv, ct, osl2, e, l, _⟩ := F.ex
  rw [l'] at l
  have : fd' = fd := by
    injection l with l
    injection l with _ _ l _
    injection l
  subst this
  exact G
theorem At.cal {P : Program} {w : World} {K : PySem.W.Frag} {mg : Str → Option Value} {base : Heap} {x : Str} {st : Stmt} {f : Addr} {fd : FuncData} {N ps : List Str} {k : Nat} {sp : Sp} (A : At K mg x st ps f fd) (S : FnScope N ps (defScope st)) (len : ∀ vs H Q E, sp vs H Q E → vs.length = ps.length)
    (hbody : ∀ (cdv : Value) (A : Around) (outer : List Env) (s : Shared) (H : Hp) (vs : List V) (Q : VK) (E : XK), Room k (A.deeper (PyProof.Rows.envOfC x (defScope st) s.heap.objs.size f cdv)) → sp vs H Q E →
      ∃ t, PSs (cxOf CX0 P w K mg base N x (defScope st) f cdv A outer s H E).nox (defBody st) t ∧ t { nx := fun _ H' => Q .non H', rt := Q } (start N vs) H) : Cal P w K mg base CX0 (k + 1) x ps sp := by
  obtain ⟨oc, od, kV, doc, pm, an, cdv, ct, osl, e, l, c⟩ := A.fn.ex
  exact ⟨f, fd, oc, od, osl, A.fn.ok S len hbody, A.b, A.fn.kp, A.m, l⟩
section
variable {X : Cx} {k : Nat} {x : Str} {ps : List Str} {sp : Sp} {p pos : Pos} {e : Expr} {es : List Expr} {t : TA}
theorem pe_cal (C : Cal X.prog X.w X.K X.mg X.base CX0 k x ps sp) (hr : Room k X.A) (ha : PA X (e :: es) t) (hg : Gl X x) (hdb : (x == ("__debug__" : Str)) = false := by decide)
    (he : starEach (e :: es) X.env = (false, eval e X.env) :: starEach es X.env := by rfl) (hpl : (backTo pos (starEach es X.env)).any (·.1) = false := by rfl) : PE X (.Call (.Name x p) (e :: es) [] pos) (tCall sp [] E0 t) := by
  obtain ⟨f, fd, oc, od, osl, F, b, kp, m, _⟩ := C.ex
  exact pe_call F hr hg m kp b .nil pass0 ha hdb he hpl
end
noncomputable def spLaw (K : PySem.W.Frag) : Sp := fun vs H Q _ => ∃ (a : Addr) (ns : List Int), vs = [.ref a] ∧ SqL K H a (ns.map V.int) ∧ Only H ∧ ns.length ≤ 63 ∧ ∀ H', Q (.bl true) H'
theorem law_walk {l : PySem.W.OpenLaw} {q : Program} {loose : List Str} {XP : (Str → Option Value) → Heap → Prop} {YP : World → Heap → Prop} {d : DefRec} {K : Params → PySem.W.Frag} {x : Str} {k : Nat} (hn : l.most = some 63) (hdf : d.params.defaults = []) (hr : Room k callerA)
    (hY : ∀ (w : World) (h : Heap), YP w h → (K w.params).In h)
    (F : ∀ (w : World) (mg : Str → Option Value) (fa : Addr) (h : Heap), (K w.params).In h → h.Ns mainGlobals mg → mg d.name = some (.ref fa) →
      ∃ fd : FuncData, (∀ (s : Shared) (u : Value), BindsTo s fd ⟨[u], []⟩ [(x, u)]) ∧ ∀ base : Heap, (K w.params).In base → base.Ns mainGlobals mg → FnOk l.prog w (K w.params) mg base CX0 k fa fd [x] (spLaw (K w.params))) :
    PySem.W.WalkO q loose XP YP l.row.toRowW d [] (fun f vs => PySem.call f vs) :=
  L2.walk_of (n := 63) (k := k) (x := x) (CX := fun _ => CX0) (sp := fun w => spLaw (K w.params)) hn (by decide) hdf hr hY F (fun _ _ a ns hl hO hS => ⟨a, ns, rfl, hS, hO, hl, fun _ => rfl⟩) fun _ _ _ _ _ z => z
theorem same_new {H : Hp} {p : Addr} (h : H p = none) (o : HO) : Same H (upd H p o) := fun b u q => by rw [upd_ne (ne_of_none q h)]; exact q
theorem Same.tup {K : PySem.W.Frag} {H H' : Hp} {a : Addr} {xs : List V} (e : Same H H') (h : SqT K H a xs) : SqT K H' a xs := by
  rcases h with (h | ⟨o, h⟩) | h
  · exact .inl (.inl (e _ _ h))
  · exact .inl (.inr ⟨o, e _ _ h⟩)
  · exact .inr h
theorem small {n : Nat} (h : n ≤ 1000000) : n < sizeLine := Nat.lt_of_le_of_lt h (by rw [sizeLine_eq]; decide)
theorem smallE {n : Nat} (h : n ≤ 1000000) : n ≤ sizeLine := Nat.le_of_lt (small h)
theorem boI : bootBuiltins "isinstance" = some (.builtin "isinstance") := by decide +kernel
theorem boAll : bootBuiltins "all" = some (.builtin "all") := by decide +kernel
theorem boLen : bootBuiltins "len" = some (.builtin "len") := by decide +kernel
theorem boStr : bootBuiltins "str" = some (.type "str") := by decide +kernel
theorem boTuple : bootBuiltins "tuple" = some (.type "tuple") := by decide +kernel
theorem boList : bootBuiltins "list" = some (.type "list") := by decide +kernel
section
variable {X : Cx} {pos : Pos}
theorem pgc {pins : List (Addr × Obj)} {vars frs' : List Str} {scope : Scope} {cl : List (Str × Addr)} {C : Addr} {fp : List Addr} {s : Shared} {H : Hp} (i : Nat) {x : Str} (hN : (vars ++ frs').Nodup) (hi : (vars ++ frs')[i]? = some x) (hx : (relabel scope X.env).names.lookup x = some .local) :
    PG (compX X pins (vars ++ frs') scope cl C fp s H) (.Name x pos) (gName i) := pg_name hN hi (.inl hx) (.inr hx)
theorem pe_gs {x : Str} {z : Str} {t : Tok} (hm : X.mg x = some (.str z t)) (hg : Gl X x) (hd : (x == ("__debug__" : Str)) = false := by decide) : PE X (.Name x pos) (tC (.str z)) := pe_glob hg hm ⟨t, rfl⟩ hd
theorem pe_ty {x : Str} {n : String} (hm : X.mg x = none) (hv : bootBuiltins x = some (.type n)) (hg : Gl X x) (hn : x ≠ "__name__" := by decide) (hd : (x == ("__debug__" : Str)) = false := by decide) : PE X (.Name x pos) (tC (.ty n)) := pe_bltn hg hm hv rfl hn hd
end

theorem comp_strM {l : List Nat} {te : TE} {σ0 rest : St} {H0 : Hp} {R : List V → Hp → Prop} (F : Nat → V) (J : Hp → Prop) (hσ : σ0 = none :: rest) (h0 : J H0) (hz : l.length ≤ 1000000)
    (hs : ∀ (c : Nat) (H : Hp) (Qk : VK), c ∈ l → J H → (∀ H', J H' → Qk (F c) H') → te (some (.str (tx [c])) :: rest) H Qk) (hd : ∀ H, J H → R (l.map F) H) : compR (Its l) (gName 0) tYes te σ0 H0 R := by
  subst hσ
  refine comp_str (fun i σ ys H => (∃ o, σ = o :: rest) ∧ ys = (l.take i).map F ∧ J H) ⟨⟨_, rfl⟩, rfl, h0⟩ (small hz) (fun i σ ys H hi p => ?_) (fun i c σ ys H hc p => ?_) fun σ ys H p => ?_
  · obtain ⟨_, rfl, _⟩ := p
    rw [List.length_map, List.length_take]; (first | lia | omega)
  · obtain ⟨⟨o, rfl⟩, rfl, hJ⟩ := p
    refine hs c H _ (List.mem_of_getElem? hc) hJ fun H' hJ' => ⟨⟨_, rfl⟩, ?_, hJ'⟩
    rw [List.take_add_one, hc, List.map_append]; rfl
  · obtain ⟨_, rfl, hJ⟩ := p
    have := hd H hJ
    rwa [List.take_length]
theorem comp_listM {K : PySem.W.Frag} {a : Addr} {xs : List V} {te : TE} {σ0 rest : St} {H0 : Hp} {R : List V → Hp → Prop} (F : V → V) (J : Hp → Prop) (hσ : σ0 = none :: rest) (h0 : J H0) (hz : xs.length ≤ 1000000) (hl : ∀ H, J H → SqL K H a xs)
    (hs : ∀ (x : V) (H : Hp) (Qk : VK), x ∈ xs → J H → (∀ H', J H' → Qk (F x) H') → te (some x :: rest) H Qk) (hd : ∀ H, J H → R (xs.map F) H) : compR (Itl K a) (gName 0) tYes te σ0 H0 R := by
  subst hσ
  refine comp_list (fun i σ ys H => (∃ o, σ = o :: rest) ∧ ys = (xs.take i).map F ∧ J H) ⟨⟨_, rfl⟩, rfl, h0⟩ (small hz) (fun i σ ys H hi p => ?_) (fun i c σ ys H hc p => ?_) fun σ ys H p => ?_
  · obtain ⟨_, rfl, hJ⟩ := p
    refine ⟨hl H hJ, ?_⟩
    rw [List.length_map, List.length_take]; (first | lia | omega)
  · obtain ⟨⟨o, rfl⟩, rfl, hJ⟩ := p
    refine hs c H _ (List.mem_of_getElem? hc) hJ fun H' hJ' => ⟨⟨_, rfl⟩, ?_, hJ'⟩
    rw [List.take_add_one, hc, List.map_append]; rfl
  · obtain ⟨_, rfl, hJ⟩ := p
    have := hd H hJ
    rwa [List.take_length]

section
variable {X : Cx}
theorem op_modL (n : Int) (hn : 0 < n) : OpR X (binaryOp .Mod) (fun x y H Q => ∃ i, x = .int i ∧ y = .int n ∧ Q (.int (i % n)) H) := by
  intro pins s σ H x y v u Q I rx ry h
  obtain ⟨i, rfl, rfl, q⟩ := h
  exact op_mod pins s σ H _ _ v u Q I rx ry ⟨i, n, rfl, rfl, hn, q⟩
theorem op_divL (n : Int) (hn : 0 < n) (h2 : n < 1073741824) : OpR X (binaryOp .FloorDiv) (fun x y H Q => ∃ i, x = .int i ∧ y = .int n ∧ Q (.int (i / n)) H) := by
  intro pins s σ H x y v u Q I rx ry h
  obtain ⟨i, rfl, rfl, q⟩ := h
  exact op_fdiv pins s σ H _ _ v u Q I rx ry ⟨i, n, rfl, rfl, ⟨hn, h2⟩, q⟩
theorem ix_strD : IxR X (fun x y H Q => ∃ (l : List Nat) (i : Int), x = .str (tx l) ∧ y = .int i ∧ l.length ≤ sizeLine ∧ 0 ≤ i ∧ i < (l.length : Int) ∧ Q (.str (tx [l.getD i.toNat 0])) H) := by
  intro value slice pins s σ H x y v u Q I rx ry h hs
  obtain ⟨l, i, rfl, rfl, hz, h0, h1, q⟩ := h
  refine ix_strS value slice pins s σ H _ _ v u Q I rx ry ⟨l, i, _, rfl, rfl, hz, h0, ?_, q⟩ hs
  rw [List.getD_eq_getElem?_getD, List.getElem?_eq_getElem (show i.toNat < l.length by (first | lia | omega))]; rfl
theorem ix_ints : IxR X (fun x y H Q => ∃ (a : Addr) (ns : List Int) (i : Int), x = .ref a ∧ y = .int i ∧ SqL X.K H a (ns.map V.int) ∧ 0 ≤ i ∧ i < (ns.length : Int) ∧ Q (.int (ns.getD i.toNat 0)) H) := by
  intro value slice pins s σ H x y v u Q I rx ry h hs
  obtain ⟨a, ns, i, rfl, rfl, hz, h0, h1, q⟩ := h
  refine ix_list value slice pins s σ H _ _ v u Q I rx ry ⟨a, _, i, _, rfl, rfl, hz, ?_, q⟩ hs
  have e : ((i.toNat : Nat) : Int) = i := by (first | lia | omega)
  rw [← e]
  refine atI_nat ?_
  rw [List.getD_eq_getElem?_getD, List.getElem?_map, Int.toNat_natCast, List.getElem?_eq_getElem (show i.toNat < ns.length by (first | lia | omega))]; rfl
end
theorem flat1 {α : Type} (f : α → Nat) : ∀ ns : List α, (ns.map fun c => [f c]).flatten = ns.map f
  | [] => rfl
  | n :: r => by rw [List.map_cons, List.flatten_cons, flat1 f r]; rfl
noncomputable def cellF (ns : List Int) (k : Int) : Int := if k < (ns.length : Int) then ns.getD k.toNat 0 else 0
theorem TyOf.same {K : PySem.W.Frag} {H H' : Hp} {x : V} {t : Value} (s : Same H H') (h : TyOf K H x t) : TyOf K H' x t := by
  cases h with
  | non => exact .non
  | bl x => exact .bl x
  | int x => exact .int x
  | str x => exact .str x
  | flt x => exact .flt x
  | lst e => exact .lst (s _ _ e)
  | frz e => exact .frz (s _ _ e)
  | tup e => exact .tup (s _ _ e)
  | dK e => exact .dK (s _ _ e)
  | dT e => exact .dT (s _ _ e)
  | ins e a b c d f => exact .ins (s _ _ e) a b c d f
noncomputable def kitTT (T S : String) : Option Bool := if (Value.type T == Value.type S) = true then some true else if PySem.W.kitMeta S = true then (fastBuiltinMro T).map (·.contains (.type S)) else none
theorem kitOne_tt (K : PySem.W.Frag) (T S : String) : PySem.W.kitOne K (.type T) (.type S) = kitTT T S := rfl
theorem kit_str_str (K : PySem.W.Frag) : PySem.W.kitOne K (.type "str") (.type "str") = some true := by rw [kitOne_tt]; decide +kernel
theorem kit_tuple_tuple (K : PySem.W.Frag) : PySem.W.kitOne K (.type "tuple") (.type "tuple") = some true := by rw [kitOne_tt]; decide +kernel
theorem kit_tuple_str (K : PySem.W.Frag) : PySem.W.kitOne K (.type "tuple") (.type "str") = some false := by rw [kitOne_tt]; decide +kernel
end L2

namespace L2
open PySem PySem.Spec PyProof.Rows

section
variable {X : Cx} {pins : List (Addr × Obj)} {σ : St} {H : Hp} {s : Shared} {h' : Heap}
end

section
variable {X : Cx} {elts : List Expr} {k0 : Nat} {tpos pos p : Pos}
end
noncomputable def KTab (w : World) (K : PySem.W.Frag) (a : Addr) (f : List Nat → Option V) : Prop := (a == sysModules) = false ∧ ∃ (es : Array DictEntry) (n : Nat), K.lookup a = some ⟨.type "dict", none, .dict es n, #[]⟩ ∧ PySem.W.KeysLit w.params es.toList ∧ ∀ l, RelO (f l) (findBy Value.isStrOf es (tx l))
theorem tab_rel : ∀ {ps : List (List Nat × V)} {es : List DictEntry}, Paired (fun (p : List Nat × V) (e : DictEntry) => (∃ t, e.key = .str (tx p.1) t) ∧ RelV p.2 e.val) ps es → ∀ l, RelO (ps.lookup l) ((es.find? fun e => Value.isStrOf (tx l) e.key).map (·.val))
  | [], _, .nil, l => trivial
  | p :: ps, _, .cons (b := e) ⟨⟨t, hk⟩, hv⟩ r, l => by
    have ih := tab_rel r l
    obtain ⟨k, v⟩ := p
    have hb : Value.isStrOf (tx l) e.key = (l == k) := by
      rw [hk, Bool.eq_iff_iff]
      simp only [Value.isStrOf, beq_iff_eq, decide_eq_true_eq]
      exact ⟨fun q => (tx_inj q).symm, fun q => by rw [q]⟩
    rw [List.lookup_cons, List.find?_cons, hb]
    cases (l == k) with
    | true => exact hv
    | false => exact ih
theorem ktab_mk {w : World} {K : PySem.W.Frag} {a : Addr} {es : Array DictEntry} {n : Nat} {ps : List (List Nat × V)} (l : K.lookup a = some ⟨.type "dict", none, .dict es n, #[]⟩) (hk : PySem.W.KeysLit w.params es.toList) (s : (a == sysModules) = false)
    (p : Paired (fun (p : List Nat × V) (e : DictEntry) => (∃ t, e.key = .str (tx p.1) t) ∧ RelV p.2 e.val) ps es.toList) : KTab w K a (fun l => ps.lookup l) :=
  ⟨s, es, n, l, hk, fun q => by
    have := tab_rel p q
    obtain ⟨es'⟩ := es
    unfold findBy
    rw [List.find?_toArray]
    exact this⟩
section
variable {X : Cx} {o e f : Expr} {td te tf : TE} {apos cpos pos : Pos}
theorem Inv.kmap {pins : List (Addr × Obj)} {σ : St} {H : Hp} {s : Shared} {a : Addr} {F : List Nat → Option V} (I : Inv X pins σ H s) (h : KTab X.w X.K a F) : ∃ f, s.heap.MapOf (strKind X.prog X.w) a f ∧ ∀ l, RelO (F l) (f (tx l)) := by
  obtain ⟨_, es, n, l, hk, r⟩ := h
  exact ⟨_, PySem.W.mapOf_K I.kIn l hk, r⟩
noncomputable def tKGet2 (w : World) (K : PySem.W.Frag) (td te tf : TE) : TE := fun σ H Q => td σ H fun x H1 => ∃ a F, x = .ref a ∧ KTab w K a F ∧ te σ H1 fun y H2 => tf σ H2 fun z H3 => ∃ l, y = .str (tx l) ∧ Q ((F l).getD z) H3
theorem pe_kget2 {w : World} {K : PySem.W.Frag} (hw : X.w = w) (hK : X.K = K) (ho : PE X o td) (he : PE X e te) (hf : PE X f tf) (base : attributeBase o "get" X.env (eval o X.env) = eval o X.env := by rfl)
    (few : ((backTo cpos (starEach [e, f] X.env)).all (fun x => !x.1) && (backToKw cpos (keywordEach [] X.env)).all (fun x => x.1.isSome)
      && decide (([e, f] : List Expr).length + ([] : List Keyword).length + (if ([] : List Keyword).isEmpty then 0 else 1) < 30)) = true := by rfl) (line : (apos.endLine == cpos.line) = true := by rfl) (trees : backTo cpos (starEach [e, f] X.env) = [(false, eval e X.env), (false, eval f X.env)] := by rfl) :
    PE X (.Call (.Attribute o "get" apos) [e, f] [] cpos) (tKGet2 w K td te tf) := by
  subst hw hK
  intro pins s σ H Q I h
  refine wpAny_Call_method base few line PySem.F.plainAttrs_dict PySem.F.slot_dict_get PySem.F.type_dict_get (thn (ho pins s σ H _ I h) fun u s1 ⟨x, H1, I1, rx, a, F, ex, d, q1⟩ => ?_)
  subst ex
  obtain rfl : u = Value.ref a := rx
  obtain ⟨fm, hm, _⟩ := I1.kmap d
  refine ⟨hm.typeIs, fun b q => ?_, ?_⟩
  · cases q
    obtain ⟨ob, _, _, h1, h2, _⟩ := hm
    exact ⟨ob, h1, h2.2.1⟩
  rw [trees]
  refine Calls.callWith_builtin rfl (Calls.evalArgs_plain (Calls.spliced_cons (thn (he pins s1 σ H1 _ I1 q1) fun iv s2 ⟨y, H2, I2, ry, q2⟩ =>
    Calls.spliced_cons (thn (hf pins s2 σ H2 _ I2 q2) fun fv s3 ⟨z, H3, I3, rz, l, ey, q3⟩ => Calls.spliced_nil ?_))))
  subst ey
  obtain ⟨t, rfl⟩ := ry
  obtain ⟨f3, hm3, rel⟩ := I3.kmap d
  exact call_meetsIn PySem.F.slot_dict_get hm3.typeIs PySem.F.entry_dict_get (PySem.F.args_dict_get_3 _ _ _) (meets_dict_get_default (strKind X.prog X.w) a (strKind_is X.prog X.w (tx l) t) d.1 fv) ⟨_, hm3, ⟨_, H3, I3.tok _, (rel l).getD rz, q3⟩⟩
noncomputable def tKGet1 (w : World) (K : PySem.W.Frag) (td te : TE) : TE := fun σ H Q => td σ H fun x H1 => ∃ a F, x = .ref a ∧ KTab w K a F ∧ te σ H1 fun y H2 => ∃ l, y = .str (tx l) ∧ Q ((F l).getD .non) H2
theorem pe_kget1 {w : World} {K : PySem.W.Frag} (hw : X.w = w) (hK : X.K = K) (ho : PE X o td) (he : PE X e te) (base : attributeBase o "get" X.env (eval o X.env) = eval o X.env := by rfl)
    (few : ((backTo cpos (starEach [e] X.env)).all (fun x => !x.1) && (backToKw cpos (keywordEach [] X.env)).all (fun x => x.1.isSome)
      && decide (([e] : List Expr).length + ([] : List Keyword).length + (if ([] : List Keyword).isEmpty then 0 else 1) < 30)) = true := by rfl) (line : (apos.endLine == cpos.line) = true := by rfl) (trees : backTo cpos (starEach [e] X.env) = [(false, eval e X.env)] := by rfl) :
    PE X (.Call (.Attribute o "get" apos) [e] [] cpos) (tKGet1 w K td te) := by
  subst hw hK
  intro pins s σ H Q I h
  refine wpAny_Call_method base few line PySem.F.plainAttrs_dict PySem.F.slot_dict_get PySem.F.type_dict_get (thn (ho pins s σ H _ I h) fun u s1 ⟨x, H1, I1, rx, a, F, ex, d, q1⟩ => ?_)
  subst ex
  obtain rfl : u = Value.ref a := rx
  obtain ⟨fm, hm, _⟩ := I1.kmap d
  refine ⟨hm.typeIs, fun b q => ?_, ?_⟩
  · cases q
    obtain ⟨ob, _, _, h1, h2, _⟩ := hm
    exact ⟨ob, h1, h2.2.1⟩
  rw [trees]
  refine Calls.callWith_builtin rfl (Calls.evalArgs_plain (Calls.spliced_cons (thn (he pins s1 σ H1 _ I1 q1) fun iv s2 ⟨y, H2, I2, ry, l, ey, q3⟩ => Calls.spliced_nil ?_)))
  subst ey
  obtain ⟨t, rfl⟩ := ry
  obtain ⟨f3, hm3, rel⟩ := I2.kmap d
  exact call_meetsIn PySem.F.slot_dict_get hm3.typeIs PySem.F.entry_dict_get (PySem.F.args_dict_get_2 _ _) (meets_dict_get (strKind X.prog X.w) a (strKind_is X.prog X.w (tx l) t) d.1) ⟨_, hm3, ⟨_, H2, I2.tok _, (rel l).getD (show RelV .non Value.none from rfl), q3⟩⟩
theorem op_inK : OpR X (compareOp .In) (fun x y H Q => ∃ l a F, x = .str (tx l) ∧ y = .ref a ∧ KTab X.w X.K a F ∧ Q (.bl (F l).isSome) H) := by
  intro pins s σ H x y v u Q I rx ry h
  obtain ⟨l, a, F, rfl, rfl, d, q⟩ := h
  obtain ⟨t, rfl⟩ := rx
  cases ry
  obtain ⟨fm, hm, rel⟩ := I.kmap d
  refine wpAny_in_of (strKind_is X.prog X.w (tx l) t) d.1 hm ?_
  rw [← (rel l).isSome_eq]
  exact ⟨.bl _, H, I.tok _, rfl, q⟩
theorem ix_ktab : IxR X (fun x y H Q => ∃ l a F v, x = .ref a ∧ y = .str (tx l) ∧ KTab X.w X.K a F ∧ F l = some v ∧ Q v H) := by
  intro value slice pins s σ H x y v u Q I rx ry h hs
  obtain ⟨l, a, F, vv, rfl, rfl, d, e, q⟩ := h
  cases rx
  obtain ⟨t, rfl⟩ := ry
  obtain ⟨fm, hm, rel⟩ := I.kmap d
  have r := rel l
  rw [e] at r
  obtain ⟨uu, eu, ru⟩ := RelO.some_of r
  exact tail_any hm.typeIs slot_dict_getitem.lookup (wpAny_getItem_of (strKind_is X.prog X.w (tx l) t) hm eu ⟨vv, H, I.tok _, ru, q⟩) hs
end

theorem pe_gr {X : Cx} {pos : Pos} {x : Str} {a : Addr} (hm : X.mg x = some (.ref a)) (hg : Gl X x) (hd : (x == ("__debug__" : Str)) = false := by decide) : PE X (.Name x pos) (tC (.ref a)) := pe_glob hg hm (show RelV (.ref a) (.ref a) from rfl) hd
end L2
namespace L2
end L2
namespace L2
open PySem PySem.Spec PyProof.Rows
section
variable {X : Cx}
end
end L2
namespace L2
open PySem
end L2
namespace L2
end L2

namespace L2
open PySem PySem.Spec PyProof.Rows PySem.SeqAt

inductive Dt where
  | non | bl (b : Bool) | int (i : Int) | str (l : List Nat) | tup (xs : List Dt) | lst (xs : List Dt)
mutual
noncomputable def IsDt (K : PySem.W.Frag) (H : Hp) : Dt → V → Prop
  | .non, v => v = .non
  | .bl b, v => v = .bl b
  | .int i, v => v = .int i
  | .str l, v => v = .str (tx l)
  | .tup xs, v => ∃ a vs, v = .ref a ∧ SqT K H a vs ∧ IsDts K H xs vs
  | .lst xs, v => ∃ a vs, v = .ref a ∧ SqL K H a vs ∧ IsDts K H xs vs
noncomputable def IsDts (K : PySem.W.Frag) (H : Hp) : List Dt → List V → Prop
  | [], vs => vs = []
  | d :: ds, vs => ∃ v r, vs = v :: r ∧ IsDt K H d v ∧ IsDts K H ds r
end
mutual
noncomputable def eqD : Dt → Dt → Bool
  | .non, .non => true
  | .bl a, .bl b => a == b
  | .bl a, .int b => (if a then 1 else 0) == b
  | .int a, .bl b => a == (if b then 1 else 0)
  | .int a, .int b => a == b
  | .str a, .str b => a == b
  | .tup xs, .tup ys => eqDs xs ys
  | .lst xs, .lst ys => eqDs xs ys
  | _, _ => false
noncomputable def eqDs : List Dt → List Dt → Bool
  | [], [] => true
  | x :: xs, y :: ys => eqD x y && eqDs xs ys
  | _, _ => false
end
mutual
noncomputable def dp : Dt → Nat
  | .tup xs => dps xs + 1
  | .lst xs => dps xs + 1
  | _ => 0
noncomputable def dps : List Dt → Nat
  | [] => 0
  | x :: r => max (dp x) (dps r)
end
theorem dp_mem : ∀ {xs : List Dt} {d : Dt}, d ∈ xs → dp d ≤ dps xs
  | x :: r, d, h => by
    unfold dps
    rcases List.mem_cons.mp h with rfl | h
    · exact Nat.le_max_left _ _
    · exact Nat.le_trans (dp_mem h) (Nat.le_max_right _ _)
theorem eqD_self_n : ∀ (n : Nat) (d : Dt), dp d < n → eqD d d = true
  | 0, _, h => by (first | lia | omega)
  | n + 1, d, h => by
    have lists : ∀ xs : List Dt, dps xs < n → eqDs xs xs = true := by
      intro xs
      induction xs with
      | nil => intro _; unfold eqDs; rfl
      | cons x r ih =>
        intro hx
        unfold dps at hx
        unfold eqDs
        rw [eqD_self_n n x (by (first | lia | omega)), ih (by (first | lia | omega))]; rfl
    cases d with
    | non => unfold eqD; rfl
    | bl b => unfold eqD; simp
    | int b => unfold eqD; simp
    | str b => unfold eqD; simp
    | tup xs => unfold dp at h; unfold eqD; exact lists xs (by (first | lia | omega))
    | lst xs => unfold dp at h; unfold eqD; exact lists xs (by (first | lia | omega))
theorem eqD_self (d : Dt) : eqD d d = true := eqD_self_n _ d (Nat.lt_succ_self _)
theorem IsDts.len {K : PySem.W.Frag} {H : Hp} : ∀ {xs : List Dt} {vs : List V}, IsDts K H xs vs → xs.length = vs.length
  | [], vs, h => by unfold IsDts at h; subst h; rfl
  | d :: ds, vs, h => by
    unfold IsDts at h
    obtain ⟨v, r, rfl, _, h⟩ := h
    rw [List.length_cons, List.length_cons, IsDts.len h]
theorem IsDts.get {K : PySem.W.Frag} {H : Hp} : ∀ {xs : List Dt} {vs : List V} {j : Nat} {d : Dt} {v : V}, IsDts K H xs vs → xs[j]? = some d → vs[j]? = some v → IsDt K H d v
  | [], vs, j, d, v, h, e, _ => by simp at e
  | x :: xs, vs, j, d, v, h, e, e' => by
    unfold IsDts at h
    obtain ⟨w, r, rfl, h1, h2⟩ := h
    cases j with
    | zero => simp at e e'; subst e e'; exact h1
    | succ j => exact IsDts.get (j := j) h2 (by simpa using e) (by simpa using e')
theorem dts_nil {K : PySem.W.Frag} {H : Hp} : IsDts K H [] [] := by unfold IsDts; rfl
theorem dts_cons {K : PySem.W.Frag} {H : Hp} {d : Dt} {ds : List Dt} {v : V} {r : List V} (h1 : IsDt K H d v) (h2 : IsDts K H ds r) : IsDts K H (d :: ds) (v :: r) := by unfold IsDts; exact ⟨v, r, rfl, h1, h2⟩
theorem dt_str {K : PySem.W.Frag} {H : Hp} {b : List Nat} : IsDt K H (.str b) (.str (tx b)) := by unfold IsDt; rfl
theorem dt_tup {K : PySem.W.Frag} {H : Hp} {xs : List Dt} {a : Addr} {vs : List V} (h : SqT K H a vs) (h2 : IsDts K H xs vs) : IsDt K H (.tup xs) (.ref a) := by unfold IsDt; exact ⟨a, vs, rfl, h, h2⟩
theorem IsDt.same_n {K : PySem.W.Frag} {H H' : Hp} (s : Same H H') : ∀ (n : Nat) (d : Dt) (v : V), dp d < n → IsDt K H d v → IsDt K H' d v
  | 0, _, _, h, _ => by (first | lia | omega)
  | n + 1, d, v, h, hd => by
    have lists : ∀ (xs : List Dt) (vs : List V), dps xs < n → IsDts K H xs vs → IsDts K H' xs vs := by
      intro xs
      induction xs with
      | nil => intro vs _ h; unfold IsDts at h ⊢; exact h
      | cons x r ih =>
        intro vs hx h
        unfold dps at hx
        unfold IsDts at h ⊢
        obtain ⟨w, q, e, h1, h2⟩ := h
        exact ⟨w, q, e, IsDt.same_n s n x w (by (first | lia | omega)) h1, ih q (by (first | lia | omega)) h2⟩
    cases d with
    | tup xs =>
      unfold dp at h
      unfold IsDt at hd ⊢
      obtain ⟨a, vs, e, h1, h2⟩ := hd
      exact ⟨a, vs, e, s.tup h1, lists xs vs (by (first | lia | omega)) h2⟩
    | lst xs =>
      unfold dp at h
      unfold IsDt at hd ⊢
      obtain ⟨a, vs, e, h1, h2⟩ := hd
      exact ⟨a, vs, e, s.seq h1, lists xs vs (by (first | lia | omega)) h2⟩
    | non => unfold IsDt at hd ⊢; exact hd
    | bl b => unfold IsDt at hd ⊢; exact hd
    | int b => unfold IsDt at hd ⊢; exact hd
    | str b => unfold IsDt at hd ⊢; exact hd
theorem IsDt.same {K : PySem.W.Frag} {H H' : Hp} {d : Dt} {v : V} (h : IsDt K H d v) (s : Same H H') : IsDt K H' d v := IsDt.same_n s _ d v (Nat.lt_succ_self _) h

section
variable {X : Cx} {pins : List (Addr × Obj)} {σ : St} {H : Hp} {s : Shared}
theorem Inv.noTL (I : Inv X pins σ H s) {a : Addr} {vs us : List V} (h1 : SqT X.K H a vs) (h2 : SqL X.K H a us) : False := by
  obtain ⟨its, _, ⟨o, e, c, _⟩, _⟩ := I.tuple h1
  obtain ⟨its2, _, ⟨o2, n, e2, c2, _⟩, _⟩ := I.list h2
  rw [e] at e2; cases e2
  rw [c] at c2
  exact absurd c2 (by decide +kernel)
theorem IsDt.inj (I : Inv X pins σ H s) : ∀ (n : Nat) (d e : Dt) (v : V), dp d < n → IsDt X.K H d v → IsDt X.K H e v → d = e
  | 0, _, _, _, h, _, _ => by (first | lia | omega)
  | n + 1, d, e, v, h, hd, he => by
    have lists : ∀ (xs ys : List Dt) (vs : List V), dps xs < n → IsDts X.K H xs vs → IsDts X.K H ys vs → xs = ys := by
      intro xs
      induction xs with
      | nil =>
        intro ys vs _ h1 h2
        unfold IsDts at h1
        subst h1
        cases ys with
        | nil => rfl
        | cons y r => unfold IsDts at h2; obtain ⟨_, _, e, _⟩ := h2; cases e
      | cons x r ih =>
        intro ys vs hx h1 h2
        unfold dps at hx
        unfold IsDts at h1
        obtain ⟨w, q, rfl, h3, h4⟩ := h1
        cases ys with
        | nil => unfold IsDts at h2; cases h2
        | cons y r' =>
          unfold IsDts at h2
          obtain ⟨w', q', e, h5, h6⟩ := h2
          injection e with e1 e2
          subst e1 e2
          rw [IsDt.inj I n x y w (by (first | lia | omega)) h3 h5, ih r' q (by (first | lia | omega)) h4 h6]
    cases d with
    | tup xs =>
      unfold dp at h
      unfold IsDt at hd
      obtain ⟨a, vs, rfl, h1, h2⟩ := hd
      cases e with
      | tup ys =>
        unfold IsDt at he
        obtain ⟨a', vs', e, h3, h4⟩ := he
        cases e
        rw [I.tuple_inj h3 h1] at h4
        rw [lists xs ys vs (by (first | lia | omega)) h2 h4]
      | lst ys =>
        unfold IsDt at he
        obtain ⟨a', vs', e, h3, h4⟩ := he
        cases e
        exact (I.noTL h1 h3).elim
      | _ => unfold IsDt at he; cases he
    | lst xs =>
      unfold dp at h
      unfold IsDt at hd
      obtain ⟨a, vs, rfl, h1, h2⟩ := hd
      cases e with
      | lst ys =>
        unfold IsDt at he
        obtain ⟨a', vs', e, h3, h4⟩ := he
        cases e
        rw [I.list_inj h3 h1] at h4
        rw [lists xs ys vs (by (first | lia | omega)) h2 h4]
      | tup ys =>
        unfold IsDt at he
        obtain ⟨a', vs', e, h3, h4⟩ := he
        cases e
        exact (I.noTL h3 h1).elim
      | _ => unfold IsDt at he; cases he
    | non =>
      unfold IsDt at hd
      subst hd
      cases e <;> unfold IsDt at he <;> first | rfl | (cases he; done) | (obtain ⟨_, _, e, _⟩ := he; cases e)
    | bl b =>
      unfold IsDt at hd
      subst hd
      cases e <;> unfold IsDt at he <;> first | (cases he; rfl) | (cases he; done) | (obtain ⟨_, _, e, _⟩ := he; cases e)
    | int b =>
      unfold IsDt at hd
      subst hd
      cases e <;> unfold IsDt at he <;> first | (cases he; rfl) | (cases he; done) | (obtain ⟨_, _, e, _⟩ := he; cases e)
    | str b =>
      unfold IsDt at hd
      subst hd
      cases e <;> unfold IsDt at he <;> first | (injection he with he; rw [tx_inj he]) | (cases he; done) | (obtain ⟨_, _, e, _⟩ := he; cases e)
theorem all_eqDs : ∀ (xs ys : List Dt), ((List.range (min xs.length ys.length)).all (fun j => eqD (xs.getD j .non) (ys.getD j .non)) && xs.length == ys.length) = eqDs xs ys
  | [], [] => by unfold eqDs; rfl
  | [], y :: ys => by unfold eqDs; simp
  | x :: xs, [] => by unfold eqDs; simp
  | x :: xs, y :: ys => by
    have ih := all_eqDs xs ys
    unfold eqDs
    rw [← ih, List.length_cons, List.length_cons, Nat.add_min_add_right, List.range_succ_eq_map, List.all_cons, List.all_map]
    have e1 : (xs.length + 1 == ys.length + 1) = (xs.length == ys.length) := by simp
    rw [e1, Bool.and_assoc]
    rfl
theorem tx_beq (a b : List Nat) : (tx a == tx b) = (a == b) := by
  rw [Bool.eq_iff_iff, beq_iff_eq, beq_iff_eq]; exact tx_eq
theorem eqAt_D (I : Inv X pins σ H s) : ∀ (n : Nat) (A : Around) (d e : Dt) (v u : V) (a b : Value), dp d < n → A.units + n < cLine → IsDt X.K H d v → IsDt X.K H e u → RelV v a → RelV u b → EqAt A s a b (eqD d e)
  | 0, _, _, _, _, _, _, _, h, _, _, _, _, _ => by (first | lia | omega)
  | n + 1, A, d, e, v, u, a, b, h, hu, hd, he, ra, rb => by
    have hu0 : A.units < cLine := by (first | lia | omega)
    have items : ∀ (xs ys : List Dt) (vs us : List V) (its its2 : List Value), dps xs < n → IsDts X.K H xs vs → IsDts X.K H ys us → Vals vs its → Vals us its2 →
        ∀ j (h1 : j < its.toArray.size) (h2 : j < its2.toArray.size), EqAt A.in1 s its.toArray[j] its2.toArray[j] (eqD (xs.getD j .non) (ys.getD j .non)) := by
      intro xs ys vs us its its2 hx h1 h2 r1 r2 j j1 j2
      have l1 := h1.len
      have l2 := h2.len
      have l3 := r1.length
      have l4 := r2.length
      have j1' : j < its.length := by simpa using j1
      have j2' : j < its2.length := by simpa using j2
      have hx1 : j < xs.length := by (first | lia | omega)
      have hx2 : j < ys.length := by (first | lia | omega)
      have hv1 : j < vs.length := by (first | lia | omega)
      have hv2 : j < us.length := by (first | lia | omega)
      have g1 : IsDt X.K H (xs.getD j .non) vs[j] := h1.get (j := j) (by rw [List.getD_eq_getElem?_getD, List.getElem?_eq_getElem hx1]; rfl) (List.getElem?_eq_getElem hv1)
      have g2 : IsDt X.K H (ys.getD j .non) us[j] := h2.get (j := j) (by rw [List.getD_eq_getElem?_getD, List.getElem?_eq_getElem hx2]; rfl) (List.getElem?_eq_getElem hv2)
      obtain ⟨w1, e1, q1⟩ := r1.get (List.getElem?_eq_getElem hv1)
      obtain ⟨w2, e2, q2⟩ := r2.get (List.getElem?_eq_getElem hv2)
      have m1 : its.toArray[j] = w1 := by
        have : its[j]? = some its[j] := List.getElem?_eq_getElem j1'
        rw [this] at e1; simpa using Option.some.inj e1
      have m2 : its2.toArray[j] = w2 := by
        have : its2[j]? = some its2[j] := List.getElem?_eq_getElem j2'
        rw [this] at e2; simpa using Option.some.inj e2
      rw [m1, m2]
      have hm : xs.getD j .non ∈ xs := by rw [List.getD_eq_getElem?_getD, List.getElem?_eq_getElem hx1]; exact List.getElem_mem hx1
      exact eqAt_D I n A.in1 _ _ _ _ _ _ (by have := dp_mem hm; (first | lia | omega)) (by show A.units + 1 + n < cLine; (first | lia | omega)) g1 g2 q1 q2
    cases d with
    | tup xs =>
      unfold dp at h
      have hd0 := hd
      unfold IsDt at hd
      obtain ⟨p, vs, rfl, h1, h2⟩ := hd
      cases ra
      obtain ⟨its, r1, t1, _⟩ := I.tuple h1
      cases e with
      | tup ys =>
        have he0 := he
        unfold IsDt at he
        obtain ⟨p', us, rfl, h3, h4⟩ := he
        cases rb
        by_cases hpp : p = p'
        · subst hpp
          have := IsDt.inj I (n + 1) _ _ _ (by unfold dp; (first | lia | omega)) hd0 he0
          rw [this, eqD_self]
          exact EqAt.same _
        · obtain ⟨its2, r2, t2, _⟩ := I.tuple h3
          have := EqAt.of_refs hpp (RcAt.tuples t1 t2 hu0 (items xs ys vs us its its2 (by (first | lia | omega)) h2 h4 r1 r2))
          have e1 : its.toArray.size = xs.length := by rw [List.size_toArray, ← r1.length, h2.len]
          have e2 : its2.toArray.size = ys.length := by rw [List.size_toArray, ← r2.length, h4.len]
          rw [e1, e2, all_eqDs] at this
          unfold eqD
          exact this
      | lst ys =>
        unfold IsDt at he
        obtain ⟨p', us, rfl, h3, h4⟩ := he
        cases rb
        obtain ⟨its2, r2, t2, _⟩ := I.list h3
        unfold eqD
        exact EqAt.tuple_list t1 t2.isList hu0
      | non => unfold IsDt at he; subst he; cases rb; unfold eqD; exact EqAt.tuple_none t1 hu0
      | bl b => unfold IsDt at he; subst he; cases rb; unfold eqD; exact EqAt.tuple_bool b t1 hu0
      | int b => unfold IsDt at he; subst he; obtain ⟨t, rfl⟩ := rb; unfold eqD; exact EqAt.tuple_int b t t1 hu0
      | str b => unfold IsDt at he; subst he; obtain ⟨t, rfl⟩ := rb; unfold eqD; exact EqAt.tuple_str (tx b) t t1 hu0
    | lst xs =>
      unfold dp at h
      have hd0 := hd
      unfold IsDt at hd
      obtain ⟨p, vs, rfl, h1, h2⟩ := hd
      cases ra
      obtain ⟨its, r1, t1, _⟩ := I.list h1
      cases e with
      | lst ys =>
        have he0 := he
        unfold IsDt at he
        obtain ⟨p', us, rfl, h3, h4⟩ := he
        cases rb
        by_cases hpp : p = p'
        · subst hpp
          have := IsDt.inj I (n + 1) _ _ _ (by unfold dp; (first | lia | omega)) hd0 he0
          rw [this, eqD_self]
          exact EqAt.same _
        · obtain ⟨its2, r2, t2, _⟩ := I.list h3
          have e1 : its.toArray.size = xs.length := by rw [List.size_toArray, ← r1.length, h2.len]
          have e2 : its2.toArray.size = ys.length := by rw [List.size_toArray, ← r2.length, h4.len]
          have key := all_eqDs xs ys
          unfold eqD
          by_cases hsz : its.toArray.size = its2.toArray.size
          · have := EqAt.of_refs hpp (RcAt.lists t1.isList t2.isList hsz hu0 (items xs ys vs us its its2 (by (first | lia | omega)) h2 h4 r1 r2))
            have hxy : xs.length = ys.length := by (first | lia | omega)
            rw [hxy, Nat.min_self] at key
            rw [e1, hxy] at this
            rw [← key]
            simpa using this
          · have := EqAt.of_refs hpp (RcAt.lists_lengths t1.isList t2.isList (by simpa using hsz) hu0)
            have hxy : ¬ xs.length = ys.length := by (first | lia | omega)
            have : (xs.length == ys.length) = false := by simpa using hxy
            rw [this, Bool.and_false] at key
            rw [← key]
            assumption
      | tup ys =>
        unfold IsDt at he
        obtain ⟨p', us, rfl, h3, h4⟩ := he
        cases rb
        obtain ⟨its2, r2, t2, _⟩ := I.tuple h3
        unfold eqD
        exact EqAt.list_tuple t1.isList t2 hu0
      | non => unfold IsDt at he; subst he; cases rb; unfold eqD; exact EqAt.list_none t1.isList hu0
      | bl b => unfold IsDt at he; subst he; cases rb; unfold eqD; exact EqAt.list_bool b t1.isList hu0
      | int b => unfold IsDt at he; subst he; obtain ⟨t, rfl⟩ := rb; unfold eqD; exact EqAt.list_int b t t1.isList hu0
      | str b => unfold IsDt at he; subst he; obtain ⟨t, rfl⟩ := rb; unfold eqD; exact EqAt.list_str (tx b) t t1.isList hu0
    | non =>
      unfold IsDt at hd
      subst hd
      cases e with
      | tup ys => unfold IsDt at he; obtain ⟨p', us, rfl, h3, h4⟩ := he; cases ra; cases rb; obtain ⟨its2, r2, t2, _⟩ := I.tuple h3; unfold eqD; exact EqAt.none_tuple t2 hu0
      | lst ys => unfold IsDt at he; obtain ⟨p', us, rfl, h3, h4⟩ := he; cases ra; cases rb; obtain ⟨its2, r2, t2, _⟩ := I.list h3; unfold eqD; exact EqAt.none_list t2.isList hu0
      | non => unfold IsDt at he; subst he; unfold eqD; exact eqAt_V (y := .non) (x := .non) ra rb rfl rfl
      | bl b => unfold IsDt at he; subst he; unfold eqD; exact eqAt_V (y := .non) (x := .bl b) ra rb rfl rfl
      | int b => unfold IsDt at he; subst he; unfold eqD; exact eqAt_V (y := .non) (x := .int b) ra rb rfl rfl
      | str b => unfold IsDt at he; subst he; unfold eqD; exact eqAt_V (y := .non) (x := .str (tx b)) ra rb rfl rfl
    | bl c =>
      unfold IsDt at hd
      subst hd
      cases e with
      | tup ys => unfold IsDt at he; obtain ⟨p', us, rfl, h3, h4⟩ := he; cases ra; cases rb; obtain ⟨its2, r2, t2, _⟩ := I.tuple h3; unfold eqD; exact EqAt.bool_tuple c t2 hu0
      | lst ys => unfold IsDt at he; obtain ⟨p', us, rfl, h3, h4⟩ := he; cases ra; cases rb; obtain ⟨its2, r2, t2, _⟩ := I.list h3; unfold eqD; exact EqAt.bool_list c t2.isList hu0
      | non => unfold IsDt at he; subst he; unfold eqD; exact eqAt_V (y := .bl c) (x := .non) ra rb rfl rfl
      | bl b => unfold IsDt at he; subst he; unfold eqD; exact eqAt_V (y := .bl c) (x := .bl b) ra rb rfl rfl
      | int b => unfold IsDt at he; subst he; unfold eqD; exact eqAt_V (y := .bl c) (x := .int b) ra rb rfl rfl
      | str b => unfold IsDt at he; subst he; unfold eqD; exact eqAt_V (y := .bl c) (x := .str (tx b)) ra rb rfl rfl
    | int c =>
      unfold IsDt at hd
      subst hd
      cases e with
      | tup ys => unfold IsDt at he; obtain ⟨p', us, rfl, h3, h4⟩ := he; obtain ⟨t, rfl⟩ := ra; cases rb; obtain ⟨its2, r2, t2, _⟩ := I.tuple h3; unfold eqD; exact EqAt.int_tuple c t t2 hu0
      | lst ys => unfold IsDt at he; obtain ⟨p', us, rfl, h3, h4⟩ := he; obtain ⟨t, rfl⟩ := ra; cases rb; obtain ⟨its2, r2, t2, _⟩ := I.list h3; unfold eqD; exact EqAt.int_list c t t2.isList hu0
      | non => unfold IsDt at he; subst he; unfold eqD; exact eqAt_V (y := .int c) (x := .non) ra rb rfl rfl
      | bl b => unfold IsDt at he; subst he; unfold eqD; exact eqAt_V (y := .int c) (x := .bl b) ra rb rfl rfl
      | int b => unfold IsDt at he; subst he; unfold eqD; exact eqAt_V (y := .int c) (x := .int b) ra rb rfl rfl
      | str b => unfold IsDt at he; subst he; unfold eqD; exact eqAt_V (y := .int c) (x := .str (tx b)) ra rb rfl rfl
    | str c =>
      unfold IsDt at hd
      subst hd
      cases e with
      | tup ys => unfold IsDt at he; obtain ⟨p', us, rfl, h3, h4⟩ := he; obtain ⟨t, rfl⟩ := ra; cases rb; obtain ⟨its2, r2, t2, _⟩ := I.tuple h3; unfold eqD; exact EqAt.str_tuple (tx c) t t2 hu0
      | lst ys => unfold IsDt at he; obtain ⟨p', us, rfl, h3, h4⟩ := he; obtain ⟨t, rfl⟩ := ra; cases rb; obtain ⟨its2, r2, t2, _⟩ := I.list h3; unfold eqD; exact EqAt.str_list (tx c) t t2.isList hu0
      | non => unfold IsDt at he; subst he; unfold eqD; exact eqAt_V (y := .str (tx c)) (x := .non) ra rb rfl rfl
      | bl b => unfold IsDt at he; subst he; unfold eqD; exact eqAt_V (y := .str (tx c)) (x := .bl b) ra rb rfl rfl
      | int b => unfold IsDt at he; subst he; unfold eqD; exact eqAt_V (y := .str (tx c)) (x := .int b) ra rb rfl rfl
      | str b =>
        unfold IsDt at he; subst he; unfold eqD
        have := eqAt_V (A := A) (s := s) (y := .str (tx c)) (x := .str (tx b)) ra rb rfl rfl
        have q : eqV (.str (tx c)) (.str (tx b)) = (c == b) := tx_beq c b
        rw [q] at this
        exact this
theorem items_D (I : Inv X pins σ H s) {A : Around} {n : Nat} {xs ys : List Dt} {vs us : List V} {its its2 : List Value} (hx : dps xs < n) (hu : A.units + 1 + n < cLine) (h1 : IsDts X.K H xs vs) (h2 : IsDts X.K H ys us) (r1 : Vals vs its) (r2 : Vals us its2) :
    ∀ j (h1 : j < its.toArray.size) (h2 : j < its2.toArray.size), EqAt A.in1 s its.toArray[j] its2.toArray[j] (eqD (xs.getD j .non) (ys.getD j .non)) := by
  intro j j1 j2
  have l1 := h1.len
  have l2 := h2.len
  have l3 := r1.length
  have l4 := r2.length
  have j1' : j < its.length := by simpa using j1
  have j2' : j < its2.length := by simpa using j2
  have hx1 : j < xs.length := by (first | lia | omega)
  have hx2 : j < ys.length := by (first | lia | omega)
  have hv1 : j < vs.length := by (first | lia | omega)
  have hv2 : j < us.length := by (first | lia | omega)
  have g1 : IsDt X.K H (xs.getD j .non) vs[j] := h1.get (j := j) (by rw [List.getD_eq_getElem?_getD, List.getElem?_eq_getElem hx1]; rfl) (List.getElem?_eq_getElem hv1)
  have g2 : IsDt X.K H (ys.getD j .non) us[j] := h2.get (j := j) (by rw [List.getD_eq_getElem?_getD, List.getElem?_eq_getElem hx2]; rfl) (List.getElem?_eq_getElem hv2)
  obtain ⟨w1, e1, q1⟩ := r1.get (List.getElem?_eq_getElem hv1)
  obtain ⟨w2, e2, q2⟩ := r2.get (List.getElem?_eq_getElem hv2)
  have m1 : its.toArray[j] = w1 := by
    have : its[j]? = some its[j] := List.getElem?_eq_getElem j1'
    rw [this] at e1; simpa using Option.some.inj e1
  have m2 : its2.toArray[j] = w2 := by
    have : its2[j]? = some its2[j] := List.getElem?_eq_getElem j2'
    rw [this] at e2; simpa using Option.some.inj e2
  rw [m1, m2]
  have hm : xs.getD j .non ∈ xs := by rw [List.getD_eq_getElem?_getD, List.getElem?_eq_getElem hx1]; exact List.getElem_mem hx1
  exact eqAt_D I n A.in1 _ _ _ _ _ _ (by have := dp_mem hm; (first | lia | omega)) (by show A.units + 1 + n < cLine; (first | lia | omega)) g1 g2 q1 q2
noncomputable def rEqT (K : PySem.W.Frag) : R2 := fun x y H Q => ∃ xs ys, IsDt K H (.tup xs) x ∧ IsDt K H (.tup ys) y ∧ dps xs < 40 ∧ Q (.bl (eqDs xs ys)) H
noncomputable def rNeT (K : PySem.W.Frag) : R2 := fun x y H Q => ∃ xs ys, IsDt K H (.tup xs) x ∧ IsDt K H (.tup ys) y ∧ dps xs < 40 ∧ Q (.bl (!eqDs xs ys)) H
theorem op_eqT (hu : X.A.units + 64 < cLine) : OpR X (compareOp .Eq) (rEqT X.K) := by
  intro pins s σ H x y v u Q I rx ry h
  obtain ⟨xs, ys, h1, h2, hd, q⟩ := h
  unfold IsDt at h1 h2
  obtain ⟨p, vs, rfl, h1, h3⟩ := h1
  obtain ⟨p', us, rfl, h2, h4⟩ := h2
  cases rx
  cases ry
  obtain ⟨its, r1, t1, _⟩ := I.tuple h1
  obtain ⟨its2, r2, t2, _⟩ := I.tuple h2
  have e1 : its.toArray.size = xs.length := by rw [List.size_toArray, ← r1.length, h3.len]
  have e2 : its2.toArray.size = ys.length := by rw [List.size_toArray, ← r2.length, h4.len]
  refine RcAt.tuples t1 t2 (by (first | lia | omega)) (items_D I (n := 40) hd (by (first | lia | omega)) h3 h4 r1 r2) _ _ _ _ ?_
  rw [e1, e2, all_eqDs]
  exact ⟨.bl _, H, I, rfl, q⟩
theorem op_neT (hu : X.A.units + 64 < cLine) : OpR X (compareOp .NotEq) (rNeT X.K) := by
  intro pins s σ H x y v u Q I rx ry h
  obtain ⟨xs, ys, h1, h2, hd, q⟩ := h
  unfold IsDt at h1 h2
  obtain ⟨p, vs, rfl, h1, h3⟩ := h1
  obtain ⟨p', us, rfl, h2, h4⟩ := h2
  cases rx
  cases ry
  obtain ⟨its, r1, t1, _⟩ := I.tuple h1
  obtain ⟨its2, r2, t2, _⟩ := I.tuple h2
  have e1 : its.toArray.size = xs.length := by rw [List.size_toArray, ← r1.length, h3.len]
  have e2 : its2.toArray.size = ys.length := by rw [List.size_toArray, ← r2.length, h4.len]
  refine RcNeAt.tuples t1 t2 (by (first | lia | omega)) (items_D I (n := 40) hd (by (first | lia | omega)) h3 h4 r1 r2) _ _ _ _ ?_
  rw [e1, e2, all_eqDs]
  exact ⟨.bl _, H, I, rfl, q⟩
end
end L2

namespace L2
open PySem PySem.Spec PyProof.Rows

section
variable {M : Model} {A : Around} {E : Value → Shared → Prop} {s : Shared} {base : Heap} {env : Env} {outer : List Env} {L e : Addr} {C : Value} {dx : Option Addr}

end
end L2

namespace L2
open PySem PySem.Spec PyProof.Rows
section
variable {X : Cx} {pins : List (Addr × Obj)} {σ : St} {H : Hp} {s : Shared} {a : Addr} {C : Value} {dx : Option Addr} {E : XK}

end

section
variable {P : Program} {w : World} {K : PySem.W.Frag} {mg : Str → Option Value} {base : Heap} {N : List Str} {qual : Str} {scope : Scope} {f : Addr} {cd : Value} {A : Around} {outer : List Env} {s : Shared} {H : Hp} {E : XK}
end
end L2

namespace L2
open PySem PySem.Spec PyProof.Rows PySem.Builtin.ObjectAttr

section
variable {prog : Program} {w : World} {A : Around} {E : Value → Shared → Prop} {s : Shared} {K : PySem.W.Frag} {x C : Addr} {ox : Obj} {vs : Array Value} {cd : ClassData} {name : Str} {v : Value}

end
end L2

namespace L2
open PySem PySem.Spec PyProof.Rows

section
variable {prog : Program} {w : World} {h : Heap} {K : PySem.W.Frag} {x C G : Addr} {ox : Obj} {cd cg : ClassData}
end
end L2

namespace L2
open PySem PySem.Spec PyProof.Rows
section
variable {X : Cx} {k : Nat} {f : Addr} {fd : FuncData} {ps : List Str} {sp : Sp} {dvs : List V} {ds : List Value} {x : Str} {p pos : Pos} {e : Expr} {es : List Expr} {t : TA}
end
end L2

namespace L2
open PySem PySem.Spec PyProof.Rows

section
variable {X : Cx} {pins : List (Addr × Obj)} {σ : St} {H : Hp} {s : Shared} {a T : Addr} {C : Value} {dx : Option Addr} {h' : Heap}
end

section
variable {X : Cx} {pins : List (Addr × Obj)} {σ : St} {H : Hp} {s : Shared} {a : Addr}
end
end L2

namespace L2
open PySem PySem.Spec PyProof.Rows
section
variable {X : Cx} {i : Nat} {x : Str} {e : Expr} {te : TEX} {pos pos' : Pos}
end
end L2

namespace L2
open PySem PySem.Spec PyProof.Rows

section
variable {prog : Program} {w : World} {A : Around} {E : Value → Shared → Prop} {h : Heap} {g : Array GenState} {d : Drawn} {t : Nat} {os : OsState}
variable {nm q : Str} {C N : Addr} {bs bm bmB : List Value} {hdct : Bool} {sn : List Str} {sub : List Value} {ab : Bool} {col : Option Bool} {dd : Option Addr} {k0 k1 k2 k3 k5 : Option Value} {B newId initId : String}
end
end L2

namespace L2
open PySem PySem.Spec PyProof.Rows
section
variable {prog : Program} {w : World} {A : Around} {E : Value → Shared → Prop} {s : Shared} {K : PySem.W.Frag} {env : Env}
end
end L2

namespace L2
open PySem PySem.Spec PyProof.Rows
section
variable {X : Cx} {e : Expr} {te : TE} {p q : Str} {j1 j2 : _} {pos p1 p2 p3 : Pos}
end
end L2

namespace L2
open PySem PySem.Spec PyProof.Rows
section
variable {X : Cx} {pins : List (Addr × Obj)} {σ : St} {H : Hp} {s : Shared} {a c : Addr} {cd : ClassData}
end
end L2

namespace L2
open PySem PySem.Spec PyProof.Rows

section
variable {X : Cx} {pins : List (Addr × Obj)} {σ : St} {H : Hp} {s : Shared} {a C f : Addr}
end
end L2

namespace L2
open PySem PySem.Spec PyProof.Rows PySem.Builtin.ObjectAttr
section
variable {prog : Program} {w : World} {A : Around} {E : Value → Shared → Prop} {s : Shared} {K : PySem.W.Frag} {x C : Addr} {ox : Obj} {od : Option Obj} {cd : ClassData}
end
section
variable {X : Cx}
end
end L2

namespace L2
open PySem PySem.Spec PyProof.Rows

section
variable {P : Program} {w : World} {K : PySem.W.Frag} {mg : Str → Option Value} {base : Heap}
end

theorem hu64 {A : Around} {k : Nat} (hr : Room k A) : A.units + 64 < cLine := by have := hr.un; (first | lia | omega)
theorem eqDs_self (xs : List Dt) : eqDs xs xs = true := by
  have := eqD_self (.tup xs)
  unfold eqD at this
  exact this
section
variable {env : Env} {es xs ys : List Expr} {j k : Nat} {p : Pos} {c : Const} {x f : Str} {a b : Expr} {o : Operator} {u : UnaryOp} {kw : List Keyword}
theorem star_c : starEach (.Constant c j p :: es) env = (false, eval (.Constant c j p) env) :: starEach es env := by rfl
theorem star_n : starEach (.Name x p :: es) env = (false, eval (.Name x p) env) :: starEach es env := by rfl
theorem star_b : starEach (.BinOp a o b p :: es) env = (false, eval (.BinOp a o b p) env) :: starEach es env := by rfl
theorem star_s : starEach (.Subscript a b p :: es) env = (false, eval (.Subscript a b p) env) :: starEach es env := by rfl
theorem star_k : starEach (.Call a xs kw p :: es) env = (false, eval (.Call a xs kw p) env) :: starEach es env := by rfl
theorem star_a : starEach (.Attribute a f p :: es) env = (false, eval (.Attribute a f p) env) :: starEach es env := by rfl
end
noncomputable def constTx : List Expr → Option (List (List Nat))
  | [] => some []
  | .Constant (.str x) _ _ :: r => (constTx r).map (x.cps.toList :: ·)
  | _ => none
noncomputable def tTxs (ls : List (List Nat)) : TA := fun _ H Q => Q (ls.map fun l => .str (tx l)) H
theorem pa_txs {X : Cx} : ∀ {es : List Expr} {ls : List (List Nat)}, constTx es = some ls → PA X es (tTxs ls)
  | [], ls, h => by cases h; exact pa_nil
  | e :: r, ls, h => by
    unfold constTx at h
    split at h
    · rename_i q; cases q
    · rename_i x _ _ _ q
      cases q
      cases hr : constTx r with
      | none => rw [hr] at h; cases h
      | some l2 =>
        rw [hr] at h
        cases h
        intro pos pins s σ H Q I hq
        refine pa_cons pe_str (pa_txs hr) star_c pos pins s σ H Q I ?_
        show Q (.str x :: _) H
        have e : (.str x : V) = .str (tx x.cps.toList) := by rw [tx_self]
        rw [e]
        exact hq
    · cases h
theorem tab_at {tab : List (List Nat)} {i : Int} (h0 : 0 ≤ i) (h1 : i < (tab.length : Int)) : atI (tab.map fun l => V.str (tx l)) i = some (.str (tx (tab.getD i.toNat []))) := by
  have e : ((i.toNat : Nat) : Int) = i := by (first | lia | omega)
  rw [← e]
  refine atI_nat ?_
  rw [List.getElem?_map, List.getD_eq_getElem?_getD, Int.toNat_natCast, List.getElem?_eq_getElem (show i.toNat < tab.length by (first | lia | omega))]; rfl
section
variable {X : Cx}
end
end L2

namespace L2
open PySem PySem.Spec PyProof.Rows
section
variable {X : Cx} {k : Nat} {x : Str} {ps : List Str} {sp : Sp} {p pos : Pos} {e : Expr} {es : List Expr} {t : TA}
end
end L2

namespace L2
open PySem PySem.Spec PyProof.Rows

noncomputable def SameB (p : Addr) (H H' : Hp) : Prop := ∀ b o, b ≠ p → H b = some o → H' b = some o
theorem SameB.refl (p : Addr) (H : Hp) : SameB p H H := fun _ _ _ h => h
theorem SameB.trans {p : Addr} {H H1 H2 : Hp} (a : SameB p H H1) (b : SameB p H1 H2) : SameB p H H2 := fun c o n h => b c o n (a c o n h)
theorem Same.b {p : Addr} {H H' : Hp} (s : Same H H') : SameB p H H' := fun c o _ h => s c o h
theorem SameB.upd {p : Addr} {H : Hp} {o : HO} : SameB p H (upd H p o) := fun b u n h => by rw [upd_ne n]; exact h
noncomputable def TuO (H : Hp) : Hp := fun b => match H b with | some (.tup xs) => some (.tup xs) | _ => none
theorem TuO_tup {H : Hp} {b : Addr} {xs : List V} (h : H b = some (.tup xs)) : TuO H b = some (.tup xs) := by unfold TuO; rw [h]
theorem TuO_of {H : Hp} {b : Addr} {o : HO} (h : TuO H b = some o) : ∃ xs, o = .tup xs ∧ H b = some (.tup xs) := by
  unfold TuO at h
  split at h
  · rename_i xs e; cases h; exact ⟨xs, rfl, e⟩
  · cases h
theorem TuO_sub {H : Hp} : Same (TuO H) H := fun b o h => by
  obtain ⟨xs, rfl, e⟩ := TuO_of h
  exact e
noncomputable def SameT (H H' : Hp) : Prop := ∀ b xs, H b = some (.tup xs) → H' b = some (.tup xs)
theorem SameT.to {H H' : Hp} (s : SameT H H') : Same (TuO H) (TuO H') := fun b o h => by
  obtain ⟨xs, rfl, e⟩ := TuO_of h
  exact TuO_tup (s b xs e)
theorem SameT.refl (H : Hp) : SameT H H := fun _ _ h => h
theorem SameT.trans {H H1 H2 : Hp} (a : SameT H H1) (b : SameT H1 H2) : SameT H H2 := fun c o h => b c o (a c o h)
theorem Same.t {H H' : Hp} (s : Same H H') : SameT H H' := fun b xs h => s b _ h
theorem SameT.put {H : Hp} {p : Addr} {ys : List V} {o : HO} (h : H p = some (.lst ys)) : SameT H (upd H p o) := fun b xs e => by
  rw [upd_ne (ne_of e h (by intro z; cases z))]; exact e
theorem SameB.t {H H' : Hp} {p : Addr} {ys : List V} (s : SameB p H H') (h : H p = some (.lst ys)) : SameT H H' := fun b xs e => s b _ (ne_of e h (by intro z; cases z)) e

theorem comp_range {lo : Int} {n : Nat} {g : TG} {te : TE} {σ0 : St} {H0 : Hp} {R : List V → Hp → Prop} (Pv : Nat → St → List V → Hp → Prop) (h0 : Pv 0 σ0 [] H0) (hz : n < sizeLine)
    (hl : ∀ i σ ys H, i ≤ n → Pv i σ ys H → ys.length ≤ i)
    (hs : ∀ i σ ys H, i < n → Pv i σ ys H → g (.int (lo + i)) σ H fun σ2 H2 => te σ2 H2 fun v H4 => Pv (i + 1) σ2 (ys ++ [v]) H4) (hd : ∀ σ ys H, Pv n σ ys H → R ys H) :
    compR (Itr lo n) g tYes te σ0 H0 R := by
  refine ⟨fun i m σ ys H => m = n - i ∧ i ≤ n ∧ Pv i σ ys H, ⟨n, by simp, Nat.zero_le _, h0⟩, ?_⟩
  rintro i m σ ys H ⟨rfl, hi, p⟩
  have hy := hl i σ ys H hi p
  refine ⟨by (first | lia | omega), ?_⟩
  by_cases hlt : i < n
  · refine .inr ⟨hlt, fun σ' ys' H' => Pv (i + 1) σ' ys' H', fun σ' ys' H' p' => ⟨n - (i + 1), by (first | lia | omega), rfl, hlt, p'⟩, fun x H' y => ?_⟩
    obtain ⟨e, ex⟩ := y
    subst e ex
    exact hs i σ ys _ hlt p
  · have e : i = n := by (first | lia | omega)
    subst e
    exact .inl ⟨Nat.le_refl _, hd σ ys H p⟩

noncomputable def wText : List Nat := [116, 101, 120, 116]
noncomputable def wGap : List Nat := [103, 97, 112]
noncomputable def wIf : List Nat := [105, 102]
noncomputable def wEach : List Nat := [101, 97, 99, 104]
noncomputable def wUse : List Nat := [117, 115, 101]
noncomputable def txtOf : Dt → Option (List Nat)
  | .tup [.str w, .str l] => if w = wText then some l else none
  | _ => none
noncomputable def tn (d : Dt) : Nat := match txtOf d with | some l => l.length | none => 0
noncomputable def tlen (ds : List Dt) : Nat := (ds.map tn).sum
noncomputable def NodeD (T N : List Nat → Prop) (F : List Dt → Prop) (d : Dt) : Prop :=
  (∃ l, d = .tup [.str wText, .str l] ∧ T l) ∨ (∃ x, d = .tup [.str wGap, .str x] ∧ N x) ∨ (∃ x, d = .tup [.str wUse, .str x] ∧ N x) ∨
  (∃ x f, d = .tup [.str wEach, .str x, .tup f] ∧ N x ∧ F f) ∨ (∃ x f g, d = .tup [.str wIf, .str x, .tup f, .tup g] ∧ N x ∧ F f ∧ F g)
noncomputable def FormD (T N : List Nat → Prop) : Nat → List Dt → Prop
  | 0, _ => False
  | n + 1, ds => ds.length ≤ 56 ∧ tlen ds ≤ 448 ∧ ∀ d ∈ ds, NodeD T N (FormD T N n) d
theorem tlen_app (a b : List Dt) : tlen (a ++ b) = tlen a + tlen b := by unfold tlen; rw [List.map_append, List.sum_append_nat]
theorem tlen_le : ∀ (ds : List Dt) (m : Nat), (∀ d ∈ ds, tn d ≤ m) → tlen ds ≤ m * ds.length
  | [], m, _ => by simp [tlen]
  | d :: ds, m, h => by
    have h1 := h d List.mem_cons_self
    have h2 := tlen_le ds m fun e he => h e (List.mem_cons_of_mem _ he)
    unfold tlen at h2 ⊢
    rw [List.map_cons, List.sum_cons, List.length_cons, Nat.mul_succ]
    (first | lia | omega)
theorem dts_app {K : PySem.W.Frag} {H : Hp} : ∀ {ds es : List Dt} {vs us : List V}, IsDts K H ds vs → IsDts K H es us → IsDts K H (ds ++ es) (vs ++ us)
  | [], es, vs, us, h1, h2 => by
    unfold IsDts at h1
    subst h1
    exact h2
  | d :: ds, es, vs, us, h1, h2 => by
    unfold IsDts at h1
    obtain ⟨v, r, rfl, hd, hr⟩ := h1
    exact dts_cons hd (dts_app hr h2)
theorem dts_snoc {K : PySem.W.Frag} {H : Hp} {ds : List Dt} {vs : List V} {d : Dt} {v : V} (h1 : IsDts K H ds vs) (h2 : IsDt K H d v) : IsDts K H (ds ++ [d]) (vs ++ [v]) := dts_app h1 (dts_cons h2 dts_nil)
theorem IsDts.same {K : PySem.W.Frag} {H H' : Hp} : ∀ {ds : List Dt} {vs : List V}, IsDts K H ds vs → Same H H' → IsDts K H' ds vs
  | [], vs, h, _ => by unfold IsDts at h ⊢; exact h
  | d :: ds, vs, h, s => by
    unfold IsDts at h
    obtain ⟨v, r, rfl, hd, hr⟩ := h
    exact dts_cons (hd.same s) (hr.same s)
end L2

namespace HT
open PySem PySem.Spec PyProof.Rows
section
variable {prog : Program} {w : World} {A : Around} {E : Value → Shared → Prop} {s : Shared}
theorem getItem_tuple_whole {t sl : Addr} {items : Array Value} {vl vu : Value} {lo hi : Option Int} {Q : Value → Shared → Prop} (ht : IsTup s.heap t items) (hs : s.heap.IsSliceOf sl vl vu .none) (pl : IsPart vl lo) (pu : IsPart vu hi)
    (hw : sIx items.size 0 lo = 0 ∧ sIx items.size items.size hi = items.size) (h : Q (.ref t) s) : wpAny (model prog w) A (getItem (.ref t) (.ref sl)) Q E s := by
  obtain ⟨os, hos, hcs, hds⟩ := id hs
  have hTs : s.TypeIs (.ref sl) "slice" := ⟨os, hos, hcs⟩
  unfold getItem
  try with_reducible refine wpAny_holding ?_
  first | refine wpAny_bind (wpAny_pure ?_) | skip
  refine wpAny_bind (wpAny_sequenceKey ht.typeIs (by decide) ?_)
  refine wpAny_bind (wpAny_callSpecial?_slot (name := Str.ofString "__getitem__") ht.typeIs PyProof.Rows.slot_tuple_getitem
    (wpAny_call_entry PyProof.Rows.slot_tuple_getitem ht.typeIs entry_tuple_getitem ?_ (args_tuple_getitem _ _)))
  show wpAny _ _ (Builtin.Tuple.tupleItemsOf (.ref t) >>= _) _ _ s
  refine wpAny_bind (tupleItemsOf_ ht ?_)
  refine wpAny_bind (wpAny_typeOf hTs ?_)
  rw [if_pos (by decide)]
  refine wpAny_bind (sliceApplied_gen hs pl pu ?_)
  have hyes : (((sIx items.size 0 lo : Nat) : Int) == 0 && (1 : Int) == 1 && (sIx items.size items.size hi - sIx items.size 0 lo) == items.size) = true := by
    rw [hw.1, hw.2]; simp
  show wpAny _ _ (if (((sIx items.size 0 lo : Nat) : Int) == 0 && (1 : Int) == 1 && (sIx items.size items.size hi - sIx items.size 0 lo) == items.size) = true then _ else _) _ _ s
  rw [if_pos hyes]
  unfold Builtin.Tuple.tupleIsExact
  refine wpAny_bind (wpAny_bind (wpAny_typeOf ht.typeIs (wpAny_pure ?_)))
  rw [if_pos (by decide)]
  first
    | exact wpAny_bind (wpAny_pure (wpAny_pure ⟨_, rfl, wpAny_pure h⟩))
    | exact wpAny_pure ⟨_, rfl, wpAny_pure h⟩
    | (repeat wp_step
       exact ⟨_, rfl, wpAny_pure h⟩)

end
end HT

namespace L2
open PySem PySem.Spec PyProof.Rows
section
variable {X : Cx}
noncomputable def rSlTA (K : PySem.W.Frag) : V → Option Int → Option Int → Hp → VK → Prop := fun x lo hi H Q => ∃ a xs, x = .ref a ∧ SqT K H a xs ∧
  ((HT.sIx xs.length 0 lo = 0 ∧ HT.sIx xs.length xs.length hi = xs.length) → Q (.ref a) H) ∧ (¬ (HT.sIx xs.length 0 lo = 0 ∧ HT.sIx xs.length xs.length hi = xs.length) → ∀ p, H p = none → Q (.ref p) (upd H p (.tup (cutV xs lo hi))))
theorem sl_tupA : SlR X (rSlTA X.K) := by
  intro pins s σ H x v vl vu lo hi sl Q I rx hs pl pu h
  obtain ⟨a, xs, rfl, hx, q1, q2⟩ := h
  by_cases hw : HT.sIx xs.length 0 lo = 0 ∧ HT.sIx xs.length xs.length hi = xs.length
  · cases rx
    obtain ⟨its, r, ht, hz⟩ := I.tuple hx
    have hlen : its.toArray.size = xs.length := by rw [List.size_toArray]; exact r.length.symm
    refine ⟨"tuple", _, PyProof.Rows.slot_tuple_getitem.lookup, ht.typeIs, ?_⟩
    exact HT.getItem_tuple_whole ht hs pl pu (by rw [hlen]; exact hw) ⟨.ref a, H, I, rfl, q1 hw⟩
  · exact sl_tup pins s σ H _ v vl vu lo hi sl Q I rx hs pl pu ⟨a, xs, rfl, hx, hw, q2 hw⟩
noncomputable def rCatA (K : PySem.W.Frag) : R2 := fun x y H Q => ∃ a b xs ys, x = .ref a ∧ y = .ref b ∧ SqT K H a xs ∧ SqT K H b ys ∧ xs.length + ys.length ≤ sizeLine ∧
  (xs = [] → Q (.ref b) H) ∧ (xs ≠ [] → ys = [] → Q (.ref a) H) ∧ (xs ≠ [] → ys ≠ [] → ∀ p, H p = none → Q (.ref p) (upd H p (.tup (xs ++ ys))))
theorem op_catA : OpR X (binaryOp .Add) (rCatA X.K) := by
  intro pins s σ H x y v u Q I rx ry h
  obtain ⟨a, b, xs, ys, rfl, rfl, ha, hb, hz, q0, q1, q2⟩ := h
  by_cases hx : xs = []
  · cases rx
    cases ry
    obtain ⟨its, r1, p1, _⟩ := I.tuple ha
    obtain ⟨its2, r2, p2, _⟩ := I.tuple hb
    obtain ⟨⟨cls, dd, data, sl⟩, ho, hc, n, hd⟩ := id p1
    obtain ⟨⟨cls2, dd2, data2, sl2⟩, ho2, hc2, n2, hd2⟩ := id p2
    simp only at hc hd hc2 hd2
    subst hc hd hc2 hd2
    have hi : its = [] := r1.nil_iff.mpr hx
    exact concat_meets ⟨_, ho, rfl⟩ ⟨_, ho2, rfl⟩ noFill_tuple_add seq_tuple_add PySem.F.slot_tuple_add PySem.F.entry_tuple_add (PySem.F.args_tuple_add_2 _ _)
      (tuple_addW0 a b its.toArray its2.toArray n n2 dd dd2 sl sl2 (by simp [hi])) ⟨ho, ho2, ⟨.ref b, H, I, rfl, q0 hx⟩⟩
  · exact op_catT pins s σ H _ _ v u Q I rx ry ⟨a, b, xs, ys, rfl, rfl, ha, hb, hx, hz, q1 hx, q2 hx⟩
end
end L2

namespace L2
open PySem PySem.Spec PyProof.Rows
section
variable {X : Cx} {elts : List Expr} {k0 : Nat} {tpos pos p : Pos}
end
theorem At.no {P : Program} {w : World} {K : PySem.W.Frag} {mg : Str → Option Value} {base : Heap} {x : Str} {st : Stmt} {f : Addr} {fd : FuncData} {ps : List Str} {k : Nat} {sp : Sp} (A : At K mg x st ps f fd) (h : ∀ vs H Q E, ¬ sp vs H Q E) : Cal P w K mg base CX0 k x ps sp := by
  obtain ⟨oc, od, kV, doc, pm, an, cdv, ct, osl, e, l, c⟩ := A.fn.ex
  exact ⟨f, fd, oc, od, osl, ⟨fun vs H Q E q => (h vs H Q E q).elim, fun A outer s H args us vs Q E hr he hb hv hs => (h vs H Q E hs).elim⟩, A.b, A.fn.kp, A.m, l⟩
end L2

namespace L2
noncomputable def jt (l : List Nat) : List Dt := if l = [] then [] else [.tup [.str wText, .str l]]
noncomputable def JL (g : Dt → Dt) : List Nat → List Dt → List Dt
  | ts, [] => jt ts
  | ts, d :: r => match txtOf d with
    | some l => JL g (ts ++ l) r
    | none => jt ts ++ g d :: JL g [] r
noncomputable def jS (F : List Dt → List Dt) : Dt → Dt
  | .tup ds => .tup (F ds)
  | d => d
noncomputable def jN (F : List Dt → List Dt) : Dt → Dt
  | .tup (a :: b :: fs) => .tup (a :: b :: fs.map (jS F))
  | d => d
noncomputable def jF : Nat → List Dt → List Dt
  | 0, ds => ds
  | n + 1, ds => JL (jN (jF n)) [] ds
theorem JL_text {g : Dt → Dt} {ts l : List Nat} {d : Dt} {r : List Dt} (h : txtOf d = some l) : JL g ts (d :: r) = JL g (ts ++ l) r := by
  show (match txtOf d with | some l => _ | none => _) = _
  rw [h]
theorem JL_node {g : Dt → Dt} {ts : List Nat} {d : Dt} {r : List Dt} (h : txtOf d = none) : JL g ts (d :: r) = jt ts ++ g d :: JL g [] r := by
  show (match txtOf d with | some l => _ | none => _) = _
  rw [h]
theorem txt_jt {l : List Nat} : txtOf (.tup [.str wText, .str l]) = some l := by show (if wText = wText then some l else none) = some l; exact if_pos rfl
theorem jt_nil : jt [] = [] := rfl
theorem jt_ne {l : List Nat} (h : l ≠ []) : jt l = [.tup [.str wText, .str l]] := if_neg h
theorem JL_jt {g : Dt → Dt} {ts us : List Nat} {r : List Dt} : JL g ts (jt us ++ r) = JL g (ts ++ us) r := by
  by_cases h : us = []
  · subst h; rw [jt_nil, List.nil_append, List.append_nil]
  · rw [jt_ne h]; exact JL_text txt_jt
theorem JL_app {g : Dt → Dt} : ∀ (a : List Dt) (ts us : List Nat) (b : List Dt), (∀ d ∈ a, txtOf d = none → txtOf (g d) = none ∧ g (g d) = g d) → JL g ts (JL g us a ++ b) = JL g (ts ++ us) (a ++ b)
  | [], ts, us, b, _ => by show JL g ts (jt us ++ b) = _; rw [JL_jt]; rfl
  | d :: a, ts, us, b, h => by
    have ih := fun ts us => JL_app a ts us b fun e he => h e (List.mem_cons_of_mem _ he)
    cases hd : txtOf d with
    | some l => rw [JL_text hd, ih, List.cons_append, JL_text hd, List.append_assoc]
    | none =>
      obtain ⟨h1, h2⟩ := h d List.mem_cons_self hd
      rw [JL_node hd, List.append_assoc, JL_jt, List.cons_append, JL_node h1, h2, ih, List.cons_append, JL_node hd, List.append_nil]
section
variable {T N : List Nat → Prop}
theorem node_cases {F : List Dt → Prop} {d : Dt} (h : NodeD T N F d) : (∃ l, txtOf d = some l ∧ d = .tup [.str wText, .str l] ∧ T l) ∨ (txtOf d = none ∧ tn d = 0 ∧ ∃ w x fs, d = .tup (.str w :: .str x :: fs.map .tup) ∧ N x ∧ w ≠ wText ∧ (∀ f ∈ fs, F f) ∧ fs.length ≤ 2 ∧ (fs = [] ∨ w = wIf ∨ w = wEach) ∧ (w = wGap ∨ w = wUse ∨ w = wEach ∨ w = wIf)) := by
  rcases h with ⟨l, rfl, hl⟩ | ⟨x, rfl, hx⟩ | ⟨x, rfl, hx⟩ | ⟨x, f, rfl, hx, hf⟩ | ⟨x, f, g, rfl, hx, hf, hg⟩
  · exact .inl ⟨l, txt_jt, rfl, hl⟩
  · exact .inr ⟨rfl, rfl, wGap, x, [], rfl, hx, by decide, (fun f hf => nomatch hf), by simp, .inl rfl, .inl rfl⟩
  · exact .inr ⟨rfl, rfl, wUse, x, [], rfl, hx, by decide, (fun f hf => nomatch hf), by simp, .inl rfl, .inr (.inl rfl)⟩
  · exact .inr ⟨rfl, rfl, wEach, x, [f], rfl, hx, by decide, (fun f' hf' => by rw [List.mem_singleton.mp hf']; exact hf), by simp, .inr (.inr rfl), .inr (.inr (.inl rfl))⟩
  · exact .inr ⟨rfl, rfl, wIf, x, [f, g], rfl, hx, by decide, (fun f' hf' => by rcases List.mem_cons.mp hf' with rfl | h; exact hf; rw [List.mem_singleton.mp h]; exact hg), by simp, .inr (.inl rfl), .inr (.inr (.inr rfl))⟩
theorem jN_node {F : List Dt → Prop} {G : List Dt → List Dt} {d : Dt} (h : NodeD T N F d) (ht : txtOf d = none) (hG : ∀ f, F f → F (G f)) (hi : ∀ f, F f → G (G f) = G f) : NodeD T N F (jN G d) ∧ txtOf (jN G d) = none ∧ tn (jN G d) = 0 ∧ jN G (jN G d) = jN G d := by
  rcases h with ⟨l, rfl, hl⟩ | ⟨x, rfl, hx⟩ | ⟨x, rfl, hx⟩ | ⟨x, f, rfl, hx, hf⟩ | ⟨x, f, g, rfl, hx, hf, hg⟩
  · rw [txt_jt] at ht; cases ht
  · exact ⟨.inr (.inl ⟨x, rfl, hx⟩), rfl, rfl, rfl⟩
  · exact ⟨.inr (.inr (.inl ⟨x, rfl, hx⟩)), rfl, rfl, rfl⟩
  · refine ⟨.inr (.inr (.inr (.inl ⟨x, G f, rfl, hx, hG f hf⟩))), rfl, rfl, ?_⟩
    show Dt.tup [.str wEach, .str x, .tup (G (G f))] = _
    rw [hi f hf]; rfl
  · refine ⟨.inr (.inr (.inr (.inr ⟨x, G f, G g, rfl, hx, hG f hf, hG g hg⟩))), rfl, rfl, ?_⟩
    show Dt.tup [.str wIf, .str x, .tup (G (G f)), .tup (G (G g))] = _
    rw [hi f hf, hi g hg]; rfl
theorem tlen_jt (l : List Nat) : tlen (jt l) = l.length := by
  by_cases h : l = []
  · subst h; rfl
  · rw [jt_ne h]; unfold tlen tn; simp only [List.map_cons, List.map_nil, List.sum_cons, List.sum_nil, txt_jt]; (first | lia | omega)
theorem tlen_cons (d : Dt) (r : List Dt) : tlen (d :: r) = tn d + tlen r := by unfold tlen; rw [List.map_cons, List.sum_cons]
theorem JL_keeps {F : List Dt → Prop} {g : Dt → Dt} (h0 : T []) (hT : ∀ a b, T a → T b → T (a ++ b)) : ∀ (a : List Dt) (us : List Nat), T us → (∀ d ∈ a, NodeD T N F d) → (∀ d ∈ a, txtOf d = none → NodeD T N F (g d) ∧ tn (g d) = 0) →
    (∀ d ∈ JL g us a, NodeD T N F d) ∧ (JL g us a).length ≤ a.length + (if us = [] then 0 else 1) ∧ tlen (JL g us a) = us.length + tlen a
  | [], us, hu, _, _ => by
    show (∀ d ∈ jt us, _) ∧ (jt us).length ≤ _ ∧ tlen (jt us) = _
    refine ⟨fun d hd => ?_, ?_, by rw [tlen_jt]; rfl⟩
    · by_cases h : us = []
      · rw [h, jt_nil] at hd; cases hd
      · rw [jt_ne h] at hd; rw [List.mem_singleton.mp hd]; exact .inl ⟨us, rfl, hu⟩
    · by_cases h : us = []
      · rw [h]; simp [jt_nil]
      · rw [jt_ne h, if_neg h]; simp
  | d :: a, us, hu, hn, hg => by
    have ih := fun us hu => JL_keeps h0 hT a us hu (fun e he => hn e (List.mem_cons_of_mem _ he)) fun e he => hg e (List.mem_cons_of_mem _ he)
    rcases node_cases (hn d List.mem_cons_self) with ⟨l, hd, rfl, hl⟩ | ⟨hd, ht, _⟩
    · obtain ⟨i1, i2, i3⟩ := ih (us ++ l) (hT _ _ hu hl)
      rw [JL_text hd]
      refine ⟨i1, ?_, ?_⟩
      · rw [List.length_cons]
        have : (if us ++ l = [] then 0 else 1 : Nat) ≤ 1 := by split <;> (first | lia | omega)
        (first | lia | omega)
      · rw [i3, tlen_cons, List.length_append]
        have : tn (.tup [.str wText, .str l]) = l.length := by unfold tn; rw [txt_jt]
        (first | lia | omega)
    · obtain ⟨i1, i2, i3⟩ := ih [] h0
      obtain ⟨g1, g2⟩ := hg d List.mem_cons_self hd
      rw [JL_node hd]
      have j1 : (jt us).length = if us = [] then 0 else 1 := by
        by_cases h : us = []
        · rw [h]; rfl
        · rw [jt_ne h, if_neg h]; rfl
      refine ⟨fun e he => ?_, ?_, ?_⟩
      · rcases List.mem_append.mp he with h | h
        · by_cases hu' : us = []
          · rw [hu', jt_nil] at h; cases h
          · rw [jt_ne hu'] at h; rw [List.mem_singleton.mp h]; exact .inl ⟨us, rfl, hu⟩
        · rcases List.mem_cons.mp h with rfl | h
          · exact g1
          · exact i1 e h
      · rw [List.length_append, List.length_cons, List.length_cons, j1]
        rw [if_pos rfl] at i2
        (first | lia | omega)
      · rw [tlen_app, tlen_jt, tlen_cons, i3, tlen_cons, g2, ht]
        simp
theorem jF_ok (h0 : T []) (hT : ∀ a b, T a → T b → T (a ++ b)) : ∀ (n : Nat) (f : List Dt), FormD T N n f → FormD T N n (jF n f) ∧ jF n (jF n f) = jF n f
  | 0, f, h => h.elim
  | n + 1, f, h => by
    have ih := jF_ok h0 hT n
    obtain ⟨h1, h2, h3⟩ := h
    have gd : ∀ d ∈ f, txtOf d = none → NodeD T N (FormD T N n) (jN (jF n) d) ∧ txtOf (jN (jF n) d) = none ∧ tn (jN (jF n) d) = 0 ∧ jN (jF n) (jN (jF n) d) = jN (jF n) d := fun d hd ht => jN_node (h3 d hd) ht (fun g hg => (ih g hg).1) fun g hg => (ih g hg).2
    obtain ⟨k1, k2, k3⟩ := JL_keeps (g := jN (jF n)) h0 hT f [] h0 h3 fun d hd ht => ⟨(gd d hd ht).1, (gd d hd ht).2.2.1⟩
    refine ⟨⟨?_, ?_, k1⟩, ?_⟩
    · show (JL _ [] f).length ≤ 56
      rw [if_pos rfl] at k2; (first | lia | omega)
    · show tlen (JL _ [] f) ≤ 448
      rw [k3, List.length_nil]; (first | lia | omega)
    · show JL _ [] (JL _ [] f) = JL _ [] f
      have := JL_app (g := jN (jF n)) f [] [] [] fun d hd ht => ⟨(gd d hd ht).2.1, (gd d hd ht).2.2.2⟩
      simpa using this
end
end L2

namespace L2
open PySem PySem.Spec PyProof.Rows PySem.SeqAt
section
variable {X : Cx}
end
theorem comp_tup {K : PySem.W.Frag} {a : Addr} {xs : List V} {g : TG} {tt : TT} {te : TE} {σ0 : St} {H0 : Hp} {R : List V → Hp → Prop} (Pv : Nat → St → List V → Hp → Prop) (h0 : Pv 0 σ0 [] H0) (hz : xs.length < sizeLine)
    (hl : ∀ i σ ys H, i ≤ xs.length → Pv i σ ys H → SqT K H a xs ∧ ys.length ≤ i)
    (hs : ∀ i x σ ys H, xs[i]? = some x → Pv i σ ys H → g x σ H fun σ2 H2 => tt σ2 H2 fun b H3 => if b = true then te σ2 H3 fun v H4 => Pv (i + 1) σ2 (ys ++ [v]) H4 else Pv (i + 1) σ2 ys H3) (hd : ∀ σ ys H, Pv xs.length σ ys H → R ys H) :
    compR (Itt K a) g tt te σ0 H0 R := by
  refine ⟨fun i m σ ys H => m = xs.length - i ∧ i ≤ xs.length ∧ Pv i σ ys H, ⟨xs.length, by simp, Nat.zero_le _, h0⟩, ?_⟩
  rintro i m σ ys H ⟨rfl, hi, p⟩
  obtain ⟨q, hy⟩ := hl i σ ys H hi p
  refine ⟨by (first | lia | omega), ?_⟩
  by_cases hlt : i < xs.length
  · refine .inr ⟨⟨xs, xs[i], q, by simp [hlt]⟩, fun σ' ys' H' => Pv (i + 1) σ' ys' H', fun σ' ys' H' p' => ⟨xs.length - (i + 1), by (first | lia | omega), rfl, hlt, p'⟩, fun x H' y => ?_⟩
    obtain ⟨e, y⟩ := y
    subst e
    exact hs i x σ ys _ (y xs q) p
  · have e : i = xs.length := by (first | lia | omega)
    subst e
    exact .inl ⟨⟨xs, q, Nat.le_refl _⟩, hd σ ys H p⟩
theorem IsDts.at {K : PySem.W.Frag} {H : Hp} : ∀ {ds : List Dt} {vs : List V} {i : Nat} {d : Dt}, IsDts K H ds vs → ds[i]? = some d → ∃ v, vs[i]? = some v ∧ IsDt K H d v
  | [], _, _, _, _, e => by simp at e
  | d :: ds, vs, i, e', h, e => by
    unfold IsDts at h
    obtain ⟨v, r, rfl, hd, hr⟩ := h
    cases i with
    | zero => simp at e; subst e; exact ⟨v, by simp, hd⟩
    | succ i =>
      obtain ⟨u, h1, h2⟩ := hr.at (i := i) (by simpa using e)
      exact ⟨u, by simpa using h1, h2⟩
theorem IsDts.atV {K : PySem.W.Frag} {H : Hp} {ds : List Dt} {vs : List V} {i : Nat} {v : V} (h : IsDts K H ds vs) (e : vs[i]? = some v) : ∃ d, ds[i]? = some d ∧ IsDt K H d v := by
  have hi : i < vs.length := (List.getElem?_eq_some_iff.mp e).1
  rw [← h.len] at hi
  obtain ⟨u, h1, h2⟩ := h.at (List.getElem?_eq_getElem hi)
  rw [e] at h1
  cases h1
  exact ⟨_, List.getElem?_eq_getElem hi, h2⟩
theorem dt_tup_inv {K : PySem.W.Frag} {H : Hp} {xs : List Dt} {v : V} (h : IsDt K H (.tup xs) v) : ∃ a vs, v = .ref a ∧ SqT K H a vs ∧ IsDts K H xs vs := by unfold IsDt at h; exact h
theorem dt_str_inv {K : PySem.W.Frag} {H : Hp} {l : List Nat} {v : V} (h : IsDt K H (.str l) v) : v = .str (tx l) := by unfold IsDt at h; exact h
theorem dts_cons_inv {K : PySem.W.Frag} {H : Hp} {d : Dt} {ds : List Dt} {vs : List V} (h : IsDts K H (d :: ds) vs) : ∃ v r, vs = v :: r ∧ IsDt K H d v ∧ IsDts K H ds r := by unfold IsDts at h; exact h
theorem dts_nil_inv {K : PySem.W.Frag} {H : Hp} {vs : List V} (h : IsDts K H [] vs) : vs = [] := by unfold IsDts at h; exact h
section
variable {X : Cx}
theorem pe_gi {pos : Pos} {x : Str} {i : Int} {t : Tok} (hm : X.mg x = some (.int i t)) (hg : Gl X x) (hd : (x == ("__debug__" : Str)) = false := by decide) : PE X (.Name x pos) (tC (.int i)) := pe_glob hg hm ⟨t, rfl⟩ hd
theorem call_isTup : CallR X (.builtin "isinstance") (fun xs H Q => ∃ a vs, xs = [.ref a, .ty "tuple"] ∧ SqT X.K H a vs ∧ Q (.bl true) H) := by
  intro pins s σ H xs us Q I r h
  obtain ⟨a, vs, rfl, hS, q⟩ := h
  obtain ⟨u, w', rfl, r1, r2⟩ := vals2 r
  obtain rfl : u = Value.ref a := r1
  obtain rfl : w' = Value.type "tuple" := r2
  obtain ⟨its, _, p, _⟩ := I.tuple hS
  obtain ⟨o, h1, h2, _⟩ := p
  exact PySem.W.kia_one PySem.W.kitx_tuple I.kIn ⟨o, h1, h2⟩ (kit_tuple_tuple X.K) (fun z => nomatch z) fun tk => ⟨.bl true, H, I.tok _, rfl, q⟩
end
theorem slice2 {K : PySem.W.Frag} {H : Hp} {a : Addr} {w x : List Nat} {r : List V} {Q : VK} (hS : SqT K (TuO H) a (.str (tx w) :: .str (tx x) :: r)) (q : ∀ H' p, Same H H' → IsDt K (TuO H') (.tup [.str w, .str x]) (.ref p) → Q (.ref p) H') : rSlTA K (.ref a) none (some 2) H Q := by
  have s2 : HT.sIx (V.str (tx w) :: V.str (tx x) :: r).length (V.str (tx w) :: V.str (tx x) :: r).length (some 2) = 2 := by
    rw [show (2 : Int) = ((2 : Nat) : Int) from rfl, HT.sIx_nat]
    simp only [List.length_cons]; (first | lia | omega)
  refine ⟨a, _, rfl, TuO_sub.tup hS, fun z => ?_, fun _ p hp => ?_⟩
  · have z2 := z.2
    rw [s2] at z2
    simp only [List.length_cons] at z2
    have e0 : r = [] := List.length_eq_zero_iff.mp (by (first | lia | omega))
    subst e0
    exact q H a (Same.refl _) (dt_tup hS (dts_cons dt_str (dts_cons dt_str dts_nil)))
  · have ecut : cutV (V.str (tx w) :: V.str (tx x) :: r) none (some 2) = [.str (tx w), .str (tx x)] := by
      unfold cutV
      rw [s2]
      rfl
    rw [ecut]
    exact q _ p (same_new hp _) (dt_tup (SqT.of (TuO_tup upd_same)) (dts_cons dt_str (dts_cons dt_str dts_nil)))
theorem ixN_last {n : Nat} (h : 0 < n) : ixN n (-1) = some (n - 1) := by
  unfold ixN
  rw [if_neg (by decide), if_pos (by (first | lia | omega))]
  congr 1
  (first | lia | omega)
end L2

namespace L2
open PySem PySem.Spec PyProof.Rows

theorem list_extend_tup (l : Addr) (items : Array Value) (n : Nat) (b : Addr) (items2 : Array Value) (n2 : Nat) (dd : Option Addr) (sl : Array (Option Value)) (hs0 : ¬(!items.isEmpty && Builtin.List.listTooLong (items.size + items2.size)) = true) (hs1 : items.size ≤ sizeLine) (hs2 : items.size + items2.size ≤ sizeLine + 1) :
    Meets (Builtin.«list.extend» ⟨[.ref l, .ref b], []⟩) (fun _ R s => s.heap.get? l = some { cls := .type "list", dict := none, data := .seq items n, slots := #[] } ∧ s.heap.get? b = some { cls := .type "tuple", dict := dd, data := .seq items2 n2, slots := sl } ∧ R (.ok (.ret Value.none)) { s with heap := s.heap.update l (Obj.mapSeq fun x => x ++ items2), toks := s.toks }) :=
  .of_wp fun prog w A R s h => by
    obtain ⟨hp, g, d, tk, os⟩ := s; obtain ⟨hl, hb, h⟩ := h; have f1 := AutoSeq1.idx_int; have f2 := AutoSeq1.sub_tuple_tuple; have f3 := AutoSeq1.sub_list_list; have f4 := AutoSeq1.sub_tuple_list; have f5 := AutoSeq1.sub_list_tuple;
    have hz' : (items ++ items2).size ≤ sizeLine + 1 := by rw [Array.size_append]; exact hs2
    wp_walk using (wpAny_updateSeq hl rfl (hz := hs1) (_hz' := hz')), wpAny_loadPart' hl, wpAny_loadPart' hb; exact ⟨_, rfl, h⟩
section
variable {X : Cx}
noncomputable def rExtendT (K : PySem.W.Frag) : V → List V → Hp → VK → Prop := fun x vs H Q => ∃ l b xs zs, x = .ref l ∧ vs = [.ref b] ∧ H l = some (.lst xs) ∧ SqT K H b zs ∧ xs.length + zs.length ≤ sizeLine ∧ Q .non (upd H l (.lst (xs ++ zs)))
theorem mt_extendT : MtM X "list.extend" (rExtendT X.K) := by
  intro pins s σ H x vs v us Q I rx rv h
  obtain ⟨l, b, xs, zs, rfl, rfl, hH, hB, hz, q⟩ := h
  cases rx
  obtain ⟨u, rfl, ru⟩ := rv.one
  cases ru
  obtain ⟨z, its, n, r, hl, e⟩ := I.lstM hH
  obtain ⟨its2, r2, p2, z2⟩ := I.tuple hB
  obtain ⟨⟨oc, od, oda, osl⟩, e2, hc, n2, hd⟩ := id p2
  simp only at hc hd
  subst hc hd
  have hl2 := r2.length
  have hsz : its.toArray.size + its2.toArray.size ≤ sizeLine := by rw [List.size_toArray, List.size_toArray]; (first | lia | omega)
  have hlong : ¬ (!its.toArray.isEmpty && Builtin.List.listTooLong (its.toArray.size + its2.toArray.size)) = true := by
    rw [notLongL hsz, Bool.and_false]
    exact Bool.false_ne_true
  refine call_meets F.slot_list_extend ⟨_, e, rfl⟩ F.entry_list_extend (F.args_list_extend_2 _ _)
    (list_extend_tup l its.toArray n b its2.toArray n2 od osl hlong (by rw [List.size_toArray]; (first | lia | omega)) (by (first | lia | omega))) ⟨e, e2, ?_⟩
  refine ⟨.non, _, I.lset (its' := its ++ its2) hH e (by simp) (r.append r2) ?_, rfl, q⟩
  rw [List.length_append]
  (first | lia | omega)
end
end L2

namespace L2
open PySem PySem.Spec PyProof.Rows PySem.SeqAt
noncomputable def inter (sep : List Nat) : List (List Nat) → List Nat
  | [] => []
  | [a] => a
  | a :: b :: r => a ++ sep ++ inter sep (b :: r)
theorem join_inter (sep : List Nat) : ∀ ls : List (List Nat), Str.join (tx sep) (ls.map tx) = tx (inter sep ls)
  | [] => rfl
  | [a] => rfl
  | a :: b :: r => by
    have ih := join_inter sep (b :: r)
    show tx a ++ tx sep ++ Str.join (tx sep) ((b :: r).map tx) = _
    rw [ih, tx_app, tx_app]
    rfl
section
variable {X : Cx}
theorem mt_joinS : MtR X "str.join" (fun x xs H Q => ∃ (D : Addr) (sep : List Nat) (ls : List (List Nat)), x = .str (tx sep) ∧ xs = [.ref D] ∧ SqL X.K H D (ls.map fun l => .str (tx l)) ∧ ls.flatten.length + ls.length * sep.length ≤ 16777216 ∧ Q (.str (tx (inter sep ls))) H) := by
  intro pins s σ H x xs v us Q I rx rs h
  obtain ⟨D, sep, ls, rfl, rfl, hq, hz, q⟩ := h
  obtain ⟨t, rfl⟩ := rx
  obtain ⟨u, rfl, ru⟩ := vals1 rs
  cases ru
  obtain ⟨its, r, pl, _⟩ := I.list hq
  have r' : Vals ((ls.map tx).map V.str) its := by rw [List.map_map]; exact r
  have e : ((ls.map tx).map (·.length)).sum = ls.flatten.length := by
    rw [List.map_map, List.length_flatten]
    congr 1
  refine join_list (ys := ls.map tx) pl.isList (strsAre_of r') (by rw [e, tx_len, List.length_map]; exact hz) fun t' k => ⟨.str (tx (inter sep ls)), H, I.tok _, ⟨t', ?_⟩, q⟩
  show Value.str (Txt.join (tx sep) (ls.map tx)) t' = _
  rw [show Txt.join (tx sep) (ls.map tx) = Str.join (tx sep) (ls.map tx) from StrLaws.glued_eq_join _ _, join_inter]
end
theorem comp_tupD {K : PySem.W.Frag} {a : Addr} {xs : List V} {ds : List Dt} {te : TE} {σ0 rest : St} {H0 : Hp} {R : List V → Hp → Prop} (F : Dt → V) (hσ : σ0 = none :: rest) (hz : xs.length ≤ 1000000) (hl : SqT K H0 a xs) (hd : IsDts K (TuO H0) ds xs)
    (hs : ∀ (d : Dt) (x : V) (H : Hp) (Qk : VK), d ∈ ds → Same H0 H → IsDt K (TuO H) d x → (∀ H', Same H H' → Qk (F d) H') → te (some x :: rest) H Qk) (he : ∀ H, Same H0 H → R (ds.map F) H) : compR (Itt K a) (gName 0) tYes te σ0 H0 R := by
  subst hσ
  have hlen := hd.len
  refine comp_tup (xs := xs) (fun i σ ys H => (∃ o, σ = o :: rest) ∧ ys = (ds.take i).map F ∧ Same H0 H) ⟨⟨_, rfl⟩, rfl, Same.refl _⟩ (small hz) (fun i σ ys H hi p => ?_) (fun i c σ ys H hc p => ?_) fun σ ys H p => ?_
  · obtain ⟨_, rfl, hJ⟩ := p
    refine ⟨hJ.tup hl, ?_⟩
    rw [List.length_map, List.length_take]; (first | lia | omega)
  · obtain ⟨⟨o, rfl⟩, rfl, hJ⟩ := p
    obtain ⟨d, hdi, hdv⟩ := hd.atV hc
    refine hs d c H _ (List.mem_of_getElem? hdi) hJ (hdv.same hJ.t.to) fun H' hJ' => ⟨⟨_, rfl⟩, ?_, hJ.trans hJ'⟩
    rw [List.take_add_one, hdi, List.map_append]; rfl
  · obtain ⟨_, rfl, hJ⟩ := p
    have := he H hJ
    rwa [← hlen, List.take_length]
end L2

namespace L2
open PySem PySem.Spec PyProof.Rows PySem.SeqAt
inductive Th where
  | str (l : List Nat) | tup (xs : List Th) | oth
mutual
noncomputable def IsTh (K : PySem.W.Frag) (H : Hp) : Th → V → Prop
  | .str l, v => v = .str (tx l) ∧ l.length ≤ 1000000
  | .tup xs, v => ∃ a vs, v = .ref a ∧ SqT K H a vs ∧ IsThs K H xs vs
  | .oth, v => ∃ t, TyOf K H v t ∧ PySem.W.kitOne K t (.type "tuple") = some false ∧ PySem.W.kitOne K t (.type "str") = some false
noncomputable def IsThs (K : PySem.W.Frag) (H : Hp) : List Th → List V → Prop
  | [], vs => vs = []
  | d :: ds, vs => ∃ v r, vs = v :: r ∧ IsTh K H d v ∧ IsThs K H ds r
end
mutual
noncomputable def szT : Th → Nat
  | .tup xs => szs xs + 1
  | _ => 1
noncomputable def szs : List Th → Nat
  | [] => 0
  | x :: r => szT x + szs r
end
section
variable {K : PySem.W.Frag} {H H' : Hp}
theorem th_str {l : List Nat} (h : l.length ≤ 1000000) : IsTh K H (.str l) (.str (tx l)) := by unfold IsTh; exact ⟨rfl, h⟩
theorem th_tup {xs : List Th} {a : Addr} {vs : List V} (h : SqT K H a vs) (h2 : IsThs K H xs vs) : IsTh K H (.tup xs) (.ref a) := by unfold IsTh; exact ⟨a, vs, rfl, h, h2⟩
theorem ths_nil : IsThs K H [] [] := by unfold IsThs; rfl
theorem ths_cons {d : Th} {ds : List Th} {v : V} {r : List V} (h1 : IsTh K H d v) (h2 : IsThs K H ds r) : IsThs K H (d :: ds) (v :: r) := by unfold IsThs; exact ⟨v, r, rfl, h1, h2⟩
theorem th_str_inv {l : List Nat} {v : V} (h : IsTh K H (.str l) v) : v = .str (tx l) ∧ l.length ≤ 1000000 := by unfold IsTh at h; exact h
theorem th_tup_inv {xs : List Th} {v : V} (h : IsTh K H (.tup xs) v) : ∃ a vs, v = .ref a ∧ SqT K H a vs ∧ IsThs K H xs vs := by unfold IsTh at h; exact h
theorem th_oth_inv {v : V} (h : IsTh K H .oth v) : ∃ t, TyOf K H v t ∧ PySem.W.kitOne K t (.type "tuple") = some false ∧ PySem.W.kitOne K t (.type "str") = some false := by unfold IsTh at h; exact h
theorem ths_nil_inv {vs : List V} (h : IsThs K H [] vs) : vs = [] := by unfold IsThs at h; exact h
theorem ths_cons_inv {d : Th} {ds : List Th} {vs : List V} (h : IsThs K H (d :: ds) vs) : ∃ v r, vs = v :: r ∧ IsTh K H d v ∧ IsThs K H ds r := by unfold IsThs at h; exact h
theorem IsThs.len : ∀ {xs : List Th} {vs : List V}, IsThs K H xs vs → xs.length = vs.length
  | [], vs, h => by cases ths_nil_inv h; rfl
  | d :: ds, vs, h => by
    obtain ⟨v, r, rfl, _, h⟩ := ths_cons_inv h
    rw [List.length_cons, List.length_cons, IsThs.len h]
theorem IsTh.same_n (s : Same H H') : ∀ (n : Nat) (d : Th) (v : V), szT d ≤ n → IsTh K H d v → IsTh K H' d v
  | 0, d, v, h, _ => by cases d <;> (unfold szT at h; (first | lia | omega))
  | n + 1, d, v, h, hd => by
    have lists : ∀ (xs : List Th) (vs : List V), szs xs ≤ n → IsThs K H xs vs → IsThs K H' xs vs := by
      intro xs
      induction xs with
      | nil => intro vs _ h; unfold IsThs at h ⊢; exact h
      | cons x r ih =>
        intro vs hx h
        unfold szs at hx
        obtain ⟨w, q, rfl, h1, h2⟩ := ths_cons_inv h
        exact ths_cons (IsTh.same_n s n x w (by (first | lia | omega)) h1) (ih q (by (first | lia | omega)) h2)
    cases d with
    | tup xs =>
      unfold szT at h
      obtain ⟨a, vs, rfl, h1, h2⟩ := th_tup_inv hd
      exact th_tup (s.tup h1) (lists xs vs (by (first | lia | omega)) h2)
    | str l => unfold IsTh at hd ⊢; exact hd
    | oth =>
      unfold IsTh at hd ⊢
      obtain ⟨t, h1, h2⟩ := hd
      exact ⟨t, h1.same s, h2⟩
theorem IsTh.same {d : Th} {v : V} (h : IsTh K H d v) (s : Same H H') : IsTh K H' d v := IsTh.same_n s _ d v (Nat.le_refl _) h
theorem IsThs.at : ∀ {ds : List Th} {vs : List V} {i : Nat} {d : Th}, IsThs K H ds vs → ds[i]? = some d → ∃ v, vs[i]? = some v ∧ IsTh K H d v
  | [], _, _, _, _, e => by simp at e
  | d :: ds, vs, i, e', h, e => by
    obtain ⟨v, r, rfl, hd, hr⟩ := ths_cons_inv h
    cases i with
    | zero => simp at e; subst e; exact ⟨v, by simp, hd⟩
    | succ i =>
      obtain ⟨u, h1, h2⟩ := hr.at (i := i) (by simpa using e)
      exact ⟨u, by simpa using h1, h2⟩
theorem IsThs.atV {ds : List Th} {vs : List V} {i : Nat} {v : V} (h : IsThs K H ds vs) (e : vs[i]? = some v) : ∃ d, ds[i]? = some d ∧ IsTh K H d v := by
  have hi : i < vs.length := (List.getElem?_eq_some_iff.mp e).1
  rw [← h.len] at hi
  obtain ⟨u, h1, h2⟩ := h.at (List.getElem?_eq_getElem hi)
  rw [e] at h1
  cases h1
  exact ⟨_, List.getElem?_eq_getElem hi, h2⟩
theorem ths_app : ∀ {ds es : List Th} {vs us : List V}, IsThs K H ds vs → IsThs K H es us → IsThs K H (ds ++ es) (vs ++ us)
  | [], es, vs, us, h1, h2 => by cases ths_nil_inv h1; exact h2
  | d :: ds, es, vs, us, h1, h2 => by
    obtain ⟨v, r, rfl, hd, hr⟩ := ths_cons_inv h1
    exact ths_cons hd (ths_app hr h2)
theorem szs_app : ∀ a b : List Th, szs (a ++ b) = szs a + szs b
  | [], b => by show szs b = szs [] + szs b; unfold szs; (first | lia | omega)
  | d :: a, b => by
    show szs (d :: (a ++ b)) = szs (d :: a) + szs b
    have e1 : szs (d :: (a ++ b)) = szT d + szs (a ++ b) := by rw [szs]
    have e2 : szs (d :: a) = szT d + szs a := by rw [szs]
    rw [e1, e2, szs_app a b]; (first | lia | omega)
theorem szT_pos (t : Th) : 1 ≤ szT t := by cases t <;> (unfold szT; (first | lia | omega))
theorem szs_len : ∀ ts : List Th, ts.length ≤ szs ts
  | [] => by simp
  | t :: ts => by
    have h1 := szT_pos t
    have h2 := szs_len ts
    rw [List.length_cons, szs]; (first | lia | omega)
end
section
variable {X : Cx}
theorem call_isTupB : CallR X (.builtin "isinstance") (fun xs H Q => ∃ x t, xs = [x, .ty "tuple"] ∧ IsTh X.K H t x ∧ Q (.bl (match t with | .tup _ => true | _ => false)) H) := by
  intro pins s σ H xs us Q I r h
  obtain ⟨x, t, rfl, ht, q⟩ := h
  cases t with
  | tup ts =>
    obtain ⟨a, vs, rfl, hS, _⟩ := th_tup_inv ht
    exact call_isTup pins s σ H _ us Q I r ⟨a, vs, rfl, hS, q⟩
  | str l =>
    obtain ⟨rfl, _⟩ := th_str_inv ht
    exact call_isinst pins s σ H _ us Q I r ⟨_, "tuple", _, false, rfl, .str _, by rw [kitOne_tt]; decide +kernel, q⟩
  | oth =>
    obtain ⟨ty, h1, h2, _⟩ := th_oth_inv ht
    exact call_isinst pins s σ H _ us Q I r ⟨_, "tuple", _, false, rfl, h1, h2, q⟩
theorem call_isStrB : CallR X (.builtin "isinstance") (fun xs H Q => ∃ x t, xs = [x, .ty "str"] ∧ IsTh X.K H t x ∧ Q (.bl (match t with | .str _ => true | _ => false)) H) := by
  intro pins s σ H xs us Q I r h
  obtain ⟨x, t, rfl, ht, q⟩ := h
  cases t with
  | tup ts =>
    obtain ⟨a, vs, rfl, hS, _⟩ := th_tup_inv ht
    obtain ⟨u, w', rfl, r1, r2⟩ := vals2 r
    obtain rfl : u = Value.ref a := r1
    obtain rfl : w' = Value.type "str" := r2
    obtain ⟨its, _, p, _⟩ := I.tuple hS
    obtain ⟨o, h1, h2, _⟩ := p
    exact PySem.W.kia_one PySem.W.kitx_tuple I.kIn ⟨o, h1, h2⟩ (kit_tuple_str X.K) (fun z => nomatch z) fun tk => ⟨.bl false, H, I.tok _, rfl, q⟩
  | str l =>
    obtain ⟨rfl, _⟩ := th_str_inv ht
    exact call_isinst pins s σ H _ us Q I r ⟨_, "str", _, true, rfl, .str _, kit_str_str _, q⟩
  | oth =>
    obtain ⟨ty, h1, _, h2⟩ := th_oth_inv ht
    exact call_isinst pins s σ H _ us Q I r ⟨_, "str", _, false, rfl, h1, h2, q⟩
theorem op_notB : OpR X (compareOp .IsNot) (fun x y H Q => ∃ a b, x = .bl a ∧ y = .bl b ∧ Q (.bl (!(a == b))) H) := by
  intro pins s σ H x y v u Q I rx ry h
  obtain ⟨a, b, rfl, rfl, q⟩ := h
  cases rx
  cases ry
  refine wpAny_isNot_plain rfl ⟨.bl (!(a == b)), H, I, ?_, q⟩
  cases a <;> cases b <;> rfl
end
section
variable {K : PySem.W.Frag} {H : Hp}
end
end L2

namespace L2
open PySem PySem.Spec PyProof.Rows
structure MetAt (K : PySem.W.Frag) (C : Addr) (m qual : Str) (st : Stmt) (ps : List Str) (f : Addr) (fd : FuncData) : Prop where
  me : Meth K C m f
  fn : Fun K m qual st f fd
  b : Binds K fd ps []
structure MakAt (K : PySem.W.Frag) (C : Addr) (qual : Str) (st : Stmt) (ps : List Str) (f : Addr) (fd : FuncData) : Prop where
  mak : Mk K C f
  fn : Fun K "__init__" qual st f fd
  b : Binds K fd ps []
structure MCal (P : Program) (w : World) (K : PySem.W.Frag) (mg : Str → Option Value) (base : Heap) (CX : CXT) (k : Nat) (C : Addr) (m : Str) (ps : List Str) (sp : Sp) : Prop where
  ex : ∃ (f : Addr) (fd : FuncData), Meth K C m f ∧ FnOk P w K mg base CX k f fd ps sp ∧ Binds K fd ps []
structure KCal (P : Program) (w : World) (K : PySem.W.Frag) (mg : Str → Option Value) (base : Heap) (CX : CXT) (k : Nat) (C : Addr) (x : Str) (ps : List Str) (sp : Sp) : Prop where
  ex : ∃ (f : Addr) (fd : FuncData) (j : Nat), j + 1 ≤ k ∧ mg x = some (.ref C) ∧ Mk K C f ∧ FnOk P w K mg base CX j f fd ps sp ∧ Binds K fd ps []
section
variable {P : Program} {w : World} {K : PySem.W.Frag} {mg : Str → Option Value} {base : Heap} {CX : CXT} {C f : Addr} {x m qual : Str} {st : Stmt} {fd : FuncData} {N ps : List Str} {j k : Nat} {sp sp' : Sp}
theorem MCal.mono (M : MCal P w K mg base CX j C m ps sp) (h : j ≤ k) : MCal P w K mg base CX k C m ps sp := by
  obtain ⟨f, fd, a, F, b⟩ := M.ex
  exact ⟨f, fd, a, F.mono h, b⟩
theorem KCal.mono (M : KCal P w K mg base CX j C x ps sp) (h : j ≤ k) : KCal P w K mg base CX k C x ps sp := by
  obtain ⟨f, fd, i, hi, r⟩ := M.ex
  exact ⟨f, fd, i, Nat.le_trans hi h, r⟩
theorem MetAt.mcal (A : MetAt K C m qual st ps f fd) (S : FnScope N ps (defScope st)) (len : ∀ vs H Q E, sp vs H Q E → vs.length = ps.length)
    (hbody : ∀ (cdv : Value) (A : Around) (outer : List Env) (s : Shared) (H : Hp) (vs : List V) (Q : VK) (E : XK), Room k (A.deeper (PyProof.Rows.envOfC qual (defScope st) s.heap.objs.size f cdv)) → sp vs H Q E →
      ∃ t, PSs (cxOf CX0 P w K mg base N qual (defScope st) f cdv A outer s H E).nox (defBody st) t ∧ t { nx := fun _ H' => Q .non H', rt := Q } (start N vs) H) : MCal P w K mg base CX0 (k + 1) C m ps sp :=
  ⟨f, fd, A.me, A.fn.ok S len hbody, A.b⟩
theorem MakAt.kcal (A : MakAt K C qual st ps f fd) (hm : mg x = some (.ref C)) (S : FnScope N ps (defScope st)) (len : ∀ vs H Q E, sp vs H Q E → vs.length = ps.length)
    (hbody : ∀ (cdv : Value) (A : Around) (outer : List Env) (s : Shared) (H : Hp) (vs : List V) (Q : VK) (E : XK), Room k (A.deeper (PyProof.Rows.envOfC qual (defScope st) s.heap.objs.size f cdv)) → sp vs H Q E →
      ∃ t, PSs (cxOf CX0 P w K mg base N qual (defScope st) f cdv A outer s H E).nox (defBody st) t ∧ t { nx := fun _ H' => Q .non H', rt := Q } (start N vs) H) : KCal P w K mg base CX0 (k + 2) C x ps sp :=
  ⟨f, fd, k + 1, Nat.le_refl _, hm, A.mak, A.fn.ok S len hbody, A.b⟩
end
section
variable {X : Cx} {k : Nat} {C : Addr} {ps : List Str} {sp : Sp} {x m : Str} {p pos apos : Pos} {e o : Expr} {es : List Expr} {ta : TE} {t : TA}
theorem pe_mth {pl : Sem Bool} (c : Cls X.K C) (M : MCal X.prog X.w X.K X.mg X.base CX0 k C m ps sp) (hr : Room k X.A) (he : PE X o ta) (ha : PA X (e :: es) t)
    (hst : starEach (e :: es) X.env = (false, eval e X.env) :: starEach es X.env := by rfl) (hpl : (backTo pos (starEach es X.env)).any (·.1) = false := by rfl)
    (ht : eval (.Call (.Attribute o m apos) (e :: es) [] pos) X.env = (do
      let ov ← eval o X.env
      standAt apos.atName
      let (f, first) ← holding [ov] (getMethod ov m pl)
      callWith pos f first (backTo pos (starEach (e :: es) X.env)) (backToKw pos (keywordEach [] X.env))) := by rfl) :
    PE X (.Call (.Attribute o m apos) (e :: es) [] pos) (tMeth C m sp [] E0 ta t) := by
  obtain ⟨f, fd, a, F, b⟩ := M.ex
  exact pe_meth he c a F hr b .nil pass0 ha hst hpl ht
theorem pe_mth0 {pl : Sem Bool} (c : Cls X.K C) (M : MCal X.prog X.w X.K X.mg X.base CX0 k C m ps sp) (hr : Room k X.A) (he : PE X o ta)
    (ht : eval (.Call (.Attribute o m apos) [] [] pos) X.env = (do
      let ov ← eval o X.env
      standAt apos.atName
      let (f, first) ← holding [ov] (getMethod ov m pl)
      callWith pos f first (backTo pos (starEach [] X.env)) (backToKw pos (keywordEach [] X.env))) := by rfl) :
    PE X (.Call (.Attribute o m apos) [] [] pos) (tMeth C m sp [] E0 ta tNil) := by
  obtain ⟨f, fd, a, F, b⟩ := M.ex
  exact pe_meth0 he c a F hr b .nil pass0 ht
theorem pe_mk0 (M : KCal X.prog X.w X.K X.mg X.base CX0 k C x ps sp) (hr : Room k X.A) (hg : Gl X x) (hdb : (x == ("__debug__" : Str)) = false := by decide) : PE X (.Call (.Name x p) [] [] pos) (tMake C sp [] E0 tNil) := by
  obtain ⟨f, fd, j, hj, m, K, F, b⟩ := M.ex
  exact pe_make0 K F (hr.mono hj) hg m b .nil pass0 hdb
theorem pe_mk (M : KCal X.prog X.w X.K X.mg X.base CX0 k C x ps sp) (hr : Room k X.A) (ha : PA X (e :: es) t) (hg : Gl X x) (hdb : (x == ("__debug__" : Str)) = false := by decide)
    (he : starEach (e :: es) X.env = (false, eval e X.env) :: starEach es X.env := by rfl) (hpl : (backTo pos (starEach es X.env)).any (·.1) = false := by rfl) : PE X (.Call (.Name x p) (e :: es) [] pos) (tMake C sp [] E0 t) := by
  obtain ⟨f, fd, j, hj, m, K, F, b⟩ := M.ex
  exact pe_make K F (hr.mono hj) hg m b .nil pass0 ha hdb he hpl
end
end L2

namespace L2
open PySem PySem.Spec PyProof.Rows
noncomputable def splitL (c : Nat) : List Nat → List (List Nat)
  | [] => [[]]
  | a :: r => if a = c then [] :: splitL c r else (a :: (splitL c r).headD []) :: (splitL c r).tail
theorem splitL_ne (c : Nat) : ∀ l, splitL c l ≠ []
  | [] => by simp [splitL]
  | a :: r => by unfold splitL; split <;> simp
theorem splitL_free (c : Nat) : ∀ l, ∀ p ∈ splitL c l, c ∉ p
  | [], p, h => by simp [splitL] at h; simp [h]
  | a :: r, p, h => by
    have ih := splitL_free c r
    unfold splitL at h
    split at h
    · rcases List.mem_cons.mp h with rfl | h
      · simp
      · exact ih p h
    · rename_i hac
      cases hs : splitL c r with
      | nil => exact absurd hs (splitL_ne c r)
      | cons q qs =>
        rw [hs] at h ih
        rcases List.mem_cons.mp h with rfl | h
        · have := ih q List.mem_cons_self
          simp only [List.headD_cons, List.mem_cons, not_or]
          exact ⟨fun z => hac z.symm, this⟩
        · exact ih p (List.mem_cons_of_mem _ h)
theorem splitL_join (c : Nat) : ∀ l, inter [c] (splitL c l) = l
  | [] => rfl
  | a :: r => by
    have ih := splitL_join c r
    cases hs : splitL c r with
    | nil => exact absurd hs (splitL_ne c r)
    | cons q qs =>
      rw [hs] at ih
      unfold splitL
      split
      · rename_i hac
        subst hac
        rw [hs]
        show [] ++ [a] ++ inter [a] (q :: qs) = _
        rw [ih]; rfl
      · rw [hs]
        cases qs with
        | nil =>
          have ih' : q = r := ih
          show a :: q = a :: r
          rw [ih']
        | cons q2 qs =>
          have ih' : q ++ [c] ++ inter [c] (q2 :: qs) = r := ih
          show (a :: q) ++ [c] ++ inter [c] (q2 :: qs) = a :: r
          rw [← ih']; rfl
theorem cut_once {c : Nat} : ∀ {p q : List Nat} {x y : List Nat}, c ∉ p → c ∉ q → p ++ c :: x = q ++ c :: y → p = q ∧ x = y
  | [], [], x, y, _, _, h => by simp at h; exact ⟨rfl, h⟩
  | [], b :: q, x, y, _, hq, h => by
    rw [List.nil_append, List.cons_append] at h
    injection h with h1 h2
    exact absurd (h1 ▸ List.mem_cons_self) hq
  | a :: p, [], x, y, hp, _, h => by
    rw [List.nil_append, List.cons_append] at h
    injection h with h1 h2
    exact absurd (h1 ▸ List.mem_cons_self) hp
  | a :: p, b :: q, x, y, hp, hq, h => by
    rw [List.cons_append, List.cons_append] at h
    injection h with h1 h2
    obtain ⟨e1, e2⟩ := cut_once (fun z => hp (List.mem_cons_of_mem _ z)) (fun z => hq (List.mem_cons_of_mem _ z)) h2
    exact ⟨by rw [h1, e1], e2⟩
theorem inter_once {c : Nat} : ∀ (ps qs : List (List Nat)), ps ≠ [] → qs ≠ [] → (∀ p ∈ ps, c ∉ p) → (∀ q ∈ qs, c ∉ q) → inter [c] ps = inter [c] qs → ps = qs
  | [], _, h, _, _, _, _ => absurd rfl h
  | _, [], _, h, _, _, _ => absurd rfl h
  | [p], [q], _, _, _, _, h => by have h : p = q := h; rw [h]
  | [p], q :: q2 :: qs, _, _, hp, hq, h => by
    have h : p = q ++ [c] ++ inter [c] (q2 :: qs) := h
    exact absurd (by rw [h]; simp) (hp p List.mem_cons_self)
  | p :: p2 :: ps, [q], _, _, hp, hq, h => by
    have h : p ++ [c] ++ inter [c] (p2 :: ps) = q := h
    exact absurd (by rw [← h]; simp) (hq q List.mem_cons_self)
  | p :: p2 :: ps, q :: q2 :: qs, _, _, hp, hq, h => by
    have h : p ++ [c] ++ inter [c] (p2 :: ps) = q ++ [c] ++ inter [c] (q2 :: qs) := h
    simp only [List.append_assoc, List.singleton_append] at h
    obtain ⟨e1, e2⟩ := cut_once (hp p List.mem_cons_self) (hq q List.mem_cons_self) h
    have e3 := inter_once (p2 :: ps) (q2 :: qs) (by simp) (by simp) (fun x hx => hp x (List.mem_cons_of_mem _ hx)) (fun x hx => hq x (List.mem_cons_of_mem _ hx)) e2
    rw [e1, e3]
theorem split_is (l : List Nat) (c : Nat) : Txt.split (tx l) (tx [c]) = (splitL c l).map tx := by
  have hl : ∀ xs : List Str, (xs.map fun x => x.cps.toList).map tx = xs := fun xs => by
    rw [List.map_map]
    conv => rhs; rw [← List.map_id xs]
    exact List.map_congr_left fun x _ => tx_self x
  have h1 := StrLaws.join_split (tx l) (tx [c])
  have h2 := StrLaws.split_free (tx l) c
  have h3 := split_pos (tx l) (tx [c])
  have e : (Txt.split (tx l) (tx [c])).map (fun x => x.cps.toList) = splitL c l := by
    refine inter_once (c := c) _ _ ?_ (splitL_ne c l) ?_ (splitL_free c l) ?_
    · intro z
      have := congrArg List.length z
      rw [List.length_map] at this
      simp only [List.length_nil] at this
      (first | lia | omega)
    · intro p hp
      obtain ⟨x, hx, rfl⟩ := List.mem_map.mp hp
      exact h2 x hx
    · rw [splitL_join]
      have := join_inter [c] ((Txt.split (tx l) (tx [c])).map (fun x => x.cps.toList))
      rw [hl, h1] at this
      exact (tx_inj this).symm
  rw [← e, hl]
theorem vals_strs : ∀ (ys : List Str) (n : Nat), Vals (ys.map V.str) (strsFrom n ys)
  | [], _ => .nil
  | y :: r, n => .cons ⟨n, rfl⟩ (vals_strs r (n + 1))
section
variable {X : Cx}
theorem mt_split : MtM X "str.split" (fun x xs H Q => ∃ l c, x = .str (tx l) ∧ xs = [.str (tx [c])] ∧ l.length ≤ 16000000 ∧ ∀ D, H D = none → Q (.ref D) (upd H D (.lst ((splitL c l).map fun p => .str (tx p))))) := by
  intro pins s σ H x xs v us Q I rx rs h
  obtain ⟨l, c, rfl, rfl, hz, q⟩ := h
  obtain ⟨t, rfl⟩ := rx
  obtain ⟨u, rfl, ru⟩ := vals1 rs
  obtain ⟨t', rfl⟩ := ru
  have hxl : (tx l).length ≤ sizeLine := by rw [tx_len, sizeLine_eq]; (first | lia | omega)
  have hsp := split_is l c
  have hle := split_le (tx l) (tx [c])
  rw [tx_len] at hle
  have hn : ((splitL c l).map fun p => V.str (tx p)).length ≤ sizeLine := by
    rw [hsp, List.length_map] at hle
    rw [List.length_map, sizeLine_eq]; (first | lia | omega)
  have fin : ∀ (its : List Value), Vals ((splitL c l).map fun p => V.str (tx p)) its → ∀ k, EP X pins σ Q (.ref s.heap.objs.size) { s with toks := k, heap := s.heap.push { cls := .type "list", data := .seq its.toArray } } := fun its r k =>
    ⟨.ref s.heap.objs.size, _, I.laid (a := s.heap.objs.size) (o := .lst ((splitL c l).map fun p => V.str (tx p))) (h' := s.heap.push { cls := .type "list", data := .seq its.toArray }) (t' := k) (fun b o e => Heap.get?_push_of_some _ e) (Nat.le_refl _) ⟨hn, its, _, r, Heap.get?_push_size s.heap rfl⟩, rfl, q _ (I.hok.fresh (Nat.le_refl _))⟩
  have fin1 : Txt.split (tx l) (tx [c]) = [tx l] → Vals ((splitL c l).map fun p => V.str (tx p)) [Value.str (tx l) t] := fun e => by
    rw [hsp] at e
    have : ((splitL c l).map fun p => V.str (tx p)) = [V.str (tx l)] := by
      have := congrArg (List.map V.str) e
      rw [List.map_map] at this
      exact this
    rw [this]
    exact .cons ⟨t, rfl⟩ .nil
  by_cases h1 : (decide ((tx l).length < (tx [c]).length) || decide (Builtin.Str.strKind (tx l) < Builtin.Str.strKind (tx [c]))) = true
  · exact call_meets F.slot_str_split (typeIs_str _ _ _) F.entry_str_split (F.args_str_split_2 _ _) (meets_str_split_cannot_occur (tx l) (tx [c]) t t' h1)
      (fin _ (fin1 (by unfold Txt.split; rw [if_pos h1])) _)
  · by_cases h2 : (Builtin.Str.occurrences (tx l) (tx [c]) 0 (tx l).length ((tx l).length + 1)).isEmpty = true
    · exact call_meets F.slot_str_split (typeIs_str _ _ _) F.entry_str_split (F.args_str_split_2 _ _) (meets_str_split_not_found (tx l) (tx [c]) t t' (Bool.eq_false_iff.mpr h1) rfl h2)
        (fin _ (fin1 (by unfold Txt.split; rw [if_neg h1, if_pos h2])) _)
    · have e : Txt.split (tx l) (tx [c]) = Builtin.Str.partsBetween (tx l) (Builtin.Str.occurrences (tx l) (tx [c]) 0 (tx l).length ((tx l).length + 1)) (tx [c]).length := by unfold Txt.split; rw [if_neg h1, if_neg h2]
      have hn2 : (Builtin.Str.partsBetween (tx l) (Builtin.Str.occurrences (tx l) (tx [c]) 0 (tx l).length ((tx l).length + 1)) (tx [c]).length).length ≤ sizeLine := by
        rw [← e, sizeLine_eq]; (first | lia | omega)
      refine call_meets F.slot_str_split (typeIs_str _ _ _) F.entry_str_split (F.args_str_split_2 _ _) (meets_str_split_sep (tx l) (tx [c]) t t' (Bool.eq_false_iff.mpr h1) rfl (Bool.eq_false_iff.mpr h2) hxl hn2) ?_
      refine fin _ ?_ _
      rw [← e, hsp]
      have := vals_strs ((splitL c l).map tx) s.toks
      rw [List.map_map] at this
      exact this
end
theorem at_sign (l : List Nat) (c i : Nat) : StrLaws.At (tx l) (tx [c]) (tx l).length i ↔ l[i]? = some c := by
  unfold StrLaws.At Builtin.Str.subAt
  rw [tx_len, tx_len, beq_iff_eq]
  constructor
  · rintro ⟨h1, h2⟩
    have h1 : i < l.length := h1
    have h3 := congrArg Array.toList h2
    have h3 : (l.toArray.extract i (i + 1)).toList = [c] := h3
    rw [Array.toList_extract, List.extract_eq_take_drop, Nat.add_sub_cancel_left] at h3
    rw [List.toList_toArray, List.drop_eq_getElem_cons h1] at h3
    rw [List.getElem?_eq_getElem h1]
    have h3 : [l[i]] = [c] := h3
    injection h3 with h3
    rw [h3]
  · intro h
    obtain ⟨h1, h2⟩ := List.getElem?_eq_some_iff.mp h
    refine ⟨h1, ?_⟩
    apply Array.toList_inj.mp
    show (l.toArray.extract i (i + 1)).toList = [c]
    rw [Array.toList_extract, List.extract_eq_take_drop, Nat.add_sub_cancel_left, List.toList_toArray, List.drop_eq_getElem_cons h1, h2]
    rfl
theorem sub_to (l : List Nat) (i : Nat) : Builtin.Str.strSub (tx l) 0 i = tx (l.take i) := by
  rw [← tx_self (Builtin.Str.strSub (tx l) 0 i), StrLaws.strSub_toList, List.drop_zero, Nat.sub_zero]
theorem sub_fr (l : List Nat) (i : Nat) : Builtin.Str.strSub (tx l) i (tx l).length = tx (l.drop i) := by
  rw [← tx_self (Builtin.Str.strSub (tx l) i (tx l).length), StrLaws.strSub_toList, tx_len]
  have e : (l.drop i).take (l.length - i) = l.drop i := List.take_of_length_le (by rw [List.length_drop]; (first | lia | omega))
  show tx ((l.drop i).take (l.length - i)) = _
  rw [e]
section
variable {X : Cx}
theorem mt_part : MtM X "str.partition" (fun x xs H Q => ∃ l c, x = .str (tx l) ∧ xs = [.str (tx [c])] ∧ l.length ≤ 16000000 ∧
    (∀ p r, l = p ++ c :: r → c ∉ p → ∀ D, H D = none → Q (.ref D) (upd H D (.tup [.str (tx p), .str (tx [c]), .str (tx r)]))) ∧ (c ∉ l → ∀ D, H D = none → Q (.ref D) (upd H D (.tup [.str (tx l), .str (tx []), .str (tx [])])))) := by
  intro pins s σ H x xs v us Q I rx rs h
  obtain ⟨l, c, rfl, rfl, hz, q1, q2⟩ := h
  obtain ⟨t, rfl⟩ := rx
  obtain ⟨u, rfl, ru⟩ := vals1 rs
  obtain ⟨t', rfl⟩ := ru
  have hxl : (tx l).length ≤ sizeLine := by rw [tx_len, sizeLine_eq]; (first | lia | omega)
  have fin : ∀ (ys : List V) (its : List Value) (k : Nat), Vals ys its → ys.length = 3 → (∀ D, H D = none → Q (.ref D) (upd H D (.tup ys))) → EP X pins σ Q (.ref s.heap.objs.size) { s with toks := k, heap := s.heap.push { cls := .type "tuple", data := .seq its.toArray } } := fun ys its k r hl q =>
    ⟨.ref s.heap.objs.size, _, I.laid (a := s.heap.objs.size) (o := .tup ys) (h' := s.heap.push { cls := .type "tuple", data := .seq its.toArray }) (t' := k) (fun b o e => Heap.get?_push_of_some _ e) (Nat.le_refl _) ⟨by rw [hl, sizeLine_eq]; decide, its, r, ⟨_, Heap.get?_push_size s.heap rfl, rfl, _, rfl⟩⟩, rfl, q _ (I.hok.fresh (Nat.le_refl _))⟩
  refine call_meets F.slot_str_partition (typeIs_str _ _ _) F.entry_str_partition (F.args_str_partition_2 _ _) (meets_str_partition (tx l) (tx [c]) t t' rfl hxl) ?_
  rcases StrLaws.occ_head (tx l) (tx [c]) 1 (Nat.le_refl 1) with ⟨h0, hn⟩ | ⟨i, r, h0, hi, hn⟩
  · rw [h0]
    refine fin [.str (tx l), .str (tx []), .str (tx [])] _ _ (.cons ⟨_, rfl⟩ (.cons ⟨_, rfl⟩ (.cons ⟨_, rfl⟩ .nil))) rfl (q2 fun hc => ?_)
    obtain ⟨i, hi, e⟩ := List.getElem_of_mem hc
    exact hn i ((at_sign l c i).mpr (by rw [List.getElem?_eq_getElem hi, e]))
  · rw [h0]
    have hl := (at_sign l c i).mp hi
    obtain ⟨h1, h2⟩ := List.getElem?_eq_some_iff.mp hl
    refine fin [.str (tx (l.take i)), .str (tx [c]), .str (tx (l.drop (i + 1)))] _ _ (.cons ⟨_, by rw [sub_to]⟩ (.cons ⟨_, rfl⟩ (.cons ⟨_, by rw [tx_len, sub_fr]; rfl⟩ .nil))) rfl (q1 _ _ ?_ ?_)
    · rw [← h2, ← List.drop_eq_getElem_cons h1, List.take_append_drop]
    · intro hc
      obtain ⟨j, hj, e⟩ := List.getElem_of_mem hc
      rw [List.length_take] at hj
      refine hn j (by (first | lia | omega)) ((at_sign l c j).mpr ?_)
      rw [List.getElem_take] at e
      rw [List.getElem?_eq_getElem (by (first | lia | omega)), e]
end
end L2

namespace L2
open PySem PySem.Spec PyProof.Rows
inductive MTok where
  | tx (l : List Nat) | mk (m : List Nat)
noncomputable def render : List MTok → List Nat
  | [] => []
  | .tx l :: r => l ++ render r
  | .mk m :: r => 123 :: (m ++ 125 :: render r)
noncomputable def tparts : List MTok → List Nat × List (List Nat × List Nat)
  | [] => ([], [])
  | .tx l :: r => (l ++ (tparts r).1, (tparts r).2)
  | .mk m :: r => ([], (m, (tparts r).1) :: (tparts r).2)
noncomputable def TokOk : MTok → Prop
  | .tx l => 123 ∉ l ∧ 125 ∉ l
  | .mk m => 123 ∉ m ∧ 125 ∉ m
theorem render_app : ∀ a b : List MTok, render (a ++ b) = render a ++ render b
  | [], b => rfl
  | .tx l :: a, b => by
    show l ++ render (a ++ b) = l ++ render a ++ render b
    rw [render_app a b, List.append_assoc]
  | .mk m :: a, b => by
    show 123 :: (m ++ 125 :: render (a ++ b)) = 123 :: (m ++ 125 :: render a) ++ render b
    rw [render_app a b]; simp
theorem splitL_app {c : Nat} : ∀ (l x : List Nat), c ∉ l → splitL c (l ++ x) = (l ++ (splitL c x).headD []) :: (splitL c x).tail
  | [], x, _ => by
    cases h : splitL c x with
    | nil => exact absurd h (splitL_ne c x)
    | cons p ps => rw [List.nil_append, h]; rfl
  | a :: l, x, h => by
    have ih := splitL_app l x fun z => h (List.mem_cons_of_mem _ z)
    have ha : ¬ a = c := fun z => h (z ▸ List.mem_cons_self)
    rw [List.cons_append]
    show (if a = c then [] :: splitL c (l ++ x) else (a :: (splitL c (l ++ x)).headD []) :: (splitL c (l ++ x)).tail) = _
    rw [if_neg ha, ih]
    rfl
theorem split_render : ∀ ts : List MTok, (∀ t ∈ ts, TokOk t) → splitL 123 (render ts) = (tparts ts).1 :: (tparts ts).2.map fun p => p.1 ++ 125 :: p.2
  | [], _ => rfl
  | .tx l :: r, h => by
    have ih := split_render r fun t ht => h t (List.mem_cons_of_mem _ ht)
    have hl : TokOk (.tx l) := h _ List.mem_cons_self
    show splitL 123 (l ++ render r) = (l ++ (tparts r).1) :: _
    rw [splitL_app l _ hl.1, ih]
    rfl
  | .mk m :: r, h => by
    have ih := split_render r fun t ht => h t (List.mem_cons_of_mem _ ht)
    have hm : TokOk (.mk m) := h _ List.mem_cons_self
    show splitL 123 (123 :: (m ++ 125 :: render r)) = [] :: (m ++ 125 :: (tparts r).1) :: (tparts r).2.map _
    rw [splitL, if_pos rfl]
    have e : m ++ 125 :: render r = (m ++ [125]) ++ render r := by simp
    rw [e, splitL_app (m ++ [125]) _ (by intro z; rcases List.mem_append.mp z with z | z; exact hm.1 z; exact absurd (List.mem_singleton.mp z) (by decide)), ih]
    simp
structure Frm where
  kind : List Nat
  name : List Nat
  fs : List (List Dt)
  ns : List Dt
  ts : List Nat
noncomputable def Frm.putT (f : Frm) (l : List Nat) : Frm := { f with ts := f.ts ++ l }
noncomputable def Frm.putN (f : Frm) (d : Dt) : Frm := { f with ns := f.ns ++ jt f.ts ++ [d], ts := [] }
noncomputable def Frm.endF (f : Frm) : Frm := { f with fs := f.fs ++ [f.ns ++ jt f.ts], ns := [], ts := [] }
noncomputable def Frm.fin (f : Frm) : Frm := if f.kind = wIf ∧ f.endF.fs.length = 1 then f.endF.endF else f.endF
noncomputable def Frm.node (f : Frm) : Dt := .tup (.str f.kind :: .str f.name :: f.fin.fs.map Dt.tup)
noncomputable def mElse : List Nat := [101, 108, 115, 101]
noncomputable def mEnd : List Nat := [101, 110, 100]
noncomputable def stepM (nm : List Nat → Bool) (m : List Nat) : List Frm → Option (List Frm)
  | [] => none
  | f :: st =>
    if m = [40] then some (f.putT [123] :: st)
    else if m = [41] then some (f.putT [125] :: st)
    else if m = mElse then (if f.kind = wIf ∧ f.fs = [] then some (f.endF :: st) else none)
    else if m = mEnd then (match st with | [] => none | g :: r => some (g.putN f.node :: r))
    else if nm m = true then some (f.putN (.tup [.str wGap, .str m]) :: st)
    else if m.takeWhile (· ≠ 32) = wUse ∧ nm ((m.dropWhile (· ≠ 32)).drop 1) = true then some (f.putN (.tup [.str wUse, .str ((m.dropWhile (· ≠ 32)).drop 1)]) :: st)
    else if (m.takeWhile (· ≠ 32) = wIf ∨ m.takeWhile (· ≠ 32) = wEach) ∧ nm ((m.dropWhile (· ≠ 32)).drop 1) = true then some (⟨m.takeWhile (· ≠ 32), (m.dropWhile (· ≠ 32)).drop 1, [], [], []⟩ :: f :: st)
    else none
noncomputable def putTs (l : List Nat) : List Frm → List Frm
  | [] => []
  | f :: st => f.putT l :: st
noncomputable def runT (nm : List Nat → Bool) : List MTok → List Frm → Option (List Frm)
  | [], st => some st
  | .tx l :: r, st => runT nm r (putTs l st)
  | .mk m :: r, st => (stepM nm m st).bind (runT nm r)
noncomputable def runP (nm : List Nat → Bool) : List (List Nat × List Nat) → List Frm → Option (List Frm)
  | [], st => some st
  | (m, t) :: r, st => (stepM nm m st).bind fun s => runP nm r (putTs t s)
theorem putTs_two (a b : List Nat) (st : List Frm) : putTs b (putTs a st) = putTs (a ++ b) st := by
  cases st with
  | nil => rfl
  | cons f st => show ({ f with ts := f.ts ++ a ++ b } : Frm) :: st = { f with ts := f.ts ++ (a ++ b) } :: st; rw [List.append_assoc]
theorem putTs_nil (st : List Frm) : putTs [] st = st := by
  cases st with
  | nil => rfl
  | cons f st => show ({ f with ts := f.ts ++ [] } : Frm) :: st = f :: st; rw [List.append_nil]
theorem runP_runT (nm : List Nat → Bool) : ∀ (ts : List MTok) (st : List Frm), runP nm (tparts ts).2 (putTs (tparts ts).1 st) = runT nm ts st
  | [], st => by show some (putTs [] st) = some st; rw [putTs_nil]
  | .tx l :: r, st => by
    show runP nm (tparts r).2 (putTs (l ++ (tparts r).1) st) = runT nm r (putTs l st)
    rw [← putTs_two, runP_runT nm r]
  | .mk m :: r, st => by
    show (stepM nm m (putTs [] st)).bind (fun s => runP nm (tparts r).2 (putTs (tparts r).1 s)) = (stepM nm m st).bind (runT nm r)
    rw [putTs_nil]
    congr 1
    funext s
    exact runP_runT nm r s
theorem runT_app (nm : List Nat → Bool) : ∀ (a b : List MTok) (st : List Frm), runT nm (a ++ b) st = (runT nm a st).bind (runT nm b)
  | [], b, st => rfl
  | .tx l :: a, b, st => runT_app nm a b _
  | .mk m :: a, b, st => by
    show (stepM nm m st).bind (runT nm (a ++ b)) = ((stepM nm m st).bind (runT nm a)).bind (runT nm b)
    cases stepM nm m st with
    | none => rfl
    | some s => exact runT_app nm a b s
noncomputable def tokT (l : List Nat) : List MTok := l.map fun c => if c = 123 then .mk [40] else if c = 125 then .mk [41] else .tx [c]
noncomputable def WrN (W : List Dt → List MTok → Prop) (d : Dt) (t : List MTok) : Prop :=
  (∃ l, d = .tup [.str wText, .str l] ∧ t = tokT l) ∨ (∃ x, d = .tup [.str wGap, .str x] ∧ t = [.mk x]) ∨ (∃ x, d = .tup [.str wUse, .str x] ∧ t = [.mk (wUse ++ [32] ++ x)]) ∨
  (∃ x f tf, d = .tup [.str wEach, .str x, .tup f] ∧ W f tf ∧ t = .mk (wEach ++ [32] ++ x) :: (tf ++ [.mk mEnd])) ∨
  (∃ x f g tf tg, d = .tup [.str wIf, .str x, .tup f, .tup g] ∧ W f tf ∧ ((W g tg ∧ t = .mk (wIf ++ [32] ++ x) :: (tf ++ .mk mElse :: (tg ++ [.mk mEnd]))) ∨ (g = [] ∧ t = .mk (wIf ++ [32] ++ x) :: (tf ++ [.mk mEnd]))))
noncomputable def nthD (k : Nat) (d : Dt) : Dt := match d with
  | .tup xs => xs.getD k d
  | _ => d
noncomputable def rstD (d : Dt) : List Dt := match d with
  | .tup xs => xs.drop 2
  | _ => []
theorem eqD0 {w w' : List Nat} {xs ys : List Dt} (e : Dt.tup (.str w :: xs) = .tup (.str w' :: ys)) : w = w' := Dt.str.inj (congrArg (nthD 0) e)
theorem eqD1 {w w' x x' : List Nat} {xs ys : List Dt} (e : Dt.tup (.str w :: .str x :: xs) = .tup (.str w' :: .str x' :: ys)) : x = x' := Dt.str.inj (congrArg (nthD 1) e)
theorem eqDR {w w' x x' : List Nat} {xs ys : List Dt} (e : Dt.tup (.str w :: .str x :: xs) = .tup (.str w' :: .str x' :: ys)) : xs = ys := congrArg rstD e
theorem badD {w w' : List Nat} {xs ys : List Dt} {P : Prop} (h : w ≠ w') (e : Dt.tup (.str w :: xs) = .tup (.str w' :: ys)) : P := absurd (eqD0 e) h
theorem eqT1 {f f' : List Dt} (e : [Dt.tup f] = [Dt.tup f']) : f = f' := Dt.tup.inj (List.cons.inj e).1
theorem eqT2 {f f' g g' : List Dt} (e : [Dt.tup f, Dt.tup g] = [Dt.tup f', Dt.tup g']) : f = f' ∧ g = g' := ⟨Dt.tup.inj (List.cons.inj e).1, eqT1 (List.cons.inj e).2⟩
inductive ND (T N : List Nat → Prop) (F : List Dt → Prop) : List Nat → List Nat → List Dt → Prop
  | text (x : List Nat) : T x → ND T N F wText x []
  | gap (x : List Nat) : N x → ND T N F wGap x []
  | use (x : List Nat) : N x → ND T N F wUse x []
  | each (x : List Nat) (f : List Dt) : N x → F f → ND T N F wEach x [.tup f]
  | ifs (x : List Nat) (f g : List Dt) : N x → F f → F g → ND T N F wIf x [.tup f, .tup g]
theorem nd_cases {T N : List Nat → Prop} {F : List Dt → Prop} {w x : List Nat} {ds : List Dt} (h : NodeD T N F (.tup (.str w :: .str x :: ds))) : ND T N F w x ds := by
  rcases h with ⟨y, e, h⟩ | ⟨y, e, h⟩ | ⟨y, e, h⟩ | ⟨y, f, e, h, hf⟩ | ⟨y, f, g, e, h, hf, hg⟩
  · rw [eqD0 e, eqD1 e, eqDR e]; exact .text y h
  · rw [eqD0 e, eqD1 e, eqDR e]; exact .gap y h
  · rw [eqD0 e, eqD1 e, eqDR e]; exact .use y h
  · rw [eqD0 e, eqD1 e, eqDR e]; exact .each y f h hf
  · rw [eqD0 e, eqD1 e, eqDR e]; exact .ifs y f g h hf hg
inductive NW (T N : List Nat → Prop) (F : List Dt → Prop) (W : List Dt → List MTok → Prop) : Dt → List MTok → Prop
  | text (l : List Nat) : T l → NW T N F W (.tup [.str wText, .str l]) (tokT l)
  | gap (x : List Nat) : N x → NW T N F W (.tup [.str wGap, .str x]) [.mk x]
  | use (x : List Nat) : N x → NW T N F W (.tup [.str wUse, .str x]) [.mk (wUse ++ [32] ++ x)]
  | each (x : List Nat) (f : List Dt) (tf : List MTok) : N x → F f → W f tf → NW T N F W (.tup [.str wEach, .str x, .tup f]) (.mk (wEach ++ [32] ++ x) :: (tf ++ [.mk mEnd]))
  | els (x : List Nat) (f g : List Dt) (tf tg : List MTok) : N x → F f → F g → W f tf → W g tg → NW T N F W (.tup [.str wIf, .str x, .tup f, .tup g]) (.mk (wIf ++ [32] ++ x) :: (tf ++ .mk mElse :: (tg ++ [.mk mEnd])))
  | ifo (x : List Nat) (f : List Dt) (tf : List MTok) : N x → F f → W f tf → NW T N F W (.tup [.str wIf, .str x, .tup f, .tup []]) (.mk (wIf ++ [32] ++ x) :: (tf ++ [.mk mEnd]))
theorem nw_of {T N : List Nat → Prop} {F : List Dt → Prop} {W : List Dt → List MTok → Prop} {d : Dt} {a : List MTok} (hd : NodeD T N F d) (hw : WrN W d a) : NW T N F W d a := by
  rcases hw with ⟨l, rfl, rfl⟩ | ⟨x, rfl, rfl⟩ | ⟨x, rfl, rfl⟩ | ⟨x, f, tf, rfl, hf, rfl⟩ | ⟨x, f, g, tf, tg, rfl, hf, hor⟩
  · rcases hd with ⟨y, e, h⟩ | ⟨y, e, h⟩ | ⟨y, e, h⟩ | ⟨y, f, e, h⟩ | ⟨y, f, g, e, h⟩
    · exact .text l (eqD1 e ▸ h)
    all_goals exact badD (by decide) e
  · rcases hd with ⟨y, e, h⟩ | ⟨y, e, h⟩ | ⟨y, e, h⟩ | ⟨y, f, e, h⟩ | ⟨y, f, g, e, h⟩
    rotate_left
    · exact .gap x (eqD1 e ▸ h)
    all_goals exact badD (by decide) e
  · rcases hd with ⟨y, e, h⟩ | ⟨y, e, h⟩ | ⟨y, e, h⟩ | ⟨y, f, e, h⟩ | ⟨y, f, g, e, h⟩
    rotate_left 2
    · exact .use x (eqD1 e ▸ h)
    all_goals exact badD (by decide) e
  · rcases hd with ⟨y, e, h⟩ | ⟨y, e, h⟩ | ⟨y, e, h⟩ | ⟨y, f', e, h, h2⟩ | ⟨y, f', g', e, h⟩
    rotate_left 3
    · exact .each x f tf (eqD1 e ▸ h) (eqT1 (eqDR e) ▸ h2) hf
    all_goals exact badD (by decide) e
  · rcases hd with ⟨y, e, h⟩ | ⟨y, e, h⟩ | ⟨y, e, h⟩ | ⟨y, f', e, h⟩ | ⟨y, f', g', e, h, h2, h3⟩
    rotate_left 4
    · have e2 := eqT2 (eqDR e)
      rcases hor with ⟨hg, rfl⟩ | ⟨rfl, rfl⟩
      · exact .els x f g tf tg (eqD1 e ▸ h) (e2.1 ▸ h2) (e2.2 ▸ h3) hf hg
      · exact .ifo x f tf (eqD1 e ▸ h) (e2.1 ▸ h2) hf
    all_goals exact badD (by decide) e
noncomputable def WrL (W : List Dt → List MTok → Prop) : List Dt → List MTok → Prop
  | [], t => t = []
  | d :: ds, t => ∃ a b, WrN W d a ∧ WrL W ds b ∧ t = a ++ b
noncomputable def WrF : Nat → List Dt → List MTok → Prop
  | 0, _, _ => False
  | n + 1, ds, t => WrL (WrF n) ds t
theorem run_text (nm : List Nat → Bool) : ∀ (l : List Nat) (f : Frm) (st : List Frm), runT nm (tokT l) (f :: st) = some (f.putT l :: st)
  | [], f, st => by show some (f :: st) = some (({ f with ts := f.ts ++ [] } : Frm) :: st); rw [List.append_nil]
  | c :: l, f, st => by
    have two : ∀ g : Frm, (g.putT [c]).putT l = g.putT (c :: l) := fun g => by
      show ({ g with ts := g.ts ++ [c] ++ l } : Frm) = { g with ts := g.ts ++ c :: l }
      rw [List.append_assoc]; rfl
    by_cases h1 : c = 123
    · subst h1
      show (stepM nm [40] (f :: st)).bind (runT nm (tokT l)) = _
      rw [show stepM nm [40] (f :: st) = some (f.putT [123] :: st) from by simp [stepM]]
      show runT nm (tokT l) (f.putT [123] :: st) = _
      rw [run_text nm l, two]
    · by_cases h2 : c = 125
      · subst h2
        show (stepM nm [41] (f :: st)).bind (runT nm (tokT l)) = _
        rw [show stepM nm [41] (f :: st) = some (f.putT [125] :: st) from by simp [stepM]]
        show runT nm (tokT l) (f.putT [125] :: st) = _
        rw [run_text nm l, two]
      · have e : tokT (c :: l) = .tx [c] :: tokT l := by
          show (if c = 123 then _ else if c = 125 then _ else MTok.tx [c]) :: tokT l = _
          rw [if_neg h1, if_neg h2]
        rw [e]
        show runT nm (tokT l) (f.putT [c] :: st) = _
        rw [run_text nm l, two]
theorem blank_take {w x : List Nat} (h : 32 ∉ w) : (w ++ [32] ++ x).takeWhile (· ≠ 32) = w ∧ ((w ++ [32] ++ x).dropWhile (· ≠ 32)).drop 1 = x := by
  induction w with
  | nil => exact ⟨by simp, by simp⟩
  | cons a w ih =>
    have ha : a ≠ 32 := fun z => h (z ▸ List.mem_cons_self)
    obtain ⟨h1, h2⟩ := ih fun z => h (List.mem_cons_of_mem _ z)
    constructor
    · rw [List.cons_append, List.cons_append, List.takeWhile_cons, if_pos (by simpa using ha), h1]
    · rw [List.cons_append, List.cons_append, List.dropWhile_cons, if_pos (by simpa using ha), h2]
section
variable {T N : List Nat → Prop} {nm : List Nat → Bool} (hN : ∀ x, N x → nm x = true ∧ x ≠ [40] ∧ x ≠ [41] ∧ x ≠ mElse ∧ x ≠ mEnd) (hB : ∀ m, 32 ∈ m → nm m = false)
include hN hB
theorem step_gap {x : List Nat} (h : N x) (f : Frm) (st : List Frm) : stepM nm x (f :: st) = some (f.putN (.tup [.str wGap, .str x]) :: st) := by
  obtain ⟨h1, h2, h3, h4, h5⟩ := hN x h
  simp [stepM, h1, h2, h3, h4, h5]
theorem step_use {x : List Nat} (h : N x) (f : Frm) (st : List Frm) : stepM nm (wUse ++ [32] ++ x) (f :: st) = some (f.putN (.tup [.str wUse, .str x]) :: st) := by
  obtain ⟨h1, h2, h3, h4, h5⟩ := hN x h
  obtain ⟨t1, t2⟩ := blank_take (w := wUse) (x := x) (by decide)
  have hb := hB (wUse ++ [32] ++ x) (by simp)
  dsimp only [stepM]
  rw [if_neg (by unfold wUse; simp), if_neg (by unfold wUse; simp), if_neg (by unfold wUse mElse; simp), if_neg (by unfold wUse mEnd; simp), if_neg (by rw [hb]; decide), t1, t2, if_pos ⟨rfl, h1⟩]
theorem step_open {w x : List Nat} (hw : w = wIf ∨ w = wEach) (h : N x) (f : Frm) (st : List Frm) : stepM nm (w ++ [32] ++ x) (f :: st) = some (⟨w, x, [], [], []⟩ :: f :: st) := by
  obtain ⟨h1, h2, h3, h4, h5⟩ := hN x h
  obtain ⟨t1, t2⟩ := blank_take (w := w) (x := x) (by rcases hw with rfl | rfl <;> decide)
  have hb := hB (w ++ [32] ++ x) (by simp)
  dsimp only [stepM]
  rw [if_neg (by rcases hw with rfl | rfl <;> simp [wIf, wEach]), if_neg (by rcases hw with rfl | rfl <;> simp [wIf, wEach]), if_neg (by rcases hw with rfl | rfl <;> simp [wIf, wEach, mElse]), if_neg (by rcases hw with rfl | rfl <;> simp [wIf, wEach, mEnd]), if_neg (by rw [hb]; decide), t1, t2,
    if_neg (by rintro ⟨z, _⟩; rcases hw with rfl | rfl <;> exact absurd z (by decide)), if_pos ⟨hw, h1⟩]
omit hN hB in
theorem step_else {f : Frm} {st : List Frm} (h1 : f.kind = wIf) (h2 : f.fs = []) : stepM nm mElse (f :: st) = some (f.endF :: st) := by
  dsimp only [stepM]
  rw [if_neg (by decide), if_neg (by decide), if_pos rfl, if_pos ⟨h1, h2⟩]
omit hN hB in
theorem step_end {f g : Frm} {st : List Frm} : stepM nm mEnd (f :: g :: st) = some (g.putN f.node :: st) := by
  dsimp only [stepM]
  rw [if_neg (by decide), if_neg (by decide), if_neg (by decide), if_pos rfl]
omit hN hB in
theorem frm_eta (f : Frm) : ({ f with ns := f.ns ++ [], ts := f.ts } : Frm) = f := by rw [List.append_nil]
theorem run_node {n : Nat} (IH : ∀ (ds : List Dt) (t : List MTok) (f : Frm) (st : List Frm), FormD T N n ds → WrF n ds t → f.ts = [] → ∃ A t', runT nm t (f :: st) = some ({ f with ns := f.ns ++ A, ts := t' } :: st) ∧ A ++ jt t' = jF n ds)
    {d : Dt} {a : List MTok} (hd : NodeD T N (FormD T N n) d) (hw : WrN (WrF n) d a) (ht : txtOf d = none) (f : Frm) (st : List Frm) : runT nm a (f :: st) = some (f.putN (jN (jF n) d) :: st) := by
  have nil0 : n ≠ 0 → jF n [] = [] := fun h => by
    cases n with
    | zero => exact absurd rfl h
    | succ n => rfl
  have h := nw_of hd hw
  clear hd hw
  cases h with
  | text l _ => cases ht
  | gap x hx =>
    show (stepM nm x (f :: st)).bind (runT nm []) = _
    rw [step_gap hN hB hx]; rfl
  | use x hx =>
    show (stepM nm (wUse ++ [32] ++ x) (f :: st)).bind (runT nm []) = _
    rw [step_use hN hB hx]; rfl
  | each x g tf hx hg hf' =>
    obtain ⟨A, t', h1, h2⟩ := IH g tf ⟨wEach, x, [], [], []⟩ (f :: st) hg hf' rfl
    show (stepM nm (wEach ++ [32] ++ x) (f :: st)).bind (runT nm (tf ++ [.mk mEnd])) = some (f.putN (.tup [.str wEach, .str x, .tup (jF n g)]) :: st)
    rw [← h2, step_open hN hB (.inr rfl) hx]
    show runT nm (tf ++ [.mk mEnd]) _ = _
    rw [runT_app, h1]
    exact (congrArg (·.bind (runT nm [])) (step_end (nm := nm) (f := ⟨wEach, x, [], A, t'⟩) (g := f) (st := st))).trans rfl
  | els x g g2 tf tg hx hg hg2 hf' hg' =>
    obtain ⟨A, t', h1, h2⟩ := IH g tf ⟨wIf, x, [], [], []⟩ (f :: st) hg hf' rfl
    obtain ⟨A2, t2, h3, h4⟩ := IH g2 tg ⟨wIf, x, [A ++ jt t'], [], []⟩ (f :: st) hg2 hg' rfl
    show (stepM nm (wIf ++ [32] ++ x) (f :: st)).bind (runT nm (tf ++ .mk mElse :: (tg ++ [.mk mEnd]))) = some (f.putN (.tup [.str wIf, .str x, .tup (jF n g), .tup (jF n g2)]) :: st)
    rw [← h2, ← h4, step_open hN hB (.inl rfl) hx]
    show runT nm (tf ++ .mk mElse :: (tg ++ [.mk mEnd])) _ = _
    rw [runT_app, h1]
    show (stepM nm mElse (⟨wIf, x, [], A, t'⟩ :: f :: st)).bind (runT nm (tg ++ [.mk mEnd])) = _
    rw [step_else (nm := nm) rfl rfl]
    show runT nm (tg ++ [.mk mEnd]) (⟨wIf, x, [A ++ jt t'], [], []⟩ :: f :: st) = _
    rw [runT_app, h3]
    exact (congrArg (·.bind (runT nm [])) (step_end (nm := nm) (f := ⟨wIf, x, [A ++ jt t'], A2, t2⟩) (g := f) (st := st))).trans rfl
  | ifo x g tf hx hg hf' =>
    obtain ⟨A, t', h1, h2⟩ := IH g tf ⟨wIf, x, [], [], []⟩ (f :: st) hg hf' rfl
    have hn : n ≠ 0 := fun z => by subst z; exact hg
    show (stepM nm (wIf ++ [32] ++ x) (f :: st)).bind (runT nm (tf ++ [.mk mEnd])) = some (f.putN (.tup [.str wIf, .str x, .tup (jF n g), .tup (jF n [])]) :: st)
    rw [← h2, nil0 hn, step_open hN hB (.inl rfl) hx]
    show runT nm (tf ++ [.mk mEnd]) _ = _
    rw [runT_app, h1]
    exact (congrArg (·.bind (runT nm [])) (step_end (nm := nm) (f := ⟨wIf, x, [], A, t'⟩) (g := f) (st := st))).trans rfl
theorem run_form : ∀ (n : Nat) (ds : List Dt) (t : List MTok) (f : Frm) (st : List Frm), FormD T N n ds → WrF n ds t → f.ts = [] → ∃ A t', runT nm t (f :: st) = some ({ f with ns := f.ns ++ A, ts := t' } :: st) ∧ A ++ jt t' = jF n ds := by
  intro n
  induction n with
  | zero => intro ds t f st h; exact h.elim
  | succ n IH =>
    have list : ∀ (ds : List Dt) (t : List MTok) (f : Frm) (st : List Frm), (∀ d ∈ ds, NodeD T N (FormD T N n) d) → WrL (WrF n) ds t → ∃ A t', runT nm t (f :: st) = some ({ f with ns := f.ns ++ A, ts := t' } :: st) ∧ A ++ jt t' = JL (jN (jF n)) f.ts ds := by
      intro ds
      induction ds with
      | nil =>
        intro t f st _ hw
        have hw : t = [] := hw
        subst hw
        exact ⟨[], f.ts, by rw [frm_eta]; rfl, rfl⟩
      | cons d ds ih =>
        intro t f st hd hw
        obtain ⟨a, b, hwa, hwb, rfl⟩ := hw
        have hds := fun e he => hd e (List.mem_cons_of_mem _ he)
        rw [runT_app]
        cases ht : txtOf d with
        | some l =>
          have hdl : d = .tup [.str wText, .str l] ∧ a = tokT l := by
            rcases node_cases (hd d List.mem_cons_self) with ⟨l', h1, rfl, _⟩ | ⟨h1, _⟩
            · rw [ht] at h1; cases h1
              rcases hwa with ⟨l2, e, rfl⟩ | ⟨x', e, rfl⟩ | ⟨x', e, rfl⟩ | ⟨x', f', tf, e, _, rfl⟩ | ⟨x', f', g', tf, tg, e, _⟩ <;> cases e
              exact ⟨rfl, rfl⟩
            · rw [ht] at h1; cases h1
          obtain ⟨rfl, rfl⟩ := hdl
          rw [run_text]
          obtain ⟨A, t', h1, h2⟩ := ih b (f.putT l) st hds hwb
          refine ⟨A, t', h1, ?_⟩
          rw [JL_text ht]; exact h2
        | none =>
          rw [run_node hN hB IH (hd d List.mem_cons_self) hwa ht]
          obtain ⟨A, t', h1, h2⟩ := ih b (f.putN (jN (jF n) d)) st hds hwb
          refine ⟨jt f.ts ++ jN (jF n) d :: A, t', ?_, ?_⟩
          · show runT nm b _ = _
            rw [h1]
            show some (({ f with ns := f.ns ++ jt f.ts ++ [jN (jF n) d] ++ A, ts := t' } : Frm) :: st) = _
            have e : f.ns ++ jt f.ts ++ [jN (jF n) d] ++ A = f.ns ++ (jt f.ts ++ jN (jF n) d :: A) := by simp
            rw [e]
          · rw [JL_node ht]
            have h2 : A ++ jt t' = JL (jN (jF n)) [] ds := h2
            rw [← h2]; simp
    intro ds t f st hf hw h0
    obtain ⟨A, t', h1, h2⟩ := list ds t f st hf.2.2 hw
    exact ⟨A, t', h1, by rw [h2, h0]; rfl⟩
end
end L2

namespace L2
open PySem PySem.Spec PyProof.Rows
theorem seq_cut {t u : TS} {D : Ends} {σ : St} {H : Hp} (M : St → Hp → Prop) (h1 : ∀ R : St → Hp → Prop, (∀ σ H, M σ H → R σ H) → t ⟨R, D.rt, D.bk, D.ct⟩ σ H) (h2 : ∀ σ H, M σ H → u D σ H) : tSeq t u D σ H := h1 _ h2
theorem hold {G : Prop} (h : ∀ G' : Prop, (G → G') → G') : G := h G fun x => x
theorem iteTb {b : Bool} {A B : Prop} (e : b = true) (h : A) : if b = true then A else B := by rw [if_pos e]; exact h
theorem iteFb {b : Bool} {A B : Prop} (e : b = false) (h : B) : if b = true then A else B := by rw [if_neg (by rw [e]; exact Bool.false_ne_true)]; exact h
theorem seq_any {t u : TS} {D : Ends} {σ : St} {H : Hp} (h : ∀ R : St → Hp → Prop, (∀ σ' H', u D σ' H' → R σ' H') → t ⟨R, D.rt, D.bk, D.ct⟩ σ H) : tSeq t u D σ H := h _ fun _ _ x => x
theorem if_any {c : TT} {t u : TS} {D : Ends} {σ : St} {H : Hp} (h : ∀ T : Bool → Hp → Prop, (∀ H1, t D σ H1 → T true H1) → (∀ H1, u D σ H1 → T false H1) → c σ H T) : tIfS c t u D σ H := h _ (fun _ x => x) fun _ x => x
theorem for_tupN {K : PySem.W.Frag} {a : Addr} {xs : List V} {g : TG} {tb : TS} {D : Ends} {σ : St} {H : Hp} (Pv : Nat → St → Hp → Prop) (h0 : Pv 0 σ H) (hl : ∀ i σ H, i ≤ xs.length → Pv i σ H → SqT K H a xs)
    (hs : ∀ i x σ H, xs[i]? = some x → Pv i σ H → ∀ (N B : St → Hp → Prop) (R : VK), (∀ σ H, Pv (i + 1) σ H → N σ H) → g x σ H fun σ2 H2 => tb ⟨N, R, B, N⟩ σ2 H2) (hd : ∀ σ H, Pv xs.length σ H → D.nx σ H) :
    ∃ W : Nat → Nat → St → Hp → Prop, (∃ m, W 0 m σ H) ∧ ∀ i m σ H, W i m σ H →
      ((Itt K a).stop i H ∧ D.nx σ H) ∨ ((Itt K a).go i H ∧ ∃ N : St → Hp → Prop, (∀ σ' H', N σ' H' → ∃ m', m' < m ∧ W (i + 1) m' σ' H') ∧ ∀ x H', (Itt K a).yld i H x H' → g x σ H' fun σ2 H2 => tb { D with nx := N, ct := N, bk := D.nx } σ2 H2) :=
  for_tup Pv h0 hl (fun i x σ H hx pv => hs i x σ H hx pv _ _ _ fun _ _ h => h) hd
theorem for_listN {K : PySem.W.Frag} {a : Addr} {xs : List V} {g : TG} {tb : TS} {D : Ends} {σ : St} {H : Hp} (Pv : Nat → St → Hp → Prop) (h0 : Pv 0 σ H) (hl : ∀ i σ H, i ≤ xs.length → Pv i σ H → SqL K H a xs)
    (hs : ∀ i x σ H, xs[i]? = some x → Pv i σ H → ∀ (N B : St → Hp → Prop) (R : VK), (∀ σ H, Pv (i + 1) σ H → N σ H) → g x σ H fun σ2 H2 => tb ⟨N, R, B, N⟩ σ2 H2) (hd : ∀ σ H, Pv xs.length σ H → D.nx σ H) :
    ∃ W : Nat → Nat → St → Hp → Prop, (∃ m, W 0 m σ H) ∧ ∀ i m σ H, W i m σ H →
      ((Itl K a).stop i H ∧ D.nx σ H) ∨ ((Itl K a).go i H ∧ ∃ N : St → Hp → Prop, (∀ σ' H', N σ' H' → ∃ m', m' < m ∧ W (i + 1) m' σ' H') ∧ ∀ x H', (Itl K a).yld i H x H' → g x σ H' fun σ2 H2 => tb { D with nx := N, ct := N, bk := D.nx } σ2 H2) :=
  for_list Pv h0 hl (fun i x σ H hx pv => hs i x σ H hx pv _ _ _ fun _ _ h => h) hd
theorem for_rangeN {lo : Int} {n : Nat} {g : TG} {tb : TS} {D : Ends} {σ : St} {H : Hp} (Pv : Nat → St → Hp → Prop) (h0 : Pv 0 σ H)
    (hs : ∀ i σ H, i < n → Pv i σ H → ∀ (N B : St → Hp → Prop) (R : VK), (∀ σ H, Pv (i + 1) σ H → N σ H) → g (.int (lo + i)) σ H fun σ2 H2 => tb ⟨N, R, B, N⟩ σ2 H2) (hd : ∀ σ H, Pv n σ H → D.nx σ H) :
    ∃ W : Nat → Nat → St → Hp → Prop, (∃ m, W 0 m σ H) ∧ ∀ i m σ H, W i m σ H →
      ((Itr lo n).stop i H ∧ D.nx σ H) ∨ ((Itr lo n).go i H ∧ ∃ N : St → Hp → Prop, (∀ σ' H', N σ' H' → ∃ m', m' < m ∧ W (i + 1) m' σ' H') ∧ ∀ x H', (Itr lo n).yld i H x H' → g x σ H' fun σ2 H2 => tb { D with nx := N, ct := N, bk := D.nx } σ2 H2) :=
  for_range Pv h0 (fun i σ H hi pv => hs i σ H hi pv _ _ _ fun _ _ h => h) hd
theorem for_strN {l : List Nat} {g : TG} {tb : TS} {D : Ends} {σ : St} {H : Hp} (Pv : Nat → St → Hp → Prop) (h0 : Pv 0 σ H)
    (hs : ∀ i c σ H, l[i]? = some c → Pv i σ H → ∀ (N B : St → Hp → Prop) (R : VK), (∀ σ H, Pv (i + 1) σ H → N σ H) → g (.str (tx [c])) σ H fun σ2 H2 => tb ⟨N, R, B, N⟩ σ2 H2) (hd : ∀ σ H, Pv l.length σ H → D.nx σ H) :
    ∃ W : Nat → Nat → St → Hp → Prop, (∃ m, W 0 m σ H) ∧ ∀ i m σ H, W i m σ H →
      ((Its l).stop i H ∧ D.nx σ H) ∨ ((Its l).go i H ∧ ∃ N : St → Hp → Prop, (∀ σ' H', N σ' H' → ∃ m', m' < m ∧ W (i + 1) m' σ' H') ∧ ∀ x H', (Its l).yld i H x H' → g x σ H' fun σ2 H2 => tb { D with nx := N, ct := N, bk := D.nx } σ2 H2) :=
  for_str Pv h0 (fun i c σ H hx pv => hs i c σ H hx pv _ _ _ fun _ _ h => h) hd
theorem lenS {n : Nat} {us : List Value} (h : us.length = n + 1) : ∃ a t, us = a :: t ∧ t.length = n := by
  cases us with
  | nil => exact absurd h (Nat.succ_ne_zero n).symm
  | cons a t => exact ⟨a, t, rfl, Nat.succ.inj h⟩
theorem len0 {us : List Value} (h : us.length = 0) : us = [] := List.eq_nil_of_length_eq_zero h
theorem len1 {us : List Value} (h : us.length = 1) : ∃ a, us = [a] := by
  obtain ⟨a, t, rfl, e⟩ := lenS h
  exact ⟨a, by rw [len0 e]⟩
theorem len2 {us : List Value} (h : us.length = 2) : ∃ a b, us = [a, b] := by
  obtain ⟨a, t, rfl, e⟩ := lenS h
  obtain ⟨b, rfl⟩ := len1 e
  exact ⟨a, b, rfl⟩
theorem len3 {us : List Value} (h : us.length = 3) : ∃ a b c, us = [a, b, c] := by
  obtain ⟨a, t, rfl, e⟩ := lenS h
  obtain ⟨b, c, rfl⟩ := len2 e
  exact ⟨a, b, c, rfl⟩
theorem len4 {us : List Value} (h : us.length = 4) : ∃ a b c d, us = [a, b, c, d] := by
  obtain ⟨a, t, rfl, e⟩ := lenS h
  obtain ⟨b, c, d, rfl⟩ := len3 e
  exact ⟨a, b, c, d, rfl⟩
end L2
namespace L2
open PySem PySem.Spec PyProof.Rows
theorem bool2 {b : Bool} {T : Bool → Hp → Prop} {H : Hp} (h1 : b = true → T true H) (h2 : ¬ b = true → T false H) : T b H := by
  cases b
  · exact h2 Bool.false_ne_true
  · exact h1 rfl
theorem boolT {b : Bool} {T : Bool → Hp → Prop} {H : Hp} (e : b = true) (h : T true H) : T b H := by rw [e]; exact h
theorem boolF {b : Bool} {T : Bool → Hp → Prop} {H : Hp} (e : b = false) (h : T false H) : T b H := by rw [e]; exact h
end L2

set_option maxHeartbeats 2000000
namespace K43
open PySem L2
noncomputable def top (i : Nat) : Stmt := PySem.Challenge.pw_safegaps_k43_whole_forms_read.main.body.getD i (.Pass ⟨0, 0, 0, 0⟩)
noncomputable def lit0 : List Nat := [32, 33, 34, 35, 36, 38, 39, 40, 41, 42, 43, 44, 45, 46, 47, 48, 49, 50, 51, 52, 53, 54, 55, 56, 57, 58, 59, 60, 61, 62, 63, 64, 65, 66, 67, 68, 69, 70, 71, 72, 73, 74, 75, 76, 77, 78, 79, 80, 81, 82, 83, 84, 85, 86, 87, 88, 89, 90, 91, 92, 93, 94, 95, 96]
noncomputable def lit1 : List Nat := [97, 98, 99, 100, 101, 102, 103, 104, 105, 106, 107, 108, 109, 110, 111, 112, 113, 114, 115, 116, 117, 118, 119, 120, 121, 122, 123, 124, 125, 126, 10]
noncomputable def lit2 : List Nat := [123, 125, 60, 62, 38, 34, 39, 94, 126, 58, 47, 63, 61, 59, 43, 10]
noncomputable def lit3 : List Nat := [97, 98, 99, 100, 101, 102, 103, 104, 105, 106, 107, 108, 109, 110, 111, 112, 113, 114, 115, 116, 117, 118, 119, 120, 121, 122]
noncomputable def lit4 : List Nat := [10, 32, 33, 34, 35, 36, 38, 39, 40, 41, 42, 43, 44, 45, 46, 47, 48, 49, 50, 51, 52, 53, 54, 55, 56, 57, 58, 59, 60, 61, 62, 63, 64, 65, 66, 67, 68, 69, 70, 71, 72, 73, 74, 75, 76, 77, 78, 79, 80, 81, 82, 83, 84, 85, 86, 87, 88, 89, 90, 91, 92, 93, 94, 95, 96, 97, 98, 99, 100, 101, 102, 103, 104, 105, 106, 107, 108, 109, 110, 111, 112, 113, 114, 115, 116, 117, 118, 119, 120, 121, 122, 123, 124, 125, 126]
noncomputable abbrev st_is_text : Stmt := top 6
noncomputable abbrev st_is_form_name : Stmt := top 11
noncomputable abbrev st_is_form : Stmt := top 12
noncomputable abbrev st_is_node : Stmt := top 13
noncomputable abbrev st_forms_in : Stmt := top 14
noncomputable abbrev st_Joining___init__ : Stmt := inClass (top 15) 0
noncomputable abbrev st_Joining_put_text : Stmt := inClass (top 15) 1
noncomputable abbrev st_Joining_put_node : Stmt := inClass (top 15) 2
noncomputable abbrev st_Opened___init__ : Stmt := inClass (top 22) 0
noncomputable abbrev st_Opened_end_form : Stmt := inClass (top 22) 1
noncomputable abbrev st_Opened_go_other : Stmt := inClass (top 22) 2
noncomputable abbrev st_Opened_ended : Stmt := inClass (top 22) 3
noncomputable abbrev st_Joining_so_far : Stmt := inClass (top 15) 3
noncomputable abbrev st_joined_form : Stmt := top 16
noncomputable abbrev st_show_form : Stmt := top 20
noncomputable abbrev st_show_node : Stmt := top 21
noncomputable abbrev st_read_form : Stmt := top 23
noncomputable abbrev st_take_text : Stmt := top 24
noncomputable abbrev st_take_mark : Stmt := top 25
noncomputable abbrev st_take_end : Stmt := top 26
noncomputable abbrev st_take_words : Stmt := top 27
noncomputable abbrev st__law_cell_at : Stmt := top 29
noncomputable abbrev st__law_cells : Stmt := top 30
noncomputable abbrev st__law_signs : Stmt := top 31
noncomputable abbrev st__law_names : Stmt := top 32
noncomputable abbrev st__law_take : Stmt := top 33
noncomputable abbrev st__law_node : Stmt := top 34
noncomputable abbrev st__law_form : Stmt := top 35
noncomputable abbrev st__law_grown : Stmt := top 36
noncomputable abbrev st__law_written : Stmt := top 37
noncomputable abbrev st_law : Stmt := top 38
theorem sc_is_text : FnScope ["thing"] ["thing"] (defScope st_is_text) := ⟨rfl, rfl, rfl, by decide +kernel, rfl, by decide +kernel, by decide +kernel⟩
theorem sc_is_form_name : FnScope ["thing"] ["thing"] (defScope st_is_form_name) := ⟨rfl, rfl, rfl, by decide +kernel, rfl, by decide +kernel, by decide +kernel⟩
theorem sc_is_form : FnScope ["thing", "waiting", "form", "node"] ["thing"] (defScope st_is_form) := ⟨rfl, rfl, rfl, by decide +kernel, rfl, by decide +kernel, by decide +kernel⟩
theorem sc_is_node : FnScope ["thing"] ["thing"] (defScope st_is_node) := ⟨rfl, rfl, rfl, by decide +kernel, rfl, by decide +kernel, by decide +kernel⟩
theorem sc_forms_in : FnScope ["node"] ["node"] (defScope st_forms_in) := ⟨rfl, rfl, rfl, by decide +kernel, rfl, by decide +kernel, by decide +kernel⟩
theorem sc_Joining___init__ : FnScope ["self"] ["self"] (defScope st_Joining___init__) := ⟨rfl, rfl, rfl, by decide +kernel, rfl, by decide +kernel, by decide +kernel⟩
theorem sc_Joining_put_text : FnScope ["self", "text"] ["self", "text"] (defScope st_Joining_put_text) := ⟨rfl, rfl, rfl, by decide +kernel, rfl, by decide +kernel, by decide +kernel⟩
theorem sc_Joining_put_node : FnScope ["self", "node"] ["self", "node"] (defScope st_Joining_put_node) := ⟨rfl, rfl, rfl, by decide +kernel, rfl, by decide +kernel, by decide +kernel⟩
theorem sc_Opened___init__ : FnScope ["self", "kind", "name"] ["self", "kind", "name"] (defScope st_Opened___init__) := ⟨rfl, rfl, rfl, by decide +kernel, rfl, by decide +kernel, by decide +kernel⟩
theorem sc_Opened_end_form : FnScope ["self"] ["self"] (defScope st_Opened_end_form) := ⟨rfl, rfl, rfl, by decide +kernel, rfl, by decide +kernel, by decide +kernel⟩
theorem sc_Opened_go_other : FnScope ["self"] ["self"] (defScope st_Opened_go_other) := ⟨rfl, rfl, rfl, by decide +kernel, rfl, by decide +kernel, by decide +kernel⟩
theorem sc_Opened_ended : FnScope ["self"] ["self"] (defScope st_Opened_ended) := ⟨rfl, rfl, rfl, by decide +kernel, rfl, by decide +kernel, by decide +kernel⟩
theorem sc_Joining_so_far : FnScope ["self", "words"] ["self"] (defScope st_Joining_so_far) := ⟨rfl, rfl, rfl, by decide +kernel, rfl, by decide +kernel, by decide +kernel⟩
theorem sc_joined_form : FnScope ["form", "joining", "node"] ["form"] (defScope st_joined_form) := ⟨rfl, rfl, rfl, by decide +kernel, rfl, by decide +kernel, by decide +kernel⟩
theorem sc_show_form : FnScope ["form"] ["form"] (defScope st_show_form) := ⟨rfl, rfl, rfl, by decide +kernel, rfl, by decide +kernel, by decide +kernel⟩
theorem sc_show_node : FnScope ["node", "kind", "words", "inside"] ["node"] (defScope st_show_node) := ⟨rfl, rfl, rfl, by decide +kernel, rfl, by decide +kernel, by decide +kernel⟩
theorem sc_read_form : FnScope ["text", "parts", "around", "part", "mark", "bracket", "tail"] ["text"] (defScope st_read_form) := ⟨rfl, rfl, rfl, by decide +kernel, rfl, by decide +kernel, by decide +kernel⟩
theorem sc_take_text : FnScope ["around", "text"] ["around", "text"] (defScope st_take_text) := ⟨rfl, rfl, rfl, by decide +kernel, rfl, by decide +kernel, by decide +kernel⟩
theorem sc_take_mark : FnScope ["around", "mark", "here"] ["around", "mark"] (defScope st_take_mark) := ⟨rfl, rfl, rfl, by decide +kernel, rfl, by decide +kernel, by decide +kernel⟩
theorem sc_take_end : FnScope ["around", "node"] ["around"] (defScope st_take_end) := ⟨rfl, rfl, rfl, by decide +kernel, rfl, by decide +kernel, by decide +kernel⟩
theorem sc_take_words : FnScope ["around", "mark", "word", "blank", "name"] ["around", "mark"] (defScope st_take_words) := ⟨rfl, rfl, rfl, by decide +kernel, rfl, by decide +kernel, by decide +kernel⟩
theorem sc__law_cell_at : FnScope ["_law_script", "_law_k"] ["_law_script", "_law_k"] (defScope st__law_cell_at) := ⟨rfl, rfl, rfl, by decide +kernel, rfl, by decide +kernel, by decide +kernel⟩
theorem sc__law_cells : FnScope ["_law_script", "_law_start", "_law_most", "_law_cells_here", "_law_number"] ["_law_script", "_law_start", "_law_most"] (defScope st__law_cells) := ⟨rfl, rfl, rfl, by decide +kernel, rfl, by decide +kernel, by decide +kernel⟩
theorem sc__law_signs : FnScope ["_law_cell", "_law_many", "_law_menu", "_law_number", "_law_rest", "_law_text", "_law_k", "_law_pick"] ["_law_cell", "_law_many"] (defScope st__law_signs) := ⟨rfl, rfl, rfl, by decide +kernel, rfl, by decide +kernel, by decide +kernel⟩
theorem sc__law_names : FnScope ["_law_cell", "_law_many", "_law_letters", "_law_ahead", "_law_word", "_law_at", "_law_names_here", "_law_k", "_law_other", "_law_name"] ["_law_cell", "_law_many"] (defScope st__law_names) := ⟨rfl, rfl, rfl, by decide +kernel, rfl, by decide +kernel, by decide +kernel⟩
theorem sc__law_take : FnScope ["_law_state"] ["_law_state"] (defScope st__law_take) := ⟨rfl, rfl, rfl, by decide +kernel, rfl, by decide +kernel, by decide +kernel⟩
theorem sc__law_node : FnScope ["_law_state", "_law_names_here", "_law_deep", "_law_cell", "_law_word", "_law_name", "_law_first"] ["_law_state", "_law_names_here", "_law_deep"] (defScope st__law_node) := ⟨rfl, rfl, rfl, by decide +kernel, rfl, by decide +kernel, by decide +kernel⟩
theorem sc__law_form : FnScope ["_law_state", "_law_names_here", "_law_deep", "_law_many"] ["_law_state", "_law_names_here", "_law_deep", "_law_many"] (defScope st__law_form) := ⟨rfl, rfl, rfl, by decide +kernel, rfl, by decide +kernel, by decide +kernel⟩
theorem sc__law_grown : FnScope ["_law_cells_here", "_law_names_here", "_law_state", "_law_nodes"] ["_law_cells_here", "_law_names_here"] (defScope st__law_grown) := ⟨rfl, rfl, rfl, by decide +kernel, rfl, by decide +kernel, by decide +kernel⟩
theorem sc__law_written : FnScope ["_law_form_here", "_law_turn", "_law_rows", "_law_node_here", "_law_sign"] ["_law_form_here", "_law_turn"] (defScope st__law_written) := ⟨rfl, rfl, rfl, by decide +kernel, rfl, by decide +kernel, by decide +kernel⟩
theorem sc_law : FnScope ["_law_script", "_law_names_here", "_law_form_here", "_law_turn", "_law_due", "_law_came", "_law_text", "_law_at", "_law_first", "_law_rest"] ["_law_script"] (defScope st_law) := ⟨rfl, rfl, rfl, by decide +kernel, rfl, by decide +kernel, by decide +kernel⟩
noncomputable def tab_BRACKET_MARKS : List (List Nat × V) := [([40], .str (tx [123])), ([41], .str (tx [125]))]
noncomputable def tab_BRACKET_WRITINGS : List (List Nat × V) := [([123], .str (tx [123, 40, 125])), ([125], .str (tx [123, 41, 125]))]
noncomputable def tab_NODE_LENGTHS : List (List Nat × V) := [([116, 101, 120, 116], .int 2), ([103, 97, 112], .int 2), ([105, 102], .int 4), ([101, 97, 99, 104], .int 3), ([117, 115, 101], .int 2)]
noncomputable def SG : List Nat := [10, 32, 33, 34, 35, 36, 38, 39, 40, 41, 42, 43, 44, 45, 46, 47, 48, 49, 50, 51, 52, 53, 54, 55, 56, 57, 58, 59, 60, 61, 62, 63, 64, 65, 66, 67, 68, 69, 70, 71, 72, 73, 74, 75, 76, 77, 78, 79, 80, 81, 82, 83, 84, 85, 86, 87, 88, 89, 90, 91, 92, 93, 94, 95, 96, 97, 98, 99, 100, 101, 102, 103, 104, 105, 106, 107, 108, 109, 110, 111, 112, 113, 114, 115, 116, 117, 118, 119, 120, 121, 122, 123, 124, 125, 126]
inductive sp__law_cell_at_I (K : PySem.W.Frag) (vs : List V) (H : Hp) (Q : VK) : Prop
  | mk (a : Addr) (ns : List Int) (k : Int) : vs = [.ref a, .int k] → SqL K H a (ns.map V.int) → 0 ≤ k → Q (.int (cellF ns k)) H → sp__law_cell_at_I K vs H Q
noncomputable def sp__law_cell_at (K : PySem.W.Frag) : Sp := fun vs H Q _ => sp__law_cell_at_I K vs H Q
noncomputable def SML : List Nat := [97, 98, 99, 100, 101, 102, 103, 104, 105, 106, 107, 108, 109, 110, 111, 112, 113, 114, 115, 116, 117, 118, 119, 120, 121, 122]
noncomputable def isSg (l : List Nat) : Bool := l.all fun c => decide (c ∈ SG)
noncomputable def MK : List V := [.str (tx [105, 102]), .str (tx [101, 97, 99, 104]), .str (tx [117, 115, 101]), .str (tx [101, 108, 115, 101]), .str (tx [101, 110, 100])]
noncomputable def nmOk (l : List Nat) : Bool := !inV (.str (tx l)) MK && (decide (1 ≤ l.length) && decide (l.length ≤ 8)) && l.all fun c => decide (c ∈ SML)
noncomputable def isTx : Th → Bool
  | .str l => isSg l
  | _ => false
noncomputable def isNm : Th → Bool
  | .str l => nmOk l
  | _ => false
noncomputable def lenW (w : List Nat) : V := (tab_NODE_LENGTHS.lookup w).getD .non
noncomputable def ndS : List Th → Bool
  | .str w :: x :: r => decide (lenW w = .int ((r.length + 2 : Nat) : Int)) && (if w = wText then isTx x else isNm x)
  | _ => false
mutual
noncomputable def isF : Th → Bool
  | .tup xs => isNs xs
  | _ => false
noncomputable def isNs : List Th → Bool
  | [] => true
  | d :: r => isN d && isNs r
noncomputable def isN : Th → Bool
  | .tup xs => isNL xs
  | _ => false
noncomputable def isNL : List Th → Bool
  | w :: x :: r => ndS (w :: x :: r) && isFs r
  | _ => false
noncomputable def isFs : List Th → Bool
  | [] => true
  | f :: r => isF f && isFs r
end
noncomputable def ndT : Th → Bool
  | .tup xs => ndS xs
  | _ => false
theorem isFs_app (a b : List Th) : isFs (a ++ b) = (isFs a && isFs b) := by
  induction a with
  | nil => rw [List.nil_append]; rw [isFs]; rfl
  | cons x r ih => rw [List.cons_append, isFs, isFs, ih, Bool.and_assoc]
theorem isN_two {w x : Th} {r : List Th} : isN (.tup (w :: x :: r)) = (ndS (w :: x :: r) && isFs r) := by rw [isN, isNL]
theorem isN_str {l : List Nat} : isN (.str l) = false := by simp [isN]
theorem isN_oth : isN .oth = false := by simp [isN]
theorem isN_nil : isN (.tup []) = false := by simp [isN, isNL]
theorem isN_one {w : Th} : isN (.tup [w]) = false := by simp [isN, isNL]
theorem isF_tup {xs : List Th} : isF (.tup xs) = isNs xs := by simp [isF]
theorem ndT_false {d : Th} (h : ndT d = false) : isN d = false := by
  cases d with
  | str l => exact isN_str
  | oth => exact isN_oth
  | tup xs =>
    match xs, h with
    | [], _ => exact isN_nil
    | [_], _ => exact isN_one
    | w :: x :: r, h => rw [isN_two]; have h : ndS (w :: x :: r) = false := h; rw [h]; rfl
theorem ndT_true {d : Th} (h : ndT d = true) : ∃ w x r, d = .tup (w :: x :: r) ∧ isN d = isFs r := by
  cases d with
  | str l => cases h
  | oth => cases h
  | tup xs =>
    match xs, h with
    | [], h => cases h
    | [w], h => cases w <;> cases h
    | w :: x :: r, h =>
      refine ⟨w, x, r, rfl, ?_⟩
      have h : ndS (w :: x :: r) = true := h
      rw [isN_two, h]; rfl
theorem lenW_cases (w : List Nat) : lenW w = .int 2 ∨ lenW w = .int 4 ∨ lenW w = .int 3 ∨ lenW w = .non := by
  unfold lenW tab_NODE_LENGTHS
  by_cases h1 : w = [116, 101, 120, 116]
  · subst h1; exact .inl rfl
  by_cases h2 : w = [103, 97, 112]
  · subst h2; exact .inl rfl
  by_cases h3 : w = [105, 102]
  · subst h3; exact .inr (.inl rfl)
  by_cases h4 : w = [101, 97, 99, 104]
  · subst h4; exact .inr (.inr (.inl rfl))
  by_cases h5 : w = [117, 115, 101]
  · subst h5; exact .inl rfl
  have e : ∀ d, w ≠ d → (w == d) = false := fun d h => by simpa using h
  simp only [List.lookup_cons, e _ h1, e _ h2, e _ h3, e _ h4, e _ h5, List.lookup_nil, Option.getD_none]
  simp
theorem lenW_scal (w : List Nat) (i : Int) : scal (lenW w) (.int i) = true := by
  rcases lenW_cases w with h | h | h | h <;> (rw [h]; rfl)
theorem lenW_one (w : List Nat) : lenW w ≠ .int ((([] : List Th).length + 1 : Nat) : Int) := by
  rcases lenW_cases w with h | h | h | h <;> (rw [h]; intro z; cases z)
theorem ths_snoc_inv {K : PySem.W.Frag} {H : Hp} : ∀ {ws : List Th} {f : Th} {vs : List V}, IsThs K H (ws ++ [f]) vs → ∃ vs0 y, vs = vs0 ++ [y] ∧ IsThs K H ws vs0 ∧ IsTh K H f y
  | [], f, vs, h => by
    obtain ⟨v, r, rfl, h1, h2⟩ := ths_cons_inv h
    cases ths_nil_inv h2
    exact ⟨[], v, rfl, ths_nil, h1⟩
  | w :: ws, f, vs, h => by
    obtain ⟨v, r, rfl, h1, h2⟩ := ths_cons_inv h
    obtain ⟨vs0, y, rfl, h3, h4⟩ := ths_snoc_inv h2
    exact ⟨v :: vs0, y, rfl, ths_cons h1 h3, h4⟩
inductive sp_is_text_I (K : PySem.W.Frag) (vs : List V) (H : Hp) (Q : VK) : Prop
  | mk (x : V) (t : Th) : vs = [x] → IsTh K H t x → (∀ H', Same H H' → Q (.bl (isTx t)) H') → sp_is_text_I K vs H Q
noncomputable def sp_is_text (K : PySem.W.Frag) : Sp := fun vs H Q _ => sp_is_text_I K vs H Q
inductive sp_is_form_name_I (K : PySem.W.Frag) (vs : List V) (H : Hp) (Q : VK) : Prop
  | mk (x : V) (t : Th) : vs = [x] → IsTh K H t x → (∀ H', Same H H' → Q (.bl (isNm t)) H') → sp_is_form_name_I K vs H Q
noncomputable def sp_is_form_name (K : PySem.W.Frag) : Sp := fun vs H Q _ => sp_is_form_name_I K vs H Q
inductive sp_is_node_I (K : PySem.W.Frag) (vs : List V) (H : Hp) (Q : VK) : Prop
  | mk (x : V) (t : Th) : vs = [x] → IsTh K H t x → (∀ H', Same H H' → Q (.bl (ndT t)) H') → sp_is_node_I K vs H Q
noncomputable def sp_is_node (K : PySem.W.Frag) : Sp := fun vs H Q _ => sp_is_node_I K vs H Q
inductive sp_is_form_I (K : PySem.W.Frag) (vs : List V) (H : Hp) (Q : VK) : Prop
  | mk (x : V) (t : Th) : vs = [x] → IsTh K H t x → szT t ≤ 900000 → (∀ H', Same H H' → Q (.bl (isF t)) H') → sp_is_form_I K vs H Q
noncomputable def sp_is_form (K : PySem.W.Frag) : Sp := fun vs H Q _ => sp_is_form_I K vs H Q
noncomputable def S16 : List Nat := [123, 125, 60, 62, 38, 34, 39, 94, 126, 58, 47, 63, 61, 59, 43, 10]
noncomputable def M64 : List Nat := [32, 33, 34, 35, 36, 38, 39, 40, 41, 42, 43, 44, 45, 46, 47, 48, 49, 50, 51, 52, 53, 54, 55, 56, 57, 58, 59, 60, 61, 62, 63, 64, 65, 66, 67, 68, 69, 70, 71, 72, 73, 74, 75, 76, 77, 78, 79, 80, 81, 82, 83, 84, 85, 86, 87, 88, 89, 90, 91, 92, 93, 94, 95, 96]
noncomputable def M31 : List Nat := [97, 98, 99, 100, 101, 102, 103, 104, 105, 106, 107, 108, 109, 110, 111, 112, 113, 114, 115, 116, 117, 118, 119, 120, 121, 122, 123, 124, 125, 126, 10]
noncomputable def SgT (l : List Nat) : Prop := ∀ c ∈ l, c ∈ SG
noncomputable def NmT (x : List Nat) : Prop := 1 ≤ x.length ∧ x.length ≤ 8 ∧ nmOk x = true
noncomputable abbrev NdG := NodeD SgT NmT
noncomputable abbrev FmG := FormD SgT NmT
theorem s16_in : ∀ i, i < 16 → S16.getD i 0 ∈ SG := by decide +kernel
theorem m95_in : ∀ i, i < 95 → (M64 ++ M31).getD i 0 ∈ SG := by decide +kernel
noncomputable def L26 : List Nat := [97, 98, 99, 100, 101, 102, 103, 104, 105, 106, 107, 108, 109, 110, 111, 112, 113, 114, 115, 116, 117, 118, 119, 120, 121, 122]
theorem l26_in : ∀ i, i < 26 → L26.getD i 0 ∈ SML := by decide +kernel
noncomputable def A8 : List (List Nat) := [[], [], [117, 115, 101], [101, 110, 100], [101, 108, 115, 101], [101, 97, 99, 104], [105, 102], [117]]
theorem a8_ok : ∀ i, i < 8 → (A8.getD i []).length ≤ 4 ∧ ∀ c ∈ A8.getD i [], c ∈ SML := by decide +kernel
theorem mk_cases {l : List Nat} (h : inV (.str (tx l)) MK = true) : l ∈ ([[105, 102], [101, 97, 99, 104], [117, 115, 101], [101, 108, 115, 101], [101, 110, 100]] : List (List Nat)) := by
  unfold inV MK at h
  have eqv : ∀ m : List Nat, eqV (V.str (tx m)) (V.str (tx l)) = true → l = m := fun m h => by
    have h : (tx m == tx l) = true := h
    exact (tx_inj (by simpa using h)).symm
  simp only [List.any_cons, List.any_nil, Bool.or_false, Bool.or_eq_true] at h
  rcases h with h | h | h | h | h <;> (rw [eqv _ h]; decide +kernel)
theorem mk_x : ∀ l ∈ ([[105, 102], [101, 97, 99, 104], [117, 115, 101], [101, 108, 115, 101], [101, 110, 100]] : List (List Nat)), NmT (l ++ [120]) := by
  intro l hl
  have hin : inV (.str (tx (l ++ [120]))) MK = false := by
    cases e : inV (.str (tx (l ++ [120]))) MK with
    | false => rfl
    | true => exact absurd (mk_cases e) ((by decide +kernel : ∀ l ∈ ([[105, 102], [101, 97, 99, 104], [117, 115, 101], [101, 108, 115, 101], [101, 110, 100]] : List (List Nat)), l ++ [120] ∉ ([[105, 102], [101, 97, 99, 104], [117, 115, 101], [101, 108, 115, 101], [101, 110, 100]] : List (List Nat))) l hl)
  have hr : ∀ l ∈ ([[105, 102], [101, 97, 99, 104], [117, 115, 101], [101, 108, 115, 101], [101, 110, 100]] : List (List Nat)), 1 ≤ (l ++ [120]).length ∧ (l ++ [120]).length ≤ 8 ∧ ((l ++ [120]).all fun c => decide (c ∈ SML)) = true := by decide +kernel
  obtain ⟨h1, h2, h3⟩ := hr l hl
  exact ⟨h1, h2, by unfold nmOk; rw [hin, h3, decide_eq_true h1, decide_eq_true h2]; rfl⟩
theorem nm_made {l : List Nat} (hin : ¬ inV (.str (tx l)) MK = true) (h1 : 1 ≤ l.length) (h2 : l.length ≤ 8) (h3 : ∀ c ∈ l, c ∈ SML) : NmT l := by
  have hall : (l.all fun c => decide (c ∈ SML)) = true := by
    rw [List.all_eq_true]; exact fun c hc => decide_eq_true (h3 c hc)
  exact ⟨h1, h2, by unfold nmOk; rw [Bool.eq_false_iff.mpr hin, hall, decide_eq_true h1, decide_eq_true h2]; rfl⟩
mutual
noncomputable def wt : Dt → Nat
  | .str l => 3 * l.length
  | .tup xs => wts xs + 10
  | .lst xs => wts xs + 10
  | _ => 1
noncomputable def wts : List Dt → Nat
  | [] => 0
  | x :: r => wt x + wts r
end
noncomputable def Bd : Nat → Nat
  | 0 => 46
  | n + 1 => 60 + 6 * Bd n
theorem Bd_ge : ∀ n, 46 ≤ Bd n
  | 0 => Nat.le_refl _
  | n + 1 => by show 46 ≤ 60 + 6 * Bd n; (first | lia | omega)
theorem wts_le {B : Nat} : ∀ (ds : List Dt), (∀ d ∈ ds, wt d ≤ B) → wts ds ≤ ds.length * B
  | [], _ => by show 0 ≤ _; (first | lia | omega)
  | d :: ds, h => by
    have h1 := h d List.mem_cons_self
    have h2 := wts_le ds fun e he => h e (List.mem_cons_of_mem _ he)
    show wt d + wts ds ≤ (ds.length + 1) * B
    rw [Nat.succ_mul]
    (first | lia | omega)
theorem wts_app : ∀ a b : List Dt, wts (a ++ b) = wts a + wts b
  | [], b => by show wts b = 0 + wts b; (first | lia | omega)
  | d :: a, b => by
    show wt d + wts (a ++ b) = wt d + wts a + wts b
    rw [wts_app a b]; (first | lia | omega)
theorem wt_two {w x : List Nat} {n : Nat} (hw : w.length ≤ 4) (hx : x.length ≤ 8) : wt (.tup [.str w, .str x]) ≤ Bd n := by
  have := Bd_ge n
  show 3 * w.length + (3 * x.length + 0) + 10 ≤ Bd n
  (first | lia | omega)
noncomputable def txs (ls : List (List Nat)) : List V := ls.map fun l => .str (tx l)
structure Grow (H : Hp) (ps pc : Addr) (ms : List Int) (i : Nat) : Prop where
  st : H ps = some (.lst [.ref pc, .int (i : Nat)])
  cs : H pc = some (.lst (ms.map V.int))
  ne : pc ≠ ps
inductive sp__law_cells_I (K : PySem.W.Frag) (vs : List V) (H : Hp) (Q : VK) : Prop
  | mk (a : Addr) (ns : List Int) : vs = [.ref a, .int 2, .int 56] → SqL K H a (ns.map V.int) → ns.length ≤ 63 → (∀ H' p (ms : List Int), Same H H' → H p = none → H' p = some (.lst (ms.map V.int)) → ms.length ≤ 56 → Q (.ref p) H') → sp__law_cells_I K vs H Q
noncomputable def sp__law_cells (K : PySem.W.Frag) : Sp := fun vs H Q _ => sp__law_cells_I K vs H Q
inductive sp__law_signs_I (K : PySem.W.Frag) (vs : List V) (H : Hp) (Q : VK) : Prop
  | mk (c : Int) (m : Nat) : vs = [.int c, .int (m : Nat)] → m ≤ 8 → (∀ H' (l : List Nat), Same H H' → l.length = m → SgT l → Q (.str (tx l)) H') → sp__law_signs_I K vs H Q
noncomputable def sp__law_signs (K : PySem.W.Frag) : Sp := fun vs H Q _ => sp__law_signs_I K vs H Q
inductive sp__law_names_I (K : PySem.W.Frag) (vs : List V) (H : Hp) (Q : VK) : Prop
  | mk (c : Int) : vs = [.int c, .int 4] → (∀ H' p (nms : List (List Nat)), Same H H' → H p = none → H' p = some (.lst (txs nms)) → nms.length = 4 → (∀ x ∈ nms, NmT x) → Q (.ref p) H') → sp__law_names_I K vs H Q
noncomputable def sp__law_names (K : PySem.W.Frag) : Sp := fun vs H Q _ => sp__law_names_I K vs H Q
inductive sp__law_take_I (K : PySem.W.Frag) (vs : List V) (H : Hp) (Q : VK) : Prop
  | mk (ps pc : Addr) (ms : List Int) (i : Nat) : vs = [.ref ps] → Grow H ps pc ms i → (∀ v : Int, 0 ≤ v → Q (.int v) (upd H ps (.lst [.ref pc, .int ((i + 1 : Nat) : Int)]))) → sp__law_take_I K vs H Q
noncomputable def sp__law_take (K : PySem.W.Frag) : Sp := fun vs H Q _ => sp__law_take_I K vs H Q
inductive sp__law_node_I (n : Nat) (K : PySem.W.Frag) (vs : List V) (H : Hp) (Q : VK) : Prop
  | mk (ps pc pn : Addr) (ms : List Int) (i : Nat) (nms : List (List Nat)) : n ≤ 3 → vs = [.ref ps, .ref pn, .int (4 - (n : Nat))] → Grow H ps pc ms i → H pn = some (.lst (txs nms)) → pn ≠ ps → nms.length = 4 → (∀ x ∈ nms, NmT x) → (∀ H' v d (j : Nat), i < j → SameB ps H H' → H' ps = some (.lst [.ref pc, .int ((j : Nat) : Int)]) → IsDt K (TuO H') d v → NdG (FmG n) d → tn d ≤ 8 → wt d ≤ Bd n → Q v H') → sp__law_node_I n K vs H Q
noncomputable def sp__law_node (n : Nat) (K : PySem.W.Frag) : Sp := fun vs H Q _ => sp__law_node_I n K vs H Q
noncomputable def sp__law_form : Nat → PySem.W.Frag → Sp
  | 0, _ => fun _ _ _ _ => False
  | n + 1, K => fun vs H Q _ => ∃ (ps pc pn : Addr) (ms : List Int) (i : Nat) (nms : List (List Nat)) (m : Nat), n ≤ 3 ∧ vs = [.ref ps, .ref pn, .int (4 - (n : Nat)), .int (m : Nat)] ∧ m ≤ 3 ∧ Grow H ps pc ms i ∧ H pn = some (.lst (txs nms)) ∧ pn ≠ ps ∧ nms.length = 4 ∧ (∀ x ∈ nms, NmT x) ∧
    ∀ H' v ds (j : Nat), i ≤ j → SameB ps H H' → H' ps = some (.lst [.ref pc, .int ((j : Nat) : Int)]) → IsDt K (TuO H') (.tup ds) v → FmG (n + 1) ds → wts ds ≤ 3 * Bd n → Q v H'
inductive sp__law_grown_I (K : PySem.W.Frag) (vs : List V) (H : Hp) (Q : VK) : Prop
  | mk (pc pn : Addr) (ms : List Int) (nms : List (List Nat)) : vs = [.ref pc, .ref pn] → H pc = some (.lst (ms.map V.int)) → ms.length ≤ 56 → H pn = some (.lst (txs nms)) → nms.length = 4 → (∀ x ∈ nms, NmT x) → (∀ H' v ds, Same H H' → IsDt K (TuO H') (.tup ds) v → FmG 4 ds → wts ds ≤ 56 * Bd 3 → Q v H') → sp__law_grown_I K vs H Q
noncomputable def sp__law_grown (K : PySem.W.Frag) : Sp := fun vs H Q _ => sp__law_grown_I K vs H Q
theorem Grow.next {H H' : Hp} {ps pc : Addr} {ms : List Int} {i j : Nat} (g : Grow H ps pc ms i) (s : SameB ps H H') (e : H' ps = some (.lst [.ref pc, .int ((j : Nat) : Int)])) : Grow H' ps pc ms j := ⟨e, s _ _ g.ne g.cs, g.ne⟩
theorem txs_at {ls : List (List Nat)} {i : Int} (h0 : 0 ≤ i) (h1 : i < (ls.length : Int)) : atI (txs ls) i = some (.str (tx (ls.getD i.toNat []))) := tab_at h0 h1
theorem cut40 (ns : List Int) : ∃ ms : List Int, cutV (ns.map V.int) (some 2) (some (2 + 56)) = ms.map V.int ∧ ms.length ≤ 56 := by
  refine ⟨(ns.drop 2).take 56, ?_, by rw [List.length_take]; (first | lia | omega)⟩
  unfold cutV
  rw [List.map_take, List.map_drop, List.length_map]
  by_cases h : 2 ≤ ns.length
  · have e1 : HT.sIx ns.length 0 (some 2) = 2 := by show min (2 : Int).toNat ns.length = 2; (first | lia | omega)
    have e2 : HT.sIx ns.length ns.length (some (2 + 56)) = min 58 ns.length := by show min ((2 : Int) + 56).toNat ns.length = _; (first | lia | omega)
    rw [e1, e2]
    by_cases h2 : 58 ≤ ns.length
    · rw [Nat.min_eq_left h2]
    · rw [Nat.min_eq_right (by (first | lia | omega)), List.take_of_length_le (by simp), List.take_of_length_le (by simp; (first | lia | omega))]
  · have e1 : HT.sIx ns.length 0 (some 2) = ns.length := by show min (2 : Int).toNat ns.length = _; (first | lia | omega)
    rw [e1, List.drop_eq_nil_of_le (by simp), List.drop_eq_nil_of_le (by simp; (first | lia | omega))]
    simp
noncomputable def W6 : List (List Nat) := [[116, 101, 120, 116], [116, 101, 120, 116], [103, 97, 112], [105, 102], [101, 97, 99, 104], [117, 115, 101]]
theorem one2 (a b c : Int) : ∃ pk : Int, atI [V.int a, V.int b] (c % 2) = some (.int pk) := by
  have h : c % 2 = 0 ∨ c % 2 = 1 := by (first | lia | omega)
  rcases h with h | h
  · rw [h]; exact ⟨a, atI_nat (j := 0) rfl⟩
  · rw [h]; exact ⟨b, atI_nat (j := 1) rfl⟩
theorem ints_at {zs : List Int} {i : Int} (h0 : 0 ≤ i) (h1 : i < (zs.length : Int)) : atI (zs.map V.int) i = some (.int (zs.getD i.toNat 0)) := by
  have e : ((i.toNat : Nat) : Int) = i := by (first | lia | omega)
  rw [← e]
  refine atI_nat ?_
  rw [List.getElem?_map, List.getD_eq_getElem?_getD, Int.toNat_natCast, List.getElem?_eq_getElem (show i.toNat < zs.length by (first | lia | omega))]; rfl
theorem ixN_in {n : Nat} {i : Int} (h0 : 0 ≤ i) (h1 : i < (n : Int)) : ixN n i = some i.toNat := by
  unfold ixN
  rw [if_pos h0, if_pos (by (first | lia | omega))]
theorem w6 : ∀ r, r < 6 → W6.getD r [] = wText ∨ W6.getD r [] = wGap ∨ W6.getD r [] = wIf ∨ W6.getD r [] = wEach ∨ W6.getD r [] = wUse := by decide +kernel
noncomputable def GU2 : List V := [.str (tx [103, 97, 112]), .str (tx [117, 115, 101])]
noncomputable def IE3 : List V := [.str (tx [105, 102]), .str (tx [101, 97, 99, 104])]
theorem w_name {n : Nat} {wd nm : List Nat} (h : wd = wText ∨ wd = wGap ∨ wd = wIf ∨ wd = wEach ∨ wd = wUse) (c : inV (.str (tx wd)) GU2 = true) (hnm : NmT nm) : NdG (FmG n) (.tup [.str wd, .str nm]) ∧ tn (.tup [.str wd, .str nm]) ≤ 8 ∧ wd.length ≤ 4 := by
  rcases h with rfl | rfl | rfl | rfl | rfl
  · exact absurd c (by decide +kernel)
  · exact ⟨.inr (.inl ⟨nm, rfl, hnm⟩), Nat.zero_le _, by decide⟩
  · exact absurd c (by decide +kernel)
  · exact absurd c (by decide +kernel)
  · exact ⟨.inr (.inr (.inl ⟨nm, rfl, hnm⟩)), Nat.zero_le _, by decide⟩
theorem w_blk {wd : List Nat} (h : wd = wText ∨ wd = wGap ∨ wd = wIf ∨ wd = wEach ∨ wd = wUse) : inV (.str (tx wd)) IE3 = false ∨ (inV (.str (tx wd)) IE3 = true ∧ (wd = wIf ∨ wd = wEach)) := by
  rcases h with rfl | rfl | rfl | rfl | rfl
  · exact .inl (by decide +kernel)
  · exact .inl (by decide +kernel)
  · exact .inr ⟨by decide +kernel, .inl rfl⟩
  · exact .inr ⟨by decide +kernel, .inr rfl⟩
  · exact .inl (by decide +kernel)
theorem TuO_seq {K : PySem.W.Frag} {H : Hp} {a : Addr} {xs : List V} (h : SqT K (TuO H) a xs) : SqT K H a xs := TuO_sub.tup h
theorem smallF {n : Nat} (h : n ≤ 16000000) : n ≤ sizeLine := Nat.le_trans h (by rw [sizeLine_eq]; decide)
theorem node_head {K : PySem.W.Frag} {H : Hp} {F : List Dt → Prop} {d : Dt} {v : V} (hd : NdG F d) (h : IsDt K H d v) : ∃ a w x r, v = .ref a ∧ SqT K H a (.str (tx w) :: .str (tx x) :: r) ∧ (w = wText ↔ (txtOf d).isSome = true) ∧ (∀ l, txtOf d = some l → x = l ∧ r = []) ∧ (∃ ds, d = .tup (.str w :: .str x :: ds) ∧ IsDts K H ds r) := by
  rcases node_cases hd with ⟨l, ht, rfl, hl⟩ | ⟨ht, _, w, x, fs, rfl, _, hw, _⟩
  · obtain ⟨a, vs, rfl, h1, h2⟩ := dt_tup_inv h
    obtain ⟨v1, r1, rfl, d1, h3⟩ := dts_cons_inv h2
    obtain ⟨v2, r2, rfl, d2, h4⟩ := dts_cons_inv h3
    cases dts_nil_inv h4
    cases dt_str_inv d1
    cases dt_str_inv d2
    exact ⟨a, wText, l, [], rfl, h1, by rw [ht]; simp, fun l' e => by rw [ht] at e; cases e; exact ⟨rfl, rfl⟩, _, rfl, dts_nil⟩
  · obtain ⟨a, vs, rfl, h1, h2⟩ := dt_tup_inv h
    obtain ⟨v1, r1, rfl, d1, h3⟩ := dts_cons_inv h2
    obtain ⟨v2, r2, rfl, d2, h4⟩ := dts_cons_inv h3
    cases dt_str_inv d1
    cases dt_str_inv d2
    exact ⟨a, w, x, r2, rfl, h1, by rw [ht]; simp [hw], (fun l' e => by rw [ht] at e; cases e), _, rfl, h4⟩
theorem form_cut {n : Nat} {ds : List Dt} (h : FmG (n + 1) ds) (k : Nat) : FmG (n + 1) (ds.take k) ∧ FmG (n + 1) (ds.drop k) ∧ (ds.take k).length + (ds.drop k).length = ds.length ∧ tlen (ds.take k) + tlen (ds.drop k) = tlen ds := by
  have e : tlen (ds.take k) + tlen (ds.drop k) = tlen ds := by rw [← tlen_app, List.take_append_drop]
  have e2 : (ds.take k).length + (ds.drop k).length = ds.length := by rw [← List.length_append, List.take_append_drop]
  obtain ⟨h1, h2, h3⟩ := h
  exact ⟨⟨by (first | lia | omega), by (first | lia | omega), fun d hd => h3 d (List.mem_of_mem_take hd)⟩, ⟨by (first | lia | omega), by (first | lia | omega), fun d hd => h3 d (List.mem_of_mem_drop hd)⟩, e2, e⟩
theorem dts_take {K : PySem.W.Frag} {H : Hp} : ∀ {ds : List Dt} {vs : List V} (k : Nat), IsDts K H ds vs → IsDts K H (ds.take k) (vs.take k)
  | [], vs, k, h => by cases dts_nil_inv h; simpa using h
  | d :: ds, vs, 0, h => dts_nil
  | d :: ds, vs, k + 1, h => by
    obtain ⟨v, r, rfl, h1, h2⟩ := dts_cons_inv h
    exact dts_cons h1 (dts_take k h2)
theorem dts_drop {K : PySem.W.Frag} {H : Hp} : ∀ {ds : List Dt} {vs : List V} (k : Nat), IsDts K H ds vs → IsDts K H (ds.drop k) (vs.drop k)
  | [], vs, k, h => by cases dts_nil_inv h; simpa using h
  | d :: ds, vs, 0, h => h
  | d :: ds, vs, k + 1, h => by
    obtain ⟨v, r, rfl, h1, h2⟩ := dts_cons_inv h
    exact dts_drop k h2
theorem sliceTo {K : PySem.W.Frag} {H : Hp} {a : Addr} {us : List V} {ds : List Dt} {i : Int} {Q : VK} (hS : SqT K (TuO H) a us) (hd : IsDts K (TuO H) ds us) (h0 : 0 ≤ i) (h1 : i ≤ (us.length : Int)) (q : ∀ H' p, Same H H' → IsDt K (TuO H') (.tup (ds.take i.toNat)) (.ref p) → Q (.ref p) H') : rSlTA K (.ref a) none (some i) H Q := by
  have e : HT.sIx us.length us.length (some i) = i.toNat := by
    have := HT.sIx_nat us.length us.length i.toNat
    rw [show ((i.toNat : Nat) : Int) = i by (first | lia | omega)] at this
    rw [this]; (first | lia | omega)
  refine ⟨a, us, rfl, TuO_sub.tup hS, fun z => ?_, fun _ p hp => ?_⟩
  · have z2 := z.2
    rw [e] at z2
    refine q H a (Same.refl _) ?_
    rw [List.take_of_length_le (by rw [hd.len]; (first | lia | omega))]
    exact dt_tup hS hd
  · have ec : cutV us none (some i) = us.take i.toNat := by unfold cutV; rw [e]; rfl
    rw [ec]
    exact q _ p (same_new hp _) (dt_tup (SqT.of (TuO_tup upd_same)) ((dts_take _ hd).same (same_new hp _).t.to))
theorem sliceFr {K : PySem.W.Frag} {H : Hp} {a : Addr} {us : List V} {ds : List Dt} {i : Int} {Q : VK} (hS : SqT K (TuO H) a us) (hd : IsDts K (TuO H) ds us) (h0 : 0 ≤ i) (h1 : i ≤ (us.length : Int)) (q : ∀ H' p, Same H H' → IsDt K (TuO H') (.tup (ds.drop i.toNat)) (.ref p) → Q (.ref p) H') : rSlTA K (.ref a) (some i) none H Q := by
  have e : HT.sIx us.length 0 (some i) = i.toNat := by
    have := HT.sIx_nat us.length 0 i.toNat
    rw [show ((i.toNat : Nat) : Int) = i by (first | lia | omega)] at this
    rw [this]; (first | lia | omega)
  refine ⟨a, us, rfl, TuO_sub.tup hS, fun z => ?_, fun _ p hp => ?_⟩
  · have z1 := z.1
    rw [e] at z1
    refine q H a (Same.refl _) ?_
    rw [z1]
    exact dt_tup hS hd
  · have ec : cutV us (some i) none = us.drop i.toNat := by
      unfold cutV
      rw [e]
      exact List.take_of_length_le (by rw [List.length_drop]; show us.length - i.toNat ≤ us.length - i.toNat; (first | lia | omega))
    rw [ec]
    exact q _ p (same_new hp _) (dt_tup (SqT.of (TuO_tup upd_same)) ((dts_drop _ hd).same (same_new hp _).t.to))
inductive sp_forms_in_I (K : PySem.W.Frag) (vs : List V) (H : Hp) (Q : VK) : Prop
  | mk (a : Addr) (xs : List V) : vs = [.ref a] → SqT K H a xs → 2 ≤ xs.length → (∀ p, H p = none → Q (.ref p) (upd H p (.tup (xs.drop 2)))) → sp_forms_in_I K vs H Q
noncomputable def sp_forms_in (K : PySem.W.Frag) : Sp := fun vs H Q _ => sp_forms_in_I K vs H Q
theorem smallG {n : Nat} (h : n ≤ 16000000) : n < sizeLine := Nat.lt_of_le_of_lt h (by rw [sizeLine_eq]; decide)
noncomputable def fl (pn pt : Addr) : List (Str × V) := [("nodes", .ref pn), ("texts", .ref pt)]
theorem nodes_ne : ¬ ("nodes" : Str) = "texts" := by decide +kernel
theorem fl_mk (pn pt : Addr) : putF "texts" (.ref pt) [(("nodes" : Str), V.ref pn)] = fl pn pt := by
  show (if ("nodes" : Str) = "texts" then _ else (("nodes" : Str), V.ref pn) :: [(("texts" : Str), V.ref pt)]) = _
  rw [if_neg nodes_ne]; rfl
theorem fl_n (pn pt p : Addr) : putF "nodes" (.ref p) (fl pn pt) = fl p pt := by
  show (if ("nodes" : Str) = "nodes" then _ else _) = _
  rw [if_pos rfl]; rfl
theorem fl_t (pn pt p : Addr) : putF "texts" (.ref p) (fl pn pt) = fl pn p := by
  show (if ("nodes" : Str) = "texts" then _ else (("nodes" : Str), V.ref pn) :: (if ("texts" : Str) = "texts" then [(("texts" : Str), V.ref p)] else _)) = _
  rw [if_neg nodes_ne, if_pos rfl]; rfl
theorem fl_nodes (pn pt : Addr) : (fl pn pt).lookup ("nodes" : Str) = some (.ref pn) := by
  unfold fl
  rw [List.lookup_cons, show (("nodes" : Str) == "nodes") = true by decide +kernel]
theorem fl_texts (pn pt : Addr) : (fl pn pt).lookup ("texts" : Str) = some (.ref pt) := by
  unfold fl
  rw [List.lookup_cons, show (("texts" : Str) == "nodes") = false by decide +kernel]
  dsimp only
  rw [List.lookup_cons, show (("texts" : Str) == "texts") = true by decide +kernel]
theorem fl_no (pn pt : Addr) {m : Str} (h1 : (m == "nodes") = false) (h2 : (m == "texts") = false) : (fl pn pt).lookup m = none := by
  unfold fl
  rw [List.lookup_cons, h1]
  dsimp only
  rw [List.lookup_cons, h2]; rfl
structure JAt (C : Addr) (H : Hp) (a dx pn pt : Addr) (ns : List V) (ls : List (List Nat)) : Prop where
  ob : H a = some (.ins C dx (fl pn pt))
  nd : H pn = some (.lst ns)
  tx : H pt = some (.lst (txs ls))
  ne : pn ≠ pt
theorem JAt.same {C : Addr} {H H' : Hp} {a dx pn pt : Addr} {ns : List V} {ls : List (List Nat)} (j : JAt C H a dx pn pt ns ls) (s : Same H H') : JAt C H' a dx pn pt ns ls := ⟨s _ _ j.ob, s _ _ j.nd, s _ _ j.tx, j.ne⟩
theorem SameBi {H H' : Hp} {p C dx : Addr} {fs : List (Str × V)} (s : SameB p H H') (h : H p = some (.ins C dx fs)) : SameT H H' := fun b xs e => s b _ (ne_of e h (by intro z; cases z)) e
inductive sp_Joining___init___I (K : PySem.W.Frag) (C : Addr) (vs : List V) (H : Hp) (Q : VK) : Prop
  | mk (a dx : Addr) : vs = [.ref a] → H a = some (.ins C dx []) → (∀ H' pn pt, JAt C H' a dx pn pt [] [] → SameB a H H' → H pn = none → H pt = none → Q .non H') → sp_Joining___init___I K C vs H Q
noncomputable def sp_Joining___init__ (K : PySem.W.Frag) (C : Addr) : Sp := fun vs H Q _ => sp_Joining___init___I K C vs H Q
inductive sp_Joining_put_text_I (K : PySem.W.Frag) (C : Addr) (vs : List V) (H : Hp) (Q : VK) : Prop
  | mk (a dx pn pt : Addr) (ns : List V) (ls : List (List Nat)) (l : List Nat) : vs = [.ref a, .str (tx l)] → JAt C H a dx pn pt ns ls → ls.length ≤ 9000000 → Q .non (upd H pt (.lst (txs (ls ++ [l])))) → sp_Joining_put_text_I K C vs H Q
noncomputable def sp_Joining_put_text (K : PySem.W.Frag) (C : Addr) : Sp := fun vs H Q _ => sp_Joining_put_text_I K C vs H Q
inductive sp_Joining_so_far_I (K : PySem.W.Frag) (C : Addr) (vs : List V) (H : Hp) (Q : VK) : Prop
  | mk (a dx pn pt : Addr) (ns : List V) (ls : List (List Nat)) : vs = [.ref a] → JAt C H a dx pn pt ns ls → ns.length ≤ 7000000 → ls.flatten.length ≤ 7000000 → (∀ H' p us, Same H H' → H p = none → H' p = some (.lst (ns ++ us)) → IsDts K (TuO H') (jt ls.flatten) us → Q (.ref p) H') → sp_Joining_so_far_I K C vs H Q
noncomputable def sp_Joining_so_far (K : PySem.W.Frag) (C : Addr) : Sp := fun vs H Q _ => sp_Joining_so_far_I K C vs H Q
inductive sp_Joining_put_node_I (K : PySem.W.Frag) (C : Addr) (vs : List V) (H : Hp) (Q : VK) : Prop
  | mk (a dx pn pt : Addr) (ns : List V) (ls : List (List Nat)) (v : V) : vs = [.ref a, v] → JAt C H a dx pn pt ns ls → ns.length ≤ 7000000 → ls.flatten.length ≤ 7000000 → (∀ H' pn' pt' us, SameB a H H' → H pn' = none → H pt' = none → JAt C H' a dx pn' pt' (ns ++ us ++ [v]) [] → IsDts K (TuO H') (jt ls.flatten) us → Q .non H') → sp_Joining_put_node_I K C vs H Q
noncomputable def sp_Joining_put_node (K : PySem.W.Frag) (C : Addr) : Sp := fun vs H Q _ => sp_Joining_put_node_I K C vs H Q
theorem lenA {a b : List Nat} {m n : Nat} (ha : a.length ≤ m) (hb : b.length ≤ n) : (a ++ b).length ≤ m + n := by rw [List.length_append]; exact Nat.add_le_add ha hb
theorem smallA {a b : List Nat} {m n : Nat} (ha : a.length ≤ m) (hb : b.length ≤ n) (h : m + n ≤ 16000000) : a.length + b.length ≤ sizeLine := smallF (Nat.le_trans (Nat.add_le_add ha hb) h)
theorem sgt0 : SgT [] := fun c h => nomatch h
theorem sgtA (a b : List Nat) (ha : SgT a) (hb : SgT b) : SgT (a ++ b) := fun c h => (List.mem_append.mp h).elim (ha c) (hb c)
inductive sp_joined_form_I (n : Nat) (K : PySem.W.Frag) (vs : List V) (H : Hp) (Q : VK) : Prop
  | mk (v : V) (ds : List Dt) : vs = [v] → IsDt K (TuO H) (.tup ds) v → FmG n ds → (∀ H' u, Same H H' → IsDt K (TuO H') (.tup (jF n ds)) u → Q u H') → sp_joined_form_I n K vs H Q
noncomputable def sp_joined_form (n : Nat) (K : PySem.W.Frag) : Sp := fun vs H Q _ => sp_joined_form_I n K vs H Q
noncomputable def sh1 (c : Nat) : List Nat := if c = 123 then [123, 40, 125] else if c = 125 then [123, 41, 125] else [c]
noncomputable def wEnd : List Nat := [123, 101, 110, 100, 125]
noncomputable def wElse : List Nat := [123, 101, 108, 115, 101, 125]
noncomputable def shW (w x : List Nat) : List Nat := [123] ++ w ++ [32] ++ x ++ [125]
noncomputable def shN (F : List Dt → List Nat) : Dt → List Nat
  | .tup [.str w, .str x] => if w = wText then x.flatMap sh1 else if w = wGap then [123] ++ x ++ [125] else shW w x
  | .tup [.str w, .str x, .tup f] => shW w x ++ F f ++ wEnd
  | .tup [.str w, .str x, .tup f, .tup g] => shW w x ++ (F f ++ wElse ++ F g) ++ wEnd
  | _ => []
noncomputable def shF : Nat → List Dt → List Nat
  | 0, _ => []
  | n + 1, ds => ds.flatMap (shN (shF n))
theorem sh1_len (c : Nat) : (sh1 c).length ≤ 3 := by unfold sh1; split <;> (try split) <;> simp
theorem sh_len (l : List Nat) : (l.flatMap sh1).length ≤ 3 * l.length := by
  induction l with
  | nil => simp
  | cons c r ih => rw [List.flatMap_cons, List.length_append, List.length_cons]; have := sh1_len c; (first | lia | omega)
theorem shW_len (w x : List Nat) : (shW w x).length = w.length + x.length + 3 := by unfold shW; simp only [List.length_append, List.length_cons, List.length_nil]; (first | lia | omega)
theorem shN_len {F : List Dt → List Nat} {G : List Dt → Prop} (hF : ∀ f, G f → (F f).length ≤ wts f) {d : Dt} (h : NdG G d) : (shN F d).length ≤ wt d := by
  rcases h with ⟨l, rfl, _⟩ | ⟨x, rfl, _⟩ | ⟨x, rfl, _⟩ | ⟨x, f, rfl, _, hf⟩ | ⟨x, f, g, rfl, _, hf, hg⟩
  · have := sh_len l
    show (l.flatMap sh1).length ≤ 12 + (3 * l.length + 0) + 10
    (first | lia | omega)
  · show ([123] ++ x ++ [125]).length ≤ 9 + (3 * x.length + 0) + 10
    simp only [List.length_append, List.length_cons, List.length_nil]; (first | lia | omega)
  · show (shW wUse x).length ≤ 9 + (3 * x.length + 0) + 10
    rw [shW_len]; show 3 + x.length + 3 ≤ _; (first | lia | omega)
  · have := hF f hf
    show (shW wEach x ++ F f ++ wEnd).length ≤ 12 + (3 * x.length + (wts f + 10 + 0)) + 10
    rw [List.length_append, List.length_append, shW_len]; show 4 + x.length + 3 + _ + 5 ≤ _; (first | lia | omega)
  · have := hF f hf
    have := hF g hg
    show (shW wIf x ++ (F f ++ wElse ++ F g) ++ wEnd).length ≤ 6 + (3 * x.length + (wts f + 10 + (wts g + 10 + 0))) + 10
    rw [List.length_append, List.length_append, List.length_append, List.length_append, shW_len]; show 2 + x.length + 3 + (_ + 6 + _) + 5 ≤ _; (first | lia | omega)
theorem shL_len {F : List Dt → List Nat} {G : List Dt → Prop} (hF : ∀ f, G f → (F f).length ≤ wts f) : ∀ ds : List Dt, (∀ d ∈ ds, NdG G d) → (ds.flatMap (shN F)).length ≤ wts ds
  | [], _ => by simp
  | d :: ds, h => by
    have h1 := shN_len hF (h d List.mem_cons_self)
    have h2 := shL_len hF ds fun e he => h e (List.mem_cons_of_mem _ he)
    rw [List.flatMap_cons, List.length_append]
    show _ ≤ wt d + wts ds
    (first | lia | omega)
theorem shF_len : ∀ (n : Nat) (ds : List Dt), FmG n ds → (shF n ds).length ≤ wts ds
  | 0, _, h => h.elim
  | n + 1, ds, h => shL_len (shF_len n) ds h.2.2
theorem wt_mem : ∀ {ds : List Dt} {d : Dt}, d ∈ ds → wt d ≤ wts ds
  | e :: ds, d, h => by
    show wt d ≤ wt e + wts ds
    rcases List.mem_cons.mp h with rfl | h
    · (first | lia | omega)
    · have := wt_mem h; (first | lia | omega)
theorem wts_take (ds : List Dt) (k : Nat) : wts (ds.take k) + wts (ds.drop k) = wts ds := by rw [← wts_app, List.take_append_drop]
noncomputable def shS (F : List Dt → List Nat) : Dt → List Nat
  | .tup f => F f
  | _ => []
inductive sp_show_form_I (n : Nat) (K : PySem.W.Frag) (vs : List V) (H : Hp) (Q : VK) : Prop
  | mk (v : V) (ds : List Dt) : vs = [v] → IsDt K (TuO H) (.tup ds) v → FmG n ds → wts ds ≤ 800000 → (∀ H', Same H H' → Q (.str (tx (shF n ds))) H') → sp_show_form_I n K vs H Q
noncomputable def sp_show_form (n : Nat) (K : PySem.W.Frag) : Sp := fun vs H Q _ => sp_show_form_I n K vs H Q
inductive sp_show_node_I (n : Nat) (K : PySem.W.Frag) (vs : List V) (H : Hp) (Q : VK) : Prop
  | mk (v : V) (d : Dt) : vs = [v] → IsDt K (TuO H) d v → NdG (FmG n) d → wt d ≤ 800000 → (∀ H', Same H H' → Q (.str (tx (shN (shF n) d))) H') → sp_show_node_I n K vs H Q
noncomputable def sp_show_node (n : Nat) (K : PySem.W.Frag) : Sp := fun vs H Q _ => sp_show_node_I n K vs H Q
noncomputable def kvB : List (Key × V) := [(.inr (tx [123]), .str (tx [123, 40, 125])), (.inr (tx [125]), .str (tx [123, 41, 125]))]
theorem kvB_merge : mergeK [] kvB = kvB := by
  have n : ¬ (Sum.inr (tx [123]) : Key) = .inr (tx [125]) := fun z => by
    have := tx_inj (Sum.inr.inj z)
    cases this
  unfold kvB mergeK putK
  simp [n]
theorem bw_get2 (c : Nat) : (valV (mergeK [] kvB) (.inr (tx [c]))).getD (.str (tx [c])) = .str (tx (sh1 c)) := by
  rw [kvB_merge]
  unfold kvB sh1
  by_cases h1 : c = 123
  · subst h1; rw [valV_pos rfl]; rfl
  rw [valV_neg (fun z => h1 (by have := tx_inj (Sum.inr.inj z); cases this; rfl)), if_neg h1]
  by_cases h2 : c = 125
  · subst h2; rw [valV_pos rfl]; rfl
  rw [valV_neg (fun z => h2 (by have := tx_inj (Sum.inr.inj z); cases this; rfl)), if_neg h2]
  rfl
theorem bw_get (c : Nat) : (tab_BRACKET_WRITINGS.lookup [c]).getD (.str (tx [c])) = .str (tx (sh1 c)) := by
  unfold tab_BRACKET_WRITINGS sh1
  by_cases h1 : c = 123
  · subst h1; rfl
  by_cases h2 : c = 125
  · subst h2; rfl
  rw [if_neg h1, if_neg h2]
  have e : ∀ d, c ≠ d → ([c] == [d]) = false := fun d h => by simpa using h
  simp only [List.lookup_cons, e _ h1, e _ h2, List.lookup_nil, Option.getD_none]
theorem show_case {n : Nat} {w x : List Nat} {ds : List Dt} (hnd : NdG (FmG n) (.tup (.str w :: .str x :: ds))) (hw : wt (.tup (.str w :: .str x :: ds)) ≤ 800000) : (w = wText ∧ ds = [] ∧ x.length ≤ 800000) ∨ (w = wGap ∧ ds = [] ∧ x.length ≤ 8) ∨ (w = wUse ∧ ds = [] ∧ x.length ≤ 8) ∨ (¬ w = wText ∧ ¬ w = wGap ∧ ¬ w = wUse ∧ w.length ≤ 4 ∧ x.length ≤ 8 ∧ ds.length ≤ 2 ∧ (∀ d ∈ ds, ∃ f', d = .tup f' ∧ FmG n f' ∧ wts f' ≤ 800000) ∧ (ds.map (shS (shF n))).flatten.length + (ds.map (shS (shF n))).length * wElse.length ≤ 16777216 ∧ (inter wElse (ds.map (shS (shF n)))).length ≤ 5000000 ∧ shN (shF n) (.tup (.str w :: .str x :: ds)) = shW w x ++ inter wElse (ds.map (shS (shF n))) ++ wEnd) := by
  cases nd_cases hnd with
  | text _ _ =>
    refine .inl ⟨rfl, rfl, ?_⟩
    have : wt (.tup [.str wText, .str x]) = 12 + (3 * x.length + 0) + 10 := rfl
    (first | lia | omega)
  | gap _ hx =>
    exact .inr (.inl ⟨rfl, rfl, hx.2.1⟩)
  | use _ hx =>
    exact .inr (.inr (.inl ⟨rfl, rfl, hx.2.1⟩))
  | each _ f hx hf =>
    have hwd : wt (.tup [.str wEach, .str x, .tup f]) = 12 + (3 * x.length + (wts f + 10 + 0)) + 10 := rfl
    have hlf := shF_len n f hf
    refine .inr (.inr (.inr ⟨by decide, by decide, by decide, by decide, hx.2.1, (show 1 ≤ 2 by decide), fun d hd => ?_, ?_, ?_, rfl⟩))
    · rw [List.mem_singleton.mp hd]; exact ⟨f, rfl, hf, by (first | lia | omega)⟩
    · show (shF n f ++ []).length + 1 * 6 ≤ _; rw [List.append_nil]; (first | lia | omega)
    · show (shF n f).length ≤ _; (first | lia | omega)
  | ifs _ f g hx hf hg =>
    have hwd : wt (.tup [.str wIf, .str x, .tup f, .tup g]) = 6 + (3 * x.length + (wts f + 10 + (wts g + 10 + 0))) + 10 := rfl
    have hlf := shF_len n f hf
    have hlg := shF_len n g hg
    refine .inr (.inr (.inr ⟨by decide, by decide, by decide, by decide, hx.2.1, Nat.le_refl 2, fun d hd => ?_, ?_, ?_, rfl⟩))
    · rcases List.mem_cons.mp hd with rfl | hd
      · exact ⟨f, rfl, hf, by (first | lia | omega)⟩
      · rw [List.mem_singleton.mp hd]; exact ⟨g, rfl, hg, by (first | lia | omega)⟩
    · show (shF n f ++ (shF n g ++ [])).length + 2 * 6 ≤ _; rw [List.append_nil, List.length_append]; (first | lia | omega)
    · show (shF n f ++ wElse ++ shF n g).length ≤ _; rw [List.length_append, List.length_append]; show _ + 6 + _ ≤ _; (first | lia | omega)
theorem node_dp {F : List Dt → Prop} {m : Nat} (hF : ∀ f, F f → dps f ≤ m) {d : Dt} (h : NdG F d) : dp d ≤ m + 2 := by
  rcases h with ⟨l, rfl, _⟩ | ⟨x, rfl, _⟩ | ⟨x, rfl, _⟩ | ⟨x, f, rfl, _, hf⟩ | ⟨x, f, g, rfl, _, hf, hg⟩
  · show max 0 (max 0 0) + 1 ≤ m + 2; (first | lia | omega)
  · show max 0 (max 0 0) + 1 ≤ m + 2; (first | lia | omega)
  · show max 0 (max 0 0) + 1 ≤ m + 2; (first | lia | omega)
  · have := hF f hf
    show max 0 (max 0 (max (dps f + 1) 0)) + 1 ≤ m + 2; (first | lia | omega)
  · have := hF f hf
    have := hF g hg
    show max 0 (max 0 (max (dps f + 1) (max (dps g + 1) 0))) + 1 ≤ m + 2; (first | lia | omega)
theorem dps_le {m : Nat} : ∀ (ds : List Dt), (∀ d ∈ ds, dp d ≤ m) → dps ds ≤ m
  | [], _ => Nat.zero_le _
  | d :: ds, h => by
    have h1 := h d List.mem_cons_self
    have h2 := dps_le ds fun e he => h e (List.mem_cons_of_mem _ he)
    show max (dp d) (dps ds) ≤ m; (first | lia | omega)
theorem form_dps : ∀ (n : Nat) (ds : List Dt), FmG n ds → dps ds ≤ 2 * n
  | 0, _, h => h.elim
  | n + 1, ds, h => dps_le ds fun d hd => node_dp (form_dps n) (h.2.2 d hd)
theorem nm_mem {x : List Nat} (h : nmOk x = true) : ∀ c ∈ x, c ∈ SML := by
  unfold nmOk at h
  simp only [Bool.and_eq_true, List.all_eq_true, decide_eq_true_eq] at h
  exact h.2
theorem sml_ok : ∀ c ∈ SML, c ∈ SG ∧ c ≠ 123 ∧ c ≠ 125 ∧ c ≠ 32 ∧ c ≠ 40 ∧ c ≠ 41 := by decide +kernel
theorem nm_hB (m : List Nat) (h : 32 ∈ m) : nmOk m = false := by
  cases e : nmOk m with
  | false => rfl
  | true => exact absurd rfl (sml_ok 32 (nm_mem e 32 h)).2.2.2.1
theorem nm_hN (x : List Nat) (h : NmT x) : nmOk x = true ∧ x ≠ [40] ∧ x ≠ [41] ∧ x ≠ mElse ∧ x ≠ mEnd :=
  ⟨h.2.2, fun e => by subst e; exact absurd rfl (sml_ok 40 (nm_mem h.2.2 40 (by simp))).2.2.2.2.1, fun e => by subst e; exact absurd rfl (sml_ok 41 (nm_mem h.2.2 41 (by simp))).2.2.2.2.2,
    fun e => by subst e; exact absurd h.2.2 (by decide +kernel), fun e => by subst e; exact absurd h.2.2 (by decide +kernel)⟩
structure TkG (t : List MTok) (B : Nat) : Prop where
  ok : ∀ x ∈ t, TokOk x
  sg : SgT (render t)
  ln : (render t).length ≤ B
theorem TkG.app {a b : List MTok} {A B : Nat} (x : TkG a A) (y : TkG b B) : TkG (a ++ b) (A + B) := ⟨fun t h => (List.mem_append.mp h).elim (x.ok t) (y.ok t), by rw [render_app]; exact sgtA _ _ x.sg y.sg, by rw [render_app, List.length_append]; have := x.ln; have := y.ln; (first | lia | omega)⟩
theorem TkG.mono {a : List MTok} {A B : Nat} (x : TkG a A) (h : A ≤ B) : TkG a B := ⟨x.ok, x.sg, Nat.le_trans x.ln h⟩
theorem TkG.nil : TkG [] 0 := ⟨(fun x h => nomatch h), sgt0, Nat.le_refl _⟩
theorem tk_mk {m : List Nat} (h1 : 123 ∉ m) (h2 : 125 ∉ m) (h3 : SgT m) : TkG [.mk m] (m.length + 2) := by
  refine ⟨fun x hx => by rw [List.mem_singleton.mp hx]; exact ⟨h1, h2⟩, ?_, ?_⟩
  · show SgT (123 :: (m ++ 125 :: []))
    intro c hc
    rcases List.mem_cons.mp hc with rfl | hc
    · decide +kernel
    rcases List.mem_append.mp hc with hc | hc
    · exact h3 c hc
    · rw [List.mem_singleton.mp hc]; decide +kernel
  · show (123 :: (m ++ 125 :: [])).length ≤ _
    rw [List.length_cons, List.length_append]; show m.length + 1 + 1 ≤ _; (first | lia | omega)
theorem tokT_ok : ∀ l : List Nat, SgT l → TkG (tokT l) (3 * l.length)
  | [], _ => TkG.nil
  | c :: l, h => by
    have ih := tokT_ok l fun x hx => h x (List.mem_cons_of_mem _ hx)
    have e : tokT (c :: l) = [if c = 123 then MTok.mk [40] else if c = 125 then .mk [41] else .tx [c]] ++ tokT l := rfl
    rw [e]
    have one : TkG [if c = 123 then MTok.mk [40] else if c = 125 then .mk [41] else .tx [c]] 3 := by
      by_cases h1 : c = 123
      · rw [if_pos h1]
        exact tk_mk (m := [40]) (by decide) (by decide) (by intro x hx; rw [List.mem_singleton.mp hx]; decide +kernel)
      · rw [if_neg h1]
        by_cases h2 : c = 125
        · rw [if_pos h2]
          exact tk_mk (m := [41]) (by decide) (by decide) (by intro x hx; rw [List.mem_singleton.mp hx]; decide +kernel)
        · rw [if_neg h2]
          refine ⟨fun x hx => by rw [List.mem_singleton.mp hx]; exact ⟨fun z => h1 (List.mem_singleton.mp z).symm, fun z => h2 (List.mem_singleton.mp z).symm⟩, ?_, by show 1 ≤ 3; (first | lia | omega)⟩
          show SgT ([c] ++ [])
          intro x hx
          rw [List.append_nil] at hx
          rw [List.mem_singleton.mp hx]; exact h c List.mem_cons_self
    exact (one.app ih).mono (by rw [List.length_cons]; (first | lia | omega))
theorem nm_tk {x : List Nat} (hx : NmT x) : 123 ∉ x ∧ 125 ∉ x ∧ SgT x := ⟨fun z => absurd rfl (sml_ok 123 (nm_mem hx.2.2 123 z)).2.1, fun z => absurd rfl (sml_ok 125 (nm_mem hx.2.2 125 z)).2.2.1, fun c hc => (sml_ok c (nm_mem hx.2.2 c hc)).1⟩
theorem word_ok {w : List Nat} (hw : w = wUse ∨ w = wIf ∨ w = wEach) : 123 ∉ w ∧ 125 ∉ w ∧ SgT w ∧ w.length ≤ 4 := by
  have a : ∀ w ∈ [wUse, wIf, wEach], 123 ∉ w ∧ 125 ∉ w ∧ (∀ c ∈ w, c ∈ SG) ∧ w.length ≤ 4 := by decide +kernel
  exact a w (by rcases hw with rfl | rfl | rfl <;> simp)
theorem tk_word {w x : List Nat} (hw : w = wUse ∨ w = wIf ∨ w = wEach) (hx : NmT x) : TkG [.mk (w ++ [32] ++ x)] (x.length + 7) := by
  obtain ⟨a1, a2, a3, a4⟩ := word_ok hw
  obtain ⟨b1, b2, b3⟩ := nm_tk hx
  have m : ∀ c, c ∈ w ++ [32] ++ x → c ∈ w ∨ c = 32 ∨ c ∈ x := fun c h => by simpa [or_assoc] using h
  refine (tk_mk (fun z => ?_) (fun z => ?_) (fun c hc => ?_)).mono (by rw [List.length_append, List.length_append, List.length_singleton]; (first | lia | omega))
  · rcases m _ z with z | z | z
    · exact a1 z
    · cases z
    · exact b1 z
  · rcases m _ z with z | z | z
    · exact a2 z
    · cases z
    · exact b2 z
  · rcases m _ hc with z | z | z
    · exact a3 c z
    · rw [z]; decide +kernel
    · exact b3 c z
theorem tk_else : TkG [.mk mElse] 6 := tk_mk (by decide) (by decide) (by decide +kernel : ∀ c ∈ mElse, c ∈ SG)
theorem tk_end : TkG [.mk mEnd] 5 := tk_mk (by decide) (by decide) (by decide +kernel : ∀ c ∈ mEnd, c ∈ SG)
theorem wrN_ok {n : Nat} (IH : ∀ ds t, FmG n ds → WrF n ds t → TkG t (wts ds)) {d : Dt} {t : List MTok} (h : NdG (FmG n) d) (w : WrN (WrF n) d t) : TkG t (wt d) := by
  have h := nw_of h w
  clear w
  cases h with
  | text l hl => exact (tokT_ok l hl).mono (by show _ ≤ 12 + (3 * l.length + 0) + 10; (first | lia | omega))
  | gap x hx =>
    obtain ⟨b1, b2, b3⟩ := nm_tk hx
    exact (tk_mk b1 b2 b3).mono (by show _ ≤ 9 + (3 * x.length + 0) + 10; (first | lia | omega))
  | use x hx => exact (tk_word (.inl rfl) hx).mono (by show _ ≤ 9 + (3 * x.length + 0) + 10; (first | lia | omega))
  | each x g tf hx hg hf' => exact ((tk_word (.inr (.inr rfl)) hx).app ((IH g tf hg hf').app tk_end)).mono (by show _ ≤ 12 + (3 * x.length + (wts g + 10 + 0)) + 10; (first | lia | omega))
  | els x g g2 tf tg hx hg hg2 hf' hg' => exact ((tk_word (.inr (.inl rfl)) hx).app ((IH g tf hg hf').app (tk_else.app ((IH g2 tg hg2 hg').app tk_end)))).mono (by show _ ≤ 6 + (3 * x.length + (wts g + 10 + (wts g2 + 10 + 0))) + 10; (first | lia | omega))
  | ifo x g tf hx hg hf' => exact ((tk_word (.inr (.inl rfl)) hx).app ((IH g tf hg hf').app tk_end)).mono (by show _ ≤ 6 + (3 * x.length + (wts g + 10 + (0 + 10 + 0))) + 10; (first | lia | omega))
theorem wrL_ok {n : Nat} (IH : ∀ ds t, FmG n ds → WrF n ds t → TkG t (wts ds)) : ∀ (ds : List Dt) (t : List MTok), (∀ d ∈ ds, NdG (FmG n) d) → WrL (WrF n) ds t → TkG t (wts ds)
  | [], t, _, w => by
    have w : t = [] := w
    rw [w]; exact TkG.nil
  | d :: ds, t, h, w => by
    obtain ⟨a, b, wa, wb, rfl⟩ := w
    exact (wrN_ok IH (h d List.mem_cons_self) wa).app (wrL_ok IH ds b (fun e he => h e (List.mem_cons_of_mem _ he)) wb)
theorem wrF_ok : ∀ (n : Nat) (ds : List Dt) (t : List MTok), FmG n ds → WrF n ds t → TkG t (wts ds)
  | 0, _, _, h, _ => h.elim
  | n + 1, ds, t, h, w => wrL_ok (wrF_ok n) ds t h.2.2 w
theorem read_ok {n : Nat} {ds : List Dt} {t : List MTok} (hf : FmG n ds) (hw : WrF n ds t) : ∃ A t', runT nmOk t [⟨[], [], [], [], []⟩] = some [⟨[], [], [], A, t'⟩] ∧ A ++ jt t' = jF n ds := by
  obtain ⟨A, t', h1, h2⟩ := run_form nm_hN nm_hB n ds t ⟨[], [], [], [], []⟩ [] hf hw rfl
  exact ⟨A, t', h1, h2⟩
noncomputable def tkN (F : List Dt → List MTok) : Dt → List MTok
  | .tup [.str w, .str x] => if w = wText then tokT x else if w = wGap then [.mk x] else [.mk (w ++ [32] ++ x)]
  | .tup [.str w, .str x, .tup f] => .mk (w ++ [32] ++ x) :: (F f ++ [.mk mEnd])
  | .tup [.str w, .str x, .tup f, .tup g] => .mk (w ++ [32] ++ x) :: (F f ++ .mk mElse :: (F g ++ [.mk mEnd]))
  | _ => []
noncomputable def tkF : Nat → List Dt → List MTok
  | 0, _ => []
  | n + 1, ds => ds.flatMap (tkN (tkF n))
theorem render_tokT : ∀ l : List Nat, render (tokT l) = l.flatMap sh1
  | [] => rfl
  | c :: l => by
    have ih := render_tokT l
    rw [List.flatMap_cons, ← ih]
    show render ((if c = 123 then MTok.mk [40] else if c = 125 then .mk [41] else .tx [c]) :: tokT l) = _
    unfold sh1
    by_cases h1 : c = 123
    · rw [if_pos h1, if_pos h1]; rfl
    · rw [if_neg h1, if_neg h1]
      by_cases h2 : c = 125
      · rw [if_pos h2, if_pos h2]; rfl
      · rw [if_neg h2, if_neg h2]; rfl
theorem tkN_ok {n : Nat} (IH : ∀ ds, FmG n ds → WrF n ds (tkF n ds) ∧ render (tkF n ds) = shF n ds) {d : Dt} (h : NdG (FmG n) d) : WrN (WrF n) d (tkN (tkF n) d) ∧ render (tkN (tkF n) d) = shN (shF n) d := by
  have rc : ∀ (m : List Nat) (r : List MTok), render (.mk m :: r) = 123 :: (m ++ 125 :: render r) := fun _ _ => rfl
  rcases h with ⟨l, rfl, hl⟩ | ⟨x, rfl, hx⟩ | ⟨x, rfl, hx⟩ | ⟨x, f, rfl, hx, hf⟩ | ⟨x, f, g, rfl, hx, hf, hg⟩
  · have e1 : tkN (tkF n) (.tup [.str wText, .str l]) = tokT l := by simp [tkN]
    have e2 : shN (shF n) (.tup [.str wText, .str l]) = l.flatMap sh1 := by simp [shN]
    rw [e1, e2]
    exact ⟨.inl ⟨l, rfl, rfl⟩, render_tokT l⟩
  · have e1 : tkN (tkF n) (.tup [.str wGap, .str x]) = [.mk x] := by simp [tkN, show ¬ wGap = wText by decide]
    have e2 : shN (shF n) (.tup [.str wGap, .str x]) = [123] ++ x ++ [125] := by simp [shN, show ¬ wGap = wText by decide]
    rw [e1, e2]
    exact ⟨.inr (.inl ⟨x, rfl, rfl⟩), by rw [rc]; simp [render]⟩
  · have e1 : tkN (tkF n) (.tup [.str wUse, .str x]) = [.mk (wUse ++ [32] ++ x)] := by simp [tkN, show ¬ wUse = wText by decide, show ¬ wUse = wGap by decide]
    have e2 : shN (shF n) (.tup [.str wUse, .str x]) = shW wUse x := by simp [shN, show ¬ wUse = wText by decide, show ¬ wUse = wGap by decide]
    rw [e1, e2]
    exact ⟨.inr (.inr (.inl ⟨x, rfl, rfl⟩)), by rw [rc]; simp [render, shW]⟩
  · obtain ⟨i1, i2⟩ := IH f hf
    refine ⟨.inr (.inr (.inr (.inl ⟨x, f, _, rfl, i1, rfl⟩))), ?_⟩
    show render (.mk (wEach ++ [32] ++ x) :: (tkF n f ++ [.mk mEnd])) = shW wEach x ++ shF n f ++ wEnd
    rw [rc, render_app, i2]
    simp [render, shW, wEnd, mEnd]
  · obtain ⟨i1, i2⟩ := IH f hf
    obtain ⟨j1, j2⟩ := IH g hg
    refine ⟨.inr (.inr (.inr (.inr ⟨x, f, g, _, _, rfl, i1, .inl ⟨j1, rfl⟩⟩))), ?_⟩
    show render (.mk (wIf ++ [32] ++ x) :: (tkF n f ++ .mk mElse :: (tkF n g ++ [.mk mEnd]))) = shW wIf x ++ (shF n f ++ wElse ++ shF n g) ++ wEnd
    rw [rc, render_app, i2, rc, render_app, j2]
    simp [render, shW, wEnd, mEnd, wElse, mElse]
theorem tkF_ok : ∀ (n : Nat) (ds : List Dt), FmG n ds → WrF n ds (tkF n ds) ∧ render (tkF n ds) = shF n ds
  | 0, _, h => h.elim
  | n + 1, ds, h => by
    have list : ∀ ds : List Dt, (∀ d ∈ ds, NdG (FmG n) d) → WrL (WrF n) ds (ds.flatMap (tkN (tkF n))) ∧ render (ds.flatMap (tkN (tkF n))) = ds.flatMap (shN (shF n)) := by
      intro ds
      induction ds with
      | nil => intro _; exact ⟨rfl, rfl⟩
      | cons d ds ih =>
        intro hd
        obtain ⟨k1, k2⟩ := ih fun e he => hd e (List.mem_cons_of_mem _ he)
        obtain ⟨m1, m2⟩ := tkN_ok (tkF_ok n) (hd d List.mem_cons_self)
        rw [List.flatMap_cons, List.flatMap_cons, render_app, m2, k2]
        exact ⟨⟨_, _, m1, k1, rfl⟩, rfl⟩
    exact list ds h.2.2
theorem sh_jt (S : List Dt → List Nat) (l : List Nat) : (jt l).flatMap (shN S) = l.flatMap sh1 := by
  by_cases h : l = []
  · subst h; rfl
  · rw [jt_ne h]
    have e : shN S (.tup [.str wText, .str l]) = l.flatMap sh1 := by simp [shN]
    rw [List.flatMap_cons, List.flatMap_nil, List.append_nil, e]
theorem wt_text (l : List Nat) : wt (.tup [.str wText, .str l]) = 22 + 3 * l.length := by show 12 + (3 * l.length + 0) + 10 = _; (first | lia | omega)
theorem wts_jt (l : List Nat) : wts (jt l) = if l = [] then 0 else 22 + 3 * l.length := by
  by_cases h : l = []
  · subst h; rfl
  · rw [jt_ne h, if_neg h]; show wt _ + 0 = _; rw [wt_text]; (first | lia | omega)
theorem wts_jt_app (a b : List Nat) : wts (jt (a ++ b)) ≤ wts (jt a) + (22 + 3 * b.length) := by
  rw [wts_jt, wts_jt]
  by_cases h : a = []
  · subst h; rw [List.nil_append, if_pos rfl]; split <;> (first | lia | omega)
  · rw [if_neg h, if_neg (by simp [h]), List.length_append]; (first | lia | omega)
theorem JL_like {F : List Dt → Prop} {S : List Dt → List Nat} {g : Dt → Dt} : ∀ (ds : List Dt) (ts : List Nat), (∀ d ∈ ds, NdG F d) → (∀ d ∈ ds, txtOf d = none → shN S (g d) = shN S d ∧ wt (g d) ≤ wt d) → (JL g ts ds).flatMap (shN S) = ts.flatMap sh1 ++ ds.flatMap (shN S) ∧ wts (JL g ts ds) ≤ wts (jt ts) + wts ds
  | [], ts, _, _ => by
    show (jt ts).flatMap (shN S) = _ ++ [] ∧ wts (jt ts) ≤ _ + 0
    rw [sh_jt, List.append_nil]; exact ⟨rfl, by (first | lia | omega)⟩
  | d :: ds, ts, h, hg => by
    have ih := fun ts => JL_like ds ts (fun e he => h e (List.mem_cons_of_mem _ he)) fun e he => hg e (List.mem_cons_of_mem _ he)
    have hw : wts (d :: ds) = wt d + wts ds := rfl
    rcases node_cases (h d List.mem_cons_self) with ⟨l, ht, rfl, _⟩ | ⟨ht, _⟩
    · obtain ⟨i1, i2⟩ := ih (ts ++ l)
      have e : shN S (.tup [.str wText, .str l]) = l.flatMap sh1 := by simp [shN]
      have := wts_jt_app ts l
      rw [wt_text] at hw
      rw [JL_text ht, i1, List.flatMap_append, List.flatMap_cons, e, List.append_assoc]
      exact ⟨rfl, by (first | lia | omega)⟩
    · obtain ⟨i1, i2⟩ := ih []
      obtain ⟨g1, g2⟩ := hg d List.mem_cons_self ht
      rw [JL_node ht, List.flatMap_append, sh_jt, List.flatMap_cons, List.flatMap_cons, g1, i1, wts_app]
      refine ⟨rfl, ?_⟩
      show _ + (wt (g d) + wts _) ≤ _
      have : wts (jt []) = 0 := rfl
      (first | lia | omega)
theorem jF_like : ∀ (n : Nat) (ds : List Dt), FmG n ds → shF n (jF n ds) = shF n ds ∧ wts (jF n ds) ≤ wts ds
  | 0, _, h => h.elim
  | n + 1, ds, h => by
    have nd : ∀ d ∈ ds, txtOf d = none → shN (shF n) (jN (jF n) d) = shN (shF n) d ∧ wt (jN (jF n) d) ≤ wt d := fun d hd ht => by
      rcases h.2.2 d hd with ⟨l, rfl, _⟩ | ⟨x, rfl, hx⟩ | ⟨x, rfl, hx⟩ | ⟨x, f, rfl, hx, hf⟩ | ⟨x, f, g, rfl, hx, hf, hg⟩
      · rw [txt_jt] at ht; cases ht
      · exact ⟨rfl, Nat.le_refl _⟩
      · exact ⟨rfl, Nat.le_refl _⟩
      · obtain ⟨i1, i2⟩ := jF_like n f hf
        refine ⟨?_, ?_⟩
        · show shW wEach x ++ shF n (jF n f) ++ wEnd = shW wEach x ++ shF n f ++ wEnd
          rw [i1]
        · show 12 + (3 * x.length + (wts (jF n f) + 10 + 0)) + 10 ≤ 12 + (3 * x.length + (wts f + 10 + 0)) + 10
          (first | lia | omega)
      · obtain ⟨i1, i2⟩ := jF_like n f hf
        obtain ⟨j1, j2⟩ := jF_like n g hg
        refine ⟨?_, ?_⟩
        · show shW wIf x ++ (shF n (jF n f) ++ wElse ++ shF n (jF n g)) ++ wEnd = shW wIf x ++ (shF n f ++ wElse ++ shF n g) ++ wEnd
          rw [i1, j1]
        · show 6 + (3 * x.length + (wts (jF n f) + 10 + (wts (jF n g) + 10 + 0))) + 10 ≤ 6 + (3 * x.length + (wts f + 10 + (wts g + 10 + 0))) + 10
          (first | lia | omega)
    obtain ⟨k1, k2⟩ := JL_like (S := shF n) ds [] h.2.2 nd
    have : wts (jt []) = 0 := rfl
    exact ⟨k1, by show wts (JL _ [] ds) ≤ _; (first | lia | omega)⟩
theorem tx_goodW {l : List Nat} (h : SgT l) : isSg l = true := by
  unfold isSg
  rw [List.all_eq_true]
  exact fun c hc => decide_eq_true (h c hc)
theorem tn_mem : ∀ {ds : List Dt} {d : Dt}, d ∈ ds → tn d ≤ tlen ds
  | e :: ds, d, h => by
    rw [tlen_cons]
    rcases List.mem_cons.mp h with rfl | h
    · (first | lia | omega)
    · have := tn_mem h; (first | lia | omega)
theorem nd_th {K : PySem.W.Frag} {H : Hp} {n : Nat} (IH : ∀ ds vs, FmG n ds → IsDts K H ds vs → ∃ ts, IsThs K H ts vs ∧ isNs ts = true ∧ szs ts ≤ wts ds) {d : Dt} {v : V} (h : NdG (FmG n) d) (ht : tn d ≤ 1000000) (hv : IsDt K H d v) : ∃ t, IsTh K H t v ∧ isN t = true ∧ szT t ≤ wt d := by
  have sz2 : ∀ a b : List Nat, szT (.tup [.str a, .str b]) = 3 := fun a b => by simp [szT, szs]
  obtain ⟨a, w, x, r, rfl, hS, _, _, es, rfl, hr⟩ := node_head h hv
  clear hv
  have fs0 : isFs [] = true := by rw [isFs]
  have h := nd_cases h
  cases h with
  | text _ hl =>
    cases dts_nil_inv hr
    have hl9 : tn (.tup [.str wText, .str x]) = x.length := by unfold tn; rw [txt_jt]
    refine ⟨.tup [.str wText, .str x], th_tup hS (ths_cons (th_str (by decide)) (ths_cons (th_str (by (first | lia | omega))) ths_nil)), ?_, by rw [sz2, wt_text]; (first | lia | omega)⟩
    rw [isN_two, fs0, Bool.and_true]
    show (decide (lenW wText = .int ((0 + 2 : Nat) : Int)) && (if wText = wText then isSg x else nmOk x)) = true
    rw [if_pos rfl, decide_eq_true (show lenW wText = .int ((0 + 2 : Nat) : Int) from rfl), tx_goodW hl]; rfl
  | gap _ hx =>
    cases dts_nil_inv hr
    have hx8 := hx.2.1
    refine ⟨.tup [.str wGap, .str x], th_tup hS (ths_cons (th_str (by decide)) (ths_cons (th_str (by (first | lia | omega))) ths_nil)), ?_, by rw [sz2]; show 3 ≤ 9 + (3 * x.length + 0) + 10; (first | lia | omega)⟩
    rw [isN_two, fs0, Bool.and_true]
    show (decide (lenW wGap = .int ((0 + 2 : Nat) : Int)) && (if wGap = wText then isSg x else nmOk x)) = true
    rw [if_neg (by decide), decide_eq_true (show lenW wGap = .int ((0 + 2 : Nat) : Int) from rfl), hx.2.2]; rfl
  | use _ hx =>
    cases dts_nil_inv hr
    have hx8 := hx.2.1
    refine ⟨.tup [.str wUse, .str x], th_tup hS (ths_cons (th_str (by decide)) (ths_cons (th_str (by (first | lia | omega))) ths_nil)), ?_, by rw [sz2]; show 3 ≤ 9 + (3 * x.length + 0) + 10; (first | lia | omega)⟩
    rw [isN_two, fs0, Bool.and_true]
    show (decide (lenW wUse = .int ((0 + 2 : Nat) : Int)) && (if wUse = wText then isSg x else nmOk x)) = true
    rw [if_neg (by decide), decide_eq_true (show lenW wUse = .int ((0 + 2 : Nat) : Int) from rfl), hx.2.2]; rfl
  | each _ f hx hf =>
    have hx8 := hx.2.1
    obtain ⟨vf, r1, rfl, hvf, hr1⟩ := dts_cons_inv hr
    cases dts_nil_inv hr1
    obtain ⟨c, us, rfl, hc, hd⟩ := dt_tup_inv hvf
    obtain ⟨ts, i1, i2, i3⟩ := IH f us hf hd
    refine ⟨.tup [.str wEach, .str x, .tup ts], th_tup hS (ths_cons (th_str (by decide)) (ths_cons (th_str (by (first | lia | omega))) (ths_cons (th_tup hc i1) ths_nil))), ?_, ?_⟩
    · rw [isN_two, isFs, fs0, isF_tup, i2]
      show (decide (lenW wEach = .int ((1 + 2 : Nat) : Int)) && (if wEach = wText then isSg x else nmOk x) && true) = true
      rw [if_neg (by decide), decide_eq_true (show lenW wEach = .int ((1 + 2 : Nat) : Int) from rfl), hx.2.2]; rfl
    · show _ ≤ 12 + (3 * x.length + (wts f + 10 + 0)) + 10
      simp only [szT, szs]; (first | lia | omega)
  | ifs _ f g hx hf hg =>
    have hx8 := hx.2.1
    obtain ⟨vf, r1, rfl, hvf, hr1⟩ := dts_cons_inv hr
    obtain ⟨vg, r2, rfl, hvg, hr2⟩ := dts_cons_inv hr1
    cases dts_nil_inv hr2
    obtain ⟨c, us, rfl, hc, hd⟩ := dt_tup_inv hvf
    obtain ⟨c2, us2, rfl, hc2, hd2⟩ := dt_tup_inv hvg
    obtain ⟨ts, i1, i2, i3⟩ := IH f us hf hd
    obtain ⟨ts2, j1, j2, j3⟩ := IH g us2 hg hd2
    refine ⟨.tup [.str wIf, .str x, .tup ts, .tup ts2], th_tup hS (ths_cons (th_str (by decide)) (ths_cons (th_str (by (first | lia | omega))) (ths_cons (th_tup hc i1) (ths_cons (th_tup hc2 j1) ths_nil)))), ?_, ?_⟩
    · rw [isN_two, isFs, isFs, fs0, isF_tup, isF_tup, i2, j2]
      show (decide (lenW wIf = .int ((2 + 2 : Nat) : Int)) && (if wIf = wText then isSg x else nmOk x) && true) = true
      rw [if_neg (by decide), decide_eq_true (show lenW wIf = .int ((2 + 2 : Nat) : Int) from rfl), hx.2.2]; rfl
    · show _ ≤ 6 + (3 * x.length + (wts f + 10 + (wts g + 10 + 0))) + 10
      simp only [szT, szs]; (first | lia | omega)
theorem fm_th {K : PySem.W.Frag} {H : Hp} : ∀ (n : Nat) (ds : List Dt) (vs : List V), FmG n ds → IsDts K H ds vs → ∃ ts, IsThs K H ts vs ∧ isNs ts = true ∧ szs ts ≤ wts ds
  | 0, _, _, h, _ => h.elim
  | n + 1, ds, vs, h, hv => by
    have list : ∀ (ds : List Dt) (vs : List V), (∀ d ∈ ds, NdG (FmG n) d ∧ tn d ≤ 1000000) → IsDts K H ds vs → ∃ ts, IsThs K H ts vs ∧ isNs ts = true ∧ szs ts ≤ wts ds := by
      intro ds
      induction ds with
      | nil => intro vs _ hv; cases dts_nil_inv hv; exact ⟨[], ths_nil, by rw [isNs], by simp [szs]⟩
      | cons d ds ih =>
        intro vs hd hv
        obtain ⟨v, r, rfl, h1, h2⟩ := dts_cons_inv hv
        obtain ⟨ts, k1, k2, k3⟩ := ih r (fun e he => hd e (List.mem_cons_of_mem _ he)) h2
        obtain ⟨t, m1, m2, m3⟩ := nd_th (fm_th n) (hd d List.mem_cons_self).1 (hd d List.mem_cons_self).2 h1
        exact ⟨t :: ts, ths_cons m1 k1, by rw [isNs, m2, k2]; rfl, by rw [szs]; show _ ≤ wt d + wts ds; (first | lia | omega)⟩
    have ht := h.2.1
    exact list ds vs (fun d hd => ⟨h.2.2 d hd, by have := tn_mem hd; (first | lia | omega)⟩) hv
theorem eqDs_nil (g : List Dt) : eqDs g [] = decide (g = []) := by
  cases g with
  | nil => simp [eqDs]
  | cons d g => simp [eqDs]
theorem wrL_snoc {W : List Dt → List MTok → Prop} : ∀ (ds : List Dt) (t : List MTok) {d : Dt} {a : List MTok}, WrL W ds t → WrN W d a → WrL W (ds ++ [d]) (t ++ a)
  | [], t, d, a, w, h => by
    have w : t = [] := w
    subst w
    exact ⟨a, [], h, rfl, by simp⟩
  | e :: ds, t, d, a, w, h => by
    obtain ⟨b, c, wb, wc, rfl⟩ := w
    exact ⟨b, c ++ a, wb, wrL_snoc ds c wc h, by rw [List.append_assoc]⟩
inductive sp__law_written_I (n : Nat) (K : PySem.W.Frag) (vs : List V) (H : Hp) (Q : VK) : Prop
  | mk (v : V) (ds : List Dt) (tn : Int) : vs = [v, .int tn] → IsDt K (TuO H) (.tup ds) v → FmG n ds → wts ds ≤ 800000 → n ≤ 10 → (∀ H' t, Same H H' → WrF n ds t → Q (.str (tx (render t))) H') → sp__law_written_I n K vs H Q
noncomputable def sp__law_written (n : Nat) (K : PySem.W.Frag) : Sp := fun vs H Q _ => sp__law_written_I n K vs H Q
inductive PvW_I (n : Nat) (H : Hp) (ds : List Dt) (a : Addr) (tu : Int) (i : Nat) (σ : St) (H2 : Hp)  : Prop
  | mk (pr : Addr) (ls : List (List Nat)) (t : List MTok) (o3 o4 : Option V) : σ = [some (.ref a), some (.int tu), some (.ref pr), o3, o4] → H pr = none → Same H H2 → H2 pr = some (.lst (txs ls)) → WrL (WrF n) (ds.take i) t → ls.flatten = render t → ls.length ≤ wts (ds.take i) → PvW_I n H ds a tu i σ H2
noncomputable def PvW (n : Nat) (H : Hp) (ds : List Dt) (a : Addr) (tu : Int) (i : Nat) (σ : St) (H2 : Hp) : Prop := PvW_I n H ds a tu i σ H2
inductive PmW_I (H : Hp) (a : Addr) (tu : Int) (c : Addr) (ls : List (List Nat)) (l : List Nat) (m : Nat) (σ : St) (H3 : Hp)  : Prop
  | mk (pr' : Addr) (ls' : List (List Nat)) (o4' : Option V) : σ = [some (.ref a), some (.int tu), some (.ref pr'), some (.ref c), o4'] → H pr' = none → Same H H3 → H3 pr' = some (.lst (txs ls')) → ls'.flatten = ls.flatten ++ l → ls'.length ≤ ls.length + m → PmW_I H a tu c ls l m σ H3
noncomputable def PmW (H : Hp) (a : Addr) (tu : Int) (c : Addr) (ls : List (List Nat)) (l : List Nat) (m : Nat) (σ : St) (H3 : Hp) : Prop := PmW_I H a tu c ls l m σ H3
inductive PwE_I (n : Nat) (H : Hp) (a : Addr) (tu : Int) (c : Addr) (ls : List (List Nat)) (d : Dt) (σ : St) (H9 : Hp)  : Prop
  | mk (pr9 : Addr) (ls9 : List (List Nat)) (o9 : Option V) (tt : List MTok) : σ = [some (.ref a), some (.int tu), some (.ref pr9), some (.ref c), o9] → H pr9 = none → Same H H9 → H9 pr9 = some (.lst (txs ls9)) → WrN (WrF n) d (tt ++ [.mk mEnd]) → ls9.flatten = ls.flatten ++ render tt → ls9.length + 1 ≤ ls.length + wt d → PwE_I n H a tu c ls d σ H9
noncomputable def PwE (n : Nat) (H : Hp) (a : Addr) (tu : Int) (c : Addr) (ls : List (List Nat)) (d : Dt) (σ : St) (H9 : Hp) : Prop := PwE_I n H a tu c ls d σ H9
noncomputable def hdT (w x : List Nat) : List MTok := if w = wText then tokT x else if w = wGap then [.mk x] else [.mk (w ++ [32] ++ x)]
noncomputable def IE2 : List V := [.str (tx [105, 102]), .str (tx [101, 97, 99, 104])]
theorem wr_case {n : Nat} {w x : List Nat} {es : List Dt} (hnd : NdG (FmG n) (.tup (.str w :: .str x :: es))) : (inV (.str (tx w)) IE2 = false ∧ decide (V.str (tx w) = V.str (tx [105, 102])) = false ∧ WrN (WrF n) (.tup (.str w :: .str x :: es)) (hdT w x)) ∨ (inV (.str (tx w)) IE2 = true ∧ render (hdT w x) = render [.mk (w ++ [32] ++ x)] ∧ w.length ≤ 4 ∧ ∃ f rest, es = .tup f :: rest ∧ FmG n f ∧ ((w = wEach ∧ rest = []) ∨ ∃ g, w = wIf ∧ rest = [.tup g] ∧ FmG n g)) := by
  cases nd_cases hnd with
  | text _ _ => exact .inl ⟨by decide +kernel, by decide +kernel, .inl ⟨x, rfl, if_pos rfl⟩⟩
  | gap _ _ => exact .inl ⟨by decide +kernel, by decide +kernel, .inr (.inl ⟨x, rfl, (if_neg (by decide)).trans (if_pos rfl)⟩)⟩
  | use _ _ => exact .inl ⟨by decide +kernel, by decide +kernel, .inr (.inr (.inl ⟨x, rfl, (if_neg (by decide)).trans (if_neg (by decide))⟩))⟩
  | each _ f _ hf' => exact .inr ⟨by decide +kernel, by rw [hdT, if_neg (by decide), if_neg (by decide)], by decide, f, _, rfl, hf', .inl ⟨rfl, rfl⟩⟩
  | ifs _ f g _ hf' hg' => exact .inr ⟨by decide +kernel, by rw [hdT, if_neg (by decide), if_neg (by decide)], by decide, f, _, rfl, hf', .inr ⟨g, rfl, rfl, hg'⟩⟩
noncomputable def KK : Nat := 20
noncomputable def Kits (_ : PySem.W.Frag) : Prop := True
noncomputable def flO (k x : List Nat) (pf pj : Addr) : List (Str × V) := [("kind", .str (tx k)), ("name", .str (tx x)), ("forms", .ref pf), ("joining", .ref pj)]
theorem flO_kind (k x : List Nat) (pf pj : Addr) : (flO k x pf pj).lookup ("kind" : Str) = some (.str (tx k)) := by
  unfold flO
  rw [List.lookup_cons, show (("kind" : Str) == "kind") = true by decide +kernel]
theorem flO_name (k x : List Nat) (pf pj : Addr) : (flO k x pf pj).lookup ("name" : Str) = some (.str (tx x)) := by
  unfold flO
  rw [List.lookup_cons, show (("name" : Str) == "kind") = false by decide +kernel]
  dsimp only
  rw [List.lookup_cons, show (("name" : Str) == "name") = true by decide +kernel]
theorem flO_forms (k x : List Nat) (pf pj : Addr) : (flO k x pf pj).lookup ("forms" : Str) = some (.ref pf) := by
  unfold flO
  rw [List.lookup_cons, show (("forms" : Str) == "kind") = false by decide +kernel]
  dsimp only
  rw [List.lookup_cons, show (("forms" : Str) == "name") = false by decide +kernel]
  dsimp only
  rw [List.lookup_cons, show (("forms" : Str) == "forms") = true by decide +kernel]
theorem flO_joining (k x : List Nat) (pf pj : Addr) : (flO k x pf pj).lookup ("joining" : Str) = some (.ref pj) := by
  unfold flO
  rw [List.lookup_cons, show (("joining" : Str) == "kind") = false by decide +kernel]
  dsimp only
  rw [List.lookup_cons, show (("joining" : Str) == "name") = false by decide +kernel]
  dsimp only
  rw [List.lookup_cons, show (("joining" : Str) == "forms") = false by decide +kernel]
  dsimp only
  rw [List.lookup_cons, show (("joining" : Str) == "joining") = true by decide +kernel]
theorem flO_no (k x : List Nat) (pf pj : Addr) {m : Str} (h1 : (m == "kind") = false) (h2 : (m == "name") = false) (h3 : (m == "forms") = false) (h4 : (m == "joining") = false) : (flO k x pf pj).lookup m = none := by
  unfold flO
  rw [List.lookup_cons, h1]
  dsimp only
  rw [List.lookup_cons, h2]
  dsimp only
  rw [List.lookup_cons, h3]
  dsimp only
  rw [List.lookup_cons, h4]; rfl
theorem kn1 : ¬ ("kind" : Str) = "name" := by decide +kernel
theorem kn2 : ¬ ("kind" : Str) = "forms" := by decide +kernel
theorem kn3 : ¬ ("kind" : Str) = "joining" := by decide +kernel
theorem kn4 : ¬ ("name" : Str) = "forms" := by decide +kernel
theorem kn5 : ¬ ("name" : Str) = "joining" := by decide +kernel
theorem kn6 : ¬ ("forms" : Str) = "joining" := by decide +kernel
theorem flO_mk (k x : List Nat) (pf pj : Addr) : putF "joining" (.ref pj) (putF "forms" (.ref pf) (putF "name" (.str (tx x)) (putF "kind" (.str (tx k)) []))) = flO k x pf pj := by
  have e1 : putF "name" (.str (tx x)) (putF "kind" (.str (tx k)) []) = [(("kind" : Str), V.str (tx k)), (("name" : Str), V.str (tx x))] := by
    show (if ("kind" : Str) = "name" then _ else (("kind" : Str), V.str (tx k)) :: [(("name" : Str), V.str (tx x))]) = _
    rw [if_neg kn1]
  have e2 : putF "forms" (.ref pf) [(("kind" : Str), V.str (tx k)), (("name" : Str), V.str (tx x))] = [(("kind" : Str), V.str (tx k)), (("name" : Str), V.str (tx x)), (("forms" : Str), V.ref pf)] := by
    show (if ("kind" : Str) = "forms" then _ else (("kind" : Str), V.str (tx k)) :: (if ("name" : Str) = "forms" then _ else (("name" : Str), V.str (tx x)) :: [(("forms" : Str), V.ref pf)])) = _
    rw [if_neg kn2, if_neg kn4]
  rw [e1, e2]
  show (if ("kind" : Str) = "joining" then _ else (("kind" : Str), V.str (tx k)) :: (if ("name" : Str) = "joining" then _ else (("name" : Str), V.str (tx x)) :: (if ("forms" : Str) = "joining" then _ else (("forms" : Str), V.ref pf) :: [(("joining" : Str), V.ref pj)]))) = _
  rw [if_neg kn3, if_neg kn5, if_neg kn6]; rfl
theorem flO_put (k x : List Nat) (pf pj p : Addr) : putF "joining" (.ref p) (flO k x pf pj) = flO k x pf p := by
  show (if ("kind" : Str) = "joining" then _ else (("kind" : Str), V.str (tx k)) :: (if ("name" : Str) = "joining" then _ else (("name" : Str), V.str (tx x)) :: (if ("forms" : Str) = "joining" then _ else (("forms" : Str), V.ref pf) :: (if ("joining" : Str) = "joining" then [(("joining" : Str), V.ref p)] else _)))) = _
  rw [if_neg kn3, if_neg kn5, if_neg kn6, if_pos rfl]; rfl
noncomputable def SameX (X : List Addr) (H H' : Hp) : Prop := ∀ b o, b ∉ X → H b = some o → H' b = some o
theorem SameX.trans {X : List Addr} {H H1 H2 : Hp} (a : SameX X H H1) (b : SameX X H1 H2) : SameX X H H2 := fun c o n h => b c o n (a c o n h)
theorem sameX {X : List Addr} {H H' : Hp} (s : Same H H') : SameX X H H' := fun c o _ h => s c o h
inductive OAt_I (K : PySem.W.Frag) (CJ CO : Addr) (H : Hp) (a : Addr) (fp : List Addr) (M : Nat) (f : Frm)  : Prop
  | mk (dx pf pj dj pn pt : Addr) (fvs vs : List V) (ls : List (List Nat)) : fp = [a, pf, pj, pn, pt] → H a = some (.ins CO dx (flO f.kind f.name pf pj)) → H pf = some (.lst fvs) → IsDts K (TuO H) (f.fs.map Dt.tup) fvs → JAt CJ H pj dj pn pt vs ls → IsDts K (TuO H) f.ns vs → ls.flatten = f.ts → pf ≠ pn → pf ≠ pt → f.ns.length ≤ M → f.ts.length ≤ M → ls.length ≤ M → f.fs.length ≤ M → OAt_I K CJ CO H a fp M f
structure OAt (K : PySem.W.Frag) (CJ CO : Addr) (H : Hp) (a : Addr) (fp : List Addr) (M : Nat) (f : Frm) : Prop where
  ex : OAt_I K CJ CO H a fp M f
theorem OAt.sameT {K : PySem.W.Frag} {CJ CO : Addr} {H H' : Hp} {a : Addr} {fp : List Addr} {M : Nat} {f : Frm} (o : OAt K CJ CO H a fp M f) (s : SameX fp H H') : SameT H H' := fun b xs e => by
  obtain ⟨dx, pf, pj, dj, pn, pt, fvs, vs, ls, rfl, h1, h2, _, J, _⟩ := o.ex
  refine s b _ (fun hb => ?_) e
  simp only [List.mem_cons, List.mem_nil_iff, or_false] at hb
  rcases hb with rfl | rfl | rfl | rfl | rfl
  · rw [h1] at e; cases e
  · rw [h2] at e; cases e
  · rw [J.ob] at e; cases e
  · rw [J.nd] at e; cases e
  · rw [J.tx] at e; cases e
theorem OAt.frame {K : PySem.W.Frag} {CJ CO : Addr} {H H' : Hp} {a : Addr} {fp X : List Addr} {M M' : Nat} {f : Frm} (o : OAt K CJ CO H a fp M f) (hm : M ≤ M') (d : ∀ b ∈ fp, b ∉ X) (s : SameX X H H') (t : SameT H H') : OAt K CJ CO H' a fp M' f := by
  obtain ⟨dx, pf, pj, dj, pn, pt, fvs, vs, ls, rfl, h1, h2, h3, J, h4, h5, h6, h7, b1, b2, b3, b4⟩ := o.ex
  refine ⟨dx, pf, pj, dj, pn, pt, fvs, vs, ls, rfl, s _ _ (d _ (by simp)) h1, s _ _ (d _ (by simp)) h2, h3.same t.to, ⟨s _ _ (d _ (by simp)) J.ob, s _ _ (d _ (by simp)) J.nd, s _ _ (d _ (by simp)) J.tx, J.ne⟩, h4.same t.to, h5, h6, h7, by (first | lia | omega), by (first | lia | omega), by (first | lia | omega), by (first | lia | omega)⟩
noncomputable def Nm (K : PySem.W.Frag) (x : Str) (C : Addr) : Prop := PySem.W.nsIn K mainGlobals x = some (some (.ref C))
theorem Nm.one {K : PySem.W.Frag} {x : Str} {C D : Addr} (h : Nm K x C) (h2 : PySem.W.nsIn K mainGlobals x = some (some (.ref D))) : C = D := by
  unfold Nm at h
  rw [h] at h2
  injection h2 with h2
  injection h2 with h2
  injection h2
inductive sp_Opened___init___I (K : PySem.W.Frag) (C : Addr) (vs : List V) (H : Hp) (Q : VK) : Prop
  | mk (a dx CJ : Addr) (k x : List Nat) : vs = [.ref a, .str (tx k), .str (tx x)] → Nm K "Joining" CJ → H a = some (.ins C dx []) → (∀ H' fp, OAt K CJ C H' a fp 0 ⟨k, x, [], [], []⟩ → SameB a H H' → (∀ b ∈ fp, b = a ∨ H b = none) → Q .non H') → sp_Opened___init___I K C vs H Q
noncomputable def sp_Opened___init__ (K : PySem.W.Frag) (C : Addr) : Sp := fun vs H Q _ => sp_Opened___init___I K C vs H Q
inductive sp_Opened_end_form_I (K : PySem.W.Frag) (C : Addr) (vs : List V) (H : Hp) (Q : VK) : Prop
  | mk (a CJ : Addr) (fp : List Addr) (M : Nat) (f : Frm) : vs = [.ref a] → Nm K "Joining" CJ → OAt K CJ C H a fp M f → M ≤ 6000000 → (∀ H' fp', OAt K CJ C H' a fp' (M + 1) f.endF → SameX fp H H' → (∀ b ∈ fp', b ∈ fp ∨ H b = none) → Q .non H') → sp_Opened_end_form_I K C vs H Q
noncomputable def sp_Opened_end_form (K : PySem.W.Frag) (C : Addr) : Sp := fun vs H Q _ => sp_Opened_end_form_I K C vs H Q
inductive sp_Opened_go_other_I (K : PySem.W.Frag) (C : Addr) (vs : List V) (H : Hp) (Q : VK) : Prop
  | mk (a CJ : Addr) (fp : List Addr) (M : Nat) (f : Frm) : vs = [.ref a] → Nm K "Joining" CJ → OAt K CJ C H a fp M f → M ≤ 6000000 → f.kind = wIf → f.fs = [] → (∀ H' fp', OAt K CJ C H' a fp' (M + 1) f.endF → SameX fp H H' → (∀ b ∈ fp', b ∈ fp ∨ H b = none) → Q .non H') → sp_Opened_go_other_I K C vs H Q
noncomputable def sp_Opened_go_other (K : PySem.W.Frag) (C : Addr) : Sp := fun vs H Q _ => sp_Opened_go_other_I K C vs H Q
inductive sp_Opened_ended_I (K : PySem.W.Frag) (C : Addr) (vs : List V) (H : Hp) (Q : VK) : Prop
  | mk (a CJ : Addr) (fp : List Addr) (M : Nat) (f : Frm) : vs = [.ref a] → Nm K "Joining" CJ → OAt K CJ C H a fp M f → M ≤ 6000000 - 1 → (∀ H' v, IsDt K (TuO H') f.node v → SameX fp H H' → SameT H H' → Q v H') → sp_Opened_ended_I K C vs H Q
noncomputable def sp_Opened_ended (K : PySem.W.Frag) (C : Addr) : Sp := fun vs H Q _ => sp_Opened_ended_I K C vs H Q
theorem SameBfree {p b : Addr} {H H' : Hp} (s : SameB p H H') (n : b ≠ p) (h : H' b = none) : H b = none := by
  cases hh : H b with
  | none => rfl
  | some o => rw [s b o n hh] at h; cases h
theorem atI_last (vs : List V) (v : V) : atI (vs ++ [v]) (-1) = some v := by
  unfold atI
  rw [ixN_last (by rw [List.length_append, List.length_singleton]; (first | lia | omega))]
  simp
theorem catB {K : PySem.W.Frag} {H : Hp} {x y : V} {A B : List Dt} {Q : VK} (hx : IsDt K (TuO H) (.tup A) x) (hy : IsDt K (TuO H) (.tup B) y) (hl : A.length + B.length ≤ 9000000) (q : ∀ H' p, Same H H' → IsDt K (TuO H') (.tup (A ++ B)) (.ref p) → Q (.ref p) H') : rCatA K x y H Q := by
  obtain ⟨a, us, rfl, hS, hd⟩ := dt_tup_inv hx
  obtain ⟨b, vs, rfl, hS2, hd2⟩ := dt_tup_inv hy
  have l1 := hd.len
  have l2 := hd2.len
  refine ⟨a, b, us, vs, rfl, rfl, TuO_sub.tup hS, TuO_sub.tup hS2, smallF (by (first | lia | omega)), fun e => ?_, fun _ e => ?_, fun _ _ p hp => ?_⟩
  · refine q H b (Same.refl _) ?_
    have : A = [] := List.length_eq_zero_iff.mp (by rw [l1, e]; rfl)
    rw [this]
    exact hy
  · refine q H a (Same.refl _) ?_
    have : B = [] := List.length_eq_zero_iff.mp (by rw [l2, e]; rfl)
    rw [this, List.append_nil]
    exact hx
  · exact q _ p (same_new hp _) (dt_tup (SqT.of (TuO_tup upd_same)) (dts_app (hd.same (same_new hp _).t.to) (hd2.same (same_new hp _).t.to)))
noncomputable def Stk (K : PySem.W.Frag) (CJ CO : Addr) (H : Hp) (M : Nat) : List Addr → List (List Addr) → List Frm → Prop
  | [], [], [] => True
  | a :: as, fp :: fps, f :: st => OAt K CJ CO H a fp M f ∧ Stk K CJ CO H M as fps st
  | _, _, _ => False
theorem Stk.frame {K : PySem.W.Frag} {CJ CO : Addr} {H H' : Hp} {M M' : Nat} {X : List Addr} (hm : M ≤ M') (s : SameX X H H') (t : SameT H H') : ∀ {as : List Addr} {fps : List (List Addr)} {st : List Frm}, Stk K CJ CO H M as fps st → (∀ fp ∈ fps, ∀ b ∈ fp, b ∉ X) → Stk K CJ CO H' M' as fps st
  | [], [], [], _, _ => True.intro
  | a :: as, fp :: fps, f :: st, h, d => ⟨h.1.frame hm (d fp List.mem_cons_self) s t, h.2.frame hm s t fun p hp => d p (List.mem_cons_of_mem _ hp)⟩
  | [], [], _ :: _, h, _ => h.elim
  | [], _ :: _, _, h, _ => h.elim
  | _ :: _, [], _, h, _ => h.elim
  | _ :: _, _ :: _, [], h, _ => h.elim
theorem OAt.there {K : PySem.W.Frag} {CJ CO : Addr} {H : Hp} {a : Addr} {fp : List Addr} {M : Nat} {f : Frm} (o : OAt K CJ CO H a fp M f) : ∀ b ∈ fp, H b ≠ none := fun b hb => by
  obtain ⟨dx, pf, pj, dj, pn, pt, fvs, vs, ls, rfl, h1, h2, _, J, _⟩ := o.ex
  simp only [List.mem_cons, List.mem_nil_iff, or_false] at hb
  rcases hb with rfl | rfl | rfl | rfl | rfl
  · rw [h1]; simp
  · rw [h2]; simp
  · rw [J.ob]; simp
  · rw [J.nd]; simp
  · rw [J.tx]; simp
theorem Stk.there {K : PySem.W.Frag} {CJ CO : Addr} {H : Hp} {M : Nat} : ∀ {as : List Addr} {fps : List (List Addr)} {st : List Frm}, Stk K CJ CO H M as fps st → ∀ fp ∈ fps, ∀ b ∈ fp, H b ≠ none
  | [], [], [], _, fp, hf => nomatch hf
  | a :: as, fp :: fps, f :: st, h, p, hp => (List.mem_cons.mp hp).elim (fun z => by rw [z]; exact h.1.there) fun z => h.2.there p z
  | [], [], _ :: _, h, _, _ => h.elim
  | [], _ :: _, _, h, _, _ => h.elim
  | _ :: _, [], _, h, _, _ => h.elim
  | _ :: _, _ :: _, [], h, _, _ => h.elim
inductive SK_I (K : PySem.W.Frag) (H0 H : Hp) (pa : Addr) (M : Nat) (st : List Frm)  : Prop
  | mk (CJ CO : Addr) (as : List Addr) (fps : List (List Addr)) : Nm K "Joining" CJ → Nm K "Opened" CO → H pa = some (.lst (as.reverse.map V.ref)) → Stk K CJ CO H M as fps st → Same H0 H → H0 pa = none → (∀ fp ∈ fps, ∀ b ∈ fp, H0 b = none ∧ b ≠ pa) → fps.Pairwise (fun x y => ∀ b ∈ x, b ∉ y) → SK_I K H0 H pa M st
structure SK (K : PySem.W.Frag) (H0 H : Hp) (pa : Addr) (M : Nat) (st : List Frm) : Prop where
  ex : SK_I K H0 H pa M st
theorem SK.top {K : PySem.W.Frag} {H0 H : Hp} {pa : Addr} {M : Nat} {f : Frm} {st : List Frm} (s : SK K H0 H pa M (f :: st)) : ∃ (CJ CO a : Addr) (fp : List Addr) (vs : List V), Nm K "Joining" CJ ∧ Nm K "Opened" CO ∧ H pa = some (.lst (vs ++ [.ref a])) ∧ OAt K CJ CO H a fp M f ∧ Same H0 H ∧ pa ∉ fp ∧
    ∀ H' fp' f' M', M ≤ M' → SameX fp H H' → (∀ b ∈ fp', b ∈ fp ∨ H b = none) → OAt K CJ CO H' a fp' M' f' → SK K H0 H' pa M' (f' :: st) := by
  obtain ⟨CJ, CO, as, fps, nJ, nO, hpa, hS, s0, h0, hfp, hpw⟩ := s.ex
  match as, fps, hS, hpa, hfp, hpw with
  | [], [], hS, _, _, _ => exact hS.elim
  | [], _ :: _, hS, _, _, _ => exact hS.elim
  | _ :: _, [], hS, _, _, _ => exact hS.elim
  | a :: as, fp :: fps, hS, hpa, hfp, hpw =>
    obtain ⟨O, R⟩ := hS
    obtain ⟨pw1, pw2⟩ := List.pairwise_cons.mp hpw
    have npa : pa ∉ fp := fun z => (hfp fp List.mem_cons_self pa z).2 rfl
    refine ⟨CJ, CO, a, fp, as.reverse.map V.ref, nJ, nO, by rw [hpa, List.reverse_cons, List.map_append]; rfl, O, s0, npa, fun H' fp' f' M' hm sX hf' O' => ?_⟩
    have sT := O.sameT sX
    have hnew : ∀ b ∈ fp', H0 b = none ∧ b ≠ pa := fun b hb => (hf' b hb).elim (hfp fp List.mem_cons_self b) fun z => ⟨s0.free z, fun e => by rw [e, hpa] at z; cases z⟩
    refine ⟨CJ, CO, a :: as, fp' :: fps, nJ, nO, sX _ _ npa hpa, ⟨O', R.frame hm sX sT fun y hy b hb hx => pw1 y hy b hx hb⟩, fun b o hb => sX b o (fun hx => by have := (hfp fp List.mem_cons_self b hx).1; rw [hb] at this; cases this) (s0 b o hb), h0, fun y hy => (List.mem_cons.mp hy).elim (fun z => by rw [z]; exact hnew) fun z => hfp y (List.mem_cons_of_mem _ z), List.pairwise_cons.mpr ⟨fun y hy b hb hby => ?_, pw2⟩⟩
    exact (hf' b hb).elim (fun z => pw1 y hy b z hby) fun z => R.there y hy b hby z
theorem SK.pop {K : PySem.W.Frag} {H0 H : Hp} {pa : Addr} {M : Nat} {f g : Frm} {st : List Frm} (s : SK K H0 H pa M (f :: g :: st)) : ∃ (CJ CO a : Addr) (fp : List Addr) (vs : List V), Nm K "Joining" CJ ∧ Nm K "Opened" CO ∧ H pa = some (.lst (vs ++ [.ref a])) ∧ OAt K CJ CO H a fp M f ∧ pa ∉ fp ∧ 2 ≤ (vs ++ [V.ref a]).length ∧
    ∀ H' M', M ≤ M' → (∀ b o, b ∉ fp → b ≠ pa → H b = some o → H' b = some o) → SameT H H' → H' pa = some (.lst vs) → SK K H0 H' pa M' (g :: st) := by
  obtain ⟨CJ, CO, as, fps, nJ, nO, hpa, hS, s0, h0, hfp, hpw⟩ := s.ex
  match as, fps, hS, hpa, hfp, hpw with
  | [], [], hS, _, _, _ => exact hS.elim
  | [], _ :: _, hS, _, _, _ => exact hS.elim
  | _ :: _, [], hS, _, _, _ => exact hS.elim
  | a :: as, fp :: fps, hS, hpa, hfp, hpw =>
    obtain ⟨O, R⟩ := hS
    obtain ⟨pw1, pw2⟩ := List.pairwise_cons.mp hpw
    have npa : pa ∉ fp := fun z => (hfp fp List.mem_cons_self pa z).2 rfl
    have hlen : 1 ≤ as.length := by
      cases as with
      | nil => cases fps <;> exact R.elim
      | cons b as => simp
    refine ⟨CJ, CO, a, fp, as.reverse.map V.ref, nJ, nO, by rw [hpa, List.reverse_cons, List.map_append]; rfl, O, npa, by rw [List.length_append, List.length_map, List.length_reverse, List.length_singleton]; (first | lia | omega), fun H' M' hm sX sT e => ?_⟩
    refine ⟨CJ, CO, as, fps, nJ, nO, e, R.frame (X := pa :: fp) hm (fun b o nb hb => sX b o (fun z => nb (List.mem_cons_of_mem _ z)) (fun z => nb (by rw [z]; exact List.mem_cons_self)) hb) sT fun y hy b hb hx => ?_, fun b o hb => ?_, h0, fun y hy => hfp y (List.mem_cons_of_mem _ hy), pw2⟩
    · rcases List.mem_cons.mp hx with z | z
      · exact (hfp y (List.mem_cons_of_mem _ hy) b hb).2 z
      · exact pw1 y hy b z hb
    · exact sX b o (fun z => by have := (hfp fp List.mem_cons_self b z).1; rw [hb] at this; cases this) (fun z => by rw [z, h0] at hb; cases hb) (s0 b o hb)
theorem SK.push {K : PySem.W.Frag} {H0 H : Hp} {pa : Addr} {M : Nat} {st : List Frm} (s : SK K H0 H pa M st) : ∃ (CJ CO : Addr) (vs : List V), Nm K "Joining" CJ ∧ Nm K "Opened" CO ∧ H pa = some (.lst vs) ∧ vs.length = st.length ∧
    ∀ H1 H' a fp f, Same H H1 → (∀ b ∈ fp, H b = none) → OAt K CJ CO H1 a fp M f → (∀ b o, b ≠ pa → H1 b = some o → H' b = some o) → H' pa = some (.lst (vs ++ [.ref a])) → SK K H0 H' pa M (f :: st) := by
  obtain ⟨CJ, CO, as, fps, nJ, nO, hpa, hS, s0, h0, hfp, hpw⟩ := s.ex
  have hlen : ∀ {as : List Addr} {fps : List (List Addr)} {st : List Frm}, Stk K CJ CO H M as fps st → as.length = st.length := by
    intro as
    induction as with
    | nil => intro fps st h; cases fps <;> cases st <;> first | rfl | exact h.elim
    | cons a as ih => intro fps st h; cases fps <;> cases st <;> first | exact h.elim | (rw [List.length_cons, List.length_cons, ih h.2])
  refine ⟨CJ, CO, as.reverse.map V.ref, nJ, nO, hpa, by rw [List.length_map, List.length_reverse]; exact hlen hS, fun H1 H' a fp f s1 hf O s2 e => ?_⟩
  have hpa1 := s1 _ _ hpa
  have sT : SameT H1 H' := fun b xs hb => s2 b _ (fun z => by rw [z, hpa1] at hb; cases hb) hb
  have npa : ∀ b ∈ fp, b ≠ pa := fun b hb z => by have := hf b hb; rw [z, hpa] at this; cases this
  have sX : SameX [pa] H1 H' := fun b o nb hb => s2 b o (fun z => nb (by rw [z]; simp)) hb
  refine ⟨CJ, CO, a :: as, fp :: fps, nJ, nO, by rw [e, List.reverse_cons, List.map_append]; rfl, ⟨O.frame (Nat.le_refl _) (fun b hb z => npa b hb (List.mem_singleton.mp z)) sX sT, hS.frame (X := [pa]) (Nat.le_refl _) (fun b o nb hb => sX b o nb (s1 b o hb)) (s1.t.trans sT) fun y hy b hb z => (hfp y hy b hb).2 (List.mem_singleton.mp z)⟩, fun b o hb => s2 b o (fun z => by rw [z, h0] at hb; cases hb) (s1 _ _ (s0 b o hb)), h0, fun y hy => (List.mem_cons.mp hy).elim (fun z => by rw [z]; exact fun b hb => ⟨s0.free (hf b hb), npa b hb⟩) fun z => hfp y z, List.pairwise_cons.mpr ⟨fun y hy b hb hby => hS.there y hy b hby (hf b hb), hpw⟩⟩
inductive sp_take_text_I (K : PySem.W.Frag) (vs : List V) (H : Hp) (Q : VK) : Prop
  | mk (H0 : Hp) (pa : Addr) (M : Nat) (st : List Frm) (l : List Nat) : vs = [.ref pa, .str (tx l)] → SK K H0 H pa M st → st ≠ [] → 125 ∉ l → M + l.length ≤ 6000000 → (∀ H', SK K H0 H' pa (M + l.length + 1) (putTs l st) → Q .non H') → sp_take_text_I K vs H Q
noncomputable def sp_take_text (K : PySem.W.Frag) : Sp := fun vs H Q _ => sp_take_text_I K vs H Q
inductive sp_take_end_I (K : PySem.W.Frag) (vs : List V) (H : Hp) (Q : VK) : Prop
  | mk (H0 : Hp) (pa : Addr) (M : Nat) (st : List Frm) (f g : Frm) : vs = [.ref pa] → SK K H0 H pa M (f :: g :: st) → M ≤ 5000000 → (∀ H', SK K H0 H' pa (M + 2) (g.putN f.node :: st) → Q .non H') → sp_take_end_I K vs H Q
noncomputable def sp_take_end (K : PySem.W.Frag) : Sp := fun vs H Q _ => sp_take_end_I K vs H Q
theorem SK.same {K : PySem.W.Frag} {H0 H H' : Hp} {pa : Addr} {M M' : Nat} {st : List Frm} (s : SK K H0 H pa M st) (hm : M ≤ M') (h : Same H H') : SK K H0 H' pa M' st := by
  obtain ⟨CJ, CO, as, fps, nJ, nO, hpa, hS, s0, h0, hfp, hpw⟩ := s.ex
  exact ⟨CJ, CO, as, fps, nJ, nO, h _ _ hpa, hS.frame (X := []) hm (sameX h) h.t fun y hy b hb z => (nomatch z), s0.trans h, h0, hfp, hpw⟩
inductive sp_take_words_I (K : PySem.W.Frag) (vs : List V) (H : Hp) (Q : VK) : Prop
  | mk (H0 : Hp) (pa : Addr) (M : Nat) (st : List Frm) (f : Frm) (w x : List Nat) : vs = [.ref pa, .str (tx (w ++ [32] ++ x))] → SK K H0 H pa M (f :: st) → st.length ≤ 1000000 → M ≤ 5000000 → (w = wUse ∨ w = wIf ∨ w = wEach) → nmOk x = true → (∀ H', SK K H0 H' pa (M + 2) (if w = wUse then f.putN (.tup [.str wUse, .str x]) :: st else ⟨w, x, [], [], []⟩ :: f :: st) → Q .non H') → sp_take_words_I K vs H Q
noncomputable def sp_take_words (K : PySem.W.Frag) : Sp := fun vs H Q _ => sp_take_words_I K vs H Q
inductive sp_take_mark_I (K : PySem.W.Frag) (vs : List V) (H : Hp) (Q : VK) : Prop
  | mk (H0 : Hp) (pa : Addr) (M : Nat) (st st' : List Frm) (m : List Nat) : vs = [.ref pa, .str (tx m)] → SK K H0 H pa M st → st.length ≤ 1000000 → M ≤ 5000000 → m.length ≤ 1000000 → stepM nmOk m st = some st' → (∀ H', SK K H0 H' pa (M + 2) st' → Q .non H') → sp_take_mark_I K vs H Q
noncomputable def sp_take_mark (K : PySem.W.Frag) : Sp := fun vs H Q _ => sp_take_mark_I K vs H Q
inductive sp_read_form_I (K : PySem.W.Frag) (vs : List V) (H : Hp) (Q : VK) : Prop
  | mk (l : List Nat) (ts : List MTok) (ds : List Dt) (A : List Dt) (t : List Nat) : vs = [.str (tx l)] → l = render ts → (∀ t ∈ ts, TokOk t) → SgT l → l.length ≤ 800000 → runT nmOk ts [⟨[], [], [], [], []⟩] = some [⟨[], [], [], A, t⟩] → A ++ jt t = ds → (∀ H' v, Same H H' → IsDt K (TuO H') (.tup ds) v → Q v H') → sp_read_form_I K vs H Q
noncomputable def sp_read_form (K : PySem.W.Frag) : Sp := fun vs H Q _ => sp_read_form_I K vs H Q
theorem tx_goodR {l : List Nat} (h : SgT l) : isSg l = true := by
  unfold isSg
  rw [List.all_eq_true]
  exact fun c hc => decide_eq_true (h c hc)
theorem tparts_free : ∀ ts : List MTok, (∀ t ∈ ts, TokOk t) → 125 ∉ (tparts ts).1 ∧ ∀ p ∈ (tparts ts).2, 125 ∉ p.1 ∧ 125 ∉ p.2
  | [], _ => ⟨by simp [tparts], fun p hp => nomatch hp⟩
  | .tx l :: r, h => by
    obtain ⟨h1, h2⟩ := tparts_free r fun t ht => h t (List.mem_cons_of_mem _ ht)
    have hl : TokOk (.tx l) := h _ List.mem_cons_self
    exact ⟨fun z => (List.mem_append.mp z).elim hl.2 h1, h2⟩
  | .mk m :: r, h => by
    obtain ⟨h1, h2⟩ := tparts_free r fun t ht => h t (List.mem_cons_of_mem _ ht)
    have hm : TokOk (.mk m) := h _ List.mem_cons_self
    exact ⟨by show 125 ∉ []; simp, fun p hp => (List.mem_cons.mp hp).elim (fun z => by rw [z]; exact ⟨hm.2, h1⟩) (h2 p)⟩
noncomputable def psz : List (List Nat × List Nat) → Nat
  | [] => 0
  | p :: r => p.1.length + p.2.length + 1 + psz r
theorem tparts_sz : ∀ ts : List MTok, (tparts ts).1.length + psz (tparts ts).2 ≤ (render ts).length
  | [] => by show 0 + 0 ≤ 0; (first | lia | omega)
  | .tx l :: r => by
    have := tparts_sz r
    show (l ++ (tparts r).1).length + psz (tparts r).2 ≤ (l ++ render r).length
    rw [List.length_append, List.length_append]; (first | lia | omega)
  | .mk m :: r => by
    have := tparts_sz r
    show 0 + (m.length + (tparts r).1.length + 1 + psz (tparts r).2) ≤ (123 :: (m ++ 125 :: render r)).length
    rw [List.length_cons, List.length_append, List.length_cons]; (first | lia | omega)
theorem SK.add {K : PySem.W.Frag} {H0 H : Hp} {pa p : Addr} {M : Nat} {st : List Frm} {o : HO} (s : SK K H0 H pa M st) (hp : H p = none) : SK K (upd H0 p o) (upd H p o) pa M st := by
  obtain ⟨CJ, CO, as, fps, nJ, nO, hpa, hS, s0, h0, hfp, hpw⟩ := s.ex
  have np : pa ≠ p := ne_of_none hpa hp
  have sN := same_new hp o
  refine ⟨CJ, CO, as, fps, nJ, nO, sN _ _ hpa, hS.frame (X := []) (Nat.le_refl _) (sameX sN) sN.t fun y hy b hb z => (nomatch z), fun b u hb => ?_, by rw [upd_ne np]; exact h0, fun y hy b hb => ⟨?_, (hfp y hy b hb).2⟩, hpw⟩
  · by_cases e : b = p
    · rw [e, upd_same] at hb ⊢; exact hb
    · rw [upd_ne e] at hb ⊢; exact s0 b u hb
  · have nb : b ≠ p := fun e => hS.there y hy b hb (by rw [e]; exact hp)
    rw [upd_ne nb]; exact (hfp y hy b hb).1
theorem SK.base {K : PySem.W.Frag} {H0 H : Hp} {pa : Addr} {M : Nat} {st : List Frm} (s : SK K H0 H pa M st) : Same H0 H := by
  obtain ⟨CJ, CO, as, fps, nJ, nO, hpa, hS, s0, _⟩ := s.ex
  exact s0
theorem psz_len : ∀ (ps : List (List Nat × List Nat)) (i : Nat), i ≤ ps.length → i ≤ psz ps
  | [], i, h => by have h : i ≤ 0 := h; show i ≤ 0; exact h
  | p :: r, 0, h => Nat.zero_le _
  | p :: r, i + 1, h => by
    have := psz_len r i (by simpa using h)
    show i + 1 ≤ p.1.length + p.2.length + 1 + psz r
    (first | lia | omega)
theorem SK.len {K : PySem.W.Frag} {H0 H : Hp} {pa : Addr} {M : Nat} {st : List Frm} (s : SK K H0 H pa M st) : ∃ vs, H pa = some (.lst vs) ∧ vs.length = st.length := by
  obtain ⟨_, _, vs, _, _, h, e, _⟩ := s.push
  exact ⟨vs, h, e⟩
theorem stepM_len {nm : List Nat → Bool} {m : List Nat} {st st' : List Frm} (h : stepM nm m st = some st') : st' ≠ [] ∧ st'.length ≤ st.length + 1 := by
  cases st with
  | nil => cases h
  | cons f st =>
    dsimp only [stepM] at h
    split at h
    · cases h; simp
    split at h
    · cases h; simp
    split at h
    · split at h
      · cases h; simp
      · cases h
    split at h
    · cases st with
      | nil => cases h
      | cons g st => cases h; simp
    split at h
    · cases h; simp
    split at h
    · cases h; simp
    split at h
    · cases h; simp
    · cases h
theorem putTs_len (l : List Nat) (st : List Frm) : (putTs l st).length = st.length := by cases st <;> rfl
noncomputable def sp_law (K : PySem.W.Frag) : Sp := spLaw K
structure Txt (w : World) (K : PySem.W.Frag) (mg : Str → Option Value) : Prop where
  d_is_text : ∃ f fd, At K mg "is_text" st_is_text ["thing"] f fd
  d_is_form_name : ∃ f fd, At K mg "is_form_name" st_is_form_name ["thing"] f fd
  d_is_form : ∃ f fd, At K mg "is_form" st_is_form ["thing"] f fd
  d_is_node : ∃ f fd, At K mg "is_node" st_is_node ["thing"] f fd
  d_forms_in : ∃ f fd, At K mg "forms_in" st_forms_in ["node"] f fd
  d_joined_form : ∃ f fd, At K mg "joined_form" st_joined_form ["form"] f fd
  d_show_form : ∃ f fd, At K mg "show_form" st_show_form ["form"] f fd
  d_show_node : ∃ f fd, At K mg "show_node" st_show_node ["node"] f fd
  d_read_form : ∃ f fd, At K mg "read_form" st_read_form ["text"] f fd
  d_take_text : ∃ f fd, At K mg "take_text" st_take_text ["around", "text"] f fd
  d_take_mark : ∃ f fd, At K mg "take_mark" st_take_mark ["around", "mark"] f fd
  d_take_end : ∃ f fd, At K mg "take_end" st_take_end ["around"] f fd
  d_take_words : ∃ f fd, At K mg "take_words" st_take_words ["around", "mark"] f fd
  d__law_cell_at : ∃ f fd, At K mg "_law_cell_at" st__law_cell_at ["_law_script", "_law_k"] f fd
  d__law_cells : ∃ f fd, At K mg "_law_cells" st__law_cells ["_law_script", "_law_start", "_law_most"] f fd
  d__law_signs : ∃ f fd, At K mg "_law_signs" st__law_signs ["_law_cell", "_law_many"] f fd
  d__law_names : ∃ f fd, At K mg "_law_names" st__law_names ["_law_cell", "_law_many"] f fd
  d__law_take : ∃ f fd, At K mg "_law_take" st__law_take ["_law_state"] f fd
  d__law_node : ∃ f fd, At K mg "_law_node" st__law_node ["_law_state", "_law_names_here", "_law_deep"] f fd
  d__law_form : ∃ f fd, At K mg "_law_form" st__law_form ["_law_state", "_law_names_here", "_law_deep", "_law_many"] f fd
  d__law_grown : ∃ f fd, At K mg "_law_grown" st__law_grown ["_law_cells_here", "_law_names_here"] f fd
  d__law_written : ∃ f fd, At K mg "_law_written" st__law_written ["_law_form_here", "_law_turn"] f fd
  d_law : ∃ f fd, At K mg "law" st_law ["_law_script"] f fd
  m_all : mg "all" = none
  m_isinstance : mg "isinstance" = none
  m_len : mg "len" = none
  m_list : mg "list" = none
  m_range : mg "range" = none
  m_str : mg "str" = none
  m_tuple : mg "tuple" = none
  g_BRACKET_MARKS : ∃ a, mg "BRACKET_MARKS" = some (.ref a) ∧ KTab w K a (fun l => tab_BRACKET_MARKS.lookup l)
  g_BRACKET_WRITINGS : ∃ a, mg "BRACKET_WRITINGS" = some (.ref a) ∧ KTab w K a (fun l => tab_BRACKET_WRITINGS.lookup l)
  g_LONGEST_NAME : ∃ t, mg "LONGEST_NAME" = some (.int 8 t)
  g_MARK_WORDS : ∃ a, mg "MARK_WORDS" = some (.ref a) ∧ ∀ H : Hp, SqT K H a [.str (tx [105, 102]), .str (tx [101, 97, 99, 104]), .str (tx [117, 115, 101]), .str (tx [101, 108, 115, 101]), .str (tx [101, 110, 100])]
  g_NODE_LENGTHS : ∃ a, mg "NODE_LENGTHS" = some (.ref a) ∧ KTab w K a (fun l => tab_NODE_LENGTHS.lookup l)
  g_SIGNS : ∃ t, mg "SIGNS" = some (.str (tx lit4) t)
  g_SMALL : ∃ t, mg "SMALL" = some (.str (tx lit3) t)
structure Txt_Joining (K : PySem.W.Frag) (mg : Str → Option Value) (C : Addr) : Prop where
  cl : Cls K C
  m : mg "Joining" = some (.ref C)
  a : PySem.W.nsIn K mainGlobals "Joining" = some (some (.ref C))
  n_nodes : NoAttr K C "nodes"
  n_texts : NoAttr K C "texts"
  d___init__ : ∃ f fd, MakAt K C "Joining.__init__" st_Joining___init__ ["self"] f fd
  d_put_text : ∃ f fd, MetAt K C "put_text" "Joining.put_text" st_Joining_put_text ["self", "text"] f fd
  d_put_node : ∃ f fd, MetAt K C "put_node" "Joining.put_node" st_Joining_put_node ["self", "node"] f fd
  d_so_far : ∃ f fd, MetAt K C "so_far" "Joining.so_far" st_Joining_so_far ["self"] f fd
structure Txt_Opened (K : PySem.W.Frag) (mg : Str → Option Value) (C : Addr) : Prop where
  cl : Cls K C
  m : mg "Opened" = some (.ref C)
  a : PySem.W.nsIn K mainGlobals "Opened" = some (some (.ref C))
  n_forms : NoAttr K C "forms"
  n_joining : NoAttr K C "joining"
  n_kind : NoAttr K C "kind"
  n_name : NoAttr K C "name"
  d___init__ : ∃ f fd, MakAt K C "Opened.__init__" st_Opened___init__ ["self", "kind", "name"] f fd
  d_end_form : ∃ f fd, MetAt K C "end_form" "Opened.end_form" st_Opened_end_form ["self"] f fd
  d_go_other : ∃ f fd, MetAt K C "go_other" "Opened.go_other" st_Opened_go_other ["self"] f fd
  d_ended : ∃ f fd, MetAt K C "ended" "Opened.ended" st_Opened_ended ["self"] f fd
section
variable {P : Program} {w : World} {K : PySem.W.Frag} {mg : Str → Option Value} {base : Heap}
theorem ok_is_text (T : Txt w K mg) {k : Nat}   : Cal P w K mg base CX0 (k + 1) "is_text" ["thing"] (sp_is_text K) := by
  refine T.d_is_text.elim fun fa e => e.elim fun fd At => At.cal sc_is_text (fun vs H Q E h => ?_) (fun cdv A outer s H vs Q E hr h => ?_)
  · (first | (obtain ⟨_, rfl, _⟩ := h; rfl) | (obtain ⟨_, _, rfl, _⟩ := h; rfl) | (obtain ⟨_, _, _, rfl, _⟩ := h; rfl) | (obtain ⟨_, _, _, _, rfl, _⟩ := h; rfl) | (obtain ⟨_, _, _, _, _, rfl, _⟩ := h; rfl) | (obtain ⟨_, _, _, _, _, _, rfl, _⟩ := h; rfl) | (obtain ⟨_, _, _, _, _, _, _, rfl, _⟩ := h; rfl) | (obtain ⟨_, _, _, _, _, _, _, _, rfl, _⟩ := h; rfl) | (obtain ⟨_, _, _, _, _, _, _, _, _, rfl, _⟩ := h; rfl) | (obtain ⟨rfl, _⟩ := h; rfl) | exact h.elim)
  have m_all := T.m_all
  have m_isinstance := T.m_isinstance
  have m_str := T.m_str
  obtain ⟨t_SIGNS, g_SIGNS⟩ := T.g_SIGNS
  refine ⟨_, (@pss_one _ _ _ (@ps_ret _ _ _ _ (pe_and (pe_callB call_isStrB rfl m_isinstance boI (@pa_cons _ _ _ _ _ (pv 0) (@pa_cons _ _ _ _ _ (pe_ty m_str boStr rfl) pa_nil star_n) star_n)) (pe_one (pe_callB (call_allB rfl) rfl m_all boAll (@pa_cons _ _ _ _ _ (pe_comp (vars := ["sign"]) rfl (CompScope.own rfl (by decide +kernel)) (pi_str (pv 0)) (fun pins cl C fp s H => ⟨pgc 0 (by decide +kernel) rfl rfl, pifs_nil, (pe_cmpR op_inS (pv 0) (pe_gs g_SIGNS rfl) (by with_unfolding_all rfl))⟩)) pa_nil rfl)))))), ?_⟩
  refine hold fun G_5 hG_5 => ?_
  obtain ⟨x, t, rfl, ht, q⟩ := h
  refine hG_5 ?_
  cases t with
  | str l =>
    obtain ⟨rfl, hl⟩ := th_str_inv ht
    refine ⟨_, rfl, _, _, rfl, ht, true, rfl, ?_⟩
    refine iteT ?_
    refine ⟨_, rfl, l, rfl, ?_⟩
    refine comp_strM (fun c => .bl (decide (c ∈ SG))) (fun H' => H' = H) rfl rfl (by (first | lia | omega)) (fun c H' Qk hc e q' => ?_) fun H' e => ?_
    · subst e
      exact ⟨_, rfl, c, SG, rfl, rfl, q' _ rfl⟩
    · subst e
      intro p hp
      refine ⟨p, l.map fun c => decide (c ∈ SG), rfl, SqL.of ?_, ?_⟩
      · rw [upd_same, List.map_map]; rfl
      · have e : (l.map fun c => decide (c ∈ SG)).all id = isSg l := by unfold isSg; rw [List.all_map]; rfl
        rw [e]
        exact q _ (same_new hp _)
  | tup ts =>
    refine ⟨_, rfl, _, _, rfl, ht, false, rfl, ?_⟩
    exact iteF (q H (Same.refl H))
  | oth =>
    refine ⟨_, rfl, _, _, rfl, ht, false, rfl, ?_⟩
    exact iteF (q H (Same.refl H))
theorem ok_is_form_name (T : Txt w K mg) {k : Nat}   : Cal P w K mg base CX0 (k + 1) "is_form_name" ["thing"] (sp_is_form_name K) := by
  refine T.d_is_form_name.elim fun fa e => e.elim fun fd At => At.cal sc_is_form_name (fun vs H Q E h => ?_) (fun cdv A outer s H vs Q E hr h => ?_)
  · (first | (obtain ⟨_, rfl, _⟩ := h; rfl) | (obtain ⟨_, _, rfl, _⟩ := h; rfl) | (obtain ⟨_, _, _, rfl, _⟩ := h; rfl) | (obtain ⟨_, _, _, _, rfl, _⟩ := h; rfl) | (obtain ⟨_, _, _, _, _, rfl, _⟩ := h; rfl) | (obtain ⟨_, _, _, _, _, _, rfl, _⟩ := h; rfl) | (obtain ⟨_, _, _, _, _, _, _, rfl, _⟩ := h; rfl) | (obtain ⟨_, _, _, _, _, _, _, _, rfl, _⟩ := h; rfl) | (obtain ⟨_, _, _, _, _, _, _, _, _, rfl, _⟩ := h; rfl) | (obtain ⟨rfl, _⟩ := h; rfl) | exact h.elim)
  have m_all := T.m_all
  have m_isinstance := T.m_isinstance
  have m_len := T.m_len
  have m_str := T.m_str
  obtain ⟨t_LONGEST_NAME, g_LONGEST_NAME⟩ := T.g_LONGEST_NAME
  obtain ⟨r_MARK_WORDS, g_MARK_WORDS, k_MARK_WORDS⟩ := T.g_MARK_WORDS
  obtain ⟨t_SMALL, g_SMALL⟩ := T.g_SMALL
  refine ⟨_, (@pss_cons _ _ _ _ _ (@ps_if _ _ _ _ _ _ _ _ (PW.pt (pw_or (pt_not (pt_val (pe_callB call_isStrB rfl m_isinstance boI (@pa_cons _ _ _ _ _ (pv 0) (@pa_cons _ _ _ _ _ (pe_ty m_str boStr rfl) pa_nil star_n) star_n)))) (pw_or1 (pt_cmpR op_in_seq (pv 0) (pe_gr g_MARK_WORDS rfl) (by with_unfolding_all rfl)))))
    (@pss_one _ _ _ (@ps_ret _ _ _ _ pe_bl))
    pss_nil)
    (@pss_one _ _ _ (@ps_ret _ _ _ _ (pe_and (pe_chain op_le op_le pe_int (pe_callB call_lenS rfl m_len boLen (@pa_cons _ _ _ _ _ (pv 0) pa_nil rfl)) (pe_gi g_LONGEST_NAME rfl)) (pe_one (pe_callB (call_allB rfl) rfl m_all boAll (@pa_cons _ _ _ _ _ (pe_comp (vars := ["sign"]) rfl (CompScope.own rfl (by decide +kernel)) (pi_str (pv 0)) (fun pins cl C fp s H => ⟨pgc 0 (by decide +kernel) rfl rfl, pifs_nil, (pe_cmpR op_inS (pv 0) (pe_gs g_SMALL rfl) (by with_unfolding_all rfl))⟩)) pa_nil rfl))))))), ?_⟩
  refine hold fun G_6 hG_6 => ?_
  obtain ⟨x, t, rfl, ht, q⟩ := h
  refine hG_6 ?_
  cases t with
  | str l =>
    obtain ⟨rfl, hl⟩ := th_str_inv ht
    refine ⟨_, rfl, _, _, rfl, ht, _, rfl, iteF ?_⟩
    refine ⟨_, rfl, r_MARK_WORDS, MK, rfl, .inr (k_MARK_WORDS _), rfl, rfl, _, rfl, ?_⟩
    show if inV (.str (tx l)) MK = true then _ else _
    cases hin : inV (.str (tx l)) MK with
    | true =>
      refine iteT ?_
      have e : isNm (.str l) = false := by show nmOk l = false; unfold nmOk; rw [hin]; rfl
      rw [e] at q
      exact q _ (Same.refl _)
    | false =>
      refine iteF ?_
      refine ⟨_, rfl, l, rfl, smallE (by (first | lia | omega)), _, _, rfl, rfl, _, rfl, ?_⟩
      cases h1 : decide ((1 : Int) ≤ (l.length : Int)) with
      | false =>
        refine iteF ⟨_, rfl, iteF ?_⟩
        have e : isNm (.str l) = false := by
          show nmOk l = false; unfold nmOk
          rw [show decide (1 ≤ l.length) = false from decide_eq_false (by have := of_decide_eq_false h1; (first | lia | omega))]; simp
        rw [e] at q
        exact q _ (Same.refl _)
      | true =>
        refine iteT ⟨_, _, rfl, rfl, _, rfl, ?_⟩
        have e1 : decide (1 ≤ l.length) = true := decide_eq_true (by have := of_decide_eq_true h1; (first | lia | omega))
        cases h2 : decide ((l.length : Int) ≤ 8) with
        | false =>
          refine iteF ?_
          have e : isNm (.str l) = false := by
            show nmOk l = false; unfold nmOk
            rw [show decide (l.length ≤ 8) = false from decide_eq_false (by have := of_decide_eq_false h2; (first | lia | omega))]; simp
          rw [e] at q
          exact q _ (Same.refl _)
        | true =>
          refine iteT ?_
          have e2 : decide (l.length ≤ 8) = true := decide_eq_true (by have := of_decide_eq_true h2; (first | lia | omega))
          refine ⟨_, rfl, l, rfl, ?_⟩
          refine comp_strM (fun c => .bl (decide (c ∈ SML))) (fun H' => H' = H) rfl rfl (by (first | lia | omega)) (fun c H' Qk hc e q' => ?_) fun H' e => ?_
          · subst e
            exact ⟨_, rfl, c, SML, rfl, rfl, q' _ rfl⟩
          · subst e
            intro p hp
            refine ⟨p, l.map fun c => decide (c ∈ SML), rfl, SqL.of ?_, ?_⟩
            · rw [upd_same, List.map_map]; rfl
            · have e : (l.map fun c => decide (c ∈ SML)).all id = isNm (.str l) := by
                show _ = nmOk l
                unfold nmOk; rw [hin, e1, e2, List.all_map]; rfl
              rw [e]
              exact q _ (same_new hp _)
  | tup ts =>
    refine ⟨_, rfl, _, _, rfl, ht, _, rfl, iteT ?_⟩
    exact iteT (q H (Same.refl H))
  | oth =>
    refine ⟨_, rfl, _, _, rfl, ht, _, rfl, iteT ?_⟩
    exact iteT (q H (Same.refl H))
theorem ok_is_form (T : Txt w K mg) {k : Nat}  (G_is_node : Cal P w K mg base CX0 k "is_node" ["thing"] (sp_is_node K)) (G_forms_in : Cal P w K mg base CX0 k "forms_in" ["node"] (sp_forms_in K)) : Cal P w K mg base CX0 (k + 1) "is_form" ["thing"] (sp_is_form K) := by
  refine T.d_is_form.elim fun fa e => e.elim fun fd At => At.cal sc_is_form (fun vs H Q E h => ?_) (fun cdv A outer s H vs Q E hr h => ?_)
  · (first | (obtain ⟨_, rfl, _⟩ := h; rfl) | (obtain ⟨_, _, rfl, _⟩ := h; rfl) | (obtain ⟨_, _, _, rfl, _⟩ := h; rfl) | (obtain ⟨_, _, _, _, rfl, _⟩ := h; rfl) | (obtain ⟨_, _, _, _, _, rfl, _⟩ := h; rfl) | (obtain ⟨_, _, _, _, _, _, rfl, _⟩ := h; rfl) | (obtain ⟨_, _, _, _, _, _, _, rfl, _⟩ := h; rfl) | (obtain ⟨_, _, _, _, _, _, _, _, rfl, _⟩ := h; rfl) | (obtain ⟨_, _, _, _, _, _, _, _, _, rfl, _⟩ := h; rfl) | (obtain ⟨rfl, _⟩ := h; rfl) | exact h.elim)
  have m_isinstance := T.m_isinstance
  have m_len := T.m_len
  have m_tuple := T.m_tuple
  refine ⟨_, (@pss_cons _ _ _ _ _ (@ps_set _ _ 1 _ _ _ _ sc_is_form.nd rfl (Or.inl rfl) (@pe_lst _ _ _ _ (@pa_cons _ _ _ _ _ (pv 0) pa_nil rfl)) rfl (Or.inl rfl))
    (@pss_cons _ _ _ _ _ (ps_while PassesOwn.never (pt_cmpR op_gt (pe_callB call_len_seq rfl m_len boLen (@pa_cons _ _ _ _ _ (pv 1) pa_nil rfl)) pe_int (nomark _))
    (@pss_cons _ _ _ _ _ (@ps_set _ _ 2 _ _ _ _ sc_is_form.nd rfl (Or.inl rfl) (pe_bm0 PySem.F.plainAttrs_list PySem.F.slot_list_pop PySem.F.type_list_pop mt_pop (pv 1)) rfl (Or.inl rfl))
      (@pss_cons _ _ _ _ _ (@ps_if _ _ _ _ _ _ _ _ (pt_not (pt_val (pe_callB call_isTupB rfl m_isinstance boI (@pa_cons _ _ _ _ _ (pv 2) (@pa_cons _ _ _ _ _ (pe_ty m_tuple boTuple rfl) pa_nil star_n) star_n))))
      (@pss_one _ _ _ (@ps_ret _ _ _ _ pe_bl))
      pss_nil)
      (@pss_one _ _ _ (ps_for PassesOwn.never rfl (pi_tup (pv 2)) (pg_name (i := 3) sc_is_form.nd rfl (Or.inl rfl))
      (@pss_cons _ _ _ _ _ (@ps_if _ _ _ _ _ _ _ _ (pt_not (pt_val (pe_cal G_is_node hr (@pa_cons _ _ _ _ _ (pv 3) pa_nil rfl) rfl)))
        (@pss_one _ _ _ (@ps_ret _ _ _ _ pe_bl))
        pss_nil)
        (@pss_one _ _ _ (ps_expr (pe_bm PySem.F.plainAttrs_list PySem.F.slot_list_extend PySem.F.type_list_extend mt_extendT (pv 1) (@pa_cons _ _ _ _ _ (pe_cal G_forms_in hr (@pa_cons _ _ _ _ _ (pv 3) pa_nil rfl) rfl) pa_nil rfl))))))))))
    (@pss_one _ _ _ (@ps_ret _ _ _ _ pe_bl)))), ?_⟩
  refine hold fun G_11 hG_11 => ?_
  obtain ⟨x, t, rfl, ht, hsz, q⟩ := h
  refine hG_11 ?_
  refine ⟨_, rfl, by show 1 ≤ sizeLine; decide, fun pw hpw => ?_⟩
  have s1 := same_new hpw (.lst [x])
  refine ⟨fun m σ H2 => ∃ (ws : List Th) (vs : List V) (o2 o3 : Option V), σ = [some x, some (.ref pw), o2, o3] ∧ Same H H2 ∧ H2 pw = some (.lst vs) ∧ IsThs K H ws vs ∧ isFs ws = isF t ∧ szs ws = m ∧ m ≤ 900000, ⟨szT t, [t], [x], none, none, rfl, s1, upd_same, ths_cons ht ths_nil, by rw [isFs, isFs, Bool.and_true], rfl, hsz⟩, ?_⟩
  rintro m σ H2 ⟨ws, vs, o2, o3, rfl, sH, hl, hw, hb, hm, hm9⟩
  have hwl := hw.len
  have hws := szs_len ws
  refine ⟨_, rfl, pw, _, rfl, .inl (SqL.of hl), _, _, rfl, rfl, _, rfl, ite2 (fun c => ?_) (fun c => ?_)⟩
  · have hpos : 0 < vs.length := by have := of_decide_eq_true c; (first | lia | omega)
    obtain ⟨ws0, f, rfl⟩ : ∃ ws0 f, ws = ws0 ++ [f] := ⟨ws.dropLast, ws.getLast (by intro z; rw [z] at hwl; simp at hwl; (first | lia | omega)), (List.dropLast_concat_getLast _).symm⟩
    refine hold fun G_12 hG_12 => ?_
    obtain ⟨vs0, y, rfl, hw0, hy⟩ := ths_snoc_inv hw
    refine hG_12 ?_
    have hm' : szs ws0 + (szT f + 0) = m := by rw [← hm, szs_app]; rfl
    refine ⟨fun σ' H' => ∃ (ws : List Th) (vs : List V) (o2 o3 : Option V), σ' = [some x, some (.ref pw), o2, o3] ∧ Same H H' ∧ H' pw = some (.lst vs) ∧ IsThs K H ws vs ∧ isFs ws = isF t ∧ szs ws < m, fun σ' H' h => ?_, ?_⟩
    · refine hold fun G_13 hG_13 => ?_
      obtain ⟨ws, vs, o2, o3, e, h1, h2, h3, h4, h5⟩ := h
      refine hG_13 ?_
      exact ⟨szs ws, h5, ws, vs, o2, o3, e, h1, h2, h3, h4, rfl, by (first | lia | omega)⟩
    refine ⟨_, rfl, .inl ⟨rfl, _, SqL.of hl⟩, pw, _, y, rfl, rfl, hl, by simp, ?_⟩
    rw [List.dropLast_concat]
    have sH3 : Same H (upd H2 pw (.lst vs0)) := fun b o hb => by rw [upd_ne (ne_of_none hb hpw)]; exact sH b o hb
    have hl3 : upd H2 pw (.lst vs0) pw = some (.lst vs0) := upd_same
    generalize upd H2 pw (.lst vs0) = H3 at sH3 hl3
    refine ⟨_, rfl, _, f, rfl, hy.same sH3, _, rfl, ?_⟩
    cases f with
    | str l =>
      have e : isF t = false := by rw [← hb, isFs_app, isFs]; simp [isF]
      rw [e] at q
      exact iteT (q _ sH3)
    | oth =>
      have e : isF t = false := by rw [← hb, isFs_app, isFs]; simp [isF]
      rw [e] at q
      exact iteT (q _ sH3)
    | tup xs =>
      refine iteF ?_
      refine hold fun G_14 hG_14 => ?_
      obtain ⟨a, us, rfl, hS, hd⟩ := th_tup_inv hy
      refine hG_14 ?_
      refine ⟨_, rfl, a, rfl, ⟨us, sH3.tup hS⟩, ?_⟩
      have hul := hd.len
      have hszx : szT (.tup xs) = szs xs + 1 := rfl
      refine for_tup (xs := us) (fun i σ H4 => ∃ (ws1 : List Th) (vs1 : List V) (o3 : Option V), σ = [some x, some (.ref pw), some (.ref a), o3] ∧ Same H H4 ∧ H4 pw = some (.lst vs1) ∧ IsThs K H ws1 vs1 ∧ (isFs ws1 && isNs (xs.drop i)) = isF t ∧ szs ws1 + szs (xs.drop i) + 1 ≤ m) ⟨ws0, vs0, o3, rfl, sH3, hl3, hw0, by rw [← hb, isFs_app, isFs, isFs, isF, Bool.and_true]; rfl, by rw [List.drop_zero]; (first | lia | omega)⟩ (fun i σ H4 hi pv => ?_) (fun i z σ H4 hz pv => ?_) (fun σ H4 pv => ?_)
      · refine hold fun G_15 hG_15 => ?_
        obtain ⟨ws1, vs1, o3', rfl, sH4, _⟩ := pv
        refine hG_15 ?_
        exact sH4.tup hS
      · refine hold fun G_16 hG_16 => ?_
        obtain ⟨ws1, vs1, o3', rfl, sH4, hl4, hw4, hb4, hm4⟩ := pv
        refine hG_16 ?_
        refine hold fun G_17 hG_17 => ?_
        obtain ⟨d, hdi, hdz⟩ := hd.atV hz
        refine hG_17 ?_
        have hdrop : xs.drop i = d :: xs.drop (i + 1) := by
          obtain ⟨h1, h2⟩ := List.getElem?_eq_some_iff.mp hdi
          rw [List.drop_eq_getElem_cons h1, h2]
        rw [hdrop, isNs] at hb4
        rw [hdrop] at hm4
        have hm5 : szs (d :: xs.drop (i + 1)) = szT d + szs (xs.drop (i + 1)) := rfl
        refine ⟨_, rfl, z, d, rfl, hdz.same sH4, fun H5 s5 => ⟨_, rfl, ?_⟩⟩
        cases hnd : ndT d with
        | false =>
          have e : isF t = false := by rw [← hb4, ndT_false hnd]; simp
          rw [e] at q
          exact iteT (q _ (sH4.trans s5))
        | true =>
          refine iteF ?_
          refine hold fun G_18 hG_18 => ?_
          obtain ⟨w', x', r, rfl, hn⟩ := ndT_true hnd
          refine hG_18 ?_
          refine hold fun G_19 hG_19 => ?_
          obtain ⟨a2, us2, rfl, hS2, hd2⟩ := th_tup_inv hdz
          refine hG_19 ?_
          refine hold fun G_20 hG_20 => ?_
          obtain ⟨v1, us3, rfl, hv1, hd3⟩ := ths_cons_inv hd2
          refine hG_20 ?_
          refine hold fun G_21 hG_21 => ?_
          obtain ⟨v2, us4, rfl, hv2, hd4⟩ := ths_cons_inv hd3
          refine hG_21 ?_
          have sH5 := sH4.trans s5
          have hl5 := s5 _ _ hl4
          have hsr : szT (.tup (w' :: x' :: r)) = szT w' + (szT x' + szs r) + 1 := rfl
          have h1 := szs_len ws1
          have h2 := szs_len r
          have h3 := hw4.len
          have h4 := hd4.len
          refine ⟨_, rfl, .inl ⟨rfl, _, SqL.of hl5⟩, _, rfl, a2, _, rfl, sH5.tup hS2, by simp, fun pf hpf => ?_⟩
          have s6 := same_new hpf (.tup us4)
          refine ⟨pw, pf, vs1, us4, rfl, rfl, s6 _ _ hl5, SqT.of upd_same, smallE (by (first | lia | omega)), ?_⟩
          refine ⟨ws1 ++ r, vs1 ++ us4, _, rfl, fun b o hb => ?_, upd_same, ths_app hw4 hd4, ?_, ?_⟩
          · rw [upd_ne (ne_of_none hb hpw)]; exact s6 _ _ (sH5 b o hb)
          · rw [isFs_app, ← hb4, hn, Bool.and_assoc]
          · rw [szs_app]; (first | lia | omega)
      · refine hold fun G_22 hG_22 => ?_
        obtain ⟨ws1, vs1, o3', rfl, sH4, hl4, hw4, hb4, hm4⟩ := pv
        refine hG_22 ?_
        rw [← hul, List.drop_length] at hb4 hm4
        rw [isNs, Bool.and_true] at hb4
        exact ⟨ws1, vs1, _, _, rfl, sH4, hl4, hw4, hb4, by have : szs ([] : List Th) = 0 := rfl; (first | lia | omega)⟩
  · have hz : vs.length = 0 := by
      have := of_decide_eq_false (Bool.eq_false_iff.mpr c)
      (first | lia | omega)
    have e0 : ws = [] := List.length_eq_zero_iff.mp (by (first | lia | omega))
    rw [e0, isFs] at hb
    rw [← hb] at q
    exact q _ sH
theorem ok_is_node (T : Txt w K mg) {k : Nat}  (G_is_text : Cal P w K mg base CX0 k "is_text" ["thing"] (sp_is_text K)) (G_is_form_name : Cal P w K mg base CX0 k "is_form_name" ["thing"] (sp_is_form_name K)) : Cal P w K mg base CX0 (k + 1) "is_node" ["thing"] (sp_is_node K) := by
  refine T.d_is_node.elim fun fa e => e.elim fun fd At => At.cal sc_is_node (fun vs H Q E h => ?_) (fun cdv A outer s H vs Q E hr h => ?_)
  · (first | (obtain ⟨_, rfl, _⟩ := h; rfl) | (obtain ⟨_, _, rfl, _⟩ := h; rfl) | (obtain ⟨_, _, _, rfl, _⟩ := h; rfl) | (obtain ⟨_, _, _, _, rfl, _⟩ := h; rfl) | (obtain ⟨_, _, _, _, _, rfl, _⟩ := h; rfl) | (obtain ⟨_, _, _, _, _, _, rfl, _⟩ := h; rfl) | (obtain ⟨_, _, _, _, _, _, _, rfl, _⟩ := h; rfl) | (obtain ⟨_, _, _, _, _, _, _, _, rfl, _⟩ := h; rfl) | (obtain ⟨_, _, _, _, _, _, _, _, _, rfl, _⟩ := h; rfl) | (obtain ⟨rfl, _⟩ := h; rfl) | exact h.elim)
  have m_isinstance := T.m_isinstance
  have m_len := T.m_len
  have m_str := T.m_str
  have m_tuple := T.m_tuple
  obtain ⟨r_NODE_LENGTHS, g_NODE_LENGTHS, k_NODE_LENGTHS⟩ := T.g_NODE_LENGTHS
  refine ⟨_, (@pss_cons _ _ _ _ _ (@ps_if _ _ _ _ _ _ _ _ (PW.pt (pw_or (pt_not (pt_val (pe_callB call_isTupB rfl m_isinstance boI (@pa_cons _ _ _ _ _ (pv 0) (@pa_cons _ _ _ _ _ (pe_ty m_tuple boTuple rfl) pa_nil star_n) star_n)))) (pw_or (pt_cmpR op_eq (pe_callB call_len_seq rfl m_len boLen (@pa_cons _ _ _ _ _ (pv 0) pa_nil rfl)) pe_int (nomark _)) (pw_or1 (pt_not (pt_val (pe_callB call_isStrB rfl m_isinstance boI (@pa_cons _ _ _ _ _ (@pe_ix _ _ _ _ _ _ _ ix_tup (pv 0) pe_int (fun _ _ => rfl)) (@pa_cons _ _ _ _ _ (pe_ty m_str boStr rfl) pa_nil star_n) star_s))))))))
    (@pss_one _ _ _ (@ps_ret _ _ _ _ pe_bl))
    pss_nil)
    (@pss_cons _ _ _ _ _ (@ps_if _ _ _ _ _ _ _ _ (pt_cmpR op_ne (pe_kget1 (w := w) (K := K) rfl rfl (pe_gr g_NODE_LENGTHS rfl) (@pe_ix _ _ _ _ _ _ _ ix_tup (pv 0) pe_int (fun _ _ => rfl))) (pe_callB call_len_seq rfl m_len boLen (@pa_cons _ _ _ _ _ (pv 0) pa_nil rfl)) (nomark _))
    (@pss_one _ _ _ (@ps_ret _ _ _ _ pe_bl))
    pss_nil)
    (@pss_one _ _ _ (@ps_ret _ _ _ _ (pe_ifExp (pt_cmpR op_eq (@pe_ix _ _ _ _ _ _ _ ix_tup (pv 0) pe_int (fun _ _ => rfl)) (@pe_tx _ _ [116, 101, 120, 116] _ _ (by decide +kernel)) (nomark _)) (pe_cal G_is_text hr (@pa_cons _ _ _ _ _ (@pe_ix _ _ _ _ _ _ _ ix_tup (pv 0) pe_int (fun _ _ => rfl)) pa_nil rfl) rfl) (pe_cal G_is_form_name hr (@pa_cons _ _ _ _ _ (@pe_ix _ _ _ _ _ _ _ ix_tup (pv 0) pe_int (fun _ _ => rfl)) pa_nil rfl) rfl)))))), ?_⟩
  refine hold fun G_7 hG_7 => ?_
  obtain ⟨x, t, rfl, ht, q⟩ := h
  refine hG_7 ?_
  cases t with
  | str l =>
    refine ⟨_, rfl, _, _, rfl, ht, _, rfl, iteT ?_⟩
    exact iteT (q H (Same.refl H))
  | oth =>
    refine ⟨_, rfl, _, _, rfl, ht, _, rfl, iteT ?_⟩
    exact iteT (q H (Same.refl H))
  | tup ts =>
    refine hold fun G_8 hG_8 => ?_
    obtain ⟨a, us, rfl, hS, hd⟩ := th_tup_inv ht
    refine hG_8 ?_
    refine ⟨_, rfl, _, _, rfl, ht, _, rfl, iteF ?_⟩
    refine ⟨_, rfl, a, us, rfl, .inr hS, rfl, _, rfl, ?_⟩
    have hlen := hd.len
    cases ts with
    | nil =>
      cases ths_nil_inv hd
      exact iteT (iteT (q H (Same.refl H)))
    | cons w r0 =>
    refine hold fun G_9 hG_9 => ?_
    obtain ⟨v1, us1, rfl, hw, hd1⟩ := ths_cons_inv hd
    refine hG_9 ?_
    refine ite2 (fun c => absurd c (by simp only [List.length_cons, decide_eq_true_eq, V.int.injEq]; (first | lia | omega))) (fun _ => ?_)
    refine ⟨_, rfl, a, _, 0, _, rfl, rfl, hS, atI_nat (j := 0) rfl, _, w, rfl, hw, _, rfl, ?_⟩
    cases w with
    | tup ts' => exact iteT (q H (Same.refl H))
    | oth => exact iteT (q H (Same.refl H))
    | str w' =>
      obtain ⟨rfl, hwl⟩ := th_str_inv hw
      refine iteF ?_
      refine ⟨r_NODE_LENGTHS, _, rfl, k_NODE_LENGTHS, _, rfl, a, _, 0, _, rfl, rfl, hS, atI_nat (j := 0) rfl, w', rfl, _, rfl, a, _, rfl, .inr hS, lenW_scal w' _, _, rfl, ?_⟩
      have h1 := hd1.len
      have hul : (((V.str (tx w') :: us1).length : Nat) : Int) = ((r0.length + 1 : Nat) : Int) := by rw [List.length_cons, h1]
      rw [hul]
      show if (!decide (lenW w' = .int ((r0.length + 1 : Nat) : Int))) = true then _ else _
      cases hdec : decide (lenW w' = .int ((r0.length + 1 : Nat) : Int)) with
      | false =>
        refine iteT ?_
        have e : ndT (.tup (.str w' :: r0)) = false := by
          cases r0 with
          | nil => rfl
          | cons y r =>
            show (decide (lenW w' = .int ((r.length + 2 : Nat) : Int)) && _) = false
            rw [show r.length + 2 = (y :: r).length + 1 from rfl, hdec]; rfl
        rw [e] at q
        exact q H (Same.refl H)
      | true =>
        refine iteF ?_
        cases r0 with
        | nil => exact absurd (of_decide_eq_true hdec) (lenW_one w')
        | cons y r =>
          refine hold fun G_10 hG_10 => ?_
          obtain ⟨v2, us2, rfl, hy, hd2⟩ := ths_cons_inv hd1
          refine hG_10 ?_
          have e : ndT (.tup (.str w' :: y :: r)) = (if w' = wText then isTx y else isNm y) := by
            show (decide (lenW w' = .int ((r.length + 2 : Nat) : Int)) && _) = _
            rw [show r.length + 2 = (y :: r).length + 1 from rfl, hdec]; rfl
          rw [e] at q
          refine ⟨_, rfl, a, _, 0, _, rfl, rfl, hS, atI_nat (j := 0) rfl, rfl, _, rfl, ?_⟩
          by_cases ew : w' = wText
          · rw [if_pos ew] at q
            rw [decide_eq_true (show V.str (tx w') = V.str (tx [116, 101, 120, 116]) by rw [ew]; rfl)]
            exact iteT ⟨_, rfl, a, _, 1, _, rfl, rfl, hS, atI_nat (j := 1) rfl, v2, y, rfl, hy, q⟩
          · rw [if_neg ew] at q
            rw [decide_eq_false (show ¬ V.str (tx w') = V.str (tx [116, 101, 120, 116]) from fun z => ew (V.str_inj.mp z))]
            exact iteF ⟨_, rfl, a, _, 1, _, rfl, rfl, hS, atI_nat (j := 1) rfl, v2, y, rfl, hy, q⟩
theorem ok_forms_in (T : Txt w K mg) {k : Nat}   : Cal P w K mg base CX0 (k + 1) "forms_in" ["node"] (sp_forms_in K) := by
  refine T.d_forms_in.elim fun fa e => e.elim fun fd At => At.cal sc_forms_in (fun vs H Q E h => ?_) (fun cdv A outer s H vs Q E hr h => ?_)
  · (first | (obtain ⟨_, rfl, _⟩ := h; rfl) | (obtain ⟨_, _, rfl, _⟩ := h; rfl) | (obtain ⟨_, _, _, rfl, _⟩ := h; rfl) | (obtain ⟨_, _, _, _, rfl, _⟩ := h; rfl) | (obtain ⟨_, _, _, _, _, rfl, _⟩ := h; rfl) | (obtain ⟨_, _, _, _, _, _, rfl, _⟩ := h; rfl) | (obtain ⟨_, _, _, _, _, _, _, rfl, _⟩ := h; rfl) | (obtain ⟨_, _, _, _, _, _, _, _, rfl, _⟩ := h; rfl) | (obtain ⟨_, _, _, _, _, _, _, _, _, rfl, _⟩ := h; rfl) | (obtain ⟨rfl, _⟩ := h; rfl) | exact h.elim)
  refine ⟨_, (@pss_one _ _ _ (@ps_ret _ _ _ _ (pe_slice sl_tupA (pv 0) (po_some pe_int) po_none))), ?_⟩
  refine hold fun G_46 hG_46 => ?_
  obtain ⟨a, xs, rfl, hx, h2, q⟩ := h
  refine hG_46 ?_
  have e2 : HT.sIx xs.length 0 (some 2) = 2 := by show min (2 : Int).toNat xs.length = 2; (first | lia | omega)
  refine ⟨_, rfl, _, rfl, a, xs, rfl, hx, fun z => ?_, fun _ p hp => ?_⟩
  · rw [e2] at z; exact absurd z.1 (by decide)
  · have e : cutV xs (some 2) none = xs.drop 2 := by
      unfold cutV
      rw [e2]
      exact List.take_of_length_le (by rw [List.length_drop]; show xs.length - 2 ≤ xs.length - 2; (first | lia | omega))
    rw [e]
    exact q p hp
theorem ok_Joining___init__ (T : Txt w K mg) {k : Nat} {C_Joining : Addr} (J_Joining : Txt_Joining K mg C_Joining)  : KCal P w K mg base CX0 (k + 2) C_Joining "Joining" ["self"] (sp_Joining___init__ K C_Joining) := by
  refine J_Joining.d___init__.elim fun fa e => e.elim fun fd At => At.kcal J_Joining.m sc_Joining___init__ (fun vs H Q E h => ?_) (fun cdv A outer s H vs Q E hr h => ?_)
  · (first | (obtain ⟨_, rfl, _⟩ := h; rfl) | (obtain ⟨_, _, rfl, _⟩ := h; rfl) | (obtain ⟨_, _, _, rfl, _⟩ := h; rfl) | (obtain ⟨_, _, _, _, rfl, _⟩ := h; rfl) | (obtain ⟨_, _, _, _, _, rfl, _⟩ := h; rfl) | (obtain ⟨_, _, _, _, _, _, rfl, _⟩ := h; rfl) | (obtain ⟨_, _, _, _, _, _, _, rfl, _⟩ := h; rfl) | (obtain ⟨_, _, _, _, _, _, _, _, rfl, _⟩ := h; rfl) | (obtain ⟨_, _, _, _, _, _, _, _, _, rfl, _⟩ := h; rfl) | (obtain ⟨rfl, _⟩ := h; rfl) | exact h.elim)
  refine ⟨_, (@pss_cons _ _ _ _ _ (ps_fld (pv 0) (@pe_lst _ _ _ _ pa_nil) rfl)
    (@pss_one _ _ _ (ps_fld (pv 0) (@pe_lst _ _ _ _ pa_nil) rfl))), ?_⟩
  refine hold fun G_47 hG_47 => ?_
  obtain ⟨a, dx, rfl, ha, q⟩ := h
  refine hG_47 ?_
  refine ⟨by show 0 ≤ sizeLine; decide, fun pn hpn => ?_⟩
  have na : a ≠ pn := ne_of_none ha hpn
  refine ⟨_, rfl, a, _, dx, [], rfl, by rw [upd_ne na]; exact ha, J_Joining.cl, J_Joining.n_nodes, by decide, ?_⟩
  refine ⟨by show 0 ≤ sizeLine; decide, fun pt hpt => ?_⟩
  have e1 : upd (upd H pn (.lst [])) a (.ins C_Joining dx (putF "nodes" (.ref pn) [])) a = some (.ins C_Joining dx [("nodes", .ref pn)]) := upd_same
  have e2 : upd (upd H pn (.lst [])) a (.ins C_Joining dx (putF "nodes" (.ref pn) [])) pn = some (.lst []) := by rw [upd_ne (Ne.symm na), upd_same]
  have sB : SameB a H (upd (upd H pn (.lst [])) a (.ins C_Joining dx (putF "nodes" (.ref pn) []))) := fun b o nb hb => by rw [upd_ne nb, upd_ne (ne_of_none hb hpn)]; exact hb
  generalize upd (upd H pn (.lst [])) a (.ins C_Joining dx (putF "nodes" (.ref pn) [])) = H2 at e1 e2 sB hpt
  have nt : a ≠ pt := ne_of_none e1 hpt
  have nn : pn ≠ pt := ne_of_none e2 hpt
  refine ⟨_, rfl, a, _, dx, _, rfl, by rw [upd_ne nt]; exact e1, J_Joining.cl, J_Joining.n_texts, by show 1 < 1000; decide, ?_⟩
  rw [fl_mk]
  refine q _ pn pt ⟨upd_same, by rw [upd_ne (Ne.symm na), upd_ne nn]; exact e2, by rw [upd_ne (Ne.symm nt), upd_same]; rfl, nn⟩ (fun b o nb hb => ?_) hpn ?_
  · rw [upd_ne nb, upd_ne (ne_of_none (sB b o nb hb) hpt)]; exact sB b o nb hb
  · cases hh : H pt with
    | none => rfl
    | some o => exact absurd (sB pt o (Ne.symm nt) hh) (by rw [hpt]; intro z; cases z)
theorem ok_Joining_put_text (T : Txt w K mg) {k : Nat} {C_Joining : Addr} (J_Joining : Txt_Joining K mg C_Joining)  : MCal P w K mg base CX0 (k + 1) C_Joining "put_text" ["self", "text"] (sp_Joining_put_text K C_Joining) := by
  refine J_Joining.d_put_text.elim fun fa e => e.elim fun fd At => At.mcal sc_Joining_put_text (fun vs H Q E h => ?_) (fun cdv A outer s H vs Q E hr h => ?_)
  · (first | (obtain ⟨_, rfl, _⟩ := h; rfl) | (obtain ⟨_, _, rfl, _⟩ := h; rfl) | (obtain ⟨_, _, _, rfl, _⟩ := h; rfl) | (obtain ⟨_, _, _, _, rfl, _⟩ := h; rfl) | (obtain ⟨_, _, _, _, _, rfl, _⟩ := h; rfl) | (obtain ⟨_, _, _, _, _, _, rfl, _⟩ := h; rfl) | (obtain ⟨_, _, _, _, _, _, _, rfl, _⟩ := h; rfl) | (obtain ⟨_, _, _, _, _, _, _, _, rfl, _⟩ := h; rfl) | (obtain ⟨_, _, _, _, _, _, _, _, _, rfl, _⟩ := h; rfl) | (obtain ⟨rfl, _⟩ := h; rfl) | exact h.elim)
  refine ⟨_, (@pss_one _ _ _ (ps_expr (pe_bm PySem.F.plainAttrs_list PySem.F.slot_list_append PySem.F.type_list_append mt_append (pe_fld (pv 0) rfl) (@pa_cons _ _ _ _ _ (pv 1) pa_nil rfl)))), ?_⟩
  refine hold fun G_48 hG_48 => ?_
  obtain ⟨a, dx, pn, pt, ns, ls, l, rfl, J, hl, q⟩ := h
  refine hG_48 ?_
  refine ⟨_, rfl, a, _, dx, _, _, rfl, J.ob, J_Joining.cl, J_Joining.n_texts, fl_texts _ _, .inl ⟨rfl, _, SqL.of J.tx⟩, _, rfl, pt, _, _, rfl, rfl, J.tx, smallG (by unfold txs; rw [List.length_map]; (first | lia | omega)), ?_⟩
  have e : txs ls ++ [.str (tx l)] = txs (ls ++ [l]) := by unfold txs; rw [List.map_append]; rfl
  rw [e]
  exact q
theorem ok_Joining_put_node (T : Txt w K mg) {k : Nat} {C_Joining : Addr} (J_Joining : Txt_Joining K mg C_Joining) (G_Joining_so_far : MCal P w K mg base CX0 k C_Joining "so_far" ["self"] (sp_Joining_so_far K C_Joining)) : MCal P w K mg base CX0 (k + 1) C_Joining "put_node" ["self", "node"] (sp_Joining_put_node K C_Joining) := by
  refine J_Joining.d_put_node.elim fun fa e => e.elim fun fd At => At.mcal sc_Joining_put_node (fun vs H Q E h => ?_) (fun cdv A outer s H vs Q E hr h => ?_)
  · (first | (obtain ⟨_, rfl, _⟩ := h; rfl) | (obtain ⟨_, _, rfl, _⟩ := h; rfl) | (obtain ⟨_, _, _, rfl, _⟩ := h; rfl) | (obtain ⟨_, _, _, _, rfl, _⟩ := h; rfl) | (obtain ⟨_, _, _, _, _, rfl, _⟩ := h; rfl) | (obtain ⟨_, _, _, _, _, _, rfl, _⟩ := h; rfl) | (obtain ⟨_, _, _, _, _, _, _, rfl, _⟩ := h; rfl) | (obtain ⟨_, _, _, _, _, _, _, _, rfl, _⟩ := h; rfl) | (obtain ⟨_, _, _, _, _, _, _, _, _, rfl, _⟩ := h; rfl) | (obtain ⟨rfl, _⟩ := h; rfl) | exact h.elim)
  refine ⟨_, (@pss_cons _ _ _ _ _ (ps_fld (pv 0) (pe_mth0 J_Joining.cl G_Joining_so_far hr (pv 0)) rfl)
    (@pss_cons _ _ _ _ _ (ps_expr (pe_bm PySem.F.plainAttrs_list PySem.F.slot_list_append PySem.F.type_list_append mt_append (pe_fld (pv 0) rfl) (@pa_cons _ _ _ _ _ (pv 1) pa_nil rfl)))
    (@pss_one _ _ _ (ps_fld (pv 0) (@pe_lst _ _ _ _ pa_nil) rfl)))), ?_⟩
  refine hold fun G_50 hG_50 => ?_
  obtain ⟨a, dx, pn, pt, ns, ls, v, rfl, J, hn, hl, q⟩ := h
  refine hG_50 ?_
  refine ⟨_, rfl, a, dx, _, rfl, J.ob, fl_no _ _ (by decide +kernel) (by decide +kernel), a, dx, pn, pt, ns, ls, rfl, J, hn, hl, fun H1 p1 us s1 hp1 hp1' hus => ?_⟩
  have J1 := J.same s1
  refine ⟨_, rfl, a, _, dx, _, rfl, J1.ob, J_Joining.cl, J_Joining.n_nodes, by show 2 < 1000; decide, ?_⟩
  rw [fl_n]
  have n1 : a ≠ p1 := ne_of_none J.ob hp1
  have e2 : upd H1 a (.ins C_Joining dx (fl p1 pt)) a = some (.ins C_Joining dx (fl p1 pt)) := upd_same
  have e2p : upd H1 a (.ins C_Joining dx (fl p1 pt)) p1 = some (.lst (ns ++ us)) := by rw [upd_ne (Ne.symm n1)]; exact hp1'
  have sB : SameB a H (upd H1 a (.ins C_Joining dx (fl p1 pt))) := fun b o nb hb => by rw [upd_ne nb]; exact s1 b o hb
  have sT2 : SameT H1 (upd H1 a (.ins C_Joining dx (fl p1 pt))) := SameBi SameB.upd J1.ob
  have hus2 := hus.same sT2.to
  generalize upd H1 a (.ins C_Joining dx (fl p1 pt)) = H2 at e2 e2p sB sT2 hus2
  have hlu : us.length ≤ 1 := by
    rw [← hus.len]; unfold jt; split <;> simp
  refine ⟨_, rfl, a, _, dx, _, _, rfl, e2, J_Joining.cl, J_Joining.n_nodes, fl_nodes _ _, .inl ⟨rfl, _, SqL.of e2p⟩, _, rfl, p1, _, _, rfl, rfl, e2p, smallG (by rw [List.length_append]; (first | lia | omega)), ?_⟩
  have e3 : upd H2 p1 (.lst (ns ++ us ++ [v])) a = some (.ins C_Joining dx (fl p1 pt)) := by rw [upd_ne n1]; exact e2
  have e3p : upd H2 p1 (.lst (ns ++ us ++ [v])) p1 = some (.lst (ns ++ us ++ [v])) := upd_same
  have sB3 : SameB a H (upd H2 p1 (.lst (ns ++ us ++ [v]))) := fun b o nb hb => by rw [upd_ne (ne_of_none hb hp1)]; exact sB b o nb hb
  have hus3 := hus2.same (SameT.put e2p (o := .lst (ns ++ us ++ [v]))).to
  generalize upd H2 p1 (.lst (ns ++ us ++ [v])) = H3 at e3 e3p sB3 hus3
  refine ⟨by show 0 ≤ sizeLine; decide, fun p4 hp4 => ?_⟩
  have s4 := same_new hp4 (.lst [])
  have n4 : a ≠ p4 := ne_of_none e3 hp4
  have n14 : p1 ≠ p4 := ne_of_none e3p hp4
  refine ⟨_, rfl, a, _, dx, _, rfl, s4 _ _ e3, J_Joining.cl, J_Joining.n_texts, by show 2 < 1000; decide, ?_⟩
  rw [fl_t]
  refine q _ p1 p4 us (fun b o nb hb => ?_) hp1 ?_ ⟨upd_same, by rw [upd_ne (Ne.symm n1)]; exact s4 _ _ e3p, by rw [upd_ne (Ne.symm n4), upd_same]; rfl, n14⟩ ?_
  · rw [upd_ne nb]; exact s4 _ _ (sB3 b o nb hb)
  · cases hh : H p4 with
    | none => rfl
    | some o => exact absurd (sB3 p4 o (Ne.symm n4) hh) (by rw [hp4]; intro z; cases z)
  · exact (hus3.same s4.t.to).same (SameBi SameB.upd (s4 _ _ e3)).to
theorem ok_Opened___init__ (T : Txt w K mg) {k : Nat} {C_Joining : Addr} (J_Joining : Txt_Joining K mg C_Joining) {C_Opened : Addr} (J_Opened : Txt_Opened K mg C_Opened) (G_Joining___init__ : KCal P w K mg base CX0 k C_Joining "Joining" ["self"] (sp_Joining___init__ K C_Joining)) : KCal P w K mg base CX0 (k + 2) C_Opened "Opened" ["self", "kind", "name"] (sp_Opened___init__ K C_Opened) := by
  refine J_Opened.d___init__.elim fun fa e => e.elim fun fd At => At.kcal J_Opened.m sc_Opened___init__ (fun vs H Q E h => ?_) (fun cdv A outer s H vs Q E hr h => ?_)
  · (first | (obtain ⟨_, rfl, _⟩ := h; rfl) | (obtain ⟨_, _, rfl, _⟩ := h; rfl) | (obtain ⟨_, _, _, rfl, _⟩ := h; rfl) | (obtain ⟨_, _, _, _, rfl, _⟩ := h; rfl) | (obtain ⟨_, _, _, _, _, rfl, _⟩ := h; rfl) | (obtain ⟨_, _, _, _, _, _, rfl, _⟩ := h; rfl) | (obtain ⟨_, _, _, _, _, _, _, rfl, _⟩ := h; rfl) | (obtain ⟨_, _, _, _, _, _, _, _, rfl, _⟩ := h; rfl) | (obtain ⟨_, _, _, _, _, _, _, _, _, rfl, _⟩ := h; rfl) | (obtain ⟨rfl, _⟩ := h; rfl) | exact h.elim)
  refine ⟨_, (@pss_cons _ _ _ _ _ (ps_fld (pv 0) (pv 1) rfl)
    (@pss_cons _ _ _ _ _ (ps_fld (pv 0) (pv 2) rfl)
    (@pss_cons _ _ _ _ _ (ps_fld (pv 0) (@pe_lst _ _ _ _ pa_nil) rfl)
    (@pss_one _ _ _ (ps_fld (pv 0) (pe_mk0 G_Joining___init__ hr rfl) rfl))))), ?_⟩
  refine hold fun G_92 hG_92 => ?_
  obtain ⟨a, dx, CJ, kd, nm, rfl, hCJ, ha, q⟩ := h
  refine hG_92 ?_
  cases hCJ.one J_Joining.a
  refine ⟨_, rfl, _, rfl, a, _, dx, [], rfl, ha, J_Opened.cl, J_Opened.n_kind, by decide, ?_⟩
  refine ⟨_, rfl, _, rfl, a, _, dx, _, rfl, upd_same, J_Opened.cl, J_Opened.n_name, by show 1 < 1000; decide, ?_⟩
  have e2 : upd (upd H a (.ins C_Opened dx (putF "kind" (.str (tx kd)) []))) a (.ins C_Opened dx (putF "name" (.str (tx nm)) (putF "kind" (.str (tx kd)) []))) a = some (.ins C_Opened dx (putF "name" (.str (tx nm)) (putF "kind" (.str (tx kd)) []))) := upd_same
  have sB2 : SameB a H (upd (upd H a (.ins C_Opened dx (putF "kind" (.str (tx kd)) []))) a (.ins C_Opened dx (putF "name" (.str (tx nm)) (putF "kind" (.str (tx kd)) [])))) := fun b o nb hb => by rw [upd_ne nb, upd_ne nb]; exact hb
  generalize upd (upd H a (.ins C_Opened dx (putF "kind" (.str (tx kd)) []))) a (.ins C_Opened dx (putF "name" (.str (tx nm)) (putF "kind" (.str (tx kd)) []))) = H2 at e2 sB2
  refine ⟨by show 0 ≤ sizeLine; decide, fun pf hpf => ?_⟩
  have nf : a ≠ pf := ne_of_none e2 hpf
  refine ⟨_, rfl, a, _, dx, _, rfl, by rw [upd_ne nf]; exact e2, J_Opened.cl, J_Opened.n_forms, by show 2 < 1000; decide, ?_⟩
  have hpfH : H pf = none := SameBfree sB2 (Ne.symm nf) hpf
  have e3 : upd (upd H2 pf (.lst [])) a (.ins C_Opened dx (putF "forms" (.ref pf) (putF "name" (.str (tx nm)) (putF "kind" (.str (tx kd)) [])))) a = some (.ins C_Opened dx (putF "forms" (.ref pf) (putF "name" (.str (tx nm)) (putF "kind" (.str (tx kd)) [])))) := upd_same
  have e3f : upd (upd H2 pf (.lst [])) a (.ins C_Opened dx (putF "forms" (.ref pf) (putF "name" (.str (tx nm)) (putF "kind" (.str (tx kd)) [])))) pf = some (.lst []) := by rw [upd_ne (Ne.symm nf), upd_same]
  have sB3 : SameB a H (upd (upd H2 pf (.lst [])) a (.ins C_Opened dx (putF "forms" (.ref pf) (putF "name" (.str (tx nm)) (putF "kind" (.str (tx kd)) []))))) := fun b o nb hb => by rw [upd_ne nb, upd_ne (ne_of_none hb hpfH)]; exact sB2 b o nb hb
  generalize upd (upd H2 pf (.lst [])) a (.ins C_Opened dx (putF "forms" (.ref pf) (putF "name" (.str (tx nm)) (putF "kind" (.str (tx kd)) [])))) = H3 at e3 e3f sB3
  intro pj dj hpj hdj hne
  refine ⟨pj, dj, rfl, upd_same, fun H5 pn pt J5 sB5 hpn hpt => ⟨rfl, ?_⟩⟩
  have s34 : Same H3 (upd (upd H3 dj (.own pj)) pj (.ins C_Joining dj [])) := fun b o hb => by rw [upd_ne (ne_of_none hb hpj), upd_ne (ne_of_none hb hdj)]; exact hb
  have s35 : Same H3 H5 := fun b o hb => sB5 b o (ne_of_none hb hpj) (s34 b o hb)
  have e5 := s35 _ _ e3
  have e5f := s35 _ _ e3f
  refine ⟨_, rfl, a, _, dx, _, rfl, e5, J_Opened.cl, J_Opened.n_joining, by show 3 < 1000; decide, ?_⟩
  rw [flO_mk]
  have nj : pj ≠ a := Ne.symm (ne_of_none e3 hpj)
  have nn : pn ≠ a := Ne.symm (ne_of_none (s34 _ _ e3) hpn)
  have nt : pt ≠ a := Ne.symm (ne_of_none (s34 _ _ e3) hpt)
  refine q _ [a, pf, pj, pn, pt] ⟨dx, pf, pj, dj, pn, pt, [], [], [], rfl, upd_same, by rw [upd_ne (Ne.symm nf)]; exact e5f, dts_nil, ⟨by rw [upd_ne nj]; exact J5.ob, by rw [upd_ne nn]; exact J5.nd, by rw [upd_ne nt]; exact J5.tx, J5.ne⟩, dts_nil, rfl, ne_of_none (s34 _ _ e3f) hpn, ne_of_none (s34 _ _ e3f) hpt, Nat.le_refl _, Nat.le_refl _, Nat.le_refl _, Nat.le_refl _⟩ (fun b o nb hb => by rw [upd_ne nb]; exact s35 _ _ (sB3 b o nb hb)) (fun b hb => ?_)
  simp only [List.mem_cons, List.mem_nil_iff, or_false] at hb
  rcases hb with rfl | rfl | rfl | rfl | rfl
  · exact .inl rfl
  · exact .inr hpfH
  · exact .inr (SameBfree sB3 nj hpj)
  · exact .inr (SameBfree sB3 nn (s34.free hpn))
  · exact .inr (SameBfree sB3 nt (s34.free hpt))
theorem ok_Opened_end_form (T : Txt w K mg) {k : Nat} {C_Joining : Addr} (J_Joining : Txt_Joining K mg C_Joining) {C_Opened : Addr} (J_Opened : Txt_Opened K mg C_Opened) (G_Joining___init__ : KCal P w K mg base CX0 k C_Joining "Joining" ["self"] (sp_Joining___init__ K C_Joining)) (G_Joining_so_far : MCal P w K mg base CX0 k C_Joining "so_far" ["self"] (sp_Joining_so_far K C_Joining)) : MCal P w K mg base CX0 (k + 1) C_Opened "end_form" ["self"] (sp_Opened_end_form K C_Opened) := by
  refine J_Opened.d_end_form.elim fun fa e => e.elim fun fd At => At.mcal sc_Opened_end_form (fun vs H Q E h => ?_) (fun cdv A outer s H vs Q E hr h => ?_)
  · (first | (obtain ⟨_, rfl, _⟩ := h; rfl) | (obtain ⟨_, _, rfl, _⟩ := h; rfl) | (obtain ⟨_, _, _, rfl, _⟩ := h; rfl) | (obtain ⟨_, _, _, _, rfl, _⟩ := h; rfl) | (obtain ⟨_, _, _, _, _, rfl, _⟩ := h; rfl) | (obtain ⟨_, _, _, _, _, _, rfl, _⟩ := h; rfl) | (obtain ⟨_, _, _, _, _, _, _, rfl, _⟩ := h; rfl) | (obtain ⟨_, _, _, _, _, _, _, _, rfl, _⟩ := h; rfl) | (obtain ⟨_, _, _, _, _, _, _, _, _, rfl, _⟩ := h; rfl) | (obtain ⟨rfl, _⟩ := h; rfl) | exact h.elim)
  have m_tuple := T.m_tuple
  refine ⟨_, (@pss_cons _ _ _ _ _ (ps_expr (pe_bm PySem.F.plainAttrs_list PySem.F.slot_list_append PySem.F.type_list_append mt_append (pe_fld (pv 0) rfl) (@pa_cons _ _ _ _ _ (pe_callTy call_tuple_of rfl m_tuple boTuple (@pa_cons _ _ _ _ _ (pe_mth0 J_Joining.cl G_Joining_so_far hr (pe_fld (pv 0) rfl)) pa_nil rfl)) pa_nil rfl)))
    (@pss_one _ _ _ (ps_fld (pv 0) (pe_mk0 G_Joining___init__ hr rfl) rfl))), ?_⟩
  refine hold fun G_93 hG_93 => ?_
  obtain ⟨a, CJ, fp, M, f, rfl, hCJ, O, hM, q⟩ := h
  refine hG_93 ?_
  cases hCJ.one J_Joining.a
  refine hold fun G_94 hG_94 => ?_
  obtain ⟨dx, pf, pj, dj, pn, pt, fvs, vs, ls, rfl, h1, h2, h3, J, h4, h5, h6, h7, b1, b2, b3, b4⟩ := O.ex
  refine hG_94 ?_
  have hlv : vs.length = f.ns.length := h4.len.symm
  have hlf : fvs.length = f.fs.length := by rw [← h3.len, List.length_map]
  refine ⟨_, rfl, a, _, dx, _, _, rfl, h1, J_Opened.cl, J_Opened.n_forms, flO_forms _ _ _ _, .inl ⟨rfl, _, SqL.of h2⟩, ?_⟩
  refine ⟨_, rfl, a, _, dx, _, _, rfl, h1, J_Opened.cl, J_Opened.n_joining, flO_joining _ _ _ _, pj, dj, _, rfl, J.ob, fl_no _ _ (by decide +kernel) (by decide +kernel), ?_⟩
  refine ⟨pj, dj, pn, pt, vs, ls, rfl, J, by (first | lia | omega), by rw [h5]; (first | lia | omega), fun H1 p1 us s1 hp1 hp1' hus => ?_⟩
  rw [h5] at hus
  refine ⟨p1, _, rfl, .inl ⟨SqL.of hp1', fun pz hpz => ?_⟩⟩
  have s2 := same_new hpz (.tup (vs ++ us))
  have s12 := s1.trans s2
  have ez : upd H1 pz (.tup (vs ++ us)) pz = some (.tup (vs ++ us)) := upd_same
  generalize upd H1 pz (.tup (vs ++ us)) = H2 at s2 s12 ez
  have hz : IsDt K (TuO H2) (.tup (f.ns ++ jt f.ts)) (.ref pz) := dt_tup (SqT.of (TuO_tup ez)) (dts_app (h4.same s12.t.to) (hus.same s2.t.to))
  refine ⟨pf, _, _, rfl, rfl, s12 _ _ h2, smallG (by (first | lia | omega)), ?_⟩
  have naf : a ≠ pf := ne_of h1 h2 (by intro z; cases z)
  have e3 : upd H2 pf (.lst (fvs ++ [.ref pz])) a = some (.ins C_Opened dx (flO f.kind f.name pf pj)) := by rw [upd_ne naf]; exact s12 _ _ h1
  have e3f : upd H2 pf (.lst (fvs ++ [.ref pz])) pf = some (.lst (fvs ++ [.ref pz])) := upd_same
  have sT3 : SameT H2 (upd H2 pf (.lst (fvs ++ [.ref pz]))) := SameT.put (s12 _ _ h2)
  have sX3 : SameX [a, pf, pj, pn, pt] H (upd H2 pf (.lst (fvs ++ [.ref pz]))) := fun b o nb hb => by
    rw [upd_ne (fun z => nb (by rw [z]; simp))]; exact s12 b o hb
  have hfs3 : IsDts K (TuO (upd H2 pf (.lst (fvs ++ [.ref pz])))) (f.endF.fs.map Dt.tup) (fvs ++ [.ref pz]) := by
    show IsDts K _ ((f.fs ++ [f.ns ++ jt f.ts]).map Dt.tup) _
    rw [List.map_append]
    exact dts_app (h3.same (s12.t.trans sT3).to) (dts_cons (hz.same sT3.to) dts_nil)
  have fr3 : ∀ b, upd H2 pf (.lst (fvs ++ [.ref pz])) b = none → H b = none := fun b hb => by
    have nb : b ≠ pf := fun z => by rw [z, e3f] at hb; cases hb
    rw [upd_ne nb] at hb
    exact s12.free hb
  generalize upd H2 pf (.lst (fvs ++ [.ref pz])) = H3 at e3 e3f sT3 sX3 hfs3 fr3
  intro pj2 dj2 hpj hdj hne
  refine ⟨pj2, dj2, rfl, upd_same, fun H5 pn2 pt2 J5 sB5 hpn hpt => ⟨rfl, ?_⟩⟩
  have s34 : Same H3 (upd (upd H3 dj2 (.own pj2)) pj2 (.ins C_Joining dj2 [])) := fun b o hb => by rw [upd_ne (ne_of_none hb hpj), upd_ne (ne_of_none hb hdj)]; exact hb
  have s35 : Same H3 H5 := fun b o hb => sB5 b o (ne_of_none hb hpj) (s34 b o hb)
  have e5 := s35 _ _ e3
  have e5f := s35 _ _ e3f
  refine ⟨_, rfl, a, _, dx, _, rfl, e5, J_Opened.cl, J_Opened.n_joining, by show 4 < 1000; decide, ?_⟩
  rw [flO_put]
  have nj : pj2 ≠ a := Ne.symm (ne_of_none e3 hpj)
  have nn : pn2 ≠ a := Ne.symm (ne_of_none (s34 _ _ e3) hpn)
  have nt : pt2 ≠ a := Ne.symm (ne_of_none (s34 _ _ e3) hpt)
  have sT6 : SameT H5 (upd H5 a (.ins C_Opened dx (flO f.kind f.name pf pj2))) := SameBi SameB.upd e5
  refine q _ [a, pf, pj2, pn2, pt2] ⟨dx, pf, pj2, dj2, pn2, pt2, _, [], [], rfl, upd_same, by rw [upd_ne (Ne.symm naf)]; exact e5f, hfs3.same (s35.t.trans sT6).to, ⟨by rw [upd_ne nj]; exact J5.ob, by rw [upd_ne nn]; exact J5.nd, by rw [upd_ne nt]; exact J5.tx, J5.ne⟩, dts_nil, rfl, ne_of_none (s34 _ _ e3f) hpn, ne_of_none (s34 _ _ e3f) hpt, Nat.zero_le _, Nat.zero_le _, Nat.zero_le _, ?_⟩ (fun b o nb hb => by rw [upd_ne (fun z => nb (by rw [z]; simp))]; exact s35 _ _ (sX3 b o nb hb)) (fun b hb => ?_)
  · show (f.fs ++ [f.ns ++ jt f.ts]).length ≤ M + 1
    rw [List.length_append, List.length_singleton]; (first | lia | omega)
  simp only [List.mem_cons, List.mem_nil_iff, or_false] at hb ⊢
  rcases hb with rfl | rfl | rfl | rfl | rfl
  · exact .inl (.inl rfl)
  · exact .inl (.inr (.inl rfl))
  · exact .inr (fr3 _ hpj)
  · exact .inr (fr3 _ (s34.free hpn))
  · exact .inr (fr3 _ (s34.free hpt))
theorem ok_Opened_go_other (T : Txt w K mg) {k : Nat} {C_Opened : Addr} (J_Opened : Txt_Opened K mg C_Opened) (G_Opened_end_form : MCal P w K mg base CX0 k C_Opened "end_form" ["self"] (sp_Opened_end_form K C_Opened)) : MCal P w K mg base CX0 (k + 1) C_Opened "go_other" ["self"] (sp_Opened_go_other K C_Opened) := by
  refine J_Opened.d_go_other.elim fun fa e => e.elim fun fd At => At.mcal sc_Opened_go_other (fun vs H Q E h => ?_) (fun cdv A outer s H vs Q E hr h => ?_)
  · (first | (obtain ⟨_, rfl, _⟩ := h; rfl) | (obtain ⟨_, _, rfl, _⟩ := h; rfl) | (obtain ⟨_, _, _, rfl, _⟩ := h; rfl) | (obtain ⟨_, _, _, _, rfl, _⟩ := h; rfl) | (obtain ⟨_, _, _, _, _, rfl, _⟩ := h; rfl) | (obtain ⟨_, _, _, _, _, _, rfl, _⟩ := h; rfl) | (obtain ⟨_, _, _, _, _, _, _, rfl, _⟩ := h; rfl) | (obtain ⟨_, _, _, _, _, _, _, _, rfl, _⟩ := h; rfl) | (obtain ⟨_, _, _, _, _, _, _, _, _, rfl, _⟩ := h; rfl) | (obtain ⟨rfl, _⟩ := h; rfl) | exact h.elim)
  have m_len := T.m_len
  refine ⟨_, (@pss_cons _ _ _ _ _ (@ps_if _ _ _ _ _ _ _ _ (PW.pt (pw_or (pt_cmpR op_ne (pe_fld (pv 0) rfl) (@pe_tx _ _ [105, 102] _ _ rfl) (nomark _)) (pw_or1 (pt_cmpR op_gt (pe_callB call_len_seq rfl m_len boLen (@pa_cons _ _ _ _ _ (pe_fld (pv 0) rfl) pa_nil rfl)) pe_int (nomark _)))))
    (@pss_one _ _ _ ps_never)
    pss_nil)
    (@pss_one _ _ _ (ps_expr (pe_mth0 J_Opened.cl G_Opened_end_form hr (pv 0))))), ?_⟩
  refine hold fun G_95 hG_95 => ?_
  obtain ⟨a, CJ, fp, M, f, rfl, hCJ, O, hM, hk, hfs, q⟩ := h
  refine hG_95 ?_
  refine hold fun G_96 hG_96 => ?_
  obtain ⟨dx, pf, pj, dj, pn, pt, fvs, vs, ls, rfl, h1, h2, h3, J, h4, h5, h6, h7, b1, b2, b3, b4⟩ := O.ex
  refine hG_96 ?_
  have hlf : fvs = [] := List.length_eq_zero_iff.mp (by rw [← h3.len, hfs]; rfl)
  subst hlf
  refine ⟨_, rfl, a, _, dx, _, _, rfl, h1, J_Opened.cl, J_Opened.n_kind, flO_kind _ _ _ _, rfl, _, rfl, ?_⟩
  rw [decide_eq_true (show V.str (tx f.kind) = V.str (tx [105, 102]) by rw [hk]; rfl)]
  refine iteF ?_
  refine ⟨_, rfl, a, _, dx, _, _, rfl, h1, J_Opened.cl, J_Opened.n_forms, flO_forms _ _ _ _, pf, _, rfl, .inl (SqL.of h2), _, _, rfl, rfl, _, rfl, iteF ?_⟩
  exact ⟨_, rfl, a, dx, _, rfl, h1, flO_no _ _ _ _ (by decide +kernel) (by decide +kernel) (by decide +kernel) (by decide +kernel), a, CJ, _, M, f, rfl, hCJ, O, hM, q⟩
theorem ok_Opened_ended (T : Txt w K mg) {k : Nat} {C_Opened : Addr} (J_Opened : Txt_Opened K mg C_Opened) (G_Opened_end_form : MCal P w K mg base CX0 k C_Opened "end_form" ["self"] (sp_Opened_end_form K C_Opened)) : MCal P w K mg base CX0 (k + 1) C_Opened "ended" ["self"] (sp_Opened_ended K C_Opened) := by
  refine J_Opened.d_ended.elim fun fa e => e.elim fun fd At => At.mcal sc_Opened_ended (fun vs H Q E h => ?_) (fun cdv A outer s H vs Q E hr h => ?_)
  · (first | (obtain ⟨_, rfl, _⟩ := h; rfl) | (obtain ⟨_, _, rfl, _⟩ := h; rfl) | (obtain ⟨_, _, _, rfl, _⟩ := h; rfl) | (obtain ⟨_, _, _, _, rfl, _⟩ := h; rfl) | (obtain ⟨_, _, _, _, _, rfl, _⟩ := h; rfl) | (obtain ⟨_, _, _, _, _, _, rfl, _⟩ := h; rfl) | (obtain ⟨_, _, _, _, _, _, _, rfl, _⟩ := h; rfl) | (obtain ⟨_, _, _, _, _, _, _, _, rfl, _⟩ := h; rfl) | (obtain ⟨_, _, _, _, _, _, _, _, _, rfl, _⟩ := h; rfl) | (obtain ⟨rfl, _⟩ := h; rfl) | exact h.elim)
  have m_len := T.m_len
  have m_tuple := T.m_tuple
  refine ⟨_, (@pss_cons _ _ _ _ _ (ps_expr (pe_mth0 J_Opened.cl G_Opened_end_form hr (pv 0)))
    (@pss_cons _ _ _ _ _ (@ps_if _ _ _ _ _ _ _ _ (PW.pt (pw_and (pt_cmpR op_eq (pe_fld (pv 0) rfl) (@pe_tx _ _ [105, 102] _ _ rfl) (nomark _)) (pw_and1 (pt_cmpR op_eq (pe_callB call_len_seq rfl m_len boLen (@pa_cons _ _ _ _ _ (pe_fld (pv 0) rfl) pa_nil rfl)) pe_int (nomark _)))))
    (@pss_one _ _ _ (ps_expr (pe_mth0 J_Opened.cl G_Opened_end_form hr (pv 0))))
    pss_nil)
    (@pss_one _ _ _ (@ps_ret _ _ _ _ (@pe_op _ _ _ _ _ _ _ _ op_catA (@pe_tup _ _ _ _ _ (@pa_cons _ _ _ _ _ (pe_fld (pv 0) rfl) (@pa_cons _ _ _ _ _ (pe_fld (pv 0) rfl) pa_nil star_a) star_a)) (pe_callTy call_tuple_of rfl m_tuple boTuple (@pa_cons _ _ _ _ _ (pe_fld (pv 0) rfl) pa_nil rfl))))))), ?_⟩
  refine hold fun G_97 hG_97 => ?_
  obtain ⟨a, CJ, fp, M, f, rfl, hCJ, O, hM, q⟩ := h
  refine hG_97 ?_
  have hob : ∀ {H : Hp} {fp : List Addr} {M : Nat} {f : Frm}, OAt K CJ C_Opened H a fp M f → ∃ dx pf pj fvs, H a = some (.ins C_Opened dx (flO f.kind f.name pf pj)) ∧ H pf = some (.lst fvs) ∧ IsDts K (TuO H) (f.fs.map Dt.tup) fvs ∧ f.fs.length ≤ M := fun o => by
    refine hold fun G_98 hG_98 => ?_
    obtain ⟨dx, pf, pj, dj, pn, pt, fvs, vs, ls, rfl, h1, h2, h3, J, h4, h5, h6, h7, b1, b2, b3, b4⟩ := o.ex
    refine hG_98 ?_
    exact ⟨dx, pf, pj, fvs, h1, h2, h3, b4⟩
  have noE : ∀ (k x : List Nat) (pf pj : Addr), (flO k x pf pj).lookup ("end_form" : Str) = none := fun k x pf pj => flO_no _ _ _ _ (by decide +kernel) (by decide +kernel) (by decide +kernel) (by decide +kernel)
  refine hold fun G_99 hG_99 => ?_
  obtain ⟨dx0, pf0, pj0, fvs0, g1, _⟩ := hob O
  refine hG_99 ?_
  refine ⟨_, rfl, a, dx0, _, rfl, g1, noE _ _ _ _, a, CJ, fp, M, f, rfl, hCJ, O, by (first | lia | omega), fun H1 fp1 O1 sX1 hf1 => ?_⟩
  refine hold fun G_100 hG_100 => ?_
  obtain ⟨dx1, pf1, pj1, fvs1, k1, k2, k3, k4⟩ := hob O1
  refine hG_100 ?_
  have hl1 : fvs1.length = f.endF.fs.length := by rw [← k3.len, List.length_map]
  have sT1 : SameT H H1 := O.sameT sX1
  have sXX : ∀ H2 : Hp, SameX fp1 H1 H2 → SameX fp H H2 := fun H2 s2 b o nb hb => s2 b o (fun hb1 => (hf1 b hb1).elim nb fun z => by rw [hb] at z; cases z) (sX1 b o nb hb)
  refine ⟨_, rfl, a, _, dx1, _, _, rfl, k1, J_Opened.cl, J_Opened.n_kind, flO_kind _ _ _ _, rfl, _, rfl, ?_⟩
  have ek : f.endF.kind = f.kind := rfl
  have en : f.endF.name = f.name := rfl
  rw [ek, en] at k1
  rw [ek]
  by_cases hk : f.kind = wIf
  · refine iteTb (decide_eq_true (show V.str (tx f.kind) = V.str (tx [105, 102]) by rw [hk]; rfl)) ?_
    refine ⟨_, rfl, a, _, dx1, _, _, rfl, k1, J_Opened.cl, J_Opened.n_forms, flO_forms _ _ _ _, pf1, _, rfl, .inl (SqL.of k2), rfl, _, rfl, ?_⟩
    rw [hl1]
    by_cases hl : f.endF.fs.length = 1
    · refine iteTb (decide_eq_true (show V.int ((f.endF.fs.length : Nat) : Int) = V.int 1 by rw [hl]; rfl)) ?_
      refine ⟨_, rfl, a, dx1, _, rfl, k1, noE _ _ _ _, a, CJ, fp1, M + 1, f.endF, rfl, hCJ, O1, by (first | lia | omega), fun H2 fp2 O2 sX2 hf2 => ?_⟩
      have hfin : f.fin = f.endF.endF := if_pos ⟨hk, hl⟩
      refine hold fun G_101 hG_101 => ?_
      obtain ⟨dx2, pf2, pj2, fvs2, m1, m2, m3, m4⟩ := hob O2
      refine hG_101 ?_
      have m1 : H2 a = some (.ins C_Opened dx2 (flO f.kind f.name pf2 pj2)) := m1
      rw [← hfin] at m3 m4
      have sX := sXX H2 sX2
      have sT := O.sameT sX
      refine ⟨_, rfl, a, _, dx2, _, _, rfl, m1, J_Opened.cl, J_Opened.n_kind, flO_kind _ _ _ _, _, rfl, a, _, dx2, _, _, rfl, m1, J_Opened.cl, J_Opened.n_name, flO_name _ _ _ _, by show 2 ≤ sizeLine; decide, fun p3 hp3 => ?_⟩
      have s3 := same_new hp3 (.tup [.str (tx f.kind), .str (tx f.name)])
      refine ⟨_, rfl, a, _, dx2, _, _, rfl, s3 _ _ m1, J_Opened.cl, J_Opened.n_forms, flO_forms _ _ _ _, pf2, _, rfl, .inl ⟨SqL.of (s3 _ _ m2), fun pz hpz => ?_⟩⟩
      have s4 := same_new hpz (.tup fvs2)
      refine catB (A := [.str f.kind, .str f.name]) (dt_tup (SqT.of (TuO_tup (s4 _ _ upd_same))) (dts_cons dt_str (dts_cons dt_str dts_nil))) (dt_tup (SqT.of (TuO_tup upd_same)) (m3.same (s3.trans s4).t.to)) (by rw [List.length_map]; show 2 + _ ≤ 9000000; (first | lia | omega)) fun H5 p5 s5 h5 => ?_
      exact q _ _ h5 (sX.trans (sameX (s3.trans (s4.trans s5)))) (sT.trans (s3.trans (s4.trans s5)).t)
    · refine iteFb (decide_eq_false (show ¬ V.int ((f.endF.fs.length : Nat) : Int) = V.int 1 from fun z => hl (by injection z; (first | lia | omega)))) ?_
      have hfin : f.fin = f.endF := if_neg fun z => hl z.2
      obtain ⟨dx2, pf2, pj2, fvs2, H2, eH2, m1, m2, m3, m4, sX, sT⟩ : ∃ dx2 pf2 pj2 fvs2 H2, H2 = H1 ∧ H2 a = some (.ins C_Opened dx2 (flO f.kind f.name pf2 pj2)) ∧ H2 pf2 = some (.lst fvs2) ∧ IsDts K (TuO H2) (f.fin.fs.map Dt.tup) fvs2 ∧ f.fin.fs.length ≤ M + 1 + 1 ∧ SameX fp H H2 ∧ SameT H H2 := ⟨dx1, pf1, pj1, fvs1, H1, rfl, k1, k2, by rw [hfin]; exact k3, by rw [hfin]; (first | lia | omega), sX1, sT1⟩
      rw [← eH2]
      refine ⟨_, rfl, a, _, dx2, _, _, rfl, m1, J_Opened.cl, J_Opened.n_kind, flO_kind _ _ _ _, _, rfl, a, _, dx2, _, _, rfl, m1, J_Opened.cl, J_Opened.n_name, flO_name _ _ _ _, by show 2 ≤ sizeLine; decide, fun p3 hp3 => ?_⟩
      have s3 := same_new hp3 (.tup [.str (tx f.kind), .str (tx f.name)])
      refine ⟨_, rfl, a, _, dx2, _, _, rfl, s3 _ _ m1, J_Opened.cl, J_Opened.n_forms, flO_forms _ _ _ _, pf2, _, rfl, .inl ⟨SqL.of (s3 _ _ m2), fun pz hpz => ?_⟩⟩
      have s4 := same_new hpz (.tup fvs2)
      refine catB (A := [.str f.kind, .str f.name]) (dt_tup (SqT.of (TuO_tup (s4 _ _ upd_same))) (dts_cons dt_str (dts_cons dt_str dts_nil))) (dt_tup (SqT.of (TuO_tup upd_same)) (m3.same (s3.trans s4).t.to)) (by rw [List.length_map]; show 2 + _ ≤ 9000000; (first | lia | omega)) fun H5 p5 s5 h5 => ?_
      exact q _ _ h5 (sX.trans (sameX (s3.trans (s4.trans s5)))) (sT.trans (s3.trans (s4.trans s5)).t)
  · refine iteFb (decide_eq_false (show ¬ V.str (tx f.kind) = V.str (tx [105, 102]) from fun z => hk (V.str_inj.mp z))) (iteF ?_)
    have hfin : f.fin = f.endF := if_neg fun z => hk z.1
    obtain ⟨dx2, pf2, pj2, fvs2, H2, eH2, m1, m2, m3, m4, sX, sT⟩ : ∃ dx2 pf2 pj2 fvs2 H2, H2 = H1 ∧ H2 a = some (.ins C_Opened dx2 (flO f.kind f.name pf2 pj2)) ∧ H2 pf2 = some (.lst fvs2) ∧ IsDts K (TuO H2) (f.fin.fs.map Dt.tup) fvs2 ∧ f.fin.fs.length ≤ M + 1 + 1 ∧ SameX fp H H2 ∧ SameT H H2 := ⟨dx1, pf1, pj1, fvs1, H1, rfl, k1, k2, by rw [hfin]; exact k3, by rw [hfin]; (first | lia | omega), sX1, sT1⟩
    rw [← eH2]
    refine ⟨_, rfl, a, _, dx2, _, _, rfl, m1, J_Opened.cl, J_Opened.n_kind, flO_kind _ _ _ _, _, rfl, a, _, dx2, _, _, rfl, m1, J_Opened.cl, J_Opened.n_name, flO_name _ _ _ _, by show 2 ≤ sizeLine; decide, fun p3 hp3 => ?_⟩
    have s3 := same_new hp3 (.tup [.str (tx f.kind), .str (tx f.name)])
    refine ⟨_, rfl, a, _, dx2, _, _, rfl, s3 _ _ m1, J_Opened.cl, J_Opened.n_forms, flO_forms _ _ _ _, pf2, _, rfl, .inl ⟨SqL.of (s3 _ _ m2), fun pz hpz => ?_⟩⟩
    have s4 := same_new hpz (.tup fvs2)
    refine catB (A := [.str f.kind, .str f.name]) (dt_tup (SqT.of (TuO_tup (s4 _ _ upd_same))) (dts_cons dt_str (dts_cons dt_str dts_nil))) (dt_tup (SqT.of (TuO_tup upd_same)) (m3.same (s3.trans s4).t.to)) (by rw [List.length_map]; show 2 + _ ≤ 9000000; (first | lia | omega)) fun H5 p5 s5 h5 => ?_
    exact q _ _ h5 (sX.trans (sameX (s3.trans (s4.trans s5)))) (sT.trans (s3.trans (s4.trans s5)).t)
theorem ok_Joining_so_far (T : Txt w K mg) {k : Nat} {C_Joining : Addr} (J_Joining : Txt_Joining K mg C_Joining)  : MCal P w K mg base CX0 (k + 1) C_Joining "so_far" ["self"] (sp_Joining_so_far K C_Joining) := by
  refine J_Joining.d_so_far.elim fun fa e => e.elim fun fd At => At.mcal sc_Joining_so_far (fun vs H Q E h => ?_) (fun cdv A outer s H vs Q E hr h => ?_)
  · (first | (obtain ⟨_, rfl, _⟩ := h; rfl) | (obtain ⟨_, _, rfl, _⟩ := h; rfl) | (obtain ⟨_, _, _, rfl, _⟩ := h; rfl) | (obtain ⟨_, _, _, _, rfl, _⟩ := h; rfl) | (obtain ⟨_, _, _, _, _, rfl, _⟩ := h; rfl) | (obtain ⟨_, _, _, _, _, _, rfl, _⟩ := h; rfl) | (obtain ⟨_, _, _, _, _, _, _, rfl, _⟩ := h; rfl) | (obtain ⟨_, _, _, _, _, _, _, _, rfl, _⟩ := h; rfl) | (obtain ⟨_, _, _, _, _, _, _, _, _, rfl, _⟩ := h; rfl) | (obtain ⟨rfl, _⟩ := h; rfl) | exact h.elim)
  refine ⟨_, (@pss_cons _ _ _ _ _ (@ps_set _ _ 1 _ _ _ _ sc_Joining_so_far.nd rfl (Or.inl rfl) (pe_bm PySem.F.plainAttrs_str PySem.F.slot_str_join PySem.F.type_str_join mt_join (@pe_tx _ _ [] _ _ rfl) (@pa_cons _ _ _ _ _ (pe_fld (pv 0) rfl) pa_nil rfl)) rfl (Or.inl rfl))
    (@pss_one _ _ _ (@ps_ret _ _ _ _ (@pe_op _ _ _ _ _ _ _ _ op_cat (pe_fld (pv 0) rfl) (pe_ifExp (pt_cmpR op_eq (pv 1) (@pe_tx _ _ [] _ _ rfl) (nomark _)) (@pe_lst _ _ _ _ pa_nil) (@pe_lst _ _ _ _ (@pa_cons _ _ _ _ _ (@pe_tup _ _ _ _ _ (@pa_cons _ _ _ _ _ (@pe_tx _ _ [116, 101, 120, 116] _ _ (by decide +kernel)) (@pa_cons _ _ _ _ _ (pv 1) pa_nil star_n) star_c)) pa_nil rfl))))))), ?_⟩
  refine hold fun G_49 hG_49 => ?_
  obtain ⟨a, dx, pn, pt, ns, ls, rfl, J, hn, hl, q⟩ := h
  refine hG_49 ?_
  refine ⟨rfl, _, rfl, a, _, dx, _, _, rfl, J.ob, J_Joining.cl, J_Joining.n_texts, fl_texts _ _, pt, ls, rfl, rfl, SqL.of J.tx, by (first | lia | omega), ?_⟩
  refine ⟨_, rfl, a, _, dx, _, _, rfl, J.ob, J_Joining.cl, J_Joining.n_nodes, fl_nodes _ _, ?_⟩
  refine ⟨_, rfl, rfl, _, rfl, ?_⟩
  by_cases e : ls.flatten = []
  · refine iteTb (decide_eq_true (show V.str (tx ls.flatten) = V.str (tx []) by rw [e])) ⟨by show 0 ≤ sizeLine; decide, fun p hp => ?_⟩
    have s1 := same_new hp (.lst [])
    refine ⟨pn, p, ns, [], rfl, rfl, s1 _ _ J.nd, upd_same, smallF (by rw [List.length_nil]; (first | lia | omega)), fun p2 hp2 => ?_⟩
    have s2 := same_new hp2 (.lst (ns ++ []))
    refine q _ p2 [] (s1.trans s2) (s1.free hp2) upd_same ?_
    rw [e]; exact dts_nil
  · refine iteFb (decide_eq_false (show ¬ V.str (tx ls.flatten) = V.str (tx []) from fun z => e (V.str_inj.mp z))) ⟨_, rfl, by show 2 ≤ sizeLine; decide, fun p hp => ⟨by show 1 ≤ sizeLine; decide, fun p2 hp2 => ?_⟩⟩
    have s1 := same_new hp (.tup [.str (tx [116, 101, 120, 116]), .str (tx ls.flatten)])
    have s2 := same_new hp2 (.lst [.ref p])
    refine ⟨pn, p2, ns, [.ref p], rfl, rfl, s2 _ _ (s1 _ _ J.nd), upd_same, smallF (by rw [List.length_singleton]; (first | lia | omega)), fun p3 hp3 => ?_⟩
    have s3 := same_new hp3 (.lst (ns ++ [.ref p]))
    refine q _ p3 [.ref p] (s1.trans (s2.trans s3)) ((s1.trans s2).free hp3) upd_same ?_
    rw [jt_ne e]
    exact dts_cons (dt_tup (SqT.of (TuO_tup (s3 _ _ (s2 _ _ upd_same)))) (dts_cons dt_str (dts_cons dt_str dts_nil))) dts_nil
theorem ok_joined_form (T : Txt w K mg) {k : Nat} {n : Nat} {C_Joining : Addr} (J_Joining : Txt_Joining K mg C_Joining) (G_forms_in : Cal P w K mg base CX0 k "forms_in" ["node"] (sp_forms_in K)) (G_Joining___init__ : KCal P w K mg base CX0 k C_Joining "Joining" ["self"] (sp_Joining___init__ K C_Joining)) (G_Joining_put_text : MCal P w K mg base CX0 k C_Joining "put_text" ["self", "text"] (sp_Joining_put_text K C_Joining)) (G_Joining_put_node : MCal P w K mg base CX0 k C_Joining "put_node" ["self", "node"] (sp_Joining_put_node K C_Joining)) (G_Joining_so_far : MCal P w K mg base CX0 k C_Joining "so_far" ["self"] (sp_Joining_so_far K C_Joining)) (G_joined_form : Cal P w K mg base CX0 k "joined_form" ["form"] (sp_joined_form n K)) : Cal P w K mg base CX0 (k + 1) "joined_form" ["form"] (sp_joined_form (n + 1) K) := by
  refine T.d_joined_form.elim fun fa e => e.elim fun fd At => At.cal sc_joined_form (fun vs H Q E h => ?_) (fun cdv A outer s H vs Q E hr h => ?_)
  · (first | (obtain ⟨_, rfl, _⟩ := h; rfl) | (obtain ⟨_, _, rfl, _⟩ := h; rfl) | (obtain ⟨_, _, _, rfl, _⟩ := h; rfl) | (obtain ⟨_, _, _, _, rfl, _⟩ := h; rfl) | (obtain ⟨_, _, _, _, _, rfl, _⟩ := h; rfl) | (obtain ⟨_, _, _, _, _, _, rfl, _⟩ := h; rfl) | (obtain ⟨_, _, _, _, _, _, _, rfl, _⟩ := h; rfl) | (obtain ⟨_, _, _, _, _, _, _, _, rfl, _⟩ := h; rfl) | (obtain ⟨_, _, _, _, _, _, _, _, _, rfl, _⟩ := h; rfl) | (obtain ⟨rfl, _⟩ := h; rfl) | exact h.elim)
  have m_tuple := T.m_tuple
  refine ⟨_, (@pss_cons _ _ _ _ _ (@ps_set _ _ 1 _ _ _ _ sc_joined_form.nd rfl (Or.inl rfl) (pe_mk0 G_Joining___init__ hr rfl) rfl (Or.inl rfl))
    (@pss_cons _ _ _ _ _ (ps_for PassesOwn.never rfl (pi_tup (pv 0)) (pg_name (i := 2) sc_joined_form.nd rfl (Or.inl rfl))
    (@pss_one _ _ _ (@ps_if _ _ _ _ _ _ _ _ (pt_cmpR op_eq (@pe_ix _ _ _ _ _ _ _ ix_tup (pv 2) pe_int (fun _ _ => rfl)) (@pe_tx _ _ [116, 101, 120, 116] _ _ (by decide +kernel)) (nomark _))
      (@pss_one _ _ _ (ps_expr (pe_mth J_Joining.cl G_Joining_put_text hr (pv 1) (@pa_cons _ _ _ _ _ (@pe_ix _ _ _ _ _ _ _ ix_tup (pv 2) pe_int (fun _ _ => rfl)) pa_nil rfl))))
      (@pss_one _ _ _ (ps_expr (pe_mth J_Joining.cl G_Joining_put_node hr (pv 1) (@pa_cons _ _ _ _ _ (@pe_op _ _ _ _ _ _ _ _ op_catA (pe_slice sl_tupA (pv 2) po_none (po_some pe_int)) (pe_callTy call_tuple_of rfl m_tuple boTuple (@pa_cons _ _ _ _ _ (pe_comp (vars := ["inner"]) rfl (CompScope.own rfl (by decide +kernel)) (pi_tup (pe_cal G_forms_in hr (@pa_cons _ _ _ _ _ (pv 2) pa_nil rfl) rfl)) (fun pins cl C fp s H => ⟨pgc 0 (by decide +kernel) rfl rfl, pifs_nil, (pe_cal G_joined_form hr (@pa_cons _ _ _ _ _ (pv 0) pa_nil rfl) rfl)⟩)) pa_nil rfl))) pa_nil rfl)))))))
    (@pss_one _ _ _ (@ps_ret _ _ _ _ (pe_callTy call_tuple_of rfl m_tuple boTuple (@pa_cons _ _ _ _ _ (pe_mth0 J_Joining.cl G_Joining_so_far hr (pv 1)) pa_nil rfl)))))), ?_⟩
  refine hold fun G_51 hG_51 => ?_
  obtain ⟨v, ds, rfl, hv, hf, q⟩ := h
  refine hG_51 ?_
  refine hold fun G_52 hG_52 => ?_
  obtain ⟨a, us, rfl, hS, hd⟩ := dt_tup_inv hv
  refine hG_52 ?_
  refine hold fun G_53 hG_53 => ?_
  obtain ⟨hf1, hf2, hf3⟩ := hf
  refine hG_53 ?_
  intro pj dx hpj hdx hne
  refine ⟨pj, dx, rfl, upd_same, fun H1 pn0 pt0 J0 sB0 hpn0 hpt0 => ⟨rfl, ?_⟩⟩
  have s1 : Same H H1 := fun b o hb => by
    have nb : b ≠ pj := ne_of_none hb hpj
    exact sB0 b o nb (by rw [upd_ne nb, upd_ne (ne_of_none hb hdx)]; exact hb)
  have hpt0H : H pt0 = none := by
    cases hh : H pt0 with
    | none => rfl
    | some o =>
      have nb : pt0 ≠ pj := ne_of_none hh hpj
      rw [upd_ne nb, upd_ne (ne_of_none hh hdx), hh] at hpt0
      cases hpt0
  have hS1 := s1.tup (TuO_seq hS)
  refine ⟨_, rfl, a, rfl, ⟨us, hS1⟩, ?_⟩
  refine for_tupN (xs := us) (fun i σ H2 => ∃ (pn pt : Addr) (ls : List (List Nat)) (ns : List Dt) (vs : List V) (o : Option V), σ = [some (.ref a), some (.ref pj), o] ∧ H pt = none ∧ Same H H2 ∧ JAt C_Joining H2 pj dx pn pt vs ls ∧ IsDts K (TuO H2) ns vs ∧
      ns ++ JL (jN (jF n)) ls.flatten (ds.drop i) = jF (n + 1) ds ∧ ls.flatten.length + tlen (ds.drop i) ≤ 448 ∧ ns.length ≤ 2 * i ∧ ls.length ≤ i)
    ⟨pn0, pt0, [], [], [], none, rfl, hpt0H, s1, J0, dts_nil, rfl, by simpa using hf2, by simp, by simp⟩ (fun i σ H2 hi pv => ?_) (fun i z σ H2 hz pv N B R hN => ?_) (fun σ H2 pv => ?_)
  · refine hold fun G_54 hG_54 => ?_
    obtain ⟨pn, pt, ls, ns, vs, o, rfl, _, sH, _⟩ := pv
    refine hG_54 ?_
    exact sH.tup (TuO_seq hS)
  · refine hold fun G_55 hG_55 => ?_
    obtain ⟨pn, pt, ls, ns, vs, o, rfl, hptH, sH, J, hns, hJ, hT, hnl, hll⟩ := pv
    refine hG_55 ?_
    refine hold fun G_56 hG_56 => ?_
    obtain ⟨d, hdi, hdv⟩ := hd.atV hz
    refine hG_56 ?_
    have hdm : d ∈ ds := List.mem_of_getElem? hdi
    have hi40 : i < ds.length := (List.getElem?_eq_some_iff.mp hdi).1
    have hdrop : ds.drop i = d :: ds.drop (i + 1) := by
      obtain ⟨h1, h2⟩ := List.getElem?_eq_some_iff.mp hdi
      rw [List.drop_eq_getElem_cons h1, h2]
    have hdv2 := hdv.same sH.t.to
    have hnd := hf3 d hdm
    refine hold fun G_57 hG_57 => ?_
    obtain ⟨c, w2, x2, r2, rfl, hc, hwt, htx, es, hde, hr⟩ := node_head hnd hdv2
    refine hG_57 ?_
    have hc' := TuO_seq hc
    rw [hdrop] at hJ hT
    rw [tlen_cons] at hT
    have hlv : vs.length = ns.length := hns.len.symm
    refine ⟨_, rfl, c, _, 0, _, rfl, rfl, hc', atI_nat (j := 0) rfl, rfl, _, rfl, ?_⟩
    have cmp : decide (V.str (tx w2) = V.str (tx [116, 101, 120, 116])) = decide (w2 = wText) := by
      by_cases e : w2 = wText
      · rw [e]; rfl
      · rw [decide_eq_false e, decide_eq_false (show ¬ V.str (tx w2) = V.str (tx [116, 101, 120, 116]) from fun z => e (V.str_inj.mp z))]
    rw [cmp]
    cases hd' : txtOf d with
    | some l =>
      obtain ⟨rfl, rfl⟩ := htx l hd'
      rw [hd'] at hwt
      rw [decide_eq_true (hwt.mpr rfl)]
      rw [JL_text hd'] at hJ
      have htn : tn d = x2.length := by unfold tn; rw [hd']
      refine iteT ⟨_, rfl, pj, dx, _, rfl, J.ob, fl_no _ _ (by decide +kernel) (by decide +kernel), _, rfl, c, _, 1, _, rfl, rfl, hc', atI_nat (j := 1) rfl, ?_⟩
      refine ⟨pj, dx, pn, pt, vs, ls, x2, rfl, J, by (first | lia | omega), ?_⟩
      have nto : pj ≠ pt := ne_of J.ob J.tx (by intro z; cases z)
      refine hN _ _ ⟨pn, pt, ls ++ [x2], ns, vs, _, rfl, hptH, fun b o hb => by rw [upd_ne (ne_of_none hb hptH)]; exact sH b o hb, ⟨by rw [upd_ne nto]; exact J.ob, by rw [upd_ne J.ne]; exact J.nd, upd_same, J.ne⟩, hns.same (SameT.put J.tx).to, ?_, ?_, by (first | lia | omega), by rw [List.length_append, List.length_singleton]; (first | lia | omega)⟩
      · rw [List.flatten_append]
        simpa using hJ
      · rw [List.flatten_append, List.length_append]
        simp only [List.flatten_cons, List.flatten_nil, List.append_nil]
        (first | lia | omega)
    | none =>
      rw [hd'] at hwt
      rw [decide_eq_false (show ¬ w2 = wText from fun z => by have := hwt.mp z; cases this)]
      rw [JL_node hd'] at hJ
      have hfs : ∃ fs : List (List Dt), es = fs.map Dt.tup ∧ (∀ f ∈ fs, FmG n f) ∧ fs.length ≤ 2 := by
        rcases node_cases hnd with ⟨l, ht, _⟩ | ⟨_, _, w', x', fs, e, _, _, hF, hl, _⟩
        · rw [hd'] at ht; cases ht
        · have e2 : es = fs.map Dt.tup := by
            rw [hde] at e
            injection e with e
            injection e with _ e
            injection e
          exact ⟨fs, e2, hF, hl⟩
      refine hold fun G_58 hG_58 => ?_
      obtain ⟨fs, rfl, hF, hl2⟩ := hfs
      refine hG_58 ?_
      have hlr : r2.length = fs.length := by rw [← hr.len, List.length_map]
      refine iteF ⟨_, rfl, pj, dx, _, rfl, J.ob, fl_no _ _ (by decide +kernel) (by decide +kernel), ?_⟩
      refine ⟨_, rfl, ?_⟩
      dsimp only [tNoPart]
      refine ⟨_, rfl, ?_⟩
      refine slice2 hc fun Ha pa sa hpa => ?_
      refine ⟨_, rfl, c, _, rfl, sa.tup hc', by simp only [List.length_cons]; (first | lia | omega), fun pf hpf => ?_⟩
      have s3 := same_new hpf (.tup r2)
      have e3 : SqT K (upd Ha pf (.tup r2)) pf r2 := SqT.of upd_same
      refine ⟨pf, rfl, ⟨_, e3⟩, ?_⟩
      have hrh := (hr.same sa.t.to).same s3.t.to
      refine comp_tup (xs := r2) (fun i σ ys H4 => (∃ o, σ = [o]) ∧ Same (upd Ha pf (.tup r2)) H4 ∧ IsDts K (TuO H4) ((fs.take i).map fun f => Dt.tup (jF n f)) ys) ⟨⟨none, rfl⟩, Same.refl _, dts_nil⟩ (small (by (first | lia | omega))) (fun i σ ys H4 hi pv => ?_) (fun i z σ ys H4 hz pv => ?_) (fun σ ys H4 pv => ?_)
      · refine ⟨pv.2.1.tup e3, ?_⟩
        rw [← pv.2.2.len, List.length_map, List.length_take]; (first | lia | omega)
      · refine hold fun G_59 hG_59 => ?_
        obtain ⟨⟨o, rfl⟩, s4, hys⟩ := pv
        refine hG_59 ?_
        refine hold fun G_60 hG_60 => ?_
        obtain ⟨d', hd2, hdv'⟩ := hrh.atV hz
        refine hG_60 ?_
        have hif : i < fs.length := by rw [← hlr]; exact (List.getElem?_eq_some_iff.mp hz).1
        have ed : d' = .tup fs[i] := by
          rw [List.getElem?_map, List.getElem?_eq_getElem hif] at hd2
          exact (Option.some.inj hd2).symm
        subst ed
        refine ⟨_, rfl, z, fs[i], rfl, hdv'.same s4.t.to, hF _ (List.getElem_mem hif), fun H5 u s5 hu => ⟨⟨_, rfl⟩, s4.trans s5, ?_⟩⟩
        rw [List.take_add_one, List.getElem?_eq_getElem hif, List.map_append]
        exact dts_snoc (hys.same s5.t.to) hu
      · refine hold fun G_61 hG_61 => ?_
        obtain ⟨⟨o, rfl⟩, s4, hys⟩ := pv
        refine hG_61 ?_
        rw [hlr, List.take_length] at hys
        intro pl hpl
        refine ⟨pl, ys, rfl, .inl ⟨SqL.of upd_same, fun pz hpz => ?_⟩⟩
        have s6 := (same_new hpl (.lst ys)).trans (same_new hpz (.tup ys))
        have et : upd (upd H4 pl (.lst ys)) pz (.tup ys) pz = some (.tup ys) := upd_same
        generalize upd (upd H4 pl (.lst ys)) pz (.tup ys) = H6 at s6 et
        have sA := (s3.trans s4).trans s6
        refine catB (A := [.str w2, .str x2]) (B := fs.map fun f => Dt.tup (jF n f)) (hpa.same sA.t.to) (dt_tup (SqT.of (TuO_tup et)) (hys.same s6.t.to)) (by simp only [List.length_cons, List.length_nil, List.length_map]; (first | lia | omega)) fun H7 p7 s7 h7 => ?_
        have s27 := sa.trans (sA.trans s7)
        have eg : jN (jF n) d = .tup ([.str w2, .str x2] ++ fs.map fun f => Dt.tup (jF n f)) := by
          rw [hde]
          show Dt.tup (.str w2 :: .str x2 :: (fs.map Dt.tup).map (jS (jF n))) = _
          rw [List.map_map]; rfl
        have J7 := J.same s27
        refine ⟨pj, dx, pn, pt, vs, ls, .ref p7, rfl, J7, by (first | lia | omega), by (first | lia | omega), fun H8 pn' pt' us3 sB8 hpn' hpt' J8 hus8 => ?_⟩
        have sT8 : SameT H7 H8 := SameBi sB8 J7.ob
        have sH8 : Same H H8 := fun b o hb => sB8 b o (ne_of_none hb hpj) (s27 _ _ (sH b o hb))
        have hlu : (jt ls.flatten).length ≤ 1 := by unfold jt; split <;> simp
        refine hN _ _ ⟨pn', pt', [], ns ++ jt ls.flatten ++ [jN (jF n) d], _, _, rfl, ?_, sH8, J8, ?_, ?_, ?_, ?_, by simp⟩
        · cases hh : H pt' with
          | none => rfl
          | some o => rw [s27 _ _ (sH _ _ hh)] at hpt'; cases hpt'
        · exact dts_snoc (dts_app (hns.same (s27.t.trans sT8).to) hus8) (by rw [eg]; exact h7.same sT8.to)
        · rw [← hJ]
          simp [List.append_assoc]
        · have : tn d = 0 := by unfold tn; rw [hd']
          simp only [List.flatten_nil, List.length_nil]; (first | lia | omega)
        · rw [List.length_append, List.length_append, List.length_singleton]
          (first | lia | omega)
  · refine hold fun G_62 hG_62 => ?_
    obtain ⟨pn, pt, ls, ns, vs, o, rfl, hptH, sH, J, hns, hJ, hT, hnl, hll⟩ := pv
    refine hG_62 ?_
    have hul : us.length = ds.length := hd.len.symm
    have hlv : vs.length = ns.length := hns.len.symm
    rw [hul, List.drop_length] at hJ hT
    refine ⟨_, rfl, pj, dx, _, rfl, J.ob, fl_no _ _ (by decide +kernel) (by decide +kernel), ?_⟩
    refine ⟨pj, dx, pn, pt, vs, ls, rfl, J, by (first | lia | omega), by have : tlen ([] : List Dt) = 0 := rfl; (first | lia | omega), fun H3 p3 us3 s3 hp3 hpl3 hus3 => ?_⟩
    refine ⟨p3, _, rfl, .inl ⟨SqL.of hpl3, fun pz hpz => ?_⟩⟩
    have s4 := same_new hpz (.tup (vs ++ us3))
    refine q _ _ (sH.trans (s3.trans s4)) (dt_tup (SqT.of (TuO_tup upd_same)) ?_)
    rw [← hJ]
    exact dts_app (hns.same (s3.trans s4).t.to) (hus3.same s4.t.to)
theorem ok_show_form (T : Txt w K mg) {k : Nat} {n : Nat}  (G_show_node : Cal P w K mg base CX0 k "show_node" ["node"] (sp_show_node n K)) : Cal P w K mg base CX0 (k + 1) "show_form" ["form"] (sp_show_form (n + 1) K) := by
  refine T.d_show_form.elim fun fa e => e.elim fun fd At => At.cal sc_show_form (fun vs H Q E h => ?_) (fun cdv A outer s H vs Q E hr h => ?_)
  · (first | (obtain ⟨_, rfl, _⟩ := h; rfl) | (obtain ⟨_, _, rfl, _⟩ := h; rfl) | (obtain ⟨_, _, _, rfl, _⟩ := h; rfl) | (obtain ⟨_, _, _, _, rfl, _⟩ := h; rfl) | (obtain ⟨_, _, _, _, _, rfl, _⟩ := h; rfl) | (obtain ⟨_, _, _, _, _, _, rfl, _⟩ := h; rfl) | (obtain ⟨_, _, _, _, _, _, _, rfl, _⟩ := h; rfl) | (obtain ⟨_, _, _, _, _, _, _, _, rfl, _⟩ := h; rfl) | (obtain ⟨_, _, _, _, _, _, _, _, _, rfl, _⟩ := h; rfl) | (obtain ⟨rfl, _⟩ := h; rfl) | exact h.elim)
  refine ⟨_, (@pss_one _ _ _ (@ps_ret _ _ _ _ (pe_bm PySem.F.plainAttrs_str PySem.F.slot_str_join PySem.F.type_str_join mt_join (@pe_tx _ _ [] _ _ rfl) (@pa_cons _ _ _ _ _ (pe_comp (vars := ["node"]) rfl (CompScope.own rfl (by decide +kernel)) (pi_tup (pv 0)) (fun pins cl C fp s H => ⟨pgc 0 (by decide +kernel) rfl rfl, pifs_nil, (pe_cal G_show_node hr (@pa_cons _ _ _ _ _ (pv 0) pa_nil rfl) rfl)⟩)) pa_nil rfl)))), ?_⟩
  refine hold fun G_63 hG_63 => ?_
  obtain ⟨v, ds, rfl, hv, hf, hw, q⟩ := h
  refine hG_63 ?_
  refine hold fun G_64 hG_64 => ?_
  obtain ⟨a, us, rfl, hS, hd⟩ := dt_tup_inv hv
  refine hG_64 ?_
  have hul : us.length = ds.length := hd.len.symm
  have hdl := hf.1
  have hlen := shF_len (n + 1) ds hf
  refine ⟨rfl, _, rfl, a, rfl, ⟨us, TuO_seq hS⟩, ?_⟩
  refine comp_tupD (ds := ds) (fun d => .str (tx (shN (shF n) d))) rfl (by (first | lia | omega)) (TuO_seq hS) hd (fun d x H2 Qk hdm s2 hdv q' => ?_) (fun H2 s2 => ?_)
  · exact ⟨_, rfl, x, d, rfl, hdv, hf.2.2 d hdm, Nat.le_trans (wt_mem hdm) hw, q'⟩
  · intro p hp
    refine ⟨p, ds.map (shN (shF n)), rfl, rfl, SqL.of ?_, ?_, ?_⟩
    · rw [upd_same, List.map_map]; rfl
    · rw [← List.flatMap_def]
      show (shF (n + 1) ds).length ≤ _
      (first | lia | omega)
    · rw [← List.flatMap_def]
      exact q _ (s2.trans (same_new hp _))
theorem ok_show_node (T : Txt w K mg) {k : Nat} {n : Nat}  (G_forms_in : Cal P w K mg base CX0 k "forms_in" ["node"] (sp_forms_in K)) (G_show_form : Cal P w K mg base CX0 k "show_form" ["form"] (sp_show_form n K)) : Cal P w K mg base CX0 (k + 1) "show_node" ["node"] (sp_show_node n K) := by
  refine T.d_show_node.elim fun fa e => e.elim fun fd At => At.cal sc_show_node (fun vs H Q E h => ?_) (fun cdv A outer s H vs Q E hr h => ?_)
  · (first | (obtain ⟨_, rfl, _⟩ := h; rfl) | (obtain ⟨_, _, rfl, _⟩ := h; rfl) | (obtain ⟨_, _, _, rfl, _⟩ := h; rfl) | (obtain ⟨_, _, _, _, rfl, _⟩ := h; rfl) | (obtain ⟨_, _, _, _, _, rfl, _⟩ := h; rfl) | (obtain ⟨_, _, _, _, _, _, rfl, _⟩ := h; rfl) | (obtain ⟨_, _, _, _, _, _, _, rfl, _⟩ := h; rfl) | (obtain ⟨_, _, _, _, _, _, _, _, rfl, _⟩ := h; rfl) | (obtain ⟨_, _, _, _, _, _, _, _, _, rfl, _⟩ := h; rfl) | (obtain ⟨rfl, _⟩ := h; rfl) | exact h.elim)
  obtain ⟨r_BRACKET_WRITINGS, g_BRACKET_WRITINGS, k_BRACKET_WRITINGS⟩ := T.g_BRACKET_WRITINGS
  refine ⟨_, (@pss_cons _ _ _ _ _ (ps_asg (pe_slice sl_tupA (pv 0) po_none (po_some pe_int)) (pg_tup rfl (pgs_cons (pg_name (i := 1) sc_show_node.nd rfl (Or.inl rfl)) (pgs_cons (pg_name (i := 2) sc_show_node.nd rfl (Or.inl rfl)) pgs_nil))))
    (@pss_cons _ _ _ _ _ (@ps_if _ _ _ _ _ _ _ _ (pt_cmpR op_eq (pv 1) (@pe_tx _ _ [116, 101, 120, 116] _ _ (by decide +kernel)) (nomark _))
    (@pss_one _ _ _ (@ps_ret _ _ _ _ (pe_bm PySem.F.plainAttrs_str PySem.F.slot_str_join PySem.F.type_str_join mt_join (@pe_tx _ _ [] _ _ rfl) (@pa_cons _ _ _ _ _ (pe_comp (vars := ["sign"]) rfl (CompScope.own rfl (by decide +kernel)) (pi_str (pv 2)) (fun pins cl C fp s H => ⟨pgc 0 (by decide +kernel) rfl rfl, pifs_nil, (pe_kget2 (w := w) (K := K) rfl rfl (pe_gr g_BRACKET_WRITINGS rfl) (pv 0) (pv 0))⟩)) pa_nil rfl))))
    pss_nil)
    (@pss_cons _ _ _ _ _ (@ps_if _ _ _ _ _ _ _ _ (pt_cmpR op_eq (pv 1) (@pe_tx _ _ [103, 97, 112] _ _ rfl) (nomark _))
    (@pss_one _ _ _ (@ps_ret _ _ _ _ (@pe_op _ _ _ _ _ _ _ _ op_addS (@pe_op _ _ _ _ _ _ _ _ op_addS (@pe_tx _ _ [123] _ _ rfl) (pv 2)) (@pe_tx _ _ [125] _ _ rfl))))
    pss_nil)
    (@pss_cons _ _ _ _ _ (@ps_if _ _ _ _ _ _ _ _ (pt_cmpR op_eq (pv 1) (@pe_tx _ _ [117, 115, 101] _ _ rfl) (nomark _))
    (@pss_one _ _ _ (@ps_ret _ _ _ _ (@pe_op _ _ _ _ _ _ _ _ op_addS (@pe_op _ _ _ _ _ _ _ _ op_addS (@pe_tx _ _ [123, 117, 115, 101, 32] _ _ (by decide +kernel)) (pv 2)) (@pe_tx _ _ [125] _ _ rfl))))
    pss_nil)
    (@pss_cons _ _ _ _ _ (@ps_set _ _ 3 _ _ _ _ sc_show_node.nd rfl (Or.inl rfl) (pe_bm PySem.F.plainAttrs_str PySem.F.slot_str_join PySem.F.type_str_join mt_joinS (@pe_tx _ _ [123, 101, 108, 115, 101, 125] _ _ (by decide +kernel)) (@pa_cons _ _ _ _ _ (pe_comp (vars := ["form"]) rfl (CompScope.own rfl (by decide +kernel)) (pi_tup (pe_cal G_forms_in hr (@pa_cons _ _ _ _ _ (pv 0) pa_nil rfl) rfl)) (fun pins cl C fp s H => ⟨pgc 0 (by decide +kernel) rfl rfl, pifs_nil, (pe_cal G_show_form hr (@pa_cons _ _ _ _ _ (pv 0) pa_nil rfl) rfl)⟩)) pa_nil rfl)) rfl (Or.inl rfl))
    (@pss_one _ _ _ (@ps_ret _ _ _ _ (@pe_op _ _ _ _ _ _ _ _ op_addS (@pe_op _ _ _ _ _ _ _ _ op_addS (@pe_op _ _ _ _ _ _ _ _ op_addS (@pe_op _ _ _ _ _ _ _ _ op_addS (@pe_op _ _ _ _ _ _ _ _ op_addS (@pe_op _ _ _ _ _ _ _ _ op_addS (@pe_tx _ _ [123] _ _ rfl) (pv 1)) (@pe_tx _ _ [32] _ _ rfl)) (pv 2)) (@pe_tx _ _ [125] _ _ rfl)) (pv 3)) (@pe_tx _ _ [123, 101, 110, 100, 125] _ _ (by decide +kernel)))))))))), ?_⟩
  refine hold fun G_65 hG_65 => ?_
  obtain ⟨v, d, rfl, hv, hnd, hw, q⟩ := h
  refine hG_65 ?_
  refine hold fun G_66 hG_66 => ?_
  obtain ⟨a, w, x, r, rfl, hS, hwt, htx, ds, rfl, hr⟩ := node_head hnd hv
  refine hG_66 ?_
  clear hwt htx
  refine seq_any fun S1 hS1' => ?_
  refine ⟨_, rfl, ?_⟩
  dsimp only [tNoPart]
  refine ⟨_, rfl, ?_⟩
  refine slice2 hS fun H1 p1 s1 hp1 => ?_
  refine hold fun G1 hG1 => ?_
  refine hold fun G_67 hG_67 => ?_
  obtain ⟨_, us1, e1, hS1, hd1⟩ := dt_tup_inv hp1
  refine hG_67 ?_
  cases e1
  refine hold fun G_68 hG_68 => ?_
  obtain ⟨v1, r1, rfl, d1, h3⟩ := dts_cons_inv hd1
  refine hG_68 ?_
  refine hold fun G_69 hG_69 => ?_
  obtain ⟨v2, r2, rfl, d2, h4⟩ := dts_cons_inv h3
  refine hG_69 ?_
  cases dts_nil_inv h4
  cases dt_str_inv d1
  cases dt_str_inv d2
  refine hG1 ?_
  refine ⟨p1, _, rfl, TuO_seq hS1, rfl, _, _, rfl, _, _, rfl, rfl, hS1' _ _ ?_⟩
  clear hd1 h3 h4 d1 d2 hS1 hp1
  have hSb := s1.tup (TuO_seq hS)
  have hrb := hr.same s1.t.to
  refine seq_any fun S2 hS2 => ?_
  refine ⟨_, rfl, rfl, _, rfl, ?_⟩
  rcases show_case hnd hw with ⟨rfl, rfl, hl0⟩ | ⟨rfl, rfl, hx8⟩ | ⟨rfl, rfl, hx8⟩ | ⟨nT, nG, nU, hw4, hx8, hdl, hfs, hfl, hil, esh⟩
  · refine iteTb (by decide +kernel) ?_
    refine ⟨rfl, _, rfl, x, rfl, ?_⟩
    refine comp_strM (fun c => .str (tx (sh1 c))) (fun H' => H' = H1) rfl rfl (by (first | lia | omega)) (fun c H' Qk hc e q' => ?_) fun H' e => ?_
    · subst e
      refine ⟨_, _, rfl, k_BRACKET_WRITINGS, _, rfl, _, rfl, [c], rfl, ?_⟩
      rw [bw_get]; exact q' _ rfl
    · subst e
      intro p hp
      have hf := sh_len x
      refine ⟨p, x.map sh1, rfl, rfl, SqL.of ?_, ?_, ?_⟩
      · rw [upd_same, List.map_map]; rfl
      · rw [← List.flatMap_def]; (first | lia | omega)
      · rw [← List.flatMap_def]; exact q _ (s1.trans (same_new hp _))
  · refine iteFb (by decide +kernel) (hS2 _ _ ?_)
    refine seq_any fun S3 hS3 => ?_
    refine ⟨_, rfl, rfl, _, rfl, iteTb (by decide +kernel) ?_⟩
    have g1 := lenA (Nat.le_refl ([123] : List Nat).length) hx8
    refine ⟨_, rfl, _, _, rfl, rfl, smallA (Nat.le_refl _) hx8 (by decide), _, _, rfl, rfl, smallA g1 (Nat.le_refl _) (by decide), ?_⟩
    exact q _ s1
  · refine iteFb (by decide +kernel) (hS2 _ _ ?_)
    refine seq_any fun S3 hS3 => ?_
    refine ⟨_, rfl, rfl, _, rfl, iteFb (by decide +kernel) (hS3 _ _ ?_)⟩
    refine seq_any fun S4 hS4 => ?_
    refine ⟨_, rfl, rfl, _, rfl, iteTb (by decide +kernel) ?_⟩
    have g1 := lenA (Nat.le_refl ([123, 117, 115, 101, 32] : List Nat).length) hx8
    refine ⟨_, rfl, _, _, rfl, rfl, smallA (Nat.le_refl _) hx8 (by decide), _, _, rfl, rfl, smallA g1 (Nat.le_refl _) (by decide), ?_⟩
    exact q _ s1
  · refine iteFb (decide_eq_false fun z => nT (V.str_inj.mp z)) (hS2 _ _ ?_)
    refine seq_any fun S3 hS3 => ?_
    refine ⟨_, rfl, rfl, _, rfl, iteFb (decide_eq_false fun z => nG (V.str_inj.mp z)) (hS3 _ _ ?_)⟩
    refine seq_any fun S4 hS4 => ?_
    refine ⟨_, rfl, rfl, _, rfl, iteFb (decide_eq_false fun z => nU (V.str_inj.mp z)) (hS4 _ _ ?_)⟩
    refine seq_any fun S5 hS5 => ?_
    refine ⟨rfl, _, rfl, a, _, rfl, hSb, by simp only [List.length_cons, ← hrb.len]; (first | lia | omega), fun pf hpf => ?_⟩
    have s3 := same_new hpf (.tup r)
    have e3 : SqT K (upd H1 pf (.tup r)) pf r := SqT.of upd_same
    refine ⟨pf, rfl, ⟨_, e3⟩, ?_⟩
    refine comp_tupD (K := K) (fun d => .str (tx (shS (shF n) d))) rfl (by rw [← hrb.len]; (first | lia | omega)) e3 (hrb.same s3.t.to) (fun d y H4 Qk hdm s4 hdv q' => ?_) (fun H4 s4 => ?_)
    · refine hold fun G_70 hG_70 => ?_
      obtain ⟨f', rfl, hf', hw'⟩ := hfs d hdm
      refine hG_70 ?_
      exact ⟨_, rfl, y, f', rfl, hdv, hf', hw', q'⟩
    intro p4 hp4
    refine ⟨p4, wElse, ds.map (shS (shF n)), rfl, rfl, SqL.of (by rw [upd_same, List.map_map]; rfl), hfl, hS5 _ _ ?_⟩
    have q2 := q _ (s1.trans (s3.trans (s4.trans (same_new hp4 (.lst (ds.map fun d => V.str (tx (shS (shF n) d))))))))
    rw [esh] at q2
    clear hfl q esh
    generalize inter wElse (ds.map (shS (shF n))) = S at hil q2
    have g1 := lenA (Nat.le_refl ([123] : List Nat).length) hw4
    have g2 := lenA g1 (Nat.le_refl ([32] : List Nat).length)
    have g3 := lenA g2 hx8
    have g4 := lenA g3 (Nat.le_refl ([125] : List Nat).length)
    have g5 := lenA g4 hil
    refine ⟨_, rfl, _, _, rfl, rfl, smallA (Nat.le_refl _) hw4 (by decide), _, _, rfl, rfl, smallA g1 (Nat.le_refl _) (by decide), _, rfl, _, _, rfl, rfl, smallA g2 hx8 (by decide), _, _, rfl, rfl, smallA g3 (Nat.le_refl _) (by decide), _, rfl, _, _, rfl, rfl, smallA g4 hil (by decide), _, _, rfl, rfl, smallA g5 (Nat.le_refl _) (by decide), ?_⟩
    exact q2
theorem ok_read_form (T : Txt w K mg) {k : Nat} {C_Joining : Addr} (J_Joining : Txt_Joining K mg C_Joining) {C_Opened : Addr} (J_Opened : Txt_Opened K mg C_Opened) (G_is_text : Cal P w K mg base CX0 k "is_text" ["thing"] (sp_is_text K)) (G_Opened___init__ : KCal P w K mg base CX0 k C_Opened "Opened" ["self", "kind", "name"] (sp_Opened___init__ K C_Opened)) (G_Joining_so_far : MCal P w K mg base CX0 k C_Joining "so_far" ["self"] (sp_Joining_so_far K C_Joining)) (G_take_text : Cal P w K mg base CX0 k "take_text" ["around", "text"] (sp_take_text K)) (G_take_mark : Cal P w K mg base CX0 k "take_mark" ["around", "mark"] (sp_take_mark K)) : Cal P w K mg base CX0 (k + 1) "read_form" ["text"] (sp_read_form K) := by
  refine T.d_read_form.elim fun fa e => e.elim fun fd At => At.cal sc_read_form (fun vs H Q E h => ?_) (fun cdv A outer s H vs Q E hr h => ?_)
  · (first | (obtain ⟨_, rfl, _⟩ := h; rfl) | (obtain ⟨_, _, rfl, _⟩ := h; rfl) | (obtain ⟨_, _, _, rfl, _⟩ := h; rfl) | (obtain ⟨_, _, _, _, rfl, _⟩ := h; rfl) | (obtain ⟨_, _, _, _, _, rfl, _⟩ := h; rfl) | (obtain ⟨_, _, _, _, _, _, rfl, _⟩ := h; rfl) | (obtain ⟨_, _, _, _, _, _, _, rfl, _⟩ := h; rfl) | (obtain ⟨_, _, _, _, _, _, _, _, rfl, _⟩ := h; rfl) | (obtain ⟨_, _, _, _, _, _, _, _, _, rfl, _⟩ := h; rfl) | (obtain ⟨rfl, _⟩ := h; rfl) | exact h.elim)
  have m_len := T.m_len
  have m_tuple := T.m_tuple
  refine ⟨_, (@pss_cons _ _ _ _ _ (@ps_if _ _ _ _ _ _ _ _ (pt_not (pt_val (pe_cal G_is_text hr (@pa_cons _ _ _ _ _ (pv 0) pa_nil rfl) rfl)))
    (@pss_one _ _ _ ps_never)
    pss_nil)
    (@pss_cons _ _ _ _ _ (@ps_set _ _ 1 _ _ _ _ sc_read_form.nd rfl (Or.inl rfl) (pe_bm PySem.F.plainAttrs_str PySem.F.slot_str_split PySem.F.type_str_split mt_split (pv 0) (@pa_cons _ _ _ _ _ (@pe_tx _ _ [123] _ _ rfl) pa_nil rfl)) rfl (Or.inl rfl))
    (@pss_cons _ _ _ _ _ (@ps_set _ _ 2 _ _ _ _ sc_read_form.nd rfl (Or.inl rfl) (@pe_lst _ _ _ _ (@pa_cons _ _ _ _ _ (pe_mk G_Opened___init__ hr (@pa_cons _ _ _ _ _ (@pe_tx _ _ [] _ _ rfl) (@pa_cons _ _ _ _ _ (@pe_tx _ _ [] _ _ rfl) pa_nil star_c) star_c) rfl) pa_nil rfl)) rfl (Or.inl rfl))
    (@pss_cons _ _ _ _ _ (ps_expr (pe_cal G_take_text hr (@pa_cons _ _ _ _ _ (pv 2) (@pa_cons _ _ _ _ _ (@pe_ix _ _ _ _ _ _ _ ix_list (pv 1) pe_int (fun _ _ => rfl)) pa_nil star_s) star_n) rfl))
    (@pss_cons _ _ _ _ _ (ps_for PassesOwn.never rfl (pi_list (pe_slice sl_list (pv 1) (po_some pe_int) po_none)) (pg_name (i := 3) sc_read_form.nd rfl (Or.inl rfl))
    (@pss_cons _ _ _ _ _ (ps_asg (pe_bm PySem.F.plainAttrs_str PySem.F.slot_str_partition PySem.F.type_str_partition mt_part (pv 3) (@pa_cons _ _ _ _ _ (@pe_tx _ _ [125] _ _ rfl) pa_nil rfl)) (pg_tup rfl (pgs_cons (pg_name (i := 4) sc_read_form.nd rfl (Or.inl rfl)) (pgs_cons (pg_name (i := 5) sc_read_form.nd rfl (Or.inl rfl)) (pgs_cons (pg_name (i := 6) sc_read_form.nd rfl (Or.inl rfl)) pgs_nil)))))
      (@pss_cons _ _ _ _ _ (@ps_if _ _ _ _ _ _ _ _ (pt_cmpR op_eq (pv 5) (@pe_tx _ _ [] _ _ rfl) (nomark _))
      (@pss_one _ _ _ ps_never)
      pss_nil)
      (@pss_cons _ _ _ _ _ (ps_expr (pe_cal G_take_mark hr (@pa_cons _ _ _ _ _ (pv 2) (@pa_cons _ _ _ _ _ (pv 4) pa_nil star_n) star_n) rfl))
      (@pss_one _ _ _ (ps_expr (pe_cal G_take_text hr (@pa_cons _ _ _ _ _ (pv 2) (@pa_cons _ _ _ _ _ (pv 6) pa_nil star_n) star_n) rfl)))))))
    (@pss_cons _ _ _ _ _ (@ps_if _ _ _ _ _ _ _ _ (pt_cmpR op_gt (pe_callB call_len_seq rfl m_len boLen (@pa_cons _ _ _ _ _ (pv 2) pa_nil rfl)) pe_int (nomark _))
    (@pss_one _ _ _ ps_never)
    pss_nil)
    (@pss_one _ _ _ (@ps_ret _ _ _ _ (pe_callTy call_tuple_of rfl m_tuple boTuple (@pa_cons _ _ _ _ _ (pe_mth0 J_Joining.cl G_Joining_so_far hr (pe_fld (@pe_ix _ _ _ _ _ _ _ ix_list (pv 2) pe_int (fun _ _ => rfl)) rfl)) pa_nil rfl)))))))))), ?_⟩
  refine hold fun G_117 hG_117 => ?_
  obtain ⟨l, ts, ds, A, t, rfl, hl, hok, hsg, hlen, hrun, hds, q⟩ := h
  refine hG_117 ?_
  refine ⟨_, rfl, _, .str l, rfl, th_str (by (first | lia | omega)), fun H1 s1 => ⟨_, rfl, ?_⟩⟩
  rw [show isTx (.str l) = true from tx_goodR hsg]
  refine iteF ?_
  refine ⟨_, rfl, rfl, l, 123, rfl, rfl, by (first | lia | omega), fun D hD => ?_⟩
  have hsp : splitL 123 l = (tparts ts).1 :: (tparts ts).2.map fun p => p.1 ++ 125 :: p.2 := by rw [hl]; exact split_render ts hok
  rw [hsp]
  have s2 := same_new hD (.lst (((tparts ts).1 :: (tparts ts).2.map fun p => p.1 ++ 125 :: p.2).map fun p => V.str (tx p)))
  have hD2 : upd H1 D (.lst (((tparts ts).1 :: (tparts ts).2.map fun p => p.1 ++ 125 :: p.2).map fun p => V.str (tx p))) D = some (.lst (((tparts ts).1 :: (tparts ts).2.map fun p => p.1 ++ 125 :: p.2).map fun p => V.str (tx p))) := upd_same
  generalize upd H1 D (.lst (((tparts ts).1 :: (tparts ts).2.map fun p => p.1 ++ 125 :: p.2).map fun p => V.str (tx p))) = H2 at s2 hD2
  obtain ⟨fr1, fr2⟩ := tparts_free ts hok
  have hps := tparts_sz ts
  rw [← hl] at hps
  have hrunP := runP_runT nmOk ts [⟨[], [], [], [], []⟩]
  rw [hrun] at hrunP
  generalize (tparts ts).1 = t0 at hD2 fr1 hps hrunP
  generalize (tparts ts).2 = prs at hD2 fr2 hps hrunP
  intro po dxo hpo hdo hne
  refine ⟨po, dxo, _, [], [], rfl, J_Joining.a, upd_same, fun H3 fp O3 sB3 hfp => ⟨rfl, by show 1 ≤ sizeLine; decide, fun pa hpa => ?_⟩⟩
  have s23 : Same H2 H3 := fun b o hb => sB3 b o (ne_of_none hb hpo) (by rw [upd_ne (ne_of_none hb hpo), upd_ne (ne_of_none hb hdo)]; exact hb)
  have s34 := same_new hpa (.lst [.ref po])
  have S0 : SK K H2 (upd H3 pa (.lst [.ref po])) pa 0 [⟨[], [], [], [], []⟩] := by
    refine ⟨C_Joining, C_Opened, [po], [fp], J_Joining.a, J_Opened.a, upd_same, ⟨O3.frame (X := []) (Nat.le_refl _) (fun b hb z => nomatch z) (sameX s34) s34.t, True.intro⟩, s23.trans s34, s23.free hpa, fun y hy b hb => ?_, by simp⟩
    rw [List.mem_singleton.mp hy] at hb
    refine ⟨?_, fun z => O3.there b hb (by rw [z]; exact hpa)⟩
    rcases hfp b hb with rfl | z
    · exact hpo
    · cases hh : H2 b with
      | none => rfl
      | some o => rw [upd_ne (ne_of_none hh hpo), upd_ne (ne_of_none hh hdo), hh] at z; cases z
  generalize upd H3 pa (.lst [.ref po]) = H4 at s34 S0
  have hD4 := (S0.base) _ _ hD2
  refine ⟨_, rfl, _, rfl, D, _, 0, _, rfl, rfl, SqL.of hD4, atI_nat (j := 0) rfl, H2, pa, 0, _, t0, rfl, S0, by simp, fr1, by (first | lia | omega), fun H5 S5 => ?_⟩
  have hD5 := S5.base _ _ hD2
  refine ⟨_, rfl, _, rfl, D, _, rfl, SqL.of hD5, fun ps hps5 => ?_⟩
  have ecut : cutV ((t0 :: prs.map fun p => p.1 ++ 125 :: p.2).map fun p => V.str (tx p)) (some 1) none = prs.map fun p => V.str (tx (p.1 ++ 125 :: p.2)) := by
    unfold cutV
    have e1 : HT.sIx ((t0 :: prs.map fun p => p.1 ++ 125 :: p.2).map fun p => V.str (tx p)).length 0 (some 1) = 1 := by
      rw [show (1 : Int) = ((1 : Nat) : Int) from rfl, HT.sIx_nat]
      simp only [List.length_map, List.length_cons]; (first | lia | omega)
    rw [e1]
    show List.take (((t0 :: prs.map fun p => p.1 ++ 125 :: p.2).map fun p => V.str (tx p)).length - 1) ((prs.map fun p => p.1 ++ 125 :: p.2).map fun p => V.str (tx p)) = _
    rw [List.take_of_length_le (by simp), List.map_map]; rfl
  rw [ecut]
  have hps2 : H2 ps = none := S5.base.free hps5
  have S6 := S5.add (o := .lst (prs.map fun p => V.str (tx (p.1 ++ 125 :: p.2)))) hps5
  have hps6 : upd H2 ps (.lst (prs.map fun p => V.str (tx (p.1 ++ 125 :: p.2)))) ps = some (.lst (prs.map fun p => V.str (tx (p.1 ++ 125 :: p.2)))) := upd_same
  have s26 := same_new hps2 (.lst (prs.map fun p => V.str (tx (p.1 ++ 125 :: p.2))))
  have hps6' : upd H5 ps (.lst (prs.map fun p => V.str (tx (p.1 ++ 125 :: p.2)))) ps = some (.lst (prs.map fun p => V.str (tx (p.1 ++ 125 :: p.2)))) := upd_same
  generalize upd H2 ps (.lst (prs.map fun p => V.str (tx (p.1 ++ 125 :: p.2)))) = H0 at S6 hps6 s26
  generalize upd H5 ps (.lst (prs.map fun p => V.str (tx (p.1 ++ 125 :: p.2)))) = H6 at S6 hps6'
  refine ⟨ps, rfl, ⟨_, SqL.of hps6'⟩, ?_⟩
  refine for_listN (xs := prs.map fun p => V.str (tx (p.1 ++ 125 :: p.2))) (fun i σ H7 => ∃ (st : List Frm) (M : Nat) (o3 o4 o5 o6 : Option V), σ = [some (.str (tx l)), some (.ref D), some (.ref pa), o3, o4, o5, o6] ∧ SK K H0 H7 pa M st ∧ runP nmOk (prs.drop i) st = some [⟨[], [], [], A, t⟩] ∧ M + 4 * psz (prs.drop i) ≤ 4 * l.length + 20 ∧ st ≠ [] ∧ st.length ≤ i + 1)
    ⟨_, _, _, _, _, _, rfl, S6, by rw [List.drop_zero]; exact hrunP, by rw [List.drop_zero]; (first | lia | omega), by simp [putTs], by simp [putTs]⟩ (fun i σ H7 hi pv => ?_) (fun i z σ H7 hz pv N B R hN => ?_) (fun σ H7 pv => ?_)
  · refine hold fun G_118 hG_118 => ?_
    obtain ⟨st, M, o3, o4, o5, o6, rfl, S, _⟩ := pv
    refine hG_118 ?_
    exact SqL.of (S.base _ _ hps6)
  · refine hold fun G_119 hG_119 => ?_
    obtain ⟨st, M, o3, o4, o5, o6, rfl, S, hr, hb, hne', hln⟩ := pv
    refine hG_119 ?_
    have hip : i < prs.length := by
      have := (List.getElem?_eq_some_iff.mp hz).1
      rwa [List.length_map] at this
    have hzz : z = V.str (tx (prs[i].1 ++ 125 :: prs[i].2)) := by
      rw [List.getElem?_map, List.getElem?_eq_getElem hip] at hz
      exact (Option.some.inj hz).symm
    subst hzz
    obtain ⟨f1, f2⟩ := fr2 prs[i] (List.getElem_mem hip)
    rw [List.drop_eq_getElem_cons hip] at hr hb
    have hilen : i ≤ psz prs := psz_len prs i (by (first | lia | omega))
    generalize prs[i] = pr at f1 f2 hr hb
    obtain ⟨m, t9⟩ := pr
    have hb' : psz ((m, t9) :: prs.drop (i + 1)) = m.length + t9.length + 1 + psz (prs.drop (i + 1)) := rfl
    have hr' : (stepM nmOk m st).bind (fun s => runP nmOk (prs.drop (i + 1)) (putTs t9 s)) = some [⟨[], [], [], A, t⟩] := hr
    cases hst1 : stepM nmOk m st with
    | none => rw [hst1] at hr'; cases hr'
    | some st1 =>
      rw [hst1] at hr'
      have hr2 : runP nmOk (prs.drop (i + 1)) (putTs t9 st1) = some [⟨[], [], [], A, t⟩] := hr'
      obtain ⟨g1, g2⟩ := stepM_len hst1
      refine ⟨_, rfl, rfl, m ++ 125 :: t9, 125, rfl, rfl, by rw [List.length_append, List.length_cons]; (first | lia | omega), fun p r e hp D2 hD2' => ?_, fun hn => absurd (by simp) hn⟩
      obtain ⟨rfl, rfl⟩ := cut_once f1 hp e
      have s8 := same_new hD2' (.tup [.str (tx m), .str (tx [125]), .str (tx t9)])
      refine ⟨D2, _, rfl, SqT.of upd_same, rfl, _, _, rfl, _, _, rfl, _, _, rfl, rfl, ?_⟩
      have S8 := S.same (Nat.le_refl _) s8
      refine ⟨_, rfl, rfl, _, rfl, ite2 (fun c => absurd c (by decide +kernel)) (fun _ => ?_)⟩
      refine ⟨_, rfl, _, rfl, H0, pa, M, st, st1, m, rfl, S8, by (first | lia | omega), by (first | lia | omega), by (first | lia | omega), hst1, fun H9 S9 => ?_⟩
      refine ⟨_, rfl, _, rfl, H0, pa, M + 2, st1, t9, rfl, S9, g1, f2, by (first | lia | omega), fun H10 S10 => ?_⟩
      exact hN _ _ ⟨_, _, _, _, _, _, rfl, S10, hr2, by (first | lia | omega), (fun z => g1 (by cases st1 with | nil => rfl | cons a b => cases z)), by rw [putTs_len]; (first | lia | omega)⟩
  · refine hold fun G_120 hG_120 => ?_
    obtain ⟨st, M, o3, o4, o5, o6, rfl, S, hr, hb, hne', hln⟩ := pv
    refine hG_120 ?_
    rw [List.length_map, List.drop_length] at hr hb
    have hr : some st = some [⟨[], [], [], A, t⟩] := hr
    cases hr
    refine hold fun G_121 hG_121 => ?_
    obtain ⟨CJ, CO, a, fp, avs, hCJ, hCO, hpaF, O, sH0, npa, cl⟩ := S.top
    refine hG_121 ?_
    cases hCJ.one J_Joining.a
    cases hCO.one J_Opened.a
    refine hold fun G_122 hG_122 => ?_
    obtain ⟨avs', ha1, ha2⟩ := S.len
    refine hG_122 ?_
    have eav : avs = [] := by
      rw [hpaF] at ha1
      injection ha1 with ha1
      injection ha1 with ha1
      rw [← ha1, List.length_append] at ha2
      exact List.length_eq_zero_iff.mp (by simpa using ha2)
    subst eav
    refine hold fun G_123 hG_123 => ?_
    obtain ⟨dx, pf, pj, dj, pn, pt, fvs, vs, ls, rfl, h1, h2, h3, J, h4, h5, h6, h7, b1, b2, b3, b4⟩ := O.ex
    refine hG_123 ?_
    have hlv : vs.length = A.length := h4.len.symm
    refine ⟨_, rfl, pa, _, rfl, .inl (SqL.of hpaF), _, _, rfl, rfl, _, rfl, ite2 (fun c => absurd c (by simp)) (fun _ => ?_)⟩
    refine ⟨_, rfl, pa, _, 0, .ref a, rfl, rfl, SqL.of hpaF, atI_nat (j := 0) rfl, a, _, dx, _, _, rfl, h1, J_Opened.cl, J_Opened.n_joining, flO_joining _ _ _ _, pj, dj, _, rfl, J.ob, fl_no _ _ (by decide +kernel) (by decide +kernel), ?_⟩
    have b1' : A.length ≤ M := b1
    have b2' : t.length ≤ M := b2
    have h5' : ls.flatten = t := h5
    have hb0 : psz [] = 0 := rfl
    refine ⟨pj, dj, pn, pt, vs, ls, rfl, J, by (first | lia | omega), by rw [h5']; (first | lia | omega), fun H8 p8 us s8 hp8 hp8' hus => ?_⟩
    refine ⟨p8, _, rfl, .inl ⟨SqL.of hp8', fun pz hpz => ?_⟩⟩
    have s9 := same_new hpz (.tup (vs ++ us))
    refine q _ _ (s1.trans (s2.trans (s26.trans (S.base.trans (s8.trans s9))))) ?_
    rw [← hds]
    rw [h5'] at hus
    exact dt_tup (SqT.of (TuO_tup upd_same)) (dts_app (h4.same (s8.trans s9).t.to) (hus.same s9.t.to))
theorem ok_take_text (T : Txt w K mg) {k : Nat} {C_Joining : Addr} (J_Joining : Txt_Joining K mg C_Joining) {C_Opened : Addr} (J_Opened : Txt_Opened K mg C_Opened) (G_Joining_put_text : MCal P w K mg base CX0 k C_Joining "put_text" ["self", "text"] (sp_Joining_put_text K C_Joining)) : Cal P w K mg base CX0 (k + 1) "take_text" ["around", "text"] (sp_take_text K) := by
  refine T.d_take_text.elim fun fa e => e.elim fun fd At => At.cal sc_take_text (fun vs H Q E h => ?_) (fun cdv A outer s H vs Q E hr h => ?_)
  · (first | (obtain ⟨_, rfl, _⟩ := h; rfl) | (obtain ⟨_, _, rfl, _⟩ := h; rfl) | (obtain ⟨_, _, _, rfl, _⟩ := h; rfl) | (obtain ⟨_, _, _, _, rfl, _⟩ := h; rfl) | (obtain ⟨_, _, _, _, _, rfl, _⟩ := h; rfl) | (obtain ⟨_, _, _, _, _, _, rfl, _⟩ := h; rfl) | (obtain ⟨_, _, _, _, _, _, _, rfl, _⟩ := h; rfl) | (obtain ⟨_, _, _, _, _, _, _, _, rfl, _⟩ := h; rfl) | (obtain ⟨_, _, _, _, _, _, _, _, _, rfl, _⟩ := h; rfl) | (obtain ⟨rfl, _⟩ := h; rfl) | exact h.elim)
  refine ⟨_, (@pss_cons _ _ _ _ _ (@ps_if _ _ _ _ _ _ _ _ (pt_cmpR op_inS (@pe_tx _ _ [125] _ _ rfl) (pv 1) (by with_unfolding_all rfl))
    (@pss_one _ _ _ ps_never)
    pss_nil)
    (@pss_one _ _ _ (ps_expr (pe_mth J_Joining.cl G_Joining_put_text hr (pe_fld (@pe_ix _ _ _ _ _ _ _ ix_list (pv 0) (pe_un un_neg pe_int) (fun _ _ => rfl)) rfl) (@pa_cons _ _ _ _ _ (pv 1) pa_nil rfl))))), ?_⟩
  refine hold fun G_102 hG_102 => ?_
  obtain ⟨H0, pa, M, st, l, rfl, S, hst, hl, hM, q⟩ := h
  refine hG_102 ?_
  cases st with
  | nil => exact absurd rfl hst
  | cons f st =>
  refine hold fun G_103 hG_103 => ?_
  obtain ⟨CJ, CO, a, fp, avs, hCJ, hCO, hpa, O, sH0, npa, cl⟩ := S.top
  refine hG_103 ?_
  cases hCJ.one J_Joining.a
  cases hCO.one J_Opened.a
  refine hold fun G_104 hG_104 => ?_
  obtain ⟨dx, pf, pj, dj, pn, pt, fvs, vs, ls, rfl, h1, h2, h3, J, h4, h5, h6, h7, b1, b2, b3, b4⟩ := O.ex
  refine hG_104 ?_
  refine ⟨_, rfl, 125, l, rfl, rfl, _, rfl, ?_⟩
  rw [decide_eq_false hl]
  refine iteF ?_
  refine ⟨_, rfl, _, rfl, pa, _, _, .ref a, rfl, rfl, SqL.of hpa, atI_last _ _, a, _, dx, _, _, rfl, h1, J_Opened.cl, J_Opened.n_joining, flO_joining _ _ _ _, pj, dj, _, rfl, J.ob, fl_no _ _ (by decide +kernel) (by decide +kernel), _, rfl, ?_⟩
  refine ⟨pj, dj, pn, pt, vs, ls, l, rfl, J, by (first | lia | omega), ?_⟩
  have njt : pj ≠ pt := ne_of J.ob J.tx (by intro z; cases z)
  have nat' : a ≠ pt := ne_of h1 J.tx (by intro z; cases z)
  have sT : SameT H (upd H pt (.lst (txs (ls ++ [l])))) := SameT.put J.tx
  refine q _ (cl _ [a, pf, pj, pn, pt] (f.putT l) _ (by (first | lia | omega)) (fun b o nb hb => by rw [upd_ne (fun z => nb (by rw [z]; simp))]; exact hb) (fun b hb => .inl hb) ⟨dx, pf, pj, dj, pn, pt, fvs, vs, ls ++ [l], rfl, by rw [upd_ne nat']; exact h1, by rw [upd_ne h7]; exact h2, h3.same sT.to, ⟨by rw [upd_ne njt]; exact J.ob, by rw [upd_ne J.ne]; exact J.nd, upd_same, J.ne⟩, h4.same sT.to, ?_, h6, h7, by show f.ns.length ≤ _; (first | lia | omega), ?_, by rw [List.length_append, List.length_singleton]; (first | lia | omega), by show f.fs.length ≤ _; (first | lia | omega)⟩)
  · rw [List.flatten_append, h5]; show f.ts ++ (l ++ []) = f.ts ++ l; rw [List.append_nil]
  · show (f.ts ++ l).length ≤ _
    rw [List.length_append]; (first | lia | omega)
theorem ok_take_mark (T : Txt w K mg) {k : Nat} {C_Joining : Addr} (J_Joining : Txt_Joining K mg C_Joining) {C_Opened : Addr} (J_Opened : Txt_Opened K mg C_Opened) (G_is_form_name : Cal P w K mg base CX0 k "is_form_name" ["thing"] (sp_is_form_name K)) (G_Joining_put_text : MCal P w K mg base CX0 k C_Joining "put_text" ["self", "text"] (sp_Joining_put_text K C_Joining)) (G_Joining_put_node : MCal P w K mg base CX0 k C_Joining "put_node" ["self", "node"] (sp_Joining_put_node K C_Joining)) (G_Opened_go_other : MCal P w K mg base CX0 k C_Opened "go_other" ["self"] (sp_Opened_go_other K C_Opened)) (G_take_end : Cal P w K mg base CX0 k "take_end" ["around"] (sp_take_end K)) (G_take_words : Cal P w K mg base CX0 k "take_words" ["around", "mark"] (sp_take_words K)) : Cal P w K mg base CX0 (k + 1) "take_mark" ["around", "mark"] (sp_take_mark K) := by
  refine T.d_take_mark.elim fun fa e => e.elim fun fd At => At.cal sc_take_mark (fun vs H Q E h => ?_) (fun cdv A outer s H vs Q E hr h => ?_)
  · (first | (obtain ⟨_, rfl, _⟩ := h; rfl) | (obtain ⟨_, _, rfl, _⟩ := h; rfl) | (obtain ⟨_, _, _, rfl, _⟩ := h; rfl) | (obtain ⟨_, _, _, _, rfl, _⟩ := h; rfl) | (obtain ⟨_, _, _, _, _, rfl, _⟩ := h; rfl) | (obtain ⟨_, _, _, _, _, _, rfl, _⟩ := h; rfl) | (obtain ⟨_, _, _, _, _, _, _, rfl, _⟩ := h; rfl) | (obtain ⟨_, _, _, _, _, _, _, _, rfl, _⟩ := h; rfl) | (obtain ⟨_, _, _, _, _, _, _, _, _, rfl, _⟩ := h; rfl) | (obtain ⟨rfl, _⟩ := h; rfl) | exact h.elim)
  obtain ⟨r_BRACKET_MARKS, g_BRACKET_MARKS, k_BRACKET_MARKS⟩ := T.g_BRACKET_MARKS
  refine ⟨_, (@pss_cons _ _ _ _ _ (@ps_set _ _ 2 _ _ _ _ sc_take_mark.nd rfl (Or.inl rfl) (@pe_ix _ _ _ _ _ _ _ ix_list (pv 0) (pe_un un_neg pe_int) (fun _ _ => rfl)) rfl (Or.inl rfl))
    (@pss_one _ _ _ (@ps_if _ _ _ _ _ _ _ _ (pt_cmpR op_inK (pv 1) (pe_gr g_BRACKET_MARKS rfl) (by with_unfolding_all rfl))
    (@pss_one _ _ _ (ps_expr (pe_mth J_Joining.cl G_Joining_put_text hr (pe_fld (pv 2) rfl) (@pa_cons _ _ _ _ _ (@pe_ix _ _ _ _ _ _ _ ix_ktab (pe_gr g_BRACKET_MARKS rfl) (pv 1) (fun _ _ => rfl)) pa_nil rfl))))
    (@pss_one _ _ _ (@ps_if _ _ _ _ _ _ _ _ (pt_cmpR op_eq (pv 1) (@pe_tx _ _ [101, 108, 115, 101] _ _ (by decide +kernel)) (nomark _))
      (@pss_one _ _ _ (ps_expr (pe_mth0 J_Opened.cl G_Opened_go_other hr (pv 2))))
      (@pss_one _ _ _ (@ps_if _ _ _ _ _ _ _ _ (pt_cmpR op_eq (pv 1) (@pe_tx _ _ [101, 110, 100] _ _ rfl) (nomark _))
        (@pss_one _ _ _ (ps_expr (pe_cal G_take_end hr (@pa_cons _ _ _ _ _ (pv 0) pa_nil rfl) rfl)))
        (@pss_one _ _ _ (@ps_if _ _ _ _ _ _ _ _ (pt_val (pe_cal G_is_form_name hr (@pa_cons _ _ _ _ _ (pv 1) pa_nil rfl) rfl))
          (@pss_one _ _ _ (ps_expr (pe_mth J_Joining.cl G_Joining_put_node hr (pe_fld (pv 2) rfl) (@pa_cons _ _ _ _ _ (@pe_tup _ _ _ _ _ (@pa_cons _ _ _ _ _ (@pe_tx _ _ [103, 97, 112] _ _ rfl) (@pa_cons _ _ _ _ _ (pv 1) pa_nil star_n) star_c)) pa_nil rfl))))
          (@pss_one _ _ _ (ps_expr (pe_cal G_take_words hr (@pa_cons _ _ _ _ _ (pv 0) (@pa_cons _ _ _ _ _ (pv 1) pa_nil star_n) star_n) rfl)))))))))))), ?_⟩
  refine hold fun G_114 hG_114 => ?_
  obtain ⟨H0, pa, M, st, st', m, rfl, S, hstl, hM, hml, hstep, q⟩ := h
  refine hG_114 ?_
  cases st with
  | nil => cases hstep
  | cons g st =>
  refine hold fun G_115 hG_115 => ?_
  obtain ⟨CJ', CO', a', fp', avs', hCJ', hCO', hpa', O', sH0', npa', cl'⟩ := S.top
  refine hG_115 ?_
  cases hCJ'.one J_Joining.a
  cases hCO'.one J_Opened.a
  refine hold fun G_116 hG_116 => ?_
  obtain ⟨dx', pf', pj', dj', pn', pt', fvs', vs', ls', rfl, h1', h2', h3', J', h4', h5', h6', h7', b1', b2', b3', b4'⟩ := O'.ex
  refine hG_116 ?_
  have hlv : vs'.length = g.ns.length := h4'.len.symm
  refine ⟨_, rfl, _, rfl, pa, _, _, .ref a', rfl, rfl, SqL.of hpa', atI_last _ _, ?_⟩
  refine ⟨_, rfl, m, r_BRACKET_MARKS, _, rfl, rfl, k_BRACKET_MARKS, _, rfl, ?_⟩
  dsimp only [stepM] at hstep
  by_cases e1 : m = [40]
  · subst e1
    rw [if_pos rfl] at hstep
    cases hstep
    refine ite2 (fun _ => ?_) (fun c => absurd (by decide +kernel) c)
    obtain ⟨l, el⟩ : ∃ l : List Nat, l = [123] := ⟨_, rfl⟩
    refine ⟨_, rfl, a', _, dx', _, _, rfl, h1', J_Opened.cl, J_Opened.n_joining, flO_joining _ _ _ _, pj', dj', _, rfl, J'.ob, fl_no _ _ (by decide +kernel) (by decide +kernel), _, rfl, [40], r_BRACKET_MARKS, _, .str (tx [123]), rfl, rfl, k_BRACKET_MARKS, by decide +kernel, ?_⟩
    refine ⟨pj', dj', pn', pt', vs', ls', l, by rw [el]; rfl, J', by (first | lia | omega), ?_⟩
    rw [← el] at q
    have hl1 : l.length = 1 := by rw [el]; rfl
    have njt : pj' ≠ pt' := ne_of J'.ob J'.tx (by intro z; cases z)
    have nat' : a' ≠ pt' := ne_of h1' J'.tx (by intro z; cases z)
    have sT : SameT H (upd H pt' (.lst (txs (ls' ++ [l])))) := SameT.put J'.tx
    refine q _ (cl' _ [a', pf', pj', pn', pt'] (g.putT l) _ (by (first | lia | omega)) (fun b o nb hb => by rw [upd_ne (fun z => nb (by rw [z]; simp))]; exact hb) (fun b hb => .inl hb) ⟨dx', pf', pj', dj', pn', pt', fvs', vs', ls' ++ [l], rfl, by rw [upd_ne nat']; exact h1', by rw [upd_ne h7']; exact h2', h3'.same sT.to, ⟨by rw [upd_ne njt]; exact J'.ob, by rw [upd_ne J'.ne]; exact J'.nd, upd_same, J'.ne⟩, h4'.same sT.to, ?_, h6', h7', by show g.ns.length ≤ _; (first | lia | omega), ?_, by rw [List.length_append, List.length_singleton]; (first | lia | omega), by show g.fs.length ≤ _; (first | lia | omega)⟩)
    · rw [List.flatten_append, h5']; show g.ts ++ (l ++ []) = g.ts ++ l; rw [List.append_nil]
    · show (g.ts ++ l).length ≤ _
      rw [List.length_append]; (first | lia | omega)
  by_cases e2 : m = [41]
  · subst e2
    rw [if_neg (by decide), if_pos rfl] at hstep
    cases hstep
    refine ite2 (fun _ => ?_) (fun c => absurd (by decide +kernel) c)
    obtain ⟨l, el⟩ : ∃ l : List Nat, l = [125] := ⟨_, rfl⟩
    refine ⟨_, rfl, a', _, dx', _, _, rfl, h1', J_Opened.cl, J_Opened.n_joining, flO_joining _ _ _ _, pj', dj', _, rfl, J'.ob, fl_no _ _ (by decide +kernel) (by decide +kernel), _, rfl, [41], r_BRACKET_MARKS, _, .str (tx [125]), rfl, rfl, k_BRACKET_MARKS, by decide +kernel, ?_⟩
    refine ⟨pj', dj', pn', pt', vs', ls', l, by rw [el]; rfl, J', by (first | lia | omega), ?_⟩
    rw [← el] at q
    have hl1 : l.length = 1 := by rw [el]; rfl
    have njt : pj' ≠ pt' := ne_of J'.ob J'.tx (by intro z; cases z)
    have nat' : a' ≠ pt' := ne_of h1' J'.tx (by intro z; cases z)
    have sT : SameT H (upd H pt' (.lst (txs (ls' ++ [l])))) := SameT.put J'.tx
    refine q _ (cl' _ [a', pf', pj', pn', pt'] (g.putT l) _ (by (first | lia | omega)) (fun b o nb hb => by rw [upd_ne (fun z => nb (by rw [z]; simp))]; exact hb) (fun b hb => .inl hb) ⟨dx', pf', pj', dj', pn', pt', fvs', vs', ls' ++ [l], rfl, by rw [upd_ne nat']; exact h1', by rw [upd_ne h7']; exact h2', h3'.same sT.to, ⟨by rw [upd_ne njt]; exact J'.ob, by rw [upd_ne J'.ne]; exact J'.nd, upd_same, J'.ne⟩, h4'.same sT.to, ?_, h6', h7', by show g.ns.length ≤ _; (first | lia | omega), ?_, by rw [List.length_append, List.length_singleton]; (first | lia | omega), by show g.fs.length ≤ _; (first | lia | omega)⟩)
    · rw [List.flatten_append, h5']; show g.ts ++ (l ++ []) = g.ts ++ l; rw [List.append_nil]
    · show (g.ts ++ l).length ≤ _
      rw [List.length_append]; (first | lia | omega)
  rw [if_neg e1, if_neg e2] at hstep
  have hno : (tab_BRACKET_MARKS.lookup m).isSome = false := by
    unfold tab_BRACKET_MARKS
    have e : ∀ d, m ≠ d → (m == d) = false := fun d h => by simpa using h
    simp only [List.lookup_cons, e _ e1, e _ e2, List.lookup_nil]; rfl
  rw [hno]
  refine iteF ?_
  refine ⟨_, rfl, rfl, _, rfl, ?_⟩
  by_cases e3 : m = mElse
  · rw [if_pos e3] at hstep
    refine iteTb (decide_eq_true (show V.str (tx m) = V.str (tx [101, 108, 115, 101]) by rw [e3]; rfl)) ?_
    split at hstep
    · rename_i hc
      cases hstep
      refine ⟨_, rfl, a', dx', _, rfl, h1', flO_no _ _ _ _ (by decide +kernel) (by decide +kernel) (by decide +kernel) (by decide +kernel), a', _, _, M, g, rfl, hCJ', O', by (first | lia | omega), hc.1, hc.2, fun H8 fp8 O8 sX8 hf8 => ?_⟩
      exact q _ ((cl' H8 fp8 g.endF (M + 1) (by (first | lia | omega)) sX8 hf8 O8).same (by (first | lia | omega)) (Same.refl _))
    · cases hstep
  rw [if_neg e3] at hstep
  refine iteFb (decide_eq_false (show ¬ V.str (tx m) = V.str (tx [101, 108, 115, 101]) from fun z => e3 (V.str_inj.mp z))) ?_
  refine ⟨_, rfl, rfl, _, rfl, ?_⟩
  by_cases e4 : m = mEnd
  · rw [if_pos e4] at hstep
    refine iteTb (decide_eq_true (show V.str (tx m) = V.str (tx [101, 110, 100]) by rw [e4]; rfl)) ?_
    cases st with
    | nil => cases hstep
    | cons g2 st =>
      cases hstep
      exact ⟨_, rfl, H0, pa, M, st, g, g2, rfl, S, by (first | lia | omega), q⟩
  rw [if_neg e4] at hstep
  refine iteFb (decide_eq_false (show ¬ V.str (tx m) = V.str (tx [101, 110, 100]) from fun z => e4 (V.str_inj.mp z))) ?_
  refine ⟨_, rfl, _, .str m, rfl, th_str (by (first | lia | omega)), fun H3 s3 => ⟨_, rfl, ?_⟩⟩
  show if nmOk m = true then _ else _
  by_cases e5 : nmOk m = true
  · rw [if_pos e5] at hstep ⊢
    cases hstep
    have h1a := s3 _ _ h1'
    refine ⟨_, rfl, a', _, dx', _, _, rfl, h1a, J_Opened.cl, J_Opened.n_joining, flO_joining _ _ _ _, pj', dj', _, rfl, s3 _ _ J'.ob, fl_no _ _ (by decide +kernel) (by decide +kernel), _, rfl, by show 2 ≤ sizeLine; decide, fun p9 hp9 => ?_⟩
    have s39 := s3.trans (same_new hp9 (.tup [.str (tx [103, 97, 112]), .str (tx m)]))
    have hv : IsDt K (TuO (upd H3 p9 (.tup [.str (tx [103, 97, 112]), .str (tx m)]))) (.tup [.str wGap, .str m]) (.ref p9) := dt_tup (SqT.of (TuO_tup upd_same)) (dts_cons dt_str (dts_cons dt_str dts_nil))
    generalize upd H3 p9 (.tup [.str (tx [103, 97, 112]), .str (tx m)]) = H4 at s39 hv
    have cl : ∀ H' fp' f' M', M ≤ M' → SameX [a', pf', pj', pn', pt'] H4 H' → (∀ b ∈ fp', b ∈ [a', pf', pj', pn', pt'] ∨ H4 b = none) → OAt K C_Joining C_Opened H' a' fp' M' f' → SK K H0 H' pa M' (f' :: st) := fun H' fp' f' M' hm sX hf O => cl' H' fp' f' M' hm (fun b o nb hb => sX b o nb (s39 b o hb)) (fun b hb => (hf b hb).imp id s39.free) O
    have J' := J'.same s39
    have h1' := s39 _ _ h1'
    have h2' := s39 _ _ h2'
    have h3' := h3'.same s39.t.to
    have h4' := h4'.same s39.t.to
    refine ⟨pj', dj', pn', pt', vs', ls', .ref p9, rfl, J', by (first | lia | omega), by rw [h5']; (first | lia | omega), fun H8 pn2 pt2 us sB8 hpn2 hpt2 J8 hus8 => ?_⟩
    refine q _ (cl _ [a', pf', pj', pn2, pt2] (g.putN (.tup [.str wGap, .str m])) _ (by (first | lia | omega)) ?_ ?_ ?_)
    · exact fun b o nb hb => sB8 b o (fun z => nb (by rw [z]; simp)) hb
    · intro b hb
      simp only [List.mem_cons, List.mem_nil_iff, or_false] at hb ⊢
      rcases hb with rfl | rfl | rfl | rfl | rfl
      · exact .inl (.inl rfl)
      · exact .inl (.inr (.inl rfl))
      · exact .inl (.inr (.inr (.inl rfl)))
      · exact .inr hpn2
      · exact .inr hpt2
    · have sT8 : SameT _ H8 := SameBi sB8 J'.ob
      have naj : a' ≠ pj' := fun z => by
        have e := h1'
        rw [z, J'.ob] at e
        injection e with e
        injection e with _ _ e
        exact absurd (congrArg List.length e) (by show ¬ 2 = 4; decide)
      have nfj : pf' ≠ pj' := ne_of h2' J'.ob (by intro z; cases z)
      have hju : (jt g.ts).length ≤ 1 := by unfold jt; split <;> simp
      have h5c := h5'
      rw [h5'] at hus8
      refine ⟨dx', pf', pj', dj', pn2, pt2, fvs', _, [], rfl, sB8 _ _ naj h1', sB8 _ _ nfj h2', h3'.same sT8.to, J8, dts_snoc (dts_app (h4'.same sT8.to) hus8) (hv.same sT8.to), rfl, (fun z => by rw [z] at h2'; rw [h2'] at hpn2; cases hpn2), (fun z => by rw [z] at h2'; rw [h2'] at hpt2; cases hpt2), ?_, Nat.zero_le _, Nat.zero_le _, ?_⟩
      · show (g.ns ++ jt g.ts ++ [_]).length ≤ M + 2
        rw [List.length_append, List.length_append, List.length_singleton]; (first | lia | omega)
      · show g.fs.length ≤ _
        (first | lia | omega)
  rw [if_neg e5] at hstep ⊢
  have S3 := S.same (Nat.le_refl _) s3
  have hcut : ∀ w' : List Nat, m.takeWhile (· ≠ 32) = w' → nmOk ((m.dropWhile (· ≠ 32)).drop 1) = true → m = w' ++ [32] ++ (m.dropWhile (· ≠ 32)).drop 1 := fun w' hw hx => by
    have h0 := List.takeWhile_append_dropWhile (p := fun x => decide (x ≠ 32)) (l := m)
    cases hd : m.dropWhile (· ≠ 32) with
    | nil => rw [hd] at hx; exact absurd hx (by decide +kernel)
    | cons c r =>
      have hc : c = 32 := by
        have := List.head_dropWhile_not (l := m) (fun x => decide (x ≠ 32)) (by rw [hd]; simp)
        simp only [hd, List.head_cons] at this
        simpa using this
      rw [hd, hw, hc] at h0
      rw [← h0]; simp
  by_cases e6 : m.takeWhile (· ≠ 32) = wUse ∧ nmOk ((m.dropWhile (· ≠ 32)).drop 1) = true
  · rw [if_pos e6] at hstep
    cases hstep
    refine ⟨_, rfl, _, rfl, H0, pa, M, st, g, wUse, _, ?_, S3, by rw [List.length_cons] at hstl; (first | lia | omega), hM, .inl rfl, e6.2, fun H8 S8 => q _ (by rw [if_pos rfl] at S8; exact S8)⟩
    rw [← hcut wUse e6.1 e6.2]; rfl
  rw [if_neg e6] at hstep
  split at hstep
  · rename_i e7
    cases hstep
    have hwu : ¬ m.takeWhile (· ≠ 32) = wUse := fun z => e6 ⟨z, e7.2⟩
    refine ⟨_, rfl, _, rfl, H0, pa, M, st, g, _, _, ?_, S3, by rw [List.length_cons] at hstl; (first | lia | omega), hM, .inr e7.1, e7.2, fun H8 S8 => q _ (by rw [if_neg hwu] at S8; exact S8)⟩
    rw [← hcut _ rfl e7.2]; rfl
  · cases hstep
theorem ok_take_end (T : Txt w K mg) {k : Nat} {C_Joining : Addr} (J_Joining : Txt_Joining K mg C_Joining) {C_Opened : Addr} (J_Opened : Txt_Opened K mg C_Opened) (G_Joining_put_node : MCal P w K mg base CX0 k C_Joining "put_node" ["self", "node"] (sp_Joining_put_node K C_Joining)) (G_Opened_ended : MCal P w K mg base CX0 k C_Opened "ended" ["self"] (sp_Opened_ended K C_Opened)) : Cal P w K mg base CX0 (k + 1) "take_end" ["around"] (sp_take_end K) := by
  refine T.d_take_end.elim fun fa e => e.elim fun fd At => At.cal sc_take_end (fun vs H Q E h => ?_) (fun cdv A outer s H vs Q E hr h => ?_)
  · (first | (obtain ⟨_, rfl, _⟩ := h; rfl) | (obtain ⟨_, _, rfl, _⟩ := h; rfl) | (obtain ⟨_, _, _, rfl, _⟩ := h; rfl) | (obtain ⟨_, _, _, _, rfl, _⟩ := h; rfl) | (obtain ⟨_, _, _, _, _, rfl, _⟩ := h; rfl) | (obtain ⟨_, _, _, _, _, _, rfl, _⟩ := h; rfl) | (obtain ⟨_, _, _, _, _, _, _, rfl, _⟩ := h; rfl) | (obtain ⟨_, _, _, _, _, _, _, _, rfl, _⟩ := h; rfl) | (obtain ⟨_, _, _, _, _, _, _, _, _, rfl, _⟩ := h; rfl) | (obtain ⟨rfl, _⟩ := h; rfl) | exact h.elim)
  have m_len := T.m_len
  refine ⟨_, (@pss_cons _ _ _ _ _ (@ps_if _ _ _ _ _ _ _ _ (pt_cmpR op_eq (pe_callB call_len_seq rfl m_len boLen (@pa_cons _ _ _ _ _ (pv 0) pa_nil rfl)) pe_int (nomark _))
    (@pss_one _ _ _ ps_never)
    pss_nil)
    (@pss_cons _ _ _ _ _ (@ps_set _ _ 1 _ _ _ _ sc_take_end.nd rfl (Or.inl rfl) (pe_mth0 J_Opened.cl G_Opened_ended hr (pe_bm0 PySem.F.plainAttrs_list PySem.F.slot_list_pop PySem.F.type_list_pop mt_pop (pv 0))) rfl (Or.inl rfl))
    (@pss_one _ _ _ (ps_expr (pe_mth J_Joining.cl G_Joining_put_node hr (pe_fld (@pe_ix _ _ _ _ _ _ _ ix_list (pv 0) (pe_un un_neg pe_int) (fun _ _ => rfl)) rfl) (@pa_cons _ _ _ _ _ (pv 1) pa_nil rfl)))))), ?_⟩
  refine hold fun G_105 hG_105 => ?_
  obtain ⟨H0, pa, M, st, f, g, rfl, S, hM, q⟩ := h
  refine hG_105 ?_
  refine hold fun G_106 hG_106 => ?_
  obtain ⟨CJ, CO, a, fp, avs, hCJ, hCO, hpa, O, npa, hl2, cl⟩ := S.pop
  refine hG_106 ?_
  cases hCJ.one J_Joining.a
  cases hCO.one J_Opened.a
  refine ⟨_, rfl, pa, _, rfl, .inl (SqL.of hpa), rfl, _, rfl, ?_⟩
  refine iteFb (decide_eq_false (show ¬ V.int (((avs ++ [V.ref a]).length : Nat) : Int) = V.int 1 from fun z => by injection z; (first | lia | omega))) ?_
  refine ⟨_, rfl, .inl ⟨rfl, _, SqL.of hpa⟩, pa, _, .ref a, rfl, rfl, hpa, by simp, ?_⟩
  rw [List.dropLast_concat]
  have sB1 : SameX [pa] H (upd H pa (.lst avs)) := fun b o nb hb => by rw [upd_ne (fun z => nb (by rw [z]; simp))]; exact hb
  have sT1 : SameT H (upd H pa (.lst avs)) := SameT.put hpa
  have O1 : OAt K C_Joining C_Opened (upd H pa (.lst avs)) a fp M f := O.frame (Nat.le_refl _) (fun b hb z => npa (by rw [← List.mem_singleton.mp z]; exact hb)) sB1 sT1
  have hpa1 : upd H pa (.lst avs) pa = some (.lst avs) := upd_same
  generalize upd H pa (.lst avs) = H1 at sB1 sT1 O1 hpa1
  refine hold fun G_107 hG_107 => ?_
  obtain ⟨dx, pf, pj, dj, pn, pt, fvs, vs, ls, efp, h1, _⟩ := O1.ex
  refine hG_107 ?_
  refine ⟨a, dx, _, rfl, h1, flO_no _ _ _ _ (by decide +kernel) (by decide +kernel) (by decide +kernel) (by decide +kernel), a, _, fp, M, f, rfl, hCJ, O1, by (first | lia | omega), fun H2 v hv sX2 sT2 => ?_⟩
  have hpa2 := sX2 _ _ npa hpa1
  have S2 := cl H2 M (Nat.le_refl _) (fun b o nb np hb => sX2 b o nb (sB1 b o (fun z => np (List.mem_singleton.mp z)) hb)) (sT1.trans sT2) hpa2
  refine hold fun G_108 hG_108 => ?_
  obtain ⟨CJ', CO', a', fp', avs', hCJ', hCO', hpa', O', sH0', npa', cl'⟩ := S2.top
  refine hG_108 ?_
  cases hCJ'.one J_Joining.a
  cases hCO'.one J_Opened.a
  refine hold fun G_109 hG_109 => ?_
  obtain ⟨dx', pf', pj', dj', pn', pt', fvs', vs', ls', rfl, h1', h2', h3', J', h4', h5', h6', h7', b1', b2', b3', b4'⟩ := O'.ex
  refine hG_109 ?_
  have hlv : vs'.length = g.ns.length := h4'.len.symm
  refine ⟨_, rfl, _, rfl, pa, _, _, .ref a', rfl, rfl, SqL.of hpa', atI_last _ _, a', _, dx', _, _, rfl, h1', J_Opened.cl, J_Opened.n_joining, flO_joining _ _ _ _, pj', dj', _, rfl, J'.ob, fl_no _ _ (by decide +kernel) (by decide +kernel), _, rfl, ?_⟩
  refine ⟨pj', dj', pn', pt', vs', ls', v, rfl, J', by (first | lia | omega), by rw [h5']; (first | lia | omega), fun H8 pn2 pt2 us sB8 hpn2 hpt2 J8 hus8 => ?_⟩
  refine q _ (cl' _ [a', pf', pj', pn2, pt2] (g.putN f.node) _ (by (first | lia | omega)) ?_ ?_ ?_)
  · exact fun b o nb hb => sB8 b o (fun z => nb (by rw [z]; simp)) hb
  · intro b hb
    simp only [List.mem_cons, List.mem_nil_iff, or_false] at hb ⊢
    rcases hb with rfl | rfl | rfl | rfl | rfl
    · exact .inl (.inl rfl)
    · exact .inl (.inr (.inl rfl))
    · exact .inl (.inr (.inr (.inl rfl)))
    · exact .inr hpn2
    · exact .inr hpt2
  · have sT8 : SameT _ H8 := SameBi sB8 J'.ob
    have naj : a' ≠ pj' := fun z => by
      have e := h1'
      rw [z, J'.ob] at e
      injection e with e
      injection e with _ _ e
      exact absurd (congrArg List.length e) (by show ¬ 2 = 4; decide)
    have nfj : pf' ≠ pj' := ne_of h2' J'.ob (by intro z; cases z)
    have hju : (jt g.ts).length ≤ 1 := by unfold jt; split <;> simp
    have h5c := h5'
    rw [h5'] at hus8
    refine ⟨dx', pf', pj', dj', pn2, pt2, fvs', _, [], rfl, sB8 _ _ naj h1', sB8 _ _ nfj h2', h3'.same sT8.to, J8, dts_snoc (dts_app (h4'.same sT8.to) hus8) (hv.same sT8.to), rfl, (fun z => by rw [z] at h2'; rw [h2'] at hpn2; cases hpn2), (fun z => by rw [z] at h2'; rw [h2'] at hpt2; cases hpt2), ?_, Nat.zero_le _, Nat.zero_le _, ?_⟩
    · show (g.ns ++ jt g.ts ++ [_]).length ≤ M + 2
      rw [List.length_append, List.length_append, List.length_singleton]; (first | lia | omega)
    · show g.fs.length ≤ _
      (first | lia | omega)
theorem ok_take_words (T : Txt w K mg) {k : Nat} {C_Joining : Addr} (J_Joining : Txt_Joining K mg C_Joining) {C_Opened : Addr} (J_Opened : Txt_Opened K mg C_Opened) (G_is_form_name : Cal P w K mg base CX0 k "is_form_name" ["thing"] (sp_is_form_name K)) (G_Joining_put_node : MCal P w K mg base CX0 k C_Joining "put_node" ["self", "node"] (sp_Joining_put_node K C_Joining)) (G_Opened___init__ : KCal P w K mg base CX0 k C_Opened "Opened" ["self", "kind", "name"] (sp_Opened___init__ K C_Opened)) : Cal P w K mg base CX0 (k + 1) "take_words" ["around", "mark"] (sp_take_words K) := by
  refine T.d_take_words.elim fun fa e => e.elim fun fd At => At.cal sc_take_words (fun vs H Q E h => ?_) (fun cdv A outer s H vs Q E hr h => ?_)
  · (first | (obtain ⟨_, rfl, _⟩ := h; rfl) | (obtain ⟨_, _, rfl, _⟩ := h; rfl) | (obtain ⟨_, _, _, rfl, _⟩ := h; rfl) | (obtain ⟨_, _, _, _, rfl, _⟩ := h; rfl) | (obtain ⟨_, _, _, _, _, rfl, _⟩ := h; rfl) | (obtain ⟨_, _, _, _, _, _, rfl, _⟩ := h; rfl) | (obtain ⟨_, _, _, _, _, _, _, rfl, _⟩ := h; rfl) | (obtain ⟨_, _, _, _, _, _, _, _, rfl, _⟩ := h; rfl) | (obtain ⟨_, _, _, _, _, _, _, _, _, rfl, _⟩ := h; rfl) | (obtain ⟨rfl, _⟩ := h; rfl) | exact h.elim)
  refine ⟨_, (@pss_cons _ _ _ _ _ (ps_asg (pe_bm PySem.F.plainAttrs_str PySem.F.slot_str_partition PySem.F.type_str_partition mt_part (pv 1) (@pa_cons _ _ _ _ _ (@pe_tx _ _ [32] _ _ rfl) pa_nil rfl)) (pg_tup rfl (pgs_cons (pg_name (i := 2) sc_take_words.nd rfl (Or.inl rfl)) (pgs_cons (pg_name (i := 3) sc_take_words.nd rfl (Or.inl rfl)) (pgs_cons (pg_name (i := 4) sc_take_words.nd rfl (Or.inl rfl)) pgs_nil)))))
    (@pss_cons _ _ _ _ _ (@ps_if _ _ _ _ _ _ _ _ (PW.pt (pw_or (pt_cmpR op_notIn_seq (pv 2) (@pe_tup _ _ _ _ _ (@pa_cons _ _ _ _ _ (@pe_tx _ _ [105, 102] _ _ rfl) (@pa_cons _ _ _ _ _ (@pe_tx _ _ [101, 97, 99, 104] _ _ (by decide +kernel)) (@pa_cons _ _ _ _ _ (@pe_tx _ _ [117, 115, 101] _ _ rfl) pa_nil star_c) star_c) star_c)) (by with_unfolding_all rfl)) (pw_or1 (pt_not (pt_val (pe_cal G_is_form_name hr (@pa_cons _ _ _ _ _ (pv 4) pa_nil rfl) rfl))))))
    (@pss_one _ _ _ ps_never)
    pss_nil)
    (@pss_one _ _ _ (@ps_if _ _ _ _ _ _ _ _ (pt_cmpR op_eq (pv 2) (@pe_tx _ _ [117, 115, 101] _ _ rfl) (nomark _))
    (@pss_one _ _ _ (ps_expr (pe_mth J_Joining.cl G_Joining_put_node hr (pe_fld (@pe_ix _ _ _ _ _ _ _ ix_list (pv 0) (pe_un un_neg pe_int) (fun _ _ => rfl)) rfl) (@pa_cons _ _ _ _ _ (@pe_tup _ _ _ _ _ (@pa_cons _ _ _ _ _ (@pe_tx _ _ [117, 115, 101] _ _ rfl) (@pa_cons _ _ _ _ _ (pv 4) pa_nil star_n) star_c)) pa_nil rfl))))
    (@pss_one _ _ _ (ps_expr (pe_bm PySem.F.plainAttrs_list PySem.F.slot_list_append PySem.F.type_list_append mt_append (pv 0) (@pa_cons _ _ _ _ _ (pe_mk G_Opened___init__ hr (@pa_cons _ _ _ _ _ (pv 2) (@pa_cons _ _ _ _ _ (pv 4) pa_nil star_n) star_n) rfl) pa_nil rfl)))))))), ?_⟩
  refine hold fun G_110 hG_110 => ?_
  obtain ⟨H0, pa, M, st, g, w', x, rfl, S, hstl, hM, hw, hx, q⟩ := h
  refine hG_110 ?_
  have hw32 : 32 ∉ w' := by rcases hw with rfl | rfl | rfl <;> decide
  have hx8 : x.length ≤ 8 := by
    unfold nmOk at hx
    simp only [Bool.and_eq_true, decide_eq_true_eq] at hx
    exact hx.1.2.2
  have hw4 : w'.length ≤ 4 := by rcases hw with rfl | rfl | rfl <;> decide
  refine ⟨_, rfl, rfl, w' ++ [32] ++ x, 32, rfl, rfl, by rw [List.length_append, List.length_append, List.length_singleton]; (first | lia | omega), fun p r e hp D hD => ?_, fun hn => absurd (by simp) hn⟩
  have e' : p ++ 32 :: r = w' ++ 32 :: x := by rw [← e]; simp
  obtain ⟨rfl, rfl⟩ := cut_once hp hw32 e'
  have s1 := same_new hD (.tup [.str (tx p), .str (tx [32]), .str (tx r)])
  refine ⟨D, _, rfl, SqT.of upd_same, rfl, _, _, rfl, _, _, rfl, _, _, rfl, rfl, ?_⟩
  have S1 := S.same (Nat.le_refl _) s1
  generalize upd H D (.tup [.str (tx p), .str (tx [32]), .str (tx r)]) = H1 at s1 S1
  refine ⟨_, rfl, by show 3 ≤ sizeLine; decide, fun p2 hp2 => ?_⟩
  have s2 := same_new hp2 (.tup [.str (tx [105, 102]), .str (tx [101, 97, 99, 104]), .str (tx [117, 115, 101])])
  refine ⟨p2, _, rfl, .inr (SqT.of upd_same), rfl, rfl, _, rfl, ?_⟩
  have S2 := S1.same (Nat.le_refl _) s2
  generalize upd H1 p2 (.tup [.str (tx [105, 102]), .str (tx [101, 97, 99, 104]), .str (tx [117, 115, 101])]) = H2 at s2 S2
  refine ite2 (fun c => absurd c (by rcases hw with rfl | rfl | rfl <;> decide +kernel)) (fun _ => ?_)
  refine ⟨_, rfl, _, .str r, rfl, th_str (by (first | lia | omega)), fun H3 s3 => ⟨_, rfl, ?_⟩⟩
  rw [show isNm (.str r) = true from hx]
  refine iteF ?_
  have S3 := S2.same (Nat.le_refl _) s3
  refine ⟨_, rfl, rfl, _, rfl, ?_⟩
  by_cases hu : p = wUse
  · rw [if_pos hu] at q
    refine iteTb (decide_eq_true (show V.str (tx p) = V.str (tx [117, 115, 101]) by rw [hu]; rfl)) ?_
    refine hold fun G_111 hG_111 => ?_
    obtain ⟨CJ', CO', a', fp', avs', hCJ', hCO', hpa', O', sH0', npa', cl'⟩ := S3.top
    refine hG_111 ?_
    cases hCJ'.one J_Joining.a
    cases hCO'.one J_Opened.a
    refine hold fun G_112 hG_112 => ?_
    obtain ⟨dx', pf', pj', dj', pn', pt', fvs', vs', ls', rfl, h1', h2', h3', J', h4', h5', h6', h7', b1', b2', b3', b4'⟩ := O'.ex
    refine hG_112 ?_
    have hlv : vs'.length = g.ns.length := h4'.len.symm
    refine ⟨_, rfl, _, rfl, pa, _, _, .ref a', rfl, rfl, SqL.of hpa', atI_last _ _, a', _, dx', _, _, rfl, h1', J_Opened.cl, J_Opened.n_joining, flO_joining _ _ _ _, pj', dj', _, rfl, J'.ob, fl_no _ _ (by decide +kernel) (by decide +kernel), _, rfl, by show 2 ≤ sizeLine; decide, fun p9 hp9 => ?_⟩
    have s9 := same_new hp9 (.tup [.str (tx [117, 115, 101]), .str (tx r)])
    have hv : IsDt K (TuO (upd H3 p9 (.tup [.str (tx [117, 115, 101]), .str (tx r)]))) (.tup [.str wUse, .str r]) (.ref p9) := dt_tup (SqT.of (TuO_tup upd_same)) (dts_cons dt_str (dts_cons dt_str dts_nil))
    generalize upd H3 p9 (.tup [.str (tx [117, 115, 101]), .str (tx r)]) = H4 at s9 hv
    have cl : ∀ H' fp' f' M', M ≤ M' → SameX [a', pf', pj', pn', pt'] H4 H' → (∀ b ∈ fp', b ∈ [a', pf', pj', pn', pt'] ∨ H4 b = none) → OAt K C_Joining C_Opened H' a' fp' M' f' → SK K H0 H' pa M' (f' :: st) := fun H' fp' f' M' hm sX hf O => cl' H' fp' f' M' hm (fun b o nb hb => sX b o nb (s9 b o hb)) (fun b hb => (hf b hb).imp id s9.free) O
    have J' := J'.same s9
    have h1' := s9 _ _ h1'
    have h2' := s9 _ _ h2'
    have h3' := h3'.same s9.t.to
    have h4' := h4'.same s9.t.to
    refine ⟨pj', dj', pn', pt', vs', ls', .ref p9, rfl, J', by (first | lia | omega), by rw [h5']; (first | lia | omega), fun H8 pn2 pt2 us sB8 hpn2 hpt2 J8 hus8 => ?_⟩
    refine q _ (cl _ [a', pf', pj', pn2, pt2] (g.putN (.tup [.str wUse, .str r])) _ (by (first | lia | omega)) ?_ ?_ ?_)
    · exact fun b o nb hb => sB8 b o (fun z => nb (by rw [z]; simp)) hb
    · intro b hb
      simp only [List.mem_cons, List.mem_nil_iff, or_false] at hb ⊢
      rcases hb with rfl | rfl | rfl | rfl | rfl
      · exact .inl (.inl rfl)
      · exact .inl (.inr (.inl rfl))
      · exact .inl (.inr (.inr (.inl rfl)))
      · exact .inr hpn2
      · exact .inr hpt2
    · have sT8 : SameT _ H8 := SameBi sB8 J'.ob
      have naj : a' ≠ pj' := fun z => by
        have e := h1'
        rw [z, J'.ob] at e
        injection e with e
        injection e with _ _ e
        exact absurd (congrArg List.length e) (by show ¬ 2 = 4; decide)
      have nfj : pf' ≠ pj' := ne_of h2' J'.ob (by intro z; cases z)
      have hju : (jt g.ts).length ≤ 1 := by unfold jt; split <;> simp
      have h5c := h5'
      rw [h5'] at hus8
      refine ⟨dx', pf', pj', dj', pn2, pt2, fvs', _, [], rfl, sB8 _ _ naj h1', sB8 _ _ nfj h2', h3'.same sT8.to, J8, dts_snoc (dts_app (h4'.same sT8.to) hus8) (hv.same sT8.to), rfl, (fun z => by rw [z] at h2'; rw [h2'] at hpn2; cases hpn2), (fun z => by rw [z] at h2'; rw [h2'] at hpt2; cases hpt2), ?_, Nat.zero_le _, Nat.zero_le _, ?_⟩
      · show (g.ns ++ jt g.ts ++ [_]).length ≤ M + 2
        rw [List.length_append, List.length_append, List.length_singleton]; (first | lia | omega)
      · show g.fs.length ≤ _
        (first | lia | omega)
  · rw [if_neg hu] at q
    refine iteFb (decide_eq_false (show ¬ V.str (tx p) = V.str (tx [117, 115, 101]) from fun z => hu (V.str_inj.mp z))) ?_
    refine hold fun G_113 hG_113 => ?_
    obtain ⟨CJ, CO, avs, hCJ, hCO, hpa, hlen, cl⟩ := S3.push
    refine hG_113 ?_
    cases hCJ.one J_Joining.a
    cases hCO.one J_Opened.a
    refine ⟨_, rfl, .inl ⟨rfl, _, SqL.of hpa⟩, _, rfl, _, rfl, ?_⟩
    intro po dxo hpo hdo hne
    refine ⟨po, dxo, _, p, r, rfl, hCJ, upd_same, fun H5 fp O5 sB5 hfp => ⟨rfl, ?_⟩⟩
    have s35 : Same H3 H5 := fun b o hb => sB5 b o (ne_of_none hb hpo) (by rw [upd_ne (ne_of_none hb hpo), upd_ne (ne_of_none hb hdo)]; exact hb)
    have hpa5 := s35 _ _ hpa
    refine ⟨pa, _, _, rfl, rfl, hpa5, smallG (by rw [hlen, List.length_cons]; (first | lia | omega)), ?_⟩
    refine q _ ((cl H5 _ po fp ⟨p, r, [], [], []⟩ s35 (fun b hb => ?_) (O5.frame (X := []) (Nat.zero_le _) (fun b hb z => nomatch z) (sameX (Same.refl _)) (SameT.refl _)) (fun b o nb hb => by rw [upd_ne nb]; exact hb) upd_same).same (by (first | lia | omega)) (Same.refl _))
    rcases hfp b hb with rfl | z
    · exact hpo
    · cases hh : H3 b with
      | none => rfl
      | some o => rw [upd_ne (ne_of_none hh hpo), upd_ne (ne_of_none hh hdo), hh] at z; cases z
theorem ok__law_cell_at (T : Txt w K mg) {k : Nat}   : Cal P w K mg base CX0 (k + 1) "_law_cell_at" ["_law_script", "_law_k"] (sp__law_cell_at K) := by
  refine T.d__law_cell_at.elim fun fa e => e.elim fun fd At => At.cal sc__law_cell_at (fun vs H Q E h => ?_) (fun cdv A outer s H vs Q E hr h => ?_)
  · (first | (obtain ⟨_, rfl, _⟩ := h; rfl) | (obtain ⟨_, _, rfl, _⟩ := h; rfl) | (obtain ⟨_, _, _, rfl, _⟩ := h; rfl) | (obtain ⟨_, _, _, _, rfl, _⟩ := h; rfl) | (obtain ⟨_, _, _, _, _, rfl, _⟩ := h; rfl) | (obtain ⟨_, _, _, _, _, _, rfl, _⟩ := h; rfl) | (obtain ⟨_, _, _, _, _, _, _, rfl, _⟩ := h; rfl) | (obtain ⟨_, _, _, _, _, _, _, _, rfl, _⟩ := h; rfl) | (obtain ⟨_, _, _, _, _, _, _, _, _, rfl, _⟩ := h; rfl) | (obtain ⟨rfl, _⟩ := h; rfl) | exact h.elim)
  have m_len := T.m_len
  refine ⟨_, (@pss_cons _ _ _ _ _ (@ps_if _ _ _ _ _ _ _ _ (pt_cmpR op_lt (pv 1) (pe_callB call_len_seq rfl m_len boLen (@pa_cons _ _ _ _ _ (pv 0) pa_nil rfl)) (nomark _))
    (@pss_one _ _ _ (@ps_ret _ _ _ _ (@pe_ix _ _ _ _ _ _ _ ix_ints (pv 0) (pv 1) (fun _ _ => rfl))))
    pss_nil)
    (@pss_one _ _ _ (@ps_ret _ _ _ _ pe_int))), ?_⟩
  refine hold fun G_1 hG_1 => ?_
  obtain ⟨a, ns, k, rfl, hS, h0, q⟩ := h
  refine hG_1 ?_
  refine ⟨_, rfl, _, rfl, a, _, rfl, .inl hS, _, _, rfl, rfl, _, rfl, ite2 (fun c => ?_) (fun c => ?_)⟩
  · have c' : k < (((ns.map V.int).length : Nat) : Int) := of_decide_eq_true c
    rw [List.length_map] at c'
    have e : cellF ns k = ns.getD k.toNat 0 := if_pos c'
    rw [e] at q
    exact ⟨_, rfl, _, rfl, a, ns, k, rfl, rfl, hS, h0, c', q⟩
  · have c' : ¬ k < (((ns.map V.int).length : Nat) : Int) := of_decide_eq_false (Bool.eq_false_iff.mpr c)
    rw [List.length_map] at c'
    have e : cellF ns k = 0 := if_neg c'
    rw [e] at q
    exact q
theorem ok__law_cells (T : Txt w K mg) {k : Nat}  (G__law_cell_at : Cal P w K mg base CX0 k "_law_cell_at" ["_law_script", "_law_k"] (sp__law_cell_at K)) : Cal P w K mg base CX0 (k + 1) "_law_cells" ["_law_script", "_law_start", "_law_most"] (sp__law_cells K) := by
  refine T.d__law_cells.elim fun fa e => e.elim fun fd At => At.cal sc__law_cells (fun vs H Q E h => ?_) (fun cdv A outer s H vs Q E hr h => ?_)
  · (first | (obtain ⟨_, rfl, _⟩ := h; rfl) | (obtain ⟨_, _, rfl, _⟩ := h; rfl) | (obtain ⟨_, _, _, rfl, _⟩ := h; rfl) | (obtain ⟨_, _, _, _, rfl, _⟩ := h; rfl) | (obtain ⟨_, _, _, _, _, rfl, _⟩ := h; rfl) | (obtain ⟨_, _, _, _, _, _, rfl, _⟩ := h; rfl) | (obtain ⟨_, _, _, _, _, _, _, rfl, _⟩ := h; rfl) | (obtain ⟨_, _, _, _, _, _, _, _, rfl, _⟩ := h; rfl) | (obtain ⟨_, _, _, _, _, _, _, _, _, rfl, _⟩ := h; rfl) | (obtain ⟨rfl, _⟩ := h; rfl) | exact h.elim)
  have m_len := T.m_len
  have m_list := T.m_list
  refine ⟨_, (@pss_cons _ _ _ _ _ (@ps_set _ _ 3 _ _ _ _ sc__law_cells.nd rfl (Or.inl rfl) (pe_callTy call_list_of rfl m_list boList (@pa_cons _ _ _ _ _ (pe_slice sl_list (pv 0) (po_some (pv 1)) (po_some (@pe_op _ _ _ _ _ _ _ _ op_add (pv 1) (pv 2)))) pa_nil rfl)) rfl (Or.inl rfl))
    (@pss_cons _ _ _ _ _ (@ps_if _ _ _ _ _ _ _ _ (pt_cmpR op_eq (@pe_op _ _ _ _ _ _ _ _ (op_modL 4 (by decide)) (@pe_op _ _ _ _ _ _ _ _ (op_divL 7 (by decide) (by decide)) (pe_cal G__law_cell_at hr (@pa_cons _ _ _ _ _ (pv 0) (@pa_cons _ _ _ _ _ pe_int pa_nil star_c) star_n) rfl) pe_int) pe_int) pe_int (nomark _))
    (@pss_cons _ _ _ _ _ (@ps_set _ _ 4 _ _ _ _ sc__law_cells.nd rfl (Or.inl rfl) (@pe_op _ _ _ _ _ _ _ _ op_add (@pe_op _ _ _ _ _ _ _ _ (op_modL 2147483647 (by decide)) (pe_cal G__law_cell_at hr (@pa_cons _ _ _ _ _ (pv 0) (@pa_cons _ _ _ _ _ pe_int pa_nil star_c) star_n) rfl) pe_int) pe_int) rfl (Or.inl rfl))
      (@pss_one _ _ _ (ps_while PassesOwn.never (pt_cmpR op_lt (pe_callB call_len_seq rfl m_len boLen (@pa_cons _ _ _ _ _ (pv 3) pa_nil rfl)) (pv 2) (nomark _))
      (@pss_cons _ _ _ _ _ (@ps_set _ _ 4 _ _ _ _ sc__law_cells.nd rfl (Or.inl rfl) (@pe_op _ _ _ _ _ _ _ _ (op_modL 2147483647 (by decide)) (@pe_op _ _ _ _ _ _ _ _ op_add (@pe_op _ _ _ _ _ _ _ _ op_add (@pe_op _ _ _ _ _ _ _ _ op_mul (pv 4) (pv 4)) (@pe_op _ _ _ _ _ _ _ _ op_mul pe_int (pv 4))) (pe_callB call_len_seq rfl m_len boLen (@pa_cons _ _ _ _ _ (pv 3) pa_nil rfl))) pe_int) rfl (Or.inl rfl))
        (@pss_one _ _ _ (ps_expr (pe_bm PySem.F.plainAttrs_list PySem.F.slot_list_append PySem.F.type_list_append mt_append (pv 3) (@pa_cons _ _ _ _ _ (@pe_op _ _ _ _ _ _ _ _ op_add (@pe_op _ _ _ _ _ _ _ _ op_mul (pv 4) pe_int) (@pe_op _ _ _ _ _ _ _ _ (op_divL 11 (by decide) (by decide)) (pv 4) pe_int)) pa_nil rfl))))))))
    pss_nil)
    (@pss_one _ _ _ (@ps_ret _ _ _ _ (pv 3))))), ?_⟩
  refine hold fun G_23 hG_23 => ?_
  obtain ⟨a, ns, rfl, hS, h63, q⟩ := h
  refine hG_23 ?_
  refine ⟨_, rfl, _, rfl, _, rfl, _, rfl, _, rfl, _, _, rfl, rfl, _, rfl, a, _, rfl, hS, fun p hp => ?_⟩
  refine hold fun G_24 hG_24 => ?_
  obtain ⟨ms, ems, hms⟩ := cut40 ns
  refine hG_24 ?_
  rw [ems]
  refine ⟨p, _, rfl, .inl (SqL.of upd_same), fun pl hpl => ?_⟩
  have s1 := (same_new hp (.lst (ms.map V.int))).trans (same_new hpl (.lst (ms.map V.int)))
  have hplH : H pl = none := (same_new hp (.lst (ms.map V.int))).free hpl
  have e1 : upd (upd H p (.lst (ms.map V.int))) pl (.lst (ms.map V.int)) pl = some (.lst (ms.map V.int)) := upd_same
  generalize upd (upd H p (.lst (ms.map V.int))) pl (.lst (ms.map V.int)) = H1 at s1 e1
  refine ⟨_, rfl, a, ns, 1, rfl, s1.seq hS, by decide, _, rfl, rfl, _, rfl, rfl, rfl, _, rfl, ite2 (fun c => ?_) (fun c => ?_)⟩
  · refine ⟨_, rfl, a, ns, 1, rfl, s1.seq hS, by decide, _, rfl, rfl, _, _, rfl, rfl, ?_⟩
    refine while_by (fun σ H2 => ∃ (zs : List Int) (m : Int), σ = [some (.ref a), some (.int 2), some (.int 56), some (.ref pl), some (.int m)] ∧ 0 ≤ m ∧ m < 3000000000 ∧ SameB pl H1 H2 ∧ H2 pl = some (.lst (zs.map V.int)) ∧ zs.length ≤ 56)
      (fun σ H2 => match H2 pl with | some (.lst xs) => 56 - xs.length | _ => 0) ⟨ms, _, rfl, by (first | lia | omega), by (first | lia | omega), SameB.refl _ _, e1, hms⟩ (fun σ H2 pv => ?_) (by rintro σ H Q Q' h ⟨a, b, c, d, e, f, g, i, j, k, l, m, n, o, q⟩; exact ⟨a, b, c, d, e, f, g, i, j, k, l, m, n, o, h _ _ q⟩)
    refine hold fun G_25 hG_25 => ?_
    obtain ⟨zs, m, rfl, m0, m1, sB, hz, hl⟩ := pv
    refine hG_25 ?_
    refine ⟨_, rfl, pl, _, rfl, .inl (SqL.of hz), _, rfl, _, _, rfl, rfl, _, rfl, ite2 (fun c2 => ?_) (fun c2 => ?_)⟩
    · have hlt : zs.length < 56 := by
        have := of_decide_eq_true c2
        rw [List.length_map] at this
        (first | lia | omega)
      refine ⟨_, rfl, _, rfl, _, _, rfl, rfl, .inl ⟨by (first | lia | omega), by (first | lia | omega)⟩, _, rfl, _, _, rfl, rfl, .inl ⟨by decide, by decide⟩, _, _, rfl, rfl, _, rfl, pl, _, rfl, .inl (SqL.of hz), _, _, rfl, rfl, _, rfl, rfl, ?_⟩
      have r0 : ∀ z : Int, 0 ≤ z % 2147483647 ∧ z % 2147483647 < 2147483647 := fun z => by (first | lia | omega)
      obtain ⟨r1, r2⟩ := r0 (m * m + 48271 * m + (((zs.map V.int).length : Nat) : Int))
      generalize (m * m + 48271 * m + (((zs.map V.int).length : Nat) : Int)) % 2147483647 = m' at r1 r2
      refine ⟨_, rfl, .inl ⟨rfl, _, SqL.of hz⟩, _, rfl, _, _, rfl, rfl, .inl ⟨by (first | lia | omega), by (first | lia | omega)⟩, _, rfl, _, rfl, rfl, _, _, rfl, rfl, pl, _, _, rfl, rfl, hz, small (by rw [List.length_map]; (first | lia | omega)), ?_⟩
      refine ⟨⟨zs ++ [m' * 1048583 + m' / 11], m', rfl, r1, by (first | lia | omega), sB.trans SameB.upd, ?_, ?_⟩, ?_⟩
      · rw [upd_same, List.map_append]; rfl
      · rw [List.length_append, List.length_singleton]; (first | lia | omega)
      · show (match upd H2 pl (.lst (zs.map V.int ++ [V.int (m' * 1048583 + m' / 11)])) pl with | some (.lst xs) => 56 - xs.length | _ => 0) < (match H2 pl with | some (.lst xs) => 56 - xs.length | _ => 0)
        rw [upd_same, hz]
        show 56 - (zs.map V.int ++ [_]).length < 56 - (zs.map V.int).length
        rw [List.length_append, List.length_map, List.length_singleton]; (first | lia | omega)
    · exact ⟨_, rfl, q _ pl zs (fun b o hb => sB b o (ne_of_none hb hplH) (s1 b o hb)) hplH hz hl⟩
  · exact ⟨_, rfl, q _ pl ms s1 hplH e1 hms⟩
theorem ok__law_signs (T : Txt w K mg) {k : Nat}   : Cal P w K mg base CX0 (k + 1) "_law_signs" ["_law_cell", "_law_many"] (sp__law_signs K) := by
  refine T.d__law_signs.elim fun fa e => e.elim fun fd At => At.cal sc__law_signs (fun vs H Q E h => ?_) (fun cdv A outer s H vs Q E hr h => ?_)
  · (first | (obtain ⟨_, rfl, _⟩ := h; rfl) | (obtain ⟨_, _, rfl, _⟩ := h; rfl) | (obtain ⟨_, _, _, rfl, _⟩ := h; rfl) | (obtain ⟨_, _, _, _, rfl, _⟩ := h; rfl) | (obtain ⟨_, _, _, _, _, rfl, _⟩ := h; rfl) | (obtain ⟨_, _, _, _, _, _, rfl, _⟩ := h; rfl) | (obtain ⟨_, _, _, _, _, _, _, rfl, _⟩ := h; rfl) | (obtain ⟨_, _, _, _, _, _, _, _, rfl, _⟩ := h; rfl) | (obtain ⟨_, _, _, _, _, _, _, _, _, rfl, _⟩ := h; rfl) | (obtain ⟨rfl, _⟩ := h; rfl) | exact h.elim)
  have m_range := T.m_range
  refine ⟨_, (@pss_cons _ _ _ _ _ (@ps_set _ _ 2 _ _ _ _ sc__law_signs.nd rfl (Or.inl rfl) (@pe_tx _ _ lit0 _ _ (by decide +kernel)) rfl (Or.inl rfl))
    (@pss_cons _ _ _ _ _ (@ps_set _ _ 2 _ _ _ _ sc__law_signs.nd rfl (Or.inl rfl) (@pe_op _ _ _ _ _ _ _ _ op_addS (pv 2) (@pe_tx _ _ lit1 _ _ (by decide +kernel))) rfl (Or.inl rfl))
    (@pss_cons _ _ _ _ _ (@ps_set _ _ 3 _ _ _ _ sc__law_signs.nd rfl (Or.inl rfl) (@pe_op _ _ _ _ _ _ _ _ op_add (@pe_op _ _ _ _ _ _ _ _ (op_modL 2147483647 (by decide)) (pv 0) pe_int) pe_int) rfl (Or.inl rfl))
    (@pss_cons _ _ _ _ _ (@ps_set _ _ 4 _ _ _ _ sc__law_signs.nd rfl (Or.inl rfl) (@pe_op _ _ _ _ _ _ _ _ (op_divL 2 (by decide) (by decide)) (pv 0) pe_int) rfl (Or.inl rfl))
    (@pss_cons _ _ _ _ _ (@ps_set _ _ 5 _ _ _ _ sc__law_signs.nd rfl (Or.inl rfl) (@pe_tx _ _ [] _ _ rfl) rfl (Or.inl rfl))
    (@pss_cons _ _ _ _ _ (ps_for PassesOwn.never rfl (pi_range1 rfl m_range (@pa_cons _ _ _ _ _ (pv 1) pa_nil rfl)) (pg_name (i := 6) sc__law_signs.nd rfl (Or.inl rfl))
    (@pss_cons _ _ _ _ _ (@ps_set _ _ 3 _ _ _ _ sc__law_signs.nd rfl (Or.inl rfl) (@pe_op _ _ _ _ _ _ _ _ (op_modL 2147483647 (by decide)) (@pe_op _ _ _ _ _ _ _ _ op_add (@pe_op _ _ _ _ _ _ _ _ op_add (@pe_op _ _ _ _ _ _ _ _ op_mul (pv 3) (pv 3)) (@pe_op _ _ _ _ _ _ _ _ op_mul pe_int (pv 3))) (pv 6)) pe_int) rfl (Or.inl rfl))
      (@pss_cons _ _ _ _ _ (@ps_set _ _ 7 _ _ _ _ sc__law_signs.nd rfl (Or.inl rfl) (@pe_ix _ _ _ _ _ _ _ ix_list (@pe_lst _ _ _ _ (@pa_cons _ _ _ _ _ (pv 4) (@pa_cons _ _ _ _ _ (@pe_op _ _ _ _ _ _ _ _ (op_divL 64 (by decide) (by decide)) (pv 3) pe_int) pa_nil star_b) star_n)) (@pe_op _ _ _ _ _ _ _ _ (op_modL 2 (by decide)) (pv 0) pe_int) (fun _ _ => rfl)) rfl (Or.inl rfl))
      (@pss_cons _ _ _ _ _ (@ps_set _ _ 4 _ _ _ _ sc__law_signs.nd rfl (Or.inl rfl) (@pe_op _ _ _ _ _ _ _ _ (op_divL 190 (by decide) (by decide)) (pv 4) pe_int) rfl (Or.inl rfl))
      (@pss_one _ _ _ (@ps_if _ _ _ _ _ _ _ _ (pt_cmpR op_eq (@pe_op _ _ _ _ _ _ _ _ (op_modL 2 (by decide)) (pv 7) pe_int) pe_int (nomark _))
      (@pss_one _ _ _ (@ps_set _ _ 5 _ _ _ _ sc__law_signs.nd rfl (Or.inl rfl) (@pe_op _ _ _ _ _ _ _ _ op_addS (pv 5) (@pe_ix _ _ _ _ _ _ _ ix_strD (@pe_tx _ _ lit2 _ _ (by decide +kernel)) (@pe_op _ _ _ _ _ _ _ _ (op_modL 16 (by decide)) (@pe_op _ _ _ _ _ _ _ _ (op_divL 2 (by decide) (by decide)) (pv 7) pe_int) pe_int) (fun _ _ => rfl))) rfl (Or.inl rfl)))
      (@pss_one _ _ _ (@ps_set _ _ 5 _ _ _ _ sc__law_signs.nd rfl (Or.inl rfl) (@pe_op _ _ _ _ _ _ _ _ op_addS (pv 5) (@pe_ix _ _ _ _ _ _ _ ix_strD (pv 2) (@pe_op _ _ _ _ _ _ _ _ (op_modL 95 (by decide)) (@pe_op _ _ _ _ _ _ _ _ (op_divL 2 (by decide) (by decide)) (pv 7) pe_int) pe_int) (fun _ _ => rfl))) rfl (Or.inl rfl)))))))))
    (@pss_one _ _ _ (@ps_ret _ _ _ _ (pv 5))))))))), ?_⟩
  refine hold fun G_27 hG_27 => ?_
  obtain ⟨c, m, rfl, hm, q⟩ := h
  refine hG_27 ?_
  refine ⟨_, rfl, _, _, rfl, rfl, smallE (by decide +kernel), _, rfl, _, rfl, rfl, _, _, rfl, rfl, _, rfl, _, rfl, rfl, ?_⟩
  refine ⟨_, rfl, _, rfl, by (first | lia | omega), by (first | lia | omega), ?_⟩
  rw [Int.toNat_natCast]
  refine for_rangeN (fun i σ H2 => ∃ (num rest : Int) (l : List Nat) (o6 o7 : Option V), σ = [some (.int c), some (.int (m : Nat)), some (.str (tx (M64 ++ M31))), some (.int num), some (.int rest), some (.str (tx l)), o6, o7] ∧ 0 ≤ num ∧ num < 3000000000 ∧ l.length = i ∧ SgT l ∧ Same H H2)
    ⟨_, _, [], none, none, rfl, by (first | lia | omega), by (first | lia | omega), rfl, (fun x hx => nomatch hx), Same.refl _⟩ (fun i σ H2 hi pv N B R hN => ?_) (fun σ H2 pv => ?_)
  · refine hold fun G_28 hG_28 => ?_
    obtain ⟨num, rest, l, o6, o7, rfl, n0, n1, hl, hsg, sH⟩ := pv
    refine hG_28 ?_
    refine ⟨_, rfl, _, rfl, _, _, rfl, rfl, .inl ⟨by (first | lia | omega), by (first | lia | omega)⟩, _, rfl, _, _, rfl, rfl, .inl ⟨by decide, by decide⟩, _, _, rfl, rfl, _, rfl, _, _, rfl, rfl, _, rfl, rfl, ?_⟩
    have r0 : ∀ z : Int, 0 ≤ z % 2147483647 ∧ z % 2147483647 < 2147483647 := fun z => by (first | lia | omega)
    obtain ⟨r1, r2⟩ := r0 (num * num + 48271 * num + (0 + (i : Int)))
    generalize (num * num + 48271 * num + (0 + (i : Int))) % 2147483647 = num' at r1 r2
    refine ⟨_, rfl, _, rfl, _, rfl, rfl, by show 2 ≤ sizeLine; decide, fun p hp => ?_⟩
    obtain ⟨pk, hpk⟩ := one2 rest (num' / 64) c
    refine ⟨_, rfl, _, rfl, rfl, p, _, _, _, rfl, rfl, SqL.of upd_same, hpk, _, rfl, _, rfl, rfl, ?_⟩
    have sH' := sH.trans (same_new hp (.lst [.int rest, .int (num' / 64)]))
    generalize upd H2 p (.lst [.int rest, .int (num' / 64)]) = H3 at sH'
    refine ⟨_, rfl, _, rfl, rfl, rfl, _, rfl, ite2 (fun e => ?_) (fun e => ?_)⟩
    · refine ⟨_, rfl, _, rfl, _, rfl, rfl, _, rfl, rfl, S16, _, rfl, rfl, by decide +kernel, by (first | lia | omega), by show pk / 2 % 16 < 16; (first | lia | omega), _, _, rfl, rfl, smallE (by rw [List.length_singleton]; (first | lia | omega)), ?_⟩
      exact hN _ _ ⟨num', _, _, _, _, rfl, r1, by (first | lia | omega), by rw [List.length_append, List.length_singleton]; (first | lia | omega), fun x hx => (List.mem_append.mp hx).elim (hsg x) fun h => by rw [List.mem_singleton.mp h]; exact s16_in _ (by (first | lia | omega)), sH'⟩
    · refine ⟨_, rfl, _, rfl, _, rfl, _, rfl, rfl, _, rfl, rfl, M64 ++ M31, _, rfl, rfl, by decide +kernel, by (first | lia | omega), by show pk / 2 % 95 < 95; (first | lia | omega), _, _, rfl, rfl, smallE (by rw [List.length_singleton]; (first | lia | omega)), ?_⟩
      exact hN _ _ ⟨num', _, _, _, _, rfl, r1, by (first | lia | omega), by rw [List.length_append, List.length_singleton]; (first | lia | omega), fun x hx => (List.mem_append.mp hx).elim (hsg x) fun h => by rw [List.mem_singleton.mp h]; exact m95_in _ (by (first | lia | omega)), sH'⟩
  · refine hold fun G_29 hG_29 => ?_
    obtain ⟨num, rest, l, o6, o7, rfl, n0, n1, hl, hsg, sH⟩ := pv
    refine hG_29 ?_
    exact ⟨_, rfl, q H2 l sH hl hsg⟩
theorem ok__law_names (T : Txt w K mg) {k : Nat}   : Cal P w K mg base CX0 (k + 1) "_law_names" ["_law_cell", "_law_many"] (sp__law_names K) := by
  refine T.d__law_names.elim fun fa e => e.elim fun fd At => At.cal sc__law_names (fun vs H Q E h => ?_) (fun cdv A outer s H vs Q E hr h => ?_)
  · (first | (obtain ⟨_, rfl, _⟩ := h; rfl) | (obtain ⟨_, _, rfl, _⟩ := h; rfl) | (obtain ⟨_, _, _, rfl, _⟩ := h; rfl) | (obtain ⟨_, _, _, _, rfl, _⟩ := h; rfl) | (obtain ⟨_, _, _, _, _, rfl, _⟩ := h; rfl) | (obtain ⟨_, _, _, _, _, _, rfl, _⟩ := h; rfl) | (obtain ⟨_, _, _, _, _, _, _, rfl, _⟩ := h; rfl) | (obtain ⟨_, _, _, _, _, _, _, _, rfl, _⟩ := h; rfl) | (obtain ⟨_, _, _, _, _, _, _, _, _, rfl, _⟩ := h; rfl) | (obtain ⟨rfl, _⟩ := h; rfl) | exact h.elim)
  have m_len := T.m_len
  have m_list := T.m_list
  have m_range := T.m_range
  refine ⟨_, (@pss_cons _ _ _ _ _ (@ps_set _ _ 2 _ _ _ _ sc__law_names.nd rfl (Or.inr rfl) (@pe_tx _ _ lit3 _ _ (by decide +kernel)) rfl (Or.inl rfl))
    (@pss_cons _ _ _ _ _ (@ps_set _ _ 0 _ _ _ _ sc__law_names.nd rfl (Or.inr rfl) (@pe_op _ _ _ _ _ _ _ _ op_mod (pv 0) (@pe_op _ _ _ _ _ _ _ _ op_pow pe_int pe_int)) rfl (Or.inl rfl))
    (@pss_cons _ _ _ _ _ (@ps_set _ _ 3 _ _ _ _ sc__law_names.nd rfl (Or.inl rfl) (@pe_ix _ _ _ _ _ _ _ ix_list (@pe_lst _ _ _ _ (@pa_txs _ _ [[], [], [117, 115, 101], [101, 110, 100], [101, 108, 115, 101], [101, 97, 99, 104], [105, 102], [117]] (by decide +kernel))) (@pe_op _ _ _ _ _ _ _ _ (op_modL 8 (by decide)) (@pe_op _ _ _ _ _ _ _ _ (op_divL 3 (by decide) (by decide)) (pv 0) pe_int) pe_int) (fun _ _ => rfl)) rfl (Or.inl rfl))
    (@pss_cons _ _ _ _ _ (ps_comp (i := 4) (vars := ["_law_k"]) (frs' := ["_law_cell"]) (fr := [0]) rfl sc__law_names.nd rfl (Or.inl rfl) (CompScope.free rfl (by decide +kernel) rfl (.cons ⟨rfl, rfl⟩ .nil)) (pi_range1 rfl m_range (@pa_cons _ _ _ _ _ (@pe_op _ _ _ _ _ _ _ _ op_add pe_int (@pe_op _ _ _ _ _ _ _ _ op_mod (pv 0) (@pe_op _ _ _ _ _ _ _ _ op_sub pe_int (pe_callB call_lenS rfl m_len boLen (@pa_cons _ _ _ _ _ (pv 3) pa_nil rfl))))) pa_nil rfl)) (fun pins cl C fp s H => ⟨pgc 0 (by decide +kernel) rfl rfl, pifs_nil, (@pe_op _ _ _ _ _ _ _ _ (op_modL 26 (by decide)) (@pe_op _ _ _ _ _ _ _ _ op_add (@pe_op _ _ _ _ _ _ _ _ op_fdiv (pv 1) (@pe_op _ _ _ _ _ _ _ _ op_add (pv 0) pe_int)) (@pe_op _ _ _ _ _ _ _ _ op_mul (pv 0) (pv 0))) pe_int)⟩))
    (@pss_cons _ _ _ _ _ (@ps_set _ _ 5 _ _ _ _ sc__law_names.nd rfl (Or.inl rfl) (@pe_op _ _ _ _ _ _ _ _ op_mod (@pe_op _ _ _ _ _ _ _ _ (op_divL 8 (by decide) (by decide)) (pv 0) pe_int) (pe_callB call_len_seq rfl m_len boLen (@pa_cons _ _ _ _ _ (pv 4) pa_nil rfl))) rfl (Or.inl rfl))
    (@pss_cons _ _ _ _ _ (@ps_set _ _ 6 _ _ _ _ sc__law_names.nd rfl (Or.inl rfl) (@pe_lst _ _ _ _ pa_nil) rfl (Or.inl rfl))
    (@pss_cons _ _ _ _ _ (ps_for PassesOwn.never rfl (pi_range1 rfl m_range (@pa_cons _ _ _ _ _ (pv 1) pa_nil rfl)) (pg_name (i := 7) sc__law_names.nd rfl (Or.inl rfl))
    (@pss_cons _ _ _ _ _ (@ps_set _ _ 8 _ _ _ _ sc__law_names.nd rfl (Or.inl rfl) (pe_callTy call_list_of rfl m_list boList (@pa_cons _ _ _ _ _ (pv 4) pa_nil rfl)) rfl (Or.inl rfl))
      (@pss_cons _ _ _ _ _ (ps_asg (@pe_op _ _ _ _ _ _ _ _ (op_modL 26 (by decide)) (@pe_op _ _ _ _ _ _ _ _ op_add (@pe_ix _ _ _ _ _ _ _ ix_list (pv 4) (pv 5) (fun _ _ => rfl)) (pv 7)) pe_int) (pg_sub (pv 8) (pv 5) set_list))
      (@pss_cons _ _ _ _ _ (@ps_set _ _ 9 _ _ _ _ sc__law_names.nd rfl (Or.inl rfl) (@pe_op _ _ _ _ _ _ _ _ op_addS (pv 3) (pe_bm PySem.F.plainAttrs_str PySem.F.slot_str_join PySem.F.type_str_join mt_join (@pe_tx _ _ [] _ _ rfl) (@pa_cons _ _ _ _ _ (pe_comp (vars := ["_law_one"]) (frs' := ["_law_letters"]) (fr := [2]) rfl (CompScope.free rfl (by decide +kernel) rfl (.cons ⟨rfl, rfl⟩ .nil)) (pi_list (pv 8)) (fun pins cl C fp s H => ⟨pgc 0 (by decide +kernel) rfl rfl, pifs_nil, (@pe_ix _ _ _ _ _ _ _ ix_strD (pv 1) (pv 0) (fun _ _ => rfl))⟩)) pa_nil rfl))) rfl (Or.inl rfl))
      (@pss_cons _ _ _ _ _ (@ps_if _ _ _ _ _ _ _ _ (pt_cmpR op_in_seq (pv 9) (@pe_tup _ _ _ _ _ (@pa_cons _ _ _ _ _ (@pe_tx _ _ [105, 102] _ _ rfl) (@pa_cons _ _ _ _ _ (@pe_tx _ _ [101, 97, 99, 104] _ _ (by decide +kernel)) (@pa_cons _ _ _ _ _ (@pe_tx _ _ [117, 115, 101] _ _ rfl) (@pa_cons _ _ _ _ _ (@pe_tx _ _ [101, 108, 115, 101] _ _ (by decide +kernel)) (@pa_cons _ _ _ _ _ (@pe_tx _ _ [101, 110, 100] _ _ rfl) pa_nil star_c) star_c) star_c) star_c) star_c)) (by with_unfolding_all rfl))
      (@pss_one _ _ _ (@ps_set _ _ 9 _ _ _ _ sc__law_names.nd rfl (Or.inl rfl) (@pe_op _ _ _ _ _ _ _ _ op_addS (pv 9) (@pe_tx _ _ [120] _ _ rfl)) rfl (Or.inl rfl)))
      pss_nil)
      (@pss_one _ _ _ (ps_expr (pe_bm PySem.F.plainAttrs_list PySem.F.slot_list_append PySem.F.type_list_append mt_append (pv 6) (@pa_cons _ _ _ _ _ (pv 9) pa_nil rfl)))))))))
    (@pss_one _ _ _ (@ps_ret _ _ _ _ (pv 6)))))))))), ?_⟩
  refine hold fun G_30 hG_30 => ?_
  obtain ⟨c, rfl, q⟩ := h
  refine hG_30 ?_
  refine seq_any fun S0 hS0 => ?_
  refine hS0 _ _ ?_
  refine seq_any fun S1 hS1 => ?_
  refine ⟨_, rfl, _, _, rfl, rfl, ⟨by decide, by decide, by decide⟩, _, _, rfl, rfl, (by show (0 : Int) < 10 ^ Int.toNat 9; decide), ?_⟩
  have d0 : 0 ≤ c % 10 ^ Int.toNat 9 := Int.emod_nonneg _ (by decide)
  dsimp only
  generalize c % 10 ^ Int.toNat 9 = d at d0
  refine hS1 _ _ ?_
  refine seq_any fun S2 hS2 => ?_
  refine ⟨by show 8 ≤ sizeLine; decide, fun p1 hp1 => ?_⟩
  have s0 := same_new hp1 (.lst ([[], [], [117, 115, 101], [101, 110, 100], [101, 108, 115, 101], [101, 97, 99, 104], [105, 102], [117]].map fun l => V.str (tx l)))
  have e8 : SqL K (upd H p1 (.lst ([[], [], [117, 115, 101], [101, 110, 100], [101, 108, 115, 101], [101, 97, 99, 104], [105, 102], [117]].map fun l => V.str (tx l)))) p1 (A8.map fun l => V.str (tx l)) := SqL.of upd_same
  have hah := a8_ok (d / 3 % 8).toNat (by (first | lia | omega))
  refine ⟨_, rfl, _, rfl, rfl, _, rfl, rfl, p1, _, _, _, rfl, rfl, e8, tab_at (tab := A8) (by (first | lia | omega)) (by show d / 3 % 8 < 8; (first | lia | omega)), ?_⟩
  dsimp only
  generalize A8.getD (d / 3 % 8).toNat [] = ah at hah
  obtain ⟨ah4, ahS⟩ := hah
  clear e8
  generalize upd H p1 (.lst ([[], [], [117, 115, 101], [101, 110, 100], [101, 108, 115, 101], [101, 97, 99, 104], [105, 102], [117]].map fun l => V.str (tx l))) = H0 at s0
  refine hS2 _ _ ?_
  refine seq_any fun S3 hS3 => ?_
  refine ⟨_, rfl, _, rfl, ah, rfl, smallE (by (first | lia | omega)), _, _, rfl, rfl, _, _, rfl, rfl, by (first | lia | omega), _, _, rfl, rfl, _, rfl, ?_⟩
  have dm0 : 0 ≤ d % (8 - ((ah.length : Nat) : Int)) := Int.emod_nonneg _ (by (first | lia | omega))
  have dm1 : d % (8 - ((ah.length : Nat) : Int)) < 8 - ((ah.length : Nat) : Int) := Int.emod_lt_of_pos _ (by (first | lia | omega))
  dsimp only
  generalize d % (8 - ((ah.length : Nat) : Int)) = dm at dm0 dm1
  refine ⟨by (first | lia | omega), by (first | lia | omega), ?_⟩
  have hj : 1 ≤ (1 + dm).toNat ∧ (1 + dm).toNat + ah.length ≤ 8 := by (first | lia | omega)
  generalize (1 + dm).toNat = nw at hj
  refine comp_range (fun i σ ys H2 => ∃ (zs : List Int) (o : Option V), σ = [o, some (.int d)] ∧ ys = zs.map V.int ∧ zs.length = i ∧ (∀ z ∈ zs, 0 ≤ z ∧ z < 26) ∧ H2 = H0) ⟨[], none, rfl, rfl, rfl, (fun z hz => nomatch hz), rfl⟩ (small (by (first | lia | omega))) (fun i σ ys H2 hi pv => ?_) (fun i σ ys H2 hi pv => ?_) (fun σ ys H2 pv => ?_)
  · refine hold fun G_31 hG_31 => ?_
    obtain ⟨zs, o, rfl, rfl, hl, _, _⟩ := pv
    refine hG_31 ?_
    rw [List.length_map]; (first | lia | omega)
  · refine hold fun G_32 hG_32 => ?_
    obtain ⟨zs, o, rfl, rfl, hl, hz, rfl⟩ := pv
    refine hG_32 ?_
    refine ⟨_, rfl, _, rfl, _, _, rfl, rfl, _, _, rfl, rfl, ⟨by (first | lia | omega), by (first | lia | omega)⟩, _, rfl, _, rfl, _, _, rfl, rfl, .inl ⟨by (first | lia | omega), by (first | lia | omega)⟩, _, _, rfl, rfl, _, rfl, rfl, ?_⟩
    refine ⟨zs ++ [_], _, rfl, by rw [List.map_append]; rfl, by rw [List.length_append, List.length_singleton]; (first | lia | omega), fun z hz' => (List.mem_append.mp hz').elim (hz z) fun h => ?_, rfl⟩
    rw [List.mem_singleton.mp h]
    exact ⟨Int.emod_nonneg _ (by decide), Int.emod_lt_of_pos _ (by decide)⟩
  · refine hold fun G_33 hG_33 => ?_
    obtain ⟨zs, o, rfl, rfl, hl, hz, rfl⟩ := pv
    refine hG_33 ?_
    intro pw hpw
    have s1 := s0.trans (same_new hpw (.lst (zs.map V.int)))
    have e1 : upd H2 pw (.lst (zs.map V.int)) pw = some (.lst (zs.map V.int)) := upd_same
    generalize upd H2 pw (.lst (zs.map V.int)) = H1 at s1 e1
    refine hS3 _ _ ?_
    refine seq_any fun S4 hS4 => ?_
    refine ⟨_, rfl, _, rfl, rfl, _, rfl, pw, _, rfl, .inl (SqL.of e1), _, _, rfl, rfl, by rw [List.length_map]; (first | lia | omega), ?_⟩
    have a0 : ∀ x : Int, 0 ≤ x % (((zs.map V.int).length : Nat) : Int) ∧ x % (((zs.map V.int).length : Nat) : Int) < (zs.length : Int) := fun x => by
      rw [List.length_map]
      exact ⟨Int.emod_nonneg _ (by (first | lia | omega)), Int.emod_lt_of_pos _ (by (first | lia | omega))⟩
    obtain ⟨at0, at1⟩ := a0 (d / 8)
    dsimp only
    generalize d / 8 % (((zs.map V.int).length : Nat) : Int) = at' at at0 at1
    refine hS4 _ _ ?_
    refine seq_any fun S5 hS5 => ?_
    refine ⟨by show 0 ≤ sizeLine; decide, fun pn hpn => ?_⟩
    have npw : pw ≠ pn := ne_of_none e1 hpn
    have hpnH : H pn = none := s1.free hpn
    refine hS5 _ _ ?_
    refine seq_any fun S6 hS6 => ?_
    refine ⟨_, rfl, 4, rfl, by (first | lia | omega), by (first | lia | omega), ?_⟩
    refine for_rangeN (n := 4) (fun i σ H3 => ∃ (nms : List (List Nat)) (o6 o7 o8 : Option V), σ = [some (.int d), some (.int 4), some (.str (tx L26)), some (.str (tx ah)), some (.ref pw), some (.int at'), some (.ref pn), o6, o7, o8] ∧ SameB pn H1 H3 ∧ H3 pn = some (.lst (txs nms)) ∧ nms.length = i ∧ ∀ x ∈ nms, NmT x)
      ⟨[], none, none, none, rfl, SameB.upd, upd_same, rfl, (fun x hx => nomatch hx)⟩ (fun i σ H3 hi pv N B R hN => ?_) (fun σ H3 pv => ?_)
    · refine hold fun G_34 hG_34 => ?_
      obtain ⟨nms, o6, o7, o8, rfl, sB, hn, hlen, hok⟩ := pv
      refine hG_34 ?_
      have hw3 : H3 pw = some (.lst (zs.map V.int)) := sB _ _ npw e1
      refine seq_any fun S7 hS7 => ?_
      refine ⟨_, rfl, pw, _, rfl, .inl (SqL.of hw3), fun po hpo => ?_⟩
      have s4 := same_new hpo (.lst (zs.map V.int))
      have hn4 := s4 _ _ hn
      have hw4 := s4 _ _ hw3
      have ho4 : upd H3 po (.lst (zs.map V.int)) po = some (.lst (zs.map V.int)) := upd_same
      have npo : po ≠ pn := Ne.symm (ne_of_none hn hpo)
      have sB4 : SameB pn H1 (upd H3 po (.lst (zs.map V.int))) := sB.trans s4.b
      generalize upd H3 po (.lst (zs.map V.int)) = H4 at hn4 hw4 ho4 sB4 s4
      refine hS7 _ _ ?_
      refine seq_any fun S8 hS8 => ?_
      refine ⟨_, rfl, _, rfl, pw, _, _, _, rfl, rfl, SqL.of hw4, ints_at at0 at1, _, rfl, _, _, rfl, rfl, _, rfl, rfl, ?_⟩
      have v0 : ∀ x : Int, 0 ≤ x % 26 ∧ x % 26 < 26 := fun x => by (first | lia | omega)
      obtain ⟨v1, v2⟩ := v0 (zs.getD at'.toNat 0 + (0 + (i : Int)))
      generalize (zs.getD at'.toNat 0 + (0 + (i : Int))) % 26 = nv at v1 v2
      refine ⟨_, rfl, _, rfl, po, _, _, at'.toNat, rfl, rfl, ho4, ixN_in at0 (by rw [List.length_map]; exact at1), ?_⟩
      have eset : (zs.map V.int).set at'.toNat (.int nv) = (zs.set at'.toNat nv).map V.int := by rw [List.map_set]
      rw [eset]
      have hz2 : ∀ z ∈ zs.set at'.toNat nv, 0 ≤ z ∧ z < 26 := fun z h => by
        rcases List.mem_or_eq_of_mem_set h with h | h
        · exact hz z h
        · rw [h]; exact ⟨v1, v2⟩
      have hl2 : (zs.set at'.toNat nv).length = nw := by rw [List.length_set]; exact hl
      generalize zs.set at'.toNat nv = ws at hz2 hl2
      have s5 : SameB po H4 (upd H4 po (.lst (ws.map V.int))) := SameB.upd
      have hn5 := s5 _ _ (Ne.symm npo) hn4
      have ho5 : upd H4 po (.lst (ws.map V.int)) po = some (.lst (ws.map V.int)) := upd_same
      have sB5 : SameB pn H1 (upd H4 po (.lst (ws.map V.int))) := fun b o hb h => by
        have h4 := sB4 b o hb h
        have : b ≠ po := fun z => by
          subst z
          have h3 := sB b o hb h
          rw [hpo] at h3; cases h3
        exact s5 b o this h4
      generalize upd H4 po (.lst (ws.map V.int)) = H5 at hn5 ho5 sB5
      refine hS8 _ _ ?_
      refine seq_any fun S9 hS9 => ?_
      refine ⟨_, rfl, rfl, _, rfl, po, rfl, ⟨_, SqL.of ho5⟩, ?_⟩
      refine comp_listM (xs := ws.map V.int) (fun v => match v with | .int z => .str (tx [L26.getD z.toNat 0]) | _ => .non) (fun H' => H' = H5) rfl rfl (by rw [List.length_map]; (first | lia | omega)) (fun H' e => by rw [e]; exact SqL.of ho5) (fun x H' Qk hx e q' => ?_) fun H' e => ?_
      · subst e
        refine hold fun G_35 hG_35 => ?_
        obtain ⟨z, hzm, rfl⟩ := List.mem_map.mp hx
        refine hG_35 ?_
        obtain ⟨z0, z1⟩ := hz2 z hzm
        exact ⟨_, rfl, _, rfl, L26, _, rfl, rfl, by decide +kernel, z0, by show z < 26; exact z1, q' _ rfl⟩
      · subst e
        intro p6 hp6
        have s6 := same_new hp6 (.lst ((ws.map V.int).map fun v => match v with | .int z => .str (tx [L26.getD z.toNat 0]) | _ => .non))
        have hn6 := s6 _ _ hn5
        have sB6 := sB5.trans (s6.b (p := pn))
        have e6 : upd H' p6 (.lst ((ws.map V.int).map fun v => match v with | .int z => .str (tx [L26.getD z.toNat 0]) | _ => .non)) p6 = some (.lst ((ws.map fun z => [L26.getD z.toNat 0]).map fun l => .str (tx l))) := by
          rw [upd_same, List.map_map, List.map_map]; rfl
        generalize upd H' p6 (.lst ((ws.map V.int).map fun v => match v with | .int z => .str (tx [L26.getD z.toNat 0]) | _ => .non)) = H6 at hn6 sB6 e6
        refine ⟨p6, ws.map fun z => [L26.getD z.toNat 0], rfl, rfl, SqL.of e6, ?_, ?_⟩
        · rw [flat1 (fun z : Int => L26.getD z.toNat 0), List.length_map]; (first | lia | omega)
        rw [flat1 (fun z : Int => L26.getD z.toNat 0)]
        have hbs : ∀ y ∈ ws.map (fun z => L26.getD z.toNat 0), y ∈ SML := fun y hy => by
          refine hold fun G_36 hG_36 => ?_
          obtain ⟨z, hzm, rfl⟩ := List.mem_map.mp hy
          refine hG_36 ?_
          obtain ⟨z0, z1⟩ := hz2 z hzm
          exact l26_in _ (by (first | lia | omega))
        have hbl : (ws.map (fun z => L26.getD z.toNat 0)).length = nw := by rw [List.length_map]; exact hl2
        generalize ws.map (fun z => L26.getD z.toNat 0) = bs at hbs hbl
        refine ⟨_, _, rfl, rfl, smallE (by (first | lia | omega)), ?_⟩
        have hns : ∀ y ∈ ah ++ bs, y ∈ SML := fun y hy => (List.mem_append.mp hy).elim (ahS y) (hbs y)
        have hnl : (ah ++ bs).length = ah.length + nw := by rw [List.length_append, hbl]
        generalize ah ++ bs = nam at hns hnl
        refine hS9 _ _ ?_
        refine seq_any fun SA hSA => ?_
        refine if_any fun TA hTA hTB => ?_
        refine ⟨_, rfl, by show 5 ≤ sizeLine; decide, fun p7 hp7 => ?_⟩
        have s7 := same_new hp7 (.tup MK)
        have hn7 := s7 _ _ hn6
        have sB7 := sB6.trans (s7.b (p := pn))
        have e7 : SqT K (upd H6 p7 (.tup MK)) p7 MK := SqT.of upd_same
        refine ⟨p7, _, rfl, .inr e7, rfl, rfl, _, rfl, ?_⟩
        clear e7
        change upd H6 p7 (.tup MK) pn = _ at hn7
        have fin : ∀ (x : List Nat), NmT x → ∀ (H8 : Hp) (o6 o7 : Option V), SameB pn H1 H8 → H8 pn = some (.lst (txs nms)) → H8 pn = some (.lst (txs nms)) ∧ (txs nms).length < sizeLine ∧ N [some (V.int d), some (.int 4), some (.str (tx L26)), some (.str (tx ah)), some (.ref pw), some (.int at'), some (.ref pn), o6, o7, some (.str (tx x))] (upd H8 pn (.lst (txs nms ++ [.str (tx x)]))) := fun x hx H8 o6 o7 hs h8 => by
          refine ⟨h8, small (by unfold txs; rw [List.length_map]; (first | lia | omega)), hN _ _ ⟨nms ++ [x], _, _, _, rfl, hs.trans SameB.upd, ?_, by rw [List.length_append, List.length_singleton]; (first | lia | omega), fun y hy => (List.mem_append.mp hy).elim (hok y) fun h => by rw [List.mem_singleton.mp h]; exact hx⟩⟩
          rw [upd_same]; unfold txs; rw [List.map_append]; rfl
        refine bool2 (fun c => ?_) (fun c => ?_)
        · refine hTA _ ?_
          have hx := mk_x _ (mk_cases (l := nam) c)
          refine ⟨_, rfl, _, _, rfl, rfl, smallE (by rw [List.length_singleton]; (first | lia | omega)), ?_⟩
          refine hSA _ _ ?_
          exact ⟨_, rfl, .inl ⟨rfl, _, SqL.of hn7⟩, _, rfl, pn, _, _, rfl, rfl, fin _ hx _ _ _ sB7 hn7⟩
        · refine hTB _ ?_
          have hx := nm_made (l := nam) c (by (first | lia | omega)) (by (first | lia | omega)) hns
          refine hSA _ _ ?_
          exact ⟨_, rfl, .inl ⟨rfl, _, SqL.of hn7⟩, _, rfl, pn, _, _, rfl, rfl, fin _ hx _ _ _ sB7 hn7⟩
    · refine hold fun G_37 hG_37 => ?_
      obtain ⟨nms, o6, o7, o8, rfl, sB, hn, hlen, hok⟩ := pv
      refine hG_37 ?_
      refine hS6 _ _ ?_
      exact ⟨_, rfl, q _ pn nms (fun b o hb => sB b o (ne_of_none hb hpnH) (s1 b o hb)) hpnH hn hlen hok⟩
theorem ok__law_take (T : Txt w K mg) {k : Nat}   : Cal P w K mg base CX0 (k + 1) "_law_take" ["_law_state"] (sp__law_take K) := by
  refine T.d__law_take.elim fun fa e => e.elim fun fd At => At.cal sc__law_take (fun vs H Q E h => ?_) (fun cdv A outer s H vs Q E hr h => ?_)
  · (first | (obtain ⟨_, rfl, _⟩ := h; rfl) | (obtain ⟨_, _, rfl, _⟩ := h; rfl) | (obtain ⟨_, _, _, rfl, _⟩ := h; rfl) | (obtain ⟨_, _, _, _, rfl, _⟩ := h; rfl) | (obtain ⟨_, _, _, _, _, rfl, _⟩ := h; rfl) | (obtain ⟨_, _, _, _, _, _, rfl, _⟩ := h; rfl) | (obtain ⟨_, _, _, _, _, _, _, rfl, _⟩ := h; rfl) | (obtain ⟨_, _, _, _, _, _, _, _, rfl, _⟩ := h; rfl) | (obtain ⟨_, _, _, _, _, _, _, _, _, rfl, _⟩ := h; rfl) | (obtain ⟨rfl, _⟩ := h; rfl) | exact h.elim)
  have m_len := T.m_len
  refine ⟨_, (@pss_cons _ _ _ _ _ (ps_asg (@pe_op _ _ _ _ _ _ _ _ op_add (@pe_ix _ _ _ _ _ _ _ ix_list (pv 0) pe_int (fun _ _ => rfl)) pe_int) (pg_sub (pv 0) pe_int set_list))
    (@pss_cons _ _ _ _ _ (@ps_if _ _ _ _ _ _ _ _ (pt_cmpR op_gt (@pe_ix _ _ _ _ _ _ _ ix_list (pv 0) pe_int (fun _ _ => rfl)) (pe_callB call_len_seq rfl m_len boLen (@pa_cons _ _ _ _ _ (@pe_ix _ _ _ _ _ _ _ ix_list (pv 0) pe_int (fun _ _ => rfl)) pa_nil rfl)) (nomark _))
    (@pss_one _ _ _ (@ps_ret _ _ _ _ pe_int))
    pss_nil)
    (@pss_one _ _ _ (@ps_ret _ _ _ _ (@pe_op _ _ _ _ _ _ _ _ op_mod (@pe_ix _ _ _ _ _ _ _ ix_list (@pe_ix _ _ _ _ _ _ _ ix_list (pv 0) pe_int (fun _ _ => rfl)) (@pe_op _ _ _ _ _ _ _ _ op_sub (@pe_ix _ _ _ _ _ _ _ ix_list (pv 0) pe_int (fun _ _ => rfl)) pe_int) (fun _ _ => rfl)) (@pe_op _ _ _ _ _ _ _ _ op_pow pe_int pe_int)))))), ?_⟩
  refine hold fun G_26 hG_26 => ?_
  obtain ⟨ps, pc, ms, i, rfl, g, q⟩ := h
  refine hG_26 ?_
  refine ⟨_, rfl, ps, _, 1, _, rfl, rfl, SqL.of g.st, atI_nat (j := 1) rfl, _, _, rfl, rfl, _, rfl, ps, _, 1, 1, rfl, rfl, g.st, rfl, ?_⟩
  have ei : ((i : Nat) : Int) + 1 = ((i + 1 : Nat) : Int) := by (first | lia | omega)
  show _
  have e1 : upd H ps (.lst ([V.ref pc, .int (i : Nat)].set 1 (.int (((i : Nat) : Int) + 1)))) = upd H ps (.lst [.ref pc, .int ((i + 1 : Nat) : Int)]) := by rw [ei]; rfl
  rw [e1]
  have h1 : upd H ps (.lst [.ref pc, .int ((i + 1 : Nat) : Int)]) ps = some (.lst [.ref pc, .int ((i + 1 : Nat) : Int)]) := upd_same
  have h2 : upd H ps (.lst [.ref pc, .int ((i + 1 : Nat) : Int)]) pc = some (.lst (ms.map V.int)) := by rw [upd_ne g.ne]; exact g.cs
  generalize upd H ps (.lst [.ref pc, .int ((i + 1 : Nat) : Int)]) = H1 at q h1 h2
  refine ⟨_, rfl, ps, _, 1, _, rfl, rfl, SqL.of h1, atI_nat (j := 1) rfl, _, rfl, ps, _, 0, _, rfl, rfl, SqL.of h1, atI_nat (j := 0) rfl, pc, _, rfl, .inl (SqL.of h2), _, _, rfl, rfl, _, rfl, ite2 (fun c => ?_) (fun c => ?_)⟩
  · exact q 0 (by (first | lia | omega))
  · have c' : ¬ (((ms.map V.int).length : Nat) : Int) < ((i + 1 : Nat) : Int) := of_decide_eq_false (Bool.eq_false_iff.mpr c)
    rw [List.length_map] at c'
    have hi : i < ms.length := by (first | lia | omega)
    have e2 : ((i + 1 : Nat) : Int) - 1 = ((i : Nat) : Int) := by (first | lia | omega)
    refine ⟨_, rfl, ps, _, 0, _, rfl, rfl, SqL.of h1, atI_nat (j := 0) rfl, _, rfl, ps, _, 1, _, rfl, rfl, SqL.of h1, atI_nat (j := 1) rfl, _, _, rfl, rfl, pc, _, _, .int (ms.getD i 0), rfl, rfl, SqL.of h2, ?_, _, _, rfl, rfl, ⟨by decide, by decide, by decide⟩, _, _, rfl, rfl, (by show (0 : Int) < 10 ^ Int.toNat 30; decide), ?_⟩
    · rw [e2]
      refine atI_nat ?_
      rw [List.getElem?_map, List.getElem?_eq_getElem hi, List.getD_eq_getElem?_getD, List.getElem?_eq_getElem hi]; rfl
    · exact q _ (Int.emod_nonneg _ (by decide))
theorem ok__law_node (T : Txt w K mg) {k : Nat} {n : Nat}  (G__law_signs : Cal P w K mg base CX0 k "_law_signs" ["_law_cell", "_law_many"] (sp__law_signs K)) (G__law_take : Cal P w K mg base CX0 k "_law_take" ["_law_state"] (sp__law_take K)) (G__law_form : Cal P w K mg base CX0 k "_law_form" ["_law_state", "_law_names_here", "_law_deep", "_law_many"] (sp__law_form n K)) : Cal P w K mg base CX0 (k + 1) "_law_node" ["_law_state", "_law_names_here", "_law_deep"] (sp__law_node n K) := by
  refine T.d__law_node.elim fun fa e => e.elim fun fd At => At.cal sc__law_node (fun vs H Q E h => ?_) (fun cdv A outer s H vs Q E hr h => ?_)
  · (first | (obtain ⟨_, rfl, _⟩ := h; rfl) | (obtain ⟨_, _, rfl, _⟩ := h; rfl) | (obtain ⟨_, _, _, rfl, _⟩ := h; rfl) | (obtain ⟨_, _, _, _, rfl, _⟩ := h; rfl) | (obtain ⟨_, _, _, _, _, rfl, _⟩ := h; rfl) | (obtain ⟨_, _, _, _, _, _, rfl, _⟩ := h; rfl) | (obtain ⟨_, _, _, _, _, _, _, rfl, _⟩ := h; rfl) | (obtain ⟨_, _, _, _, _, _, _, _, rfl, _⟩ := h; rfl) | (obtain ⟨_, _, _, _, _, _, _, _, _, rfl, _⟩ := h; rfl) | (obtain ⟨rfl, _⟩ := h; rfl) | exact h.elim)
  have m_len := T.m_len
  refine ⟨_, (@pss_cons _ _ _ _ _ (@ps_set _ _ 3 _ _ _ _ sc__law_node.nd rfl (Or.inl rfl) (pe_cal G__law_take hr (@pa_cons _ _ _ _ _ (pv 0) pa_nil rfl) rfl) rfl (Or.inl rfl))
    (@pss_cons _ _ _ _ _ (@ps_set _ _ 4 _ _ _ _ sc__law_node.nd rfl (Or.inl rfl) (@pe_ix _ _ _ _ _ _ _ ix_list (@pe_lst _ _ _ _ (@pa_txs _ _ [[116, 101, 120, 116], [116, 101, 120, 116], [103, 97, 112], [105, 102], [101, 97, 99, 104], [117, 115, 101]] (by decide +kernel))) (@pe_op _ _ _ _ _ _ _ _ (op_modL 6 (by decide)) (pv 3) pe_int) (fun _ _ => rfl)) rfl (Or.inl rfl))
    (@pss_cons _ _ _ _ _ (@ps_set _ _ 3 _ _ _ _ sc__law_node.nd rfl (Or.inl rfl) (@pe_op _ _ _ _ _ _ _ _ (op_divL 6 (by decide) (by decide)) (pv 3) pe_int) rfl (Or.inl rfl))
    (@pss_cons _ _ _ _ _ (@ps_set _ _ 5 _ _ _ _ sc__law_node.nd rfl (Or.inl rfl) (@pe_ix _ _ _ _ _ _ _ ix_list (pv 1) (@pe_op _ _ _ _ _ _ _ _ op_mod (pv 3) (pe_callB call_len_seq rfl m_len boLen (@pa_cons _ _ _ _ _ (pv 1) pa_nil rfl))) (fun _ _ => rfl)) rfl (Or.inl rfl))
    (@pss_cons _ _ _ _ _ (@ps_set _ _ 3 _ _ _ _ sc__law_node.nd rfl (Or.inl rfl) (@pe_op _ _ _ _ _ _ _ _ op_fdiv (pv 3) (pe_callB call_len_seq rfl m_len boLen (@pa_cons _ _ _ _ _ (pv 1) pa_nil rfl))) rfl (Or.inl rfl))
    (@pss_cons _ _ _ _ _ (@ps_if _ _ _ _ _ _ _ _ (PW.pt (pw_and (pt_cmpR op_in_seq (pv 4) (@pe_tup _ _ _ _ _ (@pa_cons _ _ _ _ _ (@pe_tx _ _ [105, 102] _ _ rfl) (@pa_cons _ _ _ _ _ (@pe_tx _ _ [101, 97, 99, 104] _ _ (by decide +kernel)) pa_nil star_c) star_c)) (by with_unfolding_all rfl)) (pw_and1 (pt_cmpR op_lt (pv 2) pe_int (nomark _)))))
    (@pss_cons _ _ _ _ _ (@ps_set _ _ 6 _ _ _ _ sc__law_node.nd rfl (Or.inl rfl) (pe_cal G__law_form hr (@pa_cons _ _ _ _ _ (pv 0) (@pa_cons _ _ _ _ _ (pv 1) (@pa_cons _ _ _ _ _ (@pe_op _ _ _ _ _ _ _ _ op_add (pv 2) pe_int) (@pa_cons _ _ _ _ _ (@pe_op _ _ _ _ _ _ _ _ (op_modL 4 (by decide)) (pv 3) pe_int) pa_nil star_b) star_b) star_n) star_n) rfl) rfl (Or.inl rfl))
      (@pss_cons _ _ _ _ _ (@ps_if _ _ _ _ _ _ _ _ (pt_cmpR op_eq (pv 4) (@pe_tx _ _ [101, 97, 99, 104] _ _ (by decide +kernel)) (nomark _))
      (@pss_one _ _ _ (@ps_ret _ _ _ _ (@pe_tup _ _ _ _ _ (@pa_cons _ _ _ _ _ (@pe_tx _ _ [101, 97, 99, 104] _ _ (by decide +kernel)) (@pa_cons _ _ _ _ _ (pv 5) (@pa_cons _ _ _ _ _ (pv 6) pa_nil star_n) star_n) star_c))))
      pss_nil)
      (@pss_one _ _ _ (@ps_ret _ _ _ _ (@pe_tup _ _ _ _ _ (@pa_cons _ _ _ _ _ (@pe_tx _ _ [105, 102] _ _ rfl) (@pa_cons _ _ _ _ _ (pv 5) (@pa_cons _ _ _ _ _ (pv 6) (@pa_cons _ _ _ _ _ (pe_cal G__law_form hr (@pa_cons _ _ _ _ _ (pv 0) (@pa_cons _ _ _ _ _ (pv 1) (@pa_cons _ _ _ _ _ (@pe_op _ _ _ _ _ _ _ _ op_add (pv 2) pe_int) (@pa_cons _ _ _ _ _ (@pe_op _ _ _ _ _ _ _ _ (op_modL 3 (by decide)) (@pe_op _ _ _ _ _ _ _ _ (op_divL 4 (by decide) (by decide)) (pv 3) pe_int) pe_int) pa_nil star_b) star_b) star_n) star_n) rfl) pa_nil star_k) star_n) star_n) star_c))))))
    pss_nil)
    (@pss_cons _ _ _ _ _ (@ps_if _ _ _ _ _ _ _ _ (pt_cmpR op_in_seq (pv 4) (@pe_tup _ _ _ _ _ (@pa_cons _ _ _ _ _ (@pe_tx _ _ [103, 97, 112] _ _ rfl) (@pa_cons _ _ _ _ _ (@pe_tx _ _ [117, 115, 101] _ _ rfl) pa_nil star_c) star_c)) (by with_unfolding_all rfl))
    (@pss_one _ _ _ (@ps_ret _ _ _ _ (@pe_tup _ _ _ _ _ (@pa_cons _ _ _ _ _ (pv 4) (@pa_cons _ _ _ _ _ (pv 5) pa_nil star_n) star_n))))
    pss_nil)
    (@pss_one _ _ _ (@ps_ret _ _ _ _ (@pe_tup _ _ _ _ _ (@pa_cons _ _ _ _ _ (@pe_tx _ _ [116, 101, 120, 116] _ _ (by decide +kernel)) (@pa_cons _ _ _ _ _ (pe_cal G__law_signs hr (@pa_cons _ _ _ _ _ (pv 3) (@pa_cons _ _ _ _ _ (@pe_op _ _ _ _ _ _ _ _ (op_modL 9 (by decide)) (pv 3) pe_int) pa_nil star_b) star_n) rfl) pa_nil star_k) star_c))))))))))), ?_⟩
  refine hold fun G_42 hG_42 => ?_
  obtain ⟨ps, pc, pn, ms, i, nms, hn3, rfl, g, hpn, npn, hl4, hok, q⟩ := h
  refine hG_42 ?_
  refine seq_any fun S1 hS1 => ?_
  refine ⟨_, rfl, ps, pc, ms, i, rfl, g, fun cv c0 => hS1 _ _ ?_⟩
  have sB1 : SameB ps H (upd H ps (.lst [.ref pc, .int ((i + 1 : Nat) : Int)])) := SameB.upd
  have st1 : upd H ps (.lst [.ref pc, .int ((i + 1 : Nat) : Int)]) ps = some (.lst [.ref pc, .int ((i + 1 : Nat) : Int)]) := upd_same
  generalize upd H ps (.lst [.ref pc, .int ((i + 1 : Nat) : Int)]) = H1 at sB1 st1
  refine seq_any fun S2 hS2 => ?_
  refine ⟨by show 6 ≤ sizeLine; decide, fun p1 hp1 => ?_⟩
  have s2 := same_new hp1 (.lst ([[116, 101, 120, 116], [116, 101, 120, 116], [103, 97, 112], [105, 102], [101, 97, 99, 104], [117, 115, 101]].map fun l => V.str (tx l)))
  have sB2 := sB1.trans (s2.b (p := ps))
  have st2 := s2 _ _ st1
  have pn2 := sB2 _ _ npn hpn
  have e6 : SqL K (upd H1 p1 (.lst ([[116, 101, 120, 116], [116, 101, 120, 116], [103, 97, 112], [105, 102], [101, 97, 99, 104], [117, 115, 101]].map fun l => V.str (tx l)))) p1 (W6.map fun l => V.str (tx l)) := SqL.of upd_same
  have hw6 := w6 (cv % 6).toNat (by (first | lia | omega))
  have hlen : (((txs nms).length : Nat) : Int) = 4 := by unfold txs; rw [List.length_map, hl4]; rfl
  refine ⟨_, rfl, _, rfl, rfl, p1, _, _, _, rfl, rfl, e6, tab_at (tab := W6) (by (first | lia | omega)) (by show cv % 6 < 6; (first | lia | omega)), hS2 _ _ ?_⟩
  refine seq_any fun S3 hS3 => ?_
  refine ⟨_, rfl, _, rfl, rfl, hS3 _ _ ?_⟩
  refine seq_any fun S4 hS4 => ?_
  refine ⟨_, rfl, _, rfl, _, rfl, pn, _, rfl, .inl (SqL.of pn2), _, _, rfl, rfl, (by show (0 : Int) < _; rw [hlen]; decide), pn, _, _, _, rfl, rfl, SqL.of pn2, txs_at (by rw [hlen]; (first | lia | omega)) (by rw [hlen, hl4]; (first | lia | omega)), hS4 _ _ ?_⟩
  refine seq_any fun S5 hS5 => ?_
  have hnm : NmT (nms.getD (cv / 6 % (((txs nms).length : Nat) : Int)).toNat []) := by
    rw [hlen]
    refine hok _ ?_
    rw [List.getD_eq_getElem?_getD, List.getElem?_eq_getElem (show (cv / 6 % 4).toNat < nms.length by (first | lia | omega))]
    exact List.getElem_mem _
  refine ⟨_, rfl, _, rfl, pn, _, rfl, .inl (SqL.of pn2), _, _, rfl, rfl, by rw [hlen]; exact ⟨by decide, by decide⟩, hS5 _ _ ?_⟩
  dsimp only
  generalize nms.getD (cv / 6 % (((txs nms).length : Nat) : Int)).toNat [] = nm at hnm
  have hc0 : 0 ≤ cv / 6 / (((txs nms).length : Nat) : Int) := by rw [hlen]; (first | lia | omega)
  generalize cv / 6 / (((txs nms).length : Nat) : Int) = cl at hc0
  generalize W6.getD (cv % 6).toNat [] = wd at hw6
  generalize upd H1 p1 (.lst ([[116, 101, 120, 116], [116, 101, 120, 116], [103, 97, 112], [105, 102], [101, 97, 99, 104], [117, 115, 101]].map fun l => V.str (tx l))) = H2 at sB2 st2 pn2
  have fin2 : ∀ (H5 : Hp) (w' x' : List Nat), SameB ps H H5 → H5 ps = some (.lst [.ref pc, .int ((i + 1 : Nat) : Int)]) → NdG (FmG n) (.tup [.str w', .str x']) → tn (.tup [.str w', .str x']) ≤ 8 → w'.length ≤ 4 → x'.length ≤ 8 → ∀ p, H5 p = none → Q (.ref p) (upd H5 p (.tup [.str (tx w'), .str (tx x')])) := fun H5 w' x' sB5 st5 hnd htn hw8 hx8 p hp =>
    q _ _ _ (i + 1) (by (first | lia | omega)) (sB5.trans (same_new hp _).b) (same_new hp _ _ _ st5) (dt_tup (SqT.of (TuO_tup upd_same)) (dts_cons dt_str (dts_cons dt_str dts_nil))) hnd htn (wt_two hw8 hx8)
  refine seq_any fun S6 hS6 => ?_
  refine if_any fun T hT hF => ?_
  refine ⟨_, rfl, by show 2 ≤ sizeLine; decide, fun p3 hp3 => ?_⟩
  have s3 := same_new hp3 (.tup [.str (tx [105, 102]), .str (tx [101, 97, 99, 104])])
  have sB3 := sB2.trans (s3.b (p := ps))
  have st3 := s3 _ _ st2
  have pn3 := sB3 _ _ npn hpn
  have e3 : SqT K (upd H2 p3 (.tup [.str (tx [105, 102]), .str (tx [101, 97, 99, 104])])) p3 [.str (tx [105, 102]), .str (tx [101, 97, 99, 104])] := SqT.of upd_same
  generalize upd H2 p3 (.tup [.str (tx [105, 102]), .str (tx [101, 97, 99, 104])]) = H3 at sB3 st3 pn3 e3
  refine ⟨p3, _, rfl, .inr e3, rfl, rfl, _, rfl, ?_⟩
  have hNo : T false H3 := by
    refine hF _ (hS6 _ _ ?_)
    refine seq_any fun S7 hS7 => ?_
    refine ⟨_, rfl, by show 2 ≤ sizeLine; decide, fun p4 hp4 => ?_⟩
    have s4 := same_new hp4 (.tup GU2)
    refine ⟨p4, GU2, rfl, .inr (SqT.of upd_same), rfl, rfl, _, rfl, ite2 (fun c => ?_) (fun _ => hS7 _ _ ?_)⟩
    · refine hold fun G_43 hG_43 => ?_
      obtain ⟨hnd, htn, hw8⟩ := w_name (n := n) hw6 c hnm
      refine hG_43 ?_
      refine ⟨_, rfl, _, rfl, by show 2 ≤ sizeLine; decide, ?_⟩
      exact fin2 _ _ _ (sB3.trans (s4.b (p := ps))) (s4 _ _ st3) hnd htn hw8 hnm.2.1
    · refine ⟨_, rfl, _, rfl, _, rfl, rfl, cl, (cl % 9).toNat, ?_, by (first | lia | omega), fun H5 l s5 hl hsg => ?_⟩
      · show [V.int cl, V.int (cl % 9)] = _
        rw [show (((cl % 9).toNat : Nat) : Int) = cl % 9 by (first | lia | omega)]
      · exact ⟨by show 2 ≤ sizeLine; decide, fin2 _ _ _ ((sB3.trans (s4.b (p := ps))).trans (s5.b (p := ps))) (s5 _ _ (s4 _ _ st3)) (.inl ⟨l, rfl, hsg⟩) (by show l.length ≤ 8; (first | lia | omega)) (by decide) (by (first | lia | omega))⟩
  rcases w_blk hw6 with hno | ⟨hyes, hwd⟩
  · exact iteFb hno hNo
  refine iteTb hyes ?_
  cases n with
  | zero => exact ⟨_, rfl, _, _, rfl, rfl, _, rfl, boolF (by decide) hNo⟩
  | succ n =>
    refine ⟨_, rfl, _, _, rfl, rfl, _, rfl, boolT (decide_eq_true (show (4 - ((n + 1 : Nat) : Int)) < 4 by (first | lia | omega))) (hT _ ?_)⟩
    refine seq_any fun S7 hS7 => ?_
    refine ⟨_, rfl, _, rfl, _, rfl, _, _, rfl, rfl, _, rfl, _, rfl, rfl, ?_⟩
    refine ⟨ps, pc, pn, ms, i + 1, nms, (cl % 4).toNat, by (first | lia | omega), ?_, by (first | lia | omega), g.next sB3 st3, pn3, npn, hl4, hok, fun H4 v1 f1 j hj sB34 st4 hv1 hf1 hw1 => hS7 _ _ ?_⟩
    · show [V.ref ps, V.ref pn, V.int (4 - ((n + 1 : Nat) : Int) + 1), V.int (cl % 4)] = _
      rw [show (4 - ((n + 1 : Nat) : Int) + 1) = 4 - ((n : Nat) : Int) by (first | lia | omega), show (((cl % 4).toNat : Nat) : Int) = cl % 4 by (first | lia | omega)]
    have sB4 := sB3.trans sB34
    have hx8 := hnm.2.1
    refine seq_any fun S8 hS8 => ?_
    refine ⟨_, rfl, rfl, _, rfl, ?_⟩
    rcases hwd with rfl | rfl
    · refine iteFb (by decide +kernel) (hS8 _ _ ?_)
      refine ⟨_, rfl, _, rfl, _, rfl, _, rfl, _, rfl, _, _, rfl, rfl, _, rfl, _, rfl, rfl, _, rfl, rfl, ?_⟩
      refine ⟨ps, pc, pn, ms, j, nms, (cl / 4 % 3).toNat, by (first | lia | omega), ?_, by (first | lia | omega), g.next sB4 st4, sB4 _ _ npn hpn, npn, hl4, hok, fun H5 v2 f2 j2 hj2 sB5 st5 hv2 hf2 hw2 => ?_⟩
      · show [V.ref ps, V.ref pn, V.int (4 - ((n + 1 : Nat) : Int) + 1), V.int (cl / 4 % 3)] = _
        rw [show (4 - ((n + 1 : Nat) : Int) + 1) = 4 - ((n : Nat) : Int) by (first | lia | omega), show (((cl / 4 % 3).toNat : Nat) : Int) = cl / 4 % 3 by (first | lia | omega)]
      refine ⟨by show 4 ≤ sizeLine; decide, fun p hp => ?_⟩
      have s6 := same_new hp (.tup [.str (tx [105, 102]), .str (tx nm), v1, v2])
      exact q _ _ (.tup [.str wIf, .str nm, .tup f1, .tup f2]) j2 (by (first | lia | omega)) ((sB4.trans sB5).trans s6.b) (s6 _ _ st5) (dt_tup (SqT.of (TuO_tup upd_same)) (dts_cons dt_str (dts_cons dt_str (dts_cons (hv1.same ((sB5.t st4).trans s6.t).to) (dts_cons (hv2.same s6.t.to) dts_nil))))) (.inr (.inr (.inr (.inr ⟨nm, f1, f2, rfl, hnm, hf1, hf2⟩)))) (Nat.zero_le _) (by
        show 3 * 2 + (3 * nm.length + (wts f1 + 10 + (wts f2 + 10 + 0))) + 10 ≤ 60 + 6 * Bd n
        (first | lia | omega))
    · refine iteTb (by decide +kernel) ?_
      refine ⟨_, rfl, _, rfl, by show 3 ≤ sizeLine; decide, fun p hp => ?_⟩
      have s6 := same_new hp (.tup [.str (tx [101, 97, 99, 104]), .str (tx nm), v1])
      exact q _ _ (.tup [.str wEach, .str nm, .tup f1]) j (by (first | lia | omega)) (sB4.trans s6.b) (s6 _ _ st4) (dt_tup (SqT.of (TuO_tup upd_same)) (dts_cons dt_str (dts_cons dt_str (dts_cons (hv1.same s6.t.to) dts_nil)))) (.inr (.inr (.inr (.inl ⟨nm, f1, rfl, hnm, hf1⟩)))) (Nat.zero_le _) (by
        show 3 * 4 + (3 * nm.length + (wts f1 + 10 + 0)) + 10 ≤ 60 + 6 * Bd n
        (first | lia | omega))
theorem ok__law_form (T : Txt w K mg) {k : Nat} {n : Nat}  (G__law_node : Cal P w K mg base CX0 k "_law_node" ["_law_state", "_law_names_here", "_law_deep"] (sp__law_node n K)) : Cal P w K mg base CX0 (k + 1) "_law_form" ["_law_state", "_law_names_here", "_law_deep", "_law_many"] (sp__law_form (n + 1) K) := by
  refine T.d__law_form.elim fun fa e => e.elim fun fd At => At.cal sc__law_form (fun vs H Q E h => ?_) (fun cdv A outer s H vs Q E hr h => ?_)
  · (first | (obtain ⟨_, rfl, _⟩ := h; rfl) | (obtain ⟨_, _, rfl, _⟩ := h; rfl) | (obtain ⟨_, _, _, rfl, _⟩ := h; rfl) | (obtain ⟨_, _, _, _, rfl, _⟩ := h; rfl) | (obtain ⟨_, _, _, _, _, rfl, _⟩ := h; rfl) | (obtain ⟨_, _, _, _, _, _, rfl, _⟩ := h; rfl) | (obtain ⟨_, _, _, _, _, _, _, rfl, _⟩ := h; rfl) | (obtain ⟨_, _, _, _, _, _, _, _, rfl, _⟩ := h; rfl) | (obtain ⟨_, _, _, _, _, _, _, _, _, rfl, _⟩ := h; rfl) | (obtain ⟨rfl, _⟩ := h; rfl) | exact h.elim)
  have m_range := T.m_range
  have m_tuple := T.m_tuple
  refine ⟨_, (@pss_one _ _ _ (@ps_ret _ _ _ _ (pe_callTy call_tuple_of rfl m_tuple boTuple (@pa_cons _ _ _ _ _ (pe_comp (vars := ["_law_k"]) (frs' := ["_law_state", "_law_names_here", "_law_deep"]) (fr := [0, 1, 2]) rfl (CompScope.free rfl (by decide +kernel) rfl (.cons ⟨rfl, rfl⟩ (.cons ⟨rfl, rfl⟩ (.cons ⟨rfl, rfl⟩ .nil)))) (pi_range1 rfl m_range (@pa_cons _ _ _ _ _ (pv 3) pa_nil rfl)) (fun pins cl C fp s H => ⟨pgc 0 (by decide +kernel) rfl rfl, pifs_nil, (pe_cal G__law_node hr (@pa_cons _ _ _ _ _ (pv 1) (@pa_cons _ _ _ _ _ (pv 2) (@pa_cons _ _ _ _ _ (pv 3) pa_nil star_n) star_n) star_n) rfl)⟩)) pa_nil rfl)))), ?_⟩
  refine hold fun G_38 hG_38 => ?_
  obtain ⟨ps, pc, pn, ms, i, nms, m, hn3, rfl, hm, g, hpn, npn, hl4, hok, q⟩ := h
  refine hG_38 ?_
  refine ⟨_, rfl, _, rfl, by (first | lia | omega), by (first | lia | omega), ?_⟩
  rw [Int.toNat_natCast]
  refine comp_range (fun t σ ys H2 => ∃ (o : Option V) (ds : List Dt) (j : Nat), σ = [o, some (.ref ps), some (.ref pn), some (.int (4 - (n : Nat)))] ∧ i ≤ j ∧ SameB ps H H2 ∧ H2 ps = some (.lst [.ref pc, .int ((j : Nat) : Int)]) ∧ IsDts K (TuO H2) ds ys ∧ ds.length = t ∧ ∀ d ∈ ds, NdG (FmG n) d ∧ tn d ≤ 8 ∧ wt d ≤ Bd n)
    ⟨none, [], i, rfl, Nat.le_refl _, SameB.refl _ _, g.st, dts_nil, rfl, (fun d hd => nomatch hd)⟩ (small (by (first | lia | omega))) (fun t σ ys H2 ht pv => ?_) (fun t σ ys H2 ht pv => ?_) (fun σ ys H2 pv => ?_)
  · refine hold fun G_39 hG_39 => ?_
    obtain ⟨o, ds, j, rfl, _, _, _, hd, hl, _⟩ := pv
    refine hG_39 ?_
    rw [← hd.len]; (first | lia | omega)
  · refine hold fun G_40 hG_40 => ?_
    obtain ⟨o, ds, j, rfl, hij, sB, hst, hd, hl, ha⟩ := pv
    refine hG_40 ?_
    refine ⟨_, rfl, _, rfl, _, rfl, ps, pc, pn, ms, j, nms, hn3, rfl, g.next sB hst, sB _ _ npn hpn, npn, hl4, hok, fun H3 v d j' hj sB3 hst3 hv hnd htn hwt => ?_⟩
    exact ⟨_, ds ++ [d], j', rfl, by (first | lia | omega), sB.trans sB3, hst3, dts_snoc (hd.same (sB3.t hst).to) hv, by rw [List.length_append, List.length_singleton]; (first | lia | omega), fun e he => (List.mem_append.mp he).elim (ha e) fun h => by rw [List.mem_singleton.mp h]; exact ⟨hnd, htn, hwt⟩⟩
  · refine hold fun G_41 hG_41 => ?_
    obtain ⟨o, ds, j, rfl, hij, sB, hst, hd, hl, ha⟩ := pv
    refine hG_41 ?_
    intro p hp
    refine ⟨p, _, rfl, .inl ⟨SqL.of upd_same, fun pt hpt => ?_⟩⟩
    have s1 := (same_new hp (.lst ys)).trans (same_new hpt (.tup ys))
    have et : upd (upd H2 p (.lst ys)) pt (.tup ys) pt = some (.tup ys) := upd_same
    generalize upd (upd H2 p (.lst ys)) pt (.tup ys) = H3 at s1 et
    refine q H3 _ ds j hij (sB.trans s1.b) (s1 _ _ hst) (dt_tup (SqT.of (TuO_tup et)) (hd.same s1.t.to)) ⟨by (first | lia | omega), ?_, fun d hd' => (ha d hd').1⟩ ?_
    · have := tlen_le ds 8 fun d hd' => (ha d hd').2.1
      (first | lia | omega)
    · have := wts_le ds fun d hd' => (ha d hd').2.2
      exact Nat.le_trans this (Nat.mul_le_mul_right _ (by (first | lia | omega)))
theorem ok__law_grown (T : Txt w K mg) {k : Nat}  (G__law_node : Cal P w K mg base CX0 k "_law_node" ["_law_state", "_law_names_here", "_law_deep"] (sp__law_node 3 K)) : Cal P w K mg base CX0 (k + 1) "_law_grown" ["_law_cells_here", "_law_names_here"] (sp__law_grown K) := by
  refine T.d__law_grown.elim fun fa e => e.elim fun fd At => At.cal sc__law_grown (fun vs H Q E h => ?_) (fun cdv A outer s H vs Q E hr h => ?_)
  · (first | (obtain ⟨_, rfl, _⟩ := h; rfl) | (obtain ⟨_, _, rfl, _⟩ := h; rfl) | (obtain ⟨_, _, _, rfl, _⟩ := h; rfl) | (obtain ⟨_, _, _, _, rfl, _⟩ := h; rfl) | (obtain ⟨_, _, _, _, _, rfl, _⟩ := h; rfl) | (obtain ⟨_, _, _, _, _, _, rfl, _⟩ := h; rfl) | (obtain ⟨_, _, _, _, _, _, _, rfl, _⟩ := h; rfl) | (obtain ⟨_, _, _, _, _, _, _, _, rfl, _⟩ := h; rfl) | (obtain ⟨_, _, _, _, _, _, _, _, _, rfl, _⟩ := h; rfl) | (obtain ⟨rfl, _⟩ := h; rfl) | exact h.elim)
  have m_len := T.m_len
  have m_tuple := T.m_tuple
  refine ⟨_, (@pss_cons _ _ _ _ _ (@ps_set _ _ 2 _ _ _ _ sc__law_grown.nd rfl (Or.inl rfl) (@pe_lst _ _ _ _ (@pa_cons _ _ _ _ _ (pv 0) (@pa_cons _ _ _ _ _ pe_int pa_nil star_c) star_n)) rfl (Or.inl rfl))
    (@pss_cons _ _ _ _ _ (@ps_set _ _ 3 _ _ _ _ sc__law_grown.nd rfl (Or.inl rfl) (@pe_lst _ _ _ _ pa_nil) rfl (Or.inl rfl))
    (@pss_cons _ _ _ _ _ (ps_while PassesOwn.never (pt_cmpR op_lt (@pe_ix _ _ _ _ _ _ _ ix_list (pv 2) pe_int (fun _ _ => rfl)) (pe_callB call_len_seq rfl m_len boLen (@pa_cons _ _ _ _ _ (pv 0) pa_nil rfl)) (nomark _))
    (@pss_one _ _ _ (ps_expr (pe_bm PySem.F.plainAttrs_list PySem.F.slot_list_append PySem.F.type_list_append mt_append (pv 3) (@pa_cons _ _ _ _ _ (pe_cal G__law_node hr (@pa_cons _ _ _ _ _ (pv 2) (@pa_cons _ _ _ _ _ (pv 1) (@pa_cons _ _ _ _ _ pe_int pa_nil star_c) star_n) star_n) rfl) pa_nil rfl)))))
    (@pss_one _ _ _ (@ps_ret _ _ _ _ (pe_callTy call_tuple_of rfl m_tuple boTuple (@pa_cons _ _ _ _ _ (pv 3) pa_nil rfl))))))), ?_⟩
  refine hold fun G_44 hG_44 => ?_
  obtain ⟨pc, pn, ms, nms, rfl, hpc, hm40, hpn, hl4, hok, q⟩ := h
  refine hG_44 ?_
  refine ⟨_, rfl, by show 2 ≤ sizeLine; decide, fun ps hps => ?_⟩
  have npc : pc ≠ ps := ne_of_none hpc hps
  have npn : pn ≠ ps := ne_of_none hpn hps
  have s1 := same_new hps (.lst [.ref pc, .int 0])
  have st1 : upd H ps (.lst [.ref pc, .int 0]) ps = some (.lst [.ref pc, .int ((0 : Nat) : Int)]) := upd_same
  generalize upd H ps (.lst [.ref pc, .int 0]) = H1 at s1 st1
  refine ⟨by show 0 ≤ sizeLine; decide, fun pl hpl => ?_⟩
  have hplH : H pl = none := s1.free hpl
  have nps : ps ≠ pl := ne_of_none st1 hpl
  have s2 := same_new hpl (.lst [])
  have st2 := s2 _ _ st1
  have el : upd H1 pl (.lst []) pl = some (.lst []) := upd_same
  have s12 := s1.trans s2
  generalize upd H1 pl (.lst []) = H2 at s2 st2 el s12
  refine while_by (fun σ H3 => ∃ (j : Nat) (ds : List Dt) (vs : List V), σ = [some (.ref pc), some (.ref pn), some (.ref ps), some (.ref pl)] ∧ Same H H3 ∧ H3 ps = some (.lst [.ref pc, .int ((j : Nat) : Int)]) ∧ H3 pl = some (.lst vs) ∧ IsDts K (TuO H3) ds vs ∧ ds.length ≤ j ∧ ds.length ≤ 56 ∧ ∀ d ∈ ds, NdG (FmG 3) d ∧ tn d ≤ 8 ∧ wt d ≤ Bd 3)
    (fun σ H3 => match H3 ps with | some (.lst [_, .int j]) => ms.length - j.toNat | _ => 0) ⟨0, [], [], rfl, s12, st2, el, dts_nil, Nat.le_refl _, by simp, (fun d hd => nomatch hd)⟩ (fun σ H3 pv => ?_) (by rintro σ H Q Q' h ⟨a, b, c, d, e, f, g1, g2, g3, g4, a2, b2, c2, d2, e2, f2, i, j, k, l, m, n, q⟩; exact ⟨a, b, c, d, e, f, g1, g2, g3, g4, a2, b2, c2, d2, e2, f2, i, j, k, l, m, n, h _ _ q⟩)
  refine hold fun G_45 hG_45 => ?_
  obtain ⟨j, ds, vs, rfl, sH, hst, hl, hd, hdj, hd40, ha⟩ := pv
  refine hG_45 ?_
  have hpc3 := sH _ _ hpc
  refine ⟨_, rfl, ps, _, 1, _, rfl, rfl, SqL.of hst, atI_nat (j := 1) rfl, _, rfl, pc, _, rfl, .inl (SqL.of hpc3), _, _, rfl, rfl, _, rfl, ite2 (fun c => ?_) (fun c => ?_)⟩
  · have hlt : j < ms.length := by
      have := of_decide_eq_true c
      rw [List.length_map] at this
      (first | lia | omega)
    refine ⟨_, rfl, .inl ⟨rfl, _, SqL.of hl⟩, _, rfl, _, rfl, ps, pc, pn, ms, j, nms, by decide, rfl, ⟨hst, hpc3, npc⟩, sH _ _ hpn, npn, hl4, hok, fun H4 v d j' hj sB4 hst4 hv hnd htn hwt => ?_⟩
    have hl4' := sB4 _ _ (Ne.symm nps) hl
    refine ⟨pl, _, _, rfl, rfl, hl4', small (by rw [← hd.len]; (first | lia | omega)), ?_⟩
    have sT : SameT H3 H4 := sB4.t hst
    have sT2 : SameT H4 (upd H4 pl (.lst (vs ++ [v]))) := SameT.put hl4'
    refine ⟨⟨j', ds ++ [d], vs ++ [v], rfl, ?_, ?_, upd_same, dts_snoc (hd.same (sT.trans sT2).to) (hv.same sT2.to), ?_, ?_, fun e he => (List.mem_append.mp he).elim (ha e) fun h => by rw [List.mem_singleton.mp h]; exact ⟨hnd, htn, hwt⟩⟩, ?_⟩
    · intro b o hb
      have h3 := sH b o hb
      have nb : b ≠ pl := ne_of_none hb hplH
      have nb2 : b ≠ ps := ne_of_none hb hps
      rw [upd_ne nb]
      exact sB4 b o nb2 h3
    · rw [upd_ne nps]; exact hst4
    · rw [List.length_append, List.length_singleton]; (first | lia | omega)
    · rw [List.length_append, List.length_singleton]; (first | lia | omega)
    · show (match upd H4 pl (.lst (vs ++ [v])) ps with | some (.lst [_, .int j]) => ms.length - j.toNat | _ => 0) < (match H3 ps with | some (.lst [_, .int j]) => ms.length - j.toNat | _ => 0)
      rw [upd_ne nps, hst4, hst]
      show ms.length - ((j' : Nat) : Int).toNat < ms.length - ((j : Nat) : Int).toNat
      (first | lia | omega)
  · refine ⟨_, rfl, pl, _, rfl, .inl ⟨SqL.of hl, fun pt hpt => ?_⟩⟩
    have s5 := same_new hpt (.tup vs)
    refine q _ _ ds (sH.trans s5) (dt_tup (SqT.of (TuO_tup upd_same)) (hd.same s5.t.to)) ⟨hd40, ?_, fun d hd' => (ha d hd').1⟩ ?_
    · have := tlen_le ds 8 fun d hd' => (ha d hd').2.1
      (first | lia | omega)
    · have := wts_le ds fun d hd' => (ha d hd').2.2
      exact Nat.le_trans this (Nat.mul_le_mul_right _ hd40)
theorem ok__law_written (T : Txt w K mg) {k : Nat} {n : Nat}  (G__law_written : Cal P w K mg base CX0 k "_law_written" ["_law_form_here", "_law_turn"] (sp__law_written n K)) : Cal P w K mg base CX0 (k + 1) "_law_written" ["_law_form_here", "_law_turn"] (sp__law_written (n + 1) K) := by
  refine T.d__law_written.elim fun fa e => e.elim fun fd At => At.cal sc__law_written (fun vs H Q E h => ?_) (fun cdv A outer s H vs Q E hr h => ?_)
  · (first | (obtain ⟨_, rfl, _⟩ := h; rfl) | (obtain ⟨_, _, rfl, _⟩ := h; rfl) | (obtain ⟨_, _, _, rfl, _⟩ := h; rfl) | (obtain ⟨_, _, _, _, rfl, _⟩ := h; rfl) | (obtain ⟨_, _, _, _, _, rfl, _⟩ := h; rfl) | (obtain ⟨_, _, _, _, _, _, rfl, _⟩ := h; rfl) | (obtain ⟨_, _, _, _, _, _, _, rfl, _⟩ := h; rfl) | (obtain ⟨_, _, _, _, _, _, _, _, rfl, _⟩ := h; rfl) | (obtain ⟨_, _, _, _, _, _, _, _, _, rfl, _⟩ := h; rfl) | (obtain ⟨rfl, _⟩ := h; rfl) | exact h.elim)
  have m_len := T.m_len
  refine ⟨_, (@pss_cons _ _ _ _ _ (@ps_set _ _ 2 _ _ _ _ sc__law_written.nd rfl (Or.inl rfl) (@pe_lst _ _ _ _ pa_nil) rfl (Or.inl rfl))
    (@pss_cons _ _ _ _ _ (ps_for PassesOwn.never rfl (pi_tup (pv 0)) (pg_name (i := 3) sc__law_written.nd rfl (Or.inl rfl))
    (@pss_cons _ _ _ _ _ (@ps_if _ _ _ _ _ _ _ _ (pt_cmpR op_eq (@pe_ix _ _ _ _ _ _ _ ix_tup (pv 3) pe_int (fun _ _ => rfl)) (@pe_tx _ _ [116, 101, 120, 116] _ _ (by decide +kernel)) (nomark _))
      (@pss_one _ _ _ (ps_for PassesOwn.never rfl (pi_str (@pe_ix _ _ _ _ _ _ _ ix_tup (pv 3) pe_int (fun _ _ => rfl))) (pg_name (i := 4) sc__law_written.nd rfl (Or.inl rfl))
        (@pss_one _ _ _ (ps_expr (pe_bm PySem.F.plainAttrs_list PySem.F.slot_list_append PySem.F.type_list_append mt_append (pv 2) (@pa_cons _ _ _ _ _ (pe_dget2 (hu_of hr) (pe_disp (pps_cons (@pe_tx _ _ [123] _ _ rfl) (@pe_tx _ _ [123, 40, 125] _ _ rfl) (pps_cons (@pe_tx _ _ [125] _ _ rfl) (@pe_tx _ _ [123, 41, 125] _ _ rfl) pps_nil)) rfl rfl (fun z => nomatch z) (Nat.le_of_ble_eq_true rfl)) (pv 4) (pv 4) ⟨rfl, rfl, rfl, rfl⟩) pa_nil rfl))))))
      (@pss_one _ _ _ (@ps_if _ _ _ _ _ _ _ _ (pt_cmpR op_eq (@pe_ix _ _ _ _ _ _ _ ix_tup (pv 3) pe_int (fun _ _ => rfl)) (@pe_tx _ _ [103, 97, 112] _ _ rfl) (nomark _))
        (@pss_one _ _ _ (@ps_set _ _ 2 _ _ _ _ sc__law_written.nd rfl (Or.inl rfl) (@pe_op _ _ _ _ _ _ _ _ op_cat (pv 2) (@pe_lst _ _ _ _ (@pa_cons _ _ _ _ _ (@pe_tx _ _ [123] _ _ rfl) (@pa_cons _ _ _ _ _ (@pe_ix _ _ _ _ _ _ _ ix_tup (pv 3) pe_int (fun _ _ => rfl)) (@pa_cons _ _ _ _ _ (@pe_tx _ _ [125] _ _ rfl) pa_nil star_c) star_s) star_c))) rfl (Or.inl rfl)))
        (@pss_one _ _ _ (@ps_set _ _ 2 _ _ _ _ sc__law_written.nd rfl (Or.inl rfl) (@pe_op _ _ _ _ _ _ _ _ op_cat (pv 2) (@pe_lst _ _ _ _ (@pa_cons _ _ _ _ _ (@pe_tx _ _ [123] _ _ rfl) (@pa_cons _ _ _ _ _ (@pe_ix _ _ _ _ _ _ _ ix_tup (pv 3) pe_int (fun _ _ => rfl)) (@pa_cons _ _ _ _ _ (@pe_tx _ _ [32] _ _ rfl) (@pa_cons _ _ _ _ _ (@pe_ix _ _ _ _ _ _ _ ix_tup (pv 3) pe_int (fun _ _ => rfl)) (@pa_cons _ _ _ _ _ (@pe_tx _ _ [125] _ _ rfl) pa_nil star_c) star_s) star_c) star_s) star_c))) rfl (Or.inl rfl))))))
      (@pss_cons _ _ _ _ _ (@ps_if _ _ _ _ _ _ _ _ (pt_cmpR op_in_seq (@pe_ix _ _ _ _ _ _ _ ix_tup (pv 3) pe_int (fun _ _ => rfl)) (@pe_tup _ _ _ _ _ (@pa_cons _ _ _ _ _ (@pe_tx _ _ [105, 102] _ _ rfl) (@pa_cons _ _ _ _ _ (@pe_tx _ _ [101, 97, 99, 104] _ _ (by decide +kernel)) pa_nil star_c) star_c)) (by with_unfolding_all rfl))
      (@pss_one _ _ _ (ps_expr (pe_bm PySem.F.plainAttrs_list PySem.F.slot_list_append PySem.F.type_list_append mt_append (pv 2) (@pa_cons _ _ _ _ _ (pe_cal G__law_written hr (@pa_cons _ _ _ _ _ (@pe_ix _ _ _ _ _ _ _ ix_tup (pv 3) pe_int (fun _ _ => rfl)) (@pa_cons _ _ _ _ _ (pv 1) pa_nil star_n) star_s) rfl) pa_nil rfl))))
      pss_nil)
      (@pss_cons _ _ _ _ _ (@ps_if _ _ _ _ _ _ _ _ (PW.pt (pw_and (pt_cmpR op_eq (@pe_ix _ _ _ _ _ _ _ ix_tup (pv 3) pe_int (fun _ _ => rfl)) (@pe_tx _ _ [105, 102] _ _ rfl) (nomark _)) (pw_and1 (PW.pt (pw_or (pt_cmpR (op_neT (hu64 hr)) (@pe_ix _ _ _ _ _ _ _ ix_tup (pv 3) pe_int (fun _ _ => rfl)) (@pe_tup _ _ _ _ _ pa_nil) (nomark _)) (pw_or1 (pt_cmpR op_eq (@pe_op _ _ _ _ _ _ _ _ (op_modL 3 (by decide)) (@pe_op _ _ _ _ _ _ _ _ op_add (pv 1) (pe_callB call_len_seq rfl m_len boLen (@pa_cons _ _ _ _ _ (pv 2) pa_nil rfl))) pe_int) pe_int (nomark _))))))))
      (@pss_one _ _ _ (@ps_set _ _ 2 _ _ _ _ sc__law_written.nd rfl (Or.inl rfl) (@pe_op _ _ _ _ _ _ _ _ op_cat (pv 2) (@pe_lst _ _ _ _ (@pa_cons _ _ _ _ _ (@pe_tx _ _ [123, 101, 108, 115, 101, 125] _ _ (by decide +kernel)) (@pa_cons _ _ _ _ _ (pe_cal G__law_written hr (@pa_cons _ _ _ _ _ (@pe_ix _ _ _ _ _ _ _ ix_tup (pv 3) pe_int (fun _ _ => rfl)) (@pa_cons _ _ _ _ _ (pv 1) pa_nil star_n) star_s) rfl) pa_nil star_k) star_c))) rfl (Or.inl rfl)))
      pss_nil)
      (@pss_one _ _ _ (@ps_if _ _ _ _ _ _ _ _ (pt_cmpR op_in_seq (@pe_ix _ _ _ _ _ _ _ ix_tup (pv 3) pe_int (fun _ _ => rfl)) (@pe_tup _ _ _ _ _ (@pa_cons _ _ _ _ _ (@pe_tx _ _ [105, 102] _ _ rfl) (@pa_cons _ _ _ _ _ (@pe_tx _ _ [101, 97, 99, 104] _ _ (by decide +kernel)) pa_nil star_c) star_c)) (by with_unfolding_all rfl))
      (@pss_one _ _ _ (ps_expr (pe_bm PySem.F.plainAttrs_list PySem.F.slot_list_append PySem.F.type_list_append mt_append (pv 2) (@pa_cons _ _ _ _ _ (@pe_tx _ _ [123, 101, 110, 100, 125] _ _ (by decide +kernel)) pa_nil rfl))))
      pss_nil))))))
    (@pss_one _ _ _ (@ps_ret _ _ _ _ (pe_bm PySem.F.plainAttrs_str PySem.F.slot_str_join PySem.F.type_str_join mt_join (@pe_tx _ _ [] _ _ rfl) (@pa_cons _ _ _ _ _ (pv 2) pa_nil rfl)))))), ?_⟩
  refine hold fun G_71 hG_71 => ?_
  obtain ⟨v, ds, tu, rfl, hv, hf, hw, hn10, q⟩ := h
  refine hG_71 ?_
  refine hold fun G_72 hG_72 => ?_
  obtain ⟨a, us, rfl, hS, hd⟩ := dt_tup_inv hv
  refine hG_72 ?_
  have hul : us.length = ds.length := hd.len.symm
  have hdl := hf.1
  refine ⟨by show 0 ≤ sizeLine; decide, fun p0 hp0 => ?_⟩
  refine ⟨_, rfl, a, rfl, ⟨us, (same_new hp0 (.lst [])).tup (TuO_seq hS)⟩, ?_⟩
  refine for_tupN (xs := us) (PvW n H ds a tu) ⟨p0, [], [], none, none, rfl, hp0, same_new hp0 (.lst []), upd_same, rfl, rfl, Nat.le_refl _⟩ (fun i σ H2 hi pv => ?_) (fun i xv σ H2 hxv pv N B R hN => ?_) (fun σ H2 pv => ?_)
  · refine hold fun G_73 hG_73 => ?_
    obtain ⟨pr, ls, t, o3, o4, rfl, hpr, sH, hl, hwr, hfl, hln⟩ := pv
    refine hG_73 ?_
    exact sH.tup (TuO_seq hS)
  · refine hold fun G_74 hG_74 => ?_
    obtain ⟨pr, ls, t, o3, o4, rfl, hpr, sH, hl, hwr, hfl, hln⟩ := pv
    refine hG_74 ?_
    refine hold fun G_75 hG_75 => ?_
    obtain ⟨d, hdi, hdv⟩ := hd.atV hxv
    refine hG_75 ?_
    have hdm : d ∈ ds := List.mem_of_getElem? hdi
    have hnd := hf.2.2 d hdm
    have etake : ds.take (i + 1) = ds.take i ++ [d] := by rw [List.take_add_one, hdi]; rfl
    have hwi : wts (ds.take i) + wt d ≤ 800000 := by
      have h1 := wts_take ds (i + 1)
      rw [etake, wts_app] at h1
      have : wts [d] = wt d + 0 := rfl
      (first | lia | omega)
    have fin : ∀ (pr' : Addr) (ls' : List (List Nat)) (ta : List MTok) (c : Addr) (o4' : Option V) (H3 : Hp), H pr' = none → Same H H3 → H3 pr' = some (.lst (txs ls')) → WrN (WrF n) d ta → ls'.flatten = ls.flatten ++ render ta → ls'.length ≤ ls.length + wt d →
        N [some (V.ref a), some (.int tu), some (.ref pr'), some (.ref c), o4'] H3 := fun pr' ls' ta c o3' H3 h1 h2 h3 hNd h4 h5 => by
      refine hN _ _ ⟨pr', ls', t ++ ta, _, _, rfl, h1, h2, h3, ?_, ?_, ?_⟩
      · rw [etake]; exact wrL_snoc _ _ hwr hNd
      · rw [h4, hfl, render_app]
      · rw [etake, wts_app]
        show _ ≤ _ + (wt d + 0)
        (first | lia | omega)
    refine hold fun G_76 hG_76 => ?_
    obtain ⟨c, w, x, r, rfl, hc, hwt, htx, es, rfl, hr⟩ := node_head hnd hdv
    refine hG_76 ?_
    have hc2 := sH.tup (TuO_seq hc)
    have hwd : wt (.tup (.str w :: .str x :: es)) = 3 * w.length + (3 * x.length + wts es) + 10 := rfl
    dsimp only [gName]
    refine seq_cut (PmW H a tu c ls (render (hdT w x)) (x.length + 5)) (fun R1 hR1 => ?_) (fun σ3 H3 hM => ?_)
    · refine ⟨_, rfl, c, _, 0, _, rfl, rfl, hc2, atI_nat (j := 0) rfl, rfl, _, rfl, ?_⟩
      by_cases hwT : w = wText
      · refine iteTb (decide_eq_true (show V.str (tx w) = V.str (tx [116, 101, 120, 116]) by rw [hwT]; rfl)) ?_
        refine ⟨_, rfl, c, _, 1, _, rfl, rfl, hc2, atI_nat (j := 1) rfl, x, rfl, ?_⟩
        refine for_strN (fun j σ H3 => ∃ o4, σ = [some (.ref a), some (.int tu), some (.ref pr), some (.ref c), o4] ∧ Same H H3 ∧ H3 pr = some (.lst (txs (ls ++ (x.take j).map sh1)))) ⟨_, rfl, sH, by rw [hl]; simp⟩ (fun j y σ H3 hy pv N2 B2 R2 hN2 => ?_) (fun σ H3 pv => ?_)
        · refine hold fun G_77 hG_77 => ?_
          obtain ⟨o4', rfl, sH3, hl3⟩ := pv
          refine hG_77 ?_
          have hjl : j < x.length := (List.getElem?_eq_some_iff.mp hy).1
          refine ⟨_, rfl, .inl ⟨rfl, _, SqL.of hl3⟩, fun pd hpd => ⟨upd_same, kvB, rfl, by decide, pd, rfl, .inl ⟨_, .inl upd_same⟩, _, rfl, _, rfl, _, DGet.k (k := .inr (tx [y])) upd_same, ?_⟩⟩
          rw [bw_get2]
          have npd : pr ≠ pd := ne_of_none hl3 hpd
          refine ⟨pr, _, _, rfl, rfl, by rw [upd_ne npd, upd_ne npd]; exact hl3, small (by unfold txs; rw [List.length_map, List.length_append, List.length_map, List.length_take]; (first | lia | omega)), ?_⟩
          refine hN2 _ _ ⟨_, rfl, fun b o hb => ?_, ?_⟩
          · have h3 := sH3 b o hb
            rw [upd_ne (ne_of_none hb hpr), upd_ne (ne_of_none h3 hpd), upd_ne (ne_of_none h3 hpd)]; exact h3
          · rw [upd_same, List.take_add_one, hy]
            unfold txs
            rw [List.map_append, List.map_append, List.map_append, List.map_append, List.append_assoc]; rfl
        · refine hold fun G_78 hG_78 => ?_
          obtain ⟨o4', rfl, sH3, hl3⟩ := pv
          refine hG_78 ?_
          rw [List.take_length] at hl3
          refine hR1 _ _ ⟨pr, ls ++ x.map sh1, _, rfl, hpr, sH3, hl3, ?_, by rw [List.length_append, List.length_map]; (first | lia | omega)⟩
          rw [hdT, if_pos hwT, List.flatten_append, ← List.flatMap_def, render_tokT]
      refine iteFb (decide_eq_false (show ¬ V.str (tx w) = V.str (tx [116, 101, 120, 116]) from fun z => hwT (V.str_inj.mp z))) ?_
      refine ⟨_, rfl, c, _, 0, _, rfl, rfl, hc2, atI_nat (j := 0) rfl, rfl, _, rfl, ?_⟩
      by_cases hwG : w = wGap
      · refine iteTb (decide_eq_true (show V.str (tx w) = V.str (tx [103, 97, 112]) by rw [hwG]; rfl)) ?_
        refine ⟨_, rfl, _, rfl, c, _, 1, _, rfl, rfl, hc2, atI_nat (j := 1) rfl, by show 3 ≤ sizeLine; decide, fun pl hpl => ?_⟩
        have s3a := same_new hpl (.lst [.str (tx [123]), .str (tx x), .str (tx [125])])
        refine ⟨pr, pl, _, _, rfl, rfl, s3a _ _ hl, upd_same, smallE (by unfold txs; rw [List.length_map]; show _ + 3 ≤ _; (first | lia | omega)), fun pr' hp' => ?_⟩
        refine hR1 _ _ ⟨pr', ls ++ [[123], x, [125]], _, rfl, (sH.trans s3a).free hp', sH.trans (s3a.trans (same_new hp' _)), ?_, ?_, by rw [List.length_append]; show _ + 3 ≤ _; (first | lia | omega)⟩
        · rw [upd_same]; unfold txs; rw [List.map_append]; rfl
        · rw [hdT, if_neg hwT, if_pos hwG, List.flatten_append]; rfl
      · refine iteFb (decide_eq_false (show ¬ V.str (tx w) = V.str (tx [103, 97, 112]) from fun z => hwG (V.str_inj.mp z))) ?_
        refine ⟨_, rfl, _, rfl, c, _, 0, _, rfl, rfl, hc2, atI_nat (j := 0) rfl, _, rfl, c, _, 1, _, rfl, rfl, hc2, atI_nat (j := 1) rfl, by show 5 ≤ sizeLine; decide, fun pl hpl => ?_⟩
        have s3a := same_new hpl (.lst [.str (tx [123]), .str (tx w), .str (tx [32]), .str (tx x), .str (tx [125])])
        refine ⟨pr, pl, _, _, rfl, rfl, s3a _ _ hl, upd_same, smallE (by unfold txs; rw [List.length_map]; show _ + 5 ≤ _; (first | lia | omega)), fun pr' hp' => ?_⟩
        refine hR1 _ _ ⟨pr', ls ++ [[123], w, [32], x, [125]], _, rfl, (sH.trans s3a).free hp', sH.trans (s3a.trans (same_new hp' _)), ?_, ?_, by rw [List.length_append]; show _ + 5 ≤ _; (first | lia | omega)⟩
        · rw [upd_same]; unfold txs; rw [List.map_append]; rfl
        · rw [hdT, if_neg hwT, if_neg hwG, List.flatten_append]; simp [render]
    · refine hold fun G_79 hG_79 => ?_
      obtain ⟨pr', ls', o4', rfl, hpr', sH3, hl3, hfl3, hln3⟩ := hM
      refine hG_79 ?_
      clear hl sH hc2 hpr
      have hc3 := sH3.tup (TuO_seq hc)
      have hcase := wr_case hnd
      rcases hcase with ⟨hin, hif, hN0⟩ | ⟨hin, ehd, hw4, f, rest, rfl, hf', hk⟩
      · refine seq_any fun R2 hR2 => ?_
        refine ⟨_, rfl, c, _, 0, _, rfl, rfl, hc3, atI_nat (j := 0) rfl, by show 2 ≤ sizeLine; decide, fun p4 hp4 => ?_⟩
        have s4 := same_new hp4 (.tup IE2)
        refine ⟨p4, IE2, rfl, .inr (SqT.of upd_same), rfl, rfl, _, rfl, iteFb hin (hR2 _ _ ?_)⟩
        refine seq_any fun R3 hR3 => ?_
        refine ⟨_, rfl, c, _, 0, _, rfl, rfl, s4.tup hc3, atI_nat (j := 0) rfl, rfl, _, rfl, iteFb hif (iteF (hR3 _ _ ?_))⟩
        refine ⟨_, rfl, c, _, 0, _, rfl, rfl, s4.tup hc3, atI_nat (j := 0) rfl, by show 2 ≤ sizeLine; decide, fun p5 hp5 => ?_⟩
        have s5 := same_new hp5 (.tup IE2)
        refine ⟨p5, IE2, rfl, .inr (SqT.of upd_same), rfl, rfl, _, rfl, iteFb hin ?_⟩
        exact fin pr' ls' _ c _ _ hpr' (sH3.trans (s4.trans s5)) (s5 _ _ (s4 _ _ hl3)) hN0 hfl3 (by (first | lia | omega))
      · have hwd2 : wts (.tup f :: rest) = wts f + 10 + wts rest := rfl
        refine hold fun G_80 hG_80 => ?_
        obtain ⟨vf, r1, rfl, hvf, hr1⟩ := dts_cons_inv hr
        refine hG_80 ?_
        have hwf : wts f ≤ 800000 := by (first | lia | omega)
        refine seq_any fun R2 hR2 => ?_
        refine ⟨_, rfl, c, _, 0, _, rfl, rfl, hc3, atI_nat (j := 0) rfl, by show 2 ≤ sizeLine; decide, fun p4 hp4 => ?_⟩
        have s4 := same_new hp4 (.tup IE2)
        refine ⟨p4, IE2, rfl, .inr (SqT.of upd_same), rfl, rfl, _, rfl, iteTb hin ?_⟩
        have sH4 := sH3.trans s4
        have hl4 := s4 _ _ hl3
        refine ⟨_, rfl, .inl ⟨rfl, _, SqL.of hl4⟩, _, rfl, c, _, 2, _, rfl, rfl, s4.tup hc3, atI_nat (j := 2) rfl, _, rfl, vf, f, tu, rfl, hvf.same sH4.t.to, hf', hwf, by (first | lia | omega), fun H5 tf s5 hWf => ?_⟩
        have hl5 := s5 _ _ hl4
        refine ⟨pr', _, _, rfl, rfl, hl5, small (by unfold txs; rw [List.length_map]; (first | lia | omega)), hR2 _ _ ?_⟩
        have sH6 : Same H (upd H5 pr' (.lst (txs ls' ++ [.str (tx (render tf))]))) := fun b o hb => by rw [upd_ne (ne_of_none hb hpr')]; exact s5 _ _ (sH4 b o hb)
        have hl6 : upd H5 pr' (.lst (txs ls' ++ [.str (tx (render tf))])) pr' = some (.lst (txs (ls' ++ [render tf]))) := by rw [upd_same]; unfold txs; rw [List.map_append (l₁ := ls')]; rfl
        generalize upd H5 pr' (.lst (txs ls' ++ [.str (tx (render tf))])) = H6 at sH6 hl6
        have hll6 : (ls' ++ [render tf]).length ≤ ls.length + x.length + 6 := by rw [List.length_append]; show _ + 1 ≤ _; (first | lia | omega)
        have hfl6 : (ls' ++ [render tf]).flatten = ls.flatten ++ render (.mk (w ++ [32] ++ x) :: tf) := by
          rw [List.flatten_append, hfl3, ehd]; simp [render]
        refine seq_cut (PwE n H a tu c ls (.tup (.str w :: .str x :: .tup f :: rest))) (fun R3 hR3 => ?_) (fun σ9 H9 hM9 => ?_)
        · refine if_any fun T hT hF => ?_
          refine ⟨_, rfl, c, _, 0, _, rfl, rfl, sH6.tup (TuO_seq hc), atI_nat (j := 0) rfl, rfl, _, rfl, ?_⟩
          rcases hk with ⟨rfl, rfl⟩ | ⟨g, rfl, rfl, hg'⟩
          · refine iteFb (by decide +kernel) (hF _ (hR3 _ _ ?_))
            exact ⟨pr', _, _, _, rfl, hpr', sH6, hl6, .inr (.inr (.inr (.inl ⟨x, f, tf, rfl, hWf, rfl⟩))), hfl6, by (first | lia | omega)⟩
          · refine hold fun G_81 hG_81 => ?_
            obtain ⟨vg, r2, rfl, hvg, hr2⟩ := dts_cons_inv hr1
            refine hG_81 ?_
            have hwd3 : wts [.tup g] = wts g + 10 + 0 := rfl
            have hwg : wts g ≤ 800000 := by (first | lia | omega)
            refine iteTb (by decide +kernel) ?_
            refine ⟨_, rfl, c, _, 3, _, rfl, rfl, sH6.tup (TuO_seq hc), atI_nat (j := 3) rfl, by show 0 ≤ sizeLine; decide, fun pe hpe => ?_⟩
            have se := same_new hpe (.tup [])
            have sH7 := sH6.trans se
            have hl7 := se _ _ hl6
            refine ⟨g, [], (hvg.same sH7.t.to).same TuO_sub, dt_tup (SqT.of upd_same) dts_nil, by have := form_dps n g hg'; (first | lia | omega), _, rfl, ?_⟩
            generalize upd H6 pe (.tup []) = H7 at se sH7 hl7
            have hA : T true H7 := by
              refine hT _ ?_
              refine ⟨_, rfl, _, rfl, c, _, 3, _, rfl, rfl, sH7.tup (TuO_seq hc), atI_nat (j := 3) rfl, _, rfl, vg, g, tu, rfl, hvg.same sH7.t.to, hg', hwg, by (first | lia | omega), fun H8 tg s8 hWg => ?_⟩
              refine ⟨by show 2 ≤ sizeLine; decide, fun pl2 hpl2 => ?_⟩
              have s8a := same_new hpl2 (.lst [.str (tx [123, 101, 108, 115, 101, 125]), .str (tx (render tg))])
              have hl8 := s8a _ _ (s8 _ _ hl7)
              refine ⟨pr', pl2, _, _, rfl, rfl, hl8, upd_same, smallE (by unfold txs; rw [List.length_map]; show _ + 2 ≤ _; (first | lia | omega)), fun pr2 hp2 => ?_⟩
              have sH8 := sH7.trans (s8.trans s8a)
              refine hR3 _ _ ⟨pr2, ls' ++ [render tf] ++ [wElse, render tg], _, _, rfl, sH8.free hp2, sH8.trans (same_new hp2 _), ?_, .inr (.inr (.inr (.inr ⟨x, f, g, tf, tg, rfl, hWf, .inl ⟨hWg, (List.append_assoc (_ :: tf) (_ :: tg) _)⟩⟩))), ?_, ?_⟩
              · rw [upd_same]; unfold txs; rw [List.map_append (l₁ := ls' ++ [render tf])]; rfl
              · rw [List.flatten_append, hfl6, render_app]; simp [render, wElse, mElse]
              · rw [List.length_append]; show _ + 2 + 1 ≤ _; (first | lia | omega)
            by_cases hg0 : g = []
            · refine iteFb (by rw [eqDs_nil, decide_eq_true hg0]; rfl) ?_
              refine ⟨_, rfl, _, rfl, pr', _, rfl, .inl (SqL.of hl7), _, _, rfl, rfl, _, rfl, rfl, rfl, _, rfl, bool2 (fun _ => hA) (fun _ => hF _ (hR3 _ _ ?_))⟩
              exact ⟨pr', _, _, _, rfl, hpr', sH7, hl7, .inr (.inr (.inr (.inr ⟨x, f, g, tf, [], rfl, hWf, .inr ⟨hg0, rfl⟩⟩))), hfl6, by (first | lia | omega)⟩
            · exact iteTb (by rw [eqDs_nil, decide_eq_false hg0]; rfl) hA
        · refine hold fun G_82 hG_82 => ?_
          obtain ⟨pr9, ls9, o9, tt, rfl, hpr9, sH9, hl9, hW9, hfl9, hln9⟩ := hM9
          refine hG_82 ?_
          refine ⟨_, rfl, c, _, 0, _, rfl, rfl, sH9.tup (TuO_seq hc), atI_nat (j := 0) rfl, by show 2 ≤ sizeLine; decide, fun p10 hp10 => ?_⟩
          have s10 := same_new hp10 (.tup IE2)
          refine ⟨p10, IE2, rfl, .inr (SqT.of upd_same), rfl, rfl, _, rfl, iteTb hin ?_⟩
          have hl10 := s10 _ _ hl9
          refine ⟨_, rfl, .inl ⟨rfl, _, SqL.of hl10⟩, _, _, _, rfl, rfl, hl10, small (by unfold txs; rw [List.length_map]; (first | lia | omega)), ?_⟩
          refine fin _ (ls9 ++ [wEnd]) _ c _ _ hpr9 (fun b o hb => by rw [upd_ne (ne_of_none hb hpr9)]; exact s10 _ _ (sH9 b o hb)) (by rw [upd_same]; unfold txs; rw [List.map_append (l₂ := [wEnd])]; rfl) hW9 ?_ (by rw [List.length_append]; exact hln9)
          rw [List.flatten_append, hfl9, render_app, List.append_assoc]; rfl
  · refine hold fun G_83 hG_83 => ?_
    obtain ⟨pr, ls, t, o3, o4, rfl, hpr, sH, hl, hwr, hfl, hln⟩ := pv
    refine hG_83 ?_
    rw [hul, List.take_length] at hwr hln
    have tk := wrF_ok (n + 1) ds t hf hwr
    have tl := tk.ln
    refine ⟨rfl, _, rfl, pr, ls, rfl, rfl, SqL.of hl, ?_, ?_⟩
    · rw [hfl]; (first | lia | omega)
    · rw [hfl]; exact q _ t sH hwr
theorem ok_law (T : Txt w K mg) {k : Nat}  (G_is_form : Cal P w K mg base CX0 k "is_form" ["thing"] (sp_is_form K)) (G_joined_form : Cal P w K mg base CX0 k "joined_form" ["form"] (sp_joined_form 4 K)) (G_show_form : Cal P w K mg base CX0 k "show_form" ["form"] (sp_show_form 4 K)) (G_read_form : Cal P w K mg base CX0 k "read_form" ["text"] (sp_read_form K)) (G__law_cell_at : Cal P w K mg base CX0 k "_law_cell_at" ["_law_script", "_law_k"] (sp__law_cell_at K)) (G__law_cells : Cal P w K mg base CX0 k "_law_cells" ["_law_script", "_law_start", "_law_most"] (sp__law_cells K)) (G__law_names : Cal P w K mg base CX0 k "_law_names" ["_law_cell", "_law_many"] (sp__law_names K)) (G__law_grown : Cal P w K mg base CX0 k "_law_grown" ["_law_cells_here", "_law_names_here"] (sp__law_grown K)) (G__law_written : Cal P w K mg base CX0 k "_law_written" ["_law_form_here", "_law_turn"] (sp__law_written 4 K)) : Cal P w K mg base CX0 (k + 1) "law" ["_law_script"] (sp_law K) := by
  refine T.d_law.elim fun fa e => e.elim fun fd At => At.cal sc_law (fun vs H Q E h => ?_) (fun cdv A outer s H vs Q E hr h => ?_)
  · (first | (obtain ⟨_, rfl, _⟩ := h; rfl) | (obtain ⟨_, _, rfl, _⟩ := h; rfl) | (obtain ⟨_, _, _, rfl, _⟩ := h; rfl) | (obtain ⟨_, _, _, _, rfl, _⟩ := h; rfl) | (obtain ⟨_, _, _, _, _, rfl, _⟩ := h; rfl) | (obtain ⟨_, _, _, _, _, _, rfl, _⟩ := h; rfl) | (obtain ⟨_, _, _, _, _, _, _, rfl, _⟩ := h; rfl) | (obtain ⟨_, _, _, _, _, _, _, _, rfl, _⟩ := h; rfl) | (obtain ⟨_, _, _, _, _, _, _, _, _, rfl, _⟩ := h; rfl) | (obtain ⟨rfl, _⟩ := h; rfl) | exact h.elim)
  have m_len := T.m_len
  refine ⟨_, (@pss_cons _ _ _ _ _ (@ps_set _ _ 1 _ _ _ _ sc_law.nd rfl (Or.inl rfl) (pe_cal G__law_names hr (@pa_cons _ _ _ _ _ (pe_cal G__law_cell_at hr (@pa_cons _ _ _ _ _ (pv 0) (@pa_cons _ _ _ _ _ pe_int pa_nil star_c) star_n) rfl) (@pa_cons _ _ _ _ _ pe_int pa_nil star_c) star_k) rfl) rfl (Or.inl rfl))
    (@pss_cons _ _ _ _ _ (@ps_set _ _ 2 _ _ _ _ sc_law.nd rfl (Or.inl rfl) (pe_cal G__law_grown hr (@pa_cons _ _ _ _ _ (pe_cal G__law_cells hr (@pa_cons _ _ _ _ _ (pv 0) (@pa_cons _ _ _ _ _ pe_int (@pa_cons _ _ _ _ _ pe_int pa_nil star_c) star_c) star_n) rfl) (@pa_cons _ _ _ _ _ (pv 1) pa_nil star_n) star_k) rfl) rfl (Or.inl rfl))
    (@pss_cons _ _ _ _ _ (@ps_set _ _ 3 _ _ _ _ sc_law.nd rfl (Or.inl rfl) (@pe_op _ _ _ _ _ _ _ _ op_mod (pe_cal G__law_cell_at hr (@pa_cons _ _ _ _ _ (pv 0) (@pa_cons _ _ _ _ _ pe_int pa_nil star_c) star_n) rfl) (@pe_op _ _ _ _ _ _ _ _ op_pow pe_int pe_int)) rfl (Or.inl rfl))
    (@pss_cons _ _ _ _ _ (@ps_set _ _ 4 _ _ _ _ sc_law.nd rfl (Or.inl rfl) (pe_cal G_joined_form hr (@pa_cons _ _ _ _ _ (pv 2) pa_nil rfl) rfl) rfl (Or.inl rfl))
    (@pss_cons _ _ _ _ _ (@ps_set _ _ 5 _ _ _ _ sc_law.nd rfl (Or.inl rfl) (pe_cal G_read_form hr (@pa_cons _ _ _ _ _ (pe_cal G__law_written hr (@pa_cons _ _ _ _ _ (pv 2) (@pa_cons _ _ _ _ _ (pv 3) pa_nil star_n) star_n) rfl) pa_nil rfl) rfl) rfl (Or.inl rfl))
    (@pss_cons _ _ _ _ _ (@ps_if _ _ _ _ _ _ _ _ (PW.pt (pw_or (pt_cmpR (op_neT (hu64 hr)) (pv 5) (pv 4) (nomark _)) (pw_or1 (pt_cmpR op_notB (pe_cal G_is_form hr (@pa_cons _ _ _ _ _ (pv 5) pa_nil rfl) rfl) pe_bl (nomark _)))))
    (@pss_one _ _ _ (@ps_ret _ _ _ _ pe_bl))
    pss_nil)
    (@pss_cons _ _ _ _ _ (@ps_set _ _ 6 _ _ _ _ sc_law.nd rfl (Or.inl rfl) (pe_cal G_show_form hr (@pa_cons _ _ _ _ _ (pv 2) pa_nil rfl) rfl) rfl (Or.inl rfl))
    (@pss_cons _ _ _ _ _ (@ps_if _ _ _ _ _ _ _ _ (PW.pt (pw_or (pt_cmpR (op_neT (hu64 hr)) (pe_cal G_read_form hr (@pa_cons _ _ _ _ _ (pv 6) pa_nil rfl) rfl) (pv 4) (nomark _)) (pw_or1 (pt_cmpR op_ne (pe_cal G_show_form hr (@pa_cons _ _ _ _ _ (pv 5) pa_nil rfl) rfl) (pv 6) (nomark _)))))
    (@pss_one _ _ _ (@ps_ret _ _ _ _ pe_bl))
    pss_nil)
    (@pss_cons _ _ _ _ _ (@ps_set _ _ 7 _ _ _ _ sc_law.nd rfl (Or.inl rfl) (@pe_op _ _ _ _ _ _ _ _ op_mod (@pe_op _ _ _ _ _ _ _ _ (op_divL 3 (by decide) (by decide)) (pv 3) pe_int) (@pe_op _ _ _ _ _ _ _ _ op_add (pe_callB call_len_seq rfl m_len boLen (@pa_cons _ _ _ _ _ (pv 2) pa_nil rfl)) pe_int)) rfl (Or.inl rfl))
    (@pss_cons _ _ _ _ _ (@ps_set _ _ 8 _ _ _ _ sc_law.nd rfl (Or.inl rfl) (pe_slice sl_tupA (pv 2) (po_some (pv 7)) po_none) rfl (Or.inl rfl))
    (@pss_cons _ _ _ _ _ (@ps_set _ _ 9 _ _ _ _ sc_law.nd rfl (Or.inl rfl) (pe_slice sl_tupA (pv 2) po_none (po_some (pv 7))) rfl (Or.inl rfl))
    (@pss_one _ _ _ (@ps_ret _ _ _ _ (pe_cmpR (op_eqT (hu64 hr)) (pe_cal G_read_form hr (@pa_cons _ _ _ _ _ (@pe_op _ _ _ _ _ _ _ _ op_addS (pe_cal G_show_form hr (@pa_cons _ _ _ _ _ (pv 8) pa_nil rfl) rfl) (pe_cal G_show_form hr (@pa_cons _ _ _ _ _ (pv 9) pa_nil rfl) rfl)) pa_nil rfl) rfl) (pe_cal G_joined_form hr (@pa_cons _ _ _ _ _ (@pe_op _ _ _ _ _ _ _ _ op_catA (pv 8) (pv 9)) pa_nil rfl) rfl) (nomark _))))))))))))))), ?_⟩
  refine hold fun G_84 hG_84 => ?_
  obtain ⟨a, ns, rfl, hS, hO, h63, q⟩ := h
  refine hG_84 ?_
  refine seq_any fun R1 hR1 => ?_
  refine ⟨_, rfl, a, ns, 0, rfl, hS, by decide, _, rfl, fun H1 pn nms s1 _ hpn hl4 hok => ?_⟩
  refine hR1 _ _ ?_
  refine seq_any fun R2 hR2 => ?_
  refine ⟨_, rfl, a, ns, rfl, s1.seq hS, h63, fun H2 pc ms s2 _ hpc hm => ?_⟩
  refine ⟨_, rfl, pc, pn, ms, nms, rfl, hpc, hm, s2 _ _ hpn, hl4, hok, fun H3 v ds s3 hv hf hw => ?_⟩
  refine hR2 _ _ ?_
  have s13 := s1.trans (s2.trans s3)
  have hw8 : wts ds ≤ 800000 := Nat.le_trans hw (by decide)
  refine hold fun G_85 hG_85 => ?_
  obtain ⟨c, us, rfl, hc, hd⟩ := dt_tup_inv hv
  refine hG_85 ?_
  refine seq_any fun R3 hR3 => ?_
  refine ⟨_, rfl, a, ns, 1, rfl, s13.seq hS, by decide, _, _, rfl, rfl, ⟨by decide, by decide, by decide⟩, _, _, rfl, rfl, (by show (0 : Int) < 10 ^ Int.toNat 9; decide), ?_⟩
  dsimp only
  have t0 : 0 ≤ cellF ns 1 % 10 ^ Int.toNat 9 := Int.emod_nonneg _ (by decide)
  generalize cellF ns 1 % 10 ^ Int.toNat 9 = tu at t0
  refine hR3 _ _ ?_
  obtain ⟨jf, jj⟩ := jF_ok sgt0 sgtA 4 ds hf
  obtain ⟨jl1, jl2⟩ := jF_like 4 ds hf
  have dpj := form_dps 4 _ jf
  refine seq_any fun R4 hR4 => ?_
  refine ⟨_, rfl, .ref c, ds, rfl, hv, hf, fun H4 u s4 hu => ?_⟩
  refine hR4 _ _ ?_
  refine seq_any fun R5 hR5 => ?_
  refine ⟨_, rfl, _, rfl, .ref c, ds, tu, rfl, hv.same s4.t.to, hf, hw8, by decide, fun H5 tk s5 hWr => ?_⟩
  have tkg := wrF_ok 4 ds tk hf hWr
  have tkl := tkg.ln
  refine hold fun G_86 hG_86 => ?_
  obtain ⟨A, t', r1, r2⟩ := read_ok hf hWr
  refine hG_86 ?_
  refine ⟨_, tk, _, A, t', rfl, rfl, tkg.ok, tkg.sg, by (first | lia | omega), r1, r2, fun H6 w6 s6 hw6 => ?_⟩
  refine hR5 _ _ ?_
  have hu6 := hu.same (s5.trans s6).t.to
  refine seq_any fun R6 hR6 => ?_
  refine if_any fun T6 hT6 hF6 => ?_
  refine ⟨_, rfl, _, rfl, _, _, hw6.same TuO_sub, hu6.same TuO_sub, by (first | lia | omega), _, rfl, ?_⟩
  rw [eqDs_self]
  refine iteF ?_
  refine hold fun G_87 hG_87 => ?_
  obtain ⟨c6, us6, rfl, hc6, hd6⟩ := dt_tup_inv hw6
  refine hG_87 ?_
  refine hold fun G_88 hG_88 => ?_
  obtain ⟨ths, k1, k2, k3⟩ := fm_th 4 _ _ jf (hd6.same TuO_sub)
  refine hG_88 ?_
  refine ⟨_, rfl, _, .tup ths, rfl, th_tup (TuO_seq hc6) k1, by rw [szT]; (first | lia | omega), fun H7 s7 => ?_⟩
  rw [isF_tup, k2]
  refine ⟨_, _, rfl, rfl, _, rfl, ?_⟩
  refine hF6 _ ?_
  refine hR6 _ _ ?_
  have s37 := s4.trans (s5.trans (s6.trans s7))
  refine seq_any fun R7 hR7 => ?_
  refine ⟨_, rfl, .ref c, ds, rfl, hv.same s37.t.to, hf, hw8, fun H8 s8 => ?_⟩
  refine hR7 _ _ ?_
  obtain ⟨kw, kr⟩ := tkF_ok 4 ds hf
  have tkg2 := wrF_ok 4 ds _ hf kw
  have tkl2 := tkg2.ln
  refine hold fun G_89 hG_89 => ?_
  obtain ⟨A2, t2, p1, p2⟩ := read_ok hf kw
  refine hG_89 ?_
  rw [kr] at tkl2
  have hsg2 := tkg2.sg
  rw [kr] at hsg2
  refine seq_any fun R8 hR8 => ?_
  refine if_any fun T8 hT8 hF8 => ?_
  refine ⟨_, rfl, _, tkF 4 ds, _, A2, t2, rfl, kr.symm, tkg2.ok, hsg2, by (first | lia | omega), p1, p2, fun H9 w9 s9 hw9 => ?_⟩
  have s69 := s7.trans (s8.trans s9)
  refine ⟨_, rfl, _, _, hw9.same TuO_sub, (hu6.same s69.t.to).same TuO_sub, by (first | lia | omega), _, rfl, ?_⟩
  rw [eqDs_self]
  refine iteF ?_
  refine ⟨_, rfl, _, _, rfl, hw6.same s69.t.to, jf, by (first | lia | omega), fun H10 s10 => ?_⟩
  rw [jl1]
  refine ⟨_, rfl, rfl, _, rfl, ?_⟩
  rw [decide_eq_true rfl]
  refine hF8 _ ?_
  refine hR8 _ _ ?_
  have s310 := s37.trans (s8.trans (s9.trans s10))
  have hcs := s310.t.to.tup hc
  refine seq_any fun R9 hR9 => ?_
  refine ⟨_, rfl, _, rfl, rfl, _, rfl, c, _, rfl, .inr (TuO_seq hcs), _, _, rfl, rfl, _, _, rfl, rfl, by show (0 : Int) < _ + 1; (first | lia | omega), ?_⟩
  dsimp only
  have a0 : ∀ z : Int, 0 ≤ z % (((us.length : Nat) : Int) + 1) ∧ z % (((us.length : Nat) : Int) + 1) ≤ (us.length : Int) := fun z => ⟨Int.emod_nonneg _ (by (first | lia | omega)), by have := Int.emod_lt_of_pos z (show (0 : Int) < ((us.length : Nat) : Int) + 1 by (first | lia | omega)); (first | lia | omega)⟩
  obtain ⟨at0, at1⟩ := a0 (tu / 3)
  generalize tu / 3 % (((us.length : Nat) : Int) + 1) = at' at at0 at1
  refine hR9 _ _ ?_
  refine hold fun G_90 hG_90 => ?_
  obtain ⟨hf1, hf2, hfl, hft⟩ := form_cut hf at'.toNat
  refine hG_90 ?_
  have hwt2 := wts_take ds at'.toNat
  refine seq_any fun R10 hR10 => ?_
  refine ⟨_, rfl, _, rfl, _, rfl, ?_⟩
  dsimp only [tNoPart]
  refine sliceFr hcs (hd.same s310.t.to) at0 at1 fun H11 p11 s11 h11 => ?_
  refine hR10 _ _ ?_
  refine seq_any fun R11 hR11 => ?_
  refine ⟨_, rfl, ?_⟩
  dsimp only [tNoPart]
  refine ⟨_, rfl, _, rfl, ?_⟩
  refine sliceTo (s11.t.to.tup hcs) (hd.same (s310.trans s11).t.to) at0 at1 fun H12 p12 s12 h12 => ?_
  refine hR11 _ _ ?_
  have h11' := h11.same s12.t.to
  refine ⟨_, rfl, .ref p11, _, rfl, h11', hf2, by (first | lia | omega), fun H13 s13' => ?_⟩
  refine ⟨_, rfl, .ref p12, _, rfl, h12.same s13'.t.to, hf1, by (first | lia | omega), fun H14 s14 => ?_⟩
  have l1 := shF_len 4 _ hf1
  have l2 := shF_len 4 _ hf2
  refine ⟨_, _, rfl, rfl, smallF (by (first | lia | omega)), ?_⟩
  have hff : FmG 4 (ds.drop at'.toNat ++ ds.take at'.toNat) := ⟨by have := hf.1; rw [List.length_append]; (first | lia | omega), by have := hf.2.1; rw [tlen_app]; (first | lia | omega), fun d hd => (List.mem_append.mp hd).elim (hf2.2.2 d) (hf1.2.2 d)⟩
  have eF : shF 4 (ds.drop at'.toNat) ++ shF 4 (ds.take at'.toNat) = shF 4 (ds.drop at'.toNat ++ ds.take at'.toNat) := by
    show (ds.drop at'.toNat).flatMap (shN (shF 3)) ++ (ds.take at'.toNat).flatMap (shN (shF 3)) = (ds.drop at'.toNat ++ ds.take at'.toNat).flatMap (shN (shF 3))
    rw [← List.flatMap_append]
  rw [eF]
  have hwff : wts (ds.drop at'.toNat ++ ds.take at'.toNat) ≤ 800000 := by rw [wts_app]; (first | lia | omega)
  obtain ⟨kw3, kr3⟩ := tkF_ok 4 _ hff
  have tkg3 := wrF_ok 4 _ _ hff kw3
  have tkl3 := tkg3.ln
  refine hold fun G_91 hG_91 => ?_
  obtain ⟨A3, t3, m1, m2⟩ := read_ok hff kw3
  refine hG_91 ?_
  rw [kr3] at tkl3
  have hsg3 := tkg3.sg
  rw [kr3] at hsg3
  obtain ⟨jf3, _⟩ := jF_ok sgt0 sgtA 4 _ hff
  have dpj3 := form_dps 4 _ jf3
  refine ⟨_, tkF 4 _, _, A3, t3, rfl, kr3.symm, tkg3.ok, hsg3, by (first | lia | omega), m1, m2, fun H15 w15 s15 hw15 => ?_⟩
  have s1215 := s13'.trans (s14.trans s15)
  refine ⟨_, rfl, _, rfl, ?_⟩
  refine catB (h11'.same s1215.t.to) (h12.same s1215.t.to) (by have := hf.1; (first | lia | omega)) fun H16 p16 s16 h16 => ?_
  refine ⟨.ref p16, _, rfl, h16, hff, fun H17 u17 s17 h17 => ?_⟩
  refine ⟨_, _, (hw15.same (s16.trans s17).t.to).same TuO_sub, h17.same TuO_sub, by (first | lia | omega), ?_⟩
  rw [eqDs_self]
  exact q _

theorem all_ok (T : Txt w K mg) {C_Joining : Addr} (J_Joining : Txt_Joining K mg C_Joining) {C_Opened : Addr} (J_Opened : Txt_Opened K mg C_Opened) (kits : Kits K) : Cal P w K mg base CX0 KK "law" ["_law_script"] (spLaw K) := by
  have ca := ok__law_cell_at (P := P) (base := base) (k := 0) T
  have ce := ok__law_cells (k := 1) T ca
  have sg := ok__law_signs (P := P) (base := base) (k := 0) T
  have nm := ok__law_names (P := P) (base := base) (k := 0) T
  have tk := ok__law_take (P := P) (base := base) (k := 0) T
  have f0 : Cal P w K mg base CX0 1 "_law_form" ["_law_state", "_law_names_here", "_law_deep", "_law_many"] (sp__law_form 0 K) := T.d__law_form.elim fun f e => e.elim fun fd A => A.no fun vs H Q E h => h
  have n0 := ok__law_node (k := 1) T sg tk f0
  have f1 := ok__law_form (k := 2) T n0
  have n1 := ok__law_node (k := 3) T (sg.mono (by decide)) (tk.mono (by decide)) f1
  have f2 := ok__law_form (k := 4) T n1
  have n2 := ok__law_node (k := 5) T (sg.mono (by decide)) (tk.mono (by decide)) f2
  have f3 := ok__law_form (k := 6) T n2
  have n3 := ok__law_node (k := 7) T (sg.mono (by decide)) (tk.mono (by decide)) f3
  have gr := ok__law_grown (k := 8) T n3
  have fi := ok_forms_in (P := P) (base := base) (k := 0) T
  have ji := ok_Joining___init__ (P := P) (w := w) (base := base) (k := 0) T J_Joining
  have jp := ok_Joining_put_text (P := P) (w := w) (base := base) (k := 0) T J_Joining
  have js := ok_Joining_so_far (P := P) (w := w) (base := base) (k := 0) T J_Joining
  have jn := ok_Joining_put_node (P := P) (w := w) (base := base) (k := 1) T J_Joining js
  have j0 : Cal P w K mg base CX0 1 "joined_form" ["form"] (sp_joined_form 0 K) := T.d_joined_form.elim fun f e => e.elim fun fd A => A.no fun vs H Q E h => by
    obtain ⟨_, _, _, _, h, _⟩ := h
    exact h
  have j1 := ok_joined_form (k := 2) T J_Joining (fi.mono (by decide)) ji (jp.mono (by decide)) jn (js.mono (by decide)) (j0.mono (by decide))
  have j2 := ok_joined_form (k := 3) T J_Joining (fi.mono (by decide)) (ji.mono (by decide)) (jp.mono (by decide)) (jn.mono (by decide)) (js.mono (by decide)) j1
  have j3 := ok_joined_form (k := 4) T J_Joining (fi.mono (by decide)) (ji.mono (by decide)) (jp.mono (by decide)) (jn.mono (by decide)) (js.mono (by decide)) j2
  have j4 := ok_joined_form (k := 5) T J_Joining (fi.mono (by decide)) (ji.mono (by decide)) (jp.mono (by decide)) (jn.mono (by decide)) (js.mono (by decide)) j3
  have it := ok_is_text (P := P) (base := base) (k := 0) T
  have iF := ok_is_form_name (P := P) (base := base) (k := 0) T
  have iN := ok_is_node (k := 1) T it iF
  have iFo := ok_is_form (k := 2) T iN (fi.mono (by decide))
  have oi := ok_Opened___init__ (P := P) (w := w) (base := base) (k := 2) T J_Joining J_Opened ji
  have oe := ok_Opened_end_form (P := P) (w := w) (base := base) (k := 2) T J_Joining J_Opened ji (js.mono (by decide))
  have og := ok_Opened_go_other (P := P) (w := w) (base := base) (k := 3) T J_Opened oe
  have od := ok_Opened_ended (P := P) (w := w) (base := base) (k := 3) T J_Opened oe
  have tt := ok_take_text (k := 1) T J_Joining J_Opened jp
  have te := ok_take_end (k := 4) T J_Joining J_Opened (jn.mono (by decide)) od
  have tw := ok_take_words (k := 4) T J_Joining J_Opened (iF.mono (by decide)) (jn.mono (by decide)) oi
  have tm := ok_take_mark (k := 5) T J_Joining J_Opened (iF.mono (by decide)) (jp.mono (by decide)) (jn.mono (by decide)) (og.mono (by decide)) te tw
  have rf := ok_read_form (k := 6) T J_Joining J_Opened (it.mono (by decide)) (oi.mono (by decide)) (js.mono (by decide)) (tt.mono (by decide)) tm
  have s0 : Cal P w K mg base CX0 1 "show_form" ["form"] (sp_show_form 0 K) := T.d_show_form.elim fun f e => e.elim fun fd A => A.no fun vs H Q E h => by
    obtain ⟨_, _, _, _, h, _⟩ := h
    exact h
  have m0 := ok_show_node (k := 1) T fi s0
  have s1 := ok_show_form (k := 2) T m0
  have m1 := ok_show_node (k := 3) T (fi.mono (by decide)) s1
  have s2 := ok_show_form (k := 4) T m1
  have m2 := ok_show_node (k := 5) T (fi.mono (by decide)) s2
  have s3 := ok_show_form (k := 6) T m2
  have m3 := ok_show_node (k := 7) T (fi.mono (by decide)) s3
  have s4 := ok_show_form (k := 8) T m3
  have w0 : Cal P w K mg base CX0 1 "_law_written" ["_law_form_here", "_law_turn"] (sp__law_written 0 K) := T.d__law_written.elim fun f e => e.elim fun fd A => A.no fun vs H Q E h => by
    obtain ⟨_, _, _, _, _, h, _⟩ := h
    exact h
  have w1 := ok__law_written (k := 1) T w0
  have w2 := ok__law_written (k := 2) T w1
  have w3 := ok__law_written (k := 3) T w2
  have w4 := ok__law_written (k := 4) T w3
  exact ok_law (k := 19) T (iFo.mono (by decide)) (j4.mono (by decide)) (s4.mono (by decide)) (rf.mono (by decide)) (ca.mono (by decide)) (ce.mono (by decide)) (nm.mono (by decide)) (gr.mono (by decide)) (w4.mono (by decide))
end
theorem all_mk {l : PySem.W.OpenLaw} {w : World} {K : PySem.W.Frag} {h : Heap} {mg : Str → Option Value} {fa : Addr} (X : K.In h) (G_ : h.Ns mainGlobals mg) (hfa : mg "law" = some (.ref fa))
    {C_Joining : Addr} (aC_Joining : PySem.W.nsIn K mainGlobals "Joining" = some (some (.ref C_Joining))) (pg_Joining : PySem.W.plainGet K C_Joining Str.empty = true) (hd_Joining : PySem.W.hasDictIn K C_Joining = true) (po_Joining : PySem.W.plainOver K C_Joining = true) (sa_Joining : PySem.W.findIn K (.ref C_Joining) "__setattr__" = some (some (.builtin "object.__setattr__"))) (mk_Joining : PySem.W.makesIn K C_Joining = true) (kc_Joining : PySem.W.keepIn K (.ref C_Joining) = true)
    (n_Joining_nodes : PySem.W.findIn K (.ref C_Joining) "nodes" = some none)
    (n_Joining_texts : PySem.W.findIn K (.ref C_Joining) "texts" = some none)
    {C_Opened : Addr} (aC_Opened : PySem.W.nsIn K mainGlobals "Opened" = some (some (.ref C_Opened))) (pg_Opened : PySem.W.plainGet K C_Opened Str.empty = true) (hd_Opened : PySem.W.hasDictIn K C_Opened = true) (po_Opened : PySem.W.plainOver K C_Opened = true) (sa_Opened : PySem.W.findIn K (.ref C_Opened) "__setattr__" = some (some (.builtin "object.__setattr__"))) (mk_Opened : PySem.W.makesIn K C_Opened = true) (kc_Opened : PySem.W.keepIn K (.ref C_Opened) = true)
    (n_Opened_forms : PySem.W.findIn K (.ref C_Opened) "forms" = some none)
    (n_Opened_joining : PySem.W.findIn K (.ref C_Opened) "joining" = some none)
    (n_Opened_kind : PySem.W.findIn K (.ref C_Opened) "kind" = some none)
    (n_Opened_name : PySem.W.findIn K (.ref C_Opened) "name" = some none)
    {f0 : Addr} {od0 an0 : Option Addr} {sl0 : Array (Option Value)} {oc0 kV0 dc0 pm0 cd0 ct0 : Value}
    (a0 : PySem.W.nsIn K mainGlobals "is_text" = some (some (.ref f0))) (l0 : K.lookup f0 = some ⟨oc0, od0, .func (PySem.W.fnOf "is_text" "is_text" (defArgs st_is_text) (defBody st_is_text) (defScope st_is_text) .none kV0 dc0 pm0 an0 cd0 ct0), sl0⟩) (c0 : PySem.W.codeIn K cd0 "is_text" = true) (k0 : PySem.W.keepIn K (.ref f0) = true)
    {f1 : Addr} {od1 an1 : Option Addr} {sl1 : Array (Option Value)} {oc1 kV1 dc1 pm1 cd1 ct1 : Value}
    (a1 : PySem.W.nsIn K mainGlobals "is_form_name" = some (some (.ref f1))) (l1 : K.lookup f1 = some ⟨oc1, od1, .func (PySem.W.fnOf "is_form_name" "is_form_name" (defArgs st_is_form_name) (defBody st_is_form_name) (defScope st_is_form_name) .none kV1 dc1 pm1 an1 cd1 ct1), sl1⟩) (c1 : PySem.W.codeIn K cd1 "is_form_name" = true) (k1 : PySem.W.keepIn K (.ref f1) = true)
    {f2 : Addr} {od2 an2 : Option Addr} {sl2 : Array (Option Value)} {oc2 kV2 dc2 pm2 cd2 ct2 : Value}
    (a2 : PySem.W.nsIn K mainGlobals "is_form" = some (some (.ref f2))) (l2 : K.lookup f2 = some ⟨oc2, od2, .func (PySem.W.fnOf "is_form" "is_form" (defArgs st_is_form) (defBody st_is_form) (defScope st_is_form) .none kV2 dc2 pm2 an2 cd2 ct2), sl2⟩) (c2 : PySem.W.codeIn K cd2 "is_form" = true) (k2 : PySem.W.keepIn K (.ref f2) = true)
    {f3 : Addr} {od3 an3 : Option Addr} {sl3 : Array (Option Value)} {oc3 kV3 dc3 pm3 cd3 ct3 : Value}
    (a3 : PySem.W.nsIn K mainGlobals "is_node" = some (some (.ref f3))) (l3 : K.lookup f3 = some ⟨oc3, od3, .func (PySem.W.fnOf "is_node" "is_node" (defArgs st_is_node) (defBody st_is_node) (defScope st_is_node) .none kV3 dc3 pm3 an3 cd3 ct3), sl3⟩) (c3 : PySem.W.codeIn K cd3 "is_node" = true) (k3 : PySem.W.keepIn K (.ref f3) = true)
    {f4 : Addr} {od4 an4 : Option Addr} {sl4 : Array (Option Value)} {oc4 kV4 dc4 pm4 cd4 ct4 : Value}
    (a4 : PySem.W.nsIn K mainGlobals "forms_in" = some (some (.ref f4))) (l4 : K.lookup f4 = some ⟨oc4, od4, .func (PySem.W.fnOf "forms_in" "forms_in" (defArgs st_forms_in) (defBody st_forms_in) (defScope st_forms_in) .none kV4 dc4 pm4 an4 cd4 ct4), sl4⟩) (c4 : PySem.W.codeIn K cd4 "forms_in" = true) (k4 : PySem.W.keepIn K (.ref f4) = true)
    {f5 : Addr} {od5 an5 : Option Addr} {sl5 : Array (Option Value)} {oc5 kV5 dc5 pm5 cd5 ct5 : Value}
    (a5 : PySem.W.findIn K (.ref C_Joining) "__init__" = some (some (.ref f5))) (i5 : PySem.W.isFn K (.ref f5) = true) (l5 : K.lookup f5 = some ⟨oc5, od5, .func (PySem.W.fnOf "__init__" "Joining.__init__" (defArgs st_Joining___init__) (defBody st_Joining___init__) (defScope st_Joining___init__) .none kV5 dc5 pm5 an5 cd5 ct5), sl5⟩) (c5 : PySem.W.codeIn K cd5 "Joining.__init__" = true) (k5 : PySem.W.keepIn K (.ref f5) = true)
    {f6 : Addr} {od6 an6 : Option Addr} {sl6 : Array (Option Value)} {oc6 kV6 dc6 pm6 cd6 ct6 : Value}
    (a6 : PySem.W.findIn K (.ref C_Joining) "put_text" = some (some (.ref f6))) (i6 : PySem.W.isFn K (.ref f6) = true) (l6 : K.lookup f6 = some ⟨oc6, od6, .func (PySem.W.fnOf "put_text" "Joining.put_text" (defArgs st_Joining_put_text) (defBody st_Joining_put_text) (defScope st_Joining_put_text) .none kV6 dc6 pm6 an6 cd6 ct6), sl6⟩) (c6 : PySem.W.codeIn K cd6 "Joining.put_text" = true) (k6 : PySem.W.keepIn K (.ref f6) = true)
    {f7 : Addr} {od7 an7 : Option Addr} {sl7 : Array (Option Value)} {oc7 kV7 dc7 pm7 cd7 ct7 : Value}
    (a7 : PySem.W.findIn K (.ref C_Joining) "put_node" = some (some (.ref f7))) (i7 : PySem.W.isFn K (.ref f7) = true) (l7 : K.lookup f7 = some ⟨oc7, od7, .func (PySem.W.fnOf "put_node" "Joining.put_node" (defArgs st_Joining_put_node) (defBody st_Joining_put_node) (defScope st_Joining_put_node) .none kV7 dc7 pm7 an7 cd7 ct7), sl7⟩) (c7 : PySem.W.codeIn K cd7 "Joining.put_node" = true) (k7 : PySem.W.keepIn K (.ref f7) = true)
    {f8 : Addr} {od8 an8 : Option Addr} {sl8 : Array (Option Value)} {oc8 kV8 dc8 pm8 cd8 ct8 : Value}
    (a8 : PySem.W.findIn K (.ref C_Opened) "__init__" = some (some (.ref f8))) (i8 : PySem.W.isFn K (.ref f8) = true) (l8 : K.lookup f8 = some ⟨oc8, od8, .func (PySem.W.fnOf "__init__" "Opened.__init__" (defArgs st_Opened___init__) (defBody st_Opened___init__) (defScope st_Opened___init__) .none kV8 dc8 pm8 an8 cd8 ct8), sl8⟩) (c8 : PySem.W.codeIn K cd8 "Opened.__init__" = true) (k8 : PySem.W.keepIn K (.ref f8) = true)
    {f9 : Addr} {od9 an9 : Option Addr} {sl9 : Array (Option Value)} {oc9 kV9 dc9 pm9 cd9 ct9 : Value}
    (a9 : PySem.W.findIn K (.ref C_Opened) "end_form" = some (some (.ref f9))) (i9 : PySem.W.isFn K (.ref f9) = true) (l9 : K.lookup f9 = some ⟨oc9, od9, .func (PySem.W.fnOf "end_form" "Opened.end_form" (defArgs st_Opened_end_form) (defBody st_Opened_end_form) (defScope st_Opened_end_form) .none kV9 dc9 pm9 an9 cd9 ct9), sl9⟩) (c9 : PySem.W.codeIn K cd9 "Opened.end_form" = true) (k9 : PySem.W.keepIn K (.ref f9) = true)
    {f10 : Addr} {od10 an10 : Option Addr} {sl10 : Array (Option Value)} {oc10 kV10 dc10 pm10 cd10 ct10 : Value}
    (a10 : PySem.W.findIn K (.ref C_Opened) "go_other" = some (some (.ref f10))) (i10 : PySem.W.isFn K (.ref f10) = true) (l10 : K.lookup f10 = some ⟨oc10, od10, .func (PySem.W.fnOf "go_other" "Opened.go_other" (defArgs st_Opened_go_other) (defBody st_Opened_go_other) (defScope st_Opened_go_other) .none kV10 dc10 pm10 an10 cd10 ct10), sl10⟩) (c10 : PySem.W.codeIn K cd10 "Opened.go_other" = true) (k10 : PySem.W.keepIn K (.ref f10) = true)
    {f11 : Addr} {od11 an11 : Option Addr} {sl11 : Array (Option Value)} {oc11 kV11 dc11 pm11 cd11 ct11 : Value}
    (a11 : PySem.W.findIn K (.ref C_Opened) "ended" = some (some (.ref f11))) (i11 : PySem.W.isFn K (.ref f11) = true) (l11 : K.lookup f11 = some ⟨oc11, od11, .func (PySem.W.fnOf "ended" "Opened.ended" (defArgs st_Opened_ended) (defBody st_Opened_ended) (defScope st_Opened_ended) .none kV11 dc11 pm11 an11 cd11 ct11), sl11⟩) (c11 : PySem.W.codeIn K cd11 "Opened.ended" = true) (k11 : PySem.W.keepIn K (.ref f11) = true)
    {f12 : Addr} {od12 an12 : Option Addr} {sl12 : Array (Option Value)} {oc12 kV12 dc12 pm12 cd12 ct12 : Value}
    (a12 : PySem.W.findIn K (.ref C_Joining) "so_far" = some (some (.ref f12))) (i12 : PySem.W.isFn K (.ref f12) = true) (l12 : K.lookup f12 = some ⟨oc12, od12, .func (PySem.W.fnOf "so_far" "Joining.so_far" (defArgs st_Joining_so_far) (defBody st_Joining_so_far) (defScope st_Joining_so_far) .none kV12 dc12 pm12 an12 cd12 ct12), sl12⟩) (c12 : PySem.W.codeIn K cd12 "Joining.so_far" = true) (k12 : PySem.W.keepIn K (.ref f12) = true)
    {f13 : Addr} {od13 an13 : Option Addr} {sl13 : Array (Option Value)} {oc13 kV13 dc13 pm13 cd13 ct13 : Value}
    (a13 : PySem.W.nsIn K mainGlobals "joined_form" = some (some (.ref f13))) (l13 : K.lookup f13 = some ⟨oc13, od13, .func (PySem.W.fnOf "joined_form" "joined_form" (defArgs st_joined_form) (defBody st_joined_form) (defScope st_joined_form) .none kV13 dc13 pm13 an13 cd13 ct13), sl13⟩) (c13 : PySem.W.codeIn K cd13 "joined_form" = true) (k13 : PySem.W.keepIn K (.ref f13) = true)
    {f14 : Addr} {od14 an14 : Option Addr} {sl14 : Array (Option Value)} {oc14 kV14 dc14 pm14 cd14 ct14 : Value}
    (a14 : PySem.W.nsIn K mainGlobals "show_form" = some (some (.ref f14))) (l14 : K.lookup f14 = some ⟨oc14, od14, .func (PySem.W.fnOf "show_form" "show_form" (defArgs st_show_form) (defBody st_show_form) (defScope st_show_form) .none kV14 dc14 pm14 an14 cd14 ct14), sl14⟩) (c14 : PySem.W.codeIn K cd14 "show_form" = true) (k14 : PySem.W.keepIn K (.ref f14) = true)
    {f15 : Addr} {od15 an15 : Option Addr} {sl15 : Array (Option Value)} {oc15 kV15 dc15 pm15 cd15 ct15 : Value}
    (a15 : PySem.W.nsIn K mainGlobals "show_node" = some (some (.ref f15))) (l15 : K.lookup f15 = some ⟨oc15, od15, .func (PySem.W.fnOf "show_node" "show_node" (defArgs st_show_node) (defBody st_show_node) (defScope st_show_node) .none kV15 dc15 pm15 an15 cd15 ct15), sl15⟩) (c15 : PySem.W.codeIn K cd15 "show_node" = true) (k15 : PySem.W.keepIn K (.ref f15) = true)
    {f16 : Addr} {od16 an16 : Option Addr} {sl16 : Array (Option Value)} {oc16 kV16 dc16 pm16 cd16 ct16 : Value}
    (a16 : PySem.W.nsIn K mainGlobals "read_form" = some (some (.ref f16))) (l16 : K.lookup f16 = some ⟨oc16, od16, .func (PySem.W.fnOf "read_form" "read_form" (defArgs st_read_form) (defBody st_read_form) (defScope st_read_form) .none kV16 dc16 pm16 an16 cd16 ct16), sl16⟩) (c16 : PySem.W.codeIn K cd16 "read_form" = true) (k16 : PySem.W.keepIn K (.ref f16) = true)
    {f17 : Addr} {od17 an17 : Option Addr} {sl17 : Array (Option Value)} {oc17 kV17 dc17 pm17 cd17 ct17 : Value}
    (a17 : PySem.W.nsIn K mainGlobals "take_text" = some (some (.ref f17))) (l17 : K.lookup f17 = some ⟨oc17, od17, .func (PySem.W.fnOf "take_text" "take_text" (defArgs st_take_text) (defBody st_take_text) (defScope st_take_text) .none kV17 dc17 pm17 an17 cd17 ct17), sl17⟩) (c17 : PySem.W.codeIn K cd17 "take_text" = true) (k17 : PySem.W.keepIn K (.ref f17) = true)
    {f18 : Addr} {od18 an18 : Option Addr} {sl18 : Array (Option Value)} {oc18 kV18 dc18 pm18 cd18 ct18 : Value}
    (a18 : PySem.W.nsIn K mainGlobals "take_mark" = some (some (.ref f18))) (l18 : K.lookup f18 = some ⟨oc18, od18, .func (PySem.W.fnOf "take_mark" "take_mark" (defArgs st_take_mark) (defBody st_take_mark) (defScope st_take_mark) .none kV18 dc18 pm18 an18 cd18 ct18), sl18⟩) (c18 : PySem.W.codeIn K cd18 "take_mark" = true) (k18 : PySem.W.keepIn K (.ref f18) = true)
    {f19 : Addr} {od19 an19 : Option Addr} {sl19 : Array (Option Value)} {oc19 kV19 dc19 pm19 cd19 ct19 : Value}
    (a19 : PySem.W.nsIn K mainGlobals "take_end" = some (some (.ref f19))) (l19 : K.lookup f19 = some ⟨oc19, od19, .func (PySem.W.fnOf "take_end" "take_end" (defArgs st_take_end) (defBody st_take_end) (defScope st_take_end) .none kV19 dc19 pm19 an19 cd19 ct19), sl19⟩) (c19 : PySem.W.codeIn K cd19 "take_end" = true) (k19 : PySem.W.keepIn K (.ref f19) = true)
    {f20 : Addr} {od20 an20 : Option Addr} {sl20 : Array (Option Value)} {oc20 kV20 dc20 pm20 cd20 ct20 : Value}
    (a20 : PySem.W.nsIn K mainGlobals "take_words" = some (some (.ref f20))) (l20 : K.lookup f20 = some ⟨oc20, od20, .func (PySem.W.fnOf "take_words" "take_words" (defArgs st_take_words) (defBody st_take_words) (defScope st_take_words) .none kV20 dc20 pm20 an20 cd20 ct20), sl20⟩) (c20 : PySem.W.codeIn K cd20 "take_words" = true) (k20 : PySem.W.keepIn K (.ref f20) = true)
    {f21 : Addr} {od21 an21 : Option Addr} {sl21 : Array (Option Value)} {oc21 kV21 dc21 pm21 cd21 ct21 : Value}
    (a21 : PySem.W.nsIn K mainGlobals "_law_cell_at" = some (some (.ref f21))) (l21 : K.lookup f21 = some ⟨oc21, od21, .func (PySem.W.fnOf "_law_cell_at" "_law_cell_at" (defArgs st__law_cell_at) (defBody st__law_cell_at) (defScope st__law_cell_at) .none kV21 dc21 pm21 an21 cd21 ct21), sl21⟩) (c21 : PySem.W.codeIn K cd21 "_law_cell_at" = true) (k21 : PySem.W.keepIn K (.ref f21) = true)
    {f22 : Addr} {od22 an22 : Option Addr} {sl22 : Array (Option Value)} {oc22 kV22 dc22 pm22 cd22 ct22 : Value}
    (a22 : PySem.W.nsIn K mainGlobals "_law_cells" = some (some (.ref f22))) (l22 : K.lookup f22 = some ⟨oc22, od22, .func (PySem.W.fnOf "_law_cells" "_law_cells" (defArgs st__law_cells) (defBody st__law_cells) (defScope st__law_cells) .none kV22 dc22 pm22 an22 cd22 ct22), sl22⟩) (c22 : PySem.W.codeIn K cd22 "_law_cells" = true) (k22 : PySem.W.keepIn K (.ref f22) = true)
    {f23 : Addr} {od23 an23 : Option Addr} {sl23 : Array (Option Value)} {oc23 kV23 dc23 pm23 cd23 ct23 : Value}
    (a23 : PySem.W.nsIn K mainGlobals "_law_signs" = some (some (.ref f23))) (l23 : K.lookup f23 = some ⟨oc23, od23, .func (PySem.W.fnOf "_law_signs" "_law_signs" (defArgs st__law_signs) (defBody st__law_signs) (defScope st__law_signs) .none kV23 dc23 pm23 an23 cd23 ct23), sl23⟩) (c23 : PySem.W.codeIn K cd23 "_law_signs" = true) (k23 : PySem.W.keepIn K (.ref f23) = true)
    {f24 : Addr} {od24 an24 : Option Addr} {sl24 : Array (Option Value)} {oc24 kV24 dc24 pm24 cd24 ct24 : Value}
    (a24 : PySem.W.nsIn K mainGlobals "_law_names" = some (some (.ref f24))) (l24 : K.lookup f24 = some ⟨oc24, od24, .func (PySem.W.fnOf "_law_names" "_law_names" (defArgs st__law_names) (defBody st__law_names) (defScope st__law_names) .none kV24 dc24 pm24 an24 cd24 ct24), sl24⟩) (c24 : PySem.W.codeIn K cd24 "_law_names" = true) (k24 : PySem.W.keepIn K (.ref f24) = true)
    {f25 : Addr} {od25 an25 : Option Addr} {sl25 : Array (Option Value)} {oc25 kV25 dc25 pm25 cd25 ct25 : Value}
    (a25 : PySem.W.nsIn K mainGlobals "_law_take" = some (some (.ref f25))) (l25 : K.lookup f25 = some ⟨oc25, od25, .func (PySem.W.fnOf "_law_take" "_law_take" (defArgs st__law_take) (defBody st__law_take) (defScope st__law_take) .none kV25 dc25 pm25 an25 cd25 ct25), sl25⟩) (c25 : PySem.W.codeIn K cd25 "_law_take" = true) (k25 : PySem.W.keepIn K (.ref f25) = true)
    {f26 : Addr} {od26 an26 : Option Addr} {sl26 : Array (Option Value)} {oc26 kV26 dc26 pm26 cd26 ct26 : Value}
    (a26 : PySem.W.nsIn K mainGlobals "_law_node" = some (some (.ref f26))) (l26 : K.lookup f26 = some ⟨oc26, od26, .func (PySem.W.fnOf "_law_node" "_law_node" (defArgs st__law_node) (defBody st__law_node) (defScope st__law_node) .none kV26 dc26 pm26 an26 cd26 ct26), sl26⟩) (c26 : PySem.W.codeIn K cd26 "_law_node" = true) (k26 : PySem.W.keepIn K (.ref f26) = true)
    {f27 : Addr} {od27 an27 : Option Addr} {sl27 : Array (Option Value)} {oc27 kV27 dc27 pm27 cd27 ct27 : Value}
    (a27 : PySem.W.nsIn K mainGlobals "_law_form" = some (some (.ref f27))) (l27 : K.lookup f27 = some ⟨oc27, od27, .func (PySem.W.fnOf "_law_form" "_law_form" (defArgs st__law_form) (defBody st__law_form) (defScope st__law_form) .none kV27 dc27 pm27 an27 cd27 ct27), sl27⟩) (c27 : PySem.W.codeIn K cd27 "_law_form" = true) (k27 : PySem.W.keepIn K (.ref f27) = true)
    {f28 : Addr} {od28 an28 : Option Addr} {sl28 : Array (Option Value)} {oc28 kV28 dc28 pm28 cd28 ct28 : Value}
    (a28 : PySem.W.nsIn K mainGlobals "_law_grown" = some (some (.ref f28))) (l28 : K.lookup f28 = some ⟨oc28, od28, .func (PySem.W.fnOf "_law_grown" "_law_grown" (defArgs st__law_grown) (defBody st__law_grown) (defScope st__law_grown) .none kV28 dc28 pm28 an28 cd28 ct28), sl28⟩) (c28 : PySem.W.codeIn K cd28 "_law_grown" = true) (k28 : PySem.W.keepIn K (.ref f28) = true)
    {f29 : Addr} {od29 an29 : Option Addr} {sl29 : Array (Option Value)} {oc29 kV29 dc29 pm29 cd29 ct29 : Value}
    (a29 : PySem.W.nsIn K mainGlobals "_law_written" = some (some (.ref f29))) (l29 : K.lookup f29 = some ⟨oc29, od29, .func (PySem.W.fnOf "_law_written" "_law_written" (defArgs st__law_written) (defBody st__law_written) (defScope st__law_written) .none kV29 dc29 pm29 an29 cd29 ct29), sl29⟩) (c29 : PySem.W.codeIn K cd29 "_law_written" = true) (k29 : PySem.W.keepIn K (.ref f29) = true)
    {f30 : Addr} {od30 an30 : Option Addr} {sl30 : Array (Option Value)} {oc30 kV30 dc30 pm30 cd30 ct30 : Value}
    (a30 : PySem.W.nsIn K mainGlobals "law" = some (some (.ref f30))) (l30 : K.lookup f30 = some ⟨oc30, od30, .func (PySem.W.fnOf "law" "law" (defArgs st_law) (defBody st_law) (defScope st_law) .none kV30 dc30 pm30 an30 cd30 ct30), sl30⟩) (c30 : PySem.W.codeIn K cd30 "law" = true) (k30 : PySem.W.keepIn K (.ref f30) = true)
    (z_all : PySem.W.nsIn K mainGlobals "all" = some none)
    (z_isinstance : PySem.W.nsIn K mainGlobals "isinstance" = some none)
    (z_len : PySem.W.nsIn K mainGlobals "len" = some none)
    (z_list : PySem.W.nsIn K mainGlobals "list" = some none)
    (z_range : PySem.W.nsIn K mainGlobals "range" = some none)
    (z_str : PySem.W.nsIn K mainGlobals "str" = some none)
    (z_tuple : PySem.W.nsIn K mainGlobals "tuple" = some none)
    {r_BRACKET_MARKS : Addr} {es_BRACKET_MARKS : Array DictEntry} {n_BRACKET_MARKS : Nat} (y_BRACKET_MARKS : PySem.W.nsIn K mainGlobals "BRACKET_MARKS" = some (some (.ref r_BRACKET_MARKS))) (l_BRACKET_MARKS : K.lookup r_BRACKET_MARKS = some ⟨.type "dict", none, .dict es_BRACKET_MARKS n_BRACKET_MARKS, #[]⟩) (h_BRACKET_MARKS : PySem.W.KeysLit w.params es_BRACKET_MARKS.toList) (s_BRACKET_MARKS : (r_BRACKET_MARKS == sysModules) = false) (p_BRACKET_MARKS : Paired (fun (p : List Nat × V) (e : DictEntry) => (∃ t, e.key = .str (tx p.1) t) ∧ RelV p.2 e.val) tab_BRACKET_MARKS es_BRACKET_MARKS.toList)
    {r_BRACKET_WRITINGS : Addr} {es_BRACKET_WRITINGS : Array DictEntry} {n_BRACKET_WRITINGS : Nat} (y_BRACKET_WRITINGS : PySem.W.nsIn K mainGlobals "BRACKET_WRITINGS" = some (some (.ref r_BRACKET_WRITINGS))) (l_BRACKET_WRITINGS : K.lookup r_BRACKET_WRITINGS = some ⟨.type "dict", none, .dict es_BRACKET_WRITINGS n_BRACKET_WRITINGS, #[]⟩) (h_BRACKET_WRITINGS : PySem.W.KeysLit w.params es_BRACKET_WRITINGS.toList) (s_BRACKET_WRITINGS : (r_BRACKET_WRITINGS == sysModules) = false) (p_BRACKET_WRITINGS : Paired (fun (p : List Nat × V) (e : DictEntry) => (∃ t, e.key = .str (tx p.1) t) ∧ RelV p.2 e.val) tab_BRACKET_WRITINGS es_BRACKET_WRITINGS.toList)
    {t_LONGEST_NAME : Tok} (y_LONGEST_NAME : PySem.W.nsIn K mainGlobals "LONGEST_NAME" = some (some (.int 8 t_LONGEST_NAME)))
    {r_MARK_WORDS : Addr} {od_MARK_WORDS : Option Addr} {its_MARK_WORDS : Array Value} {n_MARK_WORDS : Nat} {sl_MARK_WORDS : Array (Option Value)} (y_MARK_WORDS : PySem.W.nsIn K mainGlobals "MARK_WORDS" = some (some (.ref r_MARK_WORDS))) (l_MARK_WORDS : K.lookup r_MARK_WORDS = some ⟨.type "tuple", od_MARK_WORDS, .seq its_MARK_WORDS n_MARK_WORDS, sl_MARK_WORDS⟩) (h_MARK_WORDS : its_MARK_WORDS.size ≤ sizeLine) (p_MARK_WORDS : Vals [.str (tx [105, 102]), .str (tx [101, 97, 99, 104]), .str (tx [117, 115, 101]), .str (tx [101, 108, 115, 101]), .str (tx [101, 110, 100])] its_MARK_WORDS.toList)
    {r_NODE_LENGTHS : Addr} {es_NODE_LENGTHS : Array DictEntry} {n_NODE_LENGTHS : Nat} (y_NODE_LENGTHS : PySem.W.nsIn K mainGlobals "NODE_LENGTHS" = some (some (.ref r_NODE_LENGTHS))) (l_NODE_LENGTHS : K.lookup r_NODE_LENGTHS = some ⟨.type "dict", none, .dict es_NODE_LENGTHS n_NODE_LENGTHS, #[]⟩) (h_NODE_LENGTHS : PySem.W.KeysLit w.params es_NODE_LENGTHS.toList) (s_NODE_LENGTHS : (r_NODE_LENGTHS == sysModules) = false) (p_NODE_LENGTHS : Paired (fun (p : List Nat × V) (e : DictEntry) => (∃ t, e.key = .str (tx p.1) t) ∧ RelV p.2 e.val) tab_NODE_LENGTHS es_NODE_LENGTHS.toList)
    {x_SIGNS : Str} {t_SIGNS : Tok} (y_SIGNS : PySem.W.nsIn K mainGlobals "SIGNS" = some (some (.str x_SIGNS t_SIGNS))) (e_SIGNS : x_SIGNS = tx lit4)
    {x_SMALL : Str} {t_SMALL : Tok} (y_SMALL : PySem.W.nsIn K mainGlobals "SMALL" = some (some (.str x_SMALL t_SMALL))) (e_SMALL : x_SMALL = tx lit3)
    (kits : Kits K) :
    ∃ fd : FuncData, (∀ (s : Shared) (v : Value), BindsTo s fd ⟨[v], []⟩ [("_law_script", v)]) ∧ ∀ base : Heap, K.In base → base.Ns mainGlobals mg → FnOk l.prog w K mg base CX0 KK fa fd ["_law_script"] (spLaw K) := by
  have e := hfa.symm.trans (PySem.W.mg_of X G_ a30)
  cases e
  have T : Txt w K mg := ⟨⟨_, _, at_mk (mg_mk X G_) a0 l0 c0 k0 (fun _ _ _ _ _ _ us hl => by obtain ⟨u0, rfl⟩ := len1 hl; rfl)⟩, ⟨_, _, at_mk (mg_mk X G_) a1 l1 c1 k1 (fun _ _ _ _ _ _ us hl => by obtain ⟨u0, rfl⟩ := len1 hl; rfl)⟩, ⟨_, _, at_mk (mg_mk X G_) a2 l2 c2 k2 (fun _ _ _ _ _ _ us hl => by obtain ⟨u0, rfl⟩ := len1 hl; rfl)⟩, ⟨_, _, at_mk (mg_mk X G_) a3 l3 c3 k3 (fun _ _ _ _ _ _ us hl => by obtain ⟨u0, rfl⟩ := len1 hl; rfl)⟩, ⟨_, _, at_mk (mg_mk X G_) a4 l4 c4 k4 (fun _ _ _ _ _ _ us hl => by obtain ⟨u0, rfl⟩ := len1 hl; rfl)⟩, ⟨_, _, at_mk (mg_mk X G_) a13 l13 c13 k13 (fun _ _ _ _ _ _ us hl => by obtain ⟨u0, rfl⟩ := len1 hl; rfl)⟩, ⟨_, _, at_mk (mg_mk X G_) a14 l14 c14 k14 (fun _ _ _ _ _ _ us hl => by obtain ⟨u0, rfl⟩ := len1 hl; rfl)⟩, ⟨_, _, at_mk (mg_mk X G_) a15 l15 c15 k15 (fun _ _ _ _ _ _ us hl => by obtain ⟨u0, rfl⟩ := len1 hl; rfl)⟩, ⟨_, _, at_mk (mg_mk X G_) a16 l16 c16 k16 (fun _ _ _ _ _ _ us hl => by obtain ⟨u0, rfl⟩ := len1 hl; rfl)⟩, ⟨_, _, at_mk (mg_mk X G_) a17 l17 c17 k17 (fun _ _ _ _ _ _ us hl => by obtain ⟨u0, u1, rfl⟩ := len2 hl; rfl)⟩, ⟨_, _, at_mk (mg_mk X G_) a18 l18 c18 k18 (fun _ _ _ _ _ _ us hl => by obtain ⟨u0, u1, rfl⟩ := len2 hl; rfl)⟩, ⟨_, _, at_mk (mg_mk X G_) a19 l19 c19 k19 (fun _ _ _ _ _ _ us hl => by obtain ⟨u0, rfl⟩ := len1 hl; rfl)⟩, ⟨_, _, at_mk (mg_mk X G_) a20 l20 c20 k20 (fun _ _ _ _ _ _ us hl => by obtain ⟨u0, u1, rfl⟩ := len2 hl; rfl)⟩, ⟨_, _, at_mk (mg_mk X G_) a21 l21 c21 k21 (fun _ _ _ _ _ _ us hl => by obtain ⟨u0, u1, rfl⟩ := len2 hl; rfl)⟩, ⟨_, _, at_mk (mg_mk X G_) a22 l22 c22 k22 (fun _ _ _ _ _ _ us hl => by obtain ⟨u0, u1, u2, rfl⟩ := len3 hl; rfl)⟩, ⟨_, _, at_mk (mg_mk X G_) a23 l23 c23 k23 (fun _ _ _ _ _ _ us hl => by obtain ⟨u0, u1, rfl⟩ := len2 hl; rfl)⟩, ⟨_, _, at_mk (mg_mk X G_) a24 l24 c24 k24 (fun _ _ _ _ _ _ us hl => by obtain ⟨u0, u1, rfl⟩ := len2 hl; rfl)⟩, ⟨_, _, at_mk (mg_mk X G_) a25 l25 c25 k25 (fun _ _ _ _ _ _ us hl => by obtain ⟨u0, rfl⟩ := len1 hl; rfl)⟩, ⟨_, _, at_mk (mg_mk X G_) a26 l26 c26 k26 (fun _ _ _ _ _ _ us hl => by obtain ⟨u0, u1, u2, rfl⟩ := len3 hl; rfl)⟩, ⟨_, _, at_mk (mg_mk X G_) a27 l27 c27 k27 (fun _ _ _ _ _ _ us hl => by obtain ⟨u0, u1, u2, u3, rfl⟩ := len4 hl; rfl)⟩, ⟨_, _, at_mk (mg_mk X G_) a28 l28 c28 k28 (fun _ _ _ _ _ _ us hl => by obtain ⟨u0, u1, rfl⟩ := len2 hl; rfl)⟩, ⟨_, _, at_mk (mg_mk X G_) a29 l29 c29 k29 (fun _ _ _ _ _ _ us hl => by obtain ⟨u0, u1, rfl⟩ := len2 hl; rfl)⟩, ⟨_, _, at_mk (mg_mk X G_) a30 l30 c30 k30 (fun _ _ _ _ _ _ us hl => by obtain ⟨u0, rfl⟩ := len1 hl; rfl)⟩, PySem.W.mg_none_of X G_ z_all, PySem.W.mg_none_of X G_ z_isinstance, PySem.W.mg_none_of X G_ z_len, PySem.W.mg_none_of X G_ z_list, PySem.W.mg_none_of X G_ z_range, PySem.W.mg_none_of X G_ z_str, PySem.W.mg_none_of X G_ z_tuple, ⟨_, PySem.W.mg_of X G_ y_BRACKET_MARKS, ktab_mk l_BRACKET_MARKS h_BRACKET_MARKS s_BRACKET_MARKS p_BRACKET_MARKS⟩, ⟨_, PySem.W.mg_of X G_ y_BRACKET_WRITINGS, ktab_mk l_BRACKET_WRITINGS h_BRACKET_WRITINGS s_BRACKET_WRITINGS p_BRACKET_WRITINGS⟩, ⟨_, PySem.W.mg_of X G_ y_LONGEST_NAME⟩, ⟨_, PySem.W.mg_of X G_ y_MARK_WORDS, fun _ => .inr ⟨_, _, _, l_MARK_WORDS, rfl, rfl, h_MARK_WORDS, p_MARK_WORDS⟩⟩, ⟨_, PySem.W.mg_of X G_ y_NODE_LENGTHS, ktab_mk l_NODE_LENGTHS h_NODE_LENGTHS s_NODE_LENGTHS p_NODE_LENGTHS⟩, ⟨_, (by rw [← e_SIGNS]; exact PySem.W.mg_of X G_ y_SIGNS)⟩, ⟨_, (by rw [← e_SMALL]; exact PySem.W.mg_of X G_ y_SMALL)⟩⟩
  have J_Joining : Txt_Joining K mg C_Joining := ⟨⟨pg_Joining, hd_Joining, po_Joining, sa_Joining⟩, PySem.W.mg_of X G_ aC_Joining, aC_Joining, n_Joining_nodes, n_Joining_texts, ⟨_, _, ⟨⟨mk_Joining, a5, i5, kc_Joining⟩, fun_mk l5 c5 k5, ((fun_mk (st := st_Joining___init__) l5 c5 k5).binds (ps := ["self"]) fun _ _ _ _ _ _ us hl => by obtain ⟨u0, rfl⟩ := len1 hl; rfl)⟩⟩, ⟨_, _, ⟨⟨a6, i6, k6⟩, fun_mk l6 c6 k6, ((fun_mk (st := st_Joining_put_text) l6 c6 k6).binds (ps := ["self", "text"]) fun _ _ _ _ _ _ us hl => by obtain ⟨u0, u1, rfl⟩ := len2 hl; rfl)⟩⟩, ⟨_, _, ⟨⟨a7, i7, k7⟩, fun_mk l7 c7 k7, ((fun_mk (st := st_Joining_put_node) l7 c7 k7).binds (ps := ["self", "node"]) fun _ _ _ _ _ _ us hl => by obtain ⟨u0, u1, rfl⟩ := len2 hl; rfl)⟩⟩, ⟨_, _, ⟨⟨a12, i12, k12⟩, fun_mk l12 c12 k12, ((fun_mk (st := st_Joining_so_far) l12 c12 k12).binds (ps := ["self"]) fun _ _ _ _ _ _ us hl => by obtain ⟨u0, rfl⟩ := len1 hl; rfl)⟩⟩⟩
  have J_Opened : Txt_Opened K mg C_Opened := ⟨⟨pg_Opened, hd_Opened, po_Opened, sa_Opened⟩, PySem.W.mg_of X G_ aC_Opened, aC_Opened, n_Opened_forms, n_Opened_joining, n_Opened_kind, n_Opened_name, ⟨_, _, ⟨⟨mk_Opened, a8, i8, kc_Opened⟩, fun_mk l8 c8 k8, ((fun_mk (st := st_Opened___init__) l8 c8 k8).binds (ps := ["self", "kind", "name"]) fun _ _ _ _ _ _ us hl => by obtain ⟨u0, u1, u2, rfl⟩ := len3 hl; rfl)⟩⟩, ⟨_, _, ⟨⟨a9, i9, k9⟩, fun_mk l9 c9 k9, ((fun_mk (st := st_Opened_end_form) l9 c9 k9).binds (ps := ["self"]) fun _ _ _ _ _ _ us hl => by obtain ⟨u0, rfl⟩ := len1 hl; rfl)⟩⟩, ⟨_, _, ⟨⟨a10, i10, k10⟩, fun_mk l10 c10 k10, ((fun_mk (st := st_Opened_go_other) l10 c10 k10).binds (ps := ["self"]) fun _ _ _ _ _ _ us hl => by obtain ⟨u0, rfl⟩ := len1 hl; rfl)⟩⟩, ⟨_, _, ⟨⟨a11, i11, k11⟩, fun_mk l11 c11 k11, ((fun_mk (st := st_Opened_ended) l11 c11 k11).binds (ps := ["self"]) fun _ _ _ _ _ _ us hl => by obtain ⟨u0, rfl⟩ := len1 hl; rfl)⟩⟩⟩
  refine ⟨PySem.W.fnOf "law" "law" (defArgs st_law) (defBody st_law) (defScope st_law) .none kV30 dc30 pm30 an30 cd30 ct30, fun s v => .of_eq rfl, fun base _ _ => ?_⟩
  exact (all_ok (P := l.prog) (w := w) (base := base) T J_Joining J_Opened kits).fn_at (PySem.W.mg_of X G_ a30) (fun_mk l30 c30 k30)
end K43
open PySem PySem.W PyProof.Rows
set_option maxRecDepth 100000 in
set_option maxHeartbeats 0 in
theorem PySem.Challenge.cw_safegaps_k43_whole_forms_read_holds : PySem.Challenge.rw_safegaps_k43_whole_forms_read.Holds := by
  w_on; o_law; k_head; (case hw => w_witness2)
  k_fill
  refine L2.law_walk (l := PySem.Challenge.rw_safegaps_k43_whole_forms_read) (x := "_law_script") (k := K43.KK) rfl rfl ⟨rfl, by decide, by decide⟩ (fun w h Y => PySem.W.kIn_of Y) ?F
  case F =>
    intro w mg fa h KX G hmg
    refine' K43.all_mk KX G hmg ?aC_Joining ?pg_Joining ?hd_Joining ?po_Joining ?sa_Joining ?mk_Joining ?kc_Joining ?n_Joining_nodes ?n_Joining_texts ?aC_Opened ?pg_Opened ?hd_Opened ?po_Opened ?sa_Opened ?mk_Opened ?kc_Opened ?n_Opened_forms ?n_Opened_joining ?n_Opened_kind ?n_Opened_name ?a0 ?l0 ?c0 ?k0 ?a1 ?l1 ?c1 ?k1 ?a2 ?l2 ?c2 ?k2 ?a3 ?l3 ?c3 ?k3 ?a4 ?l4 ?c4 ?k4 ?a5 ?i5 ?l5 ?c5 ?k5 ?a6 ?i6 ?l6 ?c6 ?k6 ?a7 ?i7 ?l7 ?c7 ?k7 ?a8 ?i8 ?l8 ?c8 ?k8 ?a9 ?i9 ?l9 ?c9 ?k9 ?a10 ?i10 ?l10 ?c10 ?k10 ?a11 ?i11 ?l11 ?c11 ?k11 ?a12 ?i12 ?l12 ?c12 ?k12 ?a13 ?l13 ?c13 ?k13 ?a14 ?l14 ?c14 ?k14 ?a15 ?l15 ?c15 ?k15 ?a16 ?l16 ?c16 ?k16 ?a17 ?l17 ?c17 ?k17 ?a18 ?l18 ?c18 ?k18 ?a19 ?l19 ?c19 ?k19 ?a20 ?l20 ?c20 ?k20 ?a21 ?l21 ?c21 ?k21 ?a22 ?l22 ?c22 ?k22 ?a23 ?l23 ?c23 ?k23 ?a24 ?l24 ?c24 ?k24 ?a25 ?l25 ?c25 ?k25 ?a26 ?l26 ?c26 ?k26 ?a27 ?l27 ?c27 ?k27 ?a28 ?l28 ?c28 ?k28 ?a29 ?l29 ?c29 ?k29 ?a30 ?l30 ?c30 ?k30 ?z_all ?z_isinstance ?z_len ?z_list ?z_range ?z_str ?z_tuple ?y_BRACKET_MARKS ?l_BRACKET_MARKS ?h_BRACKET_MARKS ?s_BRACKET_MARKS ?p_BRACKET_MARKS ?y_BRACKET_WRITINGS ?l_BRACKET_WRITINGS ?h_BRACKET_WRITINGS ?s_BRACKET_WRITINGS ?p_BRACKET_WRITINGS ?y_LONGEST_NAME ?y_MARK_WORDS ?l_MARK_WORDS ?h_MARK_WORDS ?p_MARK_WORDS ?y_NODE_LENGTHS ?l_NODE_LENGTHS ?h_NODE_LENGTHS ?s_NODE_LENGTHS ?p_NODE_LENGTHS ?y_SIGNS ?e_SIGNS ?y_SMALL ?e_SMALL ?kits
    (case aC_Joining => k_is)
    (case pg_Joining => k_is)
    (case hd_Joining => k_is)
    (case po_Joining => k_is)
    (case sa_Joining => k_is)
    (case mk_Joining => k_is)
    (case kc_Joining => k_is)
    (case n_Joining_nodes => k_is)
    (case n_Joining_texts => k_is)
    (case aC_Opened => k_is)
    (case pg_Opened => k_is)
    (case hd_Opened => k_is)
    (case po_Opened => k_is)
    (case sa_Opened => k_is)
    (case mk_Opened => k_is)
    (case kc_Opened => k_is)
    (case n_Opened_forms => k_is)
    (case n_Opened_joining => k_is)
    (case n_Opened_kind => k_is)
    (case n_Opened_name => k_is)
    (case a0 => k_is)
    (case l0 => k_is)
    (case c0 => k_is)
    (case k0 => k_is)
    (case a1 => k_is)
    (case l1 => k_is)
    (case c1 => k_is)
    (case k1 => k_is)
    (case a2 => k_is)
    (case l2 => k_is)
    (case c2 => k_is)
    (case k2 => k_is)
    (case a3 => k_is)
    (case l3 => k_is)
    (case c3 => k_is)
    (case k3 => k_is)
    (case a4 => k_is)
    (case l4 => k_is)
    (case c4 => k_is)
    (case k4 => k_is)
    (case a5 => k_is)
    (case i5 => k_is)
    (case l5 => k_is)
    (case c5 => k_is)
    (case k5 => k_is)
    (case a6 => k_is)
    (case i6 => k_is)
    (case l6 => k_is)
    (case c6 => k_is)
    (case k6 => k_is)
    (case a7 => k_is)
    (case i7 => k_is)
    (case l7 => k_is)
    (case c7 => k_is)
    (case k7 => k_is)
    (case a8 => k_is)
    (case i8 => k_is)
    (case l8 => k_is)
    (case c8 => k_is)
    (case k8 => k_is)
    (case a9 => k_is)
    (case i9 => k_is)
    (case l9 => k_is)
    (case c9 => k_is)
    (case k9 => k_is)
    (case a10 => k_is)
    (case i10 => k_is)
    (case l10 => k_is)
    (case c10 => k_is)
    (case k10 => k_is)
    (case a11 => k_is)
    (case i11 => k_is)
    (case l11 => k_is)
    (case c11 => k_is)
    (case k11 => k_is)
    (case a12 => k_is)
    (case i12 => k_is)
    (case l12 => k_is)
    (case c12 => k_is)
    (case k12 => k_is)
    (case a13 => k_is)
    (case l13 => k_is)
    (case c13 => k_is)
    (case k13 => k_is)
    (case a14 => k_is)
    (case l14 => k_is)
    (case c14 => k_is)
    (case k14 => k_is)
    (case a15 => k_is)
    (case l15 => k_is)
    (case c15 => k_is)
    (case k15 => k_is)
    (case a16 => k_is)
    (case l16 => k_is)
    (case c16 => k_is)
    (case k16 => k_is)
    (case a17 => k_is)
    (case l17 => k_is)
    (case c17 => k_is)
    (case k17 => k_is)
    (case a18 => k_is)
    (case l18 => k_is)
    (case c18 => k_is)
    (case k18 => k_is)
    (case a19 => k_is)
    (case l19 => k_is)
    (case c19 => k_is)
    (case k19 => k_is)
    (case a20 => k_is)
    (case l20 => k_is)
    (case c20 => k_is)
    (case k20 => k_is)
    (case a21 => k_is)
    (case l21 => k_is)
    (case c21 => k_is)
    (case k21 => k_is)
    (case a22 => k_is)
    (case l22 => k_is)
    (case c22 => k_is)
    (case k22 => k_is)
    (case a23 => k_is)
    (case l23 => k_is)
    (case c23 => k_is)
    (case k23 => k_is)
    (case a24 => k_is)
    (case l24 => k_is)
    (case c24 => k_is)
    (case k24 => k_is)
    (case a25 => k_is)
    (case l25 => k_is)
    (case c25 => k_is)
    (case k25 => k_is)
    (case a26 => k_is)
    (case l26 => k_is)
    (case c26 => k_is)
    (case k26 => k_is)
    (case a27 => k_is)
    (case l27 => k_is)
    (case c27 => k_is)
    (case k27 => k_is)
    (case a28 => k_is)
    (case l28 => k_is)
    (case c28 => k_is)
    (case k28 => k_is)
    (case a29 => k_is)
    (case l29 => k_is)
    (case c29 => k_is)
    (case k29 => k_is)
    (case a30 => k_is)
    (case l30 => k_is)
    (case c30 => k_is)
    (case k30 => k_is)
    (case z_all => k_is)
    (case z_isinstance => k_is)
    (case z_len => k_is)
    (case z_list => k_is)
    (case z_range => k_is)
    (case z_str => k_is)
    (case z_tuple => k_is)
    (case y_BRACKET_MARKS => k_is)
    (case l_BRACKET_MARKS => k_is)
    (case h_BRACKET_MARKS => exact ⟨⟨_, _, rfl, rfl⟩, ⟨⟨_, _, rfl, rfl⟩, trivial⟩⟩)
    (case s_BRACKET_MARKS => rfl)
    (case p_BRACKET_MARKS => exact .cons ⟨⟨_, rfl⟩, ⟨_, rfl⟩⟩ (.cons ⟨⟨_, rfl⟩, ⟨_, rfl⟩⟩ (.nil)))
    (case y_BRACKET_WRITINGS => k_is)
    (case l_BRACKET_WRITINGS => k_is)
    (case h_BRACKET_WRITINGS => exact ⟨⟨_, _, rfl, rfl⟩, ⟨⟨_, _, rfl, rfl⟩, trivial⟩⟩)
    (case s_BRACKET_WRITINGS => rfl)
    (case p_BRACKET_WRITINGS => exact .cons ⟨⟨_, rfl⟩, ⟨_, rfl⟩⟩ (.cons ⟨⟨_, rfl⟩, ⟨_, rfl⟩⟩ (.nil)))
    (case y_LONGEST_NAME => k_is)
    (case y_MARK_WORDS => k_is)
    (case l_MARK_WORDS => k_is)
    (case h_MARK_WORDS => decide)
    (case p_MARK_WORDS => exact .cons ⟨_, rfl⟩ (.cons ⟨_, rfl⟩ (.cons ⟨_, rfl⟩ (.cons ⟨_, rfl⟩ (.cons ⟨_, rfl⟩ (.nil))))))
    (case y_NODE_LENGTHS => k_is)
    (case l_NODE_LENGTHS => k_is)
    (case h_NODE_LENGTHS => exact ⟨⟨_, _, rfl, rfl⟩, ⟨⟨_, _, rfl, rfl⟩, ⟨⟨_, _, rfl, rfl⟩, ⟨⟨_, _, rfl, rfl⟩, ⟨⟨_, _, rfl, rfl⟩, trivial⟩⟩⟩⟩⟩)
    (case s_NODE_LENGTHS => rfl)
    (case p_NODE_LENGTHS => exact .cons ⟨⟨_, rfl⟩, ⟨_, rfl⟩⟩ (.cons ⟨⟨_, rfl⟩, ⟨_, rfl⟩⟩ (.cons ⟨⟨_, rfl⟩, ⟨_, rfl⟩⟩ (.cons ⟨⟨_, rfl⟩, ⟨_, rfl⟩⟩ (.cons ⟨⟨_, rfl⟩, ⟨_, rfl⟩⟩ (.nil))))))
    (case y_SIGNS => k_is)
    (case e_SIGNS => decide +kernel)
    (case y_SMALL => k_is)
    (case e_SMALL => decide +kernel)
    (case kits => (exact True.intro))

