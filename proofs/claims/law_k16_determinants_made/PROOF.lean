import PyProof.Rows.All
import Wide.All
import OpenK.AllK
import Wide.FinOn
import Lean
import PyProof.EqAt
import PyProof.EqKinds
import PyProof.TupleCall
import PySem.Challenge.RW_marblerun_k16_determinants_made
set_option Elab.async false
set_option linter.all false
set_option maxRecDepth 100000
namespace L2
open PySem PySem.Spec PyProof.Rows

/-- a key: an int or a str -/
abbrev Key := Sum Int Str
def keyIs : Key → Value → Bool
  | .inl k, v => Value.isInt k v
  | .inr x, v => Value.isStrOf x v
def keyH (w : World) : Key → Int
  | .inl k => hashInt k
  | .inr x => hashStr w x
theorem keyIs_shape : ∀ {k : Key} {v : Value}, keyIs k v = true → (∃ i t, k = Sum.inl i ∧ v = Value.int i t) ∨ (∃ x t, k = Sum.inr x ∧ v = Value.str x t)
  | .inl i, v, h => by
    obtain ⟨t, e⟩ := Value.isInt_shape (k := i) (v := v) h
    exact .inl ⟨i, t, rfl, e⟩
  | .inr x, v, h => by
    obtain ⟨t, e⟩ := Value.isStrOf_shape (x := x) (v := v) h
    exact .inr ⟨x, t, rfl, e⟩
theorem key_ll (a b : Int) : decide ((Sum.inl a : Key) = Sum.inl b) = (a == b) := by
  by_cases e : a = b
  · subst e; simp
  · have h : ¬ (Sum.inl a : Key) = Sum.inl b := fun q => e (Sum.inl.inj q)
    rw [decide_eq_false h]
    exact (beq_eq_false_iff_ne.mpr e).symm
theorem key_rr (a b : Str) : decide ((Sum.inr a : Key) = Sum.inr b) = decide (a = b) := by
  by_cases e : a = b
  · subst e; simp
  · have h : ¬ (Sum.inr a : Key) = Sum.inr b := fun q => e (Sum.inr.inj q)
    rw [decide_eq_false h, decide_eq_false e]
theorem key_lr (a : Int) (b : Str) : decide ((Sum.inl a : Key) = Sum.inr b) = false := decide_eq_false (fun q => nomatch q)
theorem key_rl (a : Str) (b : Int) : decide ((Sum.inr a : Key) = Sum.inl b) = false := decide_eq_false (fun q => nomatch q)

def mixKind (prog : Program) (w : World) : PySem.KeyKind prog w Key where
  is := keyIs
  hash := keyH w
  inj := fun v a b ha hb => by
    rcases keyIs_shape ha with ⟨i, t, rfl, rfl⟩ | ⟨x, t, rfl, rfl⟩
    · rcases keyIs_shape hb with ⟨j, u, rfl, e⟩ | ⟨y, u, rfl, e⟩
      · injection e with e1 _; rw [e1]
      · exact nomatch e
    · rcases keyIs_shape hb with ⟨j, u, rfl, e⟩ | ⟨y, u, rfl, e⟩
      · exact nomatch e
      · injection e with e1 _; rw [e1]
  byValue := fun k v h => by
    rcases keyIs_shape h with ⟨i, t, rfl, rfl⟩ | ⟨x, t, rfl, rfl⟩ <;> rfl
  pyHash := fun hv h => by
    rcases keyIs_shape hv with ⟨i, t, rfl, rfl⟩ | ⟨x, t, rfl, rfl⟩
    · exact wpAny_pyHash_int h
    · exact wpAny_pyHash_str h
  eqBool := fun hu hv h => by
    rcases keyIs_shape hu with ⟨i, t, rfl, rfl⟩ | ⟨x, t, rfl, rfl⟩
    · rcases keyIs_shape hv with ⟨j, u, rfl, rfl⟩ | ⟨y, u, rfl, rfl⟩
      · rw [key_ll] at h; exact wpAny_eqBool_int h
      · rw [key_lr] at h; exact SeqAt.EqAt.int_str i t y u _ _ _ _ h
    · rcases keyIs_shape hv with ⟨j, u, rfl, rfl⟩ | ⟨y, u, rfl, rfl⟩
      · rw [key_rl] at h; exact SeqAt.EqAt.str_int x t j u _ _ _ _ h
      · rw [key_rr] at h; exact wpAny_eqBool_str h
  «strs» := fun k x t v h => by
    rcases keyIs_shape h with ⟨i, u, rfl, e⟩ | ⟨y, u, rfl, e⟩
    · exact nomatch e
    · injection e with e1 _
      subst e1
      cases v <;> rfl

end L2

namespace L2
open PySem PySem.Spec PyProof.Rows

/-- a value, without the heap -/
inductive V where
  | non | bl (b : Bool) | int (i : Int) | str (x : Str) | byt (b : Array UInt8) | flt (b : UInt64) | ref (a : Addr) | ty (n : String)
  deriving DecidableEq

def RelV : V → Value → Prop
  | .non, u => u = Value.none
  | .bl b, u => u = Value.bool b
  | .int i, u => ∃ t, u = Value.int i t
  | .str x, u => ∃ t, u = Value.str x t
  | .byt b, u => ∃ t, u = Value.bytes b t
  | .flt b, u => ∃ t, u = Value.float b t
  | .ref a, u => u = Value.ref a
  | .ty n, u => u = Value.type n

abbrev Vals : List V → List Value → Prop := Paired RelV
theorem Vals.length {xs : List V} {us : List Value} (r : Vals xs us) : xs.length = us.length := Paired.length r
theorem Vals.get : ∀ {xs : List V} {us : List Value} {i : Nat} {x : V}, Vals xs us → xs[i]? = some x → ∃ u, us[i]? = some u ∧ RelV x u
  | _, _, _, _, .nil, e => by simp at e
  | _, _, 0, _, .cons r _, e => by simp at e; subst e; exact ⟨_, rfl, r⟩
  | _, _, i + 1, x, .cons _ t, e => by
    obtain ⟨u, h1, h2⟩ := Vals.get (i := i) (x := x) t (by simpa using e)
    exact ⟨u, by simpa using h1, h2⟩
theorem Vals.set {x : V} {u : Value} (r : RelV x u) : ∀ {xs : List V} {us : List Value} (i : Nat), Vals xs us → Vals (xs.set i x) (us.set i u)
  | _, _, _, .nil => .nil
  | _, _, 0, .cons _ t => .cons r t
  | _, _, i + 1, .cons q t => .cons q (Vals.set r i t)
theorem Vals.append : ∀ {xs ys : List V} {us ws : List Value}, Vals xs us → Vals ys ws → Vals (xs ++ ys) (us ++ ws)
  | _, _, _, _, .nil, s => s
  | _, _, _, _, .cons r t, s => .cons r (Vals.append t s)
theorem Vals.take : ∀ {xs : List V} {us : List Value} (n : Nat), Vals xs us → Vals (xs.take n) (us.take n)
  | _, _, 0, _ => .nil
  | _, _, _ + 1, .nil => .nil
  | _, _, n + 1, .cons r t => .cons r (Vals.take n t)
theorem Vals.drop : ∀ {xs : List V} {us : List Value} (n : Nat), Vals xs us → Vals (xs.drop n) (us.drop n)
  | _, _, 0, r => r
  | _, _, _ + 1, .nil => .nil
  | _, _, n + 1, .cons _ t => Vals.drop n t
def RelO : Option V → Option Value → Prop
  | some v, some u => RelV v u
  | none, none => True
  | _, _ => False
def KV {κ : Type} : List (κ × V) → List (κ × Value) → Prop := Paired fun (p : κ × V) (q : κ × Value) => p.1 = q.1 ∧ RelV p.2 q.2

/-- a key of a dict (00_mix): an int or a text -/
def kV : Key → V
  | .inl i => .int i
  | .inr x => .str x

/-- what stands at a tracked address -/
inductive HO where
  /-- a list -/
  | lst (xs : List V)
  /-- a tuple (never changes) -/
  | tup (xs : List V)
  /-- a dict whose keys are ints and texts; one whose keys are tuples of ints and texts (the empty one is both) -/
  | dK (kvs : List (Key × V)) | dT (kvs : List (List Key × V))
  /-- a set of ints: its members, its size -/
  | set (S : Int → Bool) (n : Nat)
  /-- an instance of the class at C, its dict at dx, its attributes -/
  | ins (C dx : Addr) (fs : List (Str × V))
  /-- the dict of the instance at x -/
  | own (x : Addr)
  /-- the dict of an exception -/
  | xd (fs : List (Str × V))
  /-- a bound method, f of x -/
  | met (f x : Addr)
  /-- a range object lo, lo + 1, .. below hi -/
  | rng (lo hi : Int)
  /-- a thing that is known to the object (the script; a dict while a loop walks it): read, never written while it is so -/
  | frz (o : Obj) (u : HO)
  /-- a code object's table -/
  | tbl (ps : Array Value)
  /-- any other thing, by what is true of its one object (a def of one's own: SetO a S n := HO.ext fun h => ..) -/
  | ext (φ : Heap → Prop)

abbrev Hp := Addr → Option HO
def upd (H : Hp) (a : Addr) (o : HO) : Hp := fun b => if b = a then some o else H b
theorem upd_same {H : Hp} {a : Addr} {o : HO} : upd H a o a = some o := by unfold upd; rw [if_pos rfl]
theorem upd_ne {H : Hp} {a b : Addr} {o : HO} (h : b ≠ a) : upd H a o b = H b := by unfold upd; rw [if_neg h]
theorem upd_upd {H : Hp} {a : Addr} {o u : HO} : upd (upd H a o) a u = upd H a u := by
  funext b; unfold upd; split <;> rfl
theorem ne_of_none {H : Hp} {a b : Addr} {o : HO} (h : H a = some o) (h' : H b = none) : a ≠ b := by
  intro e; subst e; rw [h] at h'; cases h'

section
variable (P : Program) (w : World)
def ObjOk (H : Hp) (h : Heap) (a : Addr) : HO → Prop
  | .lst xs => xs.length ≤ sizeLine ∧ ∃ (its : List Value) (n : Nat), Vals xs its ∧ h.get? a = some { cls := .type "list", data := .seq its.toArray n }
  | .tup xs => xs.length ≤ sizeLine ∧ ∃ its : List Value, Vals xs its ∧ IsTup h a its.toArray
  | .dK kvs => kvs.length ≤ sizeLine ∧ (a == sysModules) = false ∧ ∃ vs, KV kvs vs ∧ h.DictOf (mixKind P w) a vs
  | .dT kvs => kvs.length ≤ sizeLine ∧ (a == sysModules) = false ∧ ∃ xs : List (List Key × Addr × Value),
      Paired (fun (p : List Key × V) (q : List Key × Addr × Value) => p.1 = q.1 ∧ H q.2.1 = some (.tup (p.1.map kV)) ∧ RelV p.2 q.2.2) kvs xs ∧
      ∃ o es ep, h.get? a = some o ∧ o.ExactDict ∧ o.data = .dict es ep ∧ es.toList = xs.map (entryOfKey (tupleKind (mixKind P w))) ∧ (xs.map (·.1)).Nodup
  | .set S n => h.SetOf (intKind P w) a S n
  | .ins C dx fs => H dx = some (.own a) ∧ fs.length ≤ 1000 ∧ dx ≠ a ∧ h.get? a = some (PySem.W.instObj C dx) ∧
      ∃ mA, h.Ns1 dx mA ∧ (∀ f, RelO (fs.lookup f) (mA f)) ∧ PySem.Within mA (fs.map (·.1))
  | .own _ => ∃ o, h.get? a = some o
  | .xd fs => ∃ mA, h.Ns1 a mA ∧ ∀ f, RelO (fs.lookup f) (mA f)
  | .rng lo hi => ∃ t u v, h.get? a = some { cls := .type "range", data := .fields #[.int lo t, .int hi u, .int 1 v] }
  | .frz o u => h.get? a = some o ∧ ObjOk H h a u
  | .tbl ps => h.get? a = some { cls := .none, data := .fields ps }
  | .met f x => h.get? a = some (PySem.W.methodObj (.ref f) (.ref x))
  | .ext φ => φ h ∧ (∃ o, h.get? a = some o) ∧ ∀ h1 h2 : Heap, φ h1 → (∀ o, h1.get? a = some o → h2.get? a = some o) → φ h2
/-- the abstract heap is held -/
def HOk (H : Hp) (h : Heap) : Prop := ∀ a o, H a = some o → ObjOk P w H h a o
end

section
variable {P : Program} {w : World} {H H' : Hp} {h h' : Heap} {a : Addr} {o : HO}
theorem ObjOk.lt (x : ObjOk P w H h a o) : a < h.objs.size := by
  cases o with
  | lst xs => obtain ⟨_, _, _, _, e⟩ := x; exact Heap.lt_size e
  | tup xs => obtain ⟨_, _, _, p⟩ := x; exact p.lt
  | dK kvs => obtain ⟨_, _, _, _, o, _, _, e, _⟩ := x; exact Heap.lt_size e
  | dT kvs => obtain ⟨_, _, _, _, o, _, _, e, _⟩ := x; exact Heap.lt_size e
  | set S n => obtain ⟨o, _, _, _, e, _⟩ := x; exact Heap.lt_size e
  | ins C dx fs => obtain ⟨_, _, _, e, _⟩ := x; exact Heap.lt_size e
  | own y => obtain ⟨_, e⟩ := x; exact Heap.lt_size e
  | xd fs => obtain ⟨_, ⟨_, _, _, e, _⟩, _⟩ := x; exact Heap.lt_size e
  | rng lo hi => obtain ⟨_, _, _, e⟩ := x; exact Heap.lt_size e
  | frz ob u => obtain ⟨e, _⟩ := x; exact Heap.lt_size e
  | tbl ps => exact Heap.lt_size (show h.get? a = some _ from x)
  | met f y => exact Heap.lt_size (show h.get? a = some _ from x)
  | ext φ => obtain ⟨_, ⟨_, e⟩, _⟩ := x; exact Heap.lt_size e
theorem Paired.mapP {α β : Type} {F G : α → β → Prop} : ∀ {l₁ : List α} {l₂ : List β}, Paired F l₁ l₂ → (∀ a b, F a b → G a b) → Paired G l₁ l₂
  | _, _, .nil, _ => .nil
  | _, _, .cons r t, f => .cons (f _ _ r) (Paired.mapP t f)
/-- what an object's description leans on: its own object, its own dict, the tuples -/
theorem ObjOk.stay (x : ObjOk P w H h a o) (k : ∀ b u, (b = a ∨ H b = some (.own a)) → h.get? b = some u → h'.get? b = some u)
    (ho : ∀ b, H b = some (.own a) → H' b = some (.own a)) (ht : ∀ b xs, H b = some (.tup xs) → H' b = some (.tup xs)) : ObjOk P w H' h' a o := by
  induction o with
  | lst xs => obtain ⟨z, its, n, r, e⟩ := x; exact ⟨z, its, n, r, k _ _ (.inl rfl) e⟩
  | tup xs => obtain ⟨z, its, r, ob, e, c⟩ := x; exact ⟨z, its, r, ob, k _ _ (.inl rfl) e, c⟩
  | dK kvs => obtain ⟨z, y, vs, r, ob, es, ep, e, c⟩ := x; exact ⟨z, y, vs, r, ob, es, ep, k _ _ (.inl rfl) e, c⟩
  | dT kvs =>
    obtain ⟨z, y, xs, r, ob, es, ep, e, c⟩ := x
    exact ⟨z, y, xs, Paired.mapP r fun p q z => ⟨z.1, ht _ _ z.2.1, z.2.2⟩, ob, es, ep, k _ _ (.inl rfl) e, c⟩
  | set S n => obtain ⟨ob, es, ep, t, e, c⟩ := x; exact ⟨ob, es, ep, t, k _ _ (.inl rfl) e, c⟩
  | ins C dx fs =>
    obtain ⟨d, z, ne, e, mA, ⟨od, es, ep, e2, c⟩, r⟩ := x
    exact ⟨ho _ d, z, ne, k _ _ (.inl rfl) e, mA, ⟨od, es, ep, k _ _ (.inr d) e2, c⟩, r⟩
  | own y => obtain ⟨ob, e⟩ := x; exact ⟨ob, k _ _ (.inl rfl) e⟩
  | xd fs => obtain ⟨mA, ⟨od, es, ep, e, c⟩, r⟩ := x; exact ⟨mA, ⟨od, es, ep, k _ _ (.inl rfl) e, c⟩, r⟩
  | rng lo hi => obtain ⟨t, u, v, e⟩ := x; exact ⟨t, u, v, k _ _ (.inl rfl) e⟩
  | frz ob u ih => obtain ⟨e, q⟩ := x; exact ⟨k _ _ (.inl rfl) e, ih q⟩
  | tbl ps =>
    have e : h.get? a = some { cls := .none, data := .fields ps } := x
    show h'.get? a = some { cls := .none, data := .fields ps }
    exact k a _ (.inl rfl) e
  | met f y =>
    have e : h.get? a = some (PySem.W.methodObj (.ref f) (.ref y)) := x
    show h'.get? a = some (PySem.W.methodObj (.ref f) (.ref y))
    exact k a _ (.inl rfl) e
  | ext φ => obtain ⟨p, ⟨o, e⟩, st⟩ := x; exact ⟨st _ _ p fun o q => k _ _ (.inl rfl) q, ⟨o, k _ _ (.inl rfl) e⟩, st⟩
theorem HOk.lt (x : HOk P w H h) (e : H a = some o) : a < h.objs.size := (x a o e).lt
theorem HOk.fresh (x : HOk P w H h) (e : h.objs.size ≤ a) : H a = none := by
  cases q : H a with
  | none => rfl
  | some u => exact absurd (Nat.lt_of_lt_of_le (x.lt q) e) (Nat.lt_irrefl _)
/-- every object of the heap is kept -/
theorem HOk.kept (x : HOk P w H h) (k : ∀ b u, h.get? b = some u → h'.get? b = some u) : HOk P w H h' := fun a o e =>
  (x a o e).stay (fun b u _ q => k b u q) (fun _ q => q) fun _ _ q => q
/-- a new object is laid and tracked -/
theorem HOk.laid (x : HOk P w H h) (k : ∀ b u, h.get? b = some u → h'.get? b = some u) (hp : h.objs.size ≤ a) (new : ObjOk P w (upd H a o) h' a o) : HOk P w (upd H a o) h' := fun b u e => by
  have hn := x.fresh hp
  by_cases hb : b = a
  · subst hb; rw [upd_same] at e; cases e; exact new
  · rw [upd_ne hb] at e
    exact (x b u e).stay (fun c v _ q => k c v q) (fun c q => by rw [upd_ne (ne_of_none q hn)]; exact q) fun c xs q => by rw [upd_ne (ne_of_none q hn)]; exact q
end

/-- what may be read as u: it is u, or a known u -/
def Rd (H : Hp) (a : Addr) (u : HO) : Prop := H a = some u ∨ ∃ o, H a = some (.frz o u)
theorem Rd.ok {P : Program} {w : World} {H : Hp} {h : Heap} {a : Addr} {u : HO} (r : Rd H a u) (x : HOk P w H h) : ObjOk P w H h a u := by
  rcases r with r | ⟨o, r⟩
  · exact x a u r
  · obtain ⟨_, q⟩ := x a _ r
    exact q
/-- what may be written -/
def Mut : Option HO → Prop
  | some (.lst _) => True
  | some (.dK _) => True
  | some (.dT _) => True
  | some (.set _ _) => True
  | some (.ins _ _ _) => True
  | some (.ext _) => True
  | _ => False
section
variable {P : Program} {w : World} {H : Hp} {h h' : Heap} {x e : Addr} {o' : HO}
/-- the object at e is changed: x itself, or the dict of the instance x -/
theorem HOk.write (ok : HOk P w H h) (mu : Mut (H x)) (he : e = x ∨ H e = some (.own x)) (k : ∀ b u, b ≠ e → h.get? b = some u → h'.get? b = some u) (heo : ∃ u, h'.get? e = some u)
    (new : ObjOk P w (upd H x o') h' x o') : HOk P w (upd H x o') h' := fun b u q => by
  have nown : ∀ c y, H c = some (.own y) → c ≠ x := fun c y r z => by subst z; rw [r] at mu; exact mu
  have ntup : ∀ c xs, H c = some (.tup xs) → c ≠ x := fun c xs r z => by subst z; rw [r] at mu; exact mu
  by_cases hb : b = x
  · subst hb; rw [upd_same] at q; cases q; exact new
  · rw [upd_ne hb] at q
    by_cases hbe : b = e
    · have q' : H b = some (.own x) := by
        rcases he with z | z
        · exact absurd (hbe.trans z) hb
        · rw [hbe]; exact z
      rw [q] at q'; cases q'
      obtain ⟨v, hv⟩ := heo
      exact ⟨v, by rw [hbe]; exact hv⟩
    · refine (ok b u q).stay (fun c v hc r => k c v ?_ r) (fun c r => by rw [upd_ne (nown c b r)]; exact r) fun c xs r => by rw [upd_ne (ntup c xs r)]; exact r
      rcases hc with rfl | hc
      · exact hbe
      · rintro rfl
        rcases he with z | z
        · exact nown c b hc z
        · rw [hc] at z; cases z; exact hb rfl
end

structure Un (fs ex : List Addr) (H H' : Hp) (h h' : Heap) : Prop where
  keep : ∀ b o, h.get? b = some o → H b = none → b ∉ fs → b ∉ ex → h'.get? b = some o
  slot : ∀ b o, h.get? b = some o → H b = none → b ∈ fs → b ∉ ex → ∃ sl, h'.get? b = some { o with slots := sl }
  free : ∀ b o, h.get? b = some o → H b = none → b ∉ ex → H' b = none
  there : ∀ b o, h.get? b = some o → b ∉ ex → ∃ o', h'.get? b = some o'
  tups : ∀ b xs, H b = some (.tup xs) → H' b = some (.tup xs)
  frzs : ∀ b o u, H b = some (.frz o u) → H' b = some (.frz o u)
  tbls : ∀ b ps, H b = some (.tbl ps) → ∃ more, H' b = some (.tbl (ps ++ more))
section
variable {fs fs' ex ex' : List Addr} {H H1 H2 : Hp} {h h1 h2 h' : Heap} {a x e : Addr} {o : HO}
theorem Un.any (u : Un fs ex H H1 h h1) {b : Addr} {ob : Obj} (q : h.get? b = some ob) (n : H b = none) (hx : b ∉ ex) : ∃ sl, h1.get? b = some { ob with slots := sl } := by
  by_cases hb : b ∈ fs
  · exact u.slot b ob q n hb hx
  · exact ⟨ob.slots, u.keep b ob q n hb hx⟩
theorem Un.kept (k : ∀ b u, h.get? b = some u → h'.get? b = some u) : Un fs ex H H h h' :=
  ⟨fun b ob q _ _ _ => k b ob q, fun b ob q _ _ _ => ⟨ob.slots, k b ob q⟩, fun _ _ _ n _ => n, fun b ob q _ => ⟨ob, k b ob q⟩, fun _ _ q => q, fun _ _ _ q => q, fun _ ps q => ⟨#[], by rw [q]; simp⟩⟩
theorem Un.refl : Un fs ex H H h h := Un.kept fun _ _ q => q
theorem Un.laid (k : ∀ b u, h.get? b = some u → h'.get? b = some u) (hp : h.objs.size ≤ a) (hn : H a = none) : Un fs ex H (upd H a o) h h' where
  keep := fun b u q _ _ _ => k b u q
  slot := fun b u q _ _ _ => ⟨u.slots, k b u q⟩
  free := fun b u q n _ => by rw [upd_ne (Nat.ne_of_lt (Nat.lt_of_lt_of_le (Heap.lt_size q) hp))]; exact n
  there := fun b u q _ => ⟨u, k b u q⟩
  tups := fun b xs q => by rw [upd_ne (ne_of_none q hn)]; exact q
  frzs := fun b u xs q => by rw [upd_ne (ne_of_none q hn)]; exact q
  tbls := fun b ps q => ⟨#[], by rw [upd_ne (ne_of_none q hn), q]; simp⟩
theorem Un.write (mu : Mut (H x)) (he : e = x ∨ H e = some (.own x)) (k : ∀ b u, b ≠ e → h.get? b = some u → h'.get? b = some u) (heo : ∃ u, h'.get? e = some u) : Un fs ex H (upd H x o) h h' := by
  have hx : ∀ b, H b = none → b ≠ x := fun b n z => by subst z; rw [n] at mu; exact mu
  have hb : ∀ b, H b = none → b ≠ e := fun b n z => by
    subst z
    rcases he with r | r
    · exact hx b n r
    · rw [n] at r; cases r
  have hm : ∀ b u, H b = some u → ¬ Mut (some u) → b ≠ x := fun b u q nm z => by subst z; rw [q] at mu; exact nm mu
  refine ⟨fun b u q n _ _ => k b u (hb b n) q, fun b u q n _ _ => ⟨u.slots, k b u (hb b n) q⟩, fun b u q n _ => by rw [upd_ne (hx b n)]; exact n, fun b u q _ => ?_,
    fun b xs q => by rw [upd_ne (hm b _ q fun z => z)]; exact q, fun b u xs q => by rw [upd_ne (hm b _ q fun z => z)]; exact q, fun b ps q => ⟨#[], by rw [upd_ne (hm b _ q fun z => z), q]; simp⟩⟩
  by_cases hbe : b = e
  · subst hbe; exact heo
  · exact ⟨u, k b u hbe q⟩
end

def trk (h : Heap) (H : Hp) : List Addr := (List.range h.objs.size).filter fun a => (H a).isSome
def hidT (h : Heap) (H : Hp) : Heap := PySem.W.hideAll h (trk h H)
theorem hidT_size (h : Heap) (H : Hp) : (hidT h H).objs.size = h.objs.size := PySem.W.hideAll_size _ _
theorem hidT_get {h : Heap} {H : Hp} {b : Addr} {o : Obj} (e : h.get? b = some o) (n : H b = none) : (hidT h H).get? b = some o :=
  PySem.W.hideAll_get _ e fun hm => by
    have q : (H b).isSome = true := (List.mem_filter.mp hm).2
    rw [n] at q; simp at q
theorem of_hidT {h : Heap} {H : Hp} {b : Addr} {o : Obj} (e : (hidT h H).get? b = some o) : h.get? b = some o ∧ H b = none := by
  have e' : h.get? b = some o := PySem.W.of_hideAll (trk h H) e
  refine ⟨e', ?_⟩
  cases q : H b with
  | none => rfl
  | some x =>
    have hm : b ∈ trk h H := List.mem_filter.mpr ⟨List.mem_range.mpr (Heap.lt_size e'), by simp [q]⟩
    have z : (hidT h H).get? b = none := PySem.W.hideAll_none (trk h H) hm
    rw [z] at e; cases e

end L2

namespace L2
open PySem PySem.Spec PyProof.Rows

/-- the module's facts, over the base: the heap at the law's entry without what is tracked there -/
structure Mod (K : PySem.W.Frag) (mg : Str → Option Value) (base : Heap) : Prop where
  kin : K.In base
  glob : base.Ns mainGlobals mg
  blt : ∃ mb, base.Ns builtinsNs mb ∧ ∀ x : Str, x ≠ "__name__" → mb x = bootBuiltins x
  nolimit : base.NoLimit

/-- the context: a def's body (or a comprehension's block) running. base: fixed through the whole law; s₀, H₀: the entry; outer: the frames whose slots others may change (a def's callers); stack: all frames that run;
   ex: iterators that were made ahead of the entry and are walked here (a comprehension's); fn: the names whose cells were made at the entry (a def: all; a comprehension's block: its own); calm: not within an except suite; pn: pins that every state bears; xe: what is wanted of an exception that leaves the code -/
structure Cx where
  prog : Program
  w : World
  K : PySem.W.Frag
  mg : Str → Option Value
  base : Heap
  A : Around
  N : List Str
  s₀ : Shared
  H₀ : Hp
  env : Env
  outer : List Env
  stack : List Env
  ex : List Addr
  fn : Str → Bool
  calm : Bool
  pn : List (Addr × Obj)
  xe : Value → Shared → Prop
/-- the callers' frames -/
def frs (l : List Env) : List Addr := l.filterMap (·.frame)
abbrev Cx.fs (X : Cx) : List Addr := frs X.outer

def Vis (sc : Scope) (x : Str) : Prop := sc.names.lookup x = some .local ∨ sc.names.lookup x = some .cell ∨ sc.names.lookup x = some .free
def Loc (sc : Scope) (x : Str) : Prop := sc.names.lookup x = some .local ∨ sc.names.lookup x = some .cell
def Look (env : Env) (h : Heap) (m : Str → Option Value) (x : Str) (u : Value) : Prop :=
  (env.kindOf x = some .local ∧ m x = some u) ∨ ((env.kindOf x = some .cell ∨ env.kindOf x = some .free) ∧ ∃ c, env.cells.lookup x = some c ∧ h.IsCell c (some u))

structure Cx.Ok (X : Cx) : Prop where
  mod : Mod X.K X.mg X.base
  kind : X.env.scope.kind = .function
  glob : X.env.globals = mainGlobals
  blt : X.env.builtins = builtinsNs
  above : X.s₀.heap.objs.size ≤ X.env.locals
  inj : ∀ x y c, X.env.cells.lookup x = some c → X.env.cells.lookup y = some c → x = y
  has : ∀ x, (X.env.kindOf x = some .cell ∨ X.env.kindOf x = some .free) → ∃ c, X.env.cells.lookup x = some c
  cab : ∀ x c, X.fn x = true → X.env.cells.lookup x = some c → X.s₀.heap.objs.size ≤ c
  hd : X.calm = true → X.A.handled = none
  frames : X.A.frames = some X.stack
  stk : X.stack = X.outer ∨ (X.stack = X.env :: X.outer ∧ X.env.frame = some X.env.locals)
  exf : ∀ b ∈ X.ex, b ≠ X.env.locals ∧ ∀ x c, X.env.cells.lookup x = some c → c ≠ b
  bs : ∀ b o, X.base.get? b = some o → X.s₀.heap.get? b = some o ∧ X.H₀ b = none
  bsz : X.base.objs.size ≤ X.s₀.heap.objs.size
  noex : ∀ b o, X.base.get? b = some o → b ∉ X.ex
  exfs : ∀ b ∈ X.ex, b ∉ X.fs
  funs : X.s₀.heap.FunFrames X.base X.outer
  frf : ∀ b ∈ X.fs, X.H₀ b = none

structure Inv (X : Cx) (pins : List (Addr × Obj)) (σ : List (Option V)) (H : Hp) (s : Shared) : Prop where
  ok : X.Ok
  os : s.os = X.s₀.os
  bare : AllBare s.gens
  base : Un X.fs X.ex X.H₀ H X.s₀.heap s.heap
  loc : ∃ m, s.heap.Ns X.env.locals m ∧ ∀ (i : Nat) (x : Str) (v : V), X.N[i]? = some x → σ[i]? = some (some v) → Vis X.env.scope x → ∃ u, RelV v u ∧ Look X.env s.heap m x u
  cell : ∀ x c, X.env.cells.lookup x = some c → ∃ v, s.heap.IsCell c v
  free : H X.env.locals = none
  freeC : ∀ x c, X.env.cells.lookup x = some c → H c = none
  pin : ∀ p ∈ X.pn ++ pins, s.heap.get? p.1 = some p.2 ∧ H p.1 = none ∧ p.1 ≠ X.env.locals ∧ p.1 ∉ X.fs ∧ ∀ v, p.2.data ≠ .cell v
  hok : HOk X.prog X.w H s.heap
  len : σ.length = X.N.length

section
variable {X : Cx} {pins : List (Addr × Obj)} {σ : List (Option V)} {H H' : Hp} {s : Shared} {h' : Heap}

theorem Cx.Ok.nofr (ok : X.Ok) {b : Addr} {o : Obj} (e : X.base.get? b = some o) : b ∉ X.fs := fun hb => by
  have := (ok.funs.mem hb).1
  rw [e] at this; cases this
theorem Inv.bs (I : Inv X pins σ H s) : ∀ b o, X.base.get? b = some o → s.heap.get? b = some o ∧ H b = none := fun b o e =>
  ⟨I.base.keep b o (I.ok.bs b o e).1 (I.ok.bs b o e).2 (I.ok.nofr e) (I.ok.noex b o e), I.base.free b o (I.ok.bs b o e).1 (I.ok.bs b o e).2 (I.ok.noex b o e)⟩
theorem Inv.bk (I : Inv X pins σ H s) : ∀ b o, X.base.get? b = some o → s.heap.get? b = some o := fun b o e => (I.bs b o e).1
theorem Inv.mod (I : Inv X pins σ H s) : Mod X.K X.mg X.base := I.ok.mod
theorem Inv.kIn (I : Inv X pins σ H s) : X.K.In s.heap := I.ok.mod.kin.keeps I.bk
theorem Inv.lt (I : Inv X pins σ H s) : X.env.locals < s.heap.objs.size := let ⟨_, hn, _⟩ := I.loc; hn.lt
theorem Inv.sz (I : Inv X pins σ H s) : X.s₀.heap.objs.size ≤ s.heap.objs.size := Nat.le_trans I.ok.above (Nat.le_of_lt I.lt)
theorem Inv.nofs (I : Inv X pins σ H s) {a : Addr} (h : s.heap.objs.size ≤ a) : a ∉ X.fs := fun hb => by
  obtain ⟨_, o, ho, _⟩ := I.ok.funs.mem hb
  exact absurd (Nat.lt_of_lt_of_le (Heap.lt_size ho) (Nat.le_trans I.sz h)) (Nat.lt_irrefl _)
theorem Inv.cne (I : Inv X pins σ H s) : ∀ x c, X.env.cells.lookup x = some c → c ≠ X.env.locals := fun x c e z => by
  obtain ⟨v, o, ho, hd⟩ := I.cell x c e
  obtain ⟨m, ⟨o', es, ep, ho', hd', _⟩, _⟩ := I.loc
  rw [z, ho'] at ho; cases ho; rw [hd'] at hd; cases hd
theorem Inv.funs (I : Inv X pins σ H s) : s.heap.FunFrames X.base X.outer := by
  have all : ∀ (l : List Env), (∀ b ∈ frs l, b ∈ X.fs) → X.s₀.heap.FunFrames X.base l → s.heap.FunFrames X.base l := by
    intro l
    induction l with
    | nil => intro _ _; trivial
    | cons env r ih =>
      intro hs hl
      obtain ⟨hk, ⟨L, o, hf, hn, ho, hd⟩, hr⟩ := hl
      have hL : L ∈ X.fs := hs L (by unfold frs; rw [List.filterMap_cons, hf]; exact List.mem_cons_self)
      obtain ⟨sl, e⟩ := I.base.slot L o ho (I.ok.frf L hL) hL fun z => I.ok.exfs L z hL
      exact ⟨hk, ⟨L, _, hf, hn, e, hd⟩, ih (fun b hb => hs b (by unfold frs; rw [List.filterMap_cons, hf]; exact List.mem_cons_of_mem _ hb)) hr⟩
  exact all X.outer (fun _ hb => hb) I.ok.funs

/-- the frames that run, for a call -/
theorem Inv.stack (I : Inv X pins σ H s) : s.heap.FunFrames X.base X.stack := by
  rcases I.ok.stk with e | ⟨e, hf⟩
  · rw [e]; exact I.funs
  · rw [e]
    obtain ⟨m, hn, _⟩ := I.loc
    refine .cons (by rw [I.ok.kind]; decide) hf hn ?_ I.funs
    exact Heap.get?_none_of_le (Nat.le_trans I.ok.bsz I.ok.above)
theorem Inv.stkSub (I : Inv X pins σ H s) : ∀ b ∈ frs X.stack, b ∈ X.env.locals :: X.fs := fun b hb => by
  rcases I.ok.stk with e | ⟨e, hf⟩
  · rw [e] at hb; exact List.mem_cons_of_mem _ hb
  · rw [e] at hb
    unfold frs at hb
    rw [List.filterMap_cons, hf] at hb
    exact hb
theorem Inv.stkFree (I : Inv X pins σ H s) : ∀ b ∈ frs X.stack, H b = none := fun b hb => by
  rcases List.mem_cons.mp (I.stkSub b hb) with e | hb
  · rw [e]; exact I.free
  · obtain ⟨_, o, ho, _⟩ := I.ok.funs.mem hb
    exact I.base.free b o ho (I.ok.frf b hb) fun z => I.ok.exfs b z hb

/-- THE STEP: the untracked objects but the frame and the records at ch are kept (the callers' frames up to slots), the frame's map is kept, the new abstract heap is held -/
theorem Inv.step {g' : Array GenState} {t' : Nat} {d' : Drawn} {ch : List Addr} (I : Inv X pins σ H s)
    (hch : ∀ b ∈ ch, (b ∈ X.ex ∨ X.s₀.heap.objs.size ≤ b) ∧ b ≠ X.env.locals ∧ (∀ x c, X.env.cells.lookup x = some c → c ≠ b) ∧ ∀ p ∈ X.pn ++ pins, p.1 ≠ b)
    (keep : ∀ b o, b ≠ X.env.locals → b ∉ X.fs → b ∉ ch → s.heap.get? b = some o → H b = none → h'.get? b = some o)
    (slot : ∀ b o, b ≠ X.env.locals → b ∈ X.fs → b ∉ ch → s.heap.get? b = some o → H b = none → ∃ sl, h'.get? b = some { o with slots := sl }) (free : ∀ b o, b ∉ ch → s.heap.get? b = some o → H b = none → H' b = none)
    (there : ∀ b o, b ∉ ch → s.heap.get? b = some o → ∃ o', h'.get? b = some o')
    (tups : ∀ b xs, H b = some (.tup xs) → H' b = some (.tup xs)) (frzs : ∀ b o u, H b = some (.frz o u) → H' b = some (.frz o u)) (tbls : ∀ b ps, H b = some (.tbl ps) → ∃ more, H' b = some (.tbl (ps ++ more)))
    (ns : ∀ m, s.heap.Ns X.env.locals m → h'.Ns X.env.locals m) (hok : HOk X.prog X.w H' h') (hg : AllBare g') :
    Inv X pins σ H' { s with heap := h', gens := g', drawn := d', toks := t' } := by
  have neL : ∀ b o, X.s₀.heap.get? b = some o → b ≠ X.env.locals := fun b o e => Nat.ne_of_lt (Nat.lt_of_lt_of_le (Heap.lt_size e) I.ok.above)
  have neC : ∀ b o, X.s₀.heap.get? b = some o → b ∉ X.ex → b ∉ ch := fun b o e hx hb => by
    rcases (hch b hb).1 with z | z
    · exact hx z
    · exact absurd (Nat.lt_of_lt_of_le (Heap.lt_size e) z) (Nat.lt_irrefl _)
  have cellK : ∀ x c, X.env.cells.lookup x = some c → ∀ v, s.heap.IsCell c v → h'.IsCell c v := fun x c e v ⟨o, ho, hd⟩ => by
    have nch : c ∉ ch := fun z => (hch c z).2.2.1 x c e rfl
    by_cases hc : c ∈ X.fs
    · obtain ⟨sl, q⟩ := slot c o (I.cne x c e) hc nch ho (I.freeC x c e)
      exact ⟨_, q, hd⟩
    · exact ⟨o, keep c o (I.cne x c e) hc nch ho (I.freeC x c e), hd⟩
  refine ⟨I.ok, I.os, hg, ⟨fun b o e n hb hx => ?_, fun b o e n hb hx => ?_, fun b o e n hx => ?_, fun b o e hx => ?_, fun b xs e => tups b xs (I.base.tups b xs e), fun b o xs e => frzs b o xs (I.base.frzs b o xs e), fun b ps e => ?_⟩, ?_, fun x c e => ?_, ?_, fun x c e => ?_, fun p hp => ?_, hok, I.len⟩
  · exact keep b o (neL b o e) hb (neC b o e hx) (I.base.keep b o e n hb hx) (I.base.free b o e n hx)
  · obtain ⟨sl, e1⟩ := I.base.slot b o e n hb hx
    obtain ⟨sl', e2⟩ := slot b _ (neL b o e) hb (neC b o e hx) e1 (I.base.free b o e n hx)
    exact ⟨sl', e2⟩
  · obtain ⟨o', e1⟩ := I.base.there b o e hx
    exact free b o' (neC b o e hx) e1 (I.base.free b o e n hx)
  · obtain ⟨o', e1⟩ := I.base.there b o e hx
    exact there b o' (neC b o e hx) e1
  · obtain ⟨m1, e1⟩ := I.base.tbls b ps e
    obtain ⟨m2, e2⟩ := tbls b _ e1
    exact ⟨m1 ++ m2, by rw [e2, Array.append_assoc]⟩
  · obtain ⟨m, hn, hl⟩ := I.loc
    refine ⟨m, ns m hn, fun i x v e1 e2 e3 => ?_⟩
    obtain ⟨u, r, l⟩ := hl i x v e1 e2 e3
    refine ⟨u, r, ?_⟩
    rcases l with l | ⟨k, c, e, z⟩
    · exact .inl l
    · exact .inr ⟨k, c, e, cellK x c e _ z⟩
  · obtain ⟨v, z⟩ := I.cell x c e
    exact ⟨v, cellK x c e v z⟩
  · obtain ⟨m, ⟨o, _, _, ho, _⟩, _⟩ := I.loc
    exact free _ o (fun z => (hch _ z).2.1 rfl) ho I.free
  · obtain ⟨v, o, ho, hd⟩ := I.cell x c e
    exact free c o (fun z => (hch c z).2.2.1 x c e rfl) ho (I.freeC x c e)
  · obtain ⟨e, n, ne, nf, d⟩ := I.pin p hp
    have nch : p.1 ∉ ch := fun z => (hch p.1 z).2.2.2 p hp rfl
    exact ⟨keep p.1 p.2 ne nf nch e n, free p.1 p.2 nch e n, ne, nf, d⟩
/-- .. where the frame's own object is kept too -/
theorem Inv.un {t' : Nat} (I : Inv X pins σ H s) (u : Un X.fs [] H H' s.heap h') (hok : HOk X.prog X.w H' h') : Inv X pins σ H' { s with heap := h', toks := t' } := by
  obtain ⟨m, ⟨o, es, ep, ho, r⟩, _⟩ := id I.loc
  obtain ⟨sl, hL⟩ := u.any ho I.free (by simp)
  exact I.step (g' := s.gens) (d' := s.drawn) (ch := []) (fun _ z => nomatch z) (fun b o _ hb _ e n => u.keep b o e n hb (by simp)) (fun b o _ hb _ e n => u.slot b o e n hb (by simp)) (fun b o _ e n => u.free b o e n (by simp)) (fun b o _ e => u.there b o e (by simp)) u.tups u.frzs u.tbls (fun m' hm => by
    obtain ⟨o', es', ep', ho', r'⟩ := hm
    rw [ho] at ho'; cases ho'
    exact ⟨_, es', ep', hL, r'⟩) hok I.bare
/-- behind a call (or a comprehension's block): the slots of this frame may have changed too, the records at ch may have turned -/
theorem Inv.call {g' : Array GenState} {t' : Nat} {d' : Drawn} {ch : List Addr} (I : Inv X pins σ H s) (u : Un (frs X.stack) ch H H' s.heap h') (hok : HOk X.prog X.w H' h') (hg : AllBare g')
    (hch : ∀ b ∈ ch, (b ∈ X.ex ∨ X.s₀.heap.objs.size ≤ b) ∧ b ≠ X.env.locals ∧ (∀ x c, X.env.cells.lookup x = some c → c ≠ b) ∧ ∀ p ∈ X.pn ++ pins, p.1 ≠ b) :
    Inv X pins σ H' { s with heap := h', gens := g', drawn := d', toks := t' } := by
  obtain ⟨m, ⟨o, es, ep, ho, r⟩, _⟩ := id I.loc
  obtain ⟨sl, hL⟩ := u.any ho I.free fun z => (hch _ z).2.1 rfl
  exact I.step (ch := ch) hch (fun b o hL hb hc e n => u.keep b o e n (fun z => (List.mem_cons.mp (I.stkSub b z)).elim hL hb) hc) (fun b o _ _ hc e n => u.any e n hc) (fun b o hc e n => u.free b o e n hc) (fun b o hc e => u.there b o e hc) u.tups u.frzs u.tbls (fun m' hm => by
    obtain ⟨o', es', ep', ho', r'⟩ := hm
    rw [ho] at ho'; cases ho'
    exact ⟨_, es', ep', hL, r'⟩) hok hg
/-- an untracked record of ours (an iterator) has turned -/
theorem Inv.turned {t' : Nat} {it : Addr} (I : Inv X pins σ H s) (k : ∀ b o, b ≠ it → s.heap.get? b = some o → h'.get? b = some o) (hn : H it = none) (hL : it ≠ X.env.locals)
    (h1 : it ∈ X.ex ∨ X.s₀.heap.objs.size ≤ it) (h2 : ∀ x c, X.env.cells.lookup x = some c → c ≠ it) (h3 : ∀ p ∈ X.pn ++ pins, p.1 ≠ it) : Inv X pins σ H { s with heap := h', toks := t' } := by
  have nit : ∀ b u, H b = some u → b ≠ it := fun b u e z => by rw [z, hn] at e; cases e
  refine I.step (g' := s.gens) (d' := s.drawn) (ch := [it]) (fun b hb => ?_) (fun b o _ _ hc e _ => k b o (fun z => hc (by simp [z])) e) (fun b o _ _ hc e _ => ⟨o.slots, k b o (fun z => hc (by simp [z])) e⟩) (fun _ _ _ _ n => n)
    (fun b o hc e => ⟨o, k b o (fun z => hc (by simp [z])) e⟩) (fun _ _ e => e) (fun _ _ _ e => e) (fun b ps e => ⟨#[], by rw [e]; simp⟩) (fun m hm => ?_) (fun b u e => ?_) I.bare
  · have e : b = it := by simpa using hb
    subst e
    exact ⟨h1, hL, h2, h3⟩
  · obtain ⟨o, es, ep, ho, r⟩ := hm
    exact ⟨o, es, ep, k _ o (Ne.symm hL) ho, r⟩
  · refine (I.hok b u e).stay (fun c v hc q => k c v ?_ q) (fun _ q => q) fun _ _ q => q
    rcases hc with z | z
    · rw [z]; exact nit b u e
    · exact nit c _ z
theorem Inv.tok (I : Inv X pins σ H s) (t : Nat) : Inv X pins σ H { s with toks := t } := I.un (h' := s.heap) (t' := t) Un.refl I.hok
/-- all objects kept -/
theorem Inv.kept {t' : Nat} (I : Inv X pins σ H s) (k : ∀ b u, s.heap.get? b = some u → h'.get? b = some u) : Inv X pins σ H { s with heap := h', toks := t' } := I.un (Un.kept k) (I.hok.kept k)
/-- a new object laid and tracked -/
theorem Inv.laid {a : Addr} {o : HO} {t' : Nat} (I : Inv X pins σ H s) (k : ∀ b u, s.heap.get? b = some u → h'.get? b = some u) (hp : s.heap.objs.size ≤ a) (new : ObjOk X.prog X.w (upd H a o) h' a o) :
    Inv X pins σ (upd H a o) { s with heap := h', toks := t' } := I.un (Un.laid k hp (I.hok.fresh hp)) (I.hok.laid k hp new)
/-- an object written -/
theorem Inv.write {x e : Addr} {o : HO} {t' : Nat} (I : Inv X pins σ H s) (mu : Mut (H x)) (he : e = x ∨ H e = some (.own x)) (k : ∀ b u, b ≠ e → s.heap.get? b = some u → h'.get? b = some u) (heo : ∃ u, h'.get? e = some u)
    (new : ObjOk X.prog X.w (upd H x o) h' x o) : Inv X pins σ (upd H x o) { s with heap := h', toks := t' } := I.un (Un.write mu he k heo) (I.hok.write mu he k heo new)
/-- forgetting slots, pins -/
theorem Inv.weak {σ' : List (Option V)} (I : Inv X pins σ H s) (hl : σ'.length = σ.length) (w : ∀ (i : Nat) v, σ'[i]? = some (some v) → σ[i]? = some (some v)) : Inv X pins σ' H s :=
  ⟨I.ok, I.os, I.bare, I.base, let ⟨m, hn, hl'⟩ := I.loc; ⟨m, hn, fun i x v e1 e2 e3 => hl' i x v e1 (w i v e2) e3⟩, I.cell, I.free, I.freeC, I.pin, I.hok, hl.trans I.len⟩
theorem Inv.pins_of {pins' : List (Addr × Obj)} (I : Inv X pins σ H s) (h : ∀ p ∈ pins', s.heap.get? p.1 = some p.2 ∧ H p.1 = none ∧ p.1 ≠ X.env.locals ∧ p.1 ∉ X.fs ∧ ∀ v, p.2.data ≠ .cell v) : Inv X pins' σ H s :=
  ⟨I.ok, I.os, I.bare, I.base, I.loc, I.cell, I.free, I.freeC, fun p hp => (List.mem_append.mp hp).elim (fun z => I.pin p (List.mem_append_left _ z)) (h p), I.hok, I.len⟩

theorem nodup_ix {N : List Str} (hN : N.Nodup) {i j : Nat} {x : Str} (a : N[i]? = some x) (b : N[j]? = some x) : i = j := by
  obtain ⟨h1, e1⟩ := List.getElem?_eq_some_iff.mp a
  obtain ⟨h2, e2⟩ := List.getElem?_eq_some_iff.mp b
  exact (List.getElem_inj hN).mp (e1.trans e2.symm)

/-- a name is stored; what changed -/
theorem store_ok2 {M : Model} {A : Around} {E : Value → Shared → Prop} {i : Nat} {x : Str} {v : V} {u : Value} {Q : Unit → Shared → Prop} (I : Inv X pins σ H s) (hN : X.N.Nodup) (hi : X.N[i]? = some x) (hx : Loc X.env.scope x) (r : RelV v u)
    (h : ∀ s', Inv X pins (σ.set i (some v)) H s' → (∃ a, Heap.SameBut a s.heap s'.heap ∧ (a = X.env.locals ∨ X.env.cells.lookup x = some a)) → Q () s') (hf : X.fn x = true ∨ X.env.scope.names.lookup x = some .local := by first | exact .inl rfl | exact .inr rfl | assumption) : wpAny M A (storeName X.env x u) Q E s := by
  obtain ⟨m, hn, hl⟩ := id I.loc
  have hcls : (X.env.scope.kind == .class || (X.env.scope.kind == .module && X.env.locals != X.env.globals)) = false := by rw [I.ok.kind]; rfl
  have hiσ : i < σ.length := by rw [I.len]; exact (List.getElem?_eq_some_iff.mp hi).1
  have cne := I.cne
  have tracked : ∀ {a : Addr} {h' : Heap}, (∃ o, s.heap.get? a = some o ∧ H a = none) → Heap.SameBut a s.heap h' → HOk X.prog X.w H h' := fun {a h'} ha hs b ob e => by
    obtain ⟨_, _, hfree⟩ := ha
    refine (I.hok b ob e).stay (fun c w' hc q => (hs.2 c ?_).trans q) (fun _ q => q) fun _ _ q => q
    rintro rfl
    rcases hc with rfl | hc
    · rw [hfree] at e; cases e
    · rw [hfree] at hc; cases hc
  rcases hx with hk | hk
  · refine wpAny_storeName_local hk hn (fun h' hn' hs => ?_) hcls
    obtain ⟨oL, _, _, hoL, _⟩ := id hn
    refine h _ ⟨I.ok, I.os, I.bare, ⟨fun b o e n hb hx => ?_, fun b o e n hb hx => ?_, I.base.free, fun b o e hx => ?_, I.base.tups, I.base.frzs, I.base.tbls⟩, ⟨_, hn', fun j y v' e1 e2 e3 => ?_⟩, fun y c e => ?_, I.free, I.freeC, fun p hp => ?_, tracked ⟨oL, hoL, I.free⟩ hs, by simpa using I.len⟩ ⟨_, hs, .inl rfl⟩
    · exact (hs.2 b (Nat.ne_of_lt (Nat.lt_of_lt_of_le (Heap.lt_size e) I.ok.above))).trans (I.base.keep b o e n hb hx)
    · obtain ⟨sl, e1⟩ := I.base.slot b o e n hb hx
      exact ⟨sl, (hs.2 b (Nat.ne_of_lt (Nat.lt_of_lt_of_le (Heap.lt_size e) I.ok.above))).trans e1⟩
    · obtain ⟨o', e1⟩ := I.base.there b o e hx
      exact ⟨o', (hs.2 b (Nat.ne_of_lt (Nat.lt_of_lt_of_le (Heap.lt_size e) I.ok.above))).trans e1⟩
    · by_cases hj : j = i
      · subst hj
        rw [hi] at e1; cases e1
        rw [List.getElem?_set_self hiσ] at e2
        cases e2
        exact ⟨u, r, .inl ⟨hk, by simp⟩⟩
      · rw [List.getElem?_set_ne (Ne.symm hj)] at e2
        obtain ⟨u', r', q⟩ := hl j y v' e1 e2 e3
        refine ⟨u', r', ?_⟩
        rcases q with ⟨k, e⟩ | ⟨k, c, e, z⟩
        · refine .inl ⟨k, ?_⟩
          have : y ≠ x := fun e => hj (nodup_ix hN e1 (e ▸ hi))
          simp [this, e]
        · exact .inr ⟨k, c, e, z.sameBut hs (cne y c e)⟩
    · obtain ⟨w', z⟩ := I.cell y c e
      exact ⟨w', z.sameBut hs (cne y c e)⟩
    · obtain ⟨e, n, ne, nf, d⟩ := I.pin p hp
      exact ⟨(hs.2 p.1 ne).trans e, n, ne, nf, d⟩
  · have hfn : X.fn x = true := by
      rcases hf with z | z
      · exact z
      · rw [z] at hk; cases hk
    obtain ⟨c, hc⟩ := I.ok.has x (.inl hk)
    obtain ⟨w', z⟩ := I.cell x c hc
    refine wpAny_storeName_cell I.ok.kind hk hc z (fun h' hc' hs => ?_)
    obtain ⟨oc, hoc, hocd⟩ := id z
    refine h { s with heap := h' } ⟨I.ok, I.os, I.bare, ⟨fun b o e n hb hx => ?_, fun b o e n hb hx => ?_, I.base.free, fun b o e hx => ?_, I.base.tups, I.base.frzs, I.base.tbls⟩, ⟨m, hn.sameBut hs (Ne.symm (cne x c hc)), fun j y v' e1 e2 e3 => ?_⟩, fun y c' e => ?_, I.free, I.freeC, fun p hp => ?_, tracked ⟨oc, hoc, I.freeC x c hc⟩ hs, by simpa using I.len⟩ ⟨c, hs, .inr hc⟩
    · exact (hs.2 b (Nat.ne_of_lt (Nat.lt_of_lt_of_le (Heap.lt_size e) (I.ok.cab x c hfn hc)))).trans (I.base.keep b o e n hb hx)
    · obtain ⟨sl, e1⟩ := I.base.slot b o e n hb hx
      exact ⟨sl, (hs.2 b (Nat.ne_of_lt (Nat.lt_of_lt_of_le (Heap.lt_size e) (I.ok.cab x c hfn hc)))).trans e1⟩
    · obtain ⟨o', e1⟩ := I.base.there b o e hx
      exact ⟨o', (hs.2 b (Nat.ne_of_lt (Nat.lt_of_lt_of_le (Heap.lt_size e) (I.ok.cab x c hfn hc)))).trans e1⟩
    · by_cases hj : j = i
      · subst hj
        rw [hi] at e1; cases e1
        rw [List.getElem?_set_self hiσ] at e2
        cases e2
        exact ⟨u, r, .inr ⟨.inl hk, c, hc, hc'⟩⟩
      · rw [List.getElem?_set_ne (Ne.symm hj)] at e2
        obtain ⟨u', r', q⟩ := hl j y v' e1 e2 e3
        refine ⟨u', r', ?_⟩
        rcases q with q | ⟨k, c', e, z'⟩
        · exact .inl q
        · refine .inr ⟨k, c', e, z'.sameBut hs ?_⟩
          rintro rfl
          exact hj (nodup_ix hN e1 (I.ok.inj _ _ _ e hc ▸ hi))
    · by_cases hcc : c' = c
      · subst hcc; exact ⟨_, hc'⟩
      · obtain ⟨w2, z2⟩ := I.cell y c' e
        exact ⟨w2, z2.sameBut hs hcc⟩
    · obtain ⟨e, n, ne, nf, d⟩ := I.pin p hp
      refine ⟨(hs.2 p.1 ?_).trans e, n, ne, nf, d⟩
      intro q
      rw [q, hoc] at e
      have q' : oc = p.2 := Option.some.inj e
      exact d w' (by rw [← q']; exact hocd)
theorem store_ok {M : Model} {A : Around} {E : Value → Shared → Prop} {i : Nat} {x : Str} {v : V} {u : Value} {Q : Unit → Shared → Prop} (I : Inv X pins σ H s) (hN : X.N.Nodup) (hi : X.N[i]? = some x) (hx : Loc X.env.scope x) (r : RelV v u)
    (h : ∀ s', Inv X pins (σ.set i (some v)) H s' → Q () s') (hf : X.fn x = true ∨ X.env.scope.names.lookup x = some .local := by first | exact .inl rfl | exact .inr rfl | assumption) : wpAny M A (storeName X.env x u) Q E s :=
  store_ok2 I hN hi hx r (fun s' I' _ => h s' I') hf
/-- behind a call or a block, the state as it is -/
theorem Inv.call' {s' : Shared} {ch : List Addr} (I : Inv X pins σ H s) (ho : s'.os = s.os) (u : Un (frs X.stack) ch H H' s.heap s'.heap) (hok : HOk X.prog X.w H' s'.heap) (hg : AllBare s'.gens)
    (hch : ∀ b ∈ ch, (b ∈ X.ex ∨ X.s₀.heap.objs.size ≤ b) ∧ b ≠ X.env.locals ∧ (∀ x c, X.env.cells.lookup x = some c → c ≠ b) ∧ ∀ p ∈ X.pn ++ pins, p.1 ≠ b) : Inv X pins σ H' s' := by
  obtain ⟨h', g', d', t', o'⟩ := s'
  have e : o' = s.os := ho
  subst e
  exact I.call (g' := g') (t' := t') (d' := d') u hok hg hch
end

/-- an exception: its class, its own dict's address (where it has one), the abstract heap behind it -/
abbrev XK := Value → Option Addr → Hp → Prop
abbrev St := List (Option V)
abbrev VK := V → Hp → Prop
/-- an expression's reading; a test's; an argument list's -/
abbrev TE := St → Hp → VK → Prop
abbrev TT := St → Hp → (Bool → Hp → Prop) → Prop
abbrev TA := St → Hp → (List V → Hp → Prop) → Prop
/-- what is wanted behind a statement -/
structure Ends where
  nx : St → Hp → Prop
  rt : VK
  bk : St → Hp → Prop := fun _ _ => False
  ct : St → Hp → Prop := fun _ _ => False
abbrev TS := Ends → St → Hp → Prop

def EP (X : Cx) (pins : List (Addr × Obj)) (σ : St) (Q : VK) (u : Value) (s' : Shared) : Prop := ∃ v H', Inv X pins σ H' s' ∧ RelV v u ∧ Q v H'
def TP (X : Cx) (pins : List (Addr × Obj)) (σ : St) (Q : Bool → Hp → Prop) (b : Bool) (s' : Shared) : Prop := ∃ H', Inv X pins σ H' s' ∧ Q b H'
def AP (X : Cx) (pins : List (Addr × Obj)) (σ : St) (Q : List V → Hp → Prop) (us : List Value) (s' : Shared) : Prop := ∃ vs H', Inv X pins σ H' s' ∧ Vals vs us ∧ Q vs H'
def SP (X : Cx) (pins : List (Addr × Obj)) (D : Ends) (f : Flow) (s' : Shared) : Prop :=
  match f with
  | .next => ∃ σ' H', Inv X pins σ' H' s' ∧ D.nx σ' H'
  | .brk => ∃ σ' H', Inv X pins σ' H' s' ∧ D.bk σ' H'
  | .cont => ∃ σ' H', Inv X pins σ' H' s' ∧ D.ct σ' H'
  | .ret u => ∃ v σ' H', Inv X pins σ' H' s' ∧ RelV v u ∧ D.rt v H'

def PE (X : Cx) (e : Expr) (t : TE) : Prop :=
  ∀ (pins : List (Addr × Obj)) (s : Shared) (σ : St) (H : Hp) (Q : VK), Inv X pins σ H s → t σ H Q → wpAny (model X.prog X.w) X.A (eval e X.env) (EP X pins σ Q) X.xe s
def PT (X : Cx) (e : Expr) (t : TT) : Prop :=
  ∀ (pins : List (Addr × Obj)) (s : Shared) (σ : St) (H : Hp) (Q : Bool → Hp → Prop), Inv X pins σ H s → t σ H Q → wpAny (model X.prog X.w) X.A (isTrue e X.env (eval e X.env)) (TP X pins σ Q) X.xe s
/-- a test whatever its 'whole' is (and, or) -/
def PW (X : Cx) (e : Expr) (t : TT) : Prop :=
  ∀ (whole : Sem Value) (pins : List (Addr × Obj)) (s : Shared) (σ : St) (H : Hp) (Q : Bool → Hp → Prop), Inv X pins σ H s → t σ H Q → wpAny (model X.prog X.w) X.A (isTrue e X.env whole) (TP X pins σ Q) X.xe s
theorem PW.pt {X : Cx} {e : Expr} {t : TT} (h : PW X e t) : PT X e t := h _
/-- an argument list (no star), from the left -/
def PA (X : Cx) (es : List Expr) (t : TA) : Prop :=
  ∀ (pos : Pos) (pins : List (Addr × Obj)) (s : Shared) (σ : St) (H : Hp) (Q : List V → Hp → Prop), Inv X pins σ H s → t σ H Q → wpAny (model X.prog X.w) X.A (spliced (backTo pos (starEach es X.env))) (AP X pins σ Q) X.xe s
def PS (X : Cx) (st : Stmt) (t : TS) : Prop :=
  ∀ (pins : List (Addr × Obj)) (s : Shared) (σ : St) (H : Hp) (D : Ends), Inv X pins σ H s → t D σ H → wpAny (model X.prog X.w) X.A (exec st X.env) (SP X pins D) X.xe s
def PSs (X : Cx) (st : List Stmt) (t : TS) : Prop :=
  ∀ (pins : List (Addr × Obj)) (s : Shared) (σ : St) (H : Hp) (D : Ends), Inv X pins σ H s → t D σ H → wpAny (model X.prog X.w) X.A (execs st X.env) (SP X pins D) X.xe s
/-- weaken the end -/
theorem thn {α : Type} {t : Sem α} {Q Q' : α → Shared → Prop} {M : Model} {A : Around} {E : Value → Shared → Prop} {s : Shared} (h : wpAny M A t Q E s) (hQ : ∀ a s, Q a s → Q' a s) : wpAny M A t Q' E s := wpAny_mono h hQ fun _ _ x => x
end L2

namespace L2
open PySem PySem.Spec PyProof.Rows
section
variable {X : Cx}

def tVar (i : Nat) : TE := fun σ H Q => ∃ v, σ[i]? = some (some v) ∧ Q v H
def tC (v : V) : TE := fun _ H Q => Q v H
theorem pe_var {i : Nat} {x : Str} {pos : Pos} (hN : X.N[i]? = some x) (hv : Vis X.env.scope x) (hd : (x == ("__debug__" : Str)) = false := by decide) (hcd : (x == ("__classdict__" : Str)) = false := by decide) : PE X (.Name x pos) (tVar i) := by
  intro pins s σ H Q I h
  obtain ⟨v, e, h⟩ := h
  obtain ⟨m, hn, hl⟩ := I.loc
  obtain ⟨u, r, l⟩ := hl i x v hN e hv
  have fin : EP X pins σ Q u s := ⟨v, H, I, r, h⟩
  rcases l with ⟨hk, hm⟩ | ⟨hk, c, hc, hcell⟩
  · exact wpAny_Name (wpAny_loadName_local I.ok.kind hk hn hm fin) hd
  · rcases hk with hk | hk
    · exact wpAny_Name (wpAny_loadName_cell I.ok.kind hk hc hcell fin) hd
    · exact wpAny_Name (wpAny_loadName_free I.ok.kind hk hc hcell fin hcd) hd
theorem pe_int {i j pos} : PE X (.Constant (.int i) j pos) (tC (.int i)) := fun _ _ _ H _ I h => wpAny_Constant_int ⟨.int i, H, I.tok _, ⟨_, rfl⟩, h⟩
/-- a global name of the def -/
def Gl (X : Cx) (x : Str) : Prop := X.env.kindOf x = some .globalImplicit
theorem ld_glob {E : Value → Shared → Prop} {pins : List (Addr × Obj)} {s : Shared} {σ : St} {H : Hp} {x : Str} {u : Value} {pos : Pos} {Q : Value → Shared → Prop} (I : Inv X pins σ H s) (hg : Gl X x) (hm : X.mg x = some u) (h : Q u s)
    (hd : (x == ("__debug__" : Str)) = false := by decide) : wpAny (model X.prog X.w) X.A (eval (.Name x pos) X.env) Q E s :=
  Calls.Name_function_global I.ok.kind hg (Calls.loadGlobal_global (by rw [I.ok.glob]; exact I.mod.glob.keeps I.bk) hm h) hd
theorem ld_blt {E : Value → Shared → Prop} {pins : List (Addr × Obj)} {s : Shared} {σ : St} {H : Hp} {x : Str} {u : Value} {pos : Pos} {Q : Value → Shared → Prop} (I : Inv X pins σ H s) (hg : Gl X x) (hm : X.mg x = none) (hv : bootBuiltins x = some u) (h : Q u s)
    (hn : x ≠ "__name__" := by decide) (hd : (x == ("__debug__" : Str)) = false := by decide) : wpAny (model X.prog X.w) X.A (eval (.Name x pos) X.env) Q E s := by
  obtain ⟨mb, h1, h2⟩ := I.mod.blt
  exact Calls.Name_function_global I.ok.kind hg (Calls.loadGlobal_builtin (by rw [I.ok.glob]; exact I.mod.glob.keeps I.bk) hm (by rw [I.ok.blt]; exact h1.keeps I.bk) ((h2 x hn).trans hv) h) hd
theorem pe_bltn {x : Str} {v : V} {u : Value} {pos : Pos} (hg : Gl X x) (hm : X.mg x = none) (hv : bootBuiltins x = some u) (r : RelV v u) (hn : x ≠ "__name__" := by decide) (hd : (x == ("__debug__" : Str)) = false := by decide) : PE X (.Name x pos) (tC v) :=
  fun _ _ _ H _ I h => ld_blt I hg hm hv ⟨v, H, I, r, h⟩ hn hd

variable {a b : Expr} {ta tb : TE} {pos : Pos}
variable {tA tB' : TT} {rest : List Expr}
def tAnd (t u : TT) : TT := fun σ H Q => t σ H fun c H1 => if c = true then u σ H1 Q else Q false H1
def tNot (t : TT) : TT := fun σ H Q => t σ H fun c H1 => Q (!c) H1
theorem pw_and1 (ha : PT X a tA) : PW X (.BoolOp .And [a] pos) tA := by
  intro wh pins s σ H Q I h
  refine isTrue_and (thn (ha pins s σ H Q I h) fun c s1 e => ?_)
  cases c with
  | true => exact isTrue_and_nil e
  | false => exact e
theorem pw_and (ha : PT X a tA) (hb : PW X (.BoolOp .And (b :: rest) pos) tB') : PW X (.BoolOp .And (a :: b :: rest) pos) (tAnd tA tB') := by
  intro wh pins s σ H Q I h
  refine isTrue_and (thn (ha pins s σ H _ I h) fun c s1 ⟨H1, I1, q1⟩ => ?_)
  cases c with
  | true => exact hb wh pins s1 σ H1 Q I1 q1
  | false => exact ⟨H1, I1, q1⟩
theorem pt_not (ha : PT X a tA) : PT X (.UnaryOp .Not a pos) (tNot tA) := by
  intro pins s σ H Q I h
  exact isTrue_not (ha pins s σ H (fun c H1 => Q (!c) H1) I h)
/-- .. as values (bools) -/
def tAndV (ta tb : TE) : TE := fun σ H Q => ta σ H fun x H1 => ∃ c, x = .bl c ∧ if c = true then tb σ H1 Q else Q (.bl false) H1
def tNotV (ta : TE) : TE := fun σ H Q => ta σ H fun x H1 => ∃ c, x = .bl c ∧ Q (.bl (!c)) H1
theorem pe_one {op} {t : TE} (h : PE X a t) : PE X (.BoolOp op [a] pos) t := fun pins s σ H Q I hw => BoolOp_one (h pins s σ H Q I hw)
theorem pe_and (ha : PE X a ta) (hb : PE X (.BoolOp .And (b :: rest) pos) tb) : PE X (.BoolOp .And (a :: b :: rest) pos) (tAndV ta tb) := by
  intro pins s σ H Q I h
  refine BoolOp_and (thn (ha pins s σ H _ I h) fun v s1 ⟨x, H1, I1, r1, q1⟩ => ?_)
  obtain ⟨c, rfl, q1⟩ := q1
  cases r1
  refine wpAny_truthy_bool ?_
  cases c with
  | true => exact hb pins s1 σ H1 Q I1 q1
  | false => exact ⟨.bl false, H1, I1, rfl, q1⟩
theorem pe_not (ha : PE X a ta) : PE X (.UnaryOp .Not a pos) (tNotV ta) := by
  intro pins s σ H Q I h
  refine UnaryOp_ (thn (ha pins s σ H _ I h) fun v s1 ⟨x, H1, I1, r1, q1⟩ => ?_)
  obtain ⟨c, rfl, q1⟩ := q1
  cases r1
  exact not_of (wpAny_truthy_bool ⟨.bl (!c), H1, I1, rfl, q1⟩)
end
end L2

namespace L2
open PySem PySem.Spec PyProof.Rows

def SqL (K : PySem.W.Frag) (H : Hp) (a : Addr) (xs : List V) : Prop :=
  Rd H a (.lst xs) ∨
    ∃ (o : Obj) (its : Array Value) (n : Nat), K.lookup a = some o ∧ o.cls = .type "list" ∧ o.dict = none ∧ o.data = .seq its n ∧ its.size ≤ sizeLine ∧ Vals xs its.toList
def SqT (K : PySem.W.Frag) (H : Hp) (a : Addr) (xs : List V) : Prop :=
  Rd H a (.tup xs) ∨
    ∃ (o : Obj) (its : Array Value) (n : Nat), K.lookup a = some o ∧ o.cls = .type "tuple" ∧ o.data = .seq its n ∧ its.size ≤ sizeLine ∧ Vals xs its.toList
def absV : Value → Option V
  | .none => some .non
  | .bool b => some (.bl b)
  | .int i _ => some (.int i)
  | .str x _ => some (.str x)
  | .bytes b _ => some (.byt b)
  | .float b _ => some (.flt b)
  | .ref a => some (.ref a)
  | .type n => some (.ty n)
  | _ => none
theorem RelV.abs {x : V} {u : Value} (r : RelV x u) : absV u = some x := by
  cases x with
  | non => cases r; rfl
  | bl _ => cases r; rfl
  | int _ => obtain ⟨t, rfl⟩ := r; rfl
  | str _ => obtain ⟨t, rfl⟩ := r; rfl
  | byt _ => obtain ⟨t, rfl⟩ := r; rfl
  | flt _ => obtain ⟨t, rfl⟩ := r; rfl
  | ref _ => cases r; rfl
  | ty _ => cases r; rfl
theorem RelV.inj {x y : V} {u : Value} (r : RelV x u) (q : RelV y u) : x = y := Option.some.inj (r.abs.symm.trans q.abs)
theorem Vals.inj : ∀ {xs ys : List V} {us : List Value}, Vals xs us → Vals ys us → xs = ys
  | _, _, _, .nil, .nil => rfl
  | _, _, _, .cons r t, .cons r' t' => by rw [r.inj r', Vals.inj t t']
section
variable {X : Cx} {pins : List (Addr × Obj)} {σ : St} {H : Hp} {s : Shared} {a : Addr} {xs ys : List V}
theorem SqL.of {K : PySem.W.Frag} (h : H a = some (.lst xs)) : SqL K H a xs := .inl (.inl h)
theorem SqT.of {K : PySem.W.Frag} (h : H a = some (.tup xs)) : SqT K H a xs := .inl (.inl h)
theorem Inv.list (I : Inv X pins σ H s) (h : SqL X.K H a xs) : ∃ its : List Value, Vals xs its ∧ PlainL s.heap a its.toArray ∧ xs.length ≤ sizeLine := by
  rcases h with h | ⟨o, its, n, hk, hc, hd, hs, hz, r⟩
  · obtain ⟨z, its, n, r, e⟩ := h.ok I.hok
    exact ⟨its, r, ⟨_, n, e, rfl, rfl, rfl⟩, z⟩
  · refine ⟨its.toList, r, ⟨o, n, I.kIn a o hk, hc, hd, by simpa using hs⟩, ?_⟩
    have e := r.length
    simp only [Array.length_toList] at e
    (first | lia | omega)
theorem Inv.tuple (I : Inv X pins σ H s) (h : SqT X.K H a xs) : ∃ its : List Value, Vals xs its ∧ IsTup s.heap a its.toArray ∧ xs.length ≤ sizeLine := by
  rcases h with h | ⟨o, its, n, hk, hc, hs, hz, r⟩
  · obtain ⟨z, its, r, p⟩ := h.ok I.hok
    exact ⟨its, r, p, z⟩
  · refine ⟨its.toList, r, ⟨o, I.kIn a o hk, hc, n, by simpa using hs⟩, ?_⟩
    have e := r.length
    simp only [Array.length_toList] at e
    (first | lia | omega)
theorem Inv.list_inj (I : Inv X pins σ H s) (h : SqL X.K H a xs) (h' : SqL X.K H a ys) : xs = ys := by
  obtain ⟨its, r, ⟨o, n, e, _, _, d⟩, _⟩ := I.list h
  obtain ⟨its', r', ⟨o', n', e', _, _, d'⟩, _⟩ := I.list h'
  rw [e] at e'; cases e'
  rw [d] at d'
  injection d' with d1 _
  have : its = its' := by simpa using congrArg Array.toList d1
  subst this
  exact r.inj r'
end

abbrev Cx.wish (X : Cx) (E : Value → Shared → Prop) : Cx := { X with xe := E }
/-- no exception leaves -/
abbrev Cx.nox (X : Cx) : Cx := X.wish fun _ _ => False
theorem Cx.Ok.wish {X : Cx} (ok : X.Ok) (E : Value → Shared → Prop) : (X.wish E).Ok :=
  ⟨ok.mod, ok.kind, ok.glob, ok.blt, ok.above, ok.inj, ok.has, ok.cab, ok.hd, ok.frames, ok.stk, ok.exf, ok.bs, ok.bsz, ok.noex, ok.exfs, ok.funs, ok.frf⟩
theorem Cx.Ok.unwish {X : Cx} {E : Value → Shared → Prop} (ok : (X.wish E).Ok) : X.Ok :=
  ⟨ok.mod, ok.kind, ok.glob, ok.blt, ok.above, ok.inj, ok.has, ok.cab, ok.hd, ok.frames, ok.stk, ok.exf, ok.bs, ok.bsz, ok.noex, ok.exfs, ok.funs, ok.frf⟩
section
variable {X : Cx} {pins : List (Addr × Obj)} {σ : St} {H : Hp} {s : Shared} {E : Value → Shared → Prop}
theorem Inv.wish (I : Inv X pins σ H s) (E : Value → Shared → Prop) : Inv (X.wish E) pins σ H s := ⟨I.ok.wish E, I.os, I.bare, I.base, I.loc, I.cell, I.free, I.freeC, I.pin, I.hok, I.len⟩
theorem Inv.unwish (I : Inv (X.wish E) pins σ H s) : Inv X pins σ H s := ⟨I.ok.unwish, I.os, I.bare, I.base, I.loc, I.cell, I.free, I.freeC, I.pin, I.hok, I.len⟩
theorem SP.unwish {D : Ends} {f : Flow} {s' : Shared} (h : SP (X.wish E) pins D f s') : SP X pins D f s' := by
  cases f with
  | next => obtain ⟨σ', H', I, q⟩ := h; exact ⟨σ', H', I.unwish, q⟩
  | brk => obtain ⟨σ', H', I, q⟩ := h; exact ⟨σ', H', I.unwish, q⟩
  | cont => obtain ⟨σ', H', I, q⟩ := h; exact ⟨σ', H', I.unwish, q⟩
  | ret u => obtain ⟨v, σ', H', I, r, q⟩ := h; exact ⟨v, σ', H', I.unwish, r, q⟩
theorem PSs.nox {st : List Stmt} {t : TS} (h : PSs X.nox st t) : PSs X st t := fun pins s σ H D I hw =>
  wpAny_mono (h pins s σ H D (I.wish _) hw) (fun _ _ q => q.unwish) fun _ _ z => False.elim z
end

section
variable {X : Cx} {st : Stmt} {rest : List Stmt} {t u : TS} {e : Expr} {te : TE} {pos : Pos}
def tNext : TS := fun D σ H => D.nx σ H
def tSeq (t u : TS) : TS := fun D σ H => t { D with nx := u D } σ H
theorem pss_nil : PSs X [] tNext := fun _ _ σ H _ I h => wpAny_execs_nil ⟨σ, H, I, h⟩
theorem pss_cons (h1 : PS X st t) (h2 : PSs X rest u) : PSs X (st :: rest) (tSeq t u) := by
  intro pins s σ H D I h
  refine wpAny_execs_cons (thn (h1 pins s σ H { D with nx := u D } I h) fun f s1 q => ?_)
  cases f with
  | next =>
    obtain ⟨σ', H', I', q⟩ := q
    exact h2 pins s1 σ' H' D I' q
  | ret v => exact q
  | brk => exact q
  | cont => exact q
theorem pss_one (h1 : PS X st t) : PSs X [st] t := by
  intro pins s σ H D I h
  refine wpAny_execs_cons (thn (h1 pins s σ H D I h) fun f s1 q => ?_)
  cases f with
  | next => exact wpAny_execs_nil q
  | ret v => exact q
  | brk => exact q
  | cont => exact q
/-- in a def's body nothing is shown -/
theorem Inv.quiet {pins : List (Addr × Obj)} {σ : St} {H : Hp} {s : Shared} (I : Inv X pins σ H s) : interactive X.env = false := by simp [interactive, I.ok.kind]
/-- an expression whose value is dropped -/
def tDrop (te : TE) : TS := fun D σ H => te σ H fun _ H1 => D.nx σ H1
theorem ps_expr (he : PE X e te) (hs : swapsWith e none pos.line X.env = pure false := by rfl) : PS X (.Expr e pos) (tDrop te) := by
  intro pins s σ H D I h
  exact wpAny_Expr_any (thn (he pins s σ H _ I h) fun v s1 ⟨x, H1, I1, r1, q1⟩ => ⟨σ, H1, I1, q1⟩) I.quiet hs
def tRet (te : TE) : TS := fun D σ H => te σ H D.rt
theorem ps_ret (he : PE X e te) : PS X (.Return (some e) pos) (tRet te) := by
  intro pins s σ H D I h
  exact wpAny_Return_some (thn (he pins s σ H _ I h) fun v s1 ⟨x, H1, I1, r1, q1⟩ => ⟨x, σ, H1, I1, r1, q1⟩)
def tIfS (c : TT) (t u : TS) : TS := fun D σ H => c σ H fun b H1 => if b = true then t D σ H1 else u D σ H1
theorem ps_if {c : Expr} {a b : List Stmt} {tc : TT} (hc : PT X c tc) (ha : PSs X a t) (hb : PSs X b u) : PS X (.If c a b pos) (tIfS tc t u) := by
  intro pins s σ H D I h
  refine wpAny_If (thn (hc pins s σ H _ I h) fun d s1 ⟨H1, I1, q1⟩ => ?_)
  cases d with
  | true => exact ha pins s1 σ H1 D I1 q1
  | false => exact hb pins s1 σ H1 D I1 q1
end

abbrev TG := V → St → Hp → (St → Hp → Prop) → Prop
abbrev TGs := List V → St → Hp → (St → Hp → Prop) → Prop
def PG (X : Cx) (target : Expr) (t : TG) : Prop :=
  ∀ (pins : List (Addr × Obj)) (s : Shared) (σ : St) (H : Hp) (v : V) (u : Value) (Q : St → Hp → Prop), Inv X pins σ H s → RelV v u → t v σ H Q →
    wpAny (model X.prog X.w) X.A (assign target X.env u) (fun _ s' => ∃ σ' H', Inv X pins σ' H' s' ∧ Q σ' H') X.xe s
/-- several targets, one after another -/
def PGs (X : Cx) (ts : List Expr) (t : TGs) : Prop :=
  ∀ (pins : List (Addr × Obj)) (s : Shared) (σ : St) (H : Hp) (vs : List V) (us : List Value) (Q : St → Hp → Prop), Inv X pins σ H s → Vals vs us → t vs σ H Q →
    wpAny (model X.prog X.w) X.A (assignInOrder ((assignEach ts X.env).map (·.2)) us) (fun _ s' => ∃ σ' H', Inv X pins σ' H' s' ∧ Q σ' H') X.xe s
/-- o[i] = v, by values -/
abbrev TSet := V → V → V → Hp → (Hp → Prop) → Prop
def PSet (X : Cx) (t : TSet) : Prop :=
  ∀ (pins : List (Addr × Obj)) (s : Shared) (σ : St) (H : Hp) (o i v : V) (ov iv u : Value) (Q : Hp → Prop), Inv X pins σ H s → RelV o ov → RelV i iv → RelV v u → t o i v H Q →
    wpAny (model X.prog X.w) X.A (setItem ov iv u) (fun _ s' => ∃ H', Inv X pins σ H' s' ∧ Q H') X.xe s
section
variable {X : Cx} {pos : Pos}
def gName (i : Nat) : TG := fun v σ H Q => Q (σ.set i (some v)) H
theorem pg_name {i : Nat} {x : Str} (hN : X.N.Nodup) (hi : X.N[i]? = some x) (hx : Loc X.env.scope x) (hf : X.fn x = true ∨ X.env.scope.names.lookup x = some .local := by first | exact .inl rfl | exact .inr rfl | assumption) : PG X (.Name x pos) (gName i) := by
  intro pins s σ H v u Q I r h
  exact wpAny_assign_Name (store_ok I hN hi hx r (fun s' I' => ⟨_, H, I', h⟩) hf)
def gNil : TGs := fun vs σ H Q => vs = [] ∧ Q σ H
def gCons (t : TG) (u : TGs) : TGs := fun vs σ H Q => ∃ v r, vs = v :: r ∧ t v σ H fun σ' H' => u r σ' H' Q
theorem pgs_nil : PGs X [] gNil := by
  intro pins s σ H vs us Q I r h
  obtain ⟨e, h⟩ := h
  subst e
  cases r
  exact assignInOrder_nil ⟨σ, H, I, h⟩
theorem pgs_cons {e : Expr} {es : List Expr} {t : TG} {u : TGs} (h1 : PG X e t) (h2 : PGs X es u)
    (hs : (assignEach (e :: es) X.env).map (·.2) = assign e X.env :: (assignEach es X.env).map (·.2) := by rfl) : PGs X (e :: es) (gCons t u) := by
  intro pins s σ H vs us Q I r h
  obtain ⟨v, vr, e1, h⟩ := h
  subst e1
  cases r with
  | cons r rr =>
    rw [hs]
    refine assignInOrder_cons (thn (h1 pins s σ H _ _ _ I r h) fun _ s1 ⟨σ1, H1, I1, q1⟩ => ?_)
    exact h2 pins s1 σ1 H1 _ _ Q I1 rr q1
/-- (a, b, ..) = a tuple of that length -/
def gTup (K : PySem.W.Frag) (n : Nat) (t : TGs) : TG := fun v σ H Q => ∃ a xs, v = .ref a ∧ SqT K H a xs ∧ xs.length = n ∧ t xs σ H Q
theorem pg_tup {es : List Expr} {k : Nat} {t : TGs} {n : Nat} (hc : X.calm = true) (h : PGs X es t)
    (hn : (assignEach es X.env).length = n := by rfl) (hst : (assignEach es X.env).findIdx? (·.1) = none := by rfl) : PG X (.Tuple es k pos) (gTup X.K n t) := by
  intro pins s σ H v u Q I r hw
  obtain ⟨a, xs, e1, hq, hl, hw⟩ := hw
  subst e1
  cases r
  obtain ⟨its, rv, ht, hz⟩ := I.tuple hq
  refine assign_Tuple_tuple (I.ok.hd hc) ht (by simp [hn, ← hl, rv.length]) hst fun h' hx => ?_
  have I1 : Inv X pins σ H { s with heap := h' } := I.kept (t' := s.toks) fun b o e => hx b o (Nat.ne_of_lt (Heap.lt_size e)) e
  exact h pins _ σ H xs _ Q I1 (by simpa using rv) hw
/-- o[i] = .. -/
def gSub (to ti : TE) (t : TSet) : TG := fun v σ H Q => to σ H fun o H1 => ti σ H1 fun i H2 => t o i v H2 fun H3 => Q σ H3
theorem pg_sub {o i : Expr} {to ti : TE} {t : TSet} (ho : PE X o to) (hi : PE X i ti) (hs : PSet X t)
    (ha : ∀ v, assign (.Subscript o i pos) X.env v = (do
      let ov ← holding [v] (eval o X.env)
      let iv ← holding [v, ov] (eval i X.env)
      standAt pos
      holding [v, ov, iv] (setItem ov iv v)
      release [v, ov, iv] []) := by intro _; rfl) : PG X (.Subscript o i pos) (gSub to ti t) := by
  intro pins s σ H v u Q I r h
  rw [ha]
  refine wpAny_bind (wpAny_holding (thn (ho pins s σ H _ I h) fun ov s1 ⟨x, H1, I1, r1, q1⟩ => ?_))
  refine wpAny_bind (wpAny_holding (thn (hi pins s1 σ H1 _ I1 q1) fun iv s2 ⟨y, H2, I2, r2, q2⟩ => ?_))
  refine wpAny_bind (wpAny_standAt (wpAny_bind (wpAny_holding (thn (hs pins s2 σ H2 x y v ov iv u _ I2 r1 r2 r q2) fun _ s3 ⟨H3, I3, q3⟩ => ?_))))
  exact wpAny_release ⟨σ, H3, I3, q3⟩
/-- target = value -/
def tAsg (te : TE) (g : TG) : TS := fun D σ H => te σ H fun x H1 => g x σ H1 D.nx
theorem ps_asg {tg e : Expr} {te : TE} {g : TG} (he : PE X e te) (hg : PG X tg g) (hs : swapsWithSole [tg] e pos.line X.env = pure false := by rfl) (hw : swappedStores [tg] e X.env = pure none := by rfl)
    (h1 : (assignEach [tg] X.env).map (·.2) = [assign tg X.env] := by rfl) : PS X (.Assign [tg] e pos) (tAsg te g) := by
  intro pins s σ H D I h
  refine wpAny_Assign_stores (thn (he pins s σ H _ I h) fun v s1 ⟨x, H1, I1, r1, q1⟩ => ?_) hs hw
  rw [h1]
  exact thn (hg pins s1 σ H1 x v _ I1 r1 q1) fun _ s2 q => q
/-- name = value -/
theorem ps_set {i : Nat} {x : Str} {e : Expr} {te : TE} {pos' : Pos} (hN : X.N.Nodup) (hi : X.N[i]? = some x) (hx : Loc X.env.scope x) (he : PE X e te) (hs : swapsWith e (some (.Name x pos')) pos.line X.env = pure false := by rfl) (hf : X.fn x = true ∨ X.env.scope.names.lookup x = some .local := by first | exact .inl rfl | exact .inr rfl | assumption) :
    PS X (.Assign [.Name x pos'] e pos) (tAsg te (gName i)) := by
  intro pins s σ H D I h
  refine wpAny_Assign_Name (thn (he pins s σ H _ I h) fun v s1 ⟨y, H1, I1, r1, q1⟩ => ?_) hs
  exact store_ok I1 hN hi hx r1 (fun s2 I2 => ⟨_, H1, I2, q1⟩) hf
end

section
variable {X : Cx} {pos : Pos}
/-- the invariant W with its measure -/
def tWhile (c : TT) (tb : TS) : TS := fun D σ H => ∃ W : Nat → St → Hp → Prop, (∃ m, W m σ H) ∧ ∀ m σ H, W m σ H →
  c σ H fun b H1 => if b = true then ∃ N : St → Hp → Prop, (∀ σ' H', N σ' H' → ∃ m', m' < m ∧ W m' σ' H') ∧ tb { D with nx := N, ct := N, bk := D.nx } σ H1 else D.nx σ H1
theorem ps_while {c : Expr} {body : List Stmt} {tc : TT} {tb : TS} (hp : PassesOwn (model X.prog X.w) X.A X.env X.xe) (hc : PT X c tc) (hb : PSs X body tb) : PS X (.While c body [] pos) (tWhile tc tb) := by
  intro pins s σ H D I h
  obtain ⟨W, ⟨m0, w0⟩, turn⟩ := h
  refine wpAny_While (codeAny_whileLoop (fun n s' => ∃ σ' H', Inv X pins σ' H' s' ∧ W n σ' H') ?_ m0 ⟨σ, H, I, w0⟩)
  rintro n s1 ⟨σ1, H1, I1, w1⟩
  refine wpAny_passesOwn hp (thn (hc pins s1 σ1 H1 _ I1 (turn n σ1 H1 w1)) fun b s2 ⟨H2, I2, q2⟩ => ?_)
  cases b with
  | true =>
    obtain ⟨N, hN, q2⟩ := q2
    rw [if_pos rfl]
    refine wpAny_passesOwn hp (thn (hb pins s2 σ1 H2 _ I2 q2) fun f s3 q3 => ?_)
    cases f with
    | next =>
      obtain ⟨σ3, H3, I3, n3⟩ := q3
      obtain ⟨m', hm, w3⟩ := hN σ3 H3 n3
      exact ⟨m', hm, σ3, H3, I3, w3⟩
    | cont =>
      obtain ⟨σ3, H3, I3, n3⟩ := q3
      obtain ⟨m', hm, w3⟩ := hN σ3 H3 n3
      exact ⟨m', hm, σ3, H3, I3, w3⟩
    | brk => exact q3
    | ret v => exact q3
  | false =>
    rw [if_neg Bool.false_ne_true]
    exact wpAny_execs_nil ⟨σ1, H2, I2, q2⟩
end

/-- at turn i: it yields x (the heap may grow), or it stops -/
structure It where
  go : Nat → Hp → Prop
  yld : Nat → Hp → V → Hp → Prop
  stop : Nat → Hp → Prop
/-- the iterator's own objects may turn: they are not the frame's, not pinned, younger than the entry (or a comprehension's own) -/
def FpOk (X : Cx) (pins : List (Addr × Obj)) (H : Hp) (b : Addr) : Prop :=
  H b = none ∧ b ≠ X.env.locals ∧ b ∉ X.fs ∧ (b ∈ X.ex ∨ X.s₀.heap.objs.size ≤ b) ∧ (∀ x c, X.env.cells.lookup x = some c → c ≠ b) ∧ ∀ p ∈ X.pn ++ pins, p.1 ≠ b
theorem Inv.fpOk {X : Cx} {pins : List (Addr × Obj)} {σ : St} {H H' : Hp} {s : Shared} {b : Addr} (I : Inv X pins σ H s) (hb : s.heap.objs.size ≤ b) (hn : H' b = none) : FpOk X pins H' b := by
  refine ⟨hn, Nat.ne_of_gt (Nat.lt_of_lt_of_le I.lt hb), I.nofs hb, .inr (Nat.le_trans I.sz hb), fun x c e z => ?_, fun p hp z => ?_⟩
  · obtain ⟨v, q⟩ := I.cell x c e
    exact absurd (Nat.lt_of_lt_of_le q.lt (by rw [z]; exact hb)) (Nat.lt_irrefl _)
  · exact absurd (Nat.lt_of_lt_of_le (Heap.lt_size (I.pin p hp).1) (by rw [z]; exact hb)) (Nat.lt_irrefl _)
structure Turn (P : Program) (w : World) (K : PySem.W.Frag) (tg : Expr) (J : It) (fp : List Addr) (it : Addr) (tn : Nat → Heap → Prop) : Prop where
  mem : it ∈ fp
  obj : ∀ i h, tn i h → ∀ b ∈ fp, ∃ o, h.get? b = some o ∧ ∀ v, o.data ≠ .cell v
  keep : ∀ i h h', tn i h → (∀ b ∈ fp, ∀ o, h.get? b = some o → h'.get? b = some o) → tn i h'
  item : ∀ (X : Cx), X.prog = P → X.w = w → X.K = K → X.calm = true → ∀ (i : Nat) (pins : List (Addr × Obj)) (s : Shared) (σ : St) (H : Hp) (E : Value → Shared → Prop), Inv X pins σ H s → (∀ b ∈ fp, FpOk X pins H b) → tn i s.heap → J.go i H →
    wpAny (model P w) X.A (pyNext (.ref it)) (fun r s1 => ∃ u, r = some u ∧
      wpAny (model P w) X.A (letOwnedTupleGo tg (.ref it) u) (fun _ s2 => ∃ x H', Inv X pins σ H' s2 ∧ RelV x u ∧ J.yld i H x H' ∧ tn (i + 1) s2.heap ∧ ∀ b ∈ fp, H' b = none) E s1) E s
  done : ∀ (X : Cx), X.prog = P → X.w = w → X.K = K → X.calm = true → ∀ (i : Nat) (pins : List (Addr × Obj)) (s : Shared) (σ : St) (H : Hp) (E : Value → Shared → Prop), Inv X pins σ H s → (∀ b ∈ fp, FpOk X pins H b) → tn i s.heap → J.stop i H →
    wpAny (model P w) X.A (pyNext (.ref it)) (fun r s1 => r = none ∧ Inv X pins σ H s1) E s
  self : ∀ (A : Around) (i : Nat) (s : Shared) (Q : Value → Shared → Prop) (E : Value → Shared → Prop), tn i s.heap → Q (.ref it) s → wpAny (model P w) A (pyIter (.ref it)) Q E s
abbrev TI := St → Hp → (It → Hp → Prop) → Prop
/-- an iterator has come -/
def PIE (X : Cx) (pins : List (Addr × Obj)) (σ : St) (tg : Expr) (R : It → Hp → Prop) (itv : Value) (s2 : Shared) : Prop :=
  ∃ (it : Addr) (fp : List Addr) (tn : Nat → Heap → Prop) (J : It) (H' : Hp), itv = .ref it ∧ Inv X pins σ H' s2 ∧ Turn X.prog X.w X.K tg J fp it tn ∧ tn 0 s2.heap ∧ (∀ b ∈ fp, FpOk X pins H' b) ∧ R J H'
def PI (X : Cx) (tg iter : Expr) (wi : TI) : Prop :=
  ∀ (pins : List (Addr × Obj)) (s : Shared) (σ : St) (H : Hp) (R : It → Hp → Prop), Inv X pins σ H s → wi σ H R →
    wpAny (model X.prog X.w) X.A (eval iter X.env) (fun v s1 => wpAny (model X.prog X.w) X.A (pyIter v) (PIE X pins σ tg R) X.xe s1) X.xe s

/-- the step ahead of the store is nothing for an iterator that keeps no tuple -/
theorem go_of {M : Model} {A : Around} {E : Value → Shared → Prop} {s : Shared} {tg : Expr} {it : Addr} {u : Value} {o : Obj} {n : String} {vs : Array Value} {Q : Unit → Shared → Prop} (ho : s.heap.get? it = some o) (hc : o.cls = .type n) (hd : o.data = .fields vs)
    (hn : ["enumerate", "zip", "dict_itemiterator", "dict_reverseitemiterator", "odict_iterator", "itertools.zip_longest", "itertools.pairwise"].contains n = false) (hQ : Q () s) : wpAny M A (letOwnedTupleGo tg (.ref it) u) Q E s := by
  unfold letOwnedTupleGo
  cases tg <;> first
    | exact wpAny_pure hQ
    | (cases u <;> first
        | exact wpAny_pure hQ
        | (refine wpAny_bind (wpAny_load ho ?_)
           rw [hc, hd]
           show wpAny M A (if (["enumerate", "zip", "dict_itemiterator", "dict_reverseitemiterator", "odict_iterator", "itertools.zip_longest", "itertools.pairwise"].contains n && vs[0]? == some (rawInt _)) = true then _ else _) Q E s
           rw [if_neg (by intro h; rw [hn, Bool.false_and] at h; cases h)]
           exact wpAny_pure hQ))

/-- the list at a, as it stands at each turn (a loop may append to it) -/
def Itl (K : PySem.W.Frag) (a : Addr) : It :=
  ⟨fun i H => ∃ xs x, SqL K H a xs ∧ xs[i]? = some x, fun i H x H' => H' = H ∧ ∀ xs, SqL K H a xs → xs[i]? = some x, fun i H => ∃ xs, SqL K H a xs ∧ xs.length ≤ i⟩
/-- lo, lo + 1, .. (n of them) -/
def Itr (lo : Int) (n : Nat) : It := ⟨fun i _ => i < n, fun i H x H' => H' = H ∧ x = .int (lo + i), fun i _ => n ≤ i⟩
theorem turn_list {P : Program} {w : World} {K : PySem.W.Frag} {tg : Expr} (a it : Addr) : Turn P w K tg (Itl K a) [it] it (fun i h => h.IsListIter it a i) where
  mem := by simp
  obj := fun i h st b hb => by
    have e : b = it := by simpa using hb
    subst e
    obtain ⟨o, e, c, d⟩ := st
    exact ⟨o, e, fun v z => by rw [d] at z; cases z⟩
  keep := fun i h h' st k => st.at fun o e => k it (by simp) o e
  item := by
    intro X hP hw hK hc i pins s σ H E I hf st hg
    subst hP hw hK
    obtain ⟨xs, x, hq, hx⟩ := hg
    obtain ⟨its, rv, p, hz⟩ := I.list hq
    obtain ⟨u, hu, ru⟩ := rv.get hx
    obtain ⟨f0, f1, f2, f3, f4, f5⟩ := hf it (by simp)
    refine wpAny_pyNext_list_item st p.isList (x := u) (by simpa using hu) fun h' st' sb => ?_
    have I1 : Inv X pins σ H { s with heap := h' } := I.turned (t' := s.toks) (fun b o hb e => (sb.2 b hb).trans e) f0 f1 f3 f4 f5
    obtain ⟨o, e, c, d⟩ := id st'
    exact ⟨u, rfl, go_of (s := { s with heap := h' }) e c d (by decide) ⟨x, H, I1, ru, ⟨rfl, fun ys hy => by rw [I.list_inj hy hq]; exact hx⟩, st', fun b hb => (hf b hb).1⟩⟩
  done := by
    intro X hP hw hK hc i pins s σ H E I hf st hg
    subst hP hw hK
    obtain ⟨xs, hq, hx⟩ := hg
    obtain ⟨its, rv, p, hz⟩ := I.list hq
    obtain ⟨f0, f1, f2, f3, f4, f5⟩ := hf it (by simp)
    have hl := rv.length
    exact wpAny_pyNext_list_end (I.ok.hd hc) st p.isList (by simp; (first | lia | omega)) fun h' eb => ⟨rfl, I.turned (t' := s.toks) (fun b o hb e => eb b o hb e) f0 f1 f3 f4 f5⟩
  self := fun _ _ _ _ _ st h => wpAny_pyIter_listiter st h
theorem turn_range {P : Program} {w : World} {K : PySem.W.Frag} {tg : Expr} (it : Addr) (lo : Int) (n : Nat) : Turn P w K tg (Itr lo n) [it] it (fun i h => IsRangeIter h it (lo + (i : Nat) * 1) ((n : Int) - (i : Nat)) 1) where
  mem := by simp
  obj := fun i h st b hb => by
    have e : b = it := by simpa using hb
    subst e
    exact ⟨_, st, fun v z => by
      have z' : Data.fields _ = Data.cell v := z
      cases z'⟩
  keep := fun i h h' st k => k it (by simp) _ st
  item := by
    intro X hP hw hK hc i pins s σ H E I hf st hg
    subst hP hw hK
    obtain ⟨f0, f1, f2, f3, f4, f5⟩ := hf it (by simp)
    have W := Walks.range (prog := X.prog) (w := X.w) (I.ok.hd hc) it lo 1 n
    refine W.item i s _ _ hg st fun v h' tk hv st' kk => ?_
    obtain ⟨t, rfl⟩ := hv
    have I1 : Inv X pins σ H { s with heap := h', toks := tk } := I.turned (fun b o hb e => kk b o (by simpa using hb) e) f0 f1 f3 f4 f5
    refine ⟨_, rfl, go_of (s := { s with heap := h', toks := tk }) (n := "range_iterator") st' rfl rfl (by decide) ⟨.int (lo + i), H, I1, ⟨t, ?_⟩, ⟨rfl, rfl⟩, st', fun b hb => (hf b hb).1⟩⟩
    rw [Int.mul_one]
  done := by
    intro X hP hw hK hc i pins s σ H E I hf st hg
    subst hP hw hK
    obtain ⟨f0, f1, f2, f3, f4, f5⟩ := hf it (by simp)
    exact wpAny_pyNext_range_end (I.ok.hd hc) st (by have : n ≤ i := hg; (first | lia | omega)) fun h' eb => ⟨rfl, I.turned (t' := s.toks) (fun b o hb e => eb b o hb e) f0 f1 f3 f4 f5⟩
  self := fun _ _ _ _ _ st h => wpAny_pyIter_rangeiter st h
end L2

namespace L2
open PySem PySem.Spec PyProof.Rows
section
variable {X : Cx} {tg : Expr}
def iList (K : PySem.W.Frag) (tl : TE) : TI := fun σ H R => tl σ H fun x H1 => ∃ a, x = .ref a ∧ (∃ xs, SqL K H1 a xs) ∧ R (Itl K a) H1
theorem pi_list {l : Expr} {tl : TE} (hl : PE X l tl) : PI X tg l (iList X.K tl) := by
  intro pins s σ H R I h
  refine thn (hl pins s σ H _ I h) fun v s1 ⟨x, H1, I1, r1, q1⟩ => ?_
  obtain ⟨a, e, ⟨xs, hq⟩, q⟩ := q1
  subst e
  cases r1
  obtain ⟨its, rv, p, hz⟩ := I1.list hq
  refine wpAny_pyIter_list p.isList ?_
  refine ⟨s1.heap.objs.size, [s1.heap.objs.size], _, _, H1, rfl, I1.kept (t' := s1.toks) fun b o e => Heap.get?_push_of_some _ e, turn_list a _, ⟨_, Heap.get?_push_size _ rfl, rfl, rfl⟩, fun b hb => ?_, q⟩
  have e : b = s1.heap.objs.size := by simpa using hb
  subst e
  exact I1.fpOk (Nat.le_refl _) (I1.hok.fresh (Nat.le_refl _))
/-- a range object just made, walked -/
theorem range_it {pins : List (Addr × Obj)} {σ : St} {H : Hp} {s : Shared} {R : It → Hp → Prop} {E : Value → Shared → Prop} {lo hi : Int} {t u v : Tok} {tk : Nat} (I : Inv X pins σ H s) (h1 : -(2 ^ 62) ≤ lo) (h2 : lo < 2 ^ 62) (h3 : -(2 ^ 62) ≤ hi) (h4 : hi < 2 ^ 62)
    (q : R (Itr lo (hi - lo).toNat) H) : wpAny (model X.prog X.w) X.A (pyIter (.ref s.heap.objs.size)) (PIE X pins σ tg R) E { s with heap := s.heap.push { cls := .type "range", data := .fields #[.int lo t, .int hi u, .int 1 v] }, toks := tk } := by
  refine wpAny_pyIter_range (IsRange.new ..) (small_one h1 h2 h3 h4) ?_
  have I1 : Inv X pins σ H { s with heap := s.heap.push { cls := .type "range", data := .fields #[.int lo t, .int hi u, .int 1 v] }, toks := tk } := I.kept fun b o e => Heap.get?_push_of_some _ e
  refine ⟨(s.heap.push { cls := .type "range", data := .fields #[.int lo t, .int hi u, .int 1 v] }).objs.size, [(s.heap.push { cls := .type "range", data := .fields #[.int lo t, .int hi u, .int 1 v] }).objs.size], _, _, H, rfl,
    I1.kept (t' := tk) fun b o e => Heap.get?_push_of_some _ e, turn_range _ lo (hi - lo).toNat, ?_, fun b hb => ?_, q⟩
  · have e1 : lo + ((0 : Nat) : Int) * 1 = lo := by simp
    have e2 : (((hi - lo).toNat : Nat) : Int) - ((0 : Nat) : Int) = Builtin.Range.rangeSize lo hi 1 := by rw [rangeSize_one]; split <;> (first | lia | omega)
    show IsRangeIter _ _ (lo + ((0 : Nat) : Int) * 1) ((((hi - lo).toNat : Nat) : Int) - ((0 : Nat) : Int)) 1
    rw [e1, e2]
    exact Heap.get?_push_size _ rfl
  · have e : b = (s.heap.push { cls := .type "range", data := .fields #[.int lo t, .int hi u, .int 1 v] }).objs.size := by simpa using hb
    subst e
    exact I1.fpOk (Nat.le_refl _) (I1.hok.fresh (Nat.le_refl _))
def iRng1 (ta : TA) : TI := fun σ H R => ta σ H fun vs H1 => ∃ j : Int, vs = [.int j] ∧ -(2 ^ 62) ≤ j ∧ j < 2 ^ 62 ∧ R (Itr 0 j.toNat) H1
def iRng2 (ta : TA) : TI := fun σ H R => ta σ H fun vs H1 => ∃ i j : Int, vs = [.int i, .int j] ∧ (-(2 ^ 62) ≤ i ∧ i < 2 ^ 62 ∧ -(2 ^ 62) ≤ j ∧ j < 2 ^ 62) ∧ R (Itr i (j - i).toNat) H1
theorem pi_range1 {a : Expr} {ta : TA} {p pos : Pos} (hg : Gl X "range") (hm : X.mg "range" = none) (ha : PA X [a] ta) (hs : starEach [a] X.env = [(false, eval a X.env)] := by rfl) : PI X tg (.Call (.Name "range" p) [a] [] pos) (iRng1 ta) := by
  intro pins s σ H R I h
  refine Call_ (ld_blt I hg hm boot_range (PyProof.Rows.callWith_type1 (thn (ha pos pins s σ H _ I h) fun us s1 ⟨vs, H1, I1, r1, q1⟩ => ?_) hs rfl))
  obtain ⟨j, e, q1, q2, q⟩ := q1
  subst e
  cases r1 with
  | cons r rr =>
    cases rr
    obtain ⟨t, rfl⟩ := r
    exact call_range_1 (range_it I1 (by (first | lia | omega)) (by (first | lia | omega)) q1 q2 (by simpa using q))
theorem pi_range2 {a b : Expr} {ta : TA} {p pos : Pos} (hg : Gl X "range") (hm : X.mg "range" = none) (ha : PA X [a, b] ta) (hs : starEach [a, b] X.env = [(false, eval a X.env), (false, eval b X.env)] := by rfl) (hs2 : starEach [b] X.env = [(false, eval b X.env)] := by rfl) :
    PI X tg (.Call (.Name "range" p) [a, b] [] pos) (iRng2 ta) := by
  intro pins s σ H R I h
  refine Call_ (ld_blt I hg hm boot_range (PyProof.Rows.callWith_type1 (thn (ha pos pins s σ H _ I h) fun us s1 ⟨vs, H1, I1, r1, q1⟩ => ?_) (by rw [hs, hs2]) (by rw [hs2]; rfl)))
  obtain ⟨i, j, e, ⟨q1, q2, q3, q4⟩, q⟩ := q1
  subst e
  cases r1 with
  | cons r rr =>
    cases rr with
    | cons r' rr =>
      cases rr
      obtain ⟨t, rfl⟩ := r
      obtain ⟨t', rfl⟩ := r'
      exact call_range_2 (range_it I1 q1 q2 q3 q4 q)

/-- W: the invariant by the turn and a measure; N: what the body is to reach -/
def tFor (wi : TI) (g : TG) (tb : TS) : TS := fun D σ H => wi σ H fun J H1 => ∃ W : Nat → Nat → St → Hp → Prop, (∃ m, W 0 m σ H1) ∧ ∀ i m σ H, W i m σ H →
  (J.stop i H ∧ D.nx σ H) ∨ (J.go i H ∧ ∃ N : St → Hp → Prop, (∀ σ' H', N σ' H' → ∃ m', m' < m ∧ W (i + 1) m' σ' H') ∧ ∀ x H', J.yld i H x H' → g x σ H' fun σ2 H2 => tb { D with nx := N, ct := N, bk := D.nx } σ2 H2)
/-- the records at fp as they stand -/
def pinsAt (fp : List Addr) (h : Heap) : List (Addr × Obj) := fp.filterMap fun b => (h.get? b).map fun o => (b, o)
theorem mem_pinsAt {fp : List Addr} {h : Heap} {b : Addr} {o : Obj} (hb : b ∈ fp) (e : h.get? b = some o) : (b, o) ∈ pinsAt fp h := List.mem_filterMap.mpr ⟨b, hb, by rw [e]; rfl⟩
theorem of_pinsAt {fp : List Addr} {h : Heap} {p : Addr × Obj} (hp : p ∈ pinsAt fp h) : p.1 ∈ fp ∧ h.get? p.1 = some p.2 := by
  obtain ⟨b, hb, e⟩ := List.mem_filterMap.mp hp
  cases q : h.get? b with
  | none => rw [q] at e; cases e
  | some o =>
    rw [q] at e
    have e' : (b, o) = p := Option.some.inj e
    subst e'
    exact ⟨hb, q⟩
theorem Inv.pinned {pins : List (Addr × Obj)} {σ : St} {H : Hp} {s : Shared} {fp : List Addr} (I : Inv X pins σ H s) (hf : ∀ b ∈ fp, FpOk X pins H b) (ho : ∀ b ∈ fp, ∃ o, s.heap.get? b = some o ∧ ∀ v, o.data ≠ .cell v) : Inv X (pins ++ pinsAt fp s.heap) σ H s :=
  I.pins_of fun p hp => (List.mem_append.mp hp).elim (fun z => I.pin p (List.mem_append_right _ z)) fun z => by
    obtain ⟨hb, e⟩ := of_pinsAt z
    obtain ⟨f0, f1, f2, _⟩ := hf p.1 hb
    obtain ⟨o, e', d⟩ := ho p.1 hb
    rw [e] at e'; cases e'
    exact ⟨e, f0, f1, f2, d⟩
theorem Inv.unpinned {pins pl : List (Addr × Obj)} {σ : St} {H : Hp} {s : Shared} (I : Inv X (pins ++ pl) σ H s) : Inv X pins σ H s := I.pins_of fun p hp => I.pin p (List.mem_append_right _ (List.mem_append_left _ hp))
theorem ps_for {iter : Expr} {body : List Stmt} {wi : TI} {g : TG} {tb : TS} {pos : Pos} (hp : PassesOwn (model X.prog X.w) X.A X.env X.xe) (hc : X.calm = true) (hi : PI X tg iter wi) (hg : PG X tg g) (hb : PSs X body tb)
    (hs : ∀ x, foldedSetIterable iter X.env x = pure x := by intro _; rfl) : PS X (.For tg iter body [] pos) (tFor wi g tb) := by
  intro pins s σ H D I h
  refine wpAny_For (thn (hi pins s σ H _ I h) fun v s1 h1 => thn h1 fun itv s2 h2 => ?_) hs
  obtain ⟨it, fp, tn, J, H2, e, I2, T, st2, f2, W, ⟨m0, w0⟩, turn⟩ := h2
  subst e
  -- what stays true of the iterator's objects through the loop
  have stat : ∀ {H' : Hp}, (∀ b ∈ fp, H' b = none) → ∀ b ∈ fp, FpOk X pins H' b := fun hn b hb => ⟨hn b hb, (f2 b hb).2⟩
  refine codeAny_forLoop_any (fun n s' => ∃ i σ' H', Inv X pins σ' H' s' ∧ tn i s'.heap ∧ (∀ b ∈ fp, H' b = none) ∧ W i n σ' H') ?_ m0 ⟨0, σ, H2, I2, st2, fun b hb => (f2 b hb).1, w0⟩
  rintro n s3 ⟨i, σ3, H3, I3, st3, fr3, w3⟩
  rcases turn i n σ3 H3 w3 with ⟨stop, qn⟩ | ⟨go, N, hN, step⟩
  · refine wpAny_passesOwn hp (thn (T.done X rfl rfl rfl hc i pins s3 σ3 H3 X.xe I3 (stat fr3) st3 stop) fun r s4 ⟨hr, I4⟩ => ?_)
    subst hr
    exact wpAny_execs_nil ⟨σ3, H3, I4, qn⟩
  · refine wpAny_passesOwn hp (thn (T.item X rfl rfl rfl hc i pins s3 σ3 H3 X.xe I3 (stat fr3) st3 go) fun r s4 ⟨u, hr, h4⟩ => ?_)
    subst hr
    refine wpAny_passesOwn hp (thn h4 fun _ s5 ⟨x, H5, I5, r5, y5, st5, fr5⟩ => ?_)
    have I5' := I5.pinned (stat fr5) (T.obj _ _ st5)
    refine wpAny_passesOwn hp (thn (hg _ s5 σ3 H5 x u _ I5' r5 (step x H5 y5)) fun _ s6 ⟨σ6, H6, I6, q6⟩ => ?_)
    refine wpAny_passesOwn hp (thn (hb _ s6 σ6 H6 _ I6 q6) fun f s7 q7 => ?_)
    have again : ∀ {σ7 : St} {H7 : Hp}, Inv X (pins ++ pinsAt fp s5.heap) σ7 H7 s7 → N σ7 H7 → ∃ m, m < n ∧ ∃ i σ' H', Inv X pins σ' H' s7 ∧ tn i s7.heap ∧ (∀ b ∈ fp, H' b = none) ∧ W i m σ' H' := fun {σ7 H7} I7 n7 => by
      obtain ⟨m', hm, w7⟩ := hN σ7 H7 n7
      refine ⟨m', hm, i + 1, σ7, H7, I7.unpinned, T.keep _ _ _ st5 fun b hb o e => (I7.pin (b, o) (List.mem_append_right _ (List.mem_append_right _ (mem_pinsAt hb e)))).1, fun b hb => ?_, w7⟩
      obtain ⟨o, e, d⟩ := T.obj _ _ st5 b hb
      exact (I7.pin (b, o) (List.mem_append_right _ (List.mem_append_right _ (mem_pinsAt hb e)))).2.1
    cases f with
    | next => obtain ⟨σ7, H7, I7, n7⟩ := q7; exact again I7 n7
    | cont => obtain ⟨σ7, H7, I7, n7⟩ := q7; exact again I7 n7
    | brk => obtain ⟨σ7, H7, I7, q7⟩ := q7; exact ⟨σ7, H7, I7.unpinned, q7⟩
    | ret v => obtain ⟨x7, σ7, H7, I7, r7, q7⟩ := q7; exact ⟨x7, σ7, H7, I7.unpinned, r7, q7⟩
end

theorem for_range {lo : Int} {n : Nat} {g : TG} {tb : TS} {D : Ends} {σ : St} {H : Hp} (Pv : Nat → St → Hp → Prop) (h0 : Pv 0 σ H)
    (hs : ∀ i σ H, i < n → Pv i σ H → g (.int (lo + i)) σ H fun σ2 H2 => tb { D with nx := Pv (i + 1), ct := Pv (i + 1), bk := D.nx } σ2 H2) (hd : ∀ σ H, Pv n σ H → D.nx σ H) :
    ∃ W : Nat → Nat → St → Hp → Prop, (∃ m, W 0 m σ H) ∧ ∀ i m σ H, W i m σ H →
      ((Itr lo n).stop i H ∧ D.nx σ H) ∨ ((Itr lo n).go i H ∧ ∃ N : St → Hp → Prop, (∀ σ' H', N σ' H' → ∃ m', m' < m ∧ W (i + 1) m' σ' H') ∧ ∀ x H', (Itr lo n).yld i H x H' → g x σ H' fun σ2 H2 => tb { D with nx := N, ct := N, bk := D.nx } σ2 H2) := by
  refine ⟨fun i m σ H => m = n - i ∧ i ≤ n ∧ Pv i σ H, ⟨n, by simp, Nat.zero_le _, h0⟩, ?_⟩
  rintro i m σ H ⟨rfl, hi, p⟩
  by_cases hlt : i < n
  · refine .inr ⟨hlt, Pv (i + 1), fun σ' H' p' => ⟨n - (i + 1), by (first | lia | omega), rfl, hlt, p'⟩, fun x H' y => ?_⟩
    obtain ⟨e, y⟩ := y
    subst e y
    exact hs i σ _ hlt p
  · have e : i = n := by (first | lia | omega)
    subst e
    exact .inl ⟨Nat.le_refl _, hd σ H p⟩
end L2

namespace L2
open PySem PySem.Spec PyProof.Rows

abbrev R2 := V → V → Hp → VK → Prop
/-- a two-place operation on values: f is binaryOp op, inplaceOp op or compareOp op -/
def OpR (X : Cx) (f : Value → Value → Sem Value) (r : R2) : Prop :=
  ∀ (pins : List (Addr × Obj)) (s : Shared) (σ : St) (H : Hp) (x y : V) (v u : Value) (Q : VK), Inv X pins σ H s → RelV x v → RelV y u → r x y H Q →
    wpAny (model X.prog X.w) X.A (f v u) (EP X pins σ Q) X.xe s
/-- a one-place operation -/
def UnR (X : Cx) (f : Value → Sem Value) (r : V → Hp → VK → Prop) : Prop :=
  ∀ (pins : List (Addr × Obj)) (s : Shared) (σ : St) (H : Hp) (x : V) (v : Value) (Q : VK), Inv X pins σ H s → RelV x v → r x H Q →
    wpAny (model X.prog X.w) X.A (f v) (EP X pins σ Q) X.xe s
/-- a call of a value that is known (a builtin, a type) with values -/
def CallR (X : Cx) (f : Value) (r : List V → Hp → VK → Prop) : Prop :=
  ∀ (pins : List (Addr × Obj)) (s : Shared) (σ : St) (H : Hp) (xs : List V) (us : List Value) (Q : VK), Inv X pins σ H s → Vals xs us → r xs H Q →
    wpAny (model X.prog X.w) X.A (call f us) (EP X pins σ Q) X.xe s
def tOp (r : R2) (ta tb : TE) : TE := fun σ H Q => ta σ H fun x H1 => tb σ H1 fun y H2 => r x y H2 Q
def tUn (r : V → Hp → VK → Prop) (ta : TE) : TE := fun σ H Q => ta σ H fun x H1 => r x H1 Q
/-- ints in, under C, and a value out -/
def rI (C : Int → Int → Prop) (g : Int → Int → V) : R2 := fun x y H Q => ∃ i j, x = .int i ∧ y = .int j ∧ C i j ∧ Q (g i j) H
def rI0 (g : Int → Int → V) : R2 := fun x y H Q => ∃ i j, x = .int i ∧ y = .int j ∧ Q (g i j) H
def rU (g : Int → V) : V → Hp → VK → Prop := fun x H Q => ∃ i, x = .int i ∧ Q (g i) H

section
variable {X : Cx} {a b c : Expr} {ta tb tc : TE} {pos : Pos}

theorem binT (ha : PE X a ta) (hb : PE X b tb) {pins : List (Addr × Obj)} {s : Shared} {σ : St} {H : Hp} {R : V → V → Hp → Prop} (I : Inv X pins σ H s)
    (h : ta σ H fun x H1 => tb σ H1 fun y H2 => R x y H2) {Q : Value → Shared → Prop} {f : Value → Value → Sem Value}
    (hf : ∀ v u s2 x y H2, Inv X pins σ H2 s2 → RelV x v → RelV y u → R x y H2 → wpAny (model X.prog X.w) X.A (f v u) Q X.xe s2) :
    wpAny (model X.prog X.w) X.A (eval a X.env) (fun v s₁ => wpAny (model X.prog X.w) X.A (eval b X.env) (fun u s₂ => wpAny (model X.prog X.w) X.A (f v u) Q X.xe s₂) X.xe s₁) X.xe s := by
  refine thn (ha pins s σ H _ I h) fun v s1 ⟨x, H1, I1, r1, q1⟩ => ?_
  refine thn (hb pins s1 σ H1 _ I1 q1) fun u s2 ⟨y, H2, I2, r2, q2⟩ => ?_
  exact hf v u s2 x y H2 I2 r1 r2 q2

theorem pe_op {op : Operator} {r : R2} (ho : OpR X (binaryOp op) r) (ha : PE X a ta) (hb : PE X b tb) : PE X (.BinOp a op b pos) (tOp r ta tb) := by
  intro pins s σ H Q I h
  exact wpAny_BinOp (binT ha hb I h fun v u s2 x y H2 I2 rx ry q => ho pins s2 σ H2 x y v u Q I2 rx ry q)
theorem pe_un {op : UnaryOp} {r : V → Hp → VK → Prop} (ho : UnR X (unaryOp op) r) (ha : PE X a ta) : PE X (.UnaryOp op a pos) (tUn r ta) := by
  intro pins s σ H Q I h
  exact UnaryOp_ (thn (ha pins s σ H _ I h) fun v s1 ⟨x, H1, I1, r1, q1⟩ => ho pins s1 σ H1 x v Q I1 r1 q1)
theorem opI {f : Value → Value → Sem Value} {C : Int → Int → Prop} {g : Int → Int → Int}
    (rule : ∀ (i j : Int) (t u : Tok) (s : Shared) (Q : Value → Shared → Prop) (E : Value → Shared → Prop), C i j → Q (.int (g i j) s.toks) { s with toks := s.toks + 1 } → wpAny (model X.prog X.w) X.A (f (.int i t) (.int j u)) Q E s) :
    OpR X f (rI C fun i j => .int (g i j)) := by
  intro pins s σ H x y v u Q I rx ry h
  obtain ⟨i, j, rfl, rfl, hc, q⟩ := h
  obtain ⟨t, rfl⟩ := rx
  obtain ⟨t', rfl⟩ := ry
  exact rule i j t t' s _ _ hc ⟨.int (g i j), H, I.tok _, ⟨_, rfl⟩, q⟩
theorem opI0 {f : Value → Value → Sem Value} {g : Int → Int → Int}
    (rule : ∀ (i j : Int) (t u : Tok) (s : Shared) (Q : Value → Shared → Prop) (E : Value → Shared → Prop), Q (.int (g i j) s.toks) { s with toks := s.toks + 1 } → wpAny (model X.prog X.w) X.A (f (.int i t) (.int j u)) Q E s) :
    OpR X f (rI0 fun i j => .int (g i j)) := by
  intro pins s σ H x y v u Q I rx ry h
  obtain ⟨i, j, rfl, rfl, q⟩ := h
  obtain ⟨t, rfl⟩ := rx
  obtain ⟨t', rfl⟩ := ry
  exact rule i j t t' s _ _ ⟨.int (g i j), H, I.tok _, ⟨_, rfl⟩, q⟩
theorem opB0 {f : Value → Value → Sem Value} {g : Int → Int → Bool}
    (rule : ∀ (i j : Int) (t u : Tok) (s : Shared) (Q : Value → Shared → Prop) (E : Value → Shared → Prop), Q (.bool (g i j)) s → wpAny (model X.prog X.w) X.A (f (.int i t) (.int j u)) Q E s) :
    OpR X f (rI0 fun i j => .bl (g i j)) := by
  intro pins s σ H x y v u Q I rx ry h
  obtain ⟨i, j, rfl, rfl, q⟩ := h
  obtain ⟨t, rfl⟩ := rx
  obtain ⟨t', rfl⟩ := ry
  exact rule i j t t' s _ _ ⟨.bl (g i j), H, I, rfl, q⟩

def CDiv (i j : Int) : Prop := 0 < j ∧ j < 1073741824
def CPow (i j : Int) : Prop := 0 ≤ j ∧ j ≤ 1000000 ∧ i.natAbs < 2 ^ 64
def CMul (i j : Int) : Prop := (-(2 ^ 64) < i ∧ i < 2 ^ 64) ∨ (-(2 ^ 64) < j ∧ j < 2 ^ 64)
theorem CMul.ok {i j : Int} (h : CMul i j) : IntMulOk i j := by
  rcases h with ⟨h1, h2⟩ | ⟨h1, h2⟩
  · exact .of_left (intBits_le_64 h1 h2)
  · exact .of_right (intBits_le_64 h1 h2)
theorem op_add : OpR X (binaryOp .Add) (rI0 fun i j => .int (i + j)) := opI0 fun _ _ _ _ _ _ _ q => add_int q
theorem op_sub : OpR X (binaryOp .Sub) (rI0 fun i j => .int (i - j)) := opI0 fun _ _ _ _ _ _ _ q => sub_int q
theorem op_mul : OpR X (binaryOp .Mult) (rI CMul fun i j => .int (i * j)) := opI fun _ _ _ _ _ _ _ hc q => mul_int q hc.ok
/-- // by a positive divisor -/
theorem op_fdiv : OpR X (binaryOp .FloorDiv) (rI CDiv fun i j => .int (i / j)) := opI fun i j _ _ _ _ _ hc q => by
  have h1 : (0 : Int) < j := hc.1
  have h2 : j < 1073741824 := hc.2
  exact floordiv_int (by (first | lia | omega)) (by rw [Int.fdiv_eq_ediv_of_nonneg i (by (first | lia | omega))]; exact q) (.inl (PyProof.noPylong_small (by (first | lia | omega))))
/-- % by a positive divisor of any size -/
theorem op_mod : OpR X (binaryOp .Mod) (rI (fun _ j => 0 < j) fun i j => .int (i % j)) := opI fun i j _ _ _ _ _ hc q => by
  have h1 : (0 : Int) < j := hc
  exact mod_int' (by (first | lia | omega)) (by rw [Int.fmod_eq_emod_of_nonneg i (by (first | lia | omega))]; exact q)
theorem op_pow : OpR X (binaryOp .Pow) (rI CPow fun i j => .int (i ^ j.toNat)) := opI fun _ _ _ _ _ _ _ hc q => pow_int_small hc.1 hc.2.1 hc.2.2 q
theorem unI {f : Value → Sem Value} {g : Int → Int}
    (rule : ∀ (i : Int) (t : Tok) (s : Shared) (Q : Value → Shared → Prop) (E : Value → Shared → Prop), Q (.int (g i) s.toks) { s with toks := s.toks + 1 } → wpAny (model X.prog X.w) X.A (f (.int i t)) Q E s) :
    UnR X f (rU fun i => .int (g i)) := by
  intro pins s σ H x v Q I rx h
  obtain ⟨i, rfl, q⟩ := h
  obtain ⟨t, rfl⟩ := rx
  exact rule i t s _ _ ⟨.int (g i), H, I.tok _, ⟨_, rfl⟩, q⟩
theorem un_neg : UnR X (unaryOp .USub) (rU fun i => .int (-i)) := unI fun _ _ _ _ _ q => neg_int q
end

/-- the scalars that == tells apart as data does -/
def scal : V → V → Bool
  | .non, .non => true | .non, .int _ => true | .int _, .non => true | .non, .bl _ => true | .bl _, .non => true | .non, .str _ => true | .str _, .non => true
  | .int _, .int _ => true | .bl _, .bl _ => true | .str _, .str _ => true | .byt _, .byt _ => true
  | .int _, .str _ => true | .str _, .int _ => true | .bl _, .str _ => true | .str _, .bl _ => true
  | _, _ => false
def rEq : R2 := fun x y H Q => scal x y = true ∧ Q (.bl (decide (x = y))) H
def rNe : R2 := fun x y H Q => scal x y = true ∧ Q (.bl (!decide (x = y))) H

theorem dec_int {i j : Int} : decide (V.int i = V.int j) = (i == j) := by
  rw [Bool.eq_iff_iff]
  simp
theorem dec_bl {i j : Bool} : decide (V.bl i = V.bl j) = (i == j) := by
  rw [Bool.eq_iff_iff]
  simp
theorem dec_str {i j : Str} : decide (V.str i = V.str j) = (i == j) := by
  rw [Bool.eq_iff_iff]
  simp
theorem dec_byt {i j : Array UInt8} : decide (V.byt i = V.byt j) = (i.toList == j.toList) := by
  rw [Bool.eq_iff_iff]
  cases i
  cases j
  simp

section
variable {X : Cx} {a b c : Expr} {ta tb tc : TE} {pos : Pos}
theorem fin_bl {pins : List (Addr × Obj)} {σ : St} {H : Hp} {s : Shared} {Q : VK} {k k' : Bool} (I : Inv X pins σ H s) (q : Q (.bl k) H) (e : k = k') : EP X pins σ Q (.bool k') s := by
  subst e
  exact ⟨.bl k, H, I, rfl, q⟩
theorem op_eq : OpR X (compareOp .Eq) rEq := by
  intro pins s σ H x y v u Q I rx ry h
  obtain ⟨hs, q⟩ := h
  cases x with
  | non =>
    cases rx
    cases y with
    | non => cases ry; exact PySem.EqNone.eq_none_none (fin_bl I q (by simp))
    | bl j => cases ry; exact PySem.EqNone.eq_none_bool (fin_bl I q (by simp))
    | int j => obtain ⟨t', rfl⟩ := ry; exact PySem.EqNone.eq_none_int (fin_bl I q (by simp))
    | str j => obtain ⟨t', rfl⟩ := ry; exact PySem.EqNone.eq_none_str (fin_bl I q (by simp))
    | _ => exact absurd (show false = true from hs) Bool.false_ne_true
  | bl i =>
    cases rx
    cases y with
    | non => cases ry; exact PySem.EqNone.eq_bool_none (fin_bl I q (by simp))
    | bl j => cases ry; exact eq_bool (fin_bl I q dec_bl)
    | str j => obtain ⟨t', rfl⟩ := ry; exact PySem.EqMixed.eq_bool_str (fin_bl I q (by simp))
    | _ => exact absurd (show false = true from hs) Bool.false_ne_true
  | int i =>
    obtain ⟨t, rfl⟩ := rx
    cases y with
    | non => cases ry; exact PySem.EqNone.eq_int_none (fin_bl I q (by simp))
    | int j => obtain ⟨t', rfl⟩ := ry; exact eq_int (fin_bl I q dec_int)
    | str j => obtain ⟨t', rfl⟩ := ry; exact PySem.EqMixed.eq_int_str (fin_bl I q (by simp))
    | _ => exact absurd (show false = true from hs) Bool.false_ne_true
  | str i =>
    obtain ⟨t, rfl⟩ := rx
    cases y with
    | non => cases ry; exact PySem.EqNone.eq_str_none (fin_bl I q (by simp))
    | bl j => cases ry; exact PySem.EqMixed.eq_str_bool (fin_bl I q (by simp))
    | int j => obtain ⟨t', rfl⟩ := ry; exact PySem.EqMixed.eq_str_int (fin_bl I q (by simp))
    | str j => obtain ⟨t', rfl⟩ := ry; exact eq_str (fin_bl I q dec_str)
    | _ => exact absurd (show false = true from hs) Bool.false_ne_true
  | byt i =>
    obtain ⟨t, rfl⟩ := rx
    cases y with
    | byt j => obtain ⟨t', rfl⟩ := ry; exact PySem.W.eq_bytes (fin_bl I q dec_byt)
    | _ => exact absurd (show false = true from hs) Bool.false_ne_true
  | _ => cases y <;> exact absurd (show false = true from hs) Bool.false_ne_true
theorem op_ne : OpR X (compareOp .NotEq) rNe := by
  intro pins s σ H x y v u Q I rx ry h
  obtain ⟨hs, q⟩ := h
  cases x with
  | non =>
    cases rx
    cases y with
    | non => cases ry; exact PySem.EqNone.ne_none_none (fin_bl I q (by simp))
    | bl j => cases ry; exact PySem.EqNone.ne_none_bool (fin_bl I q (by simp))
    | int j => obtain ⟨t', rfl⟩ := ry; exact PySem.EqNone.ne_none_int (fin_bl I q (by simp))
    | str j => obtain ⟨t', rfl⟩ := ry; exact PySem.EqNone.ne_none_str (fin_bl I q (by simp))
    | _ => exact absurd (show false = true from hs) Bool.false_ne_true
  | bl i =>
    cases rx
    cases y with
    | non => cases ry; exact PySem.EqNone.ne_bool_none (fin_bl I q (by simp))
    | bl j => cases ry; exact ne_bool (fin_bl I q (congrArg not dec_bl))
    | str j => obtain ⟨t', rfl⟩ := ry; exact PySem.EqMixed.ne_bool_str (fin_bl I q (by simp))
    | _ => exact absurd (show false = true from hs) Bool.false_ne_true
  | int i =>
    obtain ⟨t, rfl⟩ := rx
    cases y with
    | non => cases ry; exact PySem.EqNone.ne_int_none (fin_bl I q (by simp))
    | int j => obtain ⟨t', rfl⟩ := ry; exact ne_int (fin_bl I q (congrArg not dec_int))
    | str j => obtain ⟨t', rfl⟩ := ry; exact PySem.EqMixed.ne_int_str (fin_bl I q (by simp))
    | _ => exact absurd (show false = true from hs) Bool.false_ne_true
  | str i =>
    obtain ⟨t, rfl⟩ := rx
    cases y with
    | non => cases ry; exact PySem.EqNone.ne_str_none (fin_bl I q (by simp))
    | bl j => cases ry; exact PySem.EqMixed.ne_str_bool (fin_bl I q (by simp))
    | int j => obtain ⟨t', rfl⟩ := ry; exact PySem.EqMixed.ne_str_int (fin_bl I q (by simp))
    | str j => obtain ⟨t', rfl⟩ := ry; exact ne_str (fin_bl I q (congrArg not dec_str))
    | _ => exact absurd (show false = true from hs) Bool.false_ne_true
  | byt i =>
    obtain ⟨t, rfl⟩ := rx
    cases y with
    | byt j => obtain ⟨t', rfl⟩ := ry; exact PySem.W.ne_bytes (fin_bl I q (congrArg not dec_byt))
    | _ => exact absurd (show false = true from hs) Bool.false_ne_true
  | _ => cases y <;> exact absurd (show false = true from hs) Bool.false_ne_true

theorem op_lt : OpR X (compareOp .Lt) (rI0 fun i j => .bl (decide (i < j))) := opB0 fun _ _ _ _ _ _ _ q => lt_int q
theorem op_le : OpR X (compareOp .LtE) (rI0 fun i j => .bl (decide (i ≤ j))) := opB0 fun _ _ _ _ _ _ _ q => le_int q
theorem op_gt : OpR X (compareOp .Gt) (rI0 fun i j => .bl (decide (j < i))) := opB0 fun _ _ _ _ _ _ _ q => gt_int q
theorem nomark (b : Expr) {op : CmpOp} (h : op ≠ .In := by decide) (h2 : op ≠ .NotIn := by decide) : behindInMarks op b = false := by
  have e1 : (op == CmpOp.In) = false := by cases op <;> first | rfl | exact absurd rfl h
  have e2 : (op == CmpOp.NotIn) = false := by cases op <;> first | rfl | exact absurd rfl h2
  cases b <;> simp [behindInMarks, e1, e2]
/-- a comparison as a value; hm: nomark b, or (for in, not in) by with_unfolding_all rfl -/
theorem pe_cmpR {op : CmpOp} {r : R2} (ho : OpR X (compareOp op) r) (ha : PE X a ta) (hb : PE X b tb) (hm : behindInMarks op b = false) : PE X (.Compare a [op] [b] pos) (tOp r ta tb) := by
  intro pins s σ H Q I h
  exact wpAny_Compare1 (binT ha hb I h fun v u s2 x y H2 I2 rx ry q => ho pins s2 σ H2 x y v u Q I2 rx ry q) hm
/-- a reading of a value as a test -/
def tTest (t : TE) : TT := fun σ H Q => t σ H fun x H' => ∃ k, x = .bl k ∧ Q k H'
theorem pt_cmpR {op : CmpOp} {r : R2} (ho : OpR X (compareOp op) r) (ha : PE X a ta) (hb : PE X b tb) (hm : behindInMarks op b = false) : PT X (.Compare a [op] [b] pos) (tTest (tOp r ta tb)) := by
  intro pins s σ H Q I h
  refine wpAny_isTrue_Compare1 (thn (ha pins s σ H _ I h) fun v s1 ⟨x, H1, I1, r1, q1⟩ => thn (hb pins s1 σ H1 _ I1 q1) fun u s2 ⟨y, H2, I2, r2, q2⟩ =>
    thn (ho pins s2 σ H2 x y v u _ I2 r1 r2 q2) fun c s3 ⟨z, H3, I3, r3, k, e, q3⟩ => ?_) hm
  subst e
  cases r3
  exact wpAny_truthy_bool ⟨H3, I3, q3⟩
theorem line63 : (sizeLine : Nat) < 2 ^ 63 := by rw [sizeLine_eq]; decide
theorem vals1 {x : V} {us : List Value} (r : Vals [x] us) : ∃ u, us = [u] ∧ RelV x u := by
  cases r with
  | cons r1 r2 => cases r2; exact ⟨_, rfl, r1⟩
theorem vals2 {x y : V} {us : List Value} (r : Vals [x, y] us) : ∃ u w', us = [u, w'] ∧ RelV x u ∧ RelV y w' := by
  cases r with
  | cons r1 r2 =>
    cases r2 with
    | cons r3 r4 => cases r4; exact ⟨_, _, rfl, r1, r3⟩
end
end L2

namespace L2
open PySem PySem.Spec PyProof.Rows

structure ObjM (h : Heap) (x dx C : Addr) (mA : Str → Option Value) : Prop where
  obj : h.get? x = some (PySem.W.instObj C dx)
  ns : h.Ns1 dx mA
  ne : dx ≠ x

theorem lookIn_ns {h : Heap} {dx : Addr} {mA : Str → Option Value} (n : h.Ns1 dx mA) : ∃ od, h.get? dx = some od ∧ ∀ name, PySem.W.lookIn name od = some (mA name) := by
  obtain ⟨o, es, ep, ho, hd, hk, _, hm⟩ := n
  refine ⟨o, ho, fun name => ?_⟩
  have e := hm name
  unfold nsFind findBy at e
  rw [← Array.find?_toList] at e
  unfold PySem.W.lookIn
  rw [hd]
  dsimp only
  split
  · rename_i y q
    rw [q] at e
    exact congrArg some e
  · rename_i q
    rw [q] at e
    have a : es.toList.any (·.refKey) = false := by
      rw [List.any_eq_false]
      intro y hy
      obtain ⟨z, t, hkey⟩ := hk y (Array.mem_toList_iff.mp hy)
      simp [DictEntry.refKey, hkey]
    have a' : ¬ es.toList.any (·.refKey) = true := by rw [a]; exact Bool.false_ne_true
    rw [if_neg a']
    exact congrArg some e

theorem ObjM.look {h : Heap} {x dx C : Addr} {mA : Str → Option Value} (I : ObjM h x dx C mA) : ∃ od, PySem.W.InstAt h x (PySem.W.instObj C dx) C (some od) ∧ ∀ name, PySem.W.lookIn name od = some (mA name) :=
  let ⟨od, ho, hl⟩ := lookIn_ns I.ns
  ⟨od, ⟨I.obj, rfl, rfl, ho⟩, hl⟩

section
variable {prog : Program} {w : World} {A : Around} {E : Value → Shared → Prop} {s : Shared} {K : PySem.W.Frag} {x dx C f : Addr} {mA : Str → Option Value} {name : Str} {v : Value}

end

section
variable {P : Program} {w : World} {H H' : Hp} {h h' : Heap} {a C dx : Addr} {fs fs' : List (Str × V)}
theorem ins_get (hok : HOk P w H h) (e : H a = some (.ins C dx fs)) : ∃ mA, ObjM h a dx C mA ∧ (∀ f, RelO (fs.lookup f) (mA f)) ∧ PySem.Within mA (fs.map (·.1)) ∧ fs.length ≤ 1000 ∧ H dx = some (.own a) := by
  obtain ⟨d, z, ne, ob, mA, n, r, q⟩ := (show ObjOk P w H h a (.ins C dx fs) from hok a _ e)
  exact ⟨mA, ⟨ob, n, ne⟩, r, q, z, d⟩
end

structure Cls (K : PySem.W.Frag) (C : Addr) : Prop where
  pg : PySem.W.plainGet K C Str.empty = true
  hd : PySem.W.hasDictIn K C = true
  po : PySem.W.plainOver K C = true
  sa : PySem.W.findIn K (.ref C) "__setattr__" = some (some (.builtin "object.__setattr__"))
theorem Cls.get {K : PySem.W.Frag} {C : Addr} (c : Cls K C) (f : Str) : PySem.W.plainGet K C f = true := c.pg
section
variable {X : Cx} {pins : List (Addr × Obj)} {σ : St} {H : Hp} {s : Shared} {a C dx : Addr} {fs : List (Str × V)} {f : Str} {v : V} {A : Around} {E : Value → Shared → Prop}

end

section
variable {X : Cx} {o e value : Expr} {f : Str} {pos pos' tpos : Pos} {ta tv : TE}
end

section
variable {X : Cx} {pins : List (Addr × Obj)} {σ : St} {H : Hp} {s : Shared} {A : Around} {E : Value → Shared → Prop} {Q : Value → Shared → Prop} {c : Value} {b : Bool}
/-- the type of a value, as the fragment's deciders take it; for an instance its class -/
inductive TyOf (K : PySem.W.Frag) (H : Hp) : V → Value → Prop where
  | non : TyOf K H .non (.type "NoneType")
  | bl (x : Bool) : TyOf K H (.bl x) (.type "bool")
  | int (i : Int) : TyOf K H (.int i) (.type "int")
  | str (x : Str) : TyOf K H (.str x) (.type "str")
  | flt (x : UInt64) : TyOf K H (.flt x) (.type "float")
  | lst {a : Addr} {xs : List V} (e : H a = some (.lst xs)) : TyOf K H (.ref a) (.type "list")
  | frz {a : Addr} {o : Obj} {xs : List V} (e : H a = some (.frz o (.lst xs))) : TyOf K H (.ref a) (.type "list")
  | tup {a : Addr} {xs : List V} (e : H a = some (.tup xs)) : TyOf K H (.ref a) (.type "tuple")
  | dK {a : Addr} {kvs : List (Key × V)} (e : H a = some (.dK kvs)) : TyOf K H (.ref a) (.type "dict")
  | dT {a : Addr} {kvs : List (List Key × V)} (e : H a = some (.dT kvs)) : TyOf K H (.ref a) (.type "dict")
  | ins {a C dx : Addr} {fs : List (Str × V)} (e : H a = some (.ins C dx fs)) (cl : Cls K C) (ha : PySem.W.findIn K (.ref C) "__class__" = some (some (.builtin "object.__class__")))
      (hn : PySem.W.specialIn K (.builtin "object.__class__") "__get__" = some (some (.builtin "getset_descriptor.__get__"))) (htk : PySem.W.takesIn K (.builtin "object.__class__") = some true)
      (hm : PySem.W.mroIn K C (.type "object") = some true) : TyOf K H (.ref a) (.ref C)
/-- isinstance(x, c) for one class c, a built-in or an own one: kitOne's answer -/
theorem isinst_ok {x : V} {u t : Value} (I : Inv X pins σ H s) (rx : RelV x u) (ty : TyOf X.K H x t) (e : PySem.W.kitOne X.K t c = some b) (h : ∀ tk, Q (.bool b) { s with toks := tk }) :
    wpAny (model X.prog X.w) A (call (.builtin "isinstance") [u, c]) Q E s := by
  cases ty with
  | non => cases (show u = Value.none from rx); exact PySem.W.kia_one PySem.W.kitx_none I.kIn True.intro e (fun z => nomatch z) h
  | bl y => cases (show u = Value.bool y from rx); exact PySem.W.kia_one PySem.W.kitx_bool I.kIn True.intro e (fun z => nomatch z) h
  | int i => obtain ⟨t, q⟩ := (show ∃ t, u = Value.int i t from rx); cases q; exact PySem.W.kia_one PySem.W.kitx_int I.kIn True.intro e (fun z => nomatch z) h
  | str y => obtain ⟨t, q⟩ := (show ∃ t, u = Value.str y t from rx); cases q; exact PySem.W.kia_one PySem.W.kitx_str I.kIn True.intro e (fun z => nomatch z) h
  | flt y => obtain ⟨t, q⟩ := (show ∃ t, u = Value.float y t from rx); cases q; exact PySem.W.kia_one PySem.W.kitx_float I.kIn True.intro e (fun z => nomatch z) h
  | @lst a xs ea =>
    cases (show u = Value.ref a from rx)
    obtain ⟨_, _, n, _, h1⟩ := (show ObjOk X.prog X.w H s.heap a (.lst xs) from I.hok a _ ea)
    exact PySem.W.kia_one PySem.W.kitx_list I.kIn ⟨_, h1, rfl⟩ e (fun z => nomatch z) h
  | @frz a ob xs ea =>
    cases (show u = Value.ref a from rx)
    obtain ⟨_, _, _, n, _, h1⟩ := (show ObjOk X.prog X.w H s.heap a (.frz ob (.lst xs)) from I.hok a _ ea)
    exact PySem.W.kia_one PySem.W.kitx_list I.kIn ⟨_, h1, rfl⟩ e (fun z => nomatch z) h
  | @tup a xs ea =>
    cases (show u = Value.ref a from rx)
    obtain ⟨_, _, _, p⟩ := (show ObjOk X.prog X.w H s.heap a (.tup xs) from I.hok a _ ea)
    obtain ⟨o, h1, h2, _⟩ := p
    exact PySem.W.kia_one PySem.W.kitx_tuple I.kIn ⟨o, h1, h2⟩ e (fun z => nomatch z) h
  | @dK a kvs ea =>
    cases (show u = Value.ref a from rx)
    obtain ⟨_, _, vs, _, p⟩ := (show ObjOk X.prog X.w H s.heap a (.dK kvs) from I.hok a _ ea)
    obtain ⟨o, es, ep, h1, h2, _⟩ := p
    exact PySem.W.kia_one PySem.W.kitx_dict I.kIn ⟨o, h1, h2.1⟩ e (fun z => nomatch z) h
  | @dT a kvs ea =>
    cases (show u = Value.ref a from rx)
    obtain ⟨_, _, xs, _, o, es, ep, h1, h2, _⟩ := (show ObjOk X.prog X.w H s.heap a (.dT kvs) from I.hok a _ ea)
    exact PySem.W.kia_one PySem.W.kitx_dict I.kIn ⟨o, h1, h2.1⟩ e (fun z => nomatch z) h
  | @ins a C dx fs ea cl ha hn htk hm =>
    cases (show u = Value.ref a from rx)
    obtain ⟨mA, O, _⟩ := ins_get I.hok ea
    obtain ⟨od, J, _⟩ := O.look
    exact PySem.W.kia_one (PySem.W.kitx_own (cl.get _) cl.hd ha hn htk hm) I.kIn J e (fun z => nomatch z) h
end
end L2

namespace L2
open PySem PySem.Spec PyProof.Rows

structure Room (k : Nat) (A : Around) : Prop where
  hd : A.handled = none
  dp : A.depth + 3 * k + 5 < recursionLimit
  un : A.units + 16 * k + 200 < cLine
theorem Room.mono {j k : Nat} {A : Around} (r : Room k A) (h : j ≤ k) : Room j A := ⟨r.hd, by have := r.dp; (first | lia | omega), by have := r.un; (first | lia | omega)⟩
theorem Room.deeper {k : Nat} {A : Around} (r : Room (k + 1) A) (env : Env) : Room k (A.deeper env) :=
  ⟨r.hd, by have := r.dp; show A.depth + 1 + 3 * k + 5 < _; (first | lia | omega), by have := r.un; show A.units + 3 + 16 * k + 200 < _; (first | lia | omega)⟩
theorem Room.depth {k : Nat} {A : Around} (r : Room k A) : A.depth < recursionLimit := by have := r.dp; (first | lia | omega)
def tNil : TA := fun _ H Q => Q [] H
def tCons (ta : TE) (tr : TA) : TA := fun σ H Q => ta σ H fun x H1 => tr σ H1 fun xs H2 => Q (x :: xs) H2
section
variable {X : Cx} {e : Expr} {es : List Expr} {te : TE} {t : TA} {pos : Pos}
theorem pa_nil : PA X [] tNil := fun _ _ _ _ H Q I h => Calls.spliced_nil ⟨[], H, I, .nil, h⟩
theorem pa_cons (ha : PE X e te) (hr : PA X es t) (hs : starEach (e :: es) X.env = (false, eval e X.env) :: starEach es X.env := by rfl) : PA X (e :: es) (tCons te t) := by
  intro pos pins s σ H Q I h
  rw [hs]
  show wpAny _ _ (spliced ((false, eval e X.env) :: backTo pos (starEach es X.env))) _ _ s
  refine Calls.spliced_cons (thn (ha pins s σ H _ I h) fun u s1 ⟨x, H1, I1, r1, q1⟩ => ?_)
  exact thn (hr pos pins s1 σ H1 _ I1 q1) fun us s2 ⟨xs, H2, I2, r2, q2⟩ => ⟨x :: xs, H2, I2, .cons r1 r2, q2⟩

def tLst (t : TA) : TE := fun σ H Q => t σ H fun xs H1 => xs.length ≤ sizeLine ∧ ∀ p, H1 p = none → Q (.ref p) (upd H1 p (.lst xs))
theorem pe_lst (h : PA X es t) : PE X (.List es pos) (tLst t) := by
  intro pins s σ H Q I hq
  refine wpAny_List_spliced (thn (h pos pins s σ H _ I hq) fun us s1 ⟨xs, H1, I1, r, z, q⟩ => ⟨by rw [← r.length]; exact z, ?_⟩)
  have hf : H1 s1.heap.objs.size = none := I1.hok.fresh (Nat.le_refl _)
  refine ⟨.ref s1.heap.objs.size, upd H1 s1.heap.objs.size (.lst xs), I1.laid (t' := s1.toks) (fun b u e => Heap.get?_push_of_some _ e) (Nat.le_refl _) ?_, rfl, q _ hf⟩
  exact ⟨z, us, 0, r, Heap.get?_push_size _ rfl⟩
end

/-- a def's promise: the bound arguments in the parameters' order, the heap, the wanted end, the wanted exception -/
abbrev Sp := List V → Hp → VK → XK → Prop
/-- how an exception lies behind a call (file 08 gives it): the callers' frames, abstract heap and state ahead of the call, the wish, the exception, the state -/
abbrev CXT := List Env → Hp → Shared → XK → Value → Shared → Prop

/-- the state at a call -/
structure Env0 (P : Program) (w : World) (K : PySem.W.Frag) (mg : Str → Option Value) (base : Heap) (A : Around) (outer : List Env) (s : Shared) (H : Hp) : Prop where
  frames : A.frames = some outer
  mod : Mod K mg base
  bs : ∀ b o, base.get? b = some o → s.heap.get? b = some o ∧ H b = none
  bsz : base.objs.size ≤ s.heap.objs.size
  funs : s.heap.FunFrames base outer
  frf : ∀ b ∈ frs outer, H b = none
  hok : HOk P w H s.heap
  bare : AllBare s.gens
/-- a call's end -/
def CE (outer : List Env) (P : Program) (w : World) (H : Hp) (s : Shared) (Q : VK) (u : Value) (s' : Shared) : Prop :=
  ∃ v H', s'.os = s.os ∧ AllBare s'.gens ∧ Un (frs outer) [] H H' s.heap s'.heap ∧ HOk P w H' s'.heap ∧ RelV v u ∧ Q v H'
def CR (CX : CXT) (outer : List Env) (P : Program) (w : World) (H : Hp) (s : Shared) (Q : VK) (E : XK) (r : Result) (s' : Shared) : Prop :=
  match r with
  | .ok (.ret u) => CE outer P w H s Q u s'
  | .ok _ => False
  | .error e => CX outer H s E e s'
structure FnOk (P : Program) (w : World) (K : PySem.W.Frag) (mg : Str → Option Value) (base : Heap) (CX : CXT) (k : Nat) (f : Addr) (fd : FuncData) (ps : List Str) (sp : Sp) : Prop where
  len : ∀ vs H Q E, sp vs H Q E → vs.length = ps.length
  run : ∀ (A : Around) (outer : List Env) (s : Shared) (H : Hp) (args : Args) (us : List Value) (vs : List V) (Q : VK) (E : XK), Room k A → Env0 P w K mg base A outer s H → BindsTo s fd args (ps.zip us) → Vals vs us → sp vs H Q E →
    codeAny (model P w) A (.call (.ref f) args) (CR CX outer P w H s Q E) s
section
variable {X : Cx} {pins : List (Addr × Obj)} {σ : St} {H : Hp} {s s' : Shared}
/-- from a body: what a callee wants -/
theorem Inv.env0 (I : Inv X pins σ H s) : Env0 X.prog X.w X.K X.mg X.base X.A X.stack s H :=
  ⟨I.ok.frames, I.ok.mod, I.bs, Nat.le_trans I.ok.bsz I.sz, I.stack, I.stkFree, I.hok, I.bare⟩
/-- behind a call -/
theorem Inv.after {Q : VK} {u : Value} (I : Inv X pins σ H s) (h : CE X.stack X.prog X.w H s Q u s') : EP X pins σ Q u s' := by
  obtain ⟨v, H', os, bare, un, hok, r, q⟩ := h
  obtain ⟨hh, g, d, t, os'⟩ := s'
  obtain rfl : os' = s.os := os
  exact ⟨v, H', I.call (h' := hh) (g' := g) (d' := d) (t' := t) (ch := []) un hok bare (fun b z => absurd z (by simp)), r, q⟩
end

/-- f(..): the written arguments, then the defaults dvs; E: what is wanted of an exception -/
def tCall (sp : Sp) (dvs : List V) (E : XK) (t : TA) : TE := fun σ H Q => t σ H fun vs H1 => sp (vs ++ dvs) H1 Q E
/-- how the parameters are bound: us the positional arguments, kw the keywords' values by name, ds the defaults that fill up -/
def Binds (K : PySem.W.Frag) (fd : FuncData) (ps : List Str) (ds : List Value) : Prop :=
  ∀ (s : Shared) (us : List Value), K.In s.heap → (us ++ ds).length = ps.length → BindsTo s fd ⟨us, []⟩ (ps.zip (us ++ ds))
/-- every parameter is given -/
theorem Binds.all {K : PySem.W.Frag} {fd : FuncData} {ps : List Str} (h : ∀ us : List Value, us.length = ps.length → bindArgs fd ⟨us, []⟩ = pure (ps.zip us)) : Binds K fd ps [] := fun s us _ hl => by
  rw [List.append_nil] at hl ⊢
  exact .of_eq (h us hl)

/-- an exception of a callee reaches what this body wants of exceptions -/
def Passes (CX : CXT) (X : Cx) (E : XK) : Prop := ∀ (pins : List (Addr × Obj)) (σ : St) (H : Hp) (s : Shared) (e : Value) (s' : Shared), Inv X pins σ H s → CX X.stack H s E e s' → X.xe e s'

section
variable {X : Cx} {CX : CXT} {k : Nat} {f C : Addr} {fd : FuncData} {ps : List Str} {sp : Sp} {dvs : List V} {ds : List Value} {E : XK} {x m : Str} {p pos apos : Pos} {e o : Expr} {es : List Expr} {ta : TE} {t : TA}

/-- the callee runs -/
theorem run_fn {pins : List (Addr × Obj)} {σ : St} {H : Hp} {s : Shared} {Q : VK} {us : List Value} {vs : List V} (F : FnOk X.prog X.w X.K X.mg X.base CX k f fd ps sp) (hr : Room k X.A) (hb : Binds X.K fd ps ds) (hd : Vals dvs ds) (hx : Passes CX X E)
    (I : Inv X pins σ H s) (r : Vals vs us) (h : sp (vs ++ dvs) H Q E) : wpAny (model X.prog X.w) X.A (call (.ref f) us) (EP X pins σ Q) X.xe s := by
  have r2 : Vals (vs ++ dvs) (us ++ ds) := r.append hd
  have hl : (us ++ ds).length = ps.length := by rw [← r2.length]; exact F.len _ _ _ _ h
  refine wpAny_call (codeAny_mono (F.run X.A X.stack s H ⟨us, []⟩ (us ++ ds) (vs ++ dvs) Q E hr I.env0 (hb s us I.kIn hl) r2 h) fun r s' hq => ?_)
  cases r with
  | error e => exact hx pins σ H s e s' I hq
  | ok fl =>
    cases fl with
    | ret u => exact I.after hq
    | next => exact False.elim hq
    | brk => exact False.elim hq
    | cont => exact False.elim hq

theorem pe_call (F : FnOk X.prog X.w X.K X.mg X.base CX k f fd ps sp) (hr : Room k X.A) (hg : Gl X x) (hm : X.mg x = some (.ref f)) (hk : PySem.W.keepIn X.K (.ref f) = true) (hb : Binds X.K fd ps ds) (hd : Vals dvs ds) (hx : Passes CX X E)
    (ha : PA X (e :: es) t) (hdb : (x == ("__debug__" : Str)) = false := by decide) (he : starEach (e :: es) X.env = (false, eval e X.env) :: starEach es X.env := by rfl) (hpl : (backTo pos (starEach es X.env)).any (·.1) = false := by rfl) :
    PE X (.Call (.Name x p) (e :: es) [] pos) (tCall sp dvs E t) := by
  intro pins s σ H Q I h
  refine wpAny_Call_Name_kw (ld_glob I hg hm ?_ hdb)
  refine PySem.W.callWith_K (h₀ := X.base) I.ok.mod.kin hk (thn (ha pos pins s σ H _ I h) fun us s1 ⟨vs, H1, I1, r, q⟩ => ⟨I1.kIn, ?_⟩) he hpl
  exact run_fn F hr hb hd hx I1 r q
end

section
variable {X : Cx} {CX : CXT} {k : Nat} {f C : Addr} {fd : FuncData} {ps ks : List Str} {sp : Sp} {E : XK} {x m : Str} {p pos apos kpos : Pos} {e o : Expr} {es : List Expr} {kws : List Keyword} {te ta : TE} {t tk : TA} {nm : Option Str}
variable {g : List Value → List Value → List Value} {gV : List V → List V → List V}
end

/-- names: the parameters first -/
structure FnScope (N P : List Str) (sc : Scope) : Prop where
  kind : sc.kind = .function
  co : sc.isCoroutine = false
  gen : sc.isGenerator = false
  nd : N.Nodup
  pre : N.take P.length = P
  par : ∀ x ∈ P, sc.names.lookup x = some .local ∨ sc.names.lookup x = some .cell
  nofree : ∀ y ∈ sc.names, y.2 ≠ .free

theorem bindL_out {kindOf : Str → Option NameKind} {x : Str} : ∀ {binds : List (Str × Value)} {m : Str → Option Value}, (∀ v, (x, v) ∉ binds) → bindL kindOf binds m x = m x
  | [], _, _ => rfl
  | (n, v) :: r, m, h => by
    unfold bindL
    rw [bindL_out fun w hw => h w (List.mem_cons_of_mem _ hw)]
    split
    · have : x ≠ n := by rintro rfl; exact h v List.mem_cons_self
      simp [this]
    · rfl
theorem bindC_out {kindOf : Str → Option NameKind} {x : Str} : ∀ {binds : List (Str × Value)} {m : Str → Option Value}, (∀ v, (x, v) ∉ binds) → bindC kindOf binds m x = m x
  | [], _, _ => rfl
  | (n, v) :: r, m, h => by
    unfold bindC
    rw [bindC_out fun w hw => h w (List.mem_cons_of_mem _ hw)]
    split
    · rfl
    · have : x ≠ n := by rintro rfl; exact h v List.mem_cons_self
      simp [this]
theorem bindL_get {kindOf : Str → Option NameKind} {x : Str} {v : Value} : ∀ {P : List Str} {vs : List Value} {i : Nat} {m : Str → Option Value}, P.Nodup → P[i]? = some x → vs[i]? = some v → kindOf x = some .local →
    bindL kindOf (P.zip vs) m x = some v
  | [], _, _, _, _, h, _, _ => by simp at h
  | _ :: _, [], _, _, _, _, h, _ => by simp at h
  | p :: P, w :: vs, 0, m, nd, h1, h2, hk => by
    simp at h1 h2; subst h1; subst h2
    show bindL kindOf ((p, w) :: P.zip vs) m p = _
    unfold bindL
    rw [bindL_out fun v hv => (List.nodup_cons.mp nd).1 (List.of_mem_zip hv).1, if_pos hk]
    simp
  | p :: P, w :: vs, i + 1, m, nd, h1, h2, hk => by
    show bindL kindOf ((p, w) :: P.zip vs) m x = _
    unfold bindL
    exact bindL_get (i := i) (List.nodup_cons.mp nd).2 (by simpa using h1) (by simpa using h2) hk
theorem bindC_get {kindOf : Str → Option NameKind} {x : Str} {v : Value} : ∀ {P : List Str} {vs : List Value} {i : Nat} {m : Str → Option Value}, P.Nodup → P[i]? = some x → vs[i]? = some v → kindOf x ≠ some .local →
    bindC kindOf (P.zip vs) m x = some v
  | [], _, _, _, _, h, _, _ => by simp at h
  | _ :: _, [], _, _, _, _, h, _ => by simp at h
  | p :: P, w :: vs, 0, m, nd, h1, h2, hk => by
    simp at h1 h2; subst h1; subst h2
    show bindC kindOf ((p, w) :: P.zip vs) m p = _
    unfold bindC
    rw [bindC_out fun v hv => (List.nodup_cons.mp nd).1 (List.of_mem_zip hv).1, if_neg hk]
    simp
  | p :: P, w :: vs, i + 1, m, nd, h1, h2, hk => by
    show bindC kindOf ((p, w) :: P.zip vs) m x = _
    unfold bindC
    exact bindC_get (i := i) (List.nodup_cons.mp nd).2 (by simpa using h1) (by simpa using h2) hk

/-- the names' values at the entry -/
def start (N : List Str) (vs : List V) : St := vs.map some ++ List.replicate (N.length - vs.length) none

/-- the context of a def's body, at its entry; an exception leaves the frame, then lies as CX says -/
def cxOf (CX : CXT) (P : Program) (w : World) (K : PySem.W.Frag) (mg : Str → Option Value) (base : Heap) (N : List Str) (qual : Str) (scope : Scope) (f : Addr) (cd : Value) (A : Around) (outer : List Env) (s : Shared) (H : Hp) (E : XK) : Cx where
  prog := P
  w := w
  K := K
  mg := mg
  base := base
  A := A.deeper (envOfC qual scope s.heap.objs.size f cd)
  N := N
  s₀ := s
  H₀ := H
  env := envOfC qual scope s.heap.objs.size f cd
  outer := outer
  stack := envOfC qual scope s.heap.objs.size f cd :: outer
  ex := []
  calm := true
  fn := fun _ => true
  pn := []
  xe := fun e s' => wpAny (model P w) (A.deeper (envOfC qual scope s.heap.objs.size f cd)) (leaving (envOfC qual scope s.heap.objs.size f cd) e) (fun _ s'' => CX outer H s E e s'') (fun e' s'' => CX outer H s E e' s'') s'

theorem cell_has {sc : Scope} {n : Nat} {x : Str} (h : sc.names.lookup x = some .cell) : ∃ c, (cellsFrom n sc.names []).lookup x = some c := by
  have q := PySem.W.cellsFrom_some sc.names n [] (.inl h)
  exact Option.isSome_iff_exists.mp q

theorem inv_start {CX : CXT} {P : Program} {w : World} {K : PySem.W.Frag} {mg : Str → Option Value} {base : Heap} {N ps : List Str} {qual : Str} {scope : Scope} {f : Addr} {cd : Value} {A : Around} {outer : List Env} {s s1 : Shared} {H : Hp} {E : XK} {us : List Value} {vs : List V}
    (S : FnScope N ps scope) (hd : A.handled = none) (e0 : Env0 P w K mg base A outer s H) (hl : vs.length = ps.length) (r : Vals vs us)
    (x : InCallC s s.heap.objs.size (bindL (envOfC qual scope s.heap.objs.size f cd).kindOf (ps.zip us) fun _ => none) (cellsFrom (s.heap.objs.size + 1) scope.names []) (bindC (envOfC qual scope s.heap.objs.size f cd).kindOf (ps.zip us) fun _ => none) s1) :
    Inv (cxOf CX P w K mg base N qual scope f cd A outer s H E) [] (start N vs) H s1 := by
  have hpl : ps.length ≤ N.length := by have := congrArg List.length S.pre; rw [List.length_take] at this; (first | lia | omega)
  obtain ⟨h1, tk, rfl, hk⟩ := x.done
  have noA : ∀ b : Addr, b ∉ (cxOf CX P w K mg base N qual scope f cd A outer s H E).ex := fun b z => absurd (show b ∈ ([] : List Addr) from z) (by simp)
  refine ⟨⟨e0.mod, S.kind, rfl, rfl, Nat.le_refl _, fun y z c h1 h2 => ?_, fun y hy => ?_, fun y c _ h => ?_, fun _ => hd, Around.frames_deeper e0.frames, .inr ⟨rfl, rfl⟩, fun b z => absurd z (noA b), e0.bs, e0.bsz, fun b _ _ => noA b, fun b z => absurd z (noA b), e0.funs, e0.frf⟩,
    rfl, e0.bare, Un.kept hk, ⟨_, x.toInCall.ns, fun i y v h1 h2 h3 => ?_⟩, fun y c h => ⟨_, x.cell y c h⟩, e0.hok.fresh (Nat.le_refl _), fun y c h => ?_, fun p hp => absurd (show p ∈ ([] : List (Addr × Obj)) from hp) (by simp), e0.hok.kept hk, ?_⟩
  · exact name_of_addr x.apart (PySem.mem_of_lookup h1) (PySem.mem_of_lookup h2)
  · have hy : scope.names.lookup y = some .cell ∨ scope.names.lookup y = some .free := hy
    rcases hy with hy | hy
    · exact cell_has hy
    · exact absurd rfl (S.nofree _ (PySem.mem_of_lookup hy))
  · exact Nat.le_of_lt (x.above y c (PySem.mem_of_lookup h))
  · have hi : i < vs.length := by
      unfold start at h2
      by_cases hi : i < vs.length
      · exact hi
      · rw [List.getElem?_append_right (by simpa using hi)] at h2
        rw [List.getElem?_replicate] at h2
        split at h2 <;> cases h2
    have ha : vs[i]? = some v := by
      unfold start at h2
      rw [List.getElem?_append_left (by simpa using hi), List.getElem?_map] at h2
      cases e : vs[i]? with
      | none => rw [e] at h2; cases h2
      | some a => rw [e] at h2; cases h2; rfl
    obtain ⟨u, hu, rv⟩ := r.get ha
    have hp : ps[i]? = some y := by
      rw [← S.pre, List.getElem?_take_of_lt (by (first | lia | omega))]; exact h1
    have ndP : ps.Nodup := by rw [← S.pre]; exact S.nd.sublist (List.take_sublist _ _)
    refine ⟨u, rv, ?_⟩
    rcases S.par y (List.mem_of_getElem? hp) with k | k
    · exact .inl ⟨k, bindL_get ndP hp hu k⟩
    · obtain ⟨c, e⟩ := cell_has (n := s.heap.objs.size + 1) k
      refine .inr ⟨.inl k, c, e, ?_⟩
      have q := x.cell y c e
      rw [bindC_get ndP hp hu (by show scope.names.lookup y ≠ _; rw [k]; decide)] at q
      exact q
  · exact e0.hok.fresh (Nat.le_of_lt (x.above y c (PySem.mem_of_lookup h)))
  · unfold start
    show _ = N.length
    rw [List.length_append, List.length_map, List.length_replicate]
    (first | lia | omega)

/-- THE RULE: a def (or a method) of the text, by its body. The body's reading t is chosen for each entry; it is run at the parameters' values -/
theorem fn_of {CX : CXT} {P : Program} {w : World} {K : PySem.W.Frag} {mg : Str → Option Value} {base : Heap} {k : Nat} {f : Addr} {name qual : Str} {params : Arguments} {body : List Stmt} {scope : Scope} {dV kV doc pm cdv ct oc : Value} {an od : Option Addr}
    {osl : Array (Option Value)} {N ps : List Str} {sp : Sp} (lk : K.lookup f = some ⟨oc, od, .func (PySem.W.fnOf name qual params body scope dV kV doc pm an cdv ct), osl⟩) (hcd : PySem.W.codeIn K cdv qual = true) (S : FnScope N ps scope)
    (len : ∀ vs H Q E, sp vs H Q E → vs.length = ps.length)
    (hbody : ∀ (A : Around) (outer : List Env) (s : Shared) (H : Hp) (vs : List V) (Q : VK) (E : XK), Room k (A.deeper (envOfC qual scope s.heap.objs.size f cdv)) → sp vs H Q E →
      ∃ t, PSs (cxOf CX P w K mg base N qual scope f cdv A outer s H E) body t ∧ t { nx := fun _ H' => Q .non H', rt := Q } (start N vs) H) :
    FnOk P w K mg base CX (k + 1) f (PySem.W.fnOf name qual params body scope dV kV doc pm an cdv ct) ps sp := by
  refine ⟨len, fun A outer s H args us vs Q E hr e0 hb r hsp => ?_⟩
  have hl := len _ _ _ _ hsp
  have KX : K.In s.heap := e0.mod.kin.keeps fun b o e => (e0.bs b o e).1
  have lim : s.heap.NoLimit := e0.mod.nolimit.keeps fun b o e => (e0.bs b o e).1
  have hkind : ∀ y ∈ ps.zip us, scope.names.lookup y.1 = some .local ∨ (scope.names.lookup y.1 = some .cell ∧ ((cellsFrom (s.heap.objs.size + 1) scope.names []).lookup y.1).isSome = true) := fun ⟨n, v⟩ hy => by
    rcases S.par n (List.of_mem_zip hy).1 with q | q
    · exact .inl q
    · exact .inr ⟨q, PySem.W.cellsFrom_some _ _ _ (.inl q)⟩
  refine codeAny_call_function hr.depth (KX _ _ lk) rfl S.co S.gen rfl (PySem.W.codeRec_of KX hcd) (hb _ _ _ _ ?_)
  refine wpAny_newFunctionEnv_cells S.kind hkind fun env he s1 x => ?_
  subst he
  refine ⟨lim.keeps x.toInCall.keep, codeAny_func ?_⟩
  obtain ⟨t, ht, hq⟩ := hbody A outer s H vs Q E (hr.deeper _) hsp
  have I : Inv (cxOf CX P w K mg base N qual scope f cdv A outer s H E) [] (start N vs) H s1 := inv_start S hr.hd e0 hl r x
  refine wpAny_mono (ht [] s1 (start N vs) H _ I hq) (fun fl s' hs => ?_) fun e s' hs => hs
  have fin : ∀ {σ' : St} {H' : Hp} {v : V} {u : Value}, Inv (cxOf CX P w K mg base N qual scope f cdv A outer s H E) [] σ' H' s' → RelV v u → Q v H' → CE outer P w H s Q u s' :=
    fun {σ' H' v u} J rv q => ⟨v, H', J.os, J.bare, J.base, J.hok, rv, q⟩
  cases fl with
  | ret u =>
    obtain ⟨v, σ', H', J, rv, q⟩ := hs
    exact fin J rv q
  | next =>
    obtain ⟨σ', H', J, q⟩ := hs
    exact fin (v := V.non) (u := Value.none) J rfl q
  | brk =>
    obtain ⟨_, _, _, q⟩ := hs
    exact False.elim q
  | cont =>
    obtain ⟨_, _, _, q⟩ := hs
    exact False.elim q
end L2

namespace L2
open PySem PySem.Spec PyProof.Rows
section
variable {X : Cx} {x : Str} {p pos : Pos} {e : Expr} {es : List Expr} {t : TA} {id T : String} {r : List V → Hp → VK → Prop}

def tCB (r : List V → Hp → VK → Prop) (t : TA) : TE := fun σ H Q => t σ H fun vs H1 => r vs H1 Q
/-- f(e, ..), f a built-in function -/
theorem pe_callB (hc : CallR X (.builtin id) r) (hg : Gl X x) (hm : X.mg x = none) (hv : bootBuiltins x = some (.builtin id)) (ha : PA X (e :: es) t) (hn : x ≠ "__name__" := by decide) (hdb : (x == ("__debug__" : Str)) = false := by decide)
    (he : starEach (e :: es) X.env = (false, eval e X.env) :: starEach es X.env := by rfl) (hpl : (backTo pos (starEach es X.env)).any (·.1) = false := by rfl) : PE X (.Call (.Name x p) (e :: es) [] pos) (tCB r t) := by
  intro pins s σ H Q I h
  refine wpAny_Call_Name_kw (ld_blt I hg hm hv ?_ hn hdb)
  exact PyProof.Rows.callWith_builtin1 (thn (ha pos pins s σ H _ I h) fun us s1 ⟨vs, H1, I1, r1, q1⟩ => hc pins s1 σ H1 vs us Q I1 r1 q1) he hpl
end
end L2

namespace HT
open PySem PyProof.Rows

section
open PySem.SeqAt
open PySem.AutoSeq1 (wpAny_loadPart')
open PySem.MeetsSeq PySem.MeetsSeq2 PySem.MeetsSeq3

end

section
variable {prog : Program} {w : World} {A : Around} {E : Value → Shared → Prop} {s : Shared}

/-- a slice's bound as a place among n (d where it is left out) -/
def sIx (n d : Nat) : Option Int → Nat
  | none => d
  | some v => if v < 0 then (v + (n : Int)).toNat else min v.toNat n
theorem sIx_none (n d : Nat) : sIx n d none = d := rfl
end
end HT

namespace L2
open PySem PySem.Spec PyProof.Rows

abbrev TO := St → Hp → (Option Int → Hp → Prop) → Prop
/-- a slice's part (left out, or an int) -/
def PO (X : Cx) (e : Option Expr) (t : TO) : Prop :=
  ∀ (pins : List (Addr × Obj)) (s : Shared) (σ : St) (H : Hp) (Q : Option Int → Hp → Prop), Inv X pins σ H s → t σ H Q →
    wpAny (model X.prog X.w) X.A (evalPart e X.env) (fun u s' => ∃ o H', Inv X pins σ H' s' ∧ IsPart u o ∧ Q o H') X.xe s
def tNoPart : TO := fun _ H Q => Q none H
def tPart (t : TE) : TO := fun σ H Q => t σ H fun x H1 => ∃ i, x = .int i ∧ Q (some i) H1

theorem intsAre_of {ns : List Int} : ∀ {us : List Value}, Vals (ns.map V.int) us → IntsAre us ns := by
  induction ns with
  | nil => intro us r; rw [List.map_nil] at r; cases r; exact .nil
  | cons n ns ih =>
    intro us r
    rw [List.map_cons] at r
    cases r with
    | cons r1 r2 =>
      obtain ⟨t, e⟩ := r1
      subst e
      exact .cons n t (ih r2)

section
variable {X : Cx} {e : Expr} {te : TE} {lo hi : Option Expr} {tl th : TO} {pos p2 : Pos}

theorem po_none : PO X none tNoPart := by
  intro pins s σ H Q I h
  rw [evalPart_none]
  exact wpAny_pure ⟨none, H, I, .none, h⟩
theorem po_some (h : PE X e te) : PO X (some e) (tPart te) := by
  intro pins s σ H Q I hw
  rw [evalPart_some]
  refine thn (h pins s σ H _ I hw) fun u s1 ⟨x, H1, I1, r1, q1⟩ => ?_
  obtain ⟨i, rfl, q⟩ := q1
  obtain ⟨t, rfl⟩ := r1
  exact ⟨some i, H1, I1, .int i t, q⟩

/-- what a slice of a value is, by values: the slice object stands at sl -/
def SlR (X : Cx) (r : V → Option Int → Option Int → Hp → VK → Prop) : Prop :=
  ∀ (pins : List (Addr × Obj)) (s : Shared) (σ : St) (H : Hp) (x : V) (v vl vu : Value) (lo hi : Option Int) (sl : Addr) (Q : VK), Inv X pins σ H s → RelV x v → s.heap.IsSliceOf sl vl vu .none → IsPart vl lo → IsPart vu hi → r x lo hi H Q →
    ∃ T id, typeLookup (.type T) "__getitem__" = pure (some (.builtin id)) ∧ s.TypeIs v T ∧ wpAny (model X.prog X.w) X.A (getItem v (.ref sl)) (EP X pins σ Q) X.xe s
def tSl (r : V → Option Int → Option Int → Hp → VK → Prop) (te : TE) (tl th : TO) : TE := fun σ H Q => te σ H fun x H1 => tl σ H1 fun l H2 => th σ H2 fun u H3 => r x l u H3 Q
/-- a[lo:hi], any a -/
theorem pe_slice {r : V → Option Int → Option Int → Hp → VK → Prop} (hr : SlR X r) (he : PE X e te) (hl : PO X lo tl) (hu : PO X hi th) : PE X (.Subscript e (.Slice lo hi none p2) pos) (tSl r te tl th) := by
  intro pins s σ H Q I h
  refine Subscript_ (thn (he pins s σ H _ I h) fun v s1 ⟨x, H1, I1, r1, q1⟩ => ?_)
  refine wpAny_Slice (thn (hl pins s1 σ H1 _ I1 q1) fun vl s2 ⟨l, H2, I2, pl, q2⟩ => thn (hu pins s2 σ H2 _ I2 q2) fun vu s3 ⟨u, H3, I3, pu, q3⟩ => ?_)
  rw [evalPart_none]
  refine wpAny_pure ?_
  have I4 : Inv X pins σ H3 { s3 with heap := s3.heap.push { cls := .type "slice", data := .fields #[vl, vu, .none] } } := I3.kept (t' := s3.toks) fun b ob q => Heap.get?_push_of_some _ q
  obtain ⟨T, id, hT, ht, hg⟩ := hr pins { s3 with heap := s3.heap.push { cls := .type "slice", data := .fields #[vl, vu, .none] } } σ H3 x v vl vu l u s3.heap.objs.size Q I4 r1 (Heap.IsSliceOf.new ..) pl pu q3
  show wpAny (model X.prog X.w) X.A (subscriptTail e (.Slice lo hi none p2) v (.ref s3.heap.objs.size)) (EP X pins σ Q) X.xe { s3 with heap := s3.heap.push { cls := .type "slice", data := .fields #[vl, vu, .none] } }
  exact tail_any (ops := [.ref s3.heap.objs.size, v]) ht hT hg (by with_unfolding_all rfl)

/-- the items of xs[lo:hi] -/
def cutV (xs : List V) (lo hi : Option Int) : List V := (xs.drop (HT.sIx xs.length 0 lo)).take (HT.sIx xs.length xs.length hi - HT.sIx xs.length 0 lo)
theorem cutV_length (xs : List V) (lo hi : Option Int) : (cutV xs lo hi).length ≤ xs.length := by
  unfold cutV
  rw [List.length_take, List.length_drop]
  (first | lia | omega)
end
end L2

namespace L2
open PySem PySem.Spec PyProof.Rows

/-- the place that an index of any sign means -/
def ixN (n : Nat) (i : Int) : Option Nat := if 0 ≤ i then (if i < n then some i.toNat else none) else if -(n : Int) ≤ i then some (i + n).toNat else none
def atI {α : Type} (xs : List α) (i : Int) : Option α := (ixN xs.length i).bind fun j => xs[j]?
theorem ixN_seq {n : Nat} {i : Int} {j : Nat} (h : ixN n i = some j) : seqIndex? i n = some j ∧ j < n ∧ -(n : Int) ≤ i ∧ i < n := by
  unfold ixN at h
  by_cases h0 : 0 ≤ i
  · rw [if_pos h0] at h
    by_cases h1 : i < n
    · rw [if_pos h1] at h
      have e : i.toNat = j := Option.some.inj h
      exact ⟨by rw [seqIndex_of h0 h1, e], by (first | lia | omega), by (first | lia | omega), h1⟩
    · rw [if_neg h1] at h; cases h
  · rw [if_neg h0] at h
    by_cases h1 : -(n : Int) ≤ i
    · rw [if_pos h1] at h
      have e : (i + n).toNat = j := Option.some.inj h
      exact ⟨by rw [seqIndex_neg (by (first | lia | omega)) h1, e], by (first | lia | omega), h1, by (first | lia | omega)⟩
    · rw [if_neg h1] at h; cases h
theorem atI_get {α : Type} {xs : List α} {i : Int} {v : α} (h : atI xs i = some v) : ∃ j, seqIndex? i xs.length = some j ∧ xs[j]? = some v ∧ j < xs.length ∧ -(xs.length : Int) ≤ i ∧ i < xs.length := by
  unfold atI at h
  cases e : ixN xs.length i with
  | none => rw [e] at h; cases h
  | some j =>
    rw [e] at h
    obtain ⟨h1, h2, h3, h4⟩ := ixN_seq e
    exact ⟨j, h1, h, h2, h3, h4⟩
theorem atI_nat {α : Type} {xs : List α} {j : Nat} {v : α} (h : xs[j]? = some v) : atI xs (j : Int) = some v := by
  have hj : j < xs.length := (List.getElem?_eq_some_iff.mp h).1
  have e : ixN xs.length (j : Int) = some j := by
    unfold ixN
    rw [if_pos (by (first | lia | omega)), if_pos (by (first | lia | omega))]; simp
  unfold atI; rw [e]; exact h
/-- what stands as an index of a plain subscript -/
def PlainIx (b : Expr) : Prop := ∀ o i, subscripted b false o i = operate [o, i] (getItem o i)
/-- a subscript by values -/
def IxR (X : Cx) (r : R2) : Prop :=
  ∀ (value slice : Expr) (pins : List (Addr × Obj)) (s : Shared) (σ : St) (H : Hp) (x y : V) (v u : Value) (Q : VK), Inv X pins σ H s → RelV x v → RelV y u → r x y H Q →
    subscripted slice false v u = operate [v, u] (getItem v u) → wpAny (model X.prog X.w) X.A (subscriptTail value slice v u) (EP X pins σ Q) X.xe s
/-- a call of a builtin's method by values: the receiver, the arguments -/
def MtR (X : Cx) (id : String) (r : V → List V → Hp → VK → Prop) : Prop :=
  ∀ (pins : List (Addr × Obj)) (s : Shared) (σ : St) (H : Hp) (x : V) (xs : List V) (v : Value) (us : List Value) (Q : VK), Inv X pins σ H s → RelV x v → Vals xs us → r x xs H Q →
    wpAny (model X.prog X.w) X.A (call (.builtin id) (v :: us)) (EP X pins σ Q) X.xe s
section
variable {X : Cx} {a b : Expr} {ta tb : TE} {pos : Pos}
/-- a[b] -/
theorem pe_ix {r : R2} (hr : IxR X r) (ha : PE X a ta) (hb : PE X b tb) (hs : PlainIx b) : PE X (.Subscript a b pos) (tOp r ta tb) := by
  intro pins s σ H Q I h
  exact Subscript_ (binT ha hb I h fun v u s2 x y H2 I2 rx ry q => hr a b pins s2 σ H2 x y v u Q I2 rx ry q (hs _ _))

def rIxL (K : PySem.W.Frag) : R2 := fun x y H Q => ∃ p xs i v, x = .ref p ∧ y = .int i ∧ SqL K H p xs ∧ atI xs i = some v ∧ Q v H
theorem ix_list : IxR X (rIxL X.K) := by
  intro value slice pins s σ H x y v u Q I rx ry h hs
  obtain ⟨p, xs, i, z, rfl, rfl, hq, he, q⟩ := h
  cases rx
  obtain ⟨t, rfl⟩ := ry
  obtain ⟨its, r, pl, hz⟩ := I.list hq
  obtain ⟨j, h1, h2, h3, h4, h5⟩ := atI_get he
  obtain ⟨w, ew, rw'⟩ := r.get h2
  have hl := r.length
  have hn := line63
  have fin : EP X pins σ Q w s := ⟨z, H, I, rw', q⟩
  by_cases h0 : 0 ≤ i
  · have hj : i.toNat = j := by
      rw [seqIndex_of h0 h5] at h1
      exact Option.some.inj h1
    exact item_listR pl.isList h0 (by (first | lia | omega)) (by rw [hj]; simpa using ew) fin hs
  · have hj : (i + (its.toArray.size : Int)).toNat = j := by
      rw [seqIndex_neg (by (first | lia | omega)) h4] at h1
      rw [List.size_toArray, ← hl]
      exact Option.some.inj h1
    exact subscriptTail_builtinR (x := w) pl.isList.typeIs slot_list_getitem.lookup
      (wpAny_getItem_list_neg (Q := fun r s' => r = w ∧ EP X pins σ Q r s') pl.isList (by (first | lia | omega)) (by rw [List.size_toArray] <;> (first | lia | omega)) (by (first | lia | omega)) (by rw [hj]; simpa using ew) ⟨rfl, fin⟩) hs
/-- the list's object behind a store -/
theorem mapSeq_set (its : List Value) (n j : Nat) (u : Value) : Obj.mapSeq (·.setIfInBounds j u) { cls := .type "list", data := .seq its.toArray n } = { cls := .type "list", data := .seq (its.set j u).toArray n } := by
  simp [Obj.mapSeq]
theorem Inv.lst {pins : List (Addr × Obj)} {σ : St} {H : Hp} {s : Shared} {p : Addr} {xs : List V} (I : Inv X pins σ H s) (h : H p = some (.lst xs)) :
    ∃ (its : List Value) (n : Nat), Vals xs its ∧ s.heap.get? p = some { cls := .type "list", data := .seq its.toArray n } ∧ xs.length ≤ sizeLine := by
  obtain ⟨z, its, n, r, e⟩ := I.hok p _ h
  exact ⟨its, n, r, e, z⟩
/-- the list at p is written by an update of its object -/
theorem Inv.lstUpd {pins : List (Addr × Obj)} {σ : St} {H : Hp} {s : Shared} {p : Addr} {xs ys : List V} {its its' : List Value} {n n' : Nat} {f : Obj → Obj} (I : Inv X pins σ H s) (h : H p = some (.lst xs))
    (ho : s.heap.get? p = some { cls := .type "list", data := .seq its.toArray n }) (hf : f { cls := .type "list", data := .seq its.toArray n } = { cls := .type "list", data := .seq its'.toArray n' }) (r : Vals ys its') (hz : ys.length ≤ sizeLine) (t : Nat) :
    Inv X pins σ (upd H p (.lst ys)) { s with heap := s.heap.update p f, toks := t } := by
  have e : (s.heap.update p f).get? p = some { cls := .type "list", data := .seq its'.toArray n' } := by
    rw [Heap.get?_update_self f ho (by rw [hf] <;> rfl), hf]
  refine I.write (x := p) (e := p) (by rw [h]; trivial) (.inl rfl) (fun b u hb q => (Heap.get?_update_other _ _ (Ne.symm hb)).trans q) ⟨_, e⟩ ?_
  exact ⟨hz, its', n', r, e⟩
def rSetL : V → V → V → Hp → (Hp → Prop) → Prop := fun o i v H Q => ∃ p xs k j, o = .ref p ∧ i = .int k ∧ H p = some (.lst xs) ∧ ixN xs.length k = some j ∧ Q (upd H p (.lst (xs.set j v)))
theorem set_list : PSet X rSetL := by
  intro pins s σ H o i v ov iv u Q I ro ri rv h
  obtain ⟨p, xs, k, j, rfl, rfl, hp, hj, q⟩ := h
  cases ro
  obtain ⟨t, rfl⟩ := ri
  obtain ⟨its, n, r, ho, hz⟩ := I.lst hp
  obtain ⟨h1, h2, h3, h4⟩ := ixN_seq hj
  have hl := r.length
  have hn := line63
  have I' : Inv X pins σ (upd H p (.lst (xs.set j v))) { s with heap := s.heap.update p (Obj.mapSeq (·.setIfInBounds j u)) } :=
    I.lstUpd hp ho (mapSeq_set its n j u) (r.set rv j) (by rw [List.length_set]; exact hz) s.toks
  by_cases h0 : 0 ≤ k
  · have hk : k.toNat = j := by
      rw [seqIndex_of h0 h4] at h1
      exact Option.some.inj h1
    exact PySem.W.ki_setAt ho h0 (by (first | lia | omega)) (by rw [List.size_toArray, ← hl]; exact h4) (by rw [hk]; exact ⟨_, I', q⟩)
  · have hk : (k + (its.toArray.size : Int)).toNat = j := by
      rw [seqIndex_neg (by (first | lia | omega)) h3] at h1
      rw [List.size_toArray, ← hl]
      exact Option.some.inj h1
    exact PySem.W.ki_setBack ho (by (first | lia | omega)) (by rw [List.size_toArray, ← hl]; exact h3) (by (first | lia | omega)) (by rw [hk]; exact ⟨_, I', q⟩)

theorem slice_bounds (lo hi : Option Int) (n : Nat) : (sliceBounds lo hi none n).1 = ((HT.sIx n 0 lo : Nat) : Int) ∧ (sliceBounds lo hi none n).2.1 = ((HT.sIx n n hi : Nat) : Int) ∧ (sliceBounds lo hi none n).2.2 = 1 := by
  refine ⟨?_, ?_, rfl⟩
  · cases lo with
    | none => simp [sliceBounds, HT.sIx]
    | some i =>
      simp only [sliceBounds, HT.sIx, Option.getD_none, show (1 : Int) > 0 by decide, if_true]
      by_cases h : i < 0
      · simp only [h, if_true] <;> (first | lia | omega)
      · simp only [h, if_false] <;> (first | lia | omega)
  · cases hi with
    | none => simp [sliceBounds, HT.sIx]
    | some i =>
      simp only [sliceBounds, HT.sIx, Option.getD_none, show (1 : Int) > 0 by decide, if_true]
      by_cases h : i < 0
      · simp only [h, if_true] <;> (first | lia | omega)
      · simp only [h, if_false] <;> (first | lia | omega)
theorem slicePick_cut (its : List Value) (lo hi : Option Int) : slicePick its.toArray lo hi none = ((its.drop (HT.sIx its.length 0 lo)).take (HT.sIx its.length its.length hi - HT.sIx its.length 0 lo)).toArray := by
  obtain ⟨h1, h2, h3⟩ := slice_bounds lo hi its.toArray.size
  unfold slicePick
  rw [h1, h2, h3]
  simp only [sliceRange_one, pick_run, List.size_toArray] <;> rfl
/-- xs[lo:hi] of a list: a new list -/
def rSlL (K : PySem.W.Frag) : V → Option Int → Option Int → Hp → VK → Prop := fun x lo hi H Q => ∃ a xs, x = .ref a ∧ SqL K H a xs ∧ ∀ p, H p = none → Q (.ref p) (upd H p (.lst (cutV xs lo hi)))
theorem sl_list : SlR X (rSlL X.K) := by
  intro pins s σ H x v vl vu lo hi sl Q I rx hs pl pu h
  obtain ⟨a, xs, rfl, hx, q⟩ := h
  cases rx
  obtain ⟨its, r, ht, hz⟩ := I.list hx
  have hlen := r.length
  refine ⟨"list", _, slot_list_getitem.lookup, ht.isList.typeIs, ?_⟩
  refine wpAny_getItem_list_slice ht.isList hs pl pu .none (by simp) ?_ (by rw [List.size_toArray] <;> (first | lia | omega))
  rw [slicePick_cut, ← hlen]
  refine ⟨.ref s.heap.objs.size, _, I.laid (t' := s.toks) (o := .lst (cutV xs lo hi)) (fun b ob q => Heap.get?_push_of_some _ q) (Nat.le_refl _) ?_, rfl, q _ (I.hok.fresh (Nat.le_refl _))⟩
  exact ⟨Nat.le_trans (cutV_length xs lo hi) hz, _, 0, (r.drop (HT.sIx xs.length 0 lo)).take (HT.sIx xs.length xs.length hi - HT.sIx xs.length 0 lo), Heap.get?_push_size _ rfl⟩

theorem call_len_seq : CallR X (.builtin "len") (fun xs H Q => ∃ p ys, xs = [.ref p] ∧ (SqL X.K H p ys ∨ SqT X.K H p ys) ∧ Q (.int ys.length) H) := by
  intro pins s σ H xs us Q I r h
  obtain ⟨p, ys, rfl, hq, q⟩ := h
  obtain ⟨u, rfl, rx⟩ := vals1 r
  cases rx
  have hn := line63
  rcases hq with hq | hq
  · obtain ⟨its, r', pl, hz⟩ := I.list hq
    have hlen := r'.length
    exact Calls.call_len_list pl.isList (by simp only [List.size_toArray] <;> (first | lia | omega)) ⟨.int ys.length, H, I.tok _, ⟨s.toks + 1, by rw [List.size_toArray, hlen]⟩, q⟩
  · obtain ⟨its, r', pl, hz⟩ := I.tuple hq
    have hlen := r'.length
    exact len_tuple pl (by simp only [List.size_toArray] <;> (first | lia | omega)) ⟨.int ys.length, H, I.tok _, ⟨s.toks + 1, by rw [List.size_toArray, hlen]⟩, q⟩
/-- the value is of that builtin type -/
def tyV (K : PySem.W.Frag) (T : String) (x : V) (H : Hp) : Prop := match x with
  | .str _ => T = "str"
  | .int _ => T = "int"
  | .ref p => (T = "list" ∧ ∃ xs, SqL K H p xs) ∨ (T = "tuple" ∧ ∃ o, K.lookup p = some o ∧ o.cls = .type "tuple" ∧ o.dict = none) ∨
      (T = "dict" ∧ ((∃ kvs, H p = some (.dK kvs)) ∨ ∃ kvs, H p = some (.dT kvs))) ∨ (T = "set" ∧ ∃ S n, H p = some (.set S n))
  | _ => False
theorem tyV_is {pins : List (Addr × Obj)} {σ : St} {H : Hp} {s : Shared} {T : String} {x : V} {v : Value} (I : Inv X pins σ H s) (r : RelV x v) (ty : tyV X.K T x H) :
    s.TypeIs v T ∧ ∀ a, v = .ref a → ∃ ob, s.heap.get? a = some ob ∧ ob.dict = none := by
  cases x with
  | str z =>
    obtain ⟨t, rfl⟩ := r
    cases (show T = "str" from ty)
    exact ⟨typeIs_str s z t, fun _ e => nomatch e⟩
  | int i =>
    obtain ⟨t, rfl⟩ := r
    cases (show T = "int" from ty)
    exact ⟨typeIs_int s i t, fun _ e => nomatch e⟩
  | ref p =>
    cases r
    rcases ty with ⟨rfl, xs, hq⟩ | ⟨rfl, o, hk, hc, hd⟩ | ⟨rfl, hk⟩ | ⟨rfl, S, n, hk⟩
    · obtain ⟨its, _, pl, _⟩ := I.list hq
      refine ⟨pl.isList.typeIs, fun a e => ?_⟩
      cases e
      obtain ⟨o, n, e, c, hd, _⟩ := pl
      exact ⟨o, e, hd⟩
    · refine ⟨⟨o, I.kIn p o hk, hc⟩, fun a e => ?_⟩
      cases e
      exact ⟨o, I.kIn _ o hk, hd⟩
    · have z : ∃ o, s.heap.get? p = some o ∧ o.ExactDict := by
        rcases hk with ⟨kvs, hk⟩ | ⟨kvs, hk⟩
        · obtain ⟨_, _, _, _, o, _, _, e, ex, _⟩ := I.hok p _ hk
          exact ⟨o, e, ex⟩
        · obtain ⟨_, _, _, _, o, _, _, e, ex, _⟩ := I.hok p _ hk
          exact ⟨o, e, ex⟩
      obtain ⟨o, e, ex⟩ := z
      refine ⟨⟨o, e, ex.1⟩, fun a e2 => ?_⟩
      cases e2
      exact ⟨o, e, ex.2.1⟩
    · obtain ⟨o, _, _, _, e, ex, _⟩ := I.hok p _ hk
      refine ⟨⟨o, e, ex.1⟩, fun a e2 => ?_⟩
      cases e2
      exact ⟨o, e, ex.2.1⟩
  | _ => exact False.elim ty
def tBM (K : PySem.W.Frag) (T : String) (r : V → List V → Hp → VK → Prop) (to : TE) (t : TA) : TE := fun σ H Q => to σ H fun x H1 => tyV K T x H1 ∧ t σ H1 fun xs H2 => r x xs H2 Q
variable {o e : Expr} {es : List Expr} {to : TE} {t : TA} {name : Str} {apos cpos : Pos} {T id : String} {r : V → List V → Hp → VK → Prop}
theorem pe_bm (pa : PlainAttrs T) (slot : Slot T name id) (hty : typeOf (.builtin id) = pure (.type "method_descriptor")) (hm : MtR X id r) (ho : PE X o to) (ha : PA X (e :: es) t)
    (hbase : attributeBase o name X.env (eval o X.env) = eval o X.env := by rfl)
    (hfew : ((backTo cpos (starEach (e :: es) X.env)).all (fun x => !x.1) && (backToKw cpos (keywordEach [] X.env)).all (fun x => x.1.isSome)
      && decide ((e :: es).length + ([] : List Keyword).length + (if ([] : List Keyword).isEmpty then 0 else 1) < 30)) = true := by rfl)
    (hline : (apos.endLine == cpos.line) = true := by rfl) (hs : starEach (e :: es) X.env = (false, eval e X.env) :: starEach es X.env := by rfl) (hplain : (backTo cpos (starEach es X.env)).any (·.1) = false := by rfl) :
    PE X (.Call (.Attribute o name apos) (e :: es) [] cpos) (tBM X.K T r to t) := by
  intro pins s σ H Q I h
  refine wpAny_Call_method_late hbase hfew hline rfl (thn (ho pins s σ H _ I h) fun v s1 ⟨x, H1, I1, r1, ty, q1⟩ => ?_)
  obtain ⟨h1, h2⟩ := tyV_is I1 r1 ty
  refine ⟨T, id, pa, slot, hty, h1, h2, ?_⟩
  have hA := ha cpos pins s1 σ H1 _ I1 q1
  rw [hs] at hA ⊢
  refine Calls.callWith_builtin (by show (false || (backTo cpos (starEach es X.env)).any (·.1)) = false; rw [hplain] <;> rfl) (Calls.evalArgs_plain ?_)
  exact thn hA fun us s2 ⟨vs, H2, I2, r2, q2⟩ => hm pins s2 σ H2 x vs v us Q I2 r1 r2 q2
/- xs.append(e), list.index on a module's tuple .. are MtR facts of 06m -/
end
end L2

namespace L2
open PySem PySem.Spec PyProof.Rows

def MtM (X : Cx) (id : String) (r : V → List V → Hp → VK → Prop) : Prop :=
  ∀ (pins : List (Addr × Obj)) (s : Shared) (σ : St) (H : Hp) (x : V) (xs : List V) (v : Value) (us : List Value) (Q : VK), Inv X pins σ H s → RelV x v → Vals xs us → r x xs H Q →
    wpAny (model X.prog X.w) X.A (call (.builtin id) (v :: us)) (EP X pins σ Q) X.xe s

theorem Vals.one : ∀ {x : V} {us : List Value}, Vals [x] us → ∃ u, us = [u] ∧ RelV x u
  | _, _, .cons r .nil => ⟨_, rfl, r⟩
section
variable {X : Cx} {pins : List (Addr × Obj)} {σ : St} {H : Hp} {s : Shared} {l b : Addr} {xs ys zs : List V}

theorem Inv.lset {its its' : List Value} {n : Nat} {f : Array Value → Array Value} {t' : Nat} (I : Inv X pins σ H s) (hH : H l = some (.lst xs))
    (e : s.heap.get? l = some { cls := .type "list", data := .seq its.toArray n }) (hf : f its.toArray = its'.toArray) (hv : Vals ys its') (hz : ys.length ≤ sizeLine) :
    Inv X pins σ (upd H l (.lst ys)) { s with heap := s.heap.update l (Obj.mapSeq f), toks := t' } := by
  have q := PySem.IsL.update e f
  rw [hf] at q
  refine I.write (x := l) (e := l) (by rw [hH]; exact trivial) (.inl rfl) (fun b' u hb hu => (Heap.get?_update_other s.heap (Obj.mapSeq f) (Ne.symm hb)).trans hu) ⟨_, q⟩ ?_
  exact ⟨hz, its', _, hv, q⟩
theorem Inv.lnew {its : List Value} {t' : Nat} (I : Inv X pins σ H s) (hv : Vals ys its) (hz : ys.length ≤ sizeLine) :
    Inv X pins σ (upd H s.heap.objs.size (.lst ys)) { s with heap := s.heap.push { cls := .type "list", data := .seq its.toArray }, toks := t' } :=
  I.laid (fun _ _ q => Heap.get?_push_of_some _ q) (Nat.le_refl _) ⟨hz, its, 0, hv, Heap.get?_push_size _ rfl⟩
theorem Inv.fresh (I : Inv X pins σ H s) : H s.heap.objs.size = none := I.hok.fresh (Nat.le_refl _)
theorem Inv.lstM (I : Inv X pins σ H s) (hH : H l = some (.lst xs)) : xs.length ≤ sizeLine ∧ ∃ (its : List Value) (n : Nat), Vals xs its ∧ xs.length = its.length ∧ s.heap.get? l = some { cls := .type "list", data := .seq its.toArray n } := by
  obtain ⟨z, its, n, r, e⟩ := I.hok l _ hH
  exact ⟨z, its, n, r, r.length, e⟩

end

section
variable {X : Cx}

def rAppend : V → List V → Hp → VK → Prop := fun x vs H Q => ∃ l xs y, x = .ref l ∧ vs = [y] ∧ H l = some (.lst xs) ∧ xs.length < sizeLine ∧ Q .non (upd H l (.lst (xs ++ [y])))
theorem mt_append : MtM X "list.append" rAppend := by
  intro pins s σ H x vs v us Q I rx rv h
  obtain ⟨l, xs, y, rfl, rfl, hH, hz, q⟩ := h
  cases rx
  obtain ⟨u, rfl, ru⟩ := rv.one
  obtain ⟨z, its, n, r, hl, e⟩ := I.lstM hH
  refine call_meets F.slot_list_append ⟨_, e, rfl⟩ F.entry_list_append (F.args_list_append_2 _ _) (PySem.list_append l its.toArray n u (by rw [List.size_toArray]; (first | lia | omega))) ⟨e, ?_⟩
  refine ⟨.non, _, I.lset (its' := its ++ [u]) hH e (by simp) (r.append (.cons ru .nil)) ?_, rfl, q⟩
  rw [List.length_append, List.length_singleton]
  (first | lia | omega)

def rCat : R2 := fun x y H Q => ∃ l b xs zs, x = .ref l ∧ y = .ref b ∧ H l = some (.lst xs) ∧ H b = some (.lst zs) ∧ xs.length + zs.length ≤ sizeLine ∧ ∀ p, H p = none → Q (.ref p) (upd H p (.lst (xs ++ zs)))
theorem op_cat : OpR X (binaryOp .Add) rCat := by
  intro pins s σ H x y v u Q I rx ry h
  obtain ⟨l, b, xs, zs, rfl, rfl, hH, hB, hz, q⟩ := h
  cases rx
  cases ry
  obtain ⟨z, its, n, r, hl, e⟩ := I.lstM hH
  obtain ⟨z2, its2, n2, r2, hl2, e2⟩ := I.lstM hB
  refine PySem.P.add_list e e2 ?_ (by rw [List.size_toArray, List.size_toArray]; (first | lia | omega))
  have ea : its.toArray ++ its2.toArray = (its ++ its2).toArray := by simp
  rw [ea]
  exact ⟨.ref _, _, I.lnew (t' := s.toks) (r.append r2) (by rw [List.length_append]; (first | lia | omega)), rfl, q _ I.fresh⟩
end

section
variable {prog : Program} {w : World} {A : Around} {E : Value → Shared → Prop} {s : Shared}
end

section
variable {X : Cx}
end
end L2

namespace Att
open PySem PySem.W PySem.Calls PyProof.Rows

theorem ints_of_wellAll {P : Params} {h : Heap} : ∀ (ns : List Int) (vs : List Value), WellAll P h vs (ns.map WData.int) → IntsAre vs ns := by
  intro ns
  induction ns with
  | nil =>
    intro vs w
    rw [List.map_nil] at w
    cases w
    exact .nil
  | cons n ns ih =>
    intro vs w
    rw [List.map_cons] at w
    cases w with
    | cons a b =>
      cases a
      exact .cons _ _ (ih _ b)

theorem script_of {l : OpenLaw} {n : Nat} (hn : l.most = some n) {P : Params} {h : Heap} {args : List WData} {vals : List Value}
    (hpre : l.row.toRowW.claim.pre args = true) (hwl : WellAll P h vals args) :
    ∃ a vs ns, vals = [Value.ref a] ∧ args = [WData.list (ns.map WData.int)] ∧ h.get? a = some { cls := .type "list", data := .seq vs.toArray } ∧ IntsAre vs ns ∧ ns.length ≤ n := by
  have hsh : WShape.hasAll [] args [.list .int] = true := (pre_splitW hpre).1
  have hc : l.pre.holds [] { args := args } = true := (pre_splitW hpre).2
  obtain ⟨d, r, rfl, h1, h2⟩ := hasAllW_cons hsh
  obtain rfl := hasAllW_nil h2
  obtain ⟨xs, rfl, h3⟩ := hasW_list h1
  obtain ⟨ns, rfl⟩ := items_int h3
  have hlen : ns.length ≤ n := by
    unfold OpenLaw.pre at hc
    have h4 : (WTm.not (.lt (.lit (.int (n : Int))) (.len (.arg 0)))).holds [] { args := [.list (ns.map .int)] } = true := by
      have h4 := (holds_andW hc).1
      rw [hn] at h4
      exact h4
    have h5 := condW_of h4 (w_not (w_lt w_lit (w_len_list (w_arg rfl))))
    rw [List.length_map] at h5
    refine Nat.le_of_not_lt fun q => ?_
    have q' : (n : Int) < ((ns.length : Nat) : Int) := by (first | lia | omega)
    first
      | (rw [decide_eq_true q'] at h5; exact absurd h5 (by decide))
      | (simp at h5; (first | lia | omega))
  cases hwl with
  | cons w1 w2 =>
    cases w2
    cases w1 with
    | list ho hall => exact ⟨_, _, ns, rfl, rfl, ho, ints_of_wellAll ns _ hall, hlen⟩

theorem post_true (l : OpenLaw) (args : List WData) : l.row.toRowW.claim.post args (.bool true) args = true :=
  postW_of (r := l.row.toRowW) (X := (true == true))
    (show WShape.has [] (.bool true) .bool = true by first | rfl | decide | simp [WShape.has, WShape.arms, WShape.armsAll])
    (show (WTm.eq .res (.lit (.bool true))).value [] { args := args, res := some (.bool true), after := args } = some (.bool (true == true)) from w_eq_bool (w_res rfl) w_lit) rfl

/-- the same from a codeAny of the CALL (for a layer whose function contracts speak of calls) -/
theorem attach_call {l : OpenLaw} {n : Nat} {q : Program} {loose : List Str} {XP : (Str → Option Value) → Heap → Prop} {YP : World → Heap → Prop} {d : DefRec}
    (hn : l.most = some n) (hdf : d.params.defaults = [])
    (call : ∀ (w : World) (s₀ s₁ : Shared) (mg mb : Str → Option Value) (fa : Addr) (o : Obj) (pm cd doc : Value) (a : Addr) (vs : List Value) (ns : List Int),
      Ground q loose [] XP w s₀ mg mb s₁.heap → YP w s₁.heap →
      s₁.heap.get? fa = some o → o.data = .func (docDef d.name d.params d.body d.scope pm cd doc) → s₁.heap.CodeRec cd d.name → mg d.name = some (.ref fa) →
      s₁.heap.get? a = some { cls := .type "list", data := .seq vs.toArray } → IntsAre vs ns → ns.length ≤ n → s₁.gens = #[] →
      codeAny (model l.prog w) callerA (.call (.ref fa) ⟨[.ref a], []⟩) (fun r s' => r = .ok (.ret (.bool true)) ∧ OldK s₁.heap s'.heap ∧ s'.os = s₁.os ∧ AllBare s'.gens) s₁) :
    WalkO q loose XP YP l.row.toRowW d [] (fun f vs => PySem.call f vs) := by
  intro w s₀ s₁ mg mb G Y fa o pm cd doc dV kV ho hd hcd hD hmg hg args vals as hpre hlay hrd hwl hlo
  obtain rfl : dV = .none := Dflts.none hD hdf
  obtain rfl : kV = .none := Dflts.noKw hD
  obtain ⟨a, vs, ns, rfl, rfl, hobj, hints, hlen⟩ := script_of hn hpre hwl
  refine enter_call (codeAny_mono (call w s₀ s₁ mg mb fa o pm cd doc a vs ns G Y ho (fd_plain hd) hcd hmg hobj hints hlen hg) fun r s' hq => ?_)
  obtain ⟨rfl, h2, h3, h4⟩ := hq
  exact ⟨.inl ⟨.bool true, .bool true, [], rfl, fun _ => rfl, .bool true, post_true l _, fun _ => ⟨List.Pairwise.nil, fun _ hm => (nomatch hm)⟩⟩, h2, h3, h4⟩

section
variable {prog : Program} {w : World} {A : Around} {E : Value → Shared → Prop} {s : Shared} {K : Frag}

end
end Att

namespace L2
open PySem PySem.Spec PyProof.Rows

theorem vals_ints : ∀ {vs : List Value} {ns : List Int}, IntsAre vs ns → Vals (ns.map V.int) vs
  | _, _, .nil => .nil
  | _, _, .cons n t h => .cons ⟨t, rfl⟩ (vals_ints h)

/-- nothing is tracked but the script, known to the object (or it is an object of the module) -/
def Only (H : Hp) : Prop := ∀ b, H b = none ∨ ∃ o xs, H b = some (.frz o (.lst xs))

/-- THE HEAD: the law's promise, at the heap behind the top. F, the promise of the law's def, may use that base is part of the heap (so K.In base, base.Ns mainGlobals mg stand in Mod) -/
theorem law_call {P : Program} {w : World} {K : PySem.W.Frag} {mg mb : Str → Option Value} {CX : CXT} {k : Nat} {fa a : Addr} {fd : FuncData} {x : Str} {sp : Sp} {s₁ : Shared} {vs : List Value} {ns : List Int}
    (KX : K.In s₁.heap) (hns : s₁.heap.Ns mainGlobals mg) (hb : s₁.heap.Ns builtinsNs mb) (hbb : ∀ x : Str, x ≠ "__name__" → mb x = bootBuiltins x) (hlim : s₁.heap.NoLimit) (hg : s₁.gens = #[])
    (ha : s₁.heap.get? a = some { cls := .type "list", data := .seq vs.toArray }) (hi : IntsAre vs ns) (hl : ns.length ≤ sizeLine) (hr : Room k callerA)
    (F : ∀ base : Heap, K.In base → base.Ns mainGlobals mg → FnOk P w K mg base CX k fa fd [x] sp) (hbind : ∀ (s : Shared) (u : Value), BindsTo s fd ⟨[u], []⟩ [(x, u)])
    (hsp : ∀ H : Hp, Only H → SqL K H a (ns.map V.int) → sp [.ref a] H (fun v _ => v = .bl true) fun _ _ _ => False)
    (hCX : ∀ H e s', CX [] H s₁ (fun _ _ _ => False) e s' → False) :
    codeAny (model P w) callerA (.call (.ref fa) ⟨[.ref a], []⟩) (fun r s' => r = .ok (.ret (.bool true)) ∧ OldK s₁.heap s'.heap ∧ s'.os = s₁.os ∧ AllBare s'.gens) s₁ := by
  have rv := vals_ints hi
  have lenV := hi.length
  -- from an abstract heap in which nothing but the script may be tracked
  have core : ∀ H : Hp, Only H → SqL K H a (ns.map V.int) → HOk P w H s₁.heap → (∀ b, H b ≠ none → b = a) → (H a ≠ none → K.lookup a = none) →
      codeAny (model P w) callerA (.call (.ref fa) ⟨[.ref a], []⟩) (fun r s' => r = .ok (.ret (.bool true)) ∧ OldK s₁.heap s'.heap ∧ s'.os = s₁.os ∧ AllBare s'.gens) s₁ := by
    intro H hO hS hok hA hK
    have base_of : ∀ {b : Addr} {o : Obj}, s₁.heap.get? b = some o → H b = none → (hidT s₁.heap H).get? b = some o := fun e n => hidT_get e n
    have noA : ∀ {b : Addr} {o : Obj} {es : Array DictEntry} {ep : Nat}, s₁.heap.get? b = some o → o.data = .dict es ep → H b = none := fun {b o es ep} e d => by
      cases q : H b with
      | none => rfl
      | some u =>
        have e' : b = a := hA b (by rw [q]; simp)
        subst e'
        rw [ha] at e; cases e
        have d' : Data.seq vs.toArray _ = Data.dict es ep := d
        cases d'
    have nsK : ∀ {b : Addr} {m : Str → Option Value}, s₁.heap.Ns b m → (hidT s₁.heap H).Ns b m := fun {b m} ⟨o, es, ep, e, d, r⟩ => ⟨o, es, ep, base_of e (noA e d), d, r⟩
    have hKb : K.In (hidT s₁.heap H) := fun b o e => base_of (KX b o e) (by
      cases q : H b with
      | none => rfl
      | some u =>
        have e' : b = a := hA b (by rw [q]; simp)
        subst e'
        rw [hK (by rw [q]; simp)] at e; cases e)
    have hM : Mod K mg (hidT s₁.heap H) := ⟨hKb, nsK hns, ⟨mb, nsK hb, hbb⟩, let ⟨mc, h1, h2⟩ := hlim; ⟨mc, nsK h1, h2⟩⟩
    have e0 : Env0 P w K mg (hidT s₁.heap H) callerA [] s₁ H := ⟨rfl, hM, fun b o e => of_hidT e, Nat.le_of_eq (hidT_size _ _), trivial, fun b hb => absurd (show b ∈ ([] : List Addr) from hb) (by simp), hok, .of_eq hg⟩
    refine codeAny_mono ((F _ hKb (nsK hns)).run callerA [] s₁ H ⟨[.ref a], []⟩ [.ref a] [.ref a] _ _ hr e0 (hbind s₁ (.ref a)) (.cons rfl .nil) (hsp H hO hS)) fun r s' h => ?_
    cases r with
    | error e => exact (hCX H e s' h).elim
    | ok fl =>
      cases fl with
      | next => exact False.elim h
      | brk => exact False.elim h
      | cont => exact False.elim h
      | ret u =>
        obtain ⟨v, H', os, bare, un, hok', r', q⟩ := h
        have q' : v = .bl true := q
        subst q'
        obtain rfl : u = Value.bool true := r'
        refine ⟨rfl, OldK.of_keep fun b o e => ?_, os, bare⟩
        cases q : H b with
        | none => exact un.keep b o e q (by intro z; exact absurd (show b ∈ ([] : List Addr) from z) (by simp)) (by simp)
        | some u =>
          rcases hO b with z | ⟨ob, xs, z⟩
          · rw [q] at z; cases z
          · have z2 := un.frzs b ob _ z
            obtain ⟨e1, _⟩ := hok b _ z
            obtain ⟨e2, _⟩ := hok' b _ z2
            rw [e] at e1; cases e1
            exact e2
  cases hk : K.lookup a with
  | some o =>
    -- the script is one of the module's own objects
    have e := KX a o hk
    rw [ha] at e
    cases e
    refine core (fun _ => none) (fun _ => .inl rfl) (.inr ⟨_, vs.toArray, _, hk, rfl, rfl, rfl, by rw [List.size_toArray, lenV]; exact hl, by simpa using rv⟩) (fun b u z => by have z' : (none : Option HO) = some u := z; cases z') (fun b z => absurd rfl z) fun z => absurd rfl z
  | none =>
    refine core (fun b => if b = a then some (.frz { cls := .type "list", data := .seq vs.toArray } (.lst (ns.map V.int))) else none) (fun b => ?_) (.inl (.inr ⟨{ cls := .type "list", data := .seq vs.toArray }, if_pos rfl⟩)) (fun b u z => ?_) (fun b z => ?_) fun _ => hk
    · by_cases hb : b = a
      · exact .inr ⟨_, _, if_pos hb⟩
      · exact .inl (if_neg hb)
    · by_cases hb : b = a
      · have z' := (if_pos hb).symm.trans z
        cases z'
        subst hb
        exact ⟨ha, by rw [List.length_map]; exact hl, vs, _, rv, ha⟩
      · have z' := (if_neg hb).symm.trans z
        cases z'
    · by_cases hb : b = a
      · exact hb
      · exact absurd (if_neg hb) z
end L2

namespace L2
open PySem PySem.Spec PyProof.Rows

/-- the goal that k_head leaves (case hc), from the law's promise. F gives the function object fd (K's own) once, then the promise over every base -/
theorem walk_of {l : PySem.W.OpenLaw} {n k : Nat} {q : Program} {loose : List Str} {XP : (Str → Option Value) → Heap → Prop} {YP : World → Heap → Prop} {d : DefRec} {K : Params → PySem.W.Frag} {CX : World → CXT} {sp : World → Sp} {x : Str}
    (hn : l.most = some n) (hn2 : n ≤ sizeLine) (hdf : d.params.defaults = []) (hr : Room k callerA)
    (hY : ∀ (w : World) (h : Heap), YP w h → (K w.params).In h)
    (F : ∀ (w : World) (mg : Str → Option Value) (fa : Addr) (h : Heap), (K w.params).In h → h.Ns mainGlobals mg → mg d.name = some (.ref fa) →
      ∃ fd : FuncData, (∀ (s : Shared) (u : Value), BindsTo s fd ⟨[u], []⟩ [(x, u)]) ∧
        ∀ base : Heap, (K w.params).In base → base.Ns mainGlobals mg → FnOk l.prog w (K w.params) mg base (CX w) k fa fd [x] (sp w))
    (hsp : ∀ (w : World) (H : Hp) (a : Addr) (ns : List Int), ns.length ≤ n → Only H → SqL (K w.params) H a (ns.map V.int) → sp w [.ref a] H (fun v _ => v = .bl true) fun _ _ _ => False)
    (hCX : ∀ (w : World) (H : Hp) (s : Shared) (e : Value) (s' : Shared), CX w [] H s (fun _ _ _ => False) e s' → False) :
    PySem.W.WalkO q loose XP YP l.row.toRowW d [] (fun f vs => PySem.call f vs) := by
  refine Att.attach_call hn hdf fun w s₀ s₁ mg mb fa o pm cd doc a vs ns G Y ho hd hcd hmg hobj hints hlen hg => ?_
  have KX := hY w _ Y
  obtain ⟨fd, hb, hF⟩ := F w mg fa _ KX G.T.g hmg
  exact law_call KX G.T.g G.T.b G.T.builtins G.T.nolimit hg hobj hints (Nat.le_trans hlen hn2) hr hF hb (fun H hO hS => hsp w H a ns hlen hO hS) fun H e s' => hCX w H s₁ e s'
end L2

/- THE LAST THEOREM (shape; LID, My.* are yours):
   My.Adr: a structure of the addresses that your layer names (classes, functions); My.Txt K t: a structure (Prop) of the equations over K;
   My.txt_mk : {K} {implicit addresses ..} (e1 : nsIn K mainGlobals "law" = some (some (.ref f))) (e2 : K.lookup f = some ⟨oc, od, .func (fnOf "law" "law" params body scope dV kV doc pm an cdv ct), sl⟩) (e3 : codeIn K cdv "law" = true) .. : ∃ t, My.Txt K t

set_option maxRecDepth 100000 in
set_option maxHeartbeats 0 in
theorem PySem.Challenge.cw_LID_holds : PySem.Challenge.rw_LID.Holds := by
  w_on; o_law; k_head; (case hw => w_witness2)
  k_fill
  refine L2.walk_of (l := PySem.Challenge.rw_LID) (n := 63) (k := 40) (x := "script") (CX := fun w => ..) (sp := fun _ => My.sp_law) rfl (by decide) rfl ⟨rfl, by decide, by decide⟩ (fun w h Y => PySem.W.kIn_of Y) ?F ?S ?C
  case F =>
    intro w mg fa h KX G hmg
    have T : ∃ t, My.Txt (L2.KOf KX) t := by
      dsimp only [L2.KOf]                          -- K must stand as «<heap const> w.params» for k_is
      refine' My.txt_mk ?e1 ?e2 ?e3 ..
      (case e1 => PySem.W.k_is)                    -- in the order: a name -> its address -> its object -> its parts
      (case e2 => PySem.W.k_is)
      ..
    obtain ⟨t, T⟩ := T
    have e0 := hmg.symm.trans (PySem.W.mg_of KX G T.law)
    cases e0                                       -- fa is the law's own address
    exact ⟨_, fun s u => .of_eq rfl, fun base kb nb => My.law_fn T kb nb⟩     -- if «.of_eq rfl» comes too early: refine' ⟨_, ?b, fun base kb nb => My.law_fn T kb nb⟩; exact fun s u => .of_eq rfl
  case S => exact fun w H a ns hl hO hS => ..
  case C => exact ..
(the tactic k_is has no namespace: write k_is) -/

namespace L2
open PySem PySem.Spec PyProof.Rows

def defArgs (s : Stmt) : Arguments := match s with
  | .FunctionDef _ a _ _ _ _ _ _ _ _ => a
  | _ => { posonlyargs := [], args := [], vararg := none, kwonlyargs := [], kw_defaults := [], kwarg := none, defaults := [] }
def defBody (s : Stmt) : List Stmt := match s with
  | .FunctionDef _ _ b _ _ _ _ _ _ _ => b
  | _ => []
def defScope (s : Stmt) : Scope := match s with
  | .FunctionDef _ _ _ _ _ _ sc _ _ _ => sc
  | _ => { kind := .function, names := [], isGenerator := false, isCoroutine := false }

abbrev CX0 : CXT := fun _ _ _ _ _ _ => False
abbrev E0 : XK := fun _ _ _ => False
theorem pass0 {X : Cx} : Passes CX0 X E0 := fun _ _ _ _ _ _ _ h => h.elim

structure Fun (K : PySem.W.Frag) (x qual : Str) (st : Stmt) (f : Addr) (fd : FuncData) : Prop where
  ex : ∃ (oc : Value) (od : Option Addr) (kV doc pm : Value) (an : Option Addr) (cdv ct : Value) (osl : Array (Option Value)),
    fd = PySem.W.fnOf x qual (defArgs st) (defBody st) (defScope st) .none kV doc pm an cdv ct ∧ K.lookup f = some ⟨oc, od, .func fd, osl⟩ ∧ PySem.W.codeIn K cdv qual = true
  kp : PySem.W.keepIn K (.ref f) = true
section
variable {P : Program} {w : World} {K : PySem.W.Frag} {mg : Str → Option Value} {base : Heap}
/-- THE RULE for a def: its body as a term of rules, and the reading of that term -/
theorem Fun.ok {x qual : Str} {st : Stmt} {f : Addr} {fd : FuncData} {N ps : List Str} {k : Nat} {sp : Sp} (F : Fun K x qual st f fd) (S : FnScope N ps (defScope st)) (len : ∀ vs H Q E, sp vs H Q E → vs.length = ps.length)
    (hbody : ∀ (cdv : Value) (A : Around) (outer : List Env) (s : Shared) (H : Hp) (vs : List V) (Q : VK) (E : XK), Room k (A.deeper (envOfC qual (defScope st) s.heap.objs.size f cdv)) → sp vs H Q E →
      ∃ t, PSs (cxOf CX0 P w K mg base N qual (defScope st) f cdv A outer s H E).nox (defBody st) t ∧ t { nx := fun _ H' => Q .non H', rt := Q } (start N vs) H) : FnOk P w K mg base CX0 (k + 1) f fd ps sp := by
  obtain ⟨oc, od, kV, doc, pm, an, cdv, ct, osl, rfl, lk, hcd⟩ := F.ex
  refine fn_of lk hcd S len fun A outer s H vs Q E hr hsp => ?_
  obtain ⟨t, h, q⟩ := hbody cdv A outer s H vs Q E hr hsp
  exact ⟨t, h.nox, q⟩
/-- how its arguments bind (no defaults): h is «fun _ _ _ _ _ _ us hl => match us, hl with | [_, _], _ => rfl», one _ a parameter -/
theorem Fun.binds {x qual : Str} {st : Stmt} {f : Addr} {fd : FuncData} {ps : List Str} (F : Fun K x qual st f fd)
    (h : ∀ (kV doc pm : Value) (an : Option Addr) (cdv ct : Value) (us : List Value), us.length = ps.length → bindArgs (PySem.W.fnOf x qual (defArgs st) (defBody st) (defScope st) .none kV doc pm an cdv ct) ⟨us, []⟩ = pure (ps.zip us)) : Binds K fd ps [] := by
  obtain ⟨oc, od, kV, doc, pm, an, cdv, ct, osl, rfl, lk, hcd⟩ := F.ex
  exact .all (h kV doc pm an cdv ct)
theorem fun_mk {x qual : Str} {st : Stmt} {f : Addr} {oc : Value} {od an : Option Addr} {osl : Array (Option Value)} {kV doc pm cdv ct : Value} (l : K.lookup f = some ⟨oc, od, .func (PySem.W.fnOf x qual (defArgs st) (defBody st) (defScope st) .none kV doc pm an cdv ct), osl⟩)
    (c : PySem.W.codeIn K cdv qual = true) (k : PySem.W.keepIn K (.ref f) = true) : Fun K x qual st f (PySem.W.fnOf x qual (defArgs st) (defBody st) (defScope st) .none kV doc pm an cdv ct) := ⟨⟨oc, od, kV, doc, pm, an, cdv, ct, osl, rfl, l, c⟩, k⟩
end
theorem small1000 {n : Nat} (h : n ≤ 1000) : n < sizeLine := Nat.lt_of_le_of_lt h (by decide)

section
variable {X : Cx}
theorem pv (i : Nat) {x : Str} {pos : Pos} (hN : X.N[i]? = some x := by rfl) (hv : Vis X.env.scope x := by first | exact Or.inl rfl | exact Or.inr (Or.inl rfl) | exact Or.inr (Or.inr rfl)) (hd : (x == ("__debug__" : Str)) = false := by decide)
    (hcd : (x == ("__classdict__" : Str)) = false := by decide) : PE X (.Name x pos) (tVar i) := pe_var hN hv hd hcd
end

theorem iteF {A B : Prop} (h : B) : if false = true then A else B := by
  rw [if_neg Bool.false_ne_true]
  exact h
theorem iteT {A B : Prop} (h : A) : if true = true then A else B := by
  rw [if_pos rfl]
  exact h
theorem ite2 {c A B : Prop} [Decidable c] (h1 : c → A) (h2 : ¬ c → B) : if c then A else B := by
  by_cases h : c
  · rw [if_pos h]
    exact h1 h
  · rw [if_neg h]
    exact h2 h
/-- all that was tracked is as it was -/
def Same (H H' : Hp) : Prop := ∀ b o, H b = some o → H' b = some o
theorem Same.refl (H : Hp) : Same H H := fun _ _ h => h
theorem Same.trans {H H1 H2 : Hp} (a : Same H H1) (b : Same H1 H2) : Same H H2 := fun c o h => b c o (a c o h)
theorem Same.free {H H' : Hp} (e : Same H H') {l : Addr} (h : H' l = Option.none) : H l = Option.none := by
  cases q : H l with
  | none => rfl
  | some o =>
    rw [e l o q] at h
    cases h
theorem Same.seq {K : PySem.W.Frag} {H H' : Hp} {a : Addr} {xs : List V} (e : Same H H') (h : SqL K H a xs) : SqL K H' a xs := by
  rcases h with (h | ⟨o, h⟩) | h
  · exact .inl (.inl (e _ _ h))
  · exact .inl (.inr ⟨o, e _ _ h⟩)
  · exact .inr h

end L2

set_option Elab.async false
set_option linter.all false
set_option maxRecDepth 100000
set_option maxHeartbeats 4000000
namespace L2
open PySem PySem.Spec PyProof.Rows

section
variable {κ : Type} [DecidableEq κ]
end


section
variable {P : Program} {w : World} {H : Hp} {h : Heap} {a : Addr}
end

section
variable {X : Cx} {pins : List (Addr × Obj)} {σ : St} {H : Hp} {s : Shared} {a : Addr} {y v : V} {u r : Value} {o : Option V} {A : Around} {E : Value → Shared → Prop}

end

section
variable {X : Cx} {pins : List (Addr × Obj)} {σ : St} {H : Hp} {s : Shared} {a : Addr} {kvs : List (Key × V)} {k : Key} {u : Value} {A : Around} {E : Value → Shared → Prop}
end


section
variable {X : Cx} {o i e value : Expr} {pos pos' tpos : Pos} {td ty tv : TE}
end


section
variable {X : Cx} {pos : Pos}
end

section
variable {X : Cx} {pins : List (Addr × Obj)} {σ : St} {H : Hp} {s : Shared} {a : Addr} {y d : V} {u r : Value} {o : Option V} {A : Around} {E : Value → Shared → Prop}
end

section
variable {X : Cx} {o e f : Expr} {apos cpos : Pos} {td ty tx : TE}
end

section
variable {X : Cx} {pins : List (Addr × Obj)} {σ : St} {H : Hp} {s : Shared} {a : Addr} {kvs : List (Key × V)} {A : Around} {E : Value → Shared → Prop}
end


section
variable {X : Cx} {pins : List (Addr × Obj)} {σ : St} {H : Hp} {s : Shared} {a : Addr} {y : V} {u : Value} {A : Around} {E : Value → Shared → Prop}
end
end L2
namespace L2
section
variable {κ : Type} [DecidableEq κ]
end
end L2

set_option Elab.async false
set_option linter.all false
set_option maxRecDepth 100000
set_option maxHeartbeats 4000000
namespace L2
open PySem PySem.Spec PyProof.Rows

theorem closure_go {env : Env} (f : Str × NameKind → List (Str × Addr) → Sem (ForInStep (List (Str × Addr))))
    (hf : ∀ n k r, f (n, k) r = if (k == NameKind.free) = true then (cellOf env n >>= fun a => pure (.yield ((n, a) :: r))) else pure (.yield r)) :
    ∀ (l : List (Str × NameKind)) (acc : List (Str × Addr)), (∀ x ∈ l, x.2 = .free → ∃ c, env.cells.lookup x.1 = some c) → (∀ y c, acc.lookup y = some c → env.cells.lookup y = some c) →
      ∃ cl, (forIn l acc f : Sem (List (Str × Addr))) = pure cl ∧ (∀ y c, cl.lookup y = some c → env.cells.lookup y = some c) ∧ (∀ y, (∃ c, acc.lookup y = some c) → ∃ c, cl.lookup y = some c) ∧ ∀ y, (y, NameKind.free) ∈ l → ∃ c, cl.lookup y = some c
  | [], acc, _, ha => ⟨acc, by rw [List.forIn_nil], ha, fun _ h => h, fun _ h => by cases h⟩
  | (n, k) :: r, acc, h, ha => by
    rw [List.forIn_cons, hf]
    have hr : ∀ x ∈ r, x.2 = .free → ∃ c, env.cells.lookup x.1 = some c := fun x hx => h x (List.mem_cons_of_mem _ hx)
    by_cases hk : k = .free
    · subst hk
      obtain ⟨c, hc⟩ := h (n, .free) List.mem_cons_self rfl
      have hcell : cellOf env n = pure c := by unfold cellOf; rw [hc]
      have look : ∀ y, ((n, c) :: acc).lookup y = if (y == n) = true then some c else acc.lookup y := fun y => by
        rw [List.lookup_cons]; cases y == n <;> rfl
      obtain ⟨cl, e, r1, r2, r3⟩ := closure_go f hf r ((n, c) :: acc) hr (fun y c' q => by
        rw [look] at q
        split at q
        · rename_i hy
          have e := eq_of_beq hy
          subst e
          rw [← q]; exact hc
        · exact ha y c' q)
      rw [if_pos (by rfl), hcell]
      refine ⟨cl, e, r1, fun y ⟨c', q⟩ => r2 y ?_, fun y hy => ?_⟩
      · rw [look]
        split
        · exact ⟨_, rfl⟩
        · exact ⟨_, q⟩
      · rcases List.mem_cons.mp hy with q | q
        · injection q with q1 _
          exact r2 y ⟨c, by rw [look, q1, if_pos (by simp)]⟩
        · exact r3 y q
    · have hb : (k == NameKind.free) = false := by simpa using hk
      obtain ⟨cl, e, r1, r2, r3⟩ := closure_go f hf r acc hr ha
      rw [if_neg (by rw [hb]; decide)]
      refine ⟨cl, e, r1, r2, fun y hy => ?_⟩
      rcases List.mem_cons.mp hy with q | q
      · injection q with _ q2
        exact absurd q2.symm hk
      · exact r3 y q
theorem closureFor_ok {scope : Scope} {env : Env} (h : ∀ x ∈ scope.names, x.2 = .free → ∃ c, env.cells.lookup x.1 = some c) :
    ∃ cl, closureFor scope env = pure cl ∧ (∀ y c, cl.lookup y = some c → env.cells.lookup y = some c) ∧ ∀ y, (y, NameKind.free) ∈ scope.names → ∃ c, cl.lookup y = some c := by
  have g := closure_go (env := env) (fun x r => match x with | (name, kind) => if (kind == NameKind.free) = true then (do let a ← cellOf env name; pure (ForInStep.yield ((name, a) :: r))) else pure (ForInStep.yield r)) (fun _ _ _ => rfl) scope.names [] h (fun _ _ q => by cases q)
  obtain ⟨cl, e, r1, _, r3⟩ := g
  refine ⟨cl, ?_, r1, r3⟩
  have e2 : closureFor scope env = (forIn scope.names ([] : List (Str × Addr)) (fun x r => match x with | (name, kind) => if (kind == NameKind.free) = true then (do let a ← cellOf env name; pure (ForInStep.yield ((name, a) :: r))) else pure (ForInStep.yield r)) >>= fun r => pure r) := rfl
  rw [e2, e]
  rfl

/-- N, sc: the names and the scope around; N', ix: the block's names, and where they stand around -/
def compOk (N : List Str) (sc scope : Scope) (N' : List Str) (ix : List (Option Nat)) : Bool :=
  (scope.names.all fun p => decide (p.2 ≠ .cell) && (decide (p.2 ≠ .local) || decide (scope.names.lookup p.1 = some .local)) && (decide (p.2 ≠ .free) || (decide (sc.names.lookup p.1 = some .cell) && decide (scope.names.lookup p.1 = some .free)))) &&
  decide N'.Nodup && decide (ix.length = N'.length) &&
  ((List.range ix.length).all fun j => match ix[j]? with
    | some (some i) => (match N'[j]? with | some y => decide (N[i]? = some y) && (scope.names.any fun p => decide (p.1 = y) && decide (p.2 = .free)) | none => false)
    | _ => true)
structure CompSc (N : List Str) (sc scope : Scope) (N' : List Str) (ix : List (Option Nat)) : Prop where
  kind : scope.kind = .function
  nocell : ∀ y ∈ scope.names, y.2 ≠ .cell
  names : ∀ y ∈ scope.names, y.2 = .local → scope.names.lookup y.1 = some .local
  nd : N'.Nodup
  len : ix.length = N'.length
  cap : ∀ (j i : Nat), ix[j]? = some (some i) → ∃ y, N'[j]? = some y ∧ N[i]? = some y ∧ (y, NameKind.free) ∈ scope.names
  free : ∀ y, (y, NameKind.free) ∈ scope.names → sc.names.lookup y = some .cell
  frees : ∀ y, (y, NameKind.free) ∈ scope.names → scope.names.lookup y = some .free
theorem CompSc.of {N : List Str} {sc scope : Scope} {N' : List Str} {ix : List (Option Nat)} (kind : scope.kind = .function) (h : compOk N sc scope N' ix = true) : CompSc N sc scope N' ix := by
  unfold compOk at h
  simp only [Bool.and_eq_true, List.all_eq_true, Bool.or_eq_true, decide_eq_true_eq] at h
  obtain ⟨⟨⟨h1, h2⟩, h3⟩, h4⟩ := h
  refine ⟨kind, fun y hy => (h1 y hy).1.1, fun y hy hl => ?_, h2, h3, fun j i e => ?_, fun y hy => ?_, fun y hy => ?_⟩
  · rcases (h1 y hy).1.2 with z | z
    · exact absurd hl z
    · exact z
  · have hj : j < ix.length := (List.getElem?_eq_some_iff.mp e).1
    have q := h4 j (List.mem_range.mpr hj)
    rw [e] at q
    dsimp only at q
    cases e2 : N'[j]? with
    | none => rw [e2] at q; cases q
    | some y =>
      rw [e2] at q
      simp only [Bool.and_eq_true, decide_eq_true_eq, List.any_eq_true] at q
      obtain ⟨q1, ⟨n, k⟩, q2, q3, q4⟩ := q
      dsimp only at q3 q4
      subst q3 q4
      exact ⟨_, rfl, q1, q2⟩
  · rcases (h1 _ hy).2 with z | z
    · exact absurd rfl z
    · exact z.1
  · rcases (h1 _ hy).2 with z | z
    · exact absurd rfl z
    · exact z.2

/-- the block's names at its entry -/
def inSt (ix : List (Option Nat)) (σ : St) : St := ix.map fun o => o.bind fun i => (σ[i]?).join
theorem inSt_get {ix : List (Option Nat)} {σ : St} {j : Nat} {v : V} (h : (inSt ix σ)[j]? = some (some v)) : ∃ i, ix[j]? = some (some i) ∧ σ[i]? = some (some v) := by
  unfold inSt at h
  rw [List.getElem?_map] at h
  cases e : ix[j]? with
  | none => rw [e] at h; cases h
  | some o =>
    rw [e] at h
    cases o with
    | none => cases h
    | some i =>
      refine ⟨i, rfl, ?_⟩
      have h' : (σ[i]?).join = some v := Option.some.inj h
      cases e2 : σ[i]? with
      | none => rw [e2] at h'; cases h'
      | some o2 => rw [e2] at h'; exact congrArg some h'

/-- the context of a comprehension's block: made at the state s (the iterator stands, its records at fp) -/
def cxIn (X : Cx) (scope : Scope) (N' : List Str) (C : Addr) (cl : List (Str × Addr)) (s : Shared) (H : Hp) (fp : List Addr) : Cx where
  prog := X.prog
  w := X.w
  K := X.K
  mg := X.mg
  base := X.base
  A := X.A
  N := N'
  s₀ := s
  H₀ := H
  env := compEnvC scope cl C X.env
  outer := X.stack
  stack := X.stack
  ex := fp
  fn := fun _ => false
  calm := X.calm
  pn := []
  xe := fun _ _ => False

theorem lookup_relabel {env : Env} : ∀ {names : List (Str × NameKind)} {x : Str} {k : NameKind}, (∀ y ∈ names, y.2 ≠ .cell) →
    (names.map fun (n, k) => if (k == NameKind.free && env.scope.kind == .function && env.kindOf n == some .cell) then (n, NameKind.cell) else (n, k)).lookup x = some k → k = .cell ∨ k = .free → (x, NameKind.free) ∈ names
  | [], _, _, _, h, _ => by simp at h
  | (n, k') :: r, x, k, hc, h, hk => by
    have ih := @lookup_relabel env r x k fun y hy => hc y (List.mem_cons_of_mem _ hy)
    change List.lookup x ((if (k' == NameKind.free && env.scope.kind == .function && env.kindOf n == some .cell) = true then (n, NameKind.cell) else (n, k')) :: _) = _ at h
    by_cases hx : x = n
    · subst hx
      by_cases hq : (k' == NameKind.free && env.scope.kind == .function && env.kindOf x == some .cell) = true
      · have hf : k' = .free := by
          simp only [Bool.and_eq_true] at hq
          exact eq_of_beq hq.1.1
        subst hf
        exact List.mem_cons_self
      · rw [if_neg hq] at h
        simp only [List.lookup_cons, beq_self_eq_true] at h
        have e : k' = k := Option.some.inj h
        subst e
        rcases hk with z | z
        · exact absurd z (hc (x, k') List.mem_cons_self)
        · subst z; exact List.mem_cons_self
    · have hb : (x == n) = false := beq_eq_false_iff_ne.mpr hx
      refine List.mem_cons_of_mem _ (ih ?_ hk)
      by_cases hq : (k' == NameKind.free && env.scope.kind == .function && env.kindOf n == some .cell) = true
      · rw [if_pos hq] at h
        simp only [List.lookup_cons, hb] at h
        exact h
      · rw [if_neg hq] at h
        simp only [List.lookup_cons, hb] at h
        exact h

theorem lookup_relabel_free {env : Env} : ∀ {names : List (Str × NameKind)} {x : Str}, names.lookup x = some .free →
    (names.map fun (n, k) => if (k == NameKind.free && env.scope.kind == .function && env.kindOf n == some .cell) then (n, NameKind.cell) else (n, k)).lookup x = some .cell ∨
    (names.map fun (n, k) => if (k == NameKind.free && env.scope.kind == .function && env.kindOf n == some .cell) then (n, NameKind.cell) else (n, k)).lookup x = some .free
  | [], _, h => by simp at h
  | (n, k') :: r, x, h => by
    have ih := @lookup_relabel_free env r x
    show List.lookup x ((if (k' == NameKind.free && env.scope.kind == .function && env.kindOf n == some .cell) = true then (n, NameKind.cell) else (n, k')) :: _) = _ ∨ List.lookup x ((if (k' == NameKind.free && env.scope.kind == .function && env.kindOf n == some .cell) = true then (n, NameKind.cell) else (n, k')) :: _) = _
    by_cases hx : x = n
    · subst hx
      simp only [List.lookup_cons, beq_self_eq_true] at h
      cases h
      by_cases hq : (NameKind.free == NameKind.free && env.scope.kind == .function && env.kindOf x == some .cell) = true
      · rw [if_pos hq]; left; simp [List.lookup_cons]
      · rw [if_neg hq]; right; simp [List.lookup_cons]
    · have hb : (x == n) = false := beq_eq_false_iff_ne.mpr hx
      simp only [List.lookup_cons, hb] at h
      by_cases hq : (k' == NameKind.free && env.scope.kind == .function && env.kindOf n == some .cell) = true
      · rw [if_pos hq]; simp only [List.lookup_cons, hb]; exact ih h
      · rw [if_neg hq]; simp only [List.lookup_cons, hb]; exact ih h

section
variable {X : Cx} {pins : List (Addr × Obj)} {σ : St} {H H' : Hp} {s : Shared}
/-- an object that stands, untracked, younger than the entry, is tracked from now on -/
theorem Inv.adopt {a : Addr} {o : HO} (I : Inv X pins σ H s) (hn : H a = none) (h1 : X.s₀.heap.objs.size ≤ a) (hL : a ≠ X.env.locals) (hC : ∀ x c, X.env.cells.lookup x = some c → c ≠ a) (hp : ∀ p ∈ X.pn ++ pins, p.1 ≠ a)
    (new : ObjOk X.prog X.w (upd H a o) s.heap a o) : Inv X pins σ (upd H a o) s := by
  have u : ∀ b ob, X.s₀.heap.get? b = some ob → b ≠ a := fun b ob e => Nat.ne_of_lt (Nat.lt_of_lt_of_le (Heap.lt_size e) h1)
  refine ⟨I.ok, I.os, I.bare, ⟨I.base.keep, I.base.slot, fun b ob e n hx => by rw [upd_ne (u b ob e)]; exact I.base.free b ob e n hx, I.base.there, fun b xs e => ?_, fun b ob xs e => ?_, fun b ps e => ?_⟩, I.loc, I.cell, ?_, fun x c e => ?_, fun p hq => ?_, fun b ob e => ?_, I.len⟩
  · have q := I.base.tups b xs e
    rw [upd_ne (ne_of_none q hn)]; exact q
  · have q := I.base.frzs b ob xs e
    rw [upd_ne (ne_of_none q hn)]; exact q
  · obtain ⟨more, q⟩ := I.base.tbls b ps e
    exact ⟨more, by rw [upd_ne (ne_of_none q hn)]; exact q⟩
  · rw [upd_ne (Ne.symm hL)]; exact I.free
  · rw [upd_ne (hC x c e)]; exact I.freeC x c e
  · obtain ⟨e, n, r⟩ := I.pin p hq
    exact ⟨e, by rw [upd_ne (hp p hq)]; exact n, r⟩
  · by_cases hb : b = a
    · subst hb
      rw [upd_same] at e
      cases e
      exact new
    · rw [upd_ne hb] at e
      exact (I.hok b ob e).stay (fun _ _ _ q => q) (fun c q => by rw [upd_ne (ne_of_none q hn)]; exact q) fun c xs q => by rw [upd_ne (ne_of_none q hn)]; exact q

/-- an address that the context may let turn, unseen -/
structure Loose (X : Cx) (pins : List (Addr × Obj)) (H : Hp) (C : Addr) : Prop where
  no : H C = none
  nl : C ≠ X.env.locals
  ab : X.s₀.heap.objs.size ≤ C
  nc : ∀ x c, X.env.cells.lookup x = some c → c ≠ C
  np : ∀ p ∈ X.pn ++ pins, p.1 ≠ C
theorem Inv.loose {C : Addr} (I : Inv X pins σ H s) (hC : s.heap.objs.size ≤ C) (hn : H' C = none) : Loose X pins H' C :=
  let ⟨a, b, _, d, e, f⟩ := I.fpOk (H' := H') hC hn
  ⟨a, b, Nat.le_trans I.sz hC, e, f⟩
theorem Inv.same {C : Addr} {h' : Heap} {s' : Shared} (I : Inv X pins σ H s) (l : Loose X pins H C) (sb : Heap.SameBut C s.heap h') (e : s' = { s with heap := h' }) : Inv X pins σ H s' := by
  subst e
  exact I.turned (t' := s.toks) (fun b o hb q => (sb.2 b hb).trans q) l.no (l.nl) (.inr l.ab) l.nc l.np

/-- the block's context is one -/
theorem Inv.cxIn_ok {scope : Scope} {N' : List Str} {ix : List (Option Nat)} {C : Addr} {cl : List (Str × Addr)} {fp : List Addr} (I : Inv X pins σ H s) (S : CompSc X.N X.env.scope scope N' ix) (hC : s.heap.objs.size ≤ C)
    (c1 : ∀ y c, cl.lookup y = some c → X.env.cells.lookup y = some c) (c2 : ∀ y, (y, NameKind.free) ∈ scope.names → ∃ c, cl.lookup y = some c)
    (hf : ∀ b ∈ fp, FpOk X pins H b) (hlt : ∀ b ∈ fp, b < s.heap.objs.size) : (cxIn X scope N' C cl s H fp).Ok where
  mod := I.ok.mod
  kind := S.kind
  glob := I.ok.glob
  blt := I.ok.blt
  above := hC
  inj := fun x y c h1 h2 => I.ok.inj x y c (c1 x c h1) (c1 y c h2)
  has := fun x h => by
    rcases h with h | h
    · exact c2 x (lookup_relabel S.nocell h (.inl rfl))
    · exact c2 x (lookup_relabel S.nocell h (.inr rfl))
  cab := fun _ _ h => by cases h
  hd := I.ok.hd
  frames := I.ok.frames
  stk := .inl rfl
  exf := fun b hb => ⟨Nat.ne_of_lt (Nat.lt_of_lt_of_le (hlt b hb) hC), fun x c e => (hf b hb).2.2.2.2.1 x c (c1 x c e)⟩
  bs := I.bs
  bsz := Nat.le_trans I.ok.bsz I.sz
  noex := fun b o e hb => by
    rcases (hf b hb).2.2.2.1 with z | z
    · exact I.ok.noex b o e z
    · exact absurd (Nat.lt_of_lt_of_le (Heap.lt_size e) (Nat.le_trans I.ok.bsz z)) (Nat.lt_irrefl _)
  exfs := fun b hb z => by
    rcases List.mem_cons.mp (I.stkSub b z) with q | q
    · exact (hf b hb).2.1 q
    · exact (hf b hb).2.2.1 q
  funs := I.stack
  frf := I.stkFree

theorem Inv.cxIn {scope : Scope} {N' : List Str} {ix : List (Option Nat)} {C D : Addr} {oD : Obj} {cl : List (Str × Addr)} {fp : List Addr} {h' : Heap} {tk : Nat} {m : Str → Option Value} (I : Inv X pins σ H s) (S : CompSc X.N X.env.scope scope N' ix)
    (hC : s.heap.objs.size ≤ C) (hD : s.heap.objs.size ≤ D) (hDC : D ≠ C) (eD : h'.get? D = some oD) (dD : ∀ v, oD.data ≠ .cell v)
    (c1 : ∀ y c, cl.lookup y = some c → X.env.cells.lookup y = some c) (c2 : ∀ y, (y, NameKind.free) ∈ scope.names → ∃ c, cl.lookup y = some c)
    (hf : ∀ b ∈ fp, FpOk X pins H b) (hlt : ∀ b ∈ fp, b < s.heap.objs.size) (k : ∀ b o, s.heap.get? b = some o → h'.get? b = some o) (hn : h'.Ns C m) :
    Inv (cxIn X scope N' C cl s H fp) [(D, oD)] (inSt ix σ) H { s with heap := h', toks := tk } where
  ok := I.cxIn_ok S hC c1 c2 hf hlt
  os := rfl
  bare := I.bare
  base := Un.kept k
  loc := by
    refine ⟨m, hn, fun j y v e1 e2 e3 => ?_⟩
    obtain ⟨i, h1, h2⟩ := inSt_get e2
    obtain ⟨z, hz1, hz2, hz3⟩ := S.cap j i h1
    change N'[j]? = some y at e1
    rw [e1] at hz1
    cases hz1
    have hk := S.free y hz3
    obtain ⟨m0, hn0, hl⟩ := I.loc
    obtain ⟨u, ru, lk⟩ := hl i y v hz2 h2 (.inr (.inl hk))
    refine ⟨u, ru, .inr ⟨?_, ?_⟩⟩
    · exact lookup_relabel_free (env := X.env) (S.frees y hz3)
    · rcases lk with ⟨k1, _⟩ | ⟨_, c, hc, ic⟩
      · rw [show X.env.kindOf y = some .cell from hk] at k1; cases k1
      · obtain ⟨c', hc'⟩ := c2 y hz3
        have := c1 y c' hc'
        rw [hc] at this
        cases this
        obtain ⟨o, ho, hd⟩ := ic
        exact ⟨c, hc', o, k _ _ ho, hd⟩
  cell := fun y c e => by
    obtain ⟨v, o, ho, hd⟩ := I.cell y c (c1 y c e)
    exact ⟨v, o, k _ _ ho, hd⟩
  free := I.hok.fresh hC
  freeC := fun y c e => I.freeC y c (c1 y c e)
  pin := fun p hp => by
    have e : p = (D, oD) := by
      rcases List.mem_append.mp hp with z | z
      · cases z
      · exact List.mem_singleton.mp z
    subst e
    refine ⟨eD, I.hok.fresh hD, hDC, fun z => ?_, dD⟩
    rcases List.mem_cons.mp (I.stkSub D z) with q | q
    · exact absurd (Nat.lt_of_lt_of_le I.lt hD) (by rw [show D = X.env.locals from q]; exact Nat.lt_irrefl _)
    · exact I.nofs hD q
  hok := I.hok.kept k
  len := by
    show (inSt ix σ).length = N'.length
    unfold inSt
    rw [List.length_map]
    exact S.len

end

section
variable {prog : Program} {w : World} {A : Around} {R : Result → Shared → Prop} {s : Shared}
theorem compLoop_any {elt target iter : Expr} {ifs : List Expr} {scope : Scope} {pos : Pos} {it acc : Value} {env : Env} (I : Nat → Shared → Prop)
    (turn : ∀ n s, I n s → wpAny (model prog w) A (pyNext it) (fun r s₁ => match r with
      | none => R (.ok .next) s₁
      | some v => wpAny (model prog w) A (letOwnedTupleGo target it v) (fun _ s₁' => wpAny (model prog w) A (assign target env v) (fun _ s₂ =>
          wpAny (model prog w) A (forIn ifs true fun c r => if r = true then do let ok ← isTrue c env (eval c env); pure (ForInStep.yield ok) else pure (ForInStep.yield r)) (fun ok s₃ =>
            if ok = true then wpAny (model prog w) A (eval elt env) (fun x s₄ =>
              wpAny (model prog w) A (call (.builtin "list.append") [acc, x]) (fun _ s₅ => ∃ m, m < n ∧ I m s₅) (fun _ _ => False) s₄) (fun _ _ => False) s₃
            else ∃ m, m < n ∧ I m s₃) (fun _ _ => False) s₂) (fun _ _ => False) s₁') (fun _ _ => False) s₁) (fun _ _ => False) s)
    (n : Nat) (h : I n s) :
    codeAny (model prog w) A (.compLoop (.ListComp elt [⟨target, iter, ifs, 0⟩] scope pos) 0 it acc env) R s := by
  refine codeAny_loop rfl I (fun n s hI => ?_) n h
  show wpAny _ A ((compTurn (.ListComp elt [⟨target, iter, ifs, 0⟩] scope pos) 0 it acc env).onRaise (fun x => do noteFrame x env; theTreesLotGoes x)) _ _ s
  refine wpAny_noted ?_
  rw [compTurn_list]
  refine wpAny_bind (wpAny_standAt (wpAny_bind (wpAny_mono (turn n s hI) (fun r s₁ h₁ => ?_) fun _ _ h' => h'.elim)))
  cases r with
  | none => exact wpAny_pure h₁
  | some v =>
    refine wpAny_bind (wpAny_mono h₁ (fun _ s₁' h₁' => ?_) fun _ _ h' => h'.elim)
    refine wpAny_bind (wpAny_mono h₁' (fun _ s₂ h₂ => wpAny_bind (wpAny_mono h₂ (fun ok s₃ h₃ => ?_) fun _ _ h' => h'.elim)) fun _ _ h' => h'.elim)
    cases ok with
    | false => exact wpAny_pure ⟨rfl, h₃⟩
    | true =>
      exact wpAny_bind (wpAny_bind (wpAny_mono h₃ (fun x s₄ h₄ => wpAny_bind (wpAny_mono h₄ (fun _ s₅ h₅ => wpAny_pure (wpAny_pure ⟨rfl, h₅⟩)) fun _ _ h' => h'.elim)) fun _ _ h' => h'.elim))
end

/-- the tests of a clause -/
def PIfs (X : Cx) (ifs : List Expr) (t : TT) : Prop :=
  ∀ (pins : List (Addr × Obj)) (s : Shared) (σ : St) (H : Hp) (Q : Bool → Hp → Prop), Inv X pins σ H s → t σ H Q →
    wpAny (model X.prog X.w) X.A (forIn ifs true fun c r => if r = true then do let ok ← isTrue c X.env (eval c X.env); pure (ForInStep.yield ok) else pure (ForInStep.yield r)) (TP X pins σ Q) X.xe s
def tYes : TT := fun _ H Q => Q true H
theorem pf_nil {X : Cx} : PIfs X [] tYes := fun _ _ _ H _ I h => wpAny_tests_nil ⟨H, I, h⟩
theorem pf_one {X : Cx} {c : Expr} {t : TT} (h : PT X c t) : PIfs X [c] t := fun pins s σ H Q I q => wpAny_tests_one (h pins s σ H Q I q)

/-- what the walk of a comprehension asks: W by the turn, a measure, the items so far, the heap -/
def CompW (σ' : St) (j : Nat) (ti : TT) (te : TE) (Q : VK) (J : It) (H : Hp) : Prop :=
  ∃ W : Nat → Nat → List V → Hp → Prop, (∃ m, W 0 m [] H) ∧ ∀ i m ys H, W i m ys H →
    (J.stop i H ∧ ∀ D, H D = none → Q (.ref D) (upd H D (.lst ys))) ∨
    (J.go i H ∧ ys.length < sizeLine ∧ ∃ N : List V → Hp → Prop, (∀ ys' H', N ys' H' → ∃ m', m' < m ∧ W (i + 1) m' ys' H') ∧
      ∀ x H', J.yld i H x H' → ti (σ'.set j (some x)) H' fun b H2 => if b = true then te (σ'.set j (some x)) H2 fun y H3 => N (ys ++ [y]) H3 else N ys H2)
def tComp (ix : List (Option Nat)) (wi : TI) (j : Nat) (ti : TT) (te : TE) : TE := fun σ H Q => wi σ H fun J H1 => CompW (inSt ix σ) j ti te Q J H1

def CompT (σ' : St) (g : TG) (ti : TT) (te : TE) (Q : VK) (J : It) (H : Hp) : Prop :=
  ∃ W : Nat → Nat → List V → Hp → Prop, (∃ m, W 0 m [] H) ∧ ∀ i m ys H, W i m ys H →
    (J.stop i H ∧ ∀ D, H D = none → Q (.ref D) (upd H D (.lst ys))) ∨
    (J.go i H ∧ ys.length < sizeLine ∧ ∃ N : List V → Hp → Prop, (∀ ys' H', N ys' H' → ∃ m', m' < m ∧ W (i + 1) m' ys' H') ∧
      ∀ x H', J.yld i H x H' → g x σ' H' fun σ2 H1 => (σ2.length = σ'.length ∧ ∀ (k : Nat) z, σ'[k]? = some (some z) → σ2[k]? = some (some z)) ∧ ti σ2 H1 fun b H2 => if b = true then te σ2 H2 fun y H3 => N (ys ++ [y]) H3 else N ys H2)
def tCompT (ix : List (Option Nat)) (wi : TI) (g : TG) (ti : TT) (te : TE) : TE := fun σ H Q => wi σ H fun J H1 => CompT (inSt ix σ) g ti te Q J H1
section
variable {X : Cx} {pins : List (Addr × Obj)} {σ : St} {H : Hp} {s : Shared} {tg elt iter : Expr} {g : TG} {ifs : List Expr} {scope : Scope} {pos : Pos} {N' : List Str} {ix : List (Option Nat)} {wi : TI} {ti : TT} {te : TE}
theorem comp_runT {it : Addr} {fp : List Addr} {tn : Nat → Heap → Prop} {J : It} {cl : List (Str × Addr)} {E : Value → Shared → Prop} {RR : Value → Addr → Result → Shared → Prop} {Q : VK}
    (S : CompSc X.N X.env.scope scope N' ix) (hg : ∀ C cl s H fp, N'.Nodup → PG (cxIn X scope N' C cl s H fp) tg g) (hc : X.calm = true)
    (ht : ∀ C cl s H fp, PIfs (cxIn X scope N' C cl s H fp) ifs ti) (he : ∀ C cl s H fp, PE (cxIn X scope N' C cl s H fp) elt te)
    (c1 : ∀ y c, cl.lookup y = some c → X.env.cells.lookup y = some c) (c2 : ∀ y, (y, NameKind.free) ∈ scope.names → ∃ c, cl.lookup y = some c)
    (I : Inv X pins σ H s) (T : Turn X.prog X.w X.K tg J fp it tn) (st : tn 0 s.heap) (hf : ∀ b ∈ fp, FpOk X pins H b) (hW : CompT (inSt ix σ) g ti te Q J H)
    (hRR : ∀ D C H' s' m', Inv X pins σ H' s' → s'.heap.Ns C m' → Loose X pins H' C → s.heap.objs.size ≤ C → Q (.ref D) H' → RR (.ref D) C (.ok .next) s') :
    wpAny (model X.prog X.w) X.A (newList []) (fun acc s₃ => wpAny (model X.prog X.w) X.A (newFunctionEnv scope X.env.globals cl [] X.env.qual none .none (some X.env)) (fun cenv s₄ =>
      codeAny (model X.prog X.w) X.A (.compStart (.ListComp elt [⟨tg, iter, ifs, 0⟩] scope pos) 0 (.ref it) acc { cenv with scope := relabel scope X.env }) (RR acc cenv.locals) s₄) E s₃) E s := by
  obtain ⟨W, ⟨m0, w0⟩, turn⟩ := hW
  have hlt : ∀ b ∈ fp, b < s.heap.objs.size := fun b hb => let ⟨_, e, _⟩ := T.obj _ _ st b hb; Heap.lt_size e
  refine wpAny_newObj_type (wpAny_newFunctionEnv S.nocell (by intro y hy; simp at hy) (fun h₁ hns₁ hsb₁ => ?_) S.kind)
  dsimp only at hns₁ hsb₁ ⊢
  generalize hH2 : s.heap.push { cls := .type "list", dict := none, data := .seq ([] : List Value).toArray } = H2 at hns₁ hsb₁ ⊢
  have hC : H2.objs.size = s.heap.objs.size + 1 := by rw [← hH2, Heap.size_push]
  have hDC : s.heap.objs.size ≠ H2.objs.size := by rw [hC]; exact Nat.ne_of_lt (Nat.lt_succ_self _)
  have hCle : s.heap.objs.size ≤ H2.objs.size := by rw [hC]; exact Nat.le_succ _
  have old : ∀ b o, s.heap.get? b = some o → h₁.get? b = some o := fun b o e => hsb₁.extBut b o (by rw [hC]; exact Nat.ne_of_lt (Nat.lt_succ_of_lt (Heap.lt_size e))) (Heap.get?_push_of_some _ (hH2 ▸ Heap.get?_push_of_some _ e))
  have hacc : h₁.get? s.heap.objs.size = some { cls := .type "list", data := .seq ([] : List Value).toArray 0 } := hsb₁.extBut _ _ hDC (Heap.get?_push_of_some _ (hH2 ▸ Heap.get?_push_size _ rfl))
  have st1 : tn 0 h₁ := T.keep _ _ _ st fun b hb o e => old b o e
  have loop : ∀ s₃ : Shared, s₃ = { s with heap := h₁, toks := s.toks + ([] : List (Str × Value)).length } →
      codeAny (model X.prog X.w) X.A (.compLoop (.ListComp elt [⟨tg, iter, ifs, 0⟩] scope pos) 0 (.ref it) (.ref s.heap.objs.size) (compEnvC scope cl H2.objs.size X.env))
        (RR (.ref s.heap.objs.size) H2.objs.size) s₃ := by
    rintro s₃ rfl
    -- the block's context
    generalize hX' : cxIn X scope N' H2.objs.size cl s H fp = X'
    have I0 : Inv X' [(s.heap.objs.size, { cls := .type "list", data := .seq ([] : List Value).toArray 0 })] (inSt ix σ) H { s with heap := h₁, toks := s.toks + ([] : List (Str × Value)).length } := by
      rw [← hX']
      exact I.cxIn S hCle (Nat.le_refl _) hDC hacc (fun v z => by cases z) c1 c2 hf hlt old hns₁
    have stat : ∀ {H' : Hp} {o : Obj}, (∀ b ∈ fp, H' b = none) → ∀ b ∈ fp, FpOk X' [(s.heap.objs.size, o)] H' b := fun {H' o} hn b hb => by
      rw [← hX']
      refine ⟨hn b hb, Nat.ne_of_lt (Nat.lt_of_lt_of_le (hlt b hb) hCle), fun z => ?_, .inl hb, fun y c e => (hf b hb).2.2.2.2.1 y c (c1 y c e), fun p hp z => ?_⟩
      · rcases List.mem_cons.mp (I.stkSub b z) with q | q
        · exact (hf b hb).2.1 q
        · exact (hf b hb).2.2.1 q
      · have e : p = (s.heap.objs.size, o) := by
          rcases List.mem_append.mp hp with q | q
          · cases q
          · exact List.mem_singleton.mp q
        subst e
        exact absurd (hlt b hb) (by rw [← z]; exact Nat.lt_irrefl _)
    have xP : X'.prog = X.prog := by rw [← hX']; rfl
    have xw : X'.w = X.w := by rw [← hX']; rfl
    have xK : X'.K = X.K := by rw [← hX']; rfl
    have xc : X'.calm = true := by rw [← hX']; exact hc
    have xA : X'.A = X.A := by rw [← hX']; rfl
    have xe : X'.env = compEnvC scope cl H2.objs.size X.env := by rw [← hX']; rfl
    have xx : X'.xe = fun _ _ => False := by rw [← hX']; rfl
    have xN : X'.N = N' := by rw [← hX']; rfl
    have ht' : PIfs X' ifs ti := by rw [← hX']; exact ht _ _ _ _ _
    have he' : PE X' elt te := by rw [← hX']; exact he _ _ _ _ _
    have hg' : PG X' tg g := by rw [← hX']; exact hg _ _ _ _ _ S.nd
    rw [← xA, ← xP, ← xw, ← xe]
    refine compLoop_any (fun k s' => ∃ i ys us n H', Inv X' [(s.heap.objs.size, { cls := .type "list", data := .seq (us : List Value).toArray n })] (inSt ix σ) H' s' ∧ Vals ys us ∧ ys.length ≤ sizeLine ∧ tn i s'.heap ∧ (∀ b ∈ fp, H' b = none) ∧ W i k ys H') ?_ m0
      ⟨0, [], [], 0, H, I0, .nil, Nat.zero_le _, st1, fun b hb => (hf b hb).1, w0⟩
    rintro k s3 ⟨i, ys, us, n, H3, I3, rv, hz, st3, fr3, w3⟩
    rcases turn i k ys H3 w3 with ⟨stop, qn⟩ | ⟨go, hz', N, hN, step⟩
    · rw [← xP, ← xw, ← xK] at T
      refine thn (T.done X' rfl rfl rfl xc i _ s3 (inSt ix σ) H3 _ I3 (stat fr3) st3 stop) fun r s4 ⟨hr, I4⟩ => ?_
      subst hr
      obtain ⟨m', hn', _⟩ := id I4.loc
      rw [xe] at hn'
      obtain ⟨eD, nD, _⟩ := I4.pin _ (List.mem_append_right _ List.mem_cons_self)
      have un : Un (frs X.stack) fp H H3 s.heap s4.heap := by have := I4.base; rw [← hX'] at this; exact this
      have os : s4.os = s.os := by have := I4.os; rw [← hX'] at this; exact this
      have hok : HOk X.prog X.w H3 s4.heap := by have := I4.hok; rw [xP, xw] at this; exact this
      have hCn : H3 H2.objs.size = none := by have := I4.free; rw [xe] at this; exact this
      have I5 : Inv X pins σ H3 s4 := I.call' os un hok I4.bare fun b hb => let ⟨_, a, _, c, d, e⟩ := hf b hb; ⟨c, a, d, e⟩
      have lD : Loose X pins H3 s.heap.objs.size := I.loose (Nat.le_refl _) nD
      have I6 := I5.adopt (o := .lst ys) lD.no lD.ab lD.nl lD.nc lD.np ⟨hz, us, n, rv, eD⟩
      exact hRR _ _ _ _ m' I6 hn' (I.loose hCle (by rw [upd_ne (Ne.symm hDC)]; exact hCn)) hCle (qn _ nD)
    · have T' := T
      rw [← xP, ← xw, ← xK] at T'
      refine thn (T'.item X' rfl rfl rfl xc i _ s3 (inSt ix σ) H3 _ I3 (stat fr3) st3 go) fun r s4 ⟨u, hr, h4⟩ => ?_
      subst hr
      refine thn h4 fun _ s5 ⟨v, H5, I5, r5, y5, st5, fr5⟩ => ?_
      have I5' := I5.pinned (stat fr5) (T.obj _ _ st5)
      have t5 := hg' _ s5 _ H5 v u _ I5' r5 (step v H5 y5)
      rw [xx] at t5
      refine thn t5 fun _ s6 ⟨σ6, H6, I6, ⟨kl, kw⟩, q6⟩ => ?_
      have t6 := ht' _ s6 _ H6 _ I6 q6
      rw [xx] at t6
      refine thn t6 fun ok s7 ⟨H7, I7, q7⟩ => ?_
      have weak : ∀ {H8 : Hp} {s8 : Shared}, Inv X' ([(s.heap.objs.size, { cls := .type "list", data := .seq us.toArray n })] ++ pinsAt fp s5.heap) σ6 H8 s8 →
          Inv X' ([(s.heap.objs.size, { cls := .type "list", data := .seq us.toArray n })] ++ pinsAt fp s5.heap) (inSt ix σ) H8 s8 ∧ tn (i + 1) s8.heap ∧ ∀ b ∈ fp, H8 b = none := fun {H8 s8} I8 => by
        refine ⟨I8.weak kl.symm kw, T.keep _ _ _ st5 fun b hb o e => (I8.pin (b, o) (List.mem_append_right _ (List.mem_append_right _ (mem_pinsAt hb e)))).1, fun b hb => ?_⟩
        · obtain ⟨o, e, d⟩ := T.obj _ _ st5 b hb
          exact (I8.pin (b, o) (List.mem_append_right _ (List.mem_append_right _ (mem_pinsAt hb e)))).2.1
      cases ok with
      | false =>
        have q7' : N ys H7 := q7
        obtain ⟨m', hm, w7⟩ := hN ys H7 q7'
        obtain ⟨J7, st7, fr7⟩ := weak I7
        exact ⟨m', hm, i + 1, ys, us, n, H7, J7.unpinned, rv, hz, st7, fr7, w7⟩
      | true =>
        have q7' : te σ6 H7 fun y H3 => N (ys ++ [y]) H3 := q7
        have t8 := he' _ s7 _ H7 _ I7 q7'
        rw [xx] at t8
        show wpAny _ _ _ _ _ _
        refine thn t8 fun uy s8 ⟨y, H8, I8, r8, n8⟩ => ?_
        obtain ⟨m', hm, w8⟩ := hN _ _ n8
        obtain ⟨J8, st8, fr8⟩ := weak I8
        have K8 := J8.unpinned
        obtain ⟨eD, nD, neL, nfs, _⟩ := K8.pin _ (List.mem_append_right _ List.mem_cons_self)
        have hl := rv.length
        refine call_meets F.slot_list_append ⟨_, eD, rfl⟩ F.entry_list_append (F.args_list_append_2 _ _) (PySem.list_append s.heap.objs.size us.toArray n uy (by rw [List.size_toArray]; (first | lia | omega))) ⟨eD, ?_⟩
        have eD2 := PySem.IsL.update eD (·.push uy)
        have dD : ∀ p ∈ X'.pn ++ [], p.1 ≠ s.heap.objs.size := fun p hp => by
          rw [← hX'] at hp
          rcases List.mem_append.mp hp with q | q <;> cases q
        have K0 : Inv X' [] (inSt ix σ) H8 s8 := K8.pins_of fun p hp => by cases hp
        have K9 := K0.turned (t' := s8.toks) (h' := s8.heap.update s.heap.objs.size (Obj.mapSeq (·.push uy))) (it := s.heap.objs.size) (fun b o hb q => (Heap.get?_update_other s8.heap _ (Ne.symm hb)).trans q) nD neL (.inr (by rw [← hX']; exact Nat.le_refl _)) (fun y' c e z => by
          rw [xe] at e
          obtain ⟨v', q⟩ := I.cell y' c (c1 y' c e)
          exact absurd q.lt (by rw [z]; exact Nat.lt_irrefl _)) dD
        refine ⟨m', hm, i + 1, ys ++ [y], us ++ [uy], (if ((us.toArray.push uy).size == us.toArray.size) = true then n else n + 1), H8, K9.pins_of fun p hp => ?_, rv.append (.cons r8 .nil), by rw [List.length_append, List.length_singleton]; (first | lia | omega), ?_, fr8, w8⟩
        · have e := List.mem_singleton.mp hp
          subst e
          exact ⟨by rw [show (us ++ [uy]).toArray = us.toArray.push uy by simp]; exact eD2, nD, neL, nfs, fun v z => by cases z⟩
        · exact T.keep _ _ _ st8 fun b hb o e => (Heap.get?_update_other s8.heap _ (Nat.ne_of_gt (hlt b hb))).trans e
  exact codeAny_compStart_list (loop _ rfl) (T.self X.A 0 _ _ _ st1 (loop _ rfl))

end
section
variable {X : Cx} {pins : List (Addr × Obj)} {σ : St} {H : Hp} {s : Shared} {x : Str} {px : Pos} {elt iter : Expr} {ifs : List Expr} {scope : Scope} {pos : Pos} {N' : List Str} {ix : List (Option Nat)} {j : Nat} {wi : TI} {ti : TT} {te : TE}
theorem compW_T {Q : VK} {J : It} {H : Hp} (hij : ix[j]? = some none) (h : CompW (inSt ix σ) j ti te Q J H) : CompT (inSt ix σ) (gName j) ti te Q J H := by
  obtain ⟨W, w0, turn⟩ := h
  refine ⟨W, w0, fun i m ys H w => ?_⟩
  rcases turn i m ys H w with z | ⟨go, hz, N, hN, step⟩
  · exact .inl z
  · refine .inr ⟨go, hz, N, hN, fun x H' y => ⟨⟨by simp, fun k z e => ?_⟩, step x H' y⟩⟩
    by_cases hk : j = k
    · subst hk
      exfalso
      obtain ⟨i', q1, _⟩ := inSt_get e
      rw [hij] at q1
      cases q1
    · rw [List.getElem?_set_ne hk]; exact e
theorem pg_own {C : Addr} {cl : List (Str × Addr)} {s : Shared} {H : Hp} {fp : List Addr} (nd : N'.Nodup) (hj : N'[j]? = some x) (hx : scope.names.lookup x = some .local) : PG (cxIn X scope N' C cl s H fp) (.Name x px) (gName j) :=
  pg_name nd hj (.inl (lookup_relabel_local hx)) (.inr (lookup_relabel_local hx))
theorem comp_clos (I : Inv X pins σ H s) (S : CompSc X.N X.env.scope scope N' ix) : ∃ cl, closureFor scope X.env = pure cl ∧ (∀ y c, cl.lookup y = some c → X.env.cells.lookup y = some c) ∧ ∀ y, (y, NameKind.free) ∈ scope.names → ∃ c, cl.lookup y = some c :=
  closureFor_ok fun ⟨n, k⟩ hy hk => by
    dsimp only at hk
    subst hk
    exact I.ok.has n (.inl (S.free n hy))
/-- [elt for x in iter if ..] -/
theorem pe_comp {N' : List Str} {ix : List (Option Nat)} (S : CompSc X.N X.env.scope scope N' ix) (hj : N'[0]? = some x) (hij : ix[0]? = some none) (hx : scope.names.lookup x = some .local) (hc : X.calm = true) (hi : PI X (.Name x px) iter wi)
    (ht : ∀ C cl s H fp, PIfs (cxIn X scope N' C cl s H fp) ifs ti) (he : ∀ C cl s H fp, PE (cxIn X scope N' C cl s H fp) elt te) (hs : ∀ x, foldedSetIterable iter X.env x = pure x) :
    PE X (.ListComp elt [⟨.Name x px, iter, ifs, 0⟩] scope pos) (tComp ix wi 0 ti te) := by
  intro pins s σ H Q I h
  rw [eval_ListComp]
  obtain ⟨cl, hcl, c1, c2⟩ := comp_clos I S
  refine wpAny_comprehension_free (use := none) rfl hs hcl S.kind S.names (thn (hi pins s σ H _ I h) fun v s1 h1 => thn h1 fun itv s2 h2 => ?_)
  obtain ⟨it, fp, tn, J, H2, e, I2, T, st2, f2, hW⟩ := h2
  subst e
  refine comp_runT (RR := fun acc C => compPost (model X.prog X.w) X.A X.xe none (EP X pins σ Q) acc C) S (fun _ _ _ _ _ nd => pg_own nd hj hx) hc ht he c1 c2 I2 T st2 f2 (compW_T hij hW) fun D C H' s' m' I' hn lo _ q => ?_
  exact ⟨m', hn, fun h' hs' => ⟨.ref D, H', I'.same lo hs' rfl, rfl, q⟩⟩
/-- y = [elt for x in iter if ..], y a plain local name -/
theorem ps_setComp {y : Str} {py spos : Pos} {i : Nat} {N' : List Str} {ix : List (Option Nat)} (hN : X.N.Nodup) (hi' : X.N[i]? = some y) (hy : X.env.scope.names.lookup y = some .local)
    (S : CompSc X.N X.env.scope scope N' ix) (hj : N'[0]? = some x) (hij : ix[0]? = some none) (hx : scope.names.lookup x = some .local) (hc : X.calm = true) (hi : PI X (.Name x px) iter wi)
    (ht : ∀ C cl s H fp, PIfs (cxIn X scope N' C cl s H fp) ifs ti) (he : ∀ C cl s H fp, PE (cxIn X scope N' C cl s H fp) elt te)
    (hsw : swapsWith (.ListComp elt [⟨.Name x px, iter, ifs, 0⟩] scope pos) (some (.Name y py)) spos.line X.env = pure true := by rfl) (hs : ∀ x, foldedSetIterable iter X.env x = pure x := by intro _; rfl) :
    PS X (.Assign [.Name y py] (.ListComp elt [⟨.Name x px, iter, ifs, 0⟩] scope pos) spos) (tAsg (tComp ix wi 0 ti te) (gName i)) := by
  intro pins s σ H D I h
  obtain ⟨cl, hcl, c1, c2⟩ := comp_clos I S
  rw [exec_Assign_Name_used _ _ _ _ hsw]
  refine wpAny_bind (wpAny_standAt (wpAny_bind ?_))
  show wpAny _ X.A (do let _ ← comprehension (.ListComp elt [⟨.Name x px, iter, ifs, 0⟩] scope pos) scope X.env _ (newList []) false (eval iter X.env) (some (assign (.Name y py) X.env))) _ _ s
  refine wpAny_bind (wpAny_mono (wpAny_comprehension_free (use := some (assign (.Name y py) X.env)) (Q := fun _ s' => SP X pins D .next s') rfl hs hcl S.kind S.names
    (thn (hi pins s σ H _ I h) fun v s1 h1 => thn h1 fun itv s2 h2 => ?_)) (fun _ s' hq => wpAny_pure (wpAny_pure hq)) fun _ _ e => e)
  obtain ⟨it, fp, tn, J, H2, e, I2, T, st2, f2, hW⟩ := h2
  subst e
  refine comp_runT (RR := fun acc C => compPost (model X.prog X.w) X.A X.xe (some (assign (.Name y py) X.env)) (fun _ s' => SP X pins D .next s') acc C) S (fun _ _ _ _ _ nd => pg_own nd hj hx) hc ht he c1 c2 I2 T st2 f2 (compW_T hij hW) fun D' C H' s' m' I' hn lo hC q => ?_
  show wpAny _ X.A (assign (.Name y py) X.env (.ref D')) _ _ _
  refine wpAny_assign_Name (store_ok2 (i := i) (v := .ref D') I' hN hi' (.inl hy) rfl (fun s3 I3 ⟨a, sb, ha⟩ => ?_) (.inr hy))
  have hCa : C ≠ a := by
    rcases ha with z | z
    · rw [z]; exact lo.nl
    · exact Ne.symm (lo.nc _ _ z)
  refine ⟨m', hn.sameBut sb hCa, fun h' hs' => ?_⟩
  exact ⟨_, H', I3.same lo hs' rfl, q⟩
end

end L2

set_option Elab.async false
set_option linter.all false
set_option maxRecDepth 100000
set_option maxHeartbeats 4000000
namespace L2
open PySem PySem.Spec PyProof.Rows

section
variable {X : Cx}
def clsV : V → Option Value
  | .ty n => some (.type n)
  | .ref a => some (.ref a)
  | _ => none
theorem clsV_rel {x : V} {c u : Value} (h : clsV x = some c) (r : RelV x u) : u = c := by
  cases x <;> first | (cases h; exact r) | cases h
def rIsi (K : PySem.W.Frag) : List V → Hp → VK → Prop := fun xs H Q => ∃ x t cv c b, xs = [x, cv] ∧ clsV cv = some c ∧ TyOf K H x t ∧ PySem.W.kitOne K t c = some b ∧ Q (.bl b) H
theorem call_isi : CallR X (.builtin "isinstance") (rIsi X.K) := by
  intro pins s σ H xs us Q I r h
  obtain ⟨x, t, cv, c, b, rfl, hc, ty, e, q⟩ := h
  obtain ⟨u, w', rfl, ru, rc⟩ := vals2 r
  have ec := clsV_rel hc rc
  subst ec
  exact isinst_ok I ru ty e fun tk => ⟨.bl b, H, I.tok tk, rfl, q⟩

theorem call_sum (hc : X.calm = true) : CallR X (.builtin "sum") (fun xs H Q => ∃ (p : Addr) (ns : List Int), xs = [.ref p] ∧ SqL X.K H p (ns.map V.int) ∧ Q (.int ns.sum) H) := by
  intro pins s σ H xs us Q I r h
  obtain ⟨p, ns, rfl, hq, q⟩ := h
  obtain ⟨u, rfl, rx⟩ := vals1 r
  cases rx
  obtain ⟨its, rv, pl, hz⟩ := I.list hq
  have hi := intsAre_of rv
  obtain ⟨xs', hx⟩ := hi.allInts.items
  have hl' : s.heap.IsList p (intItems xs') := hx ▸ pl.isList
  refine sum_intListG (I.ok.hd hc) hl' fun h' tk t' hk => ?_
  have e1 : ns = xs'.toList.map (·.1) := by
    rw [← nums_intItems, ← hx]
    exact (show numsOf its.toArray.toList = ns from hi.numsOf).symm
  have e2 : preSum (numAt xs') xs'.size = ns.sum := by
    rw [preSum_eq, List.take_of_length_le (by simp), e1]
  rw [e2]
  exact ⟨.int ns.sum, H, I.kept hk, ⟨_, rfl⟩, q⟩
end
structure Wk (J : It) (xs : List V) (H : Hp) : Prop where
  go : ∀ i H3, Same H H3 → i < xs.length → J.go i H3
  yl : ∀ i H3 x H', Same H H3 → i < xs.length → J.yld i H3 x H' → H' = H3 ∧ xs[i]? = some x
  st : ∀ H3, Same H H3 → J.stop xs.length H3
theorem wk_list {K : PySem.W.Frag} {a : Addr} {xs : List V} {H : Hp} (h : SqL K H a xs) : Wk (Itl K a) xs H where
  go := fun i H3 s hi => ⟨xs, xs[i], s.seq h, List.getElem?_eq_getElem hi⟩
  yl := fun i H3 x H' s hi y => ⟨y.1, y.2 xs (s.seq h)⟩
  st := fun H3 s => ⟨xs, s.seq h, Nat.le_refl _⟩
theorem wk_range {lo : Int} {n : Nat} {H : Hp} : Wk (Itr lo n) ((List.range n).map fun (i : Nat) => V.int (lo + (i : Int))) H where
  go := fun i H3 s hi => by show i < n; simpa using hi
  yl := fun i H3 x H' s hi y => ⟨y.1, by
    have hi' : i < n := by simpa using hi
    rw [y.2, List.getElem?_map, List.getElem?_range hi']
    rfl⟩
  st := fun H3 s => by show n ≤ _; simp
/-- each item's value is told, the heap stays -/
theorem comp_pure {J : It} {xs ys : List V} {σ' : St} {j : Nat} {te : TE} {Q : VK} {H : Hp} (W : Wk J xs H) (hz : xs.length ≤ sizeLine) (hl : ys.length = xs.length)
    (hs : ∀ (i : Nat) x y, xs[i]? = some x → ys[i]? = some y → ∀ Q' : VK, Q' y H → te (σ'.set j (some x)) H Q') (hd : ∀ D, H D = none → Q (.ref D) (upd H D (.lst ys))) : CompW σ' j tYes te Q J H := by
  refine ⟨fun i m zs H3 => m = xs.length - i ∧ i ≤ xs.length ∧ H3 = H ∧ zs = ys.take i, ⟨xs.length, by simp, Nat.zero_le _, rfl, by simp⟩, ?_⟩
  rintro i m zs H3 ⟨rfl, hi, rfl, rfl⟩
  by_cases hlt : i < xs.length
  · refine .inr ⟨W.go i _ (Same.refl _) hlt, by rw [List.length_take]; (first | lia | omega), fun zs' H' => H' = H3 ∧ zs' = ys.take (i + 1), fun zs' H' p => ⟨xs.length - (i + 1), by (first | lia | omega), rfl, hlt, p.1, p.2⟩, fun x H' y => ?_⟩
    obtain ⟨e, ex⟩ := W.yl i _ x H' (Same.refl _) hlt y
    subst e
    unfold tYes
    dsimp only
    rw [if_pos rfl]
    have hy : ys[i]? = some (ys[i]'(by (first | lia | omega))) := List.getElem?_eq_getElem _
    refine hs i x _ ex hy _ ⟨rfl, ?_⟩
    rw [List.take_add_one, hy]
    rfl
  · have e : i = xs.length := by (first | lia | omega)
    subst e
    refine .inl ⟨W.st _ (Same.refl _), ?_⟩
    rw [List.take_of_length_le (by (first | lia | omega))]
    exact hd
/-- each item's value is a new list -/
theorem comp_news {J : It} {xs : List V} {ls : List (List V)} {σ' : St} {j : Nat} {te : TE} {Q : VK} {H : Hp} (W : Wk J xs H) (hz : xs.length ≤ sizeLine) (hl : ls.length = xs.length)
    (hs : ∀ (i : Nat) x l H3, xs[i]? = some x → ls[i]? = some l → Same H H3 → ∀ Q' : VK, (∀ D, H3 D = none → Q' (.ref D) (upd H3 D (.lst l))) → te (σ'.set j (some x)) H3 Q')
    (hd : ∀ (as : List Addr) H', Same H H' → as.length = ls.length → as.Nodup → (∀ b ∈ as, H b = none) → (∀ (i : Nat) a l, as[i]? = some a → ls[i]? = some l → H' a = some (.lst l)) → ∀ D, H' D = none → Q (.ref D) (upd H' D (.lst (as.map V.ref)))) : CompW σ' j tYes te Q J H := by
  refine ⟨fun i m zs H3 => m = xs.length - i ∧ i ≤ xs.length ∧ ∃ as : List Addr, zs = as.map V.ref ∧ as.length = i ∧ Same H H3 ∧ as.Nodup ∧ (∀ b ∈ as, H b = none) ∧ (∀ b ∈ as, ∃ o, H3 b = some o) ∧ ∀ (k : Nat) a l, as[k]? = some a → ls[k]? = some l → H3 a = some (.lst l),
    ⟨xs.length, by simp, Nat.zero_le _, [], rfl, rfl, Same.refl _, List.nodup_nil, (fun _ h => by cases h), (fun _ h => by cases h), fun k a l e => by simp at e⟩, ?_⟩
  rintro i m zs H3 ⟨rfl, hi, as, rfl, hlen, sm, nd, fr, there, hrow⟩
  by_cases hlt : i < xs.length
  · refine .inr ⟨W.go i _ sm hlt, by rw [List.length_map]; (first | lia | omega), _, fun zs' H' p => ⟨xs.length - (i + 1), by (first | lia | omega), rfl, hlt, p⟩, fun x H' y => ?_⟩
    obtain ⟨e, ex⟩ := W.yl i _ x H' sm hlt y
    subst e
    unfold tYes
    dsimp only
    rw [if_pos rfl]
    have hy : ls[i]? = some (ls[i]'(by (first | lia | omega))) := List.getElem?_eq_getElem _
    refine hs i x _ H' ex hy sm _ fun D hD => ?_
    have nD : D ∉ as := fun z => by
      obtain ⟨o, e⟩ := there D z
      rw [hD] at e
      cases e
    refine ⟨as ++ [D], by rw [List.map_append]; rfl, by rw [List.length_append, List.length_singleton]; (first | lia | omega), fun b o e => ?_, ?_, fun b hb => ?_, fun b hb => ?_, fun k a l e1 e2 => ?_⟩
    · have q := sm b o e
      rw [upd_ne (ne_of_none q hD)]
      exact q
    · rw [List.nodup_append]
      refine ⟨nd, by simp, fun x hx y hy => ?_⟩
      rw [List.mem_singleton.mp hy]
      intro z
      exact nD (by rw [← z]; exact hx)
    · rcases List.mem_append.mp hb with z | z
      · exact fr b z
      · rw [List.mem_singleton.mp z]
        exact sm.free hD
    · rcases List.mem_append.mp hb with z | z
      · obtain ⟨o, e⟩ := there b z
        exact ⟨o, by rw [upd_ne (ne_of_none e hD)]; exact e⟩
      · rw [List.mem_singleton.mp z]
        exact ⟨_, upd_same⟩
    · by_cases hk : k < as.length
      · rw [List.getElem?_append_left hk] at e1
        have q := hrow k a l e1 e2
        rw [upd_ne (ne_of_none q hD)]
        exact q
      · rw [List.getElem?_append_right (by (first | lia | omega))] at e1
        cases q : k - as.length with
        | zero =>
          rw [q] at e1
          have ea : D = a := by simpa using e1
          subst ea
          have ek : k = i := by (first | lia | omega)
          subst ek
          rw [hy] at e2
          cases e2
          exact upd_same
        | succ n =>
          rw [q] at e1
          simp at e1
  · have e : i = xs.length := by (first | lia | omega)
    subst e
    exact .inl ⟨W.st _ sm, hd as H3 sm (by (first | lia | omega)) nd fr hrow⟩

section
variable {X : Cx} {K : PySem.W.Frag}
theorem ix_listK (hK : X.K = K) : IxR X (rIxL K) := hK ▸ ix_list
theorem sl_listK (hK : X.K = K) : SlR X (rSlL K) := hK ▸ sl_list
theorem call_lenK (hK : X.K = K) : CallR X (.builtin "len") (fun xs H Q => ∃ p ys, xs = [.ref p] ∧ (SqL K H p ys ∨ SqT K H p ys) ∧ Q (.int ys.length) H) := hK ▸ call_len_seq
theorem call_isiK (hK : X.K = K) : CallR X (.builtin "isinstance") (rIsi K) := hK ▸ call_isi
theorem call_sumK (hK : X.K = K) (hc : X.calm = true) : CallR X (.builtin "sum") (fun xs H Q => ∃ (p : Addr) (ns : List Int), xs = [.ref p] ∧ SqL K H p (ns.map V.int) ∧ Q (.int ns.sum) H) := hK ▸ call_sum hc
theorem pi_listK {tg l : Expr} {tl : TE} (hK : X.K = K) (hl : PE X l tl) : PI X tg l (iList K tl) := hK ▸ pi_list hl
end
end L2

set_option Elab.async false
set_option linter.all false
set_option maxRecDepth 100000
set_option maxHeartbeats 4000000
namespace L2
open PySem PySem.Spec PyProof.Rows

section
variable {P : Program} {w : World} {K : PySem.W.Frag} {mg : Str → Option Value} {base : Heap} {N : List Str} {qual : Str} {scope : Scope} {f : Addr} {cd : Value} {A : Around} {outer : List Env} {s₀ : Shared} {H₀ : Hp} {E : XK}
end

section
variable {X : Cx}
end

section
variable {X : Cx} {pins : List (Addr × Obj)} {σ : St} {H : Hp} {s : Shared} {e : Addr} {cls : Value}
end

section
variable {X : Cx} {k : Nat} {f C : Addr} {fd : FuncData} {ps : List Str} {sp : Sp} {x m : Str} {p pos apos : Pos} {e o : Expr} {es : List Expr} {ta : TE} {t : TA}
end

section
variable {X : Cx} {k : Nat} {f C : Addr} {fd : FuncData} {ps : List Str} {sp : Sp} {x m : Str} {p pos apos : Pos} {e o : Expr} {es : List Expr} {ta : TE} {t : TA}
end

section
variable {X : Cx} {pins : List (Addr × Obj)} {σ : St} {H : Hp} {s : Shared}
end
section
variable {X : Cx} {x : Str} {C : Addr} {np pos : Pos} {b₀ : Stmt} {suite : List Stmt} {rest : List ExceptHandler} {tb : TS} {tr : Value → TS}
end
section
variable {X : Cx} {ex : Expr} {t : XK → TE} {th : Value → TS} {h₀ : ExceptHandler} {hs : List ExceptHandler} {p1 pos : Pos}
end

section
variable {P : Program} {w : World} {K : PySem.W.Frag} {mg : Str → Option Value} {base : Heap}
end

section
variable {X : Cx} {K : PySem.W.Frag}
end
end L2

set_option Elab.async false
set_option linter.all false
set_option maxRecDepth 100000
set_option maxHeartbeats 4000000
namespace L2
open PySem PySem.Spec PyProof.Rows
section
variable {K : PySem.W.Frag} {x qual : Str} {st : Stmt} {f : Addr} {fd : FuncData}
theorem Fun.binds1 {p0 : Str} (F : Fun K x qual st f fd) (h : ∀ (kV doc pm : Value) (an : Option Addr) (cdv ct : Value) (a0 : Value), bindArgs (PySem.W.fnOf x qual (defArgs st) (defBody st) (defScope st) .none kV doc pm an cdv ct) ⟨[a0], []⟩ = pure (List.zip [p0] [a0])) : Binds K fd [p0] [] :=
  F.binds fun kV doc pm an cdv ct us hl => match us, hl with | [a0], _ => h kV doc pm an cdv ct _
theorem Fun.binds2 {p0 p1 : Str} (F : Fun K x qual st f fd) (h : ∀ (kV doc pm : Value) (an : Option Addr) (cdv ct : Value) (a0 a1 : Value), bindArgs (PySem.W.fnOf x qual (defArgs st) (defBody st) (defScope st) .none kV doc pm an cdv ct) ⟨[a0, a1], []⟩ = pure (List.zip [p0, p1] [a0, a1])) : Binds K fd [p0, p1] [] :=
  F.binds fun kV doc pm an cdv ct us hl => match us, hl with | [a0, a1], _ => h kV doc pm an cdv ct _ _
theorem Fun.binds3 {p0 p1 p2 : Str} (F : Fun K x qual st f fd) (h : ∀ (kV doc pm : Value) (an : Option Addr) (cdv ct : Value) (a0 a1 a2 : Value), bindArgs (PySem.W.fnOf x qual (defArgs st) (defBody st) (defScope st) .none kV doc pm an cdv ct) ⟨[a0, a1, a2], []⟩ = pure (List.zip [p0, p1, p2] [a0, a1, a2])) : Binds K fd [p0, p1, p2] [] :=
  F.binds fun kV doc pm an cdv ct us hl => match us, hl with | [a0, a1, a2], _ => h kV doc pm an cdv ct _ _ _
end
end L2
namespace Com
open PySem L2

theorem same_upd {H H1 : Hp} {b : Addr} {o : HO} (s : Same H H1) (hb : H b = none) : Same H (upd H1 b o) := fun c u e => by
  rw [upd_ne (ne_of_none e hb)]
  exact s c u e
theorem same_new {H : Hp} {b : Addr} {o : HO} (hb : H b = none) : Same H (upd H b o) := same_upd (Same.refl H) hb
/-- a join of ways: what holds ahead of the rest -/
theorem seq_mk {t u : TS} {D : Ends} {σ : St} {H : Hp} (R : St → Hp → Prop) (h1 : ∀ σ' H', R σ' H' → u D σ' H') (h2 : (∀ σ' H', R σ' H' → u D σ' H') → t { D with nx := u D } σ H) : tSeq t u D σ H := h2 h1

/-- a join of ways that ends nowhere else -/
theorem seq_mk' {t u : TS} {D : Ends} {σ : St} {H : Hp} (R : St → Hp → Prop) (h1 : ∀ σ' H', R σ' H' → u D σ' H') (h2 : ∀ D' : Ends, (∀ σ' H', R σ' H' → D'.nx σ' H') → t D' σ H) : tSeq t u D σ H := h2 _ h1
/-- a loop whose body ends nowhere else -/
theorem for_rangeN {lo : Int} {n : Nat} {g : TG} {tb : TS} {D : Ends} {σ : St} {H : Hp} (Pv : Nat → St → Hp → Prop) (h0 : Pv 0 σ H)
    (hs : ∀ i σ H, i < n → Pv i σ H → ∀ D' : Ends, (∀ σ' H', Pv (i + 1) σ' H' → D'.nx σ' H') → g (.int (lo + i)) σ H fun σ2 H2 => tb D' σ2 H2) (hd : ∀ σ H, Pv n σ H → D.nx σ H) :
    ∃ W : Nat → Nat → St → Hp → Prop, (∃ m, W 0 m σ H) ∧ ∀ i m σ H, W i m σ H →
      ((Itr lo n).stop i H ∧ D.nx σ H) ∨ ((Itr lo n).go i H ∧ ∃ N : St → Hp → Prop, (∀ σ' H', N σ' H' → ∃ m', m' < m ∧ W (i + 1) m' σ' H') ∧ ∀ x H', (Itr lo n).yld i H x H' → g x σ H' fun σ2 H2 => tb { D with nx := N, ct := N, bk := D.nx } σ2 H2) :=
  for_range Pv h0 (fun i σ H hi hp => hs i σ H hi hp _ fun _ _ z => z) hd
/-- name = a literal -/
theorem asg_lit {v : V} {u : TS} {i : Nat} {D : Ends} {σ : St} {H : Hp} (h : u D (σ.set i (some v)) H) : tSeq (tAsg (tC v) (gName i)) u D σ H := h

def drawn (ns : List Int) (k many : Int) : Int :=
  ((if 0 < (ns.length : Int) then ns.getD (k % (ns.length : Int)).toNat 0 else 7) * (48271 + 9973 * (k % 97)) + (k + 1) * (k + 3) * 16807 + (ns.length : Int)) % 2147483647 / 16 % many
theorem drawn_nn (ns : List Int) (k : Int) {many : Int} (h : 0 < many) : 0 ≤ drawn ns k many := Int.emod_nonneg _ (by (first | lia | omega))
theorem drawn_lt (ns : List Int) (k : Int) {many : Int} (h : 0 < many) : drawn ns k many < many := Int.emod_lt_of_pos _ h

/-- a list of lists of ints: the list at R, its rows at as -/
structure Mat (H : Hp) (R : Addr) (as : List Addr) (rows : List (List Int)) : Prop where
  hd : H R = some (.lst (as.map V.ref))
  len : as.length = rows.length
  row : ∀ (i : Nat) a r, as[i]? = some a → rows[i]? = some r → H a = some (.lst (r.map V.int))
  nd : (R :: as).Nodup
theorem Mat.same {H H' : Hp} {R : Addr} {as : List Addr} {rows : List (List Int)} (m : Mat H R as rows) (s : Same H H') : Mat H' R as rows :=
  ⟨s _ _ m.hd, m.len, fun i a r e1 e2 => s _ _ (m.row i a r e1 e2), m.nd⟩
theorem Mat.keep {H H' : Hp} {R : Addr} {as : List Addr} {rows : List (List Int)} (m : Mat H R as rows) (k : ∀ b o, b ∈ R :: as → H b = some o → H' b = some o) : Mat H' R as rows :=
  ⟨k _ _ List.mem_cons_self m.hd, m.len, fun i a r e1 e2 => k _ _ (List.mem_cons_of_mem _ (List.mem_of_getElem? e1)) (m.row i a r e1 e2), m.nd⟩
theorem Mat.upd {H : Hp} {R : Addr} {as : List Addr} {rows : List (List Int)} {b : Addr} {o : HO} (m : Mat H R as rows) (hb : b ∉ R :: as) : Mat (upd H b o) R as rows :=
  m.keep fun c u hc e => by
    rw [upd_ne (fun z => hb (by rw [← z]; exact hc))]
    exact e
theorem Mat.new {H : Hp} {R : Addr} (hR : H R = some (.lst [])) : Mat H R [] [] := ⟨hR, rfl, fun i a r e => by simp at e, by simp⟩
theorem Mat.snoc {H : Hp} {R D : Addr} {as : List Addr} {rows : List (List Int)} {r : List Int} (m : Mat H R as rows) (hD : H D = some (.lst (r.map V.int))) (nD : D ∉ R :: as) :
    Mat (L2.upd H R (.lst (as.map V.ref ++ [V.ref D]))) R (as ++ [D]) (rows ++ [r]) := by
  have hR : ∀ a ∈ as, a ≠ R := fun a ha z => by have := (List.nodup_cons.mp m.nd).1; rw [← z] at this; exact this ha
  have hDR : D ≠ R := fun z => nD (by rw [z]; exact List.mem_cons_self)
  refine ⟨by rw [upd_same, List.map_append]; rfl, by simp [m.len], fun i a r' e1 e2 => ?_, ?_⟩
  · by_cases hi : i < as.length
    · rw [List.getElem?_append_left hi] at e1
      rw [List.getElem?_append_left (by rw [← m.len]; exact hi)] at e2
      rw [upd_ne (hR a (List.mem_of_getElem? e1))]
      exact m.row i a r' e1 e2
    · rw [List.getElem?_append_right (by (first | lia | omega))] at e1
      rw [List.getElem?_append_right (by rw [← m.len]; (first | lia | omega))] at e2
      rw [m.len] at e1
      cases q : i - rows.length with
      | zero =>
        rw [q] at e1 e2
        simp at e1 e2
        subst e1 e2
        rw [upd_ne hDR]
        exact hD
      | succ n =>
        rw [q] at e1
        simp at e1
  · have h1 := m.nd
    rw [List.nodup_cons] at h1 ⊢
    refine ⟨fun z => ?_, ?_⟩
    · rcases List.mem_append.mp z with z | z
      · exact h1.1 z
      · exact hDR (List.mem_singleton.mp z).symm
    · rw [List.nodup_append]
      refine ⟨h1.2, by simp, fun x hx y hy => ?_⟩
      rw [List.mem_singleton.mp hy]
      intro z
      exact nD (by rw [← z]; exact List.mem_cons_of_mem _ hx)
theorem Mat.get {H : Hp} {R : Addr} {as : List Addr} {rows : List (List Int)} (m : Mat H R as rows) {i : Nat} (hi : i < rows.length) : ∃ a, as[i]? = some a ∧ H a = some (.lst ((rows[i]).map V.int)) ∧ a ∈ as := by
  have h : i < as.length := by rw [m.len]; exact hi
  exact ⟨as[i], List.getElem?_eq_getElem h, m.row i _ _ (List.getElem?_eq_getElem h) (List.getElem?_eq_getElem hi), List.getElem_mem h⟩
theorem Mat.refs {H : Hp} {R : Addr} {as : List Addr} {rows : List (List Int)} (m : Mat H R as rows) {i : Nat} {x : V} (e : (as.map V.ref)[i]? = some x) : ∃ a, ∃ hi : i < rows.length, x = .ref a ∧ as[i]? = some a ∧ H a = some (.lst ((rows[i]).map V.int)) ∧ a ∈ as := by
  rw [List.getElem?_map] at e
  cases q : as[i]? with
  | none => rw [q] at e; cases e
  | some a =>
    rw [q] at e
    have hi : i < rows.length := by rw [← m.len]; exact (List.getElem?_eq_some_iff.mp q).1
    refine ⟨a, hi, (Option.some.inj e).symm, rfl, m.row i a _ q (List.getElem?_eq_getElem hi), List.mem_of_getElem? q⟩
theorem Mat.sq {K : PySem.W.Frag} {H : Hp} {R : Addr} {as : List Addr} {rows : List (List Int)} (m : Mat H R as rows) : SqL K H R (as.map V.ref) := SqL.of m.hd
theorem Mat.reflen {H : Hp} {R : Addr} {as : List Addr} {rows : List (List Int)} (m : Mat H R as rows) : (as.map V.ref).length = rows.length := by rw [List.length_map, m.len]

end Com

set_option Elab.async false
set_option linter.all false
set_option maxRecDepth 100000
set_option maxHeartbeats 4000000
namespace L2
open PySem PySem.Spec PyProof.Rows

section
open PySem.W PySem.Calls PySem.Builtin PySem.Builtin.ObjectAttr PySem.Builtin.Getset_descriptor
variable {prog : Program} {w : World} {A : Around} {E : Value → Shared → Prop} {s : Shared} {K : Frag} {x D : Addr} {ox : Obj}
end

section
variable {X : Cx}
end

section
variable {X : Cx} {pins : List (Addr × Obj)} {σ : St} {H : Hp} {s : Shared}
end

section
variable {X : Cx} {pins : List (Addr × Obj)} {σ : St} {H : Hp} {s : Shared} {e : Addr}
end
section
variable {X : Cx} {i : Nat} {n x : Str} {C : Addr} {np pos : Pos} {b₀ : Stmt} {suite : List Stmt} {rest : List ExceptHandler} {tb : TS} {tr : Value → TS}
end
end L2

set_option Elab.async false
set_option linter.all false
set_option maxRecDepth 100000
set_option maxHeartbeats 4000000
namespace L2
open PySem PySem.Spec PyProof.Rows

section
variable {X : Cx} {pins : List (Addr × Obj)} {σ : List (Option V)} {H : Hp} {s : Shared} {h' : Heap}
/-- untracked records of ours have turned -/
theorem Inv.turnedL {t' : Nat} {fp : List Addr} (I : Inv X pins σ H s) (k : ∀ b o, b ∉ fp → s.heap.get? b = some o → h'.get? b = some o) (hf : ∀ b ∈ fp, FpOk X pins H b) : Inv X pins σ H { s with heap := h', toks := t' } := by
  have nit : ∀ b u, H b = some u → b ∉ fp := fun b u e z => by rw [(hf b z).1] at e; cases e
  refine I.step (g' := s.gens) (d' := s.drawn) (ch := fp) (fun b hb => ?_) (fun b o _ _ hc e _ => k b o hc e) (fun b o _ _ hc e _ => ⟨o.slots, k b o hc e⟩) (fun _ _ _ _ n => n)
    (fun b o hc e => ⟨o, k b o hc e⟩) (fun _ _ e => e) (fun _ _ _ e => e) (fun b ps e => ⟨#[], by rw [e]; simp⟩) (fun m hm => ?_) (fun b u e => ?_) I.bare
  · obtain ⟨_, f1, _, f3, f4, f5⟩ := hf b hb
    exact ⟨f3, f1, f4, f5⟩
  · obtain ⟨o, es, ep, ho, r⟩ := hm
    exact ⟨o, es, ep, k _ o (fun z => (hf _ z).2.1 rfl) ho, r⟩
  · refine (I.hok b u e).stay (fun c v hc q => k c v ?_ q) (fun _ q => q) fun _ _ q => q
    rcases hc with z | z
    · rw [z]; exact nit b u e
    · exact nit c _ z
/-- a thing that stands is tracked -/
theorem Inv.track {a : Addr} {o : HO} (I : Inv X pins σ H s) (f : FpOk X pins H a) (hsz : X.s₀.heap.objs.size ≤ a) (new : ObjOk X.prog X.w (upd H a o) s.heap a o) : Inv X pins σ (upd H a o) s := by
  obtain ⟨f0, f1, f2, f3, f4, f5⟩ := f
  have ne0 : ∀ b ob, X.s₀.heap.get? b = some ob → b ≠ a := fun b ob e => Nat.ne_of_lt (Nat.lt_of_lt_of_le (Heap.lt_size e) hsz)
  refine ⟨I.ok, I.os, I.bare, ⟨I.base.keep, I.base.slot, fun b ob e n hx => by rw [upd_ne (ne0 b ob e)]; exact I.base.free b ob e n hx, I.base.there, fun b xs e => ?_, fun b ob u e => ?_, fun b ps e => ?_⟩, I.loc, I.cell, by rw [upd_ne (Ne.symm f1)]; exact I.free, fun x c e => by rw [upd_ne (f4 x c e)]; exact I.freeC x c e, fun p hp => ?_, fun b ob e => ?_, I.len⟩
  · have z := I.base.tups b xs e
    rw [upd_ne (ne_of_none z f0)]; exact z
  · have z := I.base.frzs b ob u e
    rw [upd_ne (ne_of_none z f0)]; exact z
  · obtain ⟨m, z⟩ := I.base.tbls b ps e
    exact ⟨m, by rw [upd_ne (ne_of_none z f0)]; exact z⟩
  · obtain ⟨e, n, r⟩ := I.pin p hp
    exact ⟨e, by rw [upd_ne (f5 p hp)]; exact n, r⟩
  · by_cases hb : b = a
    · subst hb
      rw [upd_same] at e
      cases e
      exact new
    · rw [upd_ne hb] at e
      exact (I.hok b ob e).stay (fun _ _ _ z => z) (fun c z => by rw [upd_ne (ne_of_none z f0)]; exact z) fun c xs z => by rw [upd_ne (ne_of_none z f0)]; exact z
end

def Ite (K : PySem.W.Frag) (a : Addr) (xs : List V) : It :=
  ⟨fun i H => i < xs.length ∧ SqL K H a xs, fun i H x H' => ∃ p y, H p = none ∧ xs[i]? = some y ∧ x = .ref p ∧ H' = upd H p (.tup [.int (i : Int), y]), fun i H => i = xs.length ∧ SqL K H a xs⟩
theorem turn_enum {P : Program} {w : World} {K : PySem.W.Frag} {elts : List Expr} {x1 : Nat} {tpos : Pos} (a e it : Addr) (xs : List V) (hei : e ≠ it) :
    Turn P w K (.Tuple elts x1 tpos) (Ite K a xs) [e, it] e (fun i h => (∃ old, IsEnum h e it ((i : Nat) : Int) old) ∧ h.IsListIter it a i) where
  mem := by simp
  obj := fun i h st b hb => by
    obtain ⟨⟨old, he⟩, o, e2, c, d⟩ := st
    simp only [List.mem_cons, List.not_mem_nil, or_false] at hb
    rcases hb with rfl | rfl
    · exact ⟨_, he, fun v z => by cases z⟩
    · exact ⟨o, e2, fun v z => by rw [d] at z; cases z⟩
  keep := fun i h h' st k => ⟨by obtain ⟨old, he⟩ := st.1; exact ⟨old, k e (by simp) _ he⟩, st.2.at fun o e2 => k it (by simp) o e2⟩
  item := by
    intro X hP hw hK hc i pins s σ H E I hf st hg
    subst hP hw hK
    obtain ⟨hi, hq⟩ := hg
    obtain ⟨⟨old, he⟩, hit⟩ := st
    obtain ⟨its, rv, p, hz⟩ := I.list hq
    have hl := rv.length
    obtain ⟨u, hu, ru⟩ := rv.get (List.getElem?_eq_getElem (l := xs) (i := i) hi)
    refine wpAny_pyNext_enum_item he hit p.isList (x := u) (by simpa using hu) hei fun h1 heo hit1 ht1 hz1 hk1 => ?_
    refine ⟨.ref s.heap.objs.size, rfl, ?_⟩
    refine wpAny_letOwnedTupleGo_enum heo fun h2 he2 hs2 => ?_
    have hes : e < s.heap.objs.size := Heap.lt_size he
    have k2 : ∀ b o, b ∉ [e, it] → s.heap.get? b = some o → h2.get? b = some o := fun b o hb q => by
      simp only [List.mem_cons, List.not_mem_nil, or_false, not_or] at hb
      exact (hs2.2 b hb.1).trans (hk1 b o hb.1 hb.2 q)
    have I1 : Inv X pins σ H { s with heap := h2, toks := s.toks + 1 } := I.turnedL (t' := s.toks + 1) k2 hf
    have fn : H s.heap.objs.size = none := I.hok.fresh (Nat.le_refl _)
    have htup : h2.get? s.heap.objs.size = some { cls := .type "tuple", data := .seq #[.int i s.toks, u] } := (hs2.2 _ (Nat.ne_of_gt hes)).trans ht1
    have I2 := I1.track (a := s.heap.objs.size) (o := .tup [.int (i : Int), xs[i]]) (I.fpOk (Nat.le_refl _) fn) I.sz (by
      refine ⟨by rw [sizeLine_eq]; show 2 ≤ _; decide, [.int i s.toks, u], .cons ⟨_, rfl⟩ (.cons ru .nil), ?_⟩
      exact ⟨_, htup, rfl, _, rfl⟩)
    refine ⟨.ref s.heap.objs.size, _, I2, rfl, ⟨s.heap.objs.size, xs[i], fn, List.getElem?_eq_getElem hi, rfl, rfl⟩, ⟨⟨u, ?_⟩, ?_⟩, fun b hb => ?_⟩
    · have : ((i + 1 : Nat) : Int) = (i : Int) + 1 := by (first | lia | omega)
      rw [this]; exact he2
    · exact hit1.extBut hs2.extBut (Ne.symm hei)
    · have hb' := (hf b hb).1
      have : b < s.heap.objs.size := by
        simp only [List.mem_cons, List.not_mem_nil, or_false] at hb
        rcases hb with rfl | rfl
        · exact hes
        · obtain ⟨o, e2, _⟩ := hit; exact Heap.lt_size e2
      rw [upd_ne (Nat.ne_of_lt this)]; exact hb'
  done := by
    intro X hP hw hK hc i pins s σ H E I hf st hg
    subst hP hw hK
    obtain ⟨hi, hq⟩ := hg
    subst hi
    obtain ⟨⟨old, he⟩, hit⟩ := st
    obtain ⟨its, rv, p, hz⟩ := I.list hq
    have hl := rv.length
    refine wpAny_pyNext_enum_end (I.ok.hd hc) he hit p.isList (by simp; (first | lia | omega)) fun h1 he1 => ⟨rfl, ?_⟩
    exact I.turnedL (t' := s.toks) (fp := [e, it]) (fun b o hb q => he1 b o (fun z => hb (by simp [z])) q) hf
  self := fun _ _ _ _ _ st h => by obtain ⟨⟨old, he⟩, _⟩ := st; exact wpAny_pyIter_enum he h
def iEnum (K : PySem.W.Frag) (ta : TA) : TI := fun σ H R => ta σ H fun vs H1 => ∃ a xs, vs = [.ref a] ∧ SqL K H1 a xs ∧ R (Ite K a xs) H1
section
variable {X : Cx}
theorem pi_enum {elts : List Expr} {x1 : Nat} {tpos : Pos} {a : Expr} {ta : TA} {p pos : Pos} {K : PySem.W.Frag} (hK : X.K = K) (hg : Gl X "enumerate") (hm : X.mg "enumerate" = none) (ha : PA X [a] ta) (hs : starEach [a] X.env = [(false, eval a X.env)] := by rfl) :
    PI X (.Tuple elts x1 tpos) (.Call (.Name "enumerate" p) [a] [] pos) (iEnum K ta) := by
  subst hK
  intro pins s σ H R I h
  refine Call_ (ld_blt I hg hm boot_enumerate (PyProof.Rows.callWith_type1 (thn (ha pos pins s σ H _ I h) fun us s1 ⟨vs, H1, I1, r1, q1⟩ => ?_) hs rfl))
  obtain ⟨l, xs, e, hq, q⟩ := q1
  subst e
  obtain ⟨u, rfl, ru⟩ := vals1 r1
  cases ru
  obtain ⟨its, rv, pl, hz⟩ := I1.list hq
  refine call_enumerate_list pl.isList fun h1 he hit hsz hk => ?_
  refine wpAny_pyIter_enum (s := { s1 with heap := h1 }) he ?_
  refine ⟨s1.heap.objs.size + 1, [s1.heap.objs.size + 1, s1.heap.objs.size], _, _, H1, rfl, I1.kept (t' := s1.toks) hk, turn_enum l (s1.heap.objs.size + 1) s1.heap.objs.size xs (Nat.succ_ne_self _), ⟨⟨_, he⟩, hit⟩, fun b hb => ?_, q⟩
  simp only [List.mem_cons, List.not_mem_nil, or_false] at hb
  rcases hb with rfl | rfl
  · exact I1.fpOk (Nat.le_succ _) (I1.hok.fresh (Nat.le_succ _))
  · exact I1.fpOk (Nat.le_refl _) (I1.hok.fresh (Nat.le_refl _))
end
end L2
namespace L2
open PySem PySem.Spec PyProof.Rows
section
variable {X : Cx}
end
end L2
namespace L2
open PySem PySem.Spec PyProof.Rows
end L2

set_option Elab.async false
set_option linter.all false
set_option maxRecDepth 100000
set_option maxHeartbeats 4000000
namespace Com
open PySem L2
end Com

set_option Elab.async false
set_option linter.all false
set_option maxRecDepth 100000
set_option maxHeartbeats 4000000
namespace Com
open PySem L2
end Com

set_option Elab.async false
set_option linter.all false
set_option maxRecDepth 100000
set_option maxHeartbeats 4000000
namespace L2
open PySem PySem.Spec PyProof.Rows
section
variable {X : Cx} {pins : List (Addr × Obj)} {σ : St} {H : Hp} {s : Shared} {tg elt iter : Expr} {g : TG} {ifs : List Expr} {scope : Scope} {pos : Pos} {N' : List Str} {ix : List (Option Nat)} {wi : TI} {ti : TT} {te : TE}
theorem pg_tupK {K : PySem.W.Frag} {es : List Expr} {k : Nat} {t : TGs} {n : Nat} {pos : Pos} (hK : X.K = K) (hc : X.calm = true) (h : PGs X es t)
    (hn : (assignEach es X.env).length = n := by rfl) (hst : (assignEach es X.env).findIdx? (·.1) = none := by rfl) : PG X (.Tuple es k pos) (gTup K n t) := hK ▸ pg_tup hc h hn hst
/-- a list as a test -/
def tL (K : PySem.W.Frag) (t : TE) : TT := fun σ H Q => t σ H fun x H1 => ∃ a xs, x = .ref a ∧ SqL K H1 a xs ∧ Q (!xs.isEmpty) H1
theorem pt_lst {K : PySem.W.Frag} {e : Expr} {t : TE} (hK : X.K = K) (h : PE X e t) (he : ∀ whole, isTrue e X.env whole = (do let v ← whole; standAt e.pos; holding [v] (truthy v)) := by intro _; rfl) : PT X e (tL K t) := by
  subst hK
  intro pins s σ H Q I hw
  refine isTrue_plain (thn (h pins s σ H _ I hw) fun v s1 ⟨x, H1, I1, r1, q1⟩ => ?_) (he _)
  obtain ⟨a, xs, rfl, hq, q⟩ := q1
  cases r1
  obtain ⟨its, rv, p, hz⟩ := I1.list hq
  have hl := rv.length
  rw [sizeLine_eq] at hz
  refine wpAny_truthy_list p.isList (by simp; (first | lia | omega)) ⟨H1, I1.kept (t' := s1.toks + 1 + 1) fun b o e => e, ?_⟩
  have e : (!its.toArray.isEmpty) = !xs.isEmpty := by
    cases xs with
    | nil =>
      have : its = [] := List.length_eq_zero_iff.mp (by simpa using hl.symm)
      rw [this]; rfl
    | cons y r =>
      cases its with
      | nil => simp at hl
      | cons z r' => simp
  rw [e]
  exact q
end
/-- a comprehension over enumerate(xs) -/
theorem comp_enumT {K : PySem.W.Frag} {a : Addr} {xs : List V} {σ' : St} {g : TG} {ti : TT} {te : TE} {Q : VK} {H : Hp} (Pv : Nat → List V → Hp → Prop) (h0 : Pv 0 [] H) (hl : ∀ i ys H, i ≤ xs.length → Pv i ys H → SqL K H a xs)
    (hs : ∀ i x ys H p, xs[i]? = some x → Pv i ys H → H p = none → g (.ref p) σ' (upd H p (.tup [.int (i : Int), x])) fun σ2 H1 => (σ2.length = σ'.length ∧ ∀ (k : Nat) z, σ'[k]? = some (some z) → σ2[k]? = some (some z)) ∧ ti σ2 H1 fun b H2 => if b = true then te σ2 H2 fun y H3 => Pv (i + 1) (ys ++ [y]) H3 else Pv (i + 1) ys H2)
    (hz : ∀ i ys H, i < xs.length → Pv i ys H → ys.length < sizeLine)
    (hd : ∀ ys H, Pv xs.length ys H → ∀ D, H D = none → Q (.ref D) (upd H D (.lst ys))) : CompT σ' g ti te Q (Ite K a xs) H := by
  refine ⟨fun i m ys H => m = xs.length - i ∧ i ≤ xs.length ∧ Pv i ys H, ⟨xs.length, by simp, Nat.zero_le _, h0⟩, ?_⟩
  rintro i m ys H ⟨rfl, hi, p⟩
  have q := hl i ys H hi p
  by_cases hlt : i < xs.length
  · refine .inr ⟨⟨hlt, q⟩, ?_⟩
    have hx : xs[i]? = some xs[i] := List.getElem?_eq_getElem hlt
    refine ⟨hz i ys H hlt p, Pv (i + 1), fun ys' H' p' => ⟨xs.length - (i + 1), by (first | lia | omega), rfl, hlt, p'⟩, fun x H' y => ?_⟩
    obtain ⟨c, y, hc, ey, rfl, rfl⟩ := y
    exact hs i y ys H c ey p hc
  · have e : i = xs.length := by (first | lia | omega)
    subst e
    exact .inl ⟨⟨rfl, q⟩, hd ys H p⟩
end L2

set_option Elab.async false
set_option linter.all false
set_option maxRecDepth 100000
set_option maxHeartbeats 4000000
namespace L2
open PySem PySem.Spec PyProof.Rows
section
variable {X : Cx}
/-- -e -/
theorem pe_neg {a : Expr} {ta : TE} {pos : Pos} (ha : PE X a ta) : PE X (.UnaryOp .USub a pos) (tUn (rU fun i => .int (-i)) ta) := pe_un un_neg ha
end
end L2

set_option Elab.async false
set_option linter.all false
set_option maxRecDepth 100000
set_option maxHeartbeats 4000000
namespace L2
open PySem PySem.Spec PyProof.Rows
section
variable {X : Cx}
/-- numbers of up to 4,000 bits -/
def CB (i : Int) : Prop := i.natAbs < 2 ^ 4000
theorem CB.bits {i : Int} (h : CB i) : Builtin.Int.intBits i ≤ 4000 := PyProof.Rows.intBits_le h
theorem CB.mul {i j : Int} (h1 : CB i) (h2 : CB j) : IntMulOk i j := by
  have a := h1.bits
  have b := h2.bits
  unfold IntMulOk Builtin.Int.intTooBig
  have : ¬ ((Builtin.Int.intBits i + Builtin.Int.intBits j : Int) > bitsLine) := by
    have hb : (8000 : Int) ≤ bitsLine := by decide +kernel
    (first | lia | omega)
  rw [decide_eq_false this]
  simp
theorem op_mulB : OpR X (binaryOp .Mult) (rI (fun i j => CB i ∧ CB j) fun i j => .int (i * j)) := opI fun _ _ _ _ _ _ _ hc q => mul_int q (hc.1.mul hc.2)
theorem op_fdivB : OpR X (binaryOp .FloorDiv) (rI (fun _ j => j ≠ 0 ∧ CB j) fun i j => .int (i.fdiv j)) := opI fun _ j _ _ _ _ _ hc q => floordiv_int hc.1 q (.inl (PyProof.noPylong_of_log2 (by
  have h0 : j.natAbs ≠ 0 := fun z => hc.1 (Int.natAbs_eq_zero.mp z)
  have : j.natAbs.log2 < 4000 := (Nat.log2_lt h0).mpr hc.2
  (first | lia | omega))))
end
section
variable {X : Cx} {tg elt iter : Expr} {g : TG} {ifs : List Expr} {scope : Scope} {pos : Pos} {wi : TI} {ti : TT} {te : TE}
/-- y = [elt for (..) in iter if ..], y a plain local name -/
theorem ps_setCompT {y : Str} {py spos : Pos} {i : Nat} {N' : List Str} {ix : List (Option Nat)} (hN : X.N.Nodup) (hi' : X.N[i]? = some y) (hy : X.env.scope.names.lookup y = some .local)
    (S : CompSc X.N X.env.scope scope N' ix) (hg : ∀ C cl s H fp, N'.Nodup → PG (cxIn X scope N' C cl s H fp) tg g) (hc : X.calm = true) (hi : PI X tg iter wi)
    (ht : ∀ C cl s H fp, PIfs (cxIn X scope N' C cl s H fp) ifs ti) (he : ∀ C cl s H fp, PE (cxIn X scope N' C cl s H fp) elt te)
    (hsw : swapsWith (.ListComp elt [⟨tg, iter, ifs, 0⟩] scope pos) (some (.Name y py)) spos.line X.env = pure true := by rfl) (hs : ∀ x, foldedSetIterable iter X.env x = pure x := by intro _; rfl) :
    PS X (.Assign [.Name y py] (.ListComp elt [⟨tg, iter, ifs, 0⟩] scope pos) spos) (tAsg (tCompT ix wi g ti te) (gName i)) := by
  intro pins s σ H D I h
  obtain ⟨cl, hcl, c1, c2⟩ := comp_clos I S
  rw [exec_Assign_Name_used _ _ _ _ hsw]
  refine wpAny_bind (wpAny_standAt (wpAny_bind ?_))
  show wpAny _ X.A (do let _ ← comprehension (.ListComp elt [⟨tg, iter, ifs, 0⟩] scope pos) scope X.env _ (newList []) false (eval iter X.env) (some (assign (.Name y py) X.env))) _ _ s
  refine wpAny_bind (wpAny_mono (wpAny_comprehension_free (use := some (assign (.Name y py) X.env)) (Q := fun _ s' => SP X pins D .next s') rfl hs hcl S.kind S.names
    (thn (hi pins s σ H _ I h) fun v s1 h1 => thn h1 fun itv s2 h2 => ?_)) (fun _ s' hq => wpAny_pure (wpAny_pure hq)) fun _ _ e => e)
  obtain ⟨it, fp, tn, J, H2, e, I2, T, st2, f2, hW⟩ := h2
  subst e
  refine comp_runT (RR := fun acc C => compPost (model X.prog X.w) X.A X.xe (some (assign (.Name y py) X.env)) (fun _ s' => SP X pins D .next s') acc C) S hg hc ht he c1 c2 I2 T st2 f2 hW fun D' C H' s' m' I' hn lo hC q => ?_
  show wpAny _ X.A (assign (.Name y py) X.env (.ref D')) _ _ _
  refine wpAny_assign_Name (store_ok2 (i := i) (v := .ref D') I' hN hi' (.inl hy) rfl (fun s3 I3 ⟨a, sb, ha⟩ => ?_) (.inr hy))
  have hCa : C ≠ a := by
    rcases ha with z | z
    · rw [z]; exact lo.nl
    · exact Ne.symm (lo.nc _ _ z)
  refine ⟨m', hn.sameBut sb hCa, fun h' hs' => ?_⟩
  exact ⟨_, H', I3.same lo hs' rfl, q⟩
end
/-- a comprehension, by what holds ahead of each item -/
theorem comp_inv {J : It} {xs : List V} {σ' : St} {j : Nat} {ti : TT} {te : TE} {Q : VK} {H : Hp} (W : Wk J xs H) (Pv : Nat → List V → Hp → Prop) (h0 : Pv 0 [] H) (hm : ∀ i ys H3, Pv i ys H3 → Same H H3)
    (hs : ∀ i x ys H3, xs[i]? = some x → Pv i ys H3 → ti (σ'.set j (some x)) H3 fun b H4 => if b = true then te (σ'.set j (some x)) H4 fun y H5 => Pv (i + 1) (ys ++ [y]) H5 else Pv (i + 1) ys H4)
    (hz : ∀ i ys H3, i < xs.length → Pv i ys H3 → ys.length < sizeLine)
    (hd : ∀ ys H3, Pv xs.length ys H3 → ∀ D, H3 D = none → Q (.ref D) (upd H3 D (.lst ys))) : CompW σ' j ti te Q J H := by
  refine ⟨fun i m zs H3 => m = xs.length - i ∧ i ≤ xs.length ∧ Pv i zs H3, ⟨xs.length, by simp, Nat.zero_le _, h0⟩, ?_⟩
  rintro i m zs H3 ⟨rfl, hi, p⟩
  have s3 := hm i zs H3 p
  by_cases hlt : i < xs.length
  · refine .inr ⟨W.go i _ s3 hlt, hz i zs H3 hlt p, Pv (i + 1), fun zs' H' p' => ⟨xs.length - (i + 1), by (first | lia | omega), rfl, hlt, p'⟩, fun x H' y => ?_⟩
    obtain ⟨e, ex⟩ := W.yl i _ x H' s3 hlt y
    subst e
    exact hs i x zs H' ex p
  · have e : i = xs.length := by (first | lia | omega)
    subst e
    exact .inl ⟨W.st _ s3, fun D hD => hd zs H3 p D hD⟩
end L2

set_option Elab.async false
set_option linter.all false
set_option maxRecDepth 100000
set_option maxHeartbeats 4000000
namespace L2
open PySem PySem.Spec PyProof.Rows
structure CompSq (N : List Str) (sc scope : Scope) (N' : List Str) (ix : List (Option Nat)) (o : Str) : Prop where
  kind : scope.kind = .function
  names : ∀ y ∈ scope.names, y.2 = .local → scope.names.lookup y.1 = some .local
  nd : N'.Nodup
  len : ix.length = N'.length
  cap : ∀ (j i : Nat), ix[j]? = some (some i) → ∃ y, N'[j]? = some y ∧ N[i]? = some y ∧ (y, NameKind.free) ∈ scope.names
  free : ∀ y, (y, NameKind.free) ∈ scope.names → sc.names.lookup y = some .cell
  frees : ∀ y, (y, NameKind.free) ∈ scope.names → scope.names.lookup y = some .free
  own : ∀ n acc, cellsFrom n scope.names acc = (o, n) :: acc
  push : ∀ h, pushCells h scope.names = h.push { cls := .type "cell", data := .cell none }
  look : scope.names.lookup o = some .cell
  only : ∀ y, (y, NameKind.cell) ∈ scope.names → y = o
  nfree : (o, NameKind.free) ∉ scope.names
def compOkQ (N : List Str) (sc scope : Scope) (N' : List Str) (ix : List (Option Nat)) (o : Str) : Bool :=
  (scope.names.all fun p => (decide (p.2 ≠ .local) || decide (scope.names.lookup p.1 = some .local)) && (decide (p.2 ≠ .free) || (decide (sc.names.lookup p.1 = some .cell) && decide (scope.names.lookup p.1 = some .free) && decide (p.1 ≠ o))) && (decide (p.2 ≠ .cell) || decide (p.1 = o))) &&
  decide N'.Nodup && decide (ix.length = N'.length) && decide (scope.names.lookup o = some .cell) &&
  ((List.range ix.length).all fun j => match ix[j]? with
    | some (some i) => (match N'[j]? with | some y => decide (N[i]? = some y) && (scope.names.any fun p => decide (p.1 = y) && decide (p.2 = .free)) | none => false)
    | _ => true)
theorem CompSq.of {N : List Str} {sc scope : Scope} {N' : List Str} {ix : List (Option Nat)} {o : Str} (kind : scope.kind = .function) (h : compOkQ N sc scope N' ix o = true) (own : ∀ n acc, cellsFrom n scope.names acc = (o, n) :: acc) (push : ∀ h, pushCells h scope.names = h.push { cls := .type "cell", data := .cell none }) : CompSq N sc scope N' ix o := by
  unfold compOkQ at h
  simp only [Bool.and_eq_true, List.all_eq_true, Bool.or_eq_true, decide_eq_true_eq] at h
  obtain ⟨⟨⟨⟨h1, h2⟩, h3⟩, h5⟩, h4⟩ := h
  refine ⟨kind, fun y hy hl => ?_, h2, h3, fun j i e => ?_, fun y hy => ?_, fun y hy => ?_, own, push, h5, fun y hy => ?_, fun hy => ?_⟩
  · rcases (h1 y hy).1.1 with z | z
    · exact absurd hl z
    · exact z
  · have hj : j < ix.length := (List.getElem?_eq_some_iff.mp e).1
    have q := h4 j (List.mem_range.mpr hj)
    rw [e] at q
    dsimp only at q
    cases e2 : N'[j]? with
    | none => rw [e2] at q; cases q
    | some y =>
      rw [e2] at q
      simp only [Bool.and_eq_true, decide_eq_true_eq, List.any_eq_true] at q
      obtain ⟨q1, ⟨n, k⟩, q2, q3, q4⟩ := q
      dsimp only at q3 q4
      subst q3 q4
      exact ⟨_, rfl, q1, q2⟩
  · rcases (h1 _ hy).1.2 with z | z
    · exact absurd rfl z
    · exact z.1.1
  · rcases (h1 _ hy).1.2 with z | z
    · exact absurd rfl z
    · exact z.1.2
  · rcases (h1 _ hy).2 with z | z
    · exact absurd rfl z
    · exact z
  · rcases (h1 _ hy).1.2 with z | z
    · exact absurd rfl z
    · exact absurd rfl z.2
theorem look_own {o x : Str} {c c0 : Addr} {cl : List (Str × Addr)} (h : List.lookup x ((o, c0) :: cl) = some c) : (x = o ∧ c = c0) ∨ (x ≠ o ∧ cl.lookup x = some c) := by
  rw [List.lookup_cons] at h
  cases hb : x == o with
  | true => rw [hb] at h; cases h; exact .inl ⟨eq_of_beq hb, rfl⟩
  | false => rw [hb] at h; exact .inr ⟨fun z => by rw [z] at hb; simp at hb, h⟩
theorem look_self {o : Str} {c0 : Addr} {cl : List (Str × Addr)} : List.lookup o ((o, c0) :: cl) = some c0 := by simp [List.lookup_cons]
theorem look_oth {o x : Str} {c c0 : Addr} {cl : List (Str × Addr)} (h : x ≠ o) (e : cl.lookup x = some c) : List.lookup x ((o, c0) :: cl) = some c := by
  rw [List.lookup_cons, beq_eq_false_iff_ne.mpr h]; exact e
theorem lookup_relabelQ {env : Env} : ∀ {names : List (Str × NameKind)} {x : Str} {k : NameKind},
    (names.map fun (n, k) => if (k == NameKind.free && env.scope.kind == .function && env.kindOf n == some .cell) then (n, NameKind.cell) else (n, k)).lookup x = some k → k = .cell ∨ k = .free → (x, NameKind.free) ∈ names ∨ (x, NameKind.cell) ∈ names
  | [], _, _, h, _ => by simp at h
  | (n, k') :: r, x, k, h, hk => by
    have ih := @lookup_relabelQ env r x k
    change List.lookup x ((if (k' == NameKind.free && env.scope.kind == .function && env.kindOf n == some .cell) = true then (n, NameKind.cell) else (n, k')) :: _) = _ at h
    by_cases hx : x = n
    · subst hx
      by_cases hq : (k' == NameKind.free && env.scope.kind == .function && env.kindOf x == some .cell) = true
      · have hf : k' = .free := by
          simp only [Bool.and_eq_true] at hq
          exact eq_of_beq hq.1.1
        subst hf
        exact .inl List.mem_cons_self
      · rw [if_neg hq] at h
        simp only [List.lookup_cons, beq_self_eq_true] at h
        have e : k' = k := Option.some.inj h
        subst e
        rcases hk with z | z
        · subst z; exact .inr List.mem_cons_self
        · subst z; exact .inl List.mem_cons_self
    · have hb : (x == n) = false := beq_eq_false_iff_ne.mpr hx
      have h' : (x, NameKind.free) ∈ r ∨ (x, NameKind.cell) ∈ r := by
        refine ih ?_ hk
        by_cases hq : (k' == NameKind.free && env.scope.kind == .function && env.kindOf n == some .cell) = true
        · rw [if_pos hq] at h
          simp only [List.lookup_cons, hb] at h
          exact h
        · rw [if_neg hq] at h
          simp only [List.lookup_cons, hb] at h
          exact h
      rcases h' with z | z
      · exact .inl (List.mem_cons_of_mem _ z)
      · exact .inr (List.mem_cons_of_mem _ z)
theorem lookup_relabel_cell {env : Env} : ∀ {names : List (Str × NameKind)} {x : Str}, names.lookup x = some .cell →
    (names.map fun (n, k) => if (k == NameKind.free && env.scope.kind == .function && env.kindOf n == some .cell) then (n, NameKind.cell) else (n, k)).lookup x = some .cell
  | [], _, h => by simp at h
  | (n, k) :: r, x, h => by
    have ih := @lookup_relabel_cell env r x
    show List.lookup x ((if (k == NameKind.free && env.scope.kind == .function && env.kindOf n == some .cell) = true then (n, NameKind.cell) else (n, k)) :: _) = _
    cases hx : x == n with
    | true =>
      simp only [List.lookup_cons, hx] at h
      cases h
      simp [List.lookup_cons, hx]
    | false =>
      simp only [List.lookup_cons, hx] at h
      by_cases hc : (k == NameKind.free && env.scope.kind == .function && env.kindOf n == some .cell) = true
      · rw [if_pos hc]; simp only [List.lookup_cons, hx]; exact ih h
      · rw [if_neg hc]; simp only [List.lookup_cons, hx]; exact ih h
def cxInQ (X : Cx) (scope : Scope) (N' : List Str) (C c0 : Addr) (cl : List (Str × Addr)) (s : Shared) (H : Hp) (fp : List Addr) (o : Str) : Cx where
  prog := X.prog
  w := X.w
  K := X.K
  mg := X.mg
  base := X.base
  A := X.A
  N := N'
  s₀ := s
  H₀ := H
  env := compEnvC scope ((o, c0) :: cl) C X.env
  outer := X.stack
  stack := X.stack
  ex := fp
  fn := fun y => decide (y = o)
  calm := X.calm
  pn := []
  xe := fun _ _ => False
section
variable {X : Cx} {pins : List (Addr × Obj)} {σ : St} {H H' : Hp} {s : Shared}
theorem Inv.cxInQ_ok {scope : Scope} {N' : List Str} {ix : List (Option Nat)} {o : Str} {C c0 : Addr} {cl : List (Str × Addr)} {fp : List Addr} (I : Inv X pins σ H s) (S : CompSq X.N X.env.scope scope N' ix o) (hC : s.heap.objs.size ≤ C) (h0 : s.heap.objs.size ≤ c0)
    (c1 : ∀ y c, cl.lookup y = some c → X.env.cells.lookup y = some c) (c2 : ∀ y, (y, NameKind.free) ∈ scope.names → ∃ c, cl.lookup y = some c)
    (hf : ∀ b ∈ fp, FpOk X pins H b) (hlt : ∀ b ∈ fp, b < s.heap.objs.size) : (cxInQ X scope N' C c0 cl s H fp o).Ok where
  mod := I.ok.mod
  kind := S.kind
  glob := I.ok.glob
  blt := I.ok.blt
  above := hC
  inj := fun x y c h1 h2 => by
    have nc : ∀ z, cl.lookup z = some c0 → False := fun z e => by
      obtain ⟨v, q⟩ := I.cell z c0 (c1 z c0 e)
      exact absurd (Nat.lt_of_lt_of_le q.lt h0) (Nat.lt_irrefl _)
    rcases look_own h1 with ⟨a, b⟩ | ⟨a, b⟩ <;> rcases look_own h2 with ⟨a', b'⟩ | ⟨a', b'⟩
    · rw [a, a']
    · rw [b] at b'; exact (nc _ b').elim
    · rw [b'] at b; exact (nc _ b).elim
    · exact I.ok.inj x y c (c1 x c b) (c1 y c b')
  has := fun x h => by
    have key : (x, NameKind.free) ∈ scope.names ∨ (x, NameKind.cell) ∈ scope.names := by
      rcases h with h | h
      · exact lookup_relabelQ h (.inl rfl)
      · exact lookup_relabelQ h (.inr rfl)
    by_cases ho : x = o
    · exact ⟨c0, by rw [ho]; exact look_self⟩
    · rcases key with k | k
      · obtain ⟨c, hc⟩ := c2 x k
        exact ⟨c, look_oth ho hc⟩
      · exact absurd (S.only x k) ho
  cab := fun x c h e => by
    have ho : x = o := of_decide_eq_true h
    rcases look_own e with ⟨_, b⟩ | ⟨a, _⟩
    · rw [b]; exact h0
    · exact absurd ho a
  hd := I.ok.hd
  frames := I.ok.frames
  stk := .inl rfl
  exf := fun b hb => ⟨Nat.ne_of_lt (Nat.lt_of_lt_of_le (hlt b hb) hC), fun x c e => by
    rcases look_own e with ⟨_, q⟩ | ⟨_, q⟩
    · rw [q]; exact Nat.ne_of_gt (Nat.lt_of_lt_of_le (hlt b hb) h0)
    · exact (hf b hb).2.2.2.2.1 x c (c1 x c q)⟩
  bs := I.bs
  bsz := Nat.le_trans I.ok.bsz I.sz
  noex := fun b o e hb => by
    rcases (hf b hb).2.2.2.1 with z | z
    · exact I.ok.noex b o e z
    · exact absurd (Nat.lt_of_lt_of_le (Heap.lt_size e) (Nat.le_trans I.ok.bsz z)) (Nat.lt_irrefl _)
  exfs := fun b hb z => by
    rcases List.mem_cons.mp (I.stkSub b z) with q | q
    · exact (hf b hb).2.1 q
    · exact (hf b hb).2.2.1 q
  funs := I.stack
  frf := I.stkFree

theorem Inv.cxInQ {scope : Scope} {N' : List Str} {ix : List (Option Nat)} {o : Str} {C D c0 : Addr} {oD : Obj} {cl : List (Str × Addr)} {fp : List Addr} {h' : Heap} {tk : Nat} {m : Str → Option Value} (I : Inv X pins σ H s) (S : CompSq X.N X.env.scope scope N' ix o)
    (hC : s.heap.objs.size ≤ C) (h0 : s.heap.objs.size ≤ c0) (hk0 : h'.IsCell c0 none) (hD : s.heap.objs.size ≤ D) (hDC : D ≠ C) (eD : h'.get? D = some oD) (dD : ∀ v, oD.data ≠ .cell v)
    (c1 : ∀ y c, cl.lookup y = some c → X.env.cells.lookup y = some c) (c2 : ∀ y, (y, NameKind.free) ∈ scope.names → ∃ c, cl.lookup y = some c)
    (hf : ∀ b ∈ fp, FpOk X pins H b) (hlt : ∀ b ∈ fp, b < s.heap.objs.size) (k : ∀ b ob, s.heap.get? b = some ob → h'.get? b = some ob) (hn : h'.Ns C m) :
    Inv (cxInQ X scope N' C c0 cl s H fp o) [(D, oD)] (inSt ix σ) H { s with heap := h', toks := tk } where
  ok := I.cxInQ_ok S hC h0 c1 c2 hf hlt
  os := rfl
  bare := I.bare
  base := Un.kept k
  loc := by
    refine ⟨m, hn, fun j y v e1 e2 e3 => ?_⟩
    obtain ⟨i, h1, h2⟩ := inSt_get e2
    obtain ⟨z, hz1, hz2, hz3⟩ := S.cap j i h1
    change N'[j]? = some y at e1
    rw [e1] at hz1
    cases hz1
    have hk := S.free y hz3
    obtain ⟨m0, hn0, hl⟩ := I.loc
    obtain ⟨u, ru, lk⟩ := hl i y v hz2 h2 (.inr (.inl hk))
    refine ⟨u, ru, .inr ⟨?_, ?_⟩⟩
    · exact lookup_relabel_free (env := X.env) (S.frees y hz3)
    · rcases lk with ⟨k1, _⟩ | ⟨_, c, hc, ic⟩
      · rw [show X.env.kindOf y = some .cell from hk] at k1; cases k1
      · obtain ⟨c', hc'⟩ := c2 y hz3
        have := c1 y c' hc'
        rw [hc] at this
        cases this
        obtain ⟨o', ho, hd⟩ := ic
        exact ⟨c, look_oth (fun z => S.nfree (by rw [← z]; exact hz3)) hc', o', k _ _ ho, hd⟩
  cell := fun y c e => by
    rcases look_own e with ⟨_, q⟩ | ⟨_, q⟩
    · rw [q]; exact ⟨_, hk0⟩
    · obtain ⟨v, o', ho, hd⟩ := I.cell y c (c1 y c q)
      exact ⟨v, o', k _ _ ho, hd⟩
  free := I.hok.fresh hC
  freeC := fun y c e => by
    rcases look_own e with ⟨_, q⟩ | ⟨_, q⟩
    · rw [q]; exact I.hok.fresh h0
    · exact I.freeC y c (c1 y c q)
  pin := fun p hp => by
    have e : p = (D, oD) := by
      rcases List.mem_append.mp hp with z | z
      · cases z
      · exact List.mem_singleton.mp z
    subst e
    refine ⟨eD, I.hok.fresh hD, hDC, fun z => ?_, dD⟩
    rcases List.mem_cons.mp (I.stkSub D z) with q | q
    · exact absurd (Nat.lt_of_lt_of_le I.lt hD) (by rw [show D = X.env.locals from q]; exact Nat.lt_irrefl _)
    · exact I.nofs hD q
  hok := I.hok.kept k
  len := by
    show (inSt ix σ).length = N'.length
    unfold inSt
    rw [List.length_map]
    exact S.len

end
/-- the block's names are laid -/
theorem newEnvQ {M : Model} {A : Around} {E : Value → Shared → Prop} {s : Shared} {N : List Str} {sc scope : Scope} {N' : List Str} {ix : List (Option Nat)} {o : Str} {globals : Addr} {cl : List (Str × Addr)} {qual : Str} {outer : Env} {Q : Env → Shared → Prop} (S : CompSq N sc scope N' ix o)
    (hQ : ∀ h', h'.Ns s.heap.objs.size (fun _ => none) → h'.IsCell (s.heap.objs.size + 1) none → (∀ b ob, s.heap.get? b = some ob → h'.get? b = some ob) → Q (newEnv scope s.heap.objs.size globals ((o, s.heap.objs.size + 1) :: cl) qual none .none (some outer) builtinsNs) { s with heap := h', toks := s.toks }) :
    wpAny M A (newFunctionEnv scope globals cl [] qual none .none (some outer)) Q E s := by
  simp only [newFunctionEnv, Option.isSome_some, if_true]
  refine wpAny_bind (wpAny_alloc ?_)
  refine wpAny_bind (wpAny_layCells _ (fun name kind cells => by cases hkc : kind == NameKind.cell <;> simp [hkc]) _ _ _ _ ?_)
  have hz : ({ s with heap := s.heap.push { cls := .type "dict", data := .dict #[] } } : Shared).heap.objs.size = s.heap.objs.size + 1 := Heap.size_push ..
  rw [S.own, S.push, hz]
  refine wpAny_bind ?_
  rw [List.forIn_nil]
  refine wpAny_pure (wpAny_pure (hQ _ ?_ ?_ ?_))
  · exact (Heap.Ns.new s.heap (.type "dict")).keeps fun b ob e => Heap.get?_push_of_some _ e
  · refine ⟨_, Heap.get?_push_size _ rfl |> fun e => by rw [Heap.size_push] at e; exact e, rfl⟩
  · exact fun b ob e => Heap.get?_push_of_some _ (Heap.get?_push_of_some _ e)
section
variable {X : Cx} {pins : List (Addr × Obj)} {σ : St} {H : Hp} {s : Shared} {tg elt iter : Expr} {g : TG} {ifs : List Expr} {scope : Scope} {pos : Pos} {N' : List Str} {ix : List (Option Nat)} {wi : TI} {ti : TT} {te : TE}
theorem comp_runQ {it : Addr} {fp : List Addr} {tn : Nat → Heap → Prop} {J : It} {cl : List (Str × Addr)} {E : Value → Shared → Prop} {RR : Value → Addr → Result → Shared → Prop} {Q : VK}
    {o : Str} (S : CompSq X.N X.env.scope scope N' ix o) (hg : ∀ C c0 cl s H fp, N'.Nodup → PG (cxInQ X scope N' C c0 cl s H fp o) tg g) (hc : X.calm = true)
    (ht : ∀ C c0 cl s H fp, PIfs (cxInQ X scope N' C c0 cl s H fp o) ifs ti) (he : ∀ C c0 cl s H fp, PE (cxInQ X scope N' C c0 cl s H fp o) elt te)
    (c1 : ∀ y c, cl.lookup y = some c → X.env.cells.lookup y = some c) (c2 : ∀ y, (y, NameKind.free) ∈ scope.names → ∃ c, cl.lookup y = some c)
    (I : Inv X pins σ H s) (T : Turn X.prog X.w X.K tg J fp it tn) (st : tn 0 s.heap) (hf : ∀ b ∈ fp, FpOk X pins H b) (hW : CompT (inSt ix σ) g ti te Q J H)
    (hRR : ∀ D C H' s' m', Inv X pins σ H' s' → s'.heap.Ns C m' → Loose X pins H' C → s.heap.objs.size ≤ C → Q (.ref D) H' → RR (.ref D) C (.ok .next) s') :
    wpAny (model X.prog X.w) X.A (newList []) (fun acc s₃ => wpAny (model X.prog X.w) X.A (newFunctionEnv scope X.env.globals cl [] X.env.qual none .none (some X.env)) (fun cenv s₄ =>
      codeAny (model X.prog X.w) X.A (.compStart (.ListComp elt [⟨tg, iter, ifs, 0⟩] scope pos) 0 (.ref it) acc { cenv with scope := relabel scope X.env }) (RR acc cenv.locals) s₄) E s₃) E s := by
  obtain ⟨W, ⟨m0, w0⟩, turn⟩ := hW
  have hlt : ∀ b ∈ fp, b < s.heap.objs.size := fun b hb => let ⟨_, e, _⟩ := T.obj _ _ st b hb; Heap.lt_size e
  refine wpAny_newObj_type (newEnvQ S fun h₁ hns₁ hk₁ old₁ => ?_)
  dsimp only at hns₁ hk₁ old₁ ⊢
  generalize hH2 : s.heap.push { cls := .type "list", dict := none, data := .seq ([] : List Value).toArray } = H2 at hns₁ hk₁ old₁ ⊢
  have hC : H2.objs.size = s.heap.objs.size + 1 := by rw [← hH2, Heap.size_push]
  have hDC : s.heap.objs.size ≠ H2.objs.size := by rw [hC]; exact Nat.ne_of_lt (Nat.lt_succ_self _)
  have hCle : s.heap.objs.size ≤ H2.objs.size := by rw [hC]; exact Nat.le_succ _
  have h0le : s.heap.objs.size ≤ H2.objs.size + 1 := Nat.le_trans hCle (Nat.le_succ _)
  have hD0 : s.heap.objs.size ≠ H2.objs.size + 1 := by rw [hC]; exact Nat.ne_of_lt (Nat.lt_succ_of_lt (Nat.lt_succ_self _))
  have old : ∀ b ob, s.heap.get? b = some ob → h₁.get? b = some ob := fun b ob e => old₁ b ob (hH2 ▸ Heap.get?_push_of_some _ e)
  have hacc : h₁.get? s.heap.objs.size = some { cls := .type "list", data := .seq ([] : List Value).toArray 0 } := old₁ _ _ (hH2 ▸ Heap.get?_push_size _ rfl)
  have st1 : tn 0 h₁ := T.keep _ _ _ st fun b hb o e => old b o e
  have loop : ∀ s₃ : Shared, s₃ = { s with heap := h₁, toks := s.toks + ([] : List (Str × Value)).length } →
      codeAny (model X.prog X.w) X.A (.compLoop (.ListComp elt [⟨tg, iter, ifs, 0⟩] scope pos) 0 (.ref it) (.ref s.heap.objs.size) (compEnvC scope ((o, H2.objs.size + 1) :: cl) H2.objs.size X.env))
        (RR (.ref s.heap.objs.size) H2.objs.size) s₃ := by
    rintro s₃ rfl
    -- the block's context
    generalize hX' : cxInQ X scope N' H2.objs.size (H2.objs.size + 1) cl s H fp o = X'
    have I0 : Inv X' [(s.heap.objs.size, { cls := .type "list", data := .seq ([] : List Value).toArray 0 })] (inSt ix σ) H { s with heap := h₁, toks := s.toks + ([] : List (Str × Value)).length } := by
      rw [← hX']
      exact I.cxInQ S hCle h0le hk₁ (Nat.le_refl _) hDC hacc (fun v z => by cases z) c1 c2 hf hlt old hns₁
    have stat : ∀ {H' : Hp} {ob : Obj}, (∀ b ∈ fp, H' b = none) → ∀ b ∈ fp, FpOk X' [(s.heap.objs.size, ob)] H' b := fun {H' ob} hn b hb => by
      rw [← hX']
      refine ⟨hn b hb, Nat.ne_of_lt (Nat.lt_of_lt_of_le (hlt b hb) hCle), fun z => ?_, .inl hb, (fun y c e => by
        rcases look_own e with ⟨_, q⟩ | ⟨_, q⟩
        · rw [q]; exact Nat.ne_of_gt (Nat.lt_of_lt_of_le (hlt b hb) h0le)
        · exact (hf b hb).2.2.2.2.1 y c (c1 y c q)), fun p hp z => ?_⟩
      · rcases List.mem_cons.mp (I.stkSub b z) with q | q
        · exact (hf b hb).2.1 q
        · exact (hf b hb).2.2.1 q
      · have e : p = (s.heap.objs.size, ob) := by
          rcases List.mem_append.mp hp with q | q
          · cases q
          · exact List.mem_singleton.mp q
        subst e
        exact absurd (hlt b hb) (by rw [← z]; exact Nat.lt_irrefl _)
    have xP : X'.prog = X.prog := by rw [← hX']; rfl
    have xw : X'.w = X.w := by rw [← hX']; rfl
    have xK : X'.K = X.K := by rw [← hX']; rfl
    have xc : X'.calm = true := by rw [← hX']; exact hc
    have xA : X'.A = X.A := by rw [← hX']; rfl
    have xe : X'.env = compEnvC scope ((o, H2.objs.size + 1) :: cl) H2.objs.size X.env := by rw [← hX']; rfl
    have xx : X'.xe = fun _ _ => False := by rw [← hX']; rfl
    have xN : X'.N = N' := by rw [← hX']; rfl
    have ht' : PIfs X' ifs ti := by rw [← hX']; exact ht _ _ _ _ _ _
    have he' : PE X' elt te := by rw [← hX']; exact he _ _ _ _ _ _
    have hg' : PG X' tg g := by rw [← hX']; exact hg _ _ _ _ _ _ S.nd
    rw [← xA, ← xP, ← xw, ← xe]
    refine compLoop_any (fun k s' => ∃ i ys us n H', Inv X' [(s.heap.objs.size, { cls := .type "list", data := .seq (us : List Value).toArray n })] (inSt ix σ) H' s' ∧ Vals ys us ∧ ys.length ≤ sizeLine ∧ tn i s'.heap ∧ (∀ b ∈ fp, H' b = none) ∧ W i k ys H') ?_ m0
      ⟨0, [], [], 0, H, I0, .nil, Nat.zero_le _, st1, fun b hb => (hf b hb).1, w0⟩
    rintro k s3 ⟨i, ys, us, n, H3, I3, rv, hz, st3, fr3, w3⟩
    rcases turn i k ys H3 w3 with ⟨stop, qn⟩ | ⟨go, hz', N, hN, step⟩
    · rw [← xP, ← xw, ← xK] at T
      refine thn (T.done X' rfl rfl rfl xc i _ s3 (inSt ix σ) H3 _ I3 (stat fr3) st3 stop) fun r s4 ⟨hr, I4⟩ => ?_
      subst hr
      obtain ⟨m', hn', _⟩ := id I4.loc
      rw [xe] at hn'
      obtain ⟨eD, nD, _⟩ := I4.pin _ (List.mem_append_right _ List.mem_cons_self)
      have un : Un (frs X.stack) fp H H3 s.heap s4.heap := by have := I4.base; rw [← hX'] at this; exact this
      have os : s4.os = s.os := by have := I4.os; rw [← hX'] at this; exact this
      have hok : HOk X.prog X.w H3 s4.heap := by have := I4.hok; rw [xP, xw] at this; exact this
      have hCn : H3 H2.objs.size = none := by have := I4.free; rw [xe] at this; exact this
      have I5 : Inv X pins σ H3 s4 := I.call' os un hok I4.bare fun b hb => let ⟨_, a, _, c, d, e⟩ := hf b hb; ⟨c, a, d, e⟩
      have lD : Loose X pins H3 s.heap.objs.size := I.loose (Nat.le_refl _) nD
      have I6 := I5.adopt (o := .lst ys) lD.no lD.ab lD.nl lD.nc lD.np ⟨hz, us, n, rv, eD⟩
      exact hRR _ _ _ _ m' I6 hn' (I.loose hCle (by rw [upd_ne (Ne.symm hDC)]; exact hCn)) hCle (qn _ nD)
    · have T' := T
      rw [← xP, ← xw, ← xK] at T'
      refine thn (T'.item X' rfl rfl rfl xc i _ s3 (inSt ix σ) H3 _ I3 (stat fr3) st3 go) fun r s4 ⟨u, hr, h4⟩ => ?_
      subst hr
      refine thn h4 fun _ s5 ⟨v, H5, I5, r5, y5, st5, fr5⟩ => ?_
      have I5' := I5.pinned (stat fr5) (T.obj _ _ st5)
      have t5 := hg' _ s5 _ H5 v u _ I5' r5 (step v H5 y5)
      rw [xx] at t5
      refine thn t5 fun _ s6 ⟨σ6, H6, I6, ⟨kl, kw⟩, q6⟩ => ?_
      have t6 := ht' _ s6 _ H6 _ I6 q6
      rw [xx] at t6
      refine thn t6 fun ok s7 ⟨H7, I7, q7⟩ => ?_
      have weak : ∀ {H8 : Hp} {s8 : Shared}, Inv X' ([(s.heap.objs.size, { cls := .type "list", data := .seq us.toArray n })] ++ pinsAt fp s5.heap) σ6 H8 s8 →
          Inv X' ([(s.heap.objs.size, { cls := .type "list", data := .seq us.toArray n })] ++ pinsAt fp s5.heap) (inSt ix σ) H8 s8 ∧ tn (i + 1) s8.heap ∧ ∀ b ∈ fp, H8 b = none := fun {H8 s8} I8 => by
        refine ⟨I8.weak kl.symm kw, T.keep _ _ _ st5 fun b hb o e => (I8.pin (b, o) (List.mem_append_right _ (List.mem_append_right _ (mem_pinsAt hb e)))).1, fun b hb => ?_⟩
        · obtain ⟨o, e, d⟩ := T.obj _ _ st5 b hb
          exact (I8.pin (b, o) (List.mem_append_right _ (List.mem_append_right _ (mem_pinsAt hb e)))).2.1
      cases ok with
      | false =>
        have q7' : N ys H7 := q7
        obtain ⟨m', hm, w7⟩ := hN ys H7 q7'
        obtain ⟨J7, st7, fr7⟩ := weak I7
        exact ⟨m', hm, i + 1, ys, us, n, H7, J7.unpinned, rv, hz, st7, fr7, w7⟩
      | true =>
        have q7' : te σ6 H7 fun y H3 => N (ys ++ [y]) H3 := q7
        have t8 := he' _ s7 _ H7 _ I7 q7'
        rw [xx] at t8
        show wpAny _ _ _ _ _ _
        refine thn t8 fun uy s8 ⟨y, H8, I8, r8, n8⟩ => ?_
        obtain ⟨m', hm, w8⟩ := hN _ _ n8
        obtain ⟨J8, st8, fr8⟩ := weak I8
        have K8 := J8.unpinned
        obtain ⟨eD, nD, neL, nfs, _⟩ := K8.pin _ (List.mem_append_right _ List.mem_cons_self)
        have hl := rv.length
        refine call_meets F.slot_list_append ⟨_, eD, rfl⟩ F.entry_list_append (F.args_list_append_2 _ _) (PySem.list_append s.heap.objs.size us.toArray n uy (by rw [List.size_toArray]; (first | lia | omega))) ⟨eD, ?_⟩
        have eD2 := PySem.IsL.update eD (·.push uy)
        have dD : ∀ p ∈ X'.pn ++ [], p.1 ≠ s.heap.objs.size := fun p hp => by
          rw [← hX'] at hp
          rcases List.mem_append.mp hp with q | q <;> cases q
        have K0 : Inv X' [] (inSt ix σ) H8 s8 := K8.pins_of fun p hp => by cases hp
        have K9 := K0.turned (t' := s8.toks) (h' := s8.heap.update s.heap.objs.size (Obj.mapSeq (·.push uy))) (it := s.heap.objs.size) (fun b o hb q => (Heap.get?_update_other s8.heap _ (Ne.symm hb)).trans q) nD neL (.inr (by rw [← hX']; exact Nat.le_refl _)) (fun y' c e z => by
          rw [xe] at e
          rcases look_own e with ⟨_, q⟩ | ⟨_, q⟩
          · rw [q] at z; exact hD0 z.symm
          · obtain ⟨v', q'⟩ := I.cell y' c (c1 y' c q)
            exact absurd q'.lt (by rw [z]; exact Nat.lt_irrefl _)) dD
        refine ⟨m', hm, i + 1, ys ++ [y], us ++ [uy], (if ((us.toArray.push uy).size == us.toArray.size) = true then n else n + 1), H8, K9.pins_of fun p hp => ?_, rv.append (.cons r8 .nil), by rw [List.length_append, List.length_singleton]; (first | lia | omega), ?_, fr8, w8⟩
        · have e := List.mem_singleton.mp hp
          subst e
          exact ⟨by rw [show (us ++ [uy]).toArray = us.toArray.push uy by simp]; exact eD2, nD, neL, nfs, fun v z => by cases z⟩
        · exact T.keep _ _ _ st8 fun b hb o e => (Heap.get?_update_other s8.heap _ (Nat.ne_of_gt (hlt b hb))).trans e
  exact codeAny_compStart_list (loop _ rfl) (T.self X.A 0 _ _ _ st1 (loop _ rfl))
theorem comp_closQ {o : Str} (I : Inv X pins σ H s) (S : CompSq X.N X.env.scope scope N' ix o) : ∃ cl, closureFor scope X.env = pure cl ∧ (∀ y c, cl.lookup y = some c → X.env.cells.lookup y = some c) ∧ ∀ y, (y, NameKind.free) ∈ scope.names → ∃ c, cl.lookup y = some c :=
  closureFor_ok fun ⟨n, k⟩ hy hk => by
    dsimp only at hk
    subst hk
    exact I.ok.has n (.inl (S.free n hy))
theorem pg_ownQ {x : Str} {px : Pos} {C c0 : Addr} {cl : List (Str × Addr)} {s : Shared} {H : Hp} {fp : List Addr} (nd : N'.Nodup) (hj : N'[0]? = some x) (hx : scope.names.lookup x = some .cell) : PG (cxInQ X scope N' C c0 cl s H fp x) (.Name x px) (gName 0) :=
  pg_name nd hj (.inr (lookup_relabel_cell hx)) (.inl (decide_eq_true rfl))
/-- [elt for x in iter if ..], where a block within reads x -/
theorem pe_compQ {x : Str} {px : Pos} (S : CompSq X.N X.env.scope scope N' ix x) (hj : N'[0]? = some x) (hij : ix[0]? = some none) (hc : X.calm = true) (hi : PI X (.Name x px) iter wi)
    (ht : ∀ C c0 cl s H fp, PIfs (cxInQ X scope N' C c0 cl s H fp x) ifs ti) (he : ∀ C c0 cl s H fp, PE (cxInQ X scope N' C c0 cl s H fp x) elt te) (hs : ∀ x, foldedSetIterable iter X.env x = pure x) :
    PE X (.ListComp elt [⟨.Name x px, iter, ifs, 0⟩] scope pos) (tComp ix wi 0 ti te) := by
  intro pins s σ H Q I h
  rw [eval_ListComp]
  obtain ⟨cl, hcl, c1, c2⟩ := comp_closQ I S
  refine wpAny_comprehension_free (use := none) rfl hs hcl S.kind S.names (thn (hi pins s σ H _ I h) fun v s1 h1 => thn h1 fun itv s2 h2 => ?_)
  obtain ⟨it, fp, tn, J, H2, e, I2, T, st2, f2, hW⟩ := h2
  subst e
  refine comp_runQ (RR := fun acc C => compPost (model X.prog X.w) X.A X.xe none (EP X pins σ Q) acc C) S (fun _ _ _ _ _ _ nd => pg_ownQ nd hj S.look) hc ht he c1 c2 I2 T st2 f2 (compW_T hij hW) fun D C H' s' m' I' hn lo _ q => ?_
  exact ⟨m', hn, fun h' hs' => ⟨.ref D, H', I'.same lo hs' rfl, rfl, q⟩⟩
end
end L2

set_option Elab.async false
set_option linter.all false
namespace Com
abbrev Rw := Nat → Int
def lapG (f : List Rw → Int) : List Rw → List Rw → Nat → Int
  | _, [], _ => 0
  | pre, r :: t, c => r c * f (pre ++ t) - lapG f (pre ++ [r]) t c
/-- the determinant of n rows at the columns from c on, by the first column -/
def dt : Nat → List Rw → Nat → Int
  | 0, _, _ => 1
  | n + 1, rows, c => lapG (fun m => dt n m (c + 1)) [] rows c

theorem app1 {α : Type} (A : List α) (x : α) (B : List α) : (A ++ [x]) ++ B = A ++ x :: B := by simp

section
variable {f g : List Rw → Int} {n : Nat} {x y : Rw} {c : Nat}
theorem lap_preswap (h : ∀ A B, A.length + B.length + 2 = n → f (A ++ x :: y :: B) = - f (A ++ y :: x :: B)) (P Q : List Rw) : ∀ (B Q : List Rw), P.length + Q.length + 2 + B.length = n + 1 → lapG f (P ++ x :: y :: Q) B c = - lapG f (P ++ y :: x :: Q) B c
  | [], Q, _ => by simp [lapG]
  | r :: t, Q, hl => by
    have h1 := h P (Q ++ t) (by simp at hl ⊢; (first | lia | omega))
    have h2 := lap_preswap h P Q t (Q ++ [r]) (by simp at hl ⊢; (first | lia | omega))
    simp only [lapG, List.append_assoc, List.cons_append, List.singleton_append] at h1 h2 ⊢
    rw [h1, h2, Int.mul_neg, Int.neg_sub]
    (first | lia | omega)
theorem lap_swap (h : ∀ A B, A.length + B.length + 2 = n → f (A ++ x :: y :: B) = - f (A ++ y :: x :: B)) (B : List Rw) : ∀ (A pre : List Rw), pre.length + A.length + 2 + B.length = n + 1 → lapG f pre (A ++ x :: y :: B) c = - lapG f pre (A ++ y :: x :: B) c
  | [], pre, hl => by
    have h2 := lap_preswap (c := c) h pre [] B [] (by simp at hl ⊢; (first | lia | omega))
    simp only [lapG, List.nil_append, List.append_assoc, List.cons_append, List.singleton_append] at h2 ⊢
    rw [h2]
    (first | lia | omega)
  | a :: A, pre, hl => by
    have h1 := h (pre ++ A) B (by simp at hl ⊢; (first | lia | omega))
    have h2 := lap_swap h B A (pre ++ [a]) (by simp at hl ⊢; (first | lia | omega))
    simp only [List.append_assoc] at h1
    rw [List.cons_append, List.cons_append, lapG, lapG, h1, h2, Int.mul_neg, Int.neg_sub]
    (first | lia | omega)
end
theorem dt_swap : ∀ (n : Nat) (c : Nat) (A : List Rw) (x y : Rw) (B : List Rw), A.length + B.length + 2 = n → dt n (A ++ x :: y :: B) c = - dt n (A ++ y :: x :: B) c
  | 0, _, _, _, _, _, h => by (first | lia | omega)
  | n + 1, c, A, x, y, B, h => lap_swap (n := n) (fun A' B' h' => dt_swap n (c + 1) A' x y B' h') B A [] (by simp; (first | lia | omega))

section
variable {f : List Rw → Int} {n : Nat} {x y : Rw} {a b : Int} {c : Nat}
theorem lap_prelin (h : ∀ A B, A.length + B.length + 1 = n → f (A ++ (fun j => a * x j + b * y j) :: B) = a * f (A ++ x :: B) + b * f (A ++ y :: B)) (P : List Rw) : ∀ (B Q : List Rw), P.length + Q.length + 1 + B.length = n + 1 → lapG f (P ++ (fun j => a * x j + b * y j) :: Q) B c = a * lapG f (P ++ x :: Q) B c + b * lapG f (P ++ y :: Q) B c
  | [], Q, _ => by simp [lapG]
  | r :: t, Q, hl => by
    have h1 := h P (Q ++ t) (by simp at hl ⊢; (first | lia | omega))
    have h2 := lap_prelin h P t (Q ++ [r]) (by simp at hl ⊢; (first | lia | omega))
    simp only [lapG, List.append_assoc, List.cons_append, List.singleton_append] at h1 h2 ⊢
    rw [h1, h2]
    grind
theorem lap_lin (h : ∀ A B, A.length + B.length + 1 = n → f (A ++ (fun j => a * x j + b * y j) :: B) = a * f (A ++ x :: B) + b * f (A ++ y :: B)) (B : List Rw) : ∀ (A pre : List Rw), pre.length + A.length + 1 + B.length = n + 1 → lapG f pre (A ++ (fun j => a * x j + b * y j) :: B) c = a * lapG f pre (A ++ x :: B) c + b * lapG f pre (A ++ y :: B) c
  | [], pre, hl => by
    have h2 := lap_prelin (c := c) h pre B [] (by simp at hl ⊢; (first | lia | omega))
    simp only [lapG, List.nil_append, List.append_assoc, List.cons_append, List.singleton_append] at h2 ⊢
    rw [h2]
    grind
  | r :: A, pre, hl => by
    have h1 := h (pre ++ A) B (by simp at hl ⊢; (first | lia | omega))
    have h2 := lap_lin h B A (pre ++ [r]) (by simp at hl ⊢; (first | lia | omega))
    simp only [List.append_assoc] at h1
    rw [List.cons_append, List.cons_append, List.cons_append, lapG, lapG, lapG, h1, h2]
    grind
end
theorem dt_lin : ∀ (n : Nat) (c : Nat) (A : List Rw) (a b : Int) (x y : Rw) (B : List Rw), A.length + B.length + 1 = n → dt n (A ++ (fun j => a * x j + b * y j) :: B) c = a * dt n (A ++ x :: B) c + b * dt n (A ++ y :: B) c
  | 0, _, _, _, _, _, _, _, h => by (first | lia | omega)
  | n + 1, c, A, a, b, x, y, B, h => lap_lin (n := n) (fun A' B' h' => dt_lin n (c + 1) A' a b x y B' h') B A [] (by simp; (first | lia | omega))

theorem dt_dup (n c : Nat) (x : Rw) (C : List Rw) : ∀ (B A : List Rw), A.length + B.length + C.length + 2 = n → dt n (A ++ x :: (B ++ x :: C)) c = 0
  | [], A, h => by
    have := dt_swap n c A x x C (by simp at h; (first | lia | omega))
    simp only [List.nil_append]
    (first | lia | omega)
  | b :: B, A, h => by
    have h1 := dt_swap n c A x b (B ++ x :: C) (by simp at h ⊢; (first | lia | omega))
    have h2 := dt_dup n c x C B (A ++ [b]) (by simp at h ⊢; (first | lia | omega))
    rw [app1] at h2
    rw [List.cons_append, h1, h2]
    rfl
inductive Span (P : List Rw) : Rw → Prop
  | zero : Span P fun _ => 0
  | add (a : Int) {p s : Rw} : p ∈ P → Span P s → Span P fun j => a * p j + s j
theorem Span.mono {P Q : List Rw} (h : ∀ p ∈ P, p ∈ Q) {s : Rw} (S : Span P s) : Span Q s := by
  induction S with
  | zero => exact .zero
  | add a hp _ ih => exact .add a (h _ hp) ih
theorem Span.lin {P : List Rw} {s t : Rw} (a b : Int) (S : Span P s) (T : Span P t) : Span P fun j => a * s j + b * t j := by
  induction S with
  | zero =>
    induction T with
    | zero => exact (by funext j; simp : (fun _ => (0 : Int)) = fun j => a * (fun _ => (0 : Int)) j + b * (fun _ => (0 : Int)) j) ▸ Span.zero
    | @add e p t hp _ ih =>
      have : (fun j => a * (fun _ => (0 : Int)) j + b * (fun j => e * p j + t j) j) = fun j => (b * e) * p j + (fun j => a * (fun _ => (0 : Int)) j + b * t j) j := by funext j; grind
      rw [this]
      exact .add _ hp ih
  | @add e p s hp _ ih =>
    have : (fun j => a * (fun j => e * p j + s j) j + b * t j) = fun j => (a * e) * p j + (fun j => a * s j + b * t j) j := by funext j; grind
    rw [this]
    exact .add _ hp ih
theorem Span.map {P : List Rw} {s : Rw} (k : Nat → Nat) (S : Span P s) : Span (P.map fun r j => r (k j)) fun j => s (k j) := by
  induction S with
  | zero => exact .zero
  | add a hp _ ih => exact .add a (List.mem_map.mpr ⟨_, hp, rfl⟩) ih
theorem dt_scale (n c : Nat) (A : List Rw) (a : Int) (x : Rw) (B : List Rw) (h : A.length + B.length + 1 = n) : dt n (A ++ (fun j => a * x j) :: B) c = a * dt n (A ++ x :: B) c := by
  have := dt_lin n c A a 0 x x B h
  rw [show (fun j => a * x j + 0 * x j) = fun j => a * x j by funext j; (first | lia | omega)] at this
  rw [this]; (first | lia | omega)
theorem dt_span {n c : Nat} {A B : List Rw} {s : Rw} (h : A.length + B.length + 1 = n) (S : Span A s) : dt n (A ++ s :: B) c = 0 := by
  induction S with
  | zero =>
    have := dt_scale n c A 0 (fun _ => 0) B h
    rw [show (fun (_ : Nat) => (0 : Int) * 0) = fun _ => 0 from rfl] at this
    rw [this]; (first | lia | omega)
  | @add a p s hp _ ih =>
    have := dt_lin n c A a 1 p s B h
    rw [show (fun j => a * p j + 1 * s j) = fun j => a * p j + s j by funext j; (first | lia | omega), ih] at this
    rw [this]
    obtain ⟨A1, A2, rfl⟩ := List.append_of_mem hp
    have e := dt_dup n c p B A2 A1 (by simp at h; (first | lia | omega))
    rw [List.append_assoc, List.cons_append, e]
    (first | lia | omega)
/-- a row is another one and what the rows ahead of it span -/
theorem dt_mod {n c : Nat} {A B : List Rw} {x u s : Rw} {e : Int} (h : A.length + B.length + 1 = n) (S : Span A s) (q : ∀ j, e * x j = u j + s j) : e * dt n (A ++ x :: B) c = dt n (A ++ u :: B) c := by
  rw [← dt_scale n c A e x B h, show (fun j => e * x j) = fun j => 1 * u j + 1 * s j by funext j; have := q j; (first | lia | omega), dt_lin n c A 1 1 u s B h, dt_span h S]
  (first | lia | omega)

theorem lap_zero (f : List Rw → Int) (c : Nat) : ∀ (Q pre : List Rw), (∀ q ∈ Q, q c = 0) → lapG f pre Q c = 0
  | [], _, _ => rfl
  | r :: t, pre, h => by
    rw [lapG, h r List.mem_cons_self, lap_zero f c t _ fun q hq => h q (List.mem_cons_of_mem _ hq)]
    (first | lia | omega)
theorem dt_zero {n c : Nat} {Q : List Rw} (h : ∀ q ∈ Q, q c = 0) : dt (n + 1) Q c = 0 := lap_zero _ c Q [] h
theorem lap_block (f g : List Rw → Int) (c : Nat) (Q : List Rw) (d : Int) (hQ : ∀ q ∈ Q, q c = 0) (k : Nat) (h : ∀ S : List Rw, S.length = k → f (S ++ Q) = g S * d) : ∀ (P pre : List Rw), pre.length + P.length = k + 1 → lapG f pre (P ++ Q) c = lapG g pre P c * d
  | [], pre, _ => by rw [List.nil_append, lap_zero f c Q pre hQ, lapG]; (first | lia | omega)
  | r :: t, pre, hl => by
    have h1 := h (pre ++ t) (by simp at hl ⊢; (first | lia | omega))
    have h2 := lap_block f g c Q d hQ k h t (pre ++ [r]) (by simp at hl ⊢; (first | lia | omega))
    rw [List.append_assoc] at h1
    rw [List.cons_append, lapG, lapG, h1, h2, Int.sub_mul, Int.mul_assoc]
theorem dt_block (m : Nat) (Q : List Rw) : ∀ (k c : Nat) (P : List Rw), P.length = k → (∀ q ∈ Q, ∀ j, c ≤ j → j < c + k → q j = 0) → dt (k + m) (P ++ Q) c = dt k P c * dt m Q (c + k)
  | 0, c, P, h, _ => by
    rw [List.length_eq_zero_iff.mp h, List.nil_append, Nat.zero_add, Nat.add_zero, dt, Int.one_mul]
  | k + 1, c, P, h, z => by
    rw [show k + 1 + m = (k + m) + 1 by (first | lia | omega), dt, dt]
    refine lap_block _ _ c Q _ (fun q hq => z q hq c (Nat.le_refl _) (by (first | lia | omega))) k (fun S hS => ?_) P [] (by simpa using h)
    have := dt_block m Q k (c + 1) S hS fun q hq j h1 h2 => z q hq j (by (first | lia | omega)) (by (first | lia | omega))
    rw [this, show c + 1 + k = c + (k + 1) by (first | lia | omega)]
theorem lap_congr {α : Type} (f g : List Rw → Int) (c c' : Nat) (φ ψ : α → Rw) (hc : ∀ x, φ x c = ψ x c') (h : ∀ l : List α, f (l.map φ) = g (l.map ψ)) : ∀ (l pre : List α), lapG f (pre.map φ) (l.map φ) c = lapG g (pre.map ψ) (l.map ψ) c'
  | [], _ => rfl
  | r :: t, pre => by
    have h1 := h (pre ++ t)
    have h2 := lap_congr f g c c' φ ψ hc h t (pre ++ [r])
    simp only [List.map_append, List.map_cons, List.map_nil] at h1 h2
    rw [List.map_cons, List.map_cons, lapG, lapG, hc, h1, h2]
theorem dt_shift {α : Type} (φ ψ : α → Rw) : ∀ (n c c' : Nat) (l : List α), (∀ x i, i < n → φ x (c + i) = ψ x (c' + i)) → dt n (l.map φ) c = dt n (l.map ψ) c'
  | 0, _, _, _, _ => rfl
  | n + 1, c, c', l, h => by
    rw [dt, dt]
    exact lap_congr _ _ c c' φ ψ (fun x => h x 0 (by (first | lia | omega))) (fun l' => dt_shift φ ψ n (c + 1) (c' + 1) l' fun x i hi => by have := h x (i + 1) (by (first | lia | omega)); rw [show c + 1 + i = c + (i + 1) by (first | lia | omega), show c' + 1 + i = c' + (i + 1) by (first | lia | omega)]; exact this) l []
theorem dt_congr {α : Type} (φ ψ : α → Rw) (n c : Nat) (l : List α) (h : ∀ x j, c ≤ j → j < c + n → φ x j = ψ x j) : dt n (l.map φ) c = dt n (l.map ψ) c :=
  dt_shift φ ψ n c c l fun x i hi => h x (c + i) (by (first | lia | omega)) (by (first | lia | omega))
theorem dt_two (u v : Rw) (k : Nat) : dt 2 [u, v] k = u k * v (k + 1) - v k * u (k + 1) := by
  simp [dt, lapG]

/-- the column k is put to be the column j -/
def cs (k j : Nat) (i : Nat) : Nat := if i = k then j else i
def bor (P : List Rw) (x : Rw) (j : Nat) : Int := dt (P.length + 1) ((P ++ [x]).map fun r i => r (cs P.length j i)) 0
theorem bor_self (P : List Rw) (x : Rw) : bor P x P.length = dt (P.length + 1) (P ++ [x]) 0 := by
  unfold bor
  have : (fun (r : Rw) i => r (cs P.length P.length i)) = id := by
    funext r i
    unfold cs
    by_cases h : i = P.length
    · rw [if_pos h, h]; rfl
    · rw [if_neg h]; rfl
  rw [this, List.map_id]
structure Elim (P : List Rw) : Prop where
  ne : dt P.length P 0 ≠ 0
  z : ∀ x j, j < P.length → bor P x j = 0
  sp : ∀ x, ∃ d : Int, d ≠ 0 ∧ ∃ s, Span P s ∧ ∀ j, d * bor P x j = d * dt P.length P 0 * x j + s j
theorem Elim.nil : Elim [] where
  ne := by decide
  z := fun _ j h => absurd h (Nat.not_lt_zero j)
  sp := fun x => ⟨1, by decide, _, .zero, fun j => by simp [bor, dt, lapG, cs]⟩
theorem Elim.step {P : List Rw} (E : Elim P) (p x : Rw) (j : Nat) : dt P.length P 0 * bor (P ++ [p]) x j = bor P p P.length * bor P x j - bor P x P.length * bor P p j := by
  obtain ⟨dp, hp, sp, Sp, ep⟩ := E.sp p
  obtain ⟨dx, hx, sx, Sx, ex⟩ := E.sp x
  have hL := E.ne
  generalize hLd : dt P.length P 0 = L at hL ep ex ⊢
  have hk : (P.map fun r i => r (cs (P.length + 1) j i)).length = P.length := by simp
  -- the determinant with the rows cleared
  have e1 : (dp * L) * dt (P.length + 2) ((P.map fun r i => r (cs (P.length + 1) j i)) ++ (fun i => p (cs (P.length + 1) j i)) :: [fun i => x (cs (P.length + 1) j i)]) 0 = dt (P.length + 2) ((P.map fun r i => r (cs (P.length + 1) j i)) ++ (fun i => dp * bor P p (cs (P.length + 1) j i)) :: [fun i => x (cs (P.length + 1) j i)]) 0 :=
    dt_mod (by simp) (Span.lin 0 (-1) .zero (Sp.map _)) (fun i => by have := ep (cs (P.length + 1) j i); (first | lia | omega))
  have e2 : (dx * L) * dt (P.length + 2) (((P.map fun r i => r (cs (P.length + 1) j i)) ++ [fun i => dp * bor P p (cs (P.length + 1) j i)]) ++ (fun i => x (cs (P.length + 1) j i)) :: []) 0 = dt (P.length + 2) (((P.map fun r i => r (cs (P.length + 1) j i)) ++ [fun i => dp * bor P p (cs (P.length + 1) j i)]) ++ (fun i => dx * bor P x (cs (P.length + 1) j i)) :: []) 0 :=
    dt_mod (by simp) ((Span.lin 0 (-1) .zero (Sx.map _)).mono fun q hq => List.mem_append.mpr (.inl hq)) (fun i => by have := ex (cs (P.length + 1) j i); (first | lia | omega))
  rw [app1, app1] at e2
  have e3 := dt_block 2 [fun i => dp * bor P p (cs (P.length + 1) j i), fun i => dx * bor P x (cs (P.length + 1) j i)] P.length 0 (P.map fun r i => r (cs (P.length + 1) j i)) hk (fun q hq i _ hi => by
    have hc : cs (P.length + 1) j i = i := by unfold cs; rw [if_neg (by (first | lia | omega))]
    simp only [List.mem_cons, List.not_mem_nil, or_false] at hq
    rcases hq with rfl | rfl
    · simp only [hc]; rw [E.z p i (by (first | lia | omega))]; (first | lia | omega)
    · simp only [hc]; rw [E.z x i (by (first | lia | omega))]; (first | lia | omega))
  have e4 : dt P.length (P.map fun r i => r (cs (P.length + 1) j i)) 0 = L := by
    have := dt_congr (fun (r : Rw) i => r (cs (P.length + 1) j i)) id P.length 0 P fun r i _ hi => by
      have hc : cs (P.length + 1) j i = i := by unfold cs; rw [if_neg (by (first | lia | omega))]
      simp only [hc, id]
    rw [this, List.map_id, hLd]
  have c1 : cs (P.length + 1) j (0 + P.length) = P.length := by unfold cs; rw [if_neg (by (first | lia | omega))]; (first | lia | omega)
  have c2 : cs (P.length + 1) j (0 + P.length + 1) = j := by unfold cs; rw [if_pos (by (first | lia | omega))]
  rw [e4, dt_two, c1, c2] at e3
  have e0 : bor (P ++ [p]) x j = dt (P.length + 2) ((P.map fun r i => r (cs (P.length + 1) j i)) ++ (fun i => p (cs (P.length + 1) j i)) :: [fun i => x (cs (P.length + 1) j i)]) 0 := by
    unfold bor
    simp
  rw [← e0] at e1
  have hpd : dp * dx * L ≠ 0 := Int.mul_ne_zero (Int.mul_ne_zero hp hx) hL
  refine Int.eq_of_mul_eq_mul_left hpd ?_
  rw [e3, ← e1] at e2
  grind
theorem Elim.snoc {P : List Rw} (E : Elim P) {p : Rw} (hp : bor P p P.length ≠ 0) : Elim (P ++ [p]) := by
  have hl : (P ++ [p]).length = P.length + 1 := by simp
  have hL : dt (P ++ [p]).length (P ++ [p]) 0 = bor P p P.length := by rw [hl, bor_self]
  refine ⟨by rw [hL]; exact hp, fun x j hj => ?_, fun x => ?_⟩
  · have := E.step p x j
    have z : bor P p P.length * bor P x j - bor P x P.length * bor P p j = 0 := by
      by_cases h : j = P.length
      · rw [h, Int.mul_comm]; (first | lia | omega)
      · rw [E.z x j (by (first | lia | omega)), E.z p j (by (first | lia | omega))]; (first | lia | omega)
    rw [z] at this
    exact (Int.mul_eq_zero.mp this).resolve_left E.ne
  · obtain ⟨dp, hdp, sp, Sp, ep⟩ := E.sp p
    obtain ⟨dx, hdx, sx, Sx, ex⟩ := E.sp x
    have up : ∀ {s}, Span P s → Span (P ++ [p]) s := fun S => S.mono fun q hq => List.mem_append.mpr (.inl hq)
    refine ⟨dp * dx * dt P.length P 0, Int.mul_ne_zero (Int.mul_ne_zero hdp hdx) E.ne, _, Span.add (-(bor P x P.length * dx * (dp * dt P.length P 0))) (List.mem_append.mpr (.inr List.mem_cons_self)) (Span.lin (bor P p P.length * dp) (-(bor P x P.length * dx)) (up Sx) (up Sp)), fun j => ?_⟩
    rw [hL]
    have h1 := E.step p x j
    have h2 := ep j
    have h3 := ex j
    grind
/-- no row left leads -/
theorem Elim.none {P : List Rw} (E : Elim P) (c : Nat) (hc : c = P.length) : ∀ (todo done : List Rw), 1 ≤ done.length + todo.length → (∀ u ∈ done, ∀ j, j ≤ c → u j = 0) → (∀ r ∈ todo, bor P r c = 0) → dt (P.length + (done.length + todo.length)) (P ++ (done ++ todo)) 0 = 0
  | [], done, h, hd, _ => by
    rw [List.append_nil, List.length_nil, Nat.add_zero, dt_block done.length done P.length 0 P rfl fun q hq j _ hj => hd q hq j (by (first | lia | omega))]
    obtain ⟨m, hm⟩ : ∃ m, done.length = m + 1 := ⟨done.length - 1, by simp at h; (first | lia | omega)⟩
    rw [hm, dt_zero fun q hq => hd q hq _ (by (first | lia | omega))]
    (first | lia | omega)
  | r :: t, done, h, hd, ht => by
    obtain ⟨d, hd0, s, S, e⟩ := E.sp r
    have ih := E.none c hc t (done ++ [fun j => d * bor P r j]) (by simp; (first | lia | omega)) (fun u hu j hj => by
      rcases List.mem_append.mp hu with z | z
      · exact hd u z j hj
      · rw [List.mem_singleton.mp z]
        show d * bor P r j = 0
        by_cases hj' : j = c
        · rw [hj', ht r List.mem_cons_self]; (first | lia | omega)
        · rw [E.z r j (by (first | lia | omega))]; (first | lia | omega)) (fun r' hr' => ht r' (List.mem_cons_of_mem _ hr'))
    have m := dt_mod (n := P.length + (done.length + (r :: t).length)) (c := 0) (A := P ++ done) (B := t) (x := r) (u := fun j => d * bor P r j) (s := fun j => 0 * (fun _ => (0 : Int)) j + (-1) * s j) (e := d * dt P.length P 0) (by simp; (first | lia | omega)) ((Span.lin 0 (-1) .zero S).mono fun q hq => List.mem_append.mpr (.inl hq)) (fun j => by have := e j; simp only; (first | lia | omega))
    simp only [List.append_assoc, List.cons_append, List.nil_append, List.singleton_append, List.length_append, List.length_cons, List.length_nil] at ih m ⊢
    rw [show P.length + (done.length + (0 + 1) + t.length) = P.length + (done.length + (t.length + 1)) by (first | lia | omega)] at ih
    rw [ih] at m
    exact (Int.mul_eq_zero.mp m).resolve_left (Int.mul_ne_zero hd0 E.ne)
/-- a row taken to the top -/
def sgn : Nat → Int
  | 0 => 1
  | k + 1 => - sgn k
theorem dt_move (n c : Nat) (p : Rw) (B : List Rw) : ∀ (A P : List Rw), P.length + A.length + 1 + B.length = n → dt n (P ++ (A ++ p :: B)) c = sgn A.length * dt n (P ++ p :: (A ++ B)) c
  | [], P, _ => by simp [sgn]
  | a :: A, P, h => by
    have h1 := dt_move n c p B A (P ++ [a]) (by simp at h ⊢; (first | lia | omega))
    have h2 := dt_swap n c P a p (A ++ B) (by simp at h ⊢; (first | lia | omega))
    rw [app1, app1] at h1
    rw [List.cons_append, h1, h2, List.length_cons, sgn, List.cons_append]
    grind
def Bdd (M : Nat) (r : Rw) : Prop := ∀ j, (r j).natAbs ≤ M
def bd (M : Nat) : Nat → Nat
  | 0 => 1
  | n + 1 => (n + 1) * (M * bd M n)
theorem lap_bd {f : List Rw → Int} {M B c n : Nat} (hf : ∀ l : List Rw, l.length ≤ n → (∀ r ∈ l, Bdd M r) → (f l).natAbs ≤ B) : ∀ (l pre : List Rw), pre.length + l.length ≤ n + 1 → (∀ r ∈ l, Bdd M r) → (∀ r ∈ pre, Bdd M r) → (lapG f pre l c).natAbs ≤ l.length * (M * B)
  | [], _, _, _, _ => by simp [lapG]
  | r :: t, pre, hl, h1, h2 => by
    have hr := h1 r List.mem_cons_self c
    have a1 := hf (pre ++ t) (by simp at hl ⊢; (first | lia | omega)) fun q hq => by
      rcases List.mem_append.mp hq with z | z
      · exact h2 q z
      · exact h1 q (List.mem_cons_of_mem _ z)
    have a2 := lap_bd (c := c) hf t (pre ++ [r]) (by simp at hl ⊢; (first | lia | omega)) (fun q hq => h1 q (List.mem_cons_of_mem _ hq)) fun q hq => by
      rcases List.mem_append.mp hq with z | z
      · exact h2 q z
      · rw [List.mem_singleton.mp z]; exact h1 r List.mem_cons_self
    have a3 : (r c * f (pre ++ t)).natAbs ≤ M * B := by
      rw [Int.natAbs_mul]
      exact Nat.mul_le_mul hr a1
    rw [lapG, List.length_cons, Nat.add_mul, Nat.one_mul]
    (first | lia | omega)
theorem dt_bd {M : Nat} : ∀ (n c : Nat) (l : List Rw), l.length ≤ n → (∀ r ∈ l, Bdd M r) → (dt n l c).natAbs ≤ bd M n
  | 0, _, _, _, _ => by simp [dt, bd]
  | n + 1, c, l, hl, h => by
    rw [dt, bd]
    have := lap_bd (c := c) (n := n) (f := fun m => dt n m (c + 1)) (fun l' hl' h' => dt_bd n (c + 1) l' hl' h') l [] (by simpa using hl) h (fun _ z => by cases z)
    exact Nat.le_trans this (Nat.mul_le_mul_right _ hl)
theorem bd_mono {M : Nat} (hM : 1 ≤ M) {m n : Nat} (h : m ≤ n) : bd M m ≤ bd M n := by
  induction h with
  | refl => exact Nat.le_refl _
  | @step n _ ih =>
    refine Nat.le_trans ih ?_
    rw [bd]
    have h1 : bd M n ≤ M * bd M n := Nat.le_mul_of_pos_left _ hM
    exact Nat.le_trans h1 (Nat.le_mul_of_pos_left _ (Nat.succ_pos _))
theorem bor_bd {M : Nat} {P : List Rw} {x : Rw} {j : Nat} (hP : ∀ r ∈ P, Bdd M r) (hx : Bdd M x) : (bor P x j).natAbs ≤ bd M (P.length + 1) := by
  refine dt_bd _ _ _ (by simp) fun r hr => ?_
  obtain ⟨q, hq, rfl⟩ := List.mem_map.mp hr
  rcases List.mem_append.mp hq with z | z
  · exact fun i => hP q z _
  · rw [List.mem_singleton.mp z]; exact fun i => hx _
def rowAt (P : List Rw) (m : Nat) (r : Rw) : List Int := (List.range m).map fun j => bor P r (P.length + j)
theorem rowAt_len (P : List Rw) (m : Nat) (r : Rw) : (rowAt P m r).length = m := by simp [rowAt]
theorem rowAt_get {P : List Rw} {m : Nat} {r : Rw} {j : Nat} (h : j < m) : (rowAt P m r).getD j 0 = bor P r (P.length + j) := by
  unfold rowAt
  rw [List.getD_eq_getElem?_getD, List.getElem?_map, List.getElem?_range h]
  rfl
theorem Elim.clear {P : List Rw} (E : Elim P) (p r : Rw) (j : Nat) : (bor P p P.length * bor P r j - bor P r P.length * bor P p j).fdiv (dt P.length P 0) = bor (P ++ [p]) r j := by
  rw [← E.step p r j]
  exact Int.mul_fdiv_cancel_left _ E.ne
theorem bor_nil (r : Rw) (j : Nat) : bor [] r j = r j := by simp [bor, dt, lapG, cs]
def fn (l : List Int) : Rw := fun j => l.getD j 0
theorem rowAt_nil {l : List Int} {n : Nat} (h : l.length = n) : rowAt [] n (fn l) = l := by
  refine List.ext_getElem (by rw [rowAt_len, h]) fun i h1 h2 => ?_
  have e := rowAt_get (P := []) (m := n) (r := fn l) (j := i) (by (first | lia | omega))
  rw [List.getD_eq_getElem?_getD, List.getElem?_eq_getElem h1, bor_nil, List.length_nil, Nat.zero_add] at e
  refine Eq.trans e ?_
  unfold fn
  rw [List.getD_eq_getElem?_getD, List.getElem?_eq_getElem h2]
  rfl
theorem sgn_two : ∀ k : Nat, sgn (k + 2) = sgn k
  | k => by rw [sgn, sgn]; (first | lia | omega)
theorem sgn_par : ∀ k : Nat, sgn k = if k % 2 = 1 then -1 else 1
  | 0 => rfl
  | 1 => rfl
  | k + 2 => by rw [sgn_two, sgn_par k, show (k + 2) % 2 = k % 2 by (first | lia | omega)]
theorem dt_xch (n c : Nat) (A B C : List Rw) (x y : Rw) (h : A.length + B.length + C.length + 2 = n) : dt n (A ++ x :: (B ++ y :: C)) c = - dt n (A ++ y :: (B ++ x :: C)) c := by
  have h1 := dt_move n c y C (x :: B) A (by simp; (first | lia | omega))
  have h2 := dt_move n c x C B (A ++ [y]) (by simp; (first | lia | omega))
  rw [app1, app1] at h2
  rw [List.cons_append, List.length_cons, sgn, List.cons_append] at h1
  rw [h1, h2]
  grind
theorem dt_lower (n c : Nat) : ∀ (l : List (Rw × Rw)) (A : List Rw), A.length + l.length = n → (∀ (i : Nat) (h : i < l.length), ∃ s, Span (A ++ (l.take i).map (·.2)) s ∧ ∀ j, (l[i]).1 j = (l[i]).2 j + s j) → dt n (A ++ l.map (·.1)) c = dt n (A ++ l.map (·.2)) c
  | [], _, _, _ => rfl
  | (x, u) :: t, A, hl, h => by
    obtain ⟨s, S, e⟩ := h 0 (by simp)
    simp at S e
    have m := dt_mod (n := n) (c := c) (A := A) (B := t.map (·.1)) (x := x) (u := u) (s := s) (e := 1) (by simp at hl ⊢; (first | lia | omega)) S (fun j => by rw [Int.one_mul]; exact e j)
    rw [Int.one_mul] at m
    have ih := dt_lower n c t (A ++ [u]) (by simp at hl ⊢; (first | lia | omega)) fun i hi => by
      obtain ⟨s', S', e'⟩ := h (i + 1) (by simp; exact hi)
      refine ⟨s', ?_, fun j => by have := e' j; simpa using this⟩
      simpa using S'
    rw [app1, app1] at ih
    rw [List.map_cons, List.map_cons, m, ih]
def diagP : List Rw → Nat → Int
  | [], _ => 1
  | r :: t, c => r c * diagP t (c + 1)
theorem dt_upper : ∀ (l : List Rw) (c : Nat), (∀ (i : Nat) (h : i < l.length), ∀ j, c ≤ j → j < c + i → (l[i]) j = 0) → dt l.length l c = diagP l c
  | [], _, _ => rfl
  | r :: t, c, h => by
    have b := dt_block t.length t 1 c [r] rfl fun q hq j h1 h2 => by
      obtain ⟨i, hi, rfl⟩ := List.getElem_of_mem hq
      exact h (i + 1) (by simp; exact hi) j h1 (by (first | lia | omega))
    rw [List.length_cons, Nat.add_comm, ← List.singleton_append, b, dt_upper t (c + 1) fun i hi j h1 h2 => h (i + 1) (by simp; exact hi) j (by (first | lia | omega)) (by (first | lia | omega)), List.singleton_append, diagP]
    simp [dt, lapG]
end Com

set_option Elab.async false
set_option linter.all false
set_option maxRecDepth 100000
set_option maxHeartbeats 4000000
namespace Law
open PySem L2 Com
def top (i : Nat) : Stmt := PySem.Challenge.pw_marblerun_k16_determinants_made.main.body.getD i (.Pass ⟨0, 0, 0, 0⟩)
abbrev s_det : Stmt := top 1
abbrev s_cleared : Stmt := top 2
abbrev s_drawn : Stmt := top 4
abbrev s_lower : Stmt := top 5
abbrev s_great : Stmt := top 6
abbrev s_upper : Stmt := top 7
abbrev s_law : Stmt := top 8
set_option genInjectivity false in
set_option genSizeOfSpec false in
structure Adr where
  f_det : Addr
  fd_det : FuncData
  f_cleared : Addr
  fd_cleared : FuncData
  f_drawn : Addr
  fd_drawn : FuncData
  f_lower : Addr
  fd_lower : FuncData
  f_great : Addr
  fd_great : FuncData
  f_upper : Addr
  fd_upper : FuncData
  f_law : Addr
  fd_law : FuncData
structure Txt (K : PySem.W.Frag) (mg : Str → Option Value) (A : Adr) : Prop where
  F_det : Fun K "det" "det" s_det A.f_det A.fd_det
  m_det : mg "det" = some (.ref A.f_det)
  k_det : PySem.W.keepIn K (.ref A.f_det) = true
  b_det : Binds K A.fd_det ["square"] []
  F_cleared : Fun K "cleared" "cleared" s_cleared A.f_cleared A.fd_cleared
  m_cleared : mg "cleared" = some (.ref A.f_cleared)
  k_cleared : PySem.W.keepIn K (.ref A.f_cleared) = true
  b_cleared : Binds K A.fd_cleared ["row", "top", "lead"] []
  F_drawn : Fun K "_law_drawn" "_law_drawn" s_drawn A.f_drawn A.fd_drawn
  m__law_drawn : mg "_law_drawn" = some (.ref A.f_drawn)
  k__law_drawn : PySem.W.keepIn K (.ref A.f_drawn) = true
  b__law_drawn : Binds K A.fd_drawn ["script", "k", "many"] []
  F_lower : Fun K "_law_lower" "_law_lower" s_lower A.f_lower A.fd_lower
  m__law_lower : mg "_law_lower" = some (.ref A.f_lower)
  k__law_lower : PySem.W.keepIn K (.ref A.f_lower) = true
  b__law_lower : Binds K A.fd_lower ["script", "j", "k"] []
  F_great : Fun K "_law_great" "_law_great" s_great A.f_great A.fd_great
  m__law_great : mg "_law_great" = some (.ref A.f_great)
  k__law_great : PySem.W.keepIn K (.ref A.f_great) = true
  b__law_great : Binds K A.fd_great ["script", "k"] []
  F_upper : Fun K "_law_upper" "_law_upper" s_upper A.f_upper A.fd_upper
  m__law_upper : mg "_law_upper" = some (.ref A.f_upper)
  k__law_upper : PySem.W.keepIn K (.ref A.f_upper) = true
  b__law_upper : Binds K A.fd_upper ["script", "j", "k"] []
  F_law : Fun K "law" "law" s_law A.f_law A.fd_law
  m_law : mg "law" = some (.ref A.f_law)
  k_law : PySem.W.keepIn K (.ref A.f_law) = true
  b_law : Binds K A.fd_law ["script"] []
  n_len : mg "len" = none
  n_range : mg "range" = none
  n_isinstance : mg "isinstance" = none
  n_int : mg "int" = none
  n_bool : mg "bool" = none
  n_sum : mg "sum" = none
  n_enumerate : mg "enumerate" = none
  q_int_bool : PySem.W.kitOne K (.type "int") (.type "bool") = some false

def spDrawn (K : PySem.W.Frag) : Sp := fun vs H Q _ => ∃ (a : Addr) (ns : List Int) (k many : Int), vs = [.ref a, .int k, .int many] ∧ SqL K H a (ns.map V.int) ∧ 0 < many ∧ -(2 ^ 62) < k ∧ k < 2 ^ 62 ∧ Q (.int (drawn ns k many)) H
theorem at_ints {ns : List Int} {i : Int} (h0 : 0 ≤ i) (h1 : i < (ns.length : Int)) : atI (ns.map V.int) i = some (V.int (ns.getD i.toNat 0)) := by
  obtain ⟨n, rfl⟩ : ∃ n : Nat, i = (n : Int) := ⟨i.toNat, by (first | lia | omega)⟩
  have hl : n < ns.length := by (first | lia | omega)
  refine atI_nat ?_
  rw [List.getElem?_map, List.getElem?_eq_getElem hl]
  simp [List.getElem?_eq_getElem hl]
theorem at_list {α : Type} {xs : List α} {i : Int} {n : Nat} {x : α} (h0 : i = (n : Int)) (h1 : xs[n]? = some x) : atI xs i = some x := by rw [h0]; exact atI_nat h1
theorem ixN_in {n : Nat} {i : Int} (h0 : 0 ≤ i) (h1 : i < (n : Int)) : ixN n i = some i.toNat := by
  unfold ixN
  rw [if_pos h0, if_pos h1]
theorem small12 {n : Nat} (h : n ≤ 100) : n ≤ sizeLine := Nat.le_of_lt (small1000 (by (first | lia | omega)))

theorem mat_of {H H' : Hp} {R : Addr} {as : List Addr} {rows : List (List Int)} (hlen : as.length = rows.length) (nd : as.Nodup) (sm : Same H H') (hrow : ∀ (i : Nat) a l, as[i]? = some a → (rows.map fun r => r.map V.int)[i]? = some l → H' a = some (.lst l)) (hR : H' R = none) : Mat (upd H' R (.lst (as.map V.ref))) R as rows := by
  have look : ∀ (i : Nat) a r, as[i]? = some a → rows[i]? = some r → H' a = some (.lst (r.map V.int)) := fun i a r e1 e2 => hrow i a _ e1 (by rw [List.getElem?_map, e2]; rfl)
  have nR : R ∉ as := fun z => by
    obtain ⟨i, hi, e⟩ := List.getElem_of_mem z
    have hi2 : i < rows.length := by (first | lia | omega)
    have := look i R rows[i] (by rw [List.getElem?_eq_getElem hi, e]) (List.getElem?_eq_getElem hi2)
    rw [hR] at this
    cases this
  refine ⟨upd_same, hlen, fun i a r e1 e2 => ?_, List.nodup_cons.mpr ⟨nR, nd⟩⟩
  rw [upd_ne (fun z => nR (by rw [← z]; exact List.mem_of_getElem? e1))]
  exact look i a r e1 e2

def spLaw (K : PySem.W.Frag) : Sp := fun vs H Q _ => ∃ (a : Addr) (ns : List Int), vs = [.ref a] ∧ SqL K H a (ns.map V.int) ∧ ns.length ≤ 63 ∧ ∀ H', Q (.bl true) H'
theorem getD_get {α : Type} {l : List α} {i : Nat} {d : α} (h : i < l.length) : l.getD i d = l[i] := by simp [List.getElem?_eq_getElem h]
theorem _root_.Com.Mat.at {H : Hp} {R : Addr} {as : List Addr} {rows : List (List Int)} (M : Mat H R as rows) {z : Int} (h0 : 0 ≤ z) (h1 : z < (rows.length : Int)) : ∃ c, atI (as.map V.ref) z = some (.ref c) ∧ H c = some (.lst ((rows.getD z.toNat []).map V.int)) ∧ as[z.toNat]? = some c := by
  have h : z.toNat < rows.length := by (first | lia | omega)
  obtain ⟨c, ec, hc, _⟩ := M.get h
  refine ⟨c, at_list (n := z.toNat) (by (first | lia | omega)) (by rw [List.getElem?_map, ec]; rfl), ?_, ec⟩
  rw [getD_get h]
  exact hc
theorem filt_snoc (p : Nat → Bool) (i : Nat) : (List.range (i + 1)).filter p = (List.range i).filter p ++ if p i = true then [i] else [] := by
  rw [List.range_succ, List.filter_append]
  simp [List.filter_cons]
abbrev M30 : Nat := 10 ^ 30
def BL (r : List Int) : Prop := ∀ e ∈ r, e.natAbs ≤ M30
theorem BL.fn {r : List Int} (h : BL r) : Bdd M30 (fn r) := fun j => by
  unfold Com.fn
  rw [List.getD_eq_getElem?_getD]
  cases e : r[j]? with
  | none => exact Nat.zero_le _
  | some z => exact h z (List.mem_of_getElem? e)
theorem cut_take {xs : List V} {i : Nat} (h : i ≤ xs.length) : cutV xs none (some (i : Int)) = xs.take i := by
  have e : HT.sIx xs.length xs.length (some (i : Int)) = i := by
    unfold HT.sIx
    simp
    rw [if_neg (by (first | lia | omega))]
    (first | lia | omega)
  unfold cutV
  rw [e, HT.sIx_none]
  simp
theorem cut_drop {xs : List V} {i : Nat} (h : i ≤ xs.length) : cutV xs (some (i : Int)) none = xs.drop i := by
  have e : HT.sIx xs.length 0 (some (i : Int)) = i := by
    unfold HT.sIx
    simp
    rw [if_neg (by (first | lia | omega))]
    (first | lia | omega)
  unfold cutV
  rw [e, HT.sIx_none]
  exact List.take_of_length_le (by rw [List.length_drop]; (first | lia | omega))
def clr (r t : List Int) (l : Int) : List Int := (List.range (r.length - 1)).map fun (j : Nat) => (t.getD 0 0 * r.getD (j + 1) 0 - r.getD 0 0 * t.getD (j + 1) 0).fdiv l
def CBs (r : List Int) : Prop := ∀ i, CB (r.getD i 0)
def spCleared (K : PySem.W.Frag) : Sp := fun vs H Q _ => ∃ (c d : Addr) (r t : List Int) (l : Int), vs = [.ref c, .ref d, .int l] ∧ SqL K H c (r.map V.int) ∧ SqL K H d (t.map V.int) ∧ t.length = r.length ∧ 1 ≤ r.length ∧ r.length ≤ 12 ∧ CBs r ∧ CBs t ∧ l ≠ 0 ∧ CB l ∧
  ∀ D, H D = none → Q (.ref D) (upd H D (.lst ((clr r t l).map V.int)))
structure Sq (n : Nat) (rows : List (List Int)) : Prop where
  len : rows.length = n
  row : ∀ r ∈ rows, r.length = n
  bl : ∀ r ∈ rows, BL r
def spDet (K : PySem.W.Frag) : Sp := fun vs H Q _ => ∃ (R : Addr) (as : List Addr) (rows : List (List Int)) (n : Nat), vs = [.ref R] ∧ Mat H R as rows ∧ Sq n rows ∧ n ≤ 12 ∧ ∀ H', Same H H' → Q (.int (dt n (rows.map Com.fn) 0)) H'
theorem bd_cb {i : Int} {m : Nat} (h : i.natAbs ≤ bd M30 m) (hm : m ≤ 12) : CB i := by
  have h1 : bd M30 m ≤ bd M30 12 := bd_mono (by decide +kernel) hm
  have h2 : bd M30 12 < 2 ^ 4000 := by decide +kernel
  exact Nat.lt_of_le_of_lt (Nat.le_trans h h1) h2
theorem rowAt_cb {P : List Rw} {m : Nat} {r : Rw} (hP : ∀ r ∈ P, Bdd M30 r) (hx : Bdd M30 r) (hn : P.length < 12) : CBs (rowAt P m r) := fun i => by
  by_cases h : i < m
  · rw [rowAt_get h]
    exact bd_cb (bor_bd hP hx) (by (first | lia | omega))
  · rw [List.getD_eq_getElem?_getD, List.getElem?_eq_none (by rw [rowAt_len]; (first | lia | omega))]
    exact Nat.two_pow_pos _
theorem clr_rowAt {P : List Rw} (E : Elim P) (m : Nat) (p r : Rw) : clr (rowAt P (m + 1) r) (rowAt P (m + 1) p) (dt P.length P 0) = rowAt (P ++ [p]) m r := by
  refine List.ext_getElem (by rw [rowAt_len]; simp [clr, rowAt_len]) fun i h1 h2 => ?_
  rw [rowAt_len] at h2
  have e := rowAt_get (P := P ++ [p]) (r := r) h2
  rw [List.getD_eq_getElem?_getD, List.getElem?_eq_getElem (by rw [rowAt_len]; exact h2)] at e
  refine Eq.trans ?_ e.symm
  have e2 : (clr (rowAt P (m + 1) r) (rowAt P (m + 1) p) (dt P.length P 0)).getD i 0 = bor (P ++ [p]) r ((P ++ [p]).length + i) := by
    unfold clr
    rw [rowAt_len, Nat.add_sub_cancel, List.getD_eq_getElem?_getD, List.getElem?_map, List.getElem?_range h2]
    show ((rowAt P (m + 1) p).getD 0 0 * (rowAt P (m + 1) r).getD (i + 1) 0 - (rowAt P (m + 1) r).getD 0 0 * (rowAt P (m + 1) p).getD (i + 1) 0).fdiv _ = _
    rw [rowAt_get (by (first | lia | omega)), rowAt_get (by (first | lia | omega)), rowAt_get (by (first | lia | omega)), rowAt_get (by (first | lia | omega)), Nat.add_zero, E.clear, List.length_append, List.length_singleton, show P.length + (i + 1) = P.length + 1 + i by (first | lia | omega)]
  rw [List.getD_eq_getElem?_getD, List.getElem?_eq_getElem h1] at e2
  exact e2

def cellB (ns : List Int) (k : Int) : Int := if 0 < (ns.length : Int) then ns.getD (k % (ns.length : Int)).toNat 0 else 7
def lowB (ns : List Int) (j k : Int) : Int := if j = k then 1 else if j < k then 0 else drawn ns (20 + 12 * j + k) 5 - 2
def greatB (ns : List Int) (k : Int) : Int := (cellB ns k * (k + 3) + k) % 10 ^ 27 * (1 - 2 * drawn ns (420 + k) 2)
def upB (ns : List Int) (j k : Int) : Int := if j ≤ k ∧ drawn ns 3 3 = 1 then greatB ns (12 * j + k) else if j = k then drawn ns (200 + j) 8 - 2 else if j > k then 0 else drawn ns (220 + 12 * j + k) 5 - 2
theorem lowB_bd (ns : List Int) (j k : Int) : (lowB ns j k).natAbs ≤ 2 := by
  unfold lowB
  have a1 := drawn_nn ns (20 + 12 * j + k) (many := 5) (by decide)
  have a2 := drawn_lt ns (20 + 12 * j + k) (many := 5) (by decide)
  split
  · decide
  · split
    · decide
    · (first | lia | omega)
theorem greatB_bd (ns : List Int) (k : Int) : (greatB ns k).natAbs ≤ 1000000000000000000000000000 := by
  unfold greatB
  have b1 := drawn_nn ns (420 + k) (many := 2) (by decide)
  have b2 := drawn_lt ns (420 + k) (many := 2) (by decide)
  have c1 := Int.emod_nonneg (cellB ns k * (k + 3) + k) (show (10 ^ 27 : Int) ≠ 0 by decide)
  have c2 := Int.emod_lt_of_pos (cellB ns k * (k + 3) + k) (show (0 : Int) < 10 ^ 27 by decide)
  generalize (cellB ns k * (k + 3) + k) % 10 ^ 27 = z at c1 c2
  generalize drawn ns (420 + k) 2 = d at b1 b2
  rcases (show d = 0 ∨ d = 1 by (first | lia | omega)) with rfl | rfl
  · simp; (first | lia | omega)
  · simp; (first | lia | omega)
theorem upB_bd (ns : List Int) (j k : Int) : (upB ns j k).natAbs ≤ 1000000000000000000000000000 := by
  unfold upB
  have a1 := drawn_nn ns (200 + j) (many := 8) (by decide)
  have a2 := drawn_lt ns (200 + j) (many := 8) (by decide)
  have b1 := drawn_nn ns (220 + 12 * j + k) (many := 5) (by decide)
  have b2 := drawn_lt ns (220 + 12 * j + k) (many := 5) (by decide)
  split
  · exact greatB_bd ns _
  · split
    · (first | lia | omega)
    · split
      · decide
      · (first | lia | omega)
theorem upB_zero (ns : List Int) {j k : Int} (h : k < j) : upB ns j k = 0 := by
  unfold upB
  rw [if_neg (by (first | lia | omega)), if_neg (by (first | lia | omega)), if_pos (by (first | lia | omega))]
theorem lowB_one (ns : List Int) (j : Int) : lowB ns j j = 1 := if_pos rfl
theorem lowB_zero (ns : List Int) {j k : Int} (h : j < k) : lowB ns j k = 0 := by
  unfold lowB
  rw [if_neg (by (first | lia | omega)), if_pos h]
def mkM (n : Nat) (f : Nat → Nat → Int) : List (List Int) := (List.range n).map fun j => (List.range n).map fun k => f j k
theorem mkM_len (n : Nat) (f : Nat → Nat → Int) : (mkM n f).length = n := by simp [mkM]
theorem mkM_get {n : Nat} {f : Nat → Nat → Int} {j : Nat} (h : j < n) : (mkM n f).getD j [] = (List.range n).map fun k => f j k := by
  unfold mkM
  rw [getD_get (by simp; exact h), List.getElem_map, List.getElem_range]
theorem rowM_get {n : Nat} {g : Nat → Int} {k : Nat} (h : k < n) : ((List.range n).map g).getD k 0 = g k := by
  rw [getD_get (by simp; exact h), List.getElem_map, List.getElem_range]
theorem rowM_out {n : Nat} {g : Nat → Int} {k : Nat} (h : n ≤ k) : ((List.range n).map g).getD k 0 = 0 := by
  rw [List.getD_eq_getElem?_getD, List.getElem?_eq_none (by simp; exact h)]
  rfl
def low16 (ns : List Int) (j k : Nat) : Int := lowB ns (0 + (j : Int)) (0 + (k : Int))
def up16 (ns : List Int) (j k : Nat) : Int := upB ns (0 + (j : Int)) (0 + (k : Int))
def pr16 (ns : List Int) (n : Nat) (j k : Nat) : Int := ((List.range n).map fun m => low16 ns j m * up16 ns m k).sum
theorem sum_bd {α : Type} (f : α → Int) (B : Nat) : ∀ (l : List α), (∀ x ∈ l, (f x).natAbs ≤ B) → ((l.map f).sum).natAbs ≤ l.length * B
  | [], _ => by simp
  | x :: l, h => by
    rw [List.map_cons, List.sum_cons, List.length_cons, Nat.succ_mul]
    have h1 := h x List.mem_cons_self
    have h2 := sum_bd f B l fun y hy => h y (List.mem_cons_of_mem _ hy)
    have h3 := Int.natAbs_add_le (f x) (l.map f).sum
    generalize (f x + (l.map f).sum).natAbs = q at *
    (first | lia | omega)
theorem pr16_bd (ns : List Int) {n : Nat} (hn : n ≤ 12) (j k : Nat) : (pr16 ns n j k).natAbs ≤ M30 := by
  unfold pr16
  have := sum_bd (fun m => low16 ns j m * up16 ns m k) (2 * 1000000000000000000000000000) (List.range n) fun m _ => by
    rw [Int.natAbs_mul]
    exact Nat.mul_le_mul (lowB_bd ns _ _) (upB_bd ns _ _)
  rw [List.length_range] at this
  have h2 : n * (2 * 1000000000000000000000000000) ≤ 12 * (2 * 1000000000000000000000000000) := Nat.mul_le_mul hn (Nat.le_refl _)
  show _ ≤ 1000000000000000000000000000000
  (first | lia | omega)
/-- a sum of rows of A lies in A's span -/
theorem span_sum (c : Nat → Int) (r : Nat → Rw) (A : List Rw) : ∀ (l : List Nat), (∀ m ∈ l, r m ∈ A) → Span A fun j => (l.map fun m => c m * r m j).sum
  | [], _ => by simpa using Span.zero
  | m :: l, h => by
    have ih := span_sum c r A l fun x hx => h x (List.mem_cons_of_mem _ hx)
    have := Span.add (c m) (h m List.mem_cons_self) ih
    simpa using this
theorem sum_zero {α : Type} (f : α → Int) : ∀ (l : List α), (∀ x ∈ l, f x = 0) → (l.map f).sum = 0
  | [], _ => rfl
  | x :: l, h => by
    rw [List.map_cons, List.sum_cons, h x List.mem_cons_self, sum_zero f l fun y hy => h y (List.mem_cons_of_mem _ hy)]
    rfl
theorem range_cut {n i : Nat} (h : i < n) : List.range n = List.range i ++ i :: (List.range (n - i - 1)).map (fun x => i + 1 + x) := by
  have e : n = i + (1 + (n - i - 1)) := by (first | lia | omega)
  conv => lhs; rw [e, List.range_add]
  congr 1
  rw [List.range_add]
  simp [Nat.add_assoc]
theorem diagP_snoc : ∀ (l : List Rw) (r : Rw) (c : Nat), diagP (l ++ [r]) c = diagP l c * r (c + l.length)
  | [], r, c => by simp [diagP]
  | x :: l, r, c => by
    rw [List.cons_append, diagP, diagP_snoc l r (c + 1), diagP, List.length_cons, Int.mul_assoc, Nat.add_assoc, Nat.add_comm 1]
def hiF (ns : List Int) (n j : Nat) : Rw := Com.fn ((List.range n).map fun k => up16 ns j k)
def prF (ns : List Int) (n j : Nat) : Rw := Com.fn ((List.range n).map fun k => pr16 ns n j k)
def due16 (ns : List Int) (n i : Nat) : Int := diagP ((List.range i).map (hiF ns n)) 0
theorem due16_succ (ns : List Int) {n i : Nat} (h : i < n) : due16 ns n (i + 1) = due16 ns n i * up16 ns i i := by
  unfold due16
  rw [List.range_succ, List.map_append, List.map_singleton, diagP_snoc, List.length_map, List.length_range, Nat.zero_add]
  congr 1
  exact rowM_get h
theorem det16 (ns : List Int) (n : Nat) : dt n ((mkM n (pr16 ns n)).map Com.fn) 0 = due16 ns n n := by
  have e1 : (mkM n (pr16 ns n)).map Com.fn = ((List.range n).map fun j => (prF ns n j, hiF ns n j)).map (·.1) := by
    unfold mkM
    rw [List.map_map, List.map_map]
    rfl
  have e2 : (List.range n).map (hiF ns n) = ((List.range n).map fun j => (prF ns n j, hiF ns n j)).map (·.2) := by
    rw [List.map_map]
    rfl
  have h := dt_lower n 0 ((List.range n).map fun j => (prF ns n j, hiF ns n j)) [] (by simp) (fun i hi => by
    have hi' : i < n := by simpa using hi
    refine ⟨fun j => ((List.range i).map fun m => low16 ns i m * hiF ns n m j).sum, ?_, fun j => ?_⟩
    · rw [List.nil_append, ← List.map_take, List.map_map, List.take_range, Nat.min_eq_left (by (first | lia | omega))]
      exact span_sum (low16 ns i) (hiF ns n) _ (List.range i) fun m hm => List.mem_map.mpr ⟨m, hm, rfl⟩
    · rw [List.getElem_map, List.getElem_range]
      show prF ns n i j = hiF ns n i j + ((List.range i).map fun m => low16 ns i m * hiF ns n m j).sum
      by_cases hj : j < n
      · have ep : prF ns n i j = pr16 ns n i j := rowM_get hj
        have eh : ∀ m, hiF ns n m j = up16 ns m j := fun m => rowM_get hj
        rw [ep, eh]
        unfold pr16
        rw [range_cut hi', List.map_append, List.sum_append, List.map_cons, List.sum_cons, List.map_map]
        have z : ((List.range (n - i - 1)).map ((fun m => low16 ns i m * up16 ns m j) ∘ fun x => i + 1 + x)).sum = 0 := sum_zero _ _ fun x _ => by
          show low16 ns i (i + 1 + x) * _ = 0
          unfold low16
          rw [lowB_zero ns (by (first | lia | omega)), Int.zero_mul]
        rw [z]
        have o : low16 ns i i = 1 := lowB_one ns _
        rw [o]
        have : ((List.range i).map fun m => low16 ns i m * hiF ns n m j) = (List.range i).map fun m => low16 ns i m * up16 ns m j := List.map_congr_left fun m _ => by rw [eh]
        rw [this]
        (first | lia | omega)
      · have ep : prF ns n i j = 0 := rowM_out (by (first | lia | omega))
        have eh : ∀ m, hiF ns n m j = 0 := fun m => rowM_out (by (first | lia | omega))
        rw [ep, eh, sum_zero _ _ fun m _ => by rw [eh, Int.mul_zero]]
        rfl)
  rw [List.nil_append, List.nil_append, ← e1, ← e2] at h
  rw [h]
  have u := dt_upper ((List.range n).map (hiF ns n)) 0 fun i hi j _ hj => by
    have hi' : i < n := by simpa using hi
    rw [List.getElem_map, List.getElem_range]
    have : hiF ns n i j = up16 ns i j := rowM_get (by (first | lia | omega))
    rw [this]
    exact upB_zero ns (by (first | lia | omega))
  rw [List.length_map, List.length_range] at u
  exact u
theorem due16_cb (ns : List Int) (n : Nat) : ∀ i, i ≤ 12 → (due16 ns n i).natAbs ≤ (1000000000000000000000000000 : Nat) ^ i
  | 0, _ => by simp [due16, diagP]
  | i + 1, h => by
    unfold due16
    rw [List.range_succ, List.map_append, List.map_singleton, diagP_snoc, List.length_map, List.length_range, Int.natAbs_mul, Nat.pow_succ]
    refine Nat.mul_le_mul (due16_cb ns n i (by (first | lia | omega))) ?_
    by_cases hj : 0 + i < n
    · have : hiF ns n i (0 + i) = up16 ns i (0 + i) := rowM_get hj
      rw [this]
      exact upB_bd ns _ _
    · have : hiF ns n i (0 + i) = 0 := rowM_out (by (first | lia | omega))
      rw [this]
      decide
theorem due16_CB (ns : List Int) (n : Nat) {i : Nat} (h : i ≤ 12) : CB (due16 ns n i) := by
  have h1 := due16_cb ns n i h
  have h2 : (1000000000000000000000000000 : Nat) ^ i ≤ 1000000000000000000000000000 ^ 12 := Nat.pow_le_pow_right (by decide) h
  have h3 : (1000000000000000000000000000 : Nat) ^ 12 < 2 ^ 4000 := by decide +kernel
  exact Nat.lt_of_le_of_lt (Nat.le_trans h1 h2) h3
theorem small_CB {z : Int} {B : Nat} (h : z.natAbs ≤ B) (hB : B ≤ 1000000000000000000000000000) : CB z := by
  have h3 : (1000000000000000000000000000 : Nat) < 2 ^ 4000 := by decide +kernel
  exact Nat.lt_of_le_of_lt (Nat.le_trans h hB) h3
theorem set_mid {α : Type} (A : List α) (x y : α) (B : List α) : (A ++ x :: B).set A.length y = A ++ y :: B := by
  rw [List.set_append_right _ _ (Nat.le_refl _), Nat.sub_self]
  rfl
theorem swap_form {α : Type} (l : List α) {i j : Nat} (hij : i < j) (hj : j < l.length) : ∃ A B C, ∃ (hi : i < l.length), l = A ++ l[i] :: (B ++ l[j] :: C) ∧ (l.set i l[j]).set j l[i] = A ++ l[j] :: (B ++ l[i] :: C) ∧ A.length + B.length + C.length + 2 = l.length := by
  have hi : i < l.length := by (first | lia | omega)
  have e2 : l.drop (i + 1) = (l.drop (i + 1)).take (j - i - 1) ++ l[j] :: l.drop (j + 1) := by
    have h3 : (l.drop (i + 1)).drop (j - i - 1) = l[j] :: l.drop (j + 1) := by
      rw [List.drop_drop, show i + 1 + (j - i - 1) = j by (first | lia | omega)]
      exact List.drop_eq_getElem_cons hj
    rw [← h3, List.take_append_drop]
  have e1 : l = l.take i ++ l[i] :: ((l.drop (i + 1)).take (j - i - 1) ++ l[j] :: l.drop (j + 1)) := by
    rw [← e2, ← List.drop_eq_getElem_cons hi, List.take_append_drop]
  have hA : (l.take i).length = i := by simp; (first | lia | omega)
  have hB : ((l.drop (i + 1)).take (j - i - 1)).length = j - i - 1 := by simp; (first | lia | omega)
  refine ⟨l.take i, (l.drop (i + 1)).take (j - i - 1), l.drop (j + 1), hi, e1, ?_, ?_⟩
  · generalize l[i] = x at e1
    generalize l[j] = y at e1
    generalize l.take i = A at e1 hA
    generalize (l.drop (i + 1)).take (j - i - 1) = B at e1 hB
    generalize l.drop (j + 1) = C at e1
    rw [e1]
    have s1 := set_mid A x y (B ++ y :: C)
    rw [hA] at s1
    rw [s1]
    have s2 := set_mid (A ++ y :: B) y x C
    rw [List.length_append, List.length_cons, hA, hB, show i + (j - i - 1 + 1) = j by (first | lia | omega)] at s2
    rw [List.append_assoc, List.cons_append, List.append_assoc, List.cons_append] at s2
    exact s2
  · have := congrArg List.length e1
    simp only [List.length_append, List.length_cons] at this
    rw [hA, hB] at this ⊢
    (first | lia | omega)
theorem nodup_swap {α : Type} (l : List α) {i j : Nat} (hij : i < j) (hj : j < l.length) (hi : i < l.length) : ((l.set i l[j]).set j l[i]).Perm l := by
  obtain ⟨A, B, C, _, e1, e2, _⟩ := swap_form l hij hj
  rw [e2]
  conv => rhs; rw [e1]
  refine List.Perm.append_left A ?_
  exact (List.perm_middle.cons _).trans ((List.Perm.swap _ _ _).trans (List.perm_middle.symm.cons _))
theorem mat_swap {H : Hp} {R : Addr} {as : List Addr} {rows : List (List Int)} {i j : Nat} (M : Mat H R as rows) (hij : i < j) (hj : j < rows.length) (hi : i < rows.length) (hja : j < as.length) (hia : i < as.length) :
    Mat (upd H R (.lst (((as.set i as[j]).set j as[i]).map V.ref))) R ((as.set i as[j]).set j as[i]) ((rows.set i rows[j]).set j rows[i]) := by
  have nd := List.nodup_cons.mp M.nd
  have pm := nodup_swap as hij hja hia
  refine ⟨upd_same, by simp; exact M.len, fun k a r e1 e2 => ?_, ?_⟩
  · have ha : a ∈ (as.set i as[j]).set j as[i] := List.mem_of_getElem? e1
    have na : a ≠ R := fun z => nd.1 (by rw [← z]; exact pm.mem_iff.mp ha)
    rw [upd_ne na]
    rw [List.getElem?_set] at e1 e2
    rw [List.length_set] at e1 e2
    by_cases k1 : j = k
    · rw [if_pos k1, if_pos (by (first | lia | omega))] at e1 e2
      cases e1
      cases e2
      exact M.row i _ _ (List.getElem?_eq_getElem hia) (List.getElem?_eq_getElem hi)
    · rw [if_neg k1, List.getElem?_set] at e1 e2
      by_cases k2 : i = k
      · rw [if_pos k2, if_pos (by (first | lia | omega))] at e1 e2
        cases e1
        cases e2
        exact M.row j _ _ (List.getElem?_eq_getElem hja) (List.getElem?_eq_getElem hj)
      · rw [if_neg k2] at e1 e2
        exact M.row k a r e1 e2
  · rw [List.nodup_cons]
    exact ⟨fun z => nd.1 (pm.mem_iff.mp z), pm.nodup_iff.mpr nd.2⟩
theorem dt_swapped {rows : List (List Int)} {n i j : Nat} (hl : rows.length = n) (hij : i < j) (hj : j < rows.length) (hi : i < rows.length) : dt n (((rows.set i rows[j]).set j rows[i]).map Com.fn) 0 = - dt n (rows.map Com.fn) 0 := by
  obtain ⟨A, B, C, _, e1, e2, e3⟩ := swap_form rows hij hj
  rw [e2]
  conv => rhs; rw [e1]
  simp only [List.map_append, List.map_cons]
  have := dt_xch n 0 (A.map Com.fn) (B.map Com.fn) (C.map Com.fn) (Com.fn rows[i]) (Com.fn rows[j]) (by simp; (first | lia | omega))
  rw [this]
  (first | lia | omega)
theorem sq_swapped {rows : List (List Int)} {n i j : Nat} (S : Sq n rows) (hij : i < j) (hj : j < rows.length) (hi : i < rows.length) : Sq n ((rows.set i rows[j]).set j rows[i]) := by
  have pm := nodup_swap rows hij hj hi
  exact ⟨by simp; exact S.len, fun r hr => S.row r (pm.mem_iff.mp hr), fun r hr => S.bl r (pm.mem_iff.mp hr)⟩
theorem mat_in {H : Hp} {R : Addr} {as : List Addr} {rows : List (List Int)} (M : Mat H R as rows) : ∀ x ∈ R :: as, ∃ o, H x = some o := fun c hc => by
  rcases List.mem_cons.mp hc with y | y
  · rw [y]; exact ⟨_, M.hd⟩
  · obtain ⟨i, hi, ei⟩ := List.getElem_of_mem y
    obtain ⟨c', e1, e2, _⟩ := M.get (i := i) (by rw [← M.len]; exact hi)
    rw [List.getElem?_eq_getElem hi, ei] at e1
    cases e1
    exact ⟨_, e2⟩
theorem mat_no {H : Hp} {R : Addr} {as : List Addr} {rows : List (List Int)} (M : Mat H R as rows) {t : Addr} (hn : H t = none) : t ∉ R :: as := fun z => by
  obtain ⟨o, e⟩ := mat_in M t z
  rw [hn] at e
  cases e
theorem take_snoc {α : Type} {l : List α} {i : Nat} {x : α} (h : l[i]? = some x) : l.take (i + 1) = l.take i ++ [x] := by rw [List.take_add_one, h]; rfl
def spLower (K : PySem.W.Frag) : Sp := fun vs H Q _ => ∃ (a : Addr) (ns : List Int) (j k : Int), vs = [.ref a, .int j, .int k] ∧ SqL K H a (ns.map V.int) ∧ 0 ≤ j ∧ j ≤ 100 ∧ 0 ≤ k ∧ k ≤ 100 ∧ Q (.int (lowB ns j k)) H
def spGreat (K : PySem.W.Frag) : Sp := fun vs H Q _ => ∃ (a : Addr) (ns : List Int) (k : Int), vs = [.ref a, .int k] ∧ SqL K H a (ns.map V.int) ∧ 0 ≤ k ∧ k ≤ 10000 ∧ Q (.int (greatB ns k)) H
def spUpper (K : PySem.W.Frag) : Sp := fun vs H Q _ => ∃ (a : Addr) (ns : List Int) (j k : Int), vs = [.ref a, .int j, .int k] ∧ SqL K H a (ns.map V.int) ∧ 0 ≤ j ∧ j ≤ 100 ∧ 0 ≤ k ∧ k ≤ 100 ∧ Q (.int (upB ns j k)) H
section
variable {P : Program} {w : World} {K : PySem.W.Frag} {mg : Str → Option Value} {base : Heap} {A : Adr}
theorem sc_drawn : FnScope ["script", "k", "many", "cell", "mixed"] ["script", "k", "many"] (defScope s_drawn) := ⟨rfl, rfl, rfl, by decide +kernel, rfl, by decide +kernel, by decide +kernel⟩
theorem ok_drawn (T : Txt K mg A) : FnOk P w K mg base CX0 1 A.f_drawn A.fd_drawn ["script", "k", "many"] (spDrawn K) := by
  refine T.F_drawn.ok sc_drawn (fun vs H Q E h => ?_) (fun cdv A' outer s H vs Q E hr h => ?_)
  · obtain ⟨a, ns, k, many, rfl, _⟩ := h
    rfl
  · obtain ⟨a, ns, k, many, rfl, hS, hm, k1, k2, q⟩ := h
    refine ⟨_, (pss_cons (ps_set (i := 3) sc_drawn.nd rfl (Or.inl rfl) pe_int)
      (pss_cons (ps_if (pt_cmpR op_gt (pe_callB (call_lenK (K := K) rfl) (by rfl) T.n_len PySem.boot_len (pa_cons (pv 0) pa_nil)) pe_int (nomark _))
        (pss_one (ps_set (i := 3) sc_drawn.nd rfl (Or.inl rfl) (pe_ix (ix_listK (K := K) rfl) (pv 0) (pe_op op_mod (pv 1) (pe_callB (call_lenK (K := K) rfl) (by rfl) T.n_len PySem.boot_len (pa_cons (pv 0) pa_nil))) (fun _ _ => rfl))))
        pss_nil)
      (pss_cons (ps_set (i := 4) sc_drawn.nd rfl (Or.inl rfl) (pe_op op_add (pe_op op_add (pe_op op_mul (pv 3) (pe_op op_add pe_int (pe_op op_mul pe_int (pe_op op_mod (pv 1) pe_int)))) (pe_op op_mul (pe_op op_mul (pe_op op_add (pv 1) pe_int) (pe_op op_add (pv 1) pe_int)) pe_int)) (pe_callB (call_lenK (K := K) rfl) (by rfl) T.n_len PySem.boot_len (pa_cons (pv 0) pa_nil))))
      (pss_one (ps_ret (pe_op op_mod (pe_op op_fdiv (pe_op op_mod (pv 4) pe_int) pe_int) (pv 2))))))), ?_⟩
    have hl : (ns.map V.int).length = ns.length := by simp
    refine ⟨_, rfl, _, _, rfl, .inl hS, _, _, rfl, rfl, _, rfl, ?_⟩
    rw [hl]
    refine ite2 (fun hc => ?_) (fun hc => ?_)
    · have hc' : 0 < (ns.length : Int) := by simpa using hc
      refine ⟨_, rfl, _, rfl, _, rfl, _, _, rfl, .inl hS, _, _, rfl, rfl, (by rw [hl]; exact hc'), _, _, _, _, rfl, rfl, hS, at_ints (Int.emod_nonneg _ (by rw [hl]; (first | lia | omega))) (by rw [hl]; exact Int.emod_lt_of_pos _ hc'), ?_⟩
      refine ⟨_, rfl, _, rfl, _, _, rfl, rfl, (by show (0 : Int) < 97; decide), _, _, rfl, rfl, .inl ⟨by decide, by decide⟩, _, _, rfl, rfl, _, _, rfl, rfl, .inr ⟨by (first | lia | omega), by (first | lia | omega)⟩,
        _, rfl, _, _, rfl, rfl, _, rfl, _, _, rfl, rfl, _, _, rfl, rfl, .inl ⟨by (first | lia | omega), by (first | lia | omega)⟩, _, _, rfl, rfl, .inr ⟨by decide, by decide⟩, _, _, rfl, rfl, _, rfl, _, _, rfl, .inl hS, _, _, rfl, rfl, ?_⟩
      refine ⟨_, rfl, _, _, rfl, rfl, (by show (0 : Int) < 2147483647; decide), _, _, rfl, rfl, ⟨by decide, by decide⟩, _, rfl, _, _, rfl, rfl, hm, ?_⟩
      have e : drawn ns k many = (ns.getD (k % (ns.length : Int)).toNat 0 * (48271 + 9973 * (k % 97)) + (k + 1) * (k + 3) * 16807 + (ns.length : Int)) % 2147483647 / 16 % many := by
        unfold drawn
        rw [if_pos hc']
      rw [e] at q
      rw [hl]
      exact q
    · have hc' : ¬ 0 < (ns.length : Int) := by simpa using hc
      refine ⟨_, rfl, _, rfl, _, _, rfl, rfl, (by show (0 : Int) < 97; decide), _, _, rfl, rfl, .inl ⟨by decide, by decide⟩, _, _, rfl, rfl, _, _, rfl, rfl, .inr ⟨by (first | lia | omega), by (first | lia | omega)⟩,
        _, rfl, _, _, rfl, rfl, _, rfl, _, _, rfl, rfl, _, _, rfl, rfl, .inl ⟨by (first | lia | omega), by (first | lia | omega)⟩, _, _, rfl, rfl, .inr ⟨by decide, by decide⟩, _, _, rfl, rfl, _, rfl, _, _, rfl, .inl hS, _, _, rfl, rfl, ?_⟩
      refine ⟨_, rfl, _, _, rfl, rfl, (by show (0 : Int) < 2147483647; decide), _, _, rfl, rfl, ⟨by decide, by decide⟩, _, rfl, _, _, rfl, rfl, hm, ?_⟩
      have e : drawn ns k many = (7 * (48271 + 9973 * (k % 97)) + (k + 1) * (k + 3) * 16807 + (ns.length : Int)) % 2147483647 / 16 % many := by
        unfold drawn
        rw [if_neg hc']
      rw [e] at q
      rw [hl]
      exact q
theorem sc_cleared : FnScope ["row", "top", "lead"] ["row", "top", "lead"] (defScope s_cleared) := ⟨rfl, rfl, rfl, by decide +kernel, rfl, by decide +kernel, by decide +kernel⟩
theorem ok_cleared (T : Txt K mg A) : FnOk P w K mg base CX0 1 A.f_cleared A.fd_cleared ["row", "top", "lead"] (spCleared K) := by
  refine T.F_cleared.ok sc_cleared (fun vs H Q E h => ?_) (fun cdv A' outer s H vs Q E hr h => ?_)
  · obtain ⟨c, d, r, t, l, rfl, _⟩ := h
    rfl
  · obtain ⟨c, d, r, t, l, rfl, hc, hd, htl, h1, h12, cr, ct, l0, cl, q⟩ := h
    refine ⟨_, (pss_one (ps_ret (pe_comp (CompSc.of (N' := ["place", "top", "row", "lead"]) (ix := [none, some 1, some 0, some 2]) rfl (by kernel_rfl)) rfl rfl rfl rfl (pi_range2 (by rfl) T.n_range (pa_cons pe_int (pa_cons (pe_callB (call_lenK (K := K) rfl) (by rfl) T.n_len PySem.boot_len (pa_cons (pv 0) pa_nil)) pa_nil))) (by exact fun _ _ _ _ _ => pf_nil) (by exact fun _ _ _ _ _ => (pe_op op_fdivB (pe_op op_sub (pe_op op_mulB (pe_ix (ix_listK (K := K) rfl) (pv 1) pe_int (fun _ _ => rfl)) (pe_ix (ix_listK (K := K) rfl) (pv 2) (pv 0) (fun _ _ => rfl))) (pe_op op_mulB (pe_ix (ix_listK (K := K) rfl) (pv 2) pe_int (fun _ _ => rfl)) (pe_ix (ix_listK (K := K) rfl) (pv 1) (pv 0) (fun _ _ => rfl)))) (pv 3))) (fun _ => rfl)))), ?_⟩
    have hl : (r.map V.int).length = r.length := by simp
    refine ⟨_, rfl, _, _, rfl, .inl hc, _, _, rfl, ⟨by (first | lia | omega), by (first | lia | omega), by (first | lia | omega), by (first | lia | omega)⟩, ?_⟩
    have en : (((r.map V.int).length : Nat) - 1 : Int).toNat = r.length - 1 := by rw [hl]; (first | lia | omega)
    rw [en]
    refine comp_pure (ys := (clr r t l).map V.int) wk_range (by rw [List.length_map, List.length_range]; exact small12 (by (first | lia | omega))) (by simp [clr]) (fun j x y ex ey Q' q' => ?_) q
    unfold clr at ey
    rw [List.getElem?_map] at ex ey
    rw [List.getElem?_map] at ey
    cases er : (List.range (r.length - 1))[j]? with
    | none => rw [er] at ex; cases ex
    | some j' =>
      rw [er] at ex ey
      cases ex
      cases ey
      obtain ⟨hj1, hj2⟩ := List.getElem?_eq_some_iff.mp er
      rw [List.getElem_range] at hj2
      rw [List.length_range] at hj1
      subst hj2
      have e1 : (1 + (j : Int)).toNat = j + 1 := by (first | lia | omega)
      have a1 : atI (r.map V.int) (1 + (j : Int)) = some (V.int (r.getD (j + 1) 0)) := by have := at_ints (ns := r) (i := 1 + (j : Int)) (by (first | lia | omega)) (by (first | lia | omega)); rw [e1] at this; exact this
      have a2 : atI (t.map V.int) (1 + (j : Int)) = some (V.int (t.getD (j + 1) 0)) := by have := at_ints (ns := t) (i := 1 + (j : Int)) (by (first | lia | omega)) (by (first | lia | omega)); rw [e1] at this; exact this
      have a3 : atI (r.map V.int) 0 = some (V.int (r.getD 0 0)) := at_ints (ns := r) (i := 0) (by (first | lia | omega)) (by (first | lia | omega))
      have a4 : atI (t.map V.int) 0 = some (V.int (t.getD 0 0)) := at_ints (ns := t) (i := 0) (by (first | lia | omega)) (by (first | lia | omega))
      exact ⟨_, rfl, _, _, _, _, rfl, rfl, hd, a4, _, rfl, _, rfl, _, _, _, _, rfl, rfl, hc, a1, _, _, rfl, rfl, ⟨ct _, cr _⟩, _, rfl, _, _, _, _, rfl, rfl, hc, a3, _, rfl, _, rfl, _, _, _, _, rfl, rfl, hd, a2, _, _, rfl, rfl, ⟨cr _, ct _⟩, _, _, rfl, rfl, _, rfl, _, _, rfl, rfl, ⟨l0, cl⟩, q'⟩
theorem sc_det : FnScope ["square", "rest", "sign", "lead", "led", "place", "top"] ["square"] (defScope s_det) := ⟨rfl, rfl, rfl, by decide +kernel, rfl, by decide +kernel, by decide +kernel⟩
theorem ok_det (T : Txt K mg A) (G_cleared : FnOk P w K mg base CX0 1 A.f_cleared A.fd_cleared ["row", "top", "lead"] (spCleared K)) : FnOk P w K mg base CX0 2 A.f_det A.fd_det ["square"] (spDet K) := by
  refine T.F_det.ok sc_det (fun vs H Q E h => ?_) (fun cdv A' outer s H vs Q E hr h => ?_)
  · obtain ⟨R, as, rows, n, rfl, _⟩ := h
    rfl
  · obtain ⟨R, as, rows, n, rfl, M, S, n12, q⟩ := h
    refine ⟨_, (pss_cons (ps_set (i := 1) sc_det.nd rfl (Or.inl rfl) (pv 0))
      (pss_cons (ps_set (i := 2) sc_det.nd rfl (Or.inl rfl) pe_int)
      (pss_cons (ps_set (i := 3) sc_det.nd rfl (Or.inr rfl) pe_int)
      (pss_cons (ps_while PassesOwn.never (pt_lst (K := K) rfl (pv 1))
        (pss_cons (ps_setCompT (i := 4) sc_det.nd rfl rfl (CompSc.of (N' := ["place", "row"]) (ix := [none, none]) rfl (by kernel_rfl)) (by exact fun _ _ _ _ _ nd => pg_tupK (K := K) (n := 2) rfl rfl (pgs_cons (pg_name (i := 0) nd rfl (Or.inl (lookup_relabel_local rfl)) (.inr (lookup_relabel_local rfl))) (pgs_cons (pg_name (i := 1) nd rfl (Or.inl (lookup_relabel_local rfl)) (.inr (lookup_relabel_local rfl))) pgs_nil))) rfl (pi_enum (K := K) rfl (by rfl) T.n_enumerate (pa_cons (pv 1) pa_nil)) (by exact fun _ _ _ _ _ => (pf_one (pt_cmpR op_ne (pe_ix (ix_listK (K := K) rfl) (pv 1) pe_int (fun _ _ => rfl)) pe_int (nomark _)))) (by exact fun _ _ _ _ _ => (pv 0)))
        (pss_cons (ps_if (pt_not (pt_lst (K := K) rfl (pv 4)))
          (pss_one (ps_ret pe_int))
          pss_nil)
        (pss_cons (ps_set (i := 5) sc_det.nd rfl (Or.inl rfl) (pe_ix (ix_listK (K := K) rfl) (pv 4) pe_int (fun _ _ => rfl)))
        (pss_cons (ps_if (pt_cmpR op_eq (pe_op op_mod (pv 5) pe_int) pe_int (nomark _))
          (pss_one (ps_set (i := 2) sc_det.nd rfl (Or.inl rfl) (pe_neg (pv 2))))
          pss_nil)
        (pss_cons (ps_set (i := 6) sc_det.nd rfl (Or.inr rfl) (pe_ix (ix_listK (K := K) rfl) (pv 1) (pv 5) (fun _ _ => rfl)))
        (pss_cons (ps_setComp (i := 1) sc_det.nd rfl rfl (CompSc.of (N' := ["row", "top", "lead"]) (ix := [none, some 6, some 3]) rfl (by kernel_rfl)) rfl rfl rfl rfl (pi_listK (K := K) rfl (pe_op op_cat (pe_slice (sl_listK (K := K) rfl) (pv 1) po_none (po_some (pv 5))) (pe_slice (sl_listK (K := K) rfl) (pv 1) (po_some (pe_op op_add (pv 5) pe_int)) po_none))) (by exact fun _ _ _ _ _ => pf_nil) (by exact fun _ _ _ _ _ => (pe_call G_cleared (hr.mono (by decide)) (by rfl) T.m_cleared T.k_cleared T.b_cleared .nil pass0 (pa_cons (pv 0) (pa_cons (pv 1) (pa_cons (pv 2) pa_nil))))))
        (pss_one (ps_set (i := 3) sc_det.nd rfl (Or.inr rfl) (pe_ix (ix_listK (K := K) rfl) (pv 6) pe_int (fun _ _ => rfl)))))))))))
      (pss_one (ps_ret (pe_op op_mulB (pv 2) (pv 3)))))))), ?_⟩
    refine ⟨_, rfl, ?_⟩
    dsimp only [gName]
    refine asg_lit ?_
    refine asg_lit ?_
    have M0 : Mat H R as ((rows.map Com.fn).map (rowAt [] (rows.map Com.fn).length)) := by
      rw [List.map_map, List.length_map, S.len]
      have : rows.map ((rowAt [] n) ∘ Com.fn) = rows := by
        conv => rhs; rw [← List.map_id rows]
        exact List.map_congr_left fun r hr' => rowAt_nil (S.row r hr')
      rw [this]
      exact M
    refine ⟨fun k σ H2 => ∃ (R' : Addr) (as' : List Addr) (P rs : List Rw) (sg : Int) (x4 x5 x6 : Option V), k = rs.length ∧ σ = [some (.ref R), some (.ref R'), some (.int sg), some (.int (dt P.length P 0)), x4, x5, x6] ∧ Mat H2 R' as' (rs.map (rowAt P rs.length)) ∧ Elim P ∧ P.length + rs.length = n ∧ (∀ r ∈ P, Bdd M30 r) ∧ (∀ r ∈ rs, Bdd M30 r) ∧ (sg = 1 ∨ sg = -1) ∧ dt n (rows.map Com.fn) 0 = sg * dt n (P ++ rs) 0 ∧ Same H H2, ⟨_, R, as, [], rows.map Com.fn, 1, none, none, none, rfl, rfl, M0, Elim.nil, by simp [S.len], (fun _ z => by cases z), (fun r hr' => by obtain ⟨r', h', rfl⟩ := List.mem_map.mp hr'; exact (S.bl r' h').fn), .inl rfl, by simp, Same.refl _⟩, ?_⟩
    rintro k σ H2 ⟨R', as', P, rs, sg, x4, x5, x6, rfl, rfl, M2, E, hPn, bP, bR, hsg, hd, s2⟩
    have hl2 : (as'.map V.ref).length = rs.length := by rw [M2.reflen, List.length_map]
    refine ⟨_, rfl, R', _, rfl, M2.sq, ?_⟩
    rcases rs with _ | ⟨r0, rt⟩
    · have e0 : as'.map V.ref = [] := List.length_eq_zero_iff.mp hl2
      rw [e0]
      refine iteF ?_
      simp only [List.length_nil, Nat.add_zero] at hPn
      have cbl : CB (dt P.length P 0) := bd_cb (dt_bd P.length 0 P (Nat.le_refl _) bP) (by (first | lia | omega))
      have cbs : CB sg := by rcases hsg with rfl | rfl <;> (unfold CB; decide +kernel)
      refine ⟨_, rfl, _, rfl, _, _, rfl, rfl, ⟨cbs, cbl⟩, ?_⟩
      rw [List.append_nil] at hd
      have := q _ s2
      rw [hd] at this
      rw [hPn]
      exact this
    generalize hrs : r0 :: rt = rs at *
    have hne : 1 ≤ rs.length := by rw [← hrs]; simp
    have e1 : (!(as'.map V.ref).isEmpty) = true := by
      cases h : as'.map V.ref with
      | nil => rw [h] at hl2; simp at hl2; (first | lia | omega)
      | cons _ _ => rfl
    rw [if_pos e1]
    refine ⟨fun σ' H' => ∃ m', m' < rs.length ∧ ∃ (R' : Addr) (as' : List Addr) (P rs : List Rw) (sg : Int) (x4 x5 x6 : Option V), m' = rs.length ∧ σ' = [some (.ref R), some (.ref R'), some (.int sg), some (.int (dt P.length P 0)), x4, x5, x6] ∧ Mat H' R' as' (rs.map (rowAt P rs.length)) ∧ Elim P ∧ P.length + rs.length = n ∧ (∀ r ∈ P, Bdd M30 r) ∧ (∀ r ∈ rs, Bdd M30 r) ∧ (sg = 1 ∨ sg = -1) ∧ dt n (rows.map Com.fn) 0 = sg * dt n (P ++ rs) 0 ∧ Same H H', fun _ _ h => h, ?_⟩
    clear hrs
    have hk12 : P.length < 12 := by (first | lia | omega)
    -- led
    refine ⟨_, rfl, R', _, rfl, M2.sq, ?_⟩
    refine comp_enumT (fun i ys H3 => Same H2 H3 ∧ ys = ((List.range i).filter fun k => decide (bor P (rs.getD k fun _ => 0) P.length ≠ 0)).map fun k => V.int (k : Nat)) ⟨Same.refl _, rfl⟩ (fun i ys H3 _ ⟨s3, _⟩ => (M2.same s3).sq) (fun i x ys H3 c hx hP hc => ?_) (fun i ys H3 hi hP => ?_) (fun ys H3 hP D hD => ?_)
    · obtain ⟨s3, rfl⟩ := hP
      obtain ⟨d, hi', rfl, ec, hdd, _⟩ := (M2.same s3).refs hx
      have hi : i < rs.length := by simpa using hi'
      have er : (rs.map (rowAt P rs.length))[i] = rowAt P rs.length (rs.getD i fun _ => 0) := by rw [List.getElem_map, getD_get hi]
      rw [er] at hdd
      have s4 := same_new hc (o := .tup [.int (i : Int), .ref d])
      have hd4 := s4 _ _ hdd
      have a0 : atI ((rowAt P rs.length (rs.getD i fun _ => 0)).map V.int) 0 = some (V.int (bor P (rs.getD i fun _ => 0) P.length)) := by
        have := at_ints (ns := rowAt P rs.length (rs.getD i fun _ => 0)) (i := 0) (by (first | lia | omega)) (by rw [rowAt_len]; (first | lia | omega))
        rw [show (0 : Int).toNat = 0 from rfl, rowAt_get (by (first | lia | omega)), Nat.add_zero] at this
        exact this
      refine ⟨c, _, rfl, SqT.of upd_same, rfl, _, _, rfl, _, _, rfl, rfl, ⟨rfl, fun k z hz => ?_⟩, _, rfl, _, _, _, _, rfl, rfl, SqL.of hd4, a0, rfl, _, rfl, ?_⟩
      · match k, hz with
        | 0, hz => cases hz
        | 1, hz => cases hz
        | n + 2, hz => simp [inSt] at hz
      by_cases h1 : bor P (rs.getD i fun _ => 0) P.length = 0
      · rw [decide_eq_true (show V.int (bor P (rs.getD i fun _ => 0) P.length) = V.int 0 by rw [h1])]
        refine iteF ?_
        refine ⟨s3.trans s4, ?_⟩
        rw [filt_snoc, if_neg (by simp only [decide_eq_true_eq]; exact fun z => z h1), List.append_nil]
      · rw [decide_eq_false (show ¬ V.int (bor P (rs.getD i fun _ => 0) P.length) = V.int 0 from fun w => h1 (by injection w))]
        refine iteT ?_
        refine ⟨_, rfl, s3.trans s4, ?_⟩
        rw [filt_snoc, if_pos (decide_eq_true h1), List.map_append]
        rfl
    · obtain ⟨s3, rfl⟩ := hP
      rw [hl2] at hi
      rw [List.length_map]
      have := List.length_filter_le (fun k => decide (bor P (rs.getD k fun _ => 0) P.length ≠ 0)) (List.range i)
      rw [List.length_range] at this
      exact small1000 (by (first | lia | omega))
    obtain ⟨s3, rfl⟩ := hP
    rw [hl2]
    have s4 : Same H2 (upd H3 D (.lst (((List.range rs.length).filter fun k => decide (bor P (rs.getD k fun _ => 0) P.length ≠ 0)).map fun k => V.int (k : Nat)))) := same_upd s3 (s3.free hD)
    have eD : (upd H3 D (.lst (((List.range rs.length).filter fun k => decide (bor P (rs.getD k fun _ => 0) P.length ≠ 0)).map fun k => V.int (k : Nat)))) D = some (.lst (((List.range rs.length).filter fun k => decide (bor P (rs.getD k fun _ => 0) P.length ≠ 0)).map fun k => V.int (k : Nat))) := upd_same
    generalize upd H3 D (.lst (((List.range rs.length).filter fun k => decide (bor P (rs.getD k fun _ => 0) P.length ≠ 0)).map fun k => V.int (k : Nat))) = H4 at s4 eD
    have M4 := M2.same s4
    have s04 := s2.trans s4
    refine ⟨_, rfl, D, _, rfl, SqL.of eD, ?_⟩
    cases hld : (List.range rs.length).filter fun k => decide (bor P (rs.getD k fun _ => 0) P.length ≠ 0) with
    | nil =>
      refine iteT ?_
      have z0 : ∀ r ∈ rs, bor P r P.length = 0 := fun r hr' => by
        obtain ⟨i, hi, rfl⟩ := List.getElem_of_mem hr'
        have := List.filter_eq_nil_iff.mp hld i (List.mem_range.mpr hi)
        rw [getD_get hi] at this
        simpa using this
      have z := E.none P.length rfl rs [] (by simp; (first | lia | omega)) (fun _ y => by cases y) z0
      rw [List.length_nil, Nat.zero_add, List.nil_append, hPn] at z
      have e0 : dt n (rows.map Com.fn) 0 = 0 := by rw [hd, z]; (first | lia | omega)
      have := q H4 s04
      rw [e0] at this
      exact this
    | cons i lt =>
    refine iteF ?_
    have him : i ∈ (List.range rs.length).filter fun k => decide (bor P (rs.getD k fun _ => 0) P.length ≠ 0) := by rw [hld]; exact List.mem_cons_self
    obtain ⟨hir, hib⟩ := List.mem_filter.mp him
    rw [List.mem_range] at hir
    have hib' := of_decide_eq_true hib
    rw [getD_get hir] at hib'
    rw [hld] at eD
    clear him hib hld
    -- place = led[0]
    refine ⟨_, rfl, _, _, _, _, rfl, rfl, SqL.of eD, at_list (n := 0) rfl rfl, ?_⟩
    -- the sign
    dsimp only [gName]
    refine seq_mk' (fun σ' H' => σ' = [some (.ref R), some (.ref R'), some (.int (sg * sgn i)), some (.int (dt P.length P 0)), some (.ref D), some (.int (i : Int)), x6] ∧ H4 = H') ?rest (fun D1 rest => ?way)
    case way =>
      refine ⟨_, rfl, _, _, rfl, rfl, (by show (0 : Int) < 2; decide), rfl, _, rfl, ?_⟩
      rw [sgn_par] at rest
      by_cases hp : i % 2 = 1
      · rw [decide_eq_true (show V.int ((i : Int) % 2) = V.int 1 by rw [show (i : Int) % 2 = 1 by (first | lia | omega)])]
        refine iteT ?_
        refine ⟨_, rfl, _, rfl, ?_⟩
        rw [if_pos hp, show sg * -1 = -sg by (first | lia | omega)] at rest
        exact rest _ _ ⟨rfl, rfl⟩
      · rw [decide_eq_false (show ¬ V.int ((i : Int) % 2) = V.int 1 from fun w => hp (by injection w with w; (first | lia | omega)))]
        refine iteF ?_
        rw [if_neg hp, Int.mul_one] at rest
        exact rest _ _ ⟨rfl, rfl⟩
    rintro σ' H' ⟨rfl, rfl⟩
    -- top = rest[place]
    have hil : (i : Int) < ((rs.map (rowAt P rs.length)).length : Int) := by rw [List.length_map]; (first | lia | omega)
    obtain ⟨t, hat, ht, hta⟩ := M4.at (z := (i : Int)) (by (first | lia | omega)) hil
    have er : (rs.map (rowAt P rs.length)).getD i [] = rowAt P rs.length rs[i] := by rw [getD_get (by rw [List.length_map]; exact hir), List.getElem_map]
    rw [Int.toNat_natCast] at ht hta
    rw [er] at ht
    refine ⟨_, rfl, _, rfl, _, _, _, _, rfl, rfl, M4.sq, hat, ?_⟩
    -- the rows left
    have hlr : (as'.map V.ref).length = rs.length := hl2
    refine ⟨_, rfl, _, rfl, _, rfl, _, _, rfl, M4.sq, fun l1 hl1 => ?_⟩
    rw [cut_take (by rw [hlr]; (first | lia | omega))]
    have s5 := same_new hl1 (o := .lst ((as'.map V.ref).take i))
    refine ⟨_, rfl, _, rfl, _, _, rfl, rfl, _, rfl, _, _, rfl, (M4.same s5).sq, fun l2 hl2' => ?_⟩
    rw [show (i : Int) + 1 = ((i + 1 : Nat) : Int) by (first | lia | omega), cut_drop (by rw [hlr]; (first | lia | omega))]
    have s6 := s5.trans (same_new hl2' (o := .lst ((as'.map V.ref).drop (i + 1))))
    refine ⟨l1, l2, _, _, rfl, rfl, same_new hl2' _ _ upd_same, upd_same, small12 (by rw [List.length_take, List.length_drop, hlr]; (first | lia | omega)), fun l3 hl3 => ?_⟩
    rw [← List.eraseIdx_eq_take_drop_succ]
    have s7 := s6.trans (same_new hl3 (o := .lst ((as'.map V.ref).eraseIdx i)))
    have e7 : (upd (upd (upd H4 l1 (.lst ((as'.map V.ref).take i))) l2 (.lst ((as'.map V.ref).drop (i + 1)))) l3 (.lst ((as'.map V.ref).eraseIdx i))) l3 = some (.lst ((as'.map V.ref).eraseIdx i)) := upd_same
    generalize upd (upd (upd H4 l1 (.lst ((as'.map V.ref).take i))) l2 (.lst ((as'.map V.ref).drop (i + 1)))) l3 (.lst ((as'.map V.ref).eraseIdx i)) = H7 at s7 e7
    have M7 := M4.same s7
    have ht7 := s7 _ _ ht
    have hel : (rs.eraseIdx i).length + 1 = rs.length := by rw [List.length_eraseIdx]; rw [if_pos hir]; (first | lia | omega)
    have hPb : Bdd M30 rs[i] := bR _ (List.getElem_mem hir)
    refine ⟨l3, rfl, ⟨_, SqL.of e7⟩, ?_⟩
    refine comp_news (ls := ((rs.eraseIdx i).map (rowAt (P ++ [rs[i]]) (rs.eraseIdx i).length)).map fun r => r.map V.int) (wk_list (SqL.of e7)) (by rw [List.length_eraseIdx, hlr]; exact small12 (by split <;> (first | lia | omega))) (by rw [List.length_map, List.length_map, List.length_eraseIdx, List.length_eraseIdx, hlr]) (fun j x l H8 ex el s8 Q' q' => ?_) (fun as2 H8' sz hlen nd fr hrows D2 hD2 => ?_)
    · rw [List.getElem?_map, List.getElem?_map] at el
      obtain ⟨r, hrj, rfl⟩ : ∃ r, (rs.eraseIdx i)[j]? = some r ∧ l = (rowAt (P ++ [rs[i]]) (rs.eraseIdx i).length r).map V.int := by
        cases e : (rs.eraseIdx i)[j]? with
        | none => rw [e] at el; cases el
        | some r => rw [e] at el; exact ⟨r, rfl, (Option.some.inj el).symm⟩
      have hrm : r ∈ rs := List.mem_of_mem_eraseIdx (List.mem_of_getElem? hrj)
      rw [List.getElem?_eraseIdx] at ex hrj
      obtain ⟨c, rfl, hc⟩ : ∃ c, x = .ref c ∧ H7 c = some (.lst ((rowAt P rs.length r).map V.int)) := by
        by_cases hji : j < i
        · rw [if_pos hji] at ex hrj
          obtain ⟨c, hj', rfl, _, hc, _⟩ := M7.refs ex
          obtain ⟨hj2, e⟩ := List.getElem?_eq_some_iff.mp hrj
          rw [List.getElem_map, e] at hc
          exact ⟨c, rfl, hc⟩
        · rw [if_neg hji] at ex hrj
          obtain ⟨c, hj', rfl, _, hc, _⟩ := M7.refs ex
          obtain ⟨hj2, e⟩ := List.getElem?_eq_some_iff.mp hrj
          rw [List.getElem_map, e] at hc
          exact ⟨c, rfl, hc⟩
      refine ⟨_, rfl, _, rfl, _, rfl, c, t, _, _, _, rfl, SqL.of (s8 _ _ hc), SqL.of (s8 _ _ ht7), by rw [rowAt_len, rowAt_len], by rw [rowAt_len]; exact hne, by rw [rowAt_len]; (first | lia | omega), rowAt_cb bP (bR r hrm) hk12, rowAt_cb bP hPb hk12, E.ne, bd_cb (dt_bd P.length 0 P (Nat.le_refl _) bP) (by (first | lia | omega)), fun D3 hD3 => ?_⟩
      have ec := clr_rowAt E (rs.eraseIdx i).length rs[i] r
      rw [hel] at ec
      rw [ec]
      exact q' D3 hD3
    rw [List.length_map] at hlen
    have MR := mat_of (H := H7) (R := D2) hlen nd sz hrows hD2
    have s8 : Same H7 (upd H8' D2 (.lst (as2.map V.ref))) := same_upd sz (sz.free hD2)
    generalize upd H8' D2 (.lst (as2.map V.ref)) = H8 at MR s8
    have ht8 := s8 _ _ ht7
    have a0 : atI ((rowAt P rs.length rs[i]).map V.int) 0 = some (V.int (bor P rs[i] P.length)) := by
      have := at_ints (ns := rowAt P rs.length rs[i]) (i := 0) (by (first | lia | omega)) (by rw [rowAt_len]; (first | lia | omega))
      rw [show (0 : Int).toNat = 0 from rfl, rowAt_get (by (first | lia | omega)), Nat.add_zero] at this
      exact this
    refine ⟨_, rfl, _, _, _, _, rfl, rfl, SqL.of ht8, a0, ?_⟩
    have el : bor P rs[i] P.length = dt (P ++ [rs[i]]).length (P ++ [rs[i]]) 0 := by rw [bor_self, List.length_append, List.length_singleton]
    rw [el]
    have ers : rs = rs.take i ++ rs[i] :: rs.drop (i + 1) := by rw [← List.drop_eq_getElem_cons hir, List.take_append_drop]
    refine ⟨_, by (first | lia | omega), D2, as2, P ++ [rs[i]], rs.eraseIdx i, sg * sgn i, _, _, _, rfl, rfl, MR, E.snoc hib', by rw [List.length_append, List.length_singleton]; (first | lia | omega), fun r hr' => ?_, fun r hr' => bR r (List.mem_of_mem_eraseIdx hr'), ?_, ?_, (s04.trans s7).trans s8⟩
    · rcases List.mem_append.mp hr' with z | z
      · exact bP r z
      · rw [List.mem_singleton.mp z]; exact hPb
    · rw [sgn_par]
      rcases hsg with rfl | rfl <;> split <;> simp
    · have mv := dt_move n 0 rs[i] (rs.drop (i + 1)) (rs.take i) P (by rw [List.length_take, List.length_drop]; (first | lia | omega))
      rw [← ers, List.length_take, Nat.min_eq_left (by (first | lia | omega))] at mv
      rw [hd, mv, app1, List.eraseIdx_eq_take_drop_succ, Int.mul_assoc]
theorem sc_lower : FnScope ["script", "j", "k"] ["script", "j", "k"] (defScope s_lower) := ⟨rfl, rfl, rfl, by decide +kernel, rfl, by decide +kernel, by decide +kernel⟩
theorem ok_lower (T : Txt K mg A) (G_drawn : FnOk P w K mg base CX0 1 A.f_drawn A.fd_drawn ["script", "k", "many"] (spDrawn K)) : FnOk P w K mg base CX0 2 A.f_lower A.fd_lower ["script", "j", "k"] (spLower K) := by
  refine T.F_lower.ok sc_lower (fun vs H Q E h => ?_) (fun cdv A' outer s H vs Q E hr h => ?_)
  · obtain ⟨a, ns, j, k, rfl, _⟩ := h
    rfl
  · obtain ⟨a, ns, j, k, rfl, hS, j0, j1, k0, k1, q⟩ := h
    refine ⟨_, (pss_cons (ps_if (pt_cmpR op_eq (pv 1) (pv 2) (nomark _))
        (pss_one (ps_ret pe_int))
        pss_nil)
      (pss_cons (ps_if (pt_cmpR op_lt (pv 1) (pv 2) (nomark _))
        (pss_one (ps_ret pe_int))
        pss_nil)
      (pss_one (ps_ret (pe_op op_sub (pe_call G_drawn (hr.mono (by decide)) (by rfl) T.m__law_drawn T.k__law_drawn T.b__law_drawn .nil pass0 (pa_cons (pv 0) (pa_cons (pe_op op_add (pe_op op_add pe_int (pe_op op_mul pe_int (pv 1))) (pv 2)) (pa_cons pe_int pa_nil)))) pe_int))))), ?_⟩
    unfold lowB at q
    refine ⟨_, rfl, _, rfl, rfl, _, rfl, ?_⟩
    refine ite2 (fun h1 => ?_) (fun h1 => ?_)
    · have h1' : j = k := by simpa using h1
      rw [if_pos h1'] at q
      exact q
    have h1' : ¬ j = k := by simpa using h1
    rw [if_neg h1'] at q
    unfold tNext
    refine ⟨_, rfl, _, rfl, _, _, rfl, rfl, _, rfl, ?_⟩
    refine ite2 (fun h2 => ?_) (fun h2 => ?_)
    · have h2' : j < k := by simpa using h2
      rw [if_pos h2'] at q
      exact q
    have h2' : ¬ j < k := by simpa using h2
    rw [if_neg h2'] at q
    exact ⟨_, rfl, _, rfl, _, _, rfl, rfl, .inl ⟨by decide, by decide⟩, _, _, rfl, rfl, _, rfl, _, _, rfl, rfl, a, ns, _, _, rfl, hS, by decide, by (first | lia | omega), by (first | lia | omega), _, _, rfl, rfl, q⟩
theorem sc_great : FnScope ["script", "k", "cell"] ["script", "k"] (defScope s_great) := ⟨rfl, rfl, rfl, by decide +kernel, rfl, by decide +kernel, by decide +kernel⟩
theorem ok_great (T : Txt K mg A) (G_drawn : FnOk P w K mg base CX0 1 A.f_drawn A.fd_drawn ["script", "k", "many"] (spDrawn K)) : FnOk P w K mg base CX0 2 A.f_great A.fd_great ["script", "k"] (spGreat K) := by
  refine T.F_great.ok sc_great (fun vs H Q E h => ?_) (fun cdv A' outer s H vs Q E hr h => ?_)
  · obtain ⟨a, ns, k, rfl, _⟩ := h
    rfl
  · obtain ⟨a, ns, k, rfl, hS, k0, k1, q⟩ := h
    refine ⟨_, (pss_cons (ps_set (i := 2) sc_great.nd rfl (Or.inl rfl) pe_int)
      (pss_cons (ps_if (pt_cmpR op_gt (pe_callB (call_lenK (K := K) rfl) (by rfl) T.n_len PySem.boot_len (pa_cons (pv 0) pa_nil)) pe_int (nomark _))
        (pss_one (ps_set (i := 2) sc_great.nd rfl (Or.inl rfl) (pe_ix (ix_listK (K := K) rfl) (pv 0) (pe_op op_mod (pv 1) (pe_callB (call_lenK (K := K) rfl) (by rfl) T.n_len PySem.boot_len (pa_cons (pv 0) pa_nil))) (fun _ _ => rfl))))
        pss_nil)
      (pss_one (ps_ret (pe_op op_mul (pe_op op_mod (pe_op op_add (pe_op op_mul (pv 2) (pe_op op_add (pv 1) pe_int)) (pv 1)) (pe_op op_pow pe_int pe_int)) (pe_op op_sub pe_int (pe_op op_mul pe_int (pe_call G_drawn (hr.mono (by decide)) (by rfl) T.m__law_drawn T.k__law_drawn T.b__law_drawn .nil pass0 (pa_cons (pv 0) (pa_cons (pe_op op_add pe_int (pv 1)) (pa_cons pe_int pa_nil))))))))))), ?_⟩
    have hl : (ns.map V.int).length = ns.length := by simp
    have b1 := drawn_nn ns (420 + k) (many := 2) (by decide)
    have b2 := drawn_lt ns (420 + k) (many := 2) (by decide)
    unfold greatB at q
    refine asg_lit ?_
    refine seq_mk' (fun σ' H' => σ' = [some (.ref a), some (.int k), some (.int (cellB ns k))] ∧ H = H') ?rest (fun D1 rest => ?way)
    case way =>
      unfold cellB at rest
      refine ⟨_, rfl, _, _, rfl, .inl hS, _, _, rfl, rfl, _, rfl, ?_⟩
      rw [hl]
      refine ite2 (fun hc => ?_) (fun hc => ?_)
      · have hc' : 0 < (ns.length : Int) := by simpa using hc
        rw [if_pos hc'] at rest
        rw [← hl] at rest
        exact ⟨_, rfl, _, rfl, _, rfl, _, _, rfl, .inl hS, _, _, rfl, rfl, (by rw [hl]; exact hc'), _, _, _, _, rfl, rfl, hS, at_ints (Int.emod_nonneg _ (by rw [hl]; (first | lia | omega))) (by rw [hl]; exact Int.emod_lt_of_pos _ hc'), rest _ _ ⟨rfl, rfl⟩⟩
      · have hc' : ¬ 0 < (ns.length : Int) := by simpa using hc
        rw [if_neg hc'] at rest
        exact rest _ _ ⟨rfl, rfl⟩
    rintro σ' H' ⟨rfl, rfl⟩
    refine ⟨_, rfl, _, rfl, _, _, rfl, rfl, _, _, rfl, rfl, .inr ⟨by (first | lia | omega), by (first | lia | omega)⟩, _, rfl, _, _, rfl, rfl, _, _, rfl, rfl, ⟨by decide, by decide, by decide⟩, _, _, rfl, rfl, (by show (0 : Int) < 10 ^ 27; decide), _, rfl, _, rfl, _, _, rfl, rfl, a, ns, _, _, rfl, hS, by decide, by (first | lia | omega), by (first | lia | omega), _, _, rfl, rfl, .inl ⟨by decide, by decide⟩, _, _, rfl, rfl, _, _, rfl, rfl, .inr ⟨by (first | lia | omega), by (first | lia | omega)⟩, ?_⟩
    exact q
theorem sc_upper : FnScope ["script", "j", "k"] ["script", "j", "k"] (defScope s_upper) := ⟨rfl, rfl, rfl, by decide +kernel, rfl, by decide +kernel, by decide +kernel⟩
theorem ok_upper (T : Txt K mg A) (G_drawn : FnOk P w K mg base CX0 1 A.f_drawn A.fd_drawn ["script", "k", "many"] (spDrawn K)) (G_great : FnOk P w K mg base CX0 2 A.f_great A.fd_great ["script", "k"] (spGreat K)) : FnOk P w K mg base CX0 3 A.f_upper A.fd_upper ["script", "j", "k"] (spUpper K) := by
  refine T.F_upper.ok sc_upper (fun vs H Q E h => ?_) (fun cdv A' outer s H vs Q E hr h => ?_)
  · obtain ⟨a, ns, j, k, rfl, _⟩ := h
    rfl
  · obtain ⟨a, ns, j, k, rfl, hS, j0, j1, k0, k1, q⟩ := h
    refine ⟨_, (pss_cons (ps_if (PW.pt (pw_and (pt_cmpR op_le (pv 1) (pv 2) (nomark _)) (pw_and1 (pt_cmpR op_eq (pe_call G_drawn (hr.mono (by decide)) (by rfl) T.m__law_drawn T.k__law_drawn T.b__law_drawn .nil pass0 (pa_cons (pv 0) (pa_cons pe_int (pa_cons pe_int pa_nil)))) pe_int (nomark _)))))
        (pss_one (ps_ret (pe_call G_great (hr.mono (by decide)) (by rfl) T.m__law_great T.k__law_great T.b__law_great .nil pass0 (pa_cons (pv 0) (pa_cons (pe_op op_add (pe_op op_mul pe_int (pv 1)) (pv 2)) pa_nil)))))
        pss_nil)
      (pss_cons (ps_if (pt_cmpR op_eq (pv 1) (pv 2) (nomark _))
        (pss_one (ps_ret (pe_op op_sub (pe_call G_drawn (hr.mono (by decide)) (by rfl) T.m__law_drawn T.k__law_drawn T.b__law_drawn .nil pass0 (pa_cons (pv 0) (pa_cons (pe_op op_add pe_int (pv 1)) (pa_cons pe_int pa_nil)))) pe_int)))
        pss_nil)
      (pss_cons (ps_if (pt_cmpR op_gt (pv 1) (pv 2) (nomark _))
        (pss_one (ps_ret pe_int))
        pss_nil)
      (pss_one (ps_ret (pe_op op_sub (pe_call G_drawn (hr.mono (by decide)) (by rfl) T.m__law_drawn T.k__law_drawn T.b__law_drawn .nil pass0 (pa_cons (pv 0) (pa_cons (pe_op op_add (pe_op op_add pe_int (pe_op op_mul pe_int (pv 1))) (pv 2)) (pa_cons pe_int pa_nil)))) pe_int)))))), ?_⟩
    unfold upB at q
    refine seq_mk (fun σ' H' => σ' = [some (.ref a), some (.int j), some (.int k)] ∧ H = H' ∧ ¬ (j ≤ k ∧ drawn ns 3 3 = 1)) ?rest (fun rest => ?way)
    case way =>
      refine ⟨_, rfl, _, rfl, _, _, rfl, rfl, _, rfl, ?_⟩
      refine ite2 (fun h1 => ?_) (fun h1 => iteF (rest _ _ ⟨rfl, rfl, fun z => h1 (by simpa using z.1)⟩))
      have h1' : j ≤ k := by simpa using h1
      refine ⟨_, rfl, a, ns, 3, 3, rfl, hS, by decide, by decide, by decide, rfl, _, rfl, ?_⟩
      refine ite2 (fun h2 => ?_) (fun h2 => rest _ _ ⟨rfl, rfl, fun z => h2 (by simpa using z.2)⟩)
      rw [if_pos ⟨h1', by simpa using h2⟩] at q
      exact ⟨_, rfl, _, rfl, _, _, rfl, rfl, .inl ⟨by decide, by decide⟩, _, rfl, _, _, rfl, rfl, a, ns, _, rfl, hS, by (first | lia | omega), by (first | lia | omega), q⟩
    rintro σ' H' ⟨rfl, rfl, hn⟩
    rw [if_neg hn] at q
    refine ⟨_, rfl, _, rfl, rfl, _, rfl, ?_⟩
    refine ite2 (fun h1 => ?_) (fun h1 => ?_)
    · have h1' : j = k := by simpa using h1
      rw [if_pos h1'] at q
      exact ⟨_, rfl, _, rfl, _, _, rfl, rfl, a, ns, _, _, rfl, hS, by decide, by (first | lia | omega), by (first | lia | omega), _, _, rfl, rfl, q⟩
    have h1' : ¬ j = k := by simpa using h1
    rw [if_neg h1'] at q
    unfold tNext
    refine ⟨_, rfl, _, rfl, _, _, rfl, rfl, _, rfl, ?_⟩
    refine ite2 (fun h2 => ?_) (fun h2 => ?_)
    · have h2' : j > k := by simpa using h2
      rw [if_pos h2'] at q
      exact q
    have h2' : ¬ j > k := by simpa using h2
    rw [if_neg h2'] at q
    exact ⟨_, rfl, _, rfl, _, _, rfl, rfl, .inl ⟨by decide, by decide⟩, _, _, rfl, rfl, _, rfl, _, _, rfl, rfl, a, ns, _, _, rfl, hS, by decide, by (first | lia | omega), by (first | lia | omega), _, _, rfl, rfl, q⟩
theorem sc_law : FnScope ["script", "size", "low", "high", "due", "square", "j", "one", "other", "kept", "found"] ["script"] (defScope s_law) := ⟨rfl, rfl, rfl, by decide +kernel, rfl, by decide +kernel, by decide +kernel⟩
theorem ok_law (T : Txt K mg A) (G_drawn : FnOk P w K mg base CX0 1 A.f_drawn A.fd_drawn ["script", "k", "many"] (spDrawn K)) (G_lower : FnOk P w K mg base CX0 2 A.f_lower A.fd_lower ["script", "j", "k"] (spLower K)) (G_upper : FnOk P w K mg base CX0 3 A.f_upper A.fd_upper ["script", "j", "k"] (spUpper K)) (G_det : FnOk P w K mg base CX0 2 A.f_det A.fd_det ["square"] (spDet K)) : FnOk P w K mg base CX0 8 A.f_law A.fd_law ["script"] (spLaw K) := by
  refine T.F_law.ok sc_law (fun vs H Q E h => ?_) (fun cdv A' outer s H vs Q E hr h => ?_)
  · obtain ⟨a, ns, rfl, _⟩ := h
    rfl
  · obtain ⟨a, ns, rfl, hS, hlen, q⟩ := h
    refine ⟨_, (pss_cons (ps_set (i := 1) sc_law.nd rfl (Or.inr rfl) (pe_op op_add pe_int (pe_call G_drawn (hr.mono (by decide)) (by rfl) T.m__law_drawn T.k__law_drawn T.b__law_drawn .nil pass0 (pa_cons (pv 0) (pa_cons pe_int (pa_cons pe_int pa_nil))))))
      (pss_cons (ps_set (i := 2) sc_law.nd rfl (Or.inr rfl) (pe_compQ (CompSq.of (N' := ["j", "size", "script"]) (ix := [none, some 1, some 0]) rfl (by kernel_rfl) (fun _ _ => rfl) (fun _ => rfl)) rfl rfl rfl (pi_range1 (by rfl) T.n_range (pa_cons (pv 1) pa_nil)) (by exact fun _ _ _ _ _ _ => pf_nil) (by exact fun _ _ _ _ _ _ => (pe_comp (CompSc.of (N' := ["k", "script", "j"]) (ix := [none, some 2, some 0]) rfl (by kernel_rfl)) rfl rfl rfl rfl (pi_range1 (by rfl) T.n_range (pa_cons (pv 1) pa_nil)) (by exact fun _ _ _ _ _ => pf_nil) (by exact fun _ _ _ _ _ => (pe_call G_lower (hr.mono (by decide)) (by rfl) T.m__law_lower T.k__law_lower T.b__law_lower .nil pass0 (pa_cons (pv 1) (pa_cons (pv 2) (pa_cons (pv 0) pa_nil))))) (fun _ => rfl))) (fun _ => rfl)))
      (pss_cons (ps_set (i := 3) sc_law.nd rfl (Or.inr rfl) (pe_compQ (CompSq.of (N' := ["j", "size", "script"]) (ix := [none, some 1, some 0]) rfl (by kernel_rfl) (fun _ _ => rfl) (fun _ => rfl)) rfl rfl rfl (pi_range1 (by rfl) T.n_range (pa_cons (pv 1) pa_nil)) (by exact fun _ _ _ _ _ _ => pf_nil) (by exact fun _ _ _ _ _ _ => (pe_comp (CompSc.of (N' := ["k", "script", "j"]) (ix := [none, some 2, some 0]) rfl (by kernel_rfl)) rfl rfl rfl rfl (pi_range1 (by rfl) T.n_range (pa_cons (pv 1) pa_nil)) (by exact fun _ _ _ _ _ => pf_nil) (by exact fun _ _ _ _ _ => (pe_call G_upper (hr.mono (by decide)) (by rfl) T.m__law_upper T.k__law_upper T.b__law_upper .nil pass0 (pa_cons (pv 1) (pa_cons (pv 2) (pa_cons (pv 0) pa_nil))))) (fun _ => rfl))) (fun _ => rfl)))
      (pss_cons (ps_set (i := 4) sc_law.nd rfl (Or.inl rfl) pe_int)
      (pss_cons (ps_set (i := 5) sc_law.nd rfl (Or.inl rfl) (pe_lst pa_nil))
      (pss_cons (ps_for PassesOwn.never rfl (pi_range1 (by rfl) T.n_range (pa_cons (pv 1) pa_nil)) (pg_name (i := 6) sc_law.nd rfl (Or.inr rfl))
        (pss_cons (ps_set (i := 4) sc_law.nd rfl (Or.inl rfl) (pe_op op_mulB (pv 4) (pe_ix (ix_listK (K := K) rfl) (pe_ix (ix_listK (K := K) rfl) (pv 3) (pv 6) (fun _ _ => rfl)) (pv 6) (fun _ _ => rfl))))
        (pss_one (ps_expr (pe_bm PySem.F.plainAttrs_list PySem.F.slot_list_append PySem.F.type_list_append mt_append (pv 5) (pa_cons (pe_compQ (CompSq.of (N' := ["k", "size", "low", "j", "high"]) (ix := [none, some 1, some 2, some 6, some 3]) rfl (by kernel_rfl) (fun _ _ => rfl) (fun _ => rfl)) rfl rfl rfl (pi_range1 (by rfl) T.n_range (pa_cons (pv 1) pa_nil)) (by exact fun _ _ _ _ _ _ => pf_nil) (by exact fun _ _ _ _ _ _ => (pe_callB (call_sumK (K := K) rfl rfl) (by rfl) T.n_sum PyProof.Rows.Boot.«sum» (pa_cons (pe_comp (CompSc.of (N' := ["m", "low", "j", "high", "k"]) (ix := [none, some 2, some 3, some 4, some 0]) rfl (by kernel_rfl)) rfl rfl rfl rfl (pi_range1 (by rfl) T.n_range (pa_cons (pv 1) pa_nil)) (by exact fun _ _ _ _ _ => pf_nil) (by exact fun _ _ _ _ _ => (pe_op op_mulB (pe_ix (ix_listK (K := K) rfl) (pe_ix (ix_listK (K := K) rfl) (pv 1) (pv 2) (fun _ _ => rfl)) (pv 0) (fun _ _ => rfl)) (pe_ix (ix_listK (K := K) rfl) (pe_ix (ix_listK (K := K) rfl) (pv 3) (pv 0) (fun _ _ => rfl)) (pv 4) (fun _ _ => rfl)))) (fun _ => rfl)) pa_nil))) (fun _ => rfl)) pa_nil))))))
      (pss_cons (ps_set (i := 7) sc_law.nd rfl (Or.inl rfl) (pe_call G_drawn (hr.mono (by decide)) (by rfl) T.m__law_drawn T.k__law_drawn T.b__law_drawn .nil pass0 (pa_cons (pv 0) (pa_cons pe_int (pa_cons (pv 1) pa_nil)))))
      (pss_cons (ps_set (i := 8) sc_law.nd rfl (Or.inl rfl) (pe_call G_drawn (hr.mono (by decide)) (by rfl) T.m__law_drawn T.k__law_drawn T.b__law_drawn .nil pass0 (pa_cons (pv 0) (pa_cons pe_int (pa_cons (pv 1) pa_nil)))))
      (pss_cons (ps_if (pt_cmpR op_ne (pv 7) (pv 8) (nomark _))
        (pss_cons (ps_set (i := 9) sc_law.nd rfl (Or.inl rfl) (pe_ix (ix_listK (K := K) rfl) (pv 5) (pv 7) (fun _ _ => rfl)))
        (pss_cons (ps_asg (pe_ix (ix_listK (K := K) rfl) (pv 5) (pv 8) (fun _ _ => rfl)) (pg_sub (pv 5) (pv 7) set_list))
        (pss_cons (ps_asg (pv 9) (pg_sub (pv 5) (pv 8) set_list))
        (pss_one (ps_set (i := 4) sc_law.nd rfl (Or.inl rfl) (pe_neg (pv 4)))))))
        pss_nil)
      (pss_cons (ps_set (i := 10) sc_law.nd rfl (Or.inl rfl) (pe_call G_det (hr.mono (by decide)) (by rfl) T.m_det T.k_det T.b_det .nil pass0 (pa_cons (pv 5) pa_nil)))
      (pss_one (ps_ret (pe_and (pe_callB (call_isiK (K := K) rfl) (by rfl) T.n_isinstance PyProof.Rows.Boot.«isinstance» (pa_cons (pv 10) (pa_cons (pe_bltn (v := .ty "int") (by rfl) T.n_int PyProof.Rows.Boot.«int» rfl) pa_nil))) (pe_and (pe_not (pe_callB (call_isiK (K := K) rfl) (by rfl) T.n_isinstance PyProof.Rows.Boot.«isinstance» (pa_cons (pv 10) (pa_cons (pe_bltn (v := .ty "bool") (by rfl) T.n_bool PyProof.Rows.Boot.«bool» rfl) pa_nil)))) (pe_one (pe_cmpR op_eq (pv 10) (pv 4) (nomark _))))))))))))))))), ?_⟩
    have d0 := drawn_nn ns 0 (many := 12) (by decide)
    have d1 := drawn_lt ns 0 (many := 12) (by decide)
    refine ⟨_, rfl, a, ns, 0, 12, rfl, hS, by decide, by decide, by decide, _, _, rfl, rfl, ?_⟩
    dsimp only
    obtain ⟨n, hsz⟩ : ∃ n : Nat, 1 + drawn ns 0 12 = (n : Int) := ⟨(1 + drawn ns 0 12).toNat, by (first | lia | omega)⟩
    rw [hsz]
    have hn : n ≤ 12 := by (first | lia | omega)
    have hn1 : 1 ≤ n := by (first | lia | omega)
    have en : ((n : Nat) : Int).toNat = n := by (first | lia | omega)
    refine ⟨_, rfl, _, rfl, by (first | lia | omega), by (first | lia | omega), ?_⟩
    rw [en]
    refine comp_news (ls := (mkM n (low16 ns)).map fun r => r.map V.int) wk_range (by rw [List.length_map, List.length_range]; exact small12 (by (first | lia | omega))) (by simp [mkM]) (fun j x l H3 ex el s3 Q' q' => ?_) (fun as1 H1' s1 hlen1 nd1 fr1 hrows1 R1 hR1 => ?_)
    · have hj : j < n := by have := (List.getElem?_eq_some_iff.mp ex).1; simpa using this
      rw [List.getElem?_map, List.getElem?_range hj] at ex
      cases ex
      unfold mkM at el
      rw [List.getElem?_map, List.getElem?_map, List.getElem?_range hj] at el
      cases el
      refine ⟨_, rfl, _, rfl, by (first | lia | omega), by (first | lia | omega), ?_⟩
      rw [en]
      refine comp_pure (ys := ((List.range n).map fun (k : Nat) => low16 ns j k).map V.int) wk_range (by rw [List.length_map, List.length_range]; exact small12 (by (first | lia | omega))) (by simp) (fun k x y ex ey Q2 q2 => ?_) q'
      have hk : k < n := by have := (List.getElem?_eq_some_iff.mp ex).1; simpa using this
      rw [List.getElem?_map, List.getElem?_range hk] at ex
      rw [List.getElem?_map, List.getElem?_map, List.getElem?_range hk] at ey
      cases ex
      cases ey
      exact ⟨_, rfl, _, rfl, _, rfl, a, ns, _, _, rfl, s3.seq hS, by (first | lia | omega), by (first | lia | omega), by (first | lia | omega), by (first | lia | omega), q2⟩
    rw [List.length_map, mkM_len] at hlen1
    have M1 := mat_of (H := H) (R := R1) (rows := mkM n (low16 ns)) (by rw [mkM_len]; exact hlen1) nd1 s1 hrows1 hR1
    have t1 : Same H (upd H1' R1 (.lst (as1.map V.ref))) := same_upd s1 (s1.free hR1)
    generalize upd H1' R1 (.lst (as1.map V.ref)) = H1 at M1 t1
    refine ⟨_, rfl, _, rfl, by (first | lia | omega), by (first | lia | omega), ?_⟩
    rw [en]
    refine comp_news (ls := (mkM n (up16 ns)).map fun r => r.map V.int) wk_range (by rw [List.length_map, List.length_range]; exact small12 (by (first | lia | omega))) (by simp [mkM]) (fun j x l H3 ex el s3 Q' q' => ?_) (fun as2 H2' s2 hlen2 nd2 fr2 hrows2 R2 hR2 => ?_)
    · have hj : j < n := by have := (List.getElem?_eq_some_iff.mp ex).1; simpa using this
      rw [List.getElem?_map, List.getElem?_range hj] at ex
      cases ex
      unfold mkM at el
      rw [List.getElem?_map, List.getElem?_map, List.getElem?_range hj] at el
      cases el
      refine ⟨_, rfl, _, rfl, by (first | lia | omega), by (first | lia | omega), ?_⟩
      rw [en]
      refine comp_pure (ys := ((List.range n).map fun (k : Nat) => up16 ns j k).map V.int) wk_range (by rw [List.length_map, List.length_range]; exact small12 (by (first | lia | omega))) (by simp) (fun k x y ex ey Q2 q2 => ?_) q'
      have hk : k < n := by have := (List.getElem?_eq_some_iff.mp ex).1; simpa using this
      rw [List.getElem?_map, List.getElem?_range hk] at ex
      rw [List.getElem?_map, List.getElem?_map, List.getElem?_range hk] at ey
      cases ex
      cases ey
      exact ⟨_, rfl, _, rfl, _, rfl, a, ns, _, _, rfl, s3.seq (t1.seq hS), by (first | lia | omega), by (first | lia | omega), by (first | lia | omega), by (first | lia | omega), q2⟩
    rw [List.length_map, mkM_len] at hlen2
    have M2 := mat_of (H := H1) (R := R2) (rows := mkM n (up16 ns)) (by rw [mkM_len]; exact hlen2) nd2 s2 hrows2 hR2
    have t2 : Same H1 (upd H2' R2 (.lst (as2.map V.ref))) := same_upd s2 (s2.free hR2)
    generalize upd H2' R2 (.lst (as2.map V.ref)) = H2 at M2 t2
    have M12 := M1.same t2
    have t02 := t1.trans t2
    dsimp only [gName]
    refine asg_lit ?_
    refine ⟨small12 (by simp), fun S hS0 => ?_⟩
    have hS0' : H S = none := t02.free hS0
    have M0 := Mat.new (H := upd H2 S (.lst [])) (R := S) upd_same
    have sS : Same H2 (upd H2 S (.lst [])) := same_new hS0
    generalize upd H2 S (.lst []) = H3 at M0 sS
    dsimp only [gName]
    refine seq_mk' (fun σ' H' => ∃ (asS : List Addr) (x6 : Option V), σ' = [some (.ref a), some (.int (n : Int)), some (.ref R1), some (.ref R2), some (.int (due16 ns n n)), some (.ref S), x6, none, none, none, none] ∧ Mat H' S asS (mkM n (pr16 ns n)) ∧ Same H2 H') ?rest (fun D1 rest => ?way)
    case way =>
      refine ⟨_, rfl, _, rfl, by (first | lia | omega), by (first | lia | omega), ?_⟩
      rw [en]
      refine for_rangeN (fun i σ H' => ∃ (asS : List Addr) (x6 : Option V), σ = [some (.ref a), some (.int (n : Int)), some (.ref R1), some (.ref R2), some (.int (due16 ns n i)), some (.ref S), x6, none, none, none, none] ∧ Mat H' S asS ((mkM n (pr16 ns n)).take i) ∧ Same H2 H') ⟨[], none, rfl, by rw [List.take_zero]; exact M0, sS⟩ ?_ ?_
      · rintro i σ H4 hi ⟨asS, x6, rfl, MS, s4⟩ DD hDD
        have e0 : (0 + (i : Int)).toNat = i := by (first | lia | omega)
        have MH := M2.same s4
        have ML := M12.same s4
        obtain ⟨c, hat, hc, _⟩ := MH.at (z := 0 + (i : Int)) (by (first | lia | omega)) (by rw [mkM_len]; (first | lia | omega))
        rw [e0, mkM_get hi] at hc
        have a0 : atI (((List.range n).map fun k => up16 ns i k).map V.int) (0 + (i : Int)) = some (V.int (up16 ns i i)) := by
          have := at_ints (ns := (List.range n).map fun k => up16 ns i k) (i := 0 + (i : Int)) (by (first | lia | omega)) (by simp; (first | lia | omega))
          rw [e0, rowM_get hi] at this
          exact this
        refine ⟨_, rfl, _, rfl, _, rfl, _, _, _, _, rfl, rfl, MH.sq, hat, _, rfl, _, _, _, _, rfl, rfl, SqL.of hc, a0, _, _, rfl, rfl, ⟨due16_CB ns n (by (first | lia | omega)), small_CB (upB_bd ns _ _) (Nat.le_refl _)⟩, ?_⟩
        dsimp only
        rw [← due16_succ ns hi]
        have hRS : H4 S = some (.lst (asS.map V.ref)) := MS.hd
        refine ⟨_, rfl, .inl ⟨rfl, _, SqL.of hRS⟩, _, rfl, _, rfl, by (first | lia | omega), by (first | lia | omega), ?_⟩
        rw [en]
        refine comp_inv wk_range (fun k ys H5 => Same H4 H5 ∧ ys = ((List.range k).map fun k => pr16 ns n i k).map V.int) ⟨Same.refl _, rfl⟩ (fun k ys H5 h => h.1) (fun k x ys H5 hx hP => ?_) (fun k ys H5 hk hP => ?_) (fun ys H5 hP D hD => ?_)
        · obtain ⟨s5, rfl⟩ := hP
          have hk : k < n := by have := (List.getElem?_eq_some_iff.mp hx).1; simpa using this
          rw [List.getElem?_map, List.getElem?_range hk] at hx
          cases hx
          unfold tYes
          dsimp only
          rw [if_pos rfl]
          have ML5 := ML.same s5
          have MH5 := MH.same s5
          refine ⟨_, rfl, _, rfl, by (first | lia | omega), by (first | lia | omega), ?_⟩
          rw [en]
          refine comp_pure (ys := ((List.range n).map fun (m : Nat) => low16 ns i m * up16 ns m k).map V.int) wk_range (by rw [List.length_map, List.length_range]; exact small12 (by (first | lia | omega))) (by simp) (fun m x y ex ey Q2 q2 => ?_) (fun L hL => ?_)
          · have hm : m < n := by have := (List.getElem?_eq_some_iff.mp ex).1; simpa using this
            rw [List.getElem?_map, List.getElem?_range hm] at ex
            rw [List.getElem?_map, List.getElem?_map, List.getElem?_range hm] at ey
            cases ex
            cases ey
            have em : (0 + (m : Int)).toNat = m := by (first | lia | omega)
            have ek : (0 + (k : Int)).toNat = k := by (first | lia | omega)
            obtain ⟨c1, hat1, hc1, _⟩ := ML5.at (z := 0 + (i : Int)) (by (first | lia | omega)) (by rw [mkM_len]; (first | lia | omega))
            rw [e0, mkM_get hi] at hc1
            obtain ⟨c2, hat2, hc2, _⟩ := MH5.at (z := 0 + (m : Int)) (by (first | lia | omega)) (by rw [mkM_len]; (first | lia | omega))
            rw [em, mkM_get hm] at hc2
            have a1 : atI (((List.range n).map fun k => low16 ns i k).map V.int) (0 + (m : Int)) = some (V.int (low16 ns i m)) := by
              have := at_ints (ns := (List.range n).map fun k => low16 ns i k) (i := 0 + (m : Int)) (by (first | lia | omega)) (by simp; (first | lia | omega))
              rw [em, rowM_get hm] at this
              exact this
            have a2 : atI (((List.range n).map fun k => up16 ns m k).map V.int) (0 + (k : Int)) = some (V.int (up16 ns m k)) := by
              have := at_ints (ns := (List.range n).map fun k => up16 ns m k) (i := 0 + (k : Int)) (by (first | lia | omega)) (by simp; (first | lia | omega))
              rw [ek, rowM_get hk] at this
              exact this
            exact ⟨_, rfl, _, rfl, _, _, _, _, rfl, rfl, ML5.sq, hat1, _, rfl, _, _, _, _, rfl, rfl, SqL.of hc1, a1, _, rfl, _, rfl, _, _, _, _, rfl, rfl, MH5.sq, hat2, _, rfl, _, _, _, _, rfl, rfl, SqL.of hc2, a2, _, _, rfl, rfl, ⟨small_CB (lowB_bd ns _ _) (by decide), small_CB (upB_bd ns _ _) (Nat.le_refl _)⟩, q2⟩
          refine ⟨L, _, rfl, SqL.of upd_same, same_upd s5 (s5.free hL), ?_⟩
          rw [List.range_succ, List.map_append, List.map_append]
          rfl
        · obtain ⟨s5, rfl⟩ := hP
          have hk' : k < n := by simpa using hk
          rw [List.length_map, List.length_map, List.length_range]
          exact small1000 (by (first | lia | omega))
        obtain ⟨s5, rfl⟩ := hP
        rw [List.length_map, List.length_range]
        have MS5 := MS.same s5
        have hD4 : H4 D = none := s5.free hD
        have hDn := mat_no MS5 hD
        have hSD : S ≠ D := fun z => hDn (by rw [← z]; exact List.mem_cons_self)
        have hR3 : (upd H5 D (.lst (((List.range n).map fun k => pr16 ns n i k).map V.int))) S = some (.lst (asS.map V.ref)) := by rw [upd_ne hSD]; exact MS5.hd
        refine ⟨S, _, _, rfl, rfl, hR3, (by rw [MS.reflen, List.length_take, mkM_len]; exact small1000 (by (first | lia | omega))), ?_⟩
        refine hDD _ _ ⟨asS ++ [D], _, rfl, ?_, ?_⟩
        · have := (MS5.upd (b := D) hDn).snoc (D := D) (r := (List.range n).map fun k => pr16 ns n i k) upd_same hDn
          rw [take_snoc (x := (List.range n).map fun k => pr16 ns n i k) (by unfold mkM; rw [List.getElem?_map, List.getElem?_range hi]; rfl)]
          exact this
        · have sU : Same H2 (upd H5 D (.lst (((List.range n).map fun k => pr16 ns n i k).map V.int))) := same_upd (s4.trans s5) ((s4.trans s5).free hD)
          exact same_upd sU hS0
      · rintro σ H4 ⟨asS, x6, rfl, MS, s4⟩
        refine rest _ _ ⟨asS, x6, rfl, ?_, s4⟩
        rw [List.take_of_length_le (by rw [mkM_len]; exact Nat.le_refl _)] at MS
        exact MS
    rintro σ' H4 ⟨asS, x6, rfl, MS, s4⟩
    have s04 := t02.trans s4
    have f0 := drawn_nn ns 1 (many := (n : Int)) (by (first | lia | omega))
    have f1 := drawn_lt ns 1 (many := (n : Int)) (by (first | lia | omega))
    have g0 := drawn_nn ns 2 (many := (n : Int)) (by (first | lia | omega))
    have g1 := drawn_lt ns 2 (many := (n : Int)) (by (first | lia | omega))
    refine ⟨_, rfl, _, rfl, a, ns, 1, _, rfl, s04.seq hS, by (first | lia | omega), by decide, by decide, ?_⟩
    refine ⟨_, rfl, _, rfl, a, ns, 2, _, rfl, s04.seq hS, by (first | lia | omega), by decide, by decide, ?_⟩
    generalize drawn ns 1 (n : Int) = one at f0 f1
    generalize drawn ns 2 (n : Int) = oth at g0 g1
    have SS : Sq n (mkM n (pr16 ns n)) := by
      refine ⟨mkM_len _ _, fun r hr => ?_, fun r hr e he => ?_⟩
      · obtain ⟨j, _, rfl⟩ := List.mem_map.mp hr
        simp
      · obtain ⟨j, _, rfl⟩ := List.mem_map.mp hr
        obtain ⟨k, _, rfl⟩ := List.mem_map.mp he
        exact pr16_bd ns hn j k
    have hd := det16 ns n
    have hlS : (mkM n (pr16 ns n)).length = n := mkM_len _ _
    have hCB := due16_CB ns n hn
    generalize due16 ns n n = du at hd hCB
    generalize mkM n (pr16 ns n) = rows at MS SS hd hlS
    have hla : asS.length = n := by rw [MS.len, hlS]
    dsimp only [gName]
    refine seq_mk' (fun σ' H' => ∃ (as : List Addr) (rows : List (List Int)) (du : Int) (x6 x7 x8 x9 : Option V), σ' = [some (.ref a), some (.int (n : Int)), some (.ref R1), some (.ref R2), some (.int du), some (.ref S), x6, x7, x8, x9, none] ∧ Mat H' S as rows ∧ Sq n rows ∧ dt n (rows.map Com.fn) 0 = du) ?rest2 (fun D2 rest => ?way2)
    case way2 =>
      refine ⟨_, rfl, _, rfl, rfl, _, rfl, ?_⟩
      refine ite2 (fun hne => ?_) (fun _ => rest _ _ ⟨asS, rows, du, _, _, _, _, rfl, MS, SS, hd⟩)
      have hne' : one ≠ oth := by simpa using hne
      obtain ⟨i, rfl⟩ : ∃ i : Nat, one = (i : Int) := ⟨one.toNat, by (first | lia | omega)⟩
      obtain ⟨j, rfl⟩ : ∃ j : Nat, oth = (j : Int) := ⟨oth.toNat, by (first | lia | omega)⟩
      have hi : i < asS.length := by (first | lia | omega)
      have hj : j < asS.length := by (first | lia | omega)
      have ati : atI (asS.map V.ref) (i : Int) = some (.ref asS[i]) := at_list (n := i) rfl (by rw [List.getElem?_map, List.getElem?_eq_getElem hi]; rfl)
      have atj : atI (asS.map V.ref) (j : Int) = some (.ref asS[j]) := at_list (n := j) rfl (by rw [List.getElem?_map, List.getElem?_eq_getElem hj]; rfl)
      have ti : ((i : Int)).toNat = i := by (first | lia | omega)
      have tj : ((j : Int)).toNat = j := by (first | lia | omega)
      refine ⟨_, rfl, _, rfl, _, _, _, _, rfl, rfl, MS.sq, ati, ?_⟩
      refine ⟨_, rfl, _, rfl, _, _, _, _, rfl, rfl, MS.sq, atj, ?_⟩
      refine ⟨_, rfl, _, rfl, S, _, _, _, rfl, rfl, MS.hd, ixN_in f0 (by rw [List.length_map]; (first | lia | omega)), ?_⟩
      refine ⟨_, rfl, _, rfl, _, rfl, S, _, _, _, rfl, rfl, upd_same, ixN_in g0 (by rw [List.length_set, List.length_map]; (first | lia | omega)), ?_⟩
      refine ⟨_, rfl, _, rfl, ?_⟩
      rw [upd_upd, ti, tj]
      have em : ((asS.map V.ref).set i (V.ref asS[j])).set j (V.ref asS[i]) = ((asS.set i asS[j]).set j asS[i]).map V.ref := by
        rw [List.map_set, List.map_set]
      rw [em]
      have hri : i < rows.length := by (first | lia | omega)
      have hrj : j < rows.length := by (first | lia | omega)
      by_cases hij : i < j
      · refine rest _ _ ⟨_, _, _, _, _, _, _, rfl, mat_swap MS hij hrj hri hj hi, sq_swapped SS hij hrj hri, ?_⟩
        rw [dt_swapped hlS hij hrj hri, hd]
      · have hji : j < i := by (first | lia | omega)
        rw [show (asS.set i asS[j]).set j asS[i] = (asS.set j asS[i]).set i asS[j] from List.set_comm _ _ (by (first | lia | omega))]
        refine rest _ _ ⟨_, _, _, _, _, _, _, rfl, mat_swap MS hji hri hrj hi hj, sq_swapped SS hji hri hrj, ?_⟩
        rw [dt_swapped hlS hji hri hrj, hd]
    rintro σ' H5 ⟨as, rows', du', x6, x7, x8, x9, rfl, M5, S5, hd5⟩
    refine ⟨_, rfl, S, as, rows', n, rfl, M5, S5, hn, fun H6 s6 => ?_⟩
    rw [hd5]
    refine ⟨_, rfl, _, _, _, _, true, rfl, rfl, .int _, rfl, _, rfl, ?_⟩
    refine iteT ?_
    refine ⟨_, rfl, _, _, _, _, false, rfl, rfl, .int _, T.q_int_bool, _, rfl, _, rfl, ?_⟩
    refine iteT ?_
    exact ⟨_, rfl, _, rfl, rfl, by rw [decide_eq_true rfl]; exact q _⟩
end

theorem all_mk {l : PySem.W.OpenLaw} {w : World} {K : PySem.W.Frag} {h : Heap} {mg : Str → Option Value} {fa : Addr} (X : K.In h) (G : h.Ns mainGlobals mg) (hfa : mg "law" = some (.ref fa))
    {f_det : Addr} {od_det an_det : Option Addr} {sl_det : Array (Option Value)} {oc_det kV_det dc_det pm_det cd_det ct_det : Value}
    {f_cleared : Addr} {od_cleared an_cleared : Option Addr} {sl_cleared : Array (Option Value)} {oc_cleared kV_cleared dc_cleared pm_cleared cd_cleared ct_cleared : Value}
    {f_drawn : Addr} {od_drawn an_drawn : Option Addr} {sl_drawn : Array (Option Value)} {oc_drawn kV_drawn dc_drawn pm_drawn cd_drawn ct_drawn : Value}
    {f_lower : Addr} {od_lower an_lower : Option Addr} {sl_lower : Array (Option Value)} {oc_lower kV_lower dc_lower pm_lower cd_lower ct_lower : Value}
    {f_great : Addr} {od_great an_great : Option Addr} {sl_great : Array (Option Value)} {oc_great kV_great dc_great pm_great cd_great ct_great : Value}
    {f_upper : Addr} {od_upper an_upper : Option Addr} {sl_upper : Array (Option Value)} {oc_upper kV_upper dc_upper pm_upper cd_upper ct_upper : Value}
    {f_law : Addr} {od_law an_law : Option Addr} {sl_law : Array (Option Value)} {oc_law kV_law dc_law pm_law cd_law ct_law : Value}
    (a_det : PySem.W.nsIn K mainGlobals "det" = some (some (.ref f_det)))
    (l_det : K.lookup f_det = some ⟨oc_det, od_det, .func (PySem.W.fnOf "det" "det" (defArgs s_det) (defBody s_det) (defScope s_det) .none kV_det dc_det pm_det an_det cd_det ct_det), sl_det⟩) (c_det : PySem.W.codeIn K cd_det "det" = true) (k_det : PySem.W.keepIn K (.ref f_det) = true)
    (a_cleared : PySem.W.nsIn K mainGlobals "cleared" = some (some (.ref f_cleared)))
    (l_cleared : K.lookup f_cleared = some ⟨oc_cleared, od_cleared, .func (PySem.W.fnOf "cleared" "cleared" (defArgs s_cleared) (defBody s_cleared) (defScope s_cleared) .none kV_cleared dc_cleared pm_cleared an_cleared cd_cleared ct_cleared), sl_cleared⟩) (c_cleared : PySem.W.codeIn K cd_cleared "cleared" = true) (k_cleared : PySem.W.keepIn K (.ref f_cleared) = true)
    (a_drawn : PySem.W.nsIn K mainGlobals "_law_drawn" = some (some (.ref f_drawn)))
    (l_drawn : K.lookup f_drawn = some ⟨oc_drawn, od_drawn, .func (PySem.W.fnOf "_law_drawn" "_law_drawn" (defArgs s_drawn) (defBody s_drawn) (defScope s_drawn) .none kV_drawn dc_drawn pm_drawn an_drawn cd_drawn ct_drawn), sl_drawn⟩) (c_drawn : PySem.W.codeIn K cd_drawn "_law_drawn" = true) (k_drawn : PySem.W.keepIn K (.ref f_drawn) = true)
    (a_lower : PySem.W.nsIn K mainGlobals "_law_lower" = some (some (.ref f_lower)))
    (l_lower : K.lookup f_lower = some ⟨oc_lower, od_lower, .func (PySem.W.fnOf "_law_lower" "_law_lower" (defArgs s_lower) (defBody s_lower) (defScope s_lower) .none kV_lower dc_lower pm_lower an_lower cd_lower ct_lower), sl_lower⟩) (c_lower : PySem.W.codeIn K cd_lower "_law_lower" = true) (k_lower : PySem.W.keepIn K (.ref f_lower) = true)
    (a_great : PySem.W.nsIn K mainGlobals "_law_great" = some (some (.ref f_great)))
    (l_great : K.lookup f_great = some ⟨oc_great, od_great, .func (PySem.W.fnOf "_law_great" "_law_great" (defArgs s_great) (defBody s_great) (defScope s_great) .none kV_great dc_great pm_great an_great cd_great ct_great), sl_great⟩) (c_great : PySem.W.codeIn K cd_great "_law_great" = true) (k_great : PySem.W.keepIn K (.ref f_great) = true)
    (a_upper : PySem.W.nsIn K mainGlobals "_law_upper" = some (some (.ref f_upper)))
    (l_upper : K.lookup f_upper = some ⟨oc_upper, od_upper, .func (PySem.W.fnOf "_law_upper" "_law_upper" (defArgs s_upper) (defBody s_upper) (defScope s_upper) .none kV_upper dc_upper pm_upper an_upper cd_upper ct_upper), sl_upper⟩) (c_upper : PySem.W.codeIn K cd_upper "_law_upper" = true) (k_upper : PySem.W.keepIn K (.ref f_upper) = true)
    (a_law : PySem.W.nsIn K mainGlobals "law" = some (some (.ref f_law)))
    (l_law : K.lookup f_law = some ⟨oc_law, od_law, .func (PySem.W.fnOf "law" "law" (defArgs s_law) (defBody s_law) (defScope s_law) .none kV_law dc_law pm_law an_law cd_law ct_law), sl_law⟩) (c_law : PySem.W.codeIn K cd_law "law" = true) (k_law : PySem.W.keepIn K (.ref f_law) = true)
    (z_len : PySem.W.nsIn K mainGlobals "len" = some none)
    (z_range : PySem.W.nsIn K mainGlobals "range" = some none)
    (z_isinstance : PySem.W.nsIn K mainGlobals "isinstance" = some none)
    (z_int : PySem.W.nsIn K mainGlobals "int" = some none)
    (z_bool : PySem.W.nsIn K mainGlobals "bool" = some none)
    (z_sum : PySem.W.nsIn K mainGlobals "sum" = some none)
    (z_enumerate : PySem.W.nsIn K mainGlobals "enumerate" = some none)
    (q_int_bool : PySem.W.kitOne K (.type "int") (.type "bool") = some false)
    : ∃ fd : FuncData, (∀ (s : Shared) (v : Value), BindsTo s fd ⟨[v], []⟩ [("script", v)]) ∧ ∀ base : Heap, K.In base → base.Ns mainGlobals mg → FnOk l.prog w K mg base CX0 8 fa fd ["script"] (spLaw K) := by
  have e := hfa.symm.trans (PySem.W.mg_of X G a_law)
  cases e
  have F_det := fun_mk (st := s_det) l_det c_det k_det
  have b_det := F_det.binds1 (p0 := "square") fun _ _ _ _ _ _ _ => rfl
  have F_cleared := fun_mk (st := s_cleared) l_cleared c_cleared k_cleared
  have b_cleared := F_cleared.binds3 (p0 := "row") (p1 := "top") (p2 := "lead") fun _ _ _ _ _ _ _ _ _ => rfl
  have F_drawn := fun_mk (st := s_drawn) l_drawn c_drawn k_drawn
  have b_drawn := F_drawn.binds3 (p0 := "script") (p1 := "k") (p2 := "many") fun _ _ _ _ _ _ _ _ _ => rfl
  have F_lower := fun_mk (st := s_lower) l_lower c_lower k_lower
  have b_lower := F_lower.binds3 (p0 := "script") (p1 := "j") (p2 := "k") fun _ _ _ _ _ _ _ _ _ => rfl
  have F_great := fun_mk (st := s_great) l_great c_great k_great
  have b_great := F_great.binds2 (p0 := "script") (p1 := "k") fun _ _ _ _ _ _ _ _ => rfl
  have F_upper := fun_mk (st := s_upper) l_upper c_upper k_upper
  have b_upper := F_upper.binds3 (p0 := "script") (p1 := "j") (p2 := "k") fun _ _ _ _ _ _ _ _ _ => rfl
  have F_law := fun_mk (st := s_law) l_law c_law k_law
  have b_law := F_law.binds1 (p0 := "script") fun _ _ _ _ _ _ _ => rfl
  have T : Txt K mg { f_det := f_det, fd_det := PySem.W.fnOf "det" "det" (defArgs s_det) (defBody s_det) (defScope s_det) .none kV_det dc_det pm_det an_det cd_det ct_det, f_cleared := f_cleared, fd_cleared := PySem.W.fnOf "cleared" "cleared" (defArgs s_cleared) (defBody s_cleared) (defScope s_cleared) .none kV_cleared dc_cleared pm_cleared an_cleared cd_cleared ct_cleared, f_drawn := f_drawn, fd_drawn := PySem.W.fnOf "_law_drawn" "_law_drawn" (defArgs s_drawn) (defBody s_drawn) (defScope s_drawn) .none kV_drawn dc_drawn pm_drawn an_drawn cd_drawn ct_drawn, f_lower := f_lower, fd_lower := PySem.W.fnOf "_law_lower" "_law_lower" (defArgs s_lower) (defBody s_lower) (defScope s_lower) .none kV_lower dc_lower pm_lower an_lower cd_lower ct_lower, f_great := f_great, fd_great := PySem.W.fnOf "_law_great" "_law_great" (defArgs s_great) (defBody s_great) (defScope s_great) .none kV_great dc_great pm_great an_great cd_great ct_great, f_upper := f_upper, fd_upper := PySem.W.fnOf "_law_upper" "_law_upper" (defArgs s_upper) (defBody s_upper) (defScope s_upper) .none kV_upper dc_upper pm_upper an_upper cd_upper ct_upper, f_law := fa, fd_law := PySem.W.fnOf "law" "law" (defArgs s_law) (defBody s_law) (defScope s_law) .none kV_law dc_law pm_law an_law cd_law ct_law } := { F_det := F_det, m_det := PySem.W.mg_of X G a_det, k_det := k_det, b_det := b_det, F_cleared := F_cleared, m_cleared := PySem.W.mg_of X G a_cleared, k_cleared := k_cleared, b_cleared := b_cleared, F_drawn := F_drawn, m__law_drawn := PySem.W.mg_of X G a_drawn, k__law_drawn := k_drawn, b__law_drawn := b_drawn, F_lower := F_lower, m__law_lower := PySem.W.mg_of X G a_lower, k__law_lower := k_lower, b__law_lower := b_lower, F_great := F_great, m__law_great := PySem.W.mg_of X G a_great, k__law_great := k_great, b__law_great := b_great, F_upper := F_upper, m__law_upper := PySem.W.mg_of X G a_upper, k__law_upper := k_upper, b__law_upper := b_upper, F_law := F_law, m_law := PySem.W.mg_of X G a_law, k_law := k_law, b_law := b_law, n_len := PySem.W.mg_none_of X G z_len, n_range := PySem.W.mg_none_of X G z_range, n_isinstance := PySem.W.mg_none_of X G z_isinstance, n_int := PySem.W.mg_none_of X G z_int, n_bool := PySem.W.mg_none_of X G z_bool, n_sum := PySem.W.mg_none_of X G z_sum, n_enumerate := PySem.W.mg_none_of X G z_enumerate, q_int_bool := q_int_bool }
  exact ⟨PySem.W.fnOf "law" "law" (defArgs s_law) (defBody s_law) (defScope s_law) .none kV_law dc_law pm_law an_law cd_law ct_law, fun s v => .of_eq rfl, fun base _ _ => ok_law T (ok_drawn T) (ok_lower T (ok_drawn T)) (ok_upper T (ok_drawn T) (ok_great T (ok_drawn T))) (ok_det T (ok_cleared T))⟩
theorem walk {l : PySem.W.OpenLaw} {q : Program} {loose : List Str} {XP : (Str → Option Value) → Heap → Prop} {YP : World → Heap → Prop} {d : DefRec} {K : Params → PySem.W.Frag} (hn : l.most = some 63) (hdf : d.params.defaults = [])
    (hY : ∀ (w : World) (h : Heap), YP w h → (K w.params).In h)
    (F : ∀ (w : World) (mg : Str → Option Value) (fa : Addr) (h : Heap), (K w.params).In h → h.Ns mainGlobals mg → mg d.name = some (.ref fa) →
      ∃ fd : FuncData, (∀ (s : Shared) (u : Value), BindsTo s fd ⟨[u], []⟩ [("script", u)]) ∧ ∀ base : Heap, (K w.params).In base → base.Ns mainGlobals mg → FnOk l.prog w (K w.params) mg base CX0 8 fa fd ["script"] (spLaw (K w.params))) :
    PySem.W.WalkO q loose XP YP l.row.toRowW d [] (fun f vs => PySem.call f vs) :=
  L2.walk_of (n := 63) (k := 8) (x := "script") (CX := fun _ => CX0) (sp := fun w => spLaw (K w.params)) hn (by decide) hdf ⟨rfl, by decide, by decide⟩ hY F (fun _ _ a ns hl _ hS => ⟨a, ns, rfl, hS, hl, fun _ => rfl⟩) fun _ _ _ _ _ z => z
end Law
theorem PySem.W.Fast.tw3136654094234650043 : True := trivial
theorem PySem.W.Fast.tw7057250702199935395 : True := trivial
theorem PySem.W.Fast.tw1406383856627890777 : True := trivial
theorem PySem.W.Fast.tw5326333353155808739 : True := trivial
theorem PySem.W.Fast.tw15523479893622566496 : True := trivial
open PySem PySem.W PyProof.Rows
set_option maxRecDepth 100000 in
set_option maxHeartbeats 0 in
theorem PySem.Challenge.cw_marblerun_k16_determinants_made_holds : PySem.Challenge.rw_marblerun_k16_determinants_made.Holds := by
  w_on; o_law; k_head; (case hw => w_witness2)
  k_fill
  refine Law.walk (l := PySem.Challenge.rw_marblerun_k16_determinants_made) rfl rfl (fun w h Y => PySem.W.kIn_of Y) ?F
  case F =>
    intro w mg fa h KX G hmg
    refine' Law.all_mk KX G hmg ?a_det ?l_det ?c_det ?k_det ?a_cleared ?l_cleared ?c_cleared ?k_cleared ?a_drawn ?l_drawn ?c_drawn ?k_drawn ?a_lower ?l_lower ?c_lower ?k_lower ?a_great ?l_great ?c_great ?k_great ?a_upper ?l_upper ?c_upper ?k_upper ?a_law ?l_law ?c_law ?k_law ?z_len ?z_range ?z_isinstance ?z_int ?z_bool ?z_sum ?z_enumerate ?q_int_bool
    (case a_det => k_is)
    (case l_det => k_is)
    (case c_det => k_is)
    (case k_det => k_is)
    (case a_cleared => k_is)
    (case l_cleared => k_is)
    (case c_cleared => k_is)
    (case k_cleared => k_is)
    (case a_drawn => k_is)
    (case l_drawn => k_is)
    (case c_drawn => k_is)
    (case k_drawn => k_is)
    (case a_lower => k_is)
    (case l_lower => k_is)
    (case c_lower => k_is)
    (case k_lower => k_is)
    (case a_great => k_is)
    (case l_great => k_is)
    (case c_great => k_is)
    (case k_great => k_is)
    (case a_upper => k_is)
    (case l_upper => k_is)
    (case c_upper => k_is)
    (case k_upper => k_is)
    (case a_law => k_is)
    (case l_law => k_is)
    (case c_law => k_is)
    (case k_law => k_is)
    (case z_len => k_is)
    (case z_range => k_is)
    (case z_isinstance => k_is)
    (case z_int => k_is)
    (case z_bool => k_is)
    (case z_sum => k_is)
    (case z_enumerate => k_is)
    (case q_int_bool => kit_is)
#print axioms PySem.Challenge.cw_marblerun_k16_determinants_made_holds
