import PyProof.Rows.All
import Wide.All
import OpenK.AllK
import Wide.FinOn
import Lean
import PyProof.EqAt
import PyProof.EqKinds
import PyProof.TupleCall
import PySem.Challenge.RW_marblerun_k22_whole_marbles_exchanged
set_option Elab.async false
set_option linter.all false
set_option maxRecDepth 100000
namespace L2
open PySem PySem.Spec PyProof.Rows

/-- a key: an int or a str -/
abbrev Key := Sum Int Str
def keyIs : Key → Value → Bool
  | .inl k, v => Value.isInt k v
  | .inr x, v => Value.isStrOf x v
def keyH (w : World) : Key → Int
  | .inl k => hashInt k
  | .inr x => hashStr w x
theorem keyIs_shape : ∀ {k : Key} {v : Value}, keyIs k v = true → (∃ i t, k = Sum.inl i ∧ v = Value.int i t) ∨ (∃ x t, k = Sum.inr x ∧ v = Value.str x t)
  | .inl i, v, h => by
    obtain ⟨t, e⟩ := Value.isInt_shape (k := i) (v := v) h
    exact .inl ⟨i, t, rfl, e⟩
  | .inr x, v, h => by
    obtain ⟨t, e⟩ := Value.isStrOf_shape (x := x) (v := v) h
    exact .inr ⟨x, t, rfl, e⟩
theorem keyIs_int (i : Int) (t : Tok) : keyIs (.inl i) (.int i t) = true := by simp [keyIs, Value.isInt]
theorem keyIs_str (x : Str) (t : Tok) : keyIs (.inr x) (.str x t) = true := by simp [keyIs, Value.isStrOf]
theorem key_ll (a b : Int) : decide ((Sum.inl a : Key) = Sum.inl b) = (a == b) := by
  by_cases e : a = b
  · subst e; simp
  · have h : ¬ (Sum.inl a : Key) = Sum.inl b := fun q => e (Sum.inl.inj q)
    rw [decide_eq_false h]
    exact (beq_eq_false_iff_ne.mpr e).symm
theorem key_rr (a b : Str) : decide ((Sum.inr a : Key) = Sum.inr b) = decide (a = b) := by
  by_cases e : a = b
  · subst e; simp
  · have h : ¬ (Sum.inr a : Key) = Sum.inr b := fun q => e (Sum.inr.inj q)
    rw [decide_eq_false h, decide_eq_false e]
theorem key_lr (a : Int) (b : Str) : decide ((Sum.inl a : Key) = Sum.inr b) = false := decide_eq_false (fun q => nomatch q)
theorem key_rl (a : Str) (b : Int) : decide ((Sum.inr a : Key) = Sum.inl b) = false := decide_eq_false (fun q => nomatch q)

def mixKind (prog : Program) (w : World) : PySem.KeyKind prog w Key where
  is := keyIs
  hash := keyH w
  inj := fun v a b ha hb => by
    rcases keyIs_shape ha with ⟨i, t, rfl, rfl⟩ | ⟨x, t, rfl, rfl⟩
    · rcases keyIs_shape hb with ⟨j, u, rfl, e⟩ | ⟨y, u, rfl, e⟩
      · injection e with e1 _; rw [e1]
      · exact nomatch e
    · rcases keyIs_shape hb with ⟨j, u, rfl, e⟩ | ⟨y, u, rfl, e⟩
      · exact nomatch e
      · injection e with e1 _; rw [e1]
  byValue := fun k v h => by
    rcases keyIs_shape h with ⟨i, t, rfl, rfl⟩ | ⟨x, t, rfl, rfl⟩ <;> rfl
  pyHash := fun hv h => by
    rcases keyIs_shape hv with ⟨i, t, rfl, rfl⟩ | ⟨x, t, rfl, rfl⟩
    · exact wpAny_pyHash_int h
    · exact wpAny_pyHash_str h
  eqBool := fun hu hv h => by
    rcases keyIs_shape hu with ⟨i, t, rfl, rfl⟩ | ⟨x, t, rfl, rfl⟩
    · rcases keyIs_shape hv with ⟨j, u, rfl, rfl⟩ | ⟨y, u, rfl, rfl⟩
      · rw [key_ll] at h; exact wpAny_eqBool_int h
      · rw [key_lr] at h; exact SeqAt.EqAt.int_str i t y u _ _ _ _ h
    · rcases keyIs_shape hv with ⟨j, u, rfl, rfl⟩ | ⟨y, u, rfl, rfl⟩
      · rw [key_rl] at h; exact SeqAt.EqAt.str_int x t j u _ _ _ _ h
      · rw [key_rr] at h; exact wpAny_eqBool_str h
  «strs» := fun k x t v h => by
    rcases keyIs_shape h with ⟨i, u, rfl, e⟩ | ⟨y, u, rfl, e⟩
    · exact nomatch e
    · injection e with e1 _
      subst e1
      cases v <;> rfl

theorem mixKind_int (prog : Program) (w : World) (i : Int) (t : Tok) : (mixKind prog w).is (.inl i) (.int i t) = true := keyIs_int i t
theorem mixKind_str (prog : Program) (w : World) (x : Str) (t : Tok) : (mixKind prog w).is (.inr x) (.str x t) = true := keyIs_str x t
end L2

namespace L2
open PySem PySem.Spec PyProof.Rows

/-- a value, without the heap -/
inductive V where
  | non | bl (b : Bool) | int (i : Int) | str (x : Str) | byt (b : Array UInt8) | flt (b : UInt64) | ref (a : Addr) | ty (n : String)
  deriving DecidableEq

def RelV : V → Value → Prop
  | .non, u => u = Value.none
  | .bl b, u => u = Value.bool b
  | .int i, u => ∃ t, u = Value.int i t
  | .str x, u => ∃ t, u = Value.str x t
  | .byt b, u => ∃ t, u = Value.bytes b t
  | .flt b, u => ∃ t, u = Value.float b t
  | .ref a, u => u = Value.ref a
  | .ty n, u => u = Value.type n

abbrev Vals : List V → List Value → Prop := Paired RelV
theorem Vals.length {xs : List V} {us : List Value} (r : Vals xs us) : xs.length = us.length := Paired.length r
theorem Vals.get : ∀ {xs : List V} {us : List Value} {i : Nat} {x : V}, Vals xs us → xs[i]? = some x → ∃ u, us[i]? = some u ∧ RelV x u
  | _, _, _, _, .nil, e => by simp at e
  | _, _, 0, _, .cons r _, e => by simp at e; subst e; exact ⟨_, rfl, r⟩
  | _, _, i + 1, x, .cons _ t, e => by
    obtain ⟨u, h1, h2⟩ := Vals.get (i := i) (x := x) t (by simpa using e)
    exact ⟨u, by simpa using h1, h2⟩
theorem Vals.set {x : V} {u : Value} (r : RelV x u) : ∀ {xs : List V} {us : List Value} (i : Nat), Vals xs us → Vals (xs.set i x) (us.set i u)
  | _, _, _, .nil => .nil
  | _, _, 0, .cons _ t => .cons r t
  | _, _, i + 1, .cons q t => .cons q (Vals.set r i t)
theorem Vals.append : ∀ {xs ys : List V} {us ws : List Value}, Vals xs us → Vals ys ws → Vals (xs ++ ys) (us ++ ws)
  | _, _, _, _, .nil, s => s
  | _, _, _, _, .cons r t, s => .cons r (Vals.append t s)
theorem Vals.take : ∀ {xs : List V} {us : List Value} (n : Nat), Vals xs us → Vals (xs.take n) (us.take n)
  | _, _, 0, _ => .nil
  | _, _, _ + 1, .nil => .nil
  | _, _, n + 1, .cons r t => .cons r (Vals.take n t)
theorem Vals.drop : ∀ {xs : List V} {us : List Value} (n : Nat), Vals xs us → Vals (xs.drop n) (us.drop n)
  | _, _, 0, r => r
  | _, _, _ + 1, .nil => .nil
  | _, _, n + 1, .cons _ t => Vals.drop n t
def RelO : Option V → Option Value → Prop
  | some v, some u => RelV v u
  | none, none => True
  | _, _ => False
def KV {κ : Type} : List (κ × V) → List (κ × Value) → Prop := Paired fun (p : κ × V) (q : κ × Value) => p.1 = q.1 ∧ RelV p.2 q.2

/-- a key of a dict (00_mix): an int or a text -/
def kV : Key → V
  | .inl i => .int i
  | .inr x => .str x

/-- what stands at a tracked address -/
inductive HO where
  /-- a list -/
  | lst (xs : List V)
  /-- a tuple (never changes) -/
  | tup (xs : List V)
  /-- a dict whose keys are ints and texts; one whose keys are tuples of ints and texts (the empty one is both) -/
  | dK (kvs : List (Key × V)) | dT (kvs : List (List Key × V))
  /-- a set of ints: its members, its size -/
  | set (S : Int → Bool) (n : Nat)
  /-- an instance of the class at C, its dict at dx, its attributes -/
  | ins (C dx : Addr) (fs : List (Str × V))
  /-- the dict of the instance at x -/
  | own (x : Addr)
  /-- the dict of an exception -/
  | xd (fs : List (Str × V))
  /-- a bound method, f of x -/
  | met (f x : Addr)
  /-- a range object lo, lo + 1, .. below hi -/
  | rng (lo hi : Int)
  /-- a thing that is known to the object (the script; a dict while a loop walks it): read, never written while it is so -/
  | frz (o : Obj) (u : HO)
  /-- a code object's table -/
  | tbl (ps : Array Value)
  /-- any other thing, by what is true of its one object (a def of one's own: SetO a S n := HO.ext fun h => ..) -/
  | ext (φ : Heap → Prop)

abbrev Hp := Addr → Option HO
def upd (H : Hp) (a : Addr) (o : HO) : Hp := fun b => if b = a then some o else H b
theorem upd_same {H : Hp} {a : Addr} {o : HO} : upd H a o a = some o := by unfold upd; rw [if_pos rfl]
theorem upd_ne {H : Hp} {a b : Addr} {o : HO} (h : b ≠ a) : upd H a o b = H b := by unfold upd; rw [if_neg h]
theorem upd_upd {H : Hp} {a : Addr} {o u : HO} : upd (upd H a o) a u = upd H a u := by
  funext b; unfold upd; split <;> rfl
/-- two objects of different content stand apart -/
theorem ne_of {H : Hp} {a b : Addr} {o u : HO} (h : H a = some o) (h' : H b = some u) (d : o ≠ u) : a ≠ b := by
  intro e; subst e; rw [h] at h'; exact d (Option.some.inj h')
theorem ne_of_none {H : Hp} {a b : Addr} {o : HO} (h : H a = some o) (h' : H b = none) : a ≠ b := by
  intro e; subst e; rw [h] at h'; cases h'

section
variable (P : Program) (w : World)
def ObjOk (H : Hp) (h : Heap) (a : Addr) : HO → Prop
  | .lst xs => xs.length ≤ sizeLine ∧ ∃ (its : List Value) (n : Nat), Vals xs its ∧ h.get? a = some { cls := .type "list", data := .seq its.toArray n }
  | .tup xs => xs.length ≤ sizeLine ∧ ∃ its : List Value, Vals xs its ∧ IsTup h a its.toArray
  | .dK kvs => kvs.length ≤ sizeLine ∧ (a == sysModules) = false ∧ ∃ vs, KV kvs vs ∧ h.DictOf (mixKind P w) a vs
  | .dT kvs => kvs.length ≤ sizeLine ∧ (a == sysModules) = false ∧ ∃ xs : List (List Key × Addr × Value),
      Paired (fun (p : List Key × V) (q : List Key × Addr × Value) => p.1 = q.1 ∧ H q.2.1 = some (.tup (p.1.map kV)) ∧ RelV p.2 q.2.2) kvs xs ∧
      ∃ o es ep, h.get? a = some o ∧ o.ExactDict ∧ o.data = .dict es ep ∧ es.toList = xs.map (entryOfKey (tupleKind (mixKind P w))) ∧ (xs.map (·.1)).Nodup
  | .set S n => h.SetOf (intKind P w) a S n
  | .ins C dx fs => H dx = some (.own a) ∧ fs.length ≤ 1000 ∧ dx ≠ a ∧ h.get? a = some (PySem.W.instObj C dx) ∧
      ∃ mA, h.Ns1 dx mA ∧ (∀ f, RelO (fs.lookup f) (mA f)) ∧ PySem.Within mA (fs.map (·.1))
  | .own _ => ∃ o, h.get? a = some o
  | .xd fs => ∃ mA, h.Ns1 a mA ∧ ∀ f, RelO (fs.lookup f) (mA f)
  | .rng lo hi => ∃ t u v, h.get? a = some { cls := .type "range", data := .fields #[.int lo t, .int hi u, .int 1 v] }
  | .frz o u => h.get? a = some o ∧ ObjOk H h a u
  | .tbl ps => h.get? a = some { cls := .none, data := .fields ps }
  | .met f x => h.get? a = some (PySem.W.methodObj (.ref f) (.ref x))
  | .ext φ => φ h ∧ (∃ o, h.get? a = some o) ∧ ∀ h1 h2 : Heap, φ h1 → (∀ o, h1.get? a = some o → h2.get? a = some o) → φ h2
/-- the abstract heap is held -/
def HOk (H : Hp) (h : Heap) : Prop := ∀ a o, H a = some o → ObjOk P w H h a o
end

section
variable {P : Program} {w : World} {H H' : Hp} {h h' : Heap} {a : Addr} {o : HO}
theorem ObjOk.lt (x : ObjOk P w H h a o) : a < h.objs.size := by
  cases o with
  | lst xs => obtain ⟨_, _, _, _, e⟩ := x; exact Heap.lt_size e
  | tup xs => obtain ⟨_, _, _, p⟩ := x; exact p.lt
  | dK kvs => obtain ⟨_, _, _, _, o, _, _, e, _⟩ := x; exact Heap.lt_size e
  | dT kvs => obtain ⟨_, _, _, _, o, _, _, e, _⟩ := x; exact Heap.lt_size e
  | set S n => obtain ⟨o, _, _, _, e, _⟩ := x; exact Heap.lt_size e
  | ins C dx fs => obtain ⟨_, _, _, e, _⟩ := x; exact Heap.lt_size e
  | own y => obtain ⟨_, e⟩ := x; exact Heap.lt_size e
  | xd fs => obtain ⟨_, ⟨_, _, _, e, _⟩, _⟩ := x; exact Heap.lt_size e
  | rng lo hi => obtain ⟨_, _, _, e⟩ := x; exact Heap.lt_size e
  | frz ob u => obtain ⟨e, _⟩ := x; exact Heap.lt_size e
  | tbl ps => exact Heap.lt_size (show h.get? a = some _ from x)
  | met f y => exact Heap.lt_size (show h.get? a = some _ from x)
  | ext φ => obtain ⟨_, ⟨_, e⟩, _⟩ := x; exact Heap.lt_size e
theorem Paired.mapP {α β : Type} {F G : α → β → Prop} : ∀ {l₁ : List α} {l₂ : List β}, Paired F l₁ l₂ → (∀ a b, F a b → G a b) → Paired G l₁ l₂
  | _, _, .nil, _ => .nil
  | _, _, .cons r t, f => .cons (f _ _ r) (Paired.mapP t f)
/-- what an object's description leans on: its own object, its own dict, the tuples -/
theorem ObjOk.stay (x : ObjOk P w H h a o) (k : ∀ b u, (b = a ∨ H b = some (.own a)) → h.get? b = some u → h'.get? b = some u)
    (ho : ∀ b, H b = some (.own a) → H' b = some (.own a)) (ht : ∀ b xs, H b = some (.tup xs) → H' b = some (.tup xs)) : ObjOk P w H' h' a o := by
  induction o with
  | lst xs => obtain ⟨z, its, n, r, e⟩ := x; exact ⟨z, its, n, r, k _ _ (.inl rfl) e⟩
  | tup xs => obtain ⟨z, its, r, ob, e, c⟩ := x; exact ⟨z, its, r, ob, k _ _ (.inl rfl) e, c⟩
  | dK kvs => obtain ⟨z, y, vs, r, ob, es, ep, e, c⟩ := x; exact ⟨z, y, vs, r, ob, es, ep, k _ _ (.inl rfl) e, c⟩
  | dT kvs =>
    obtain ⟨z, y, xs, r, ob, es, ep, e, c⟩ := x
    exact ⟨z, y, xs, Paired.mapP r fun p q z => ⟨z.1, ht _ _ z.2.1, z.2.2⟩, ob, es, ep, k _ _ (.inl rfl) e, c⟩
  | set S n => obtain ⟨ob, es, ep, t, e, c⟩ := x; exact ⟨ob, es, ep, t, k _ _ (.inl rfl) e, c⟩
  | ins C dx fs =>
    obtain ⟨d, z, ne, e, mA, ⟨od, es, ep, e2, c⟩, r⟩ := x
    exact ⟨ho _ d, z, ne, k _ _ (.inl rfl) e, mA, ⟨od, es, ep, k _ _ (.inr d) e2, c⟩, r⟩
  | own y => obtain ⟨ob, e⟩ := x; exact ⟨ob, k _ _ (.inl rfl) e⟩
  | xd fs => obtain ⟨mA, ⟨od, es, ep, e, c⟩, r⟩ := x; exact ⟨mA, ⟨od, es, ep, k _ _ (.inl rfl) e, c⟩, r⟩
  | rng lo hi => obtain ⟨t, u, v, e⟩ := x; exact ⟨t, u, v, k _ _ (.inl rfl) e⟩
  | frz ob u ih => obtain ⟨e, q⟩ := x; exact ⟨k _ _ (.inl rfl) e, ih q⟩
  | tbl ps =>
    have e : h.get? a = some { cls := .none, data := .fields ps } := x
    show h'.get? a = some { cls := .none, data := .fields ps }
    exact k a _ (.inl rfl) e
  | met f y =>
    have e : h.get? a = some (PySem.W.methodObj (.ref f) (.ref y)) := x
    show h'.get? a = some (PySem.W.methodObj (.ref f) (.ref y))
    exact k a _ (.inl rfl) e
  | ext φ => obtain ⟨p, ⟨o, e⟩, st⟩ := x; exact ⟨st _ _ p fun o q => k _ _ (.inl rfl) q, ⟨o, k _ _ (.inl rfl) e⟩, st⟩
theorem HOk.lt (x : HOk P w H h) (e : H a = some o) : a < h.objs.size := (x a o e).lt
theorem HOk.fresh (x : HOk P w H h) (e : h.objs.size ≤ a) : H a = none := by
  cases q : H a with
  | none => rfl
  | some u => exact absurd (Nat.lt_of_lt_of_le (x.lt q) e) (Nat.lt_irrefl _)
/-- every object of the heap is kept -/
theorem HOk.kept (x : HOk P w H h) (k : ∀ b u, h.get? b = some u → h'.get? b = some u) : HOk P w H h' := fun a o e =>
  (x a o e).stay (fun b u _ q => k b u q) (fun _ q => q) fun _ _ q => q
/-- a new object is laid and tracked -/
theorem HOk.laid (x : HOk P w H h) (k : ∀ b u, h.get? b = some u → h'.get? b = some u) (hp : h.objs.size ≤ a) (new : ObjOk P w (upd H a o) h' a o) : HOk P w (upd H a o) h' := fun b u e => by
  have hn := x.fresh hp
  by_cases hb : b = a
  · subst hb; rw [upd_same] at e; cases e; exact new
  · rw [upd_ne hb] at e
    exact (x b u e).stay (fun c v _ q => k c v q) (fun c q => by rw [upd_ne (ne_of_none q hn)]; exact q) fun c xs q => by rw [upd_ne (ne_of_none q hn)]; exact q
end

/-- what may be read as u: it is u, or a known u -/
def Rd (H : Hp) (a : Addr) (u : HO) : Prop := H a = some u ∨ ∃ o, H a = some (.frz o u)
theorem Rd.ok {P : Program} {w : World} {H : Hp} {h : Heap} {a : Addr} {u : HO} (r : Rd H a u) (x : HOk P w H h) : ObjOk P w H h a u := by
  rcases r with r | ⟨o, r⟩
  · exact x a u r
  · obtain ⟨_, q⟩ := x a _ r
    exact q
/-- what may be written -/
def Mut : Option HO → Prop
  | some (.lst _) => True
  | some (.dK _) => True
  | some (.dT _) => True
  | some (.set _ _) => True
  | some (.ins _ _ _) => True
  | some (.ext _) => True
  | _ => False
section
variable {P : Program} {w : World} {H : Hp} {h h' : Heap} {x e : Addr} {o' : HO}
/-- the object at e is changed: x itself, or the dict of the instance x -/
theorem HOk.write (ok : HOk P w H h) (mu : Mut (H x)) (he : e = x ∨ H e = some (.own x)) (k : ∀ b u, b ≠ e → h.get? b = some u → h'.get? b = some u) (heo : ∃ u, h'.get? e = some u)
    (new : ObjOk P w (upd H x o') h' x o') : HOk P w (upd H x o') h' := fun b u q => by
  have nown : ∀ c y, H c = some (.own y) → c ≠ x := fun c y r z => by subst z; rw [r] at mu; exact mu
  have ntup : ∀ c xs, H c = some (.tup xs) → c ≠ x := fun c xs r z => by subst z; rw [r] at mu; exact mu
  by_cases hb : b = x
  · subst hb; rw [upd_same] at q; cases q; exact new
  · rw [upd_ne hb] at q
    by_cases hbe : b = e
    · have q' : H b = some (.own x) := by
        rcases he with z | z
        · exact absurd (hbe.trans z) hb
        · rw [hbe]; exact z
      rw [q] at q'; cases q'
      obtain ⟨v, hv⟩ := heo
      exact ⟨v, by rw [hbe]; exact hv⟩
    · refine (ok b u q).stay (fun c v hc r => k c v ?_ r) (fun c r => by rw [upd_ne (nown c b r)]; exact r) fun c xs r => by rw [upd_ne (ntup c xs r)]; exact r
      rcases hc with rfl | hc
      · exact hbe
      · rintro rfl
        rcases he with z | z
        · exact nown c b hc z
        · rw [hc] at z; cases z; exact hb rfl
end

structure Un (fs ex : List Addr) (H H' : Hp) (h h' : Heap) : Prop where
  keep : ∀ b o, h.get? b = some o → H b = none → b ∉ fs → b ∉ ex → h'.get? b = some o
  slot : ∀ b o, h.get? b = some o → H b = none → b ∈ fs → b ∉ ex → ∃ sl, h'.get? b = some { o with slots := sl }
  free : ∀ b o, h.get? b = some o → H b = none → b ∉ ex → H' b = none
  there : ∀ b o, h.get? b = some o → b ∉ ex → ∃ o', h'.get? b = some o'
  tups : ∀ b xs, H b = some (.tup xs) → H' b = some (.tup xs)
  frzs : ∀ b o u, H b = some (.frz o u) → H' b = some (.frz o u)
  tbls : ∀ b ps, H b = some (.tbl ps) → ∃ more, H' b = some (.tbl (ps ++ more))
section
variable {fs fs' ex ex' : List Addr} {H H1 H2 : Hp} {h h1 h2 h' : Heap} {a x e : Addr} {o : HO}
theorem Un.any (u : Un fs ex H H1 h h1) {b : Addr} {ob : Obj} (q : h.get? b = some ob) (n : H b = none) (hx : b ∉ ex) : ∃ sl, h1.get? b = some { ob with slots := sl } := by
  by_cases hb : b ∈ fs
  · exact u.slot b ob q n hb hx
  · exact ⟨ob.slots, u.keep b ob q n hb hx⟩
theorem Un.kept (k : ∀ b u, h.get? b = some u → h'.get? b = some u) : Un fs ex H H h h' :=
  ⟨fun b ob q _ _ _ => k b ob q, fun b ob q _ _ _ => ⟨ob.slots, k b ob q⟩, fun _ _ _ n _ => n, fun b ob q _ => ⟨ob, k b ob q⟩, fun _ _ q => q, fun _ _ _ q => q, fun _ ps q => ⟨#[], by rw [q]; simp⟩⟩
theorem Un.refl : Un fs ex H H h h := Un.kept fun _ _ q => q
theorem Un.laid (k : ∀ b u, h.get? b = some u → h'.get? b = some u) (hp : h.objs.size ≤ a) (hn : H a = none) : Un fs ex H (upd H a o) h h' where
  keep := fun b u q _ _ _ => k b u q
  slot := fun b u q _ _ _ => ⟨u.slots, k b u q⟩
  free := fun b u q n _ => by rw [upd_ne (Nat.ne_of_lt (Nat.lt_of_lt_of_le (Heap.lt_size q) hp))]; exact n
  there := fun b u q _ => ⟨u, k b u q⟩
  tups := fun b xs q => by rw [upd_ne (ne_of_none q hn)]; exact q
  frzs := fun b u xs q => by rw [upd_ne (ne_of_none q hn)]; exact q
  tbls := fun b ps q => ⟨#[], by rw [upd_ne (ne_of_none q hn), q]; simp⟩
theorem Un.write (mu : Mut (H x)) (he : e = x ∨ H e = some (.own x)) (k : ∀ b u, b ≠ e → h.get? b = some u → h'.get? b = some u) (heo : ∃ u, h'.get? e = some u) : Un fs ex H (upd H x o) h h' := by
  have hx : ∀ b, H b = none → b ≠ x := fun b n z => by subst z; rw [n] at mu; exact mu
  have hb : ∀ b, H b = none → b ≠ e := fun b n z => by
    subst z
    rcases he with r | r
    · exact hx b n r
    · rw [n] at r; cases r
  have hm : ∀ b u, H b = some u → ¬ Mut (some u) → b ≠ x := fun b u q nm z => by subst z; rw [q] at mu; exact nm mu
  refine ⟨fun b u q n _ _ => k b u (hb b n) q, fun b u q n _ _ => ⟨u.slots, k b u (hb b n) q⟩, fun b u q n _ => by rw [upd_ne (hx b n)]; exact n, fun b u q _ => ?_,
    fun b xs q => by rw [upd_ne (hm b _ q fun z => z)]; exact q, fun b u xs q => by rw [upd_ne (hm b _ q fun z => z)]; exact q, fun b ps q => ⟨#[], by rw [upd_ne (hm b _ q fun z => z), q]; simp⟩⟩
  by_cases hbe : b = e
  · subst hbe; exact heo
  · exact ⟨u, k b u hbe q⟩
end

def trk (h : Heap) (H : Hp) : List Addr := (List.range h.objs.size).filter fun a => (H a).isSome
def hidT (h : Heap) (H : Hp) : Heap := PySem.W.hideAll h (trk h H)
theorem hidT_size (h : Heap) (H : Hp) : (hidT h H).objs.size = h.objs.size := PySem.W.hideAll_size _ _
theorem hidT_get {h : Heap} {H : Hp} {b : Addr} {o : Obj} (e : h.get? b = some o) (n : H b = none) : (hidT h H).get? b = some o :=
  PySem.W.hideAll_get _ e fun hm => by
    have q : (H b).isSome = true := (List.mem_filter.mp hm).2
    rw [n] at q; simp at q
theorem of_hidT {h : Heap} {H : Hp} {b : Addr} {o : Obj} (e : (hidT h H).get? b = some o) : h.get? b = some o ∧ H b = none := by
  have e' : h.get? b = some o := PySem.W.of_hideAll (trk h H) e
  refine ⟨e', ?_⟩
  cases q : H b with
  | none => rfl
  | some x =>
    have hm : b ∈ trk h H := List.mem_filter.mpr ⟨List.mem_range.mpr (Heap.lt_size e'), by simp [q]⟩
    have z : (hidT h H).get? b = none := PySem.W.hideAll_none (trk h H) hm
    rw [z] at e; cases e

end L2

namespace L2
open PySem PySem.Spec PyProof.Rows

/-- the module's facts, over the base: the heap at the law's entry without what is tracked there -/
structure Mod (K : PySem.W.Frag) (mg : Str → Option Value) (base : Heap) : Prop where
  kin : K.In base
  glob : base.Ns mainGlobals mg
  blt : ∃ mb, base.Ns builtinsNs mb ∧ ∀ x : Str, x ≠ "__name__" → mb x = bootBuiltins x
  nolimit : base.NoLimit

/-- the context: a def's body (or a comprehension's block) running. base: fixed through the whole law; s₀, H₀: the entry; outer: the frames whose slots others may change (a def's callers); stack: all frames that run;
   ex: iterators that were made ahead of the entry and are walked here (a comprehension's); fn: the names whose cells were made at the entry (a def: all; a comprehension's block: its own); calm: not within an except suite; pn: pins that every state bears; xe: what is wanted of an exception that leaves the code -/
structure Cx where
  prog : Program
  w : World
  K : PySem.W.Frag
  mg : Str → Option Value
  base : Heap
  A : Around
  N : List Str
  s₀ : Shared
  H₀ : Hp
  env : Env
  outer : List Env
  stack : List Env
  ex : List Addr
  fn : Str → Bool
  calm : Bool
  pn : List (Addr × Obj)
  xe : Value → Shared → Prop
/-- the callers' frames -/
def frs (l : List Env) : List Addr := l.filterMap (·.frame)
abbrev Cx.fs (X : Cx) : List Addr := frs X.outer

def Vis (sc : Scope) (x : Str) : Prop := sc.names.lookup x = some .local ∨ sc.names.lookup x = some .cell ∨ sc.names.lookup x = some .free
def Loc (sc : Scope) (x : Str) : Prop := sc.names.lookup x = some .local ∨ sc.names.lookup x = some .cell
def Look (env : Env) (h : Heap) (m : Str → Option Value) (x : Str) (u : Value) : Prop :=
  (env.kindOf x = some .local ∧ m x = some u) ∨ ((env.kindOf x = some .cell ∨ env.kindOf x = some .free) ∧ ∃ c, env.cells.lookup x = some c ∧ h.IsCell c (some u))

structure Cx.Ok (X : Cx) : Prop where
  mod : Mod X.K X.mg X.base
  kind : X.env.scope.kind = .function
  glob : X.env.globals = mainGlobals
  blt : X.env.builtins = builtinsNs
  above : X.s₀.heap.objs.size ≤ X.env.locals
  inj : ∀ x y c, X.env.cells.lookup x = some c → X.env.cells.lookup y = some c → x = y
  has : ∀ x, (X.env.kindOf x = some .cell ∨ X.env.kindOf x = some .free) → ∃ c, X.env.cells.lookup x = some c
  cab : ∀ x c, X.fn x = true → X.env.cells.lookup x = some c → X.s₀.heap.objs.size ≤ c
  hd : X.calm = true → X.A.handled = none
  frames : X.A.frames = some X.stack
  stk : X.stack = X.outer ∨ (X.stack = X.env :: X.outer ∧ X.env.frame = some X.env.locals)
  exf : ∀ b ∈ X.ex, b ≠ X.env.locals ∧ ∀ x c, X.env.cells.lookup x = some c → c ≠ b
  bs : ∀ b o, X.base.get? b = some o → X.s₀.heap.get? b = some o ∧ X.H₀ b = none
  bsz : X.base.objs.size ≤ X.s₀.heap.objs.size
  noex : ∀ b o, X.base.get? b = some o → b ∉ X.ex
  exfs : ∀ b ∈ X.ex, b ∉ X.fs
  funs : X.s₀.heap.FunFrames X.base X.outer
  frf : ∀ b ∈ X.fs, X.H₀ b = none

structure Inv (X : Cx) (pins : List (Addr × Obj)) (σ : List (Option V)) (H : Hp) (s : Shared) : Prop where
  ok : X.Ok
  os : s.os = X.s₀.os
  bare : AllBare s.gens
  base : Un X.fs X.ex X.H₀ H X.s₀.heap s.heap
  loc : ∃ m, s.heap.Ns X.env.locals m ∧ ∀ (i : Nat) (x : Str) (v : V), X.N[i]? = some x → σ[i]? = some (some v) → Vis X.env.scope x → ∃ u, RelV v u ∧ Look X.env s.heap m x u
  cell : ∀ x c, X.env.cells.lookup x = some c → ∃ v, s.heap.IsCell c v
  free : H X.env.locals = none
  freeC : ∀ x c, X.env.cells.lookup x = some c → H c = none
  pin : ∀ p ∈ X.pn ++ pins, s.heap.get? p.1 = some p.2 ∧ H p.1 = none ∧ p.1 ≠ X.env.locals ∧ p.1 ∉ X.fs ∧ ∀ v, p.2.data ≠ .cell v
  hok : HOk X.prog X.w H s.heap
  len : σ.length = X.N.length

section
variable {X : Cx} {pins : List (Addr × Obj)} {σ : List (Option V)} {H H' : Hp} {s : Shared} {h' : Heap}

theorem Cx.Ok.nofr (ok : X.Ok) {b : Addr} {o : Obj} (e : X.base.get? b = some o) : b ∉ X.fs := fun hb => by
  have := (ok.funs.mem hb).1
  rw [e] at this; cases this
theorem Inv.bs (I : Inv X pins σ H s) : ∀ b o, X.base.get? b = some o → s.heap.get? b = some o ∧ H b = none := fun b o e =>
  ⟨I.base.keep b o (I.ok.bs b o e).1 (I.ok.bs b o e).2 (I.ok.nofr e) (I.ok.noex b o e), I.base.free b o (I.ok.bs b o e).1 (I.ok.bs b o e).2 (I.ok.noex b o e)⟩
theorem Inv.bk (I : Inv X pins σ H s) : ∀ b o, X.base.get? b = some o → s.heap.get? b = some o := fun b o e => (I.bs b o e).1
theorem Inv.mod (I : Inv X pins σ H s) : Mod X.K X.mg X.base := I.ok.mod
theorem Inv.kIn (I : Inv X pins σ H s) : X.K.In s.heap := I.ok.mod.kin.keeps I.bk
theorem Inv.lt (I : Inv X pins σ H s) : X.env.locals < s.heap.objs.size := let ⟨_, hn, _⟩ := I.loc; hn.lt
theorem Inv.sz (I : Inv X pins σ H s) : X.s₀.heap.objs.size ≤ s.heap.objs.size := Nat.le_trans I.ok.above (Nat.le_of_lt I.lt)
theorem Inv.nofs (I : Inv X pins σ H s) {a : Addr} (h : s.heap.objs.size ≤ a) : a ∉ X.fs := fun hb => by
  obtain ⟨_, o, ho, _⟩ := I.ok.funs.mem hb
  exact absurd (Nat.lt_of_lt_of_le (Heap.lt_size ho) (Nat.le_trans I.sz h)) (Nat.lt_irrefl _)
theorem Inv.cne (I : Inv X pins σ H s) : ∀ x c, X.env.cells.lookup x = some c → c ≠ X.env.locals := fun x c e z => by
  obtain ⟨v, o, ho, hd⟩ := I.cell x c e
  obtain ⟨m, ⟨o', es, ep, ho', hd', _⟩, _⟩ := I.loc
  rw [z, ho'] at ho; cases ho; rw [hd'] at hd; cases hd
theorem Inv.funs (I : Inv X pins σ H s) : s.heap.FunFrames X.base X.outer := by
  have all : ∀ (l : List Env), (∀ b ∈ frs l, b ∈ X.fs) → X.s₀.heap.FunFrames X.base l → s.heap.FunFrames X.base l := by
    intro l
    induction l with
    | nil => intro _ _; trivial
    | cons env r ih =>
      intro hs hl
      obtain ⟨hk, ⟨L, o, hf, hn, ho, hd⟩, hr⟩ := hl
      have hL : L ∈ X.fs := hs L (by unfold frs; rw [List.filterMap_cons, hf]; exact List.mem_cons_self)
      obtain ⟨sl, e⟩ := I.base.slot L o ho (I.ok.frf L hL) hL fun z => I.ok.exfs L z hL
      exact ⟨hk, ⟨L, _, hf, hn, e, hd⟩, ih (fun b hb => hs b (by unfold frs; rw [List.filterMap_cons, hf]; exact List.mem_cons_of_mem _ hb)) hr⟩
  exact all X.outer (fun _ hb => hb) I.ok.funs

/-- the frames that run, for a call -/
theorem Inv.stack (I : Inv X pins σ H s) : s.heap.FunFrames X.base X.stack := by
  rcases I.ok.stk with e | ⟨e, hf⟩
  · rw [e]; exact I.funs
  · rw [e]
    obtain ⟨m, hn, _⟩ := I.loc
    refine .cons (by rw [I.ok.kind]; decide) hf hn ?_ I.funs
    exact Heap.get?_none_of_le (Nat.le_trans I.ok.bsz I.ok.above)
theorem Inv.stkSub (I : Inv X pins σ H s) : ∀ b ∈ frs X.stack, b ∈ X.env.locals :: X.fs := fun b hb => by
  rcases I.ok.stk with e | ⟨e, hf⟩
  · rw [e] at hb; exact List.mem_cons_of_mem _ hb
  · rw [e] at hb
    unfold frs at hb
    rw [List.filterMap_cons, hf] at hb
    exact hb
theorem Inv.stkFree (I : Inv X pins σ H s) : ∀ b ∈ frs X.stack, H b = none := fun b hb => by
  rcases List.mem_cons.mp (I.stkSub b hb) with e | hb
  · rw [e]; exact I.free
  · obtain ⟨_, o, ho, _⟩ := I.ok.funs.mem hb
    exact I.base.free b o ho (I.ok.frf b hb) fun z => I.ok.exfs b z hb

/-- THE STEP: the untracked objects but the frame and the records at ch are kept (the callers' frames up to slots), the frame's map is kept, the new abstract heap is held -/
theorem Inv.step {g' : Array GenState} {t' : Nat} {d' : Drawn} {ch : List Addr} (I : Inv X pins σ H s)
    (hch : ∀ b ∈ ch, (b ∈ X.ex ∨ X.s₀.heap.objs.size ≤ b) ∧ b ≠ X.env.locals ∧ (∀ x c, X.env.cells.lookup x = some c → c ≠ b) ∧ ∀ p ∈ X.pn ++ pins, p.1 ≠ b)
    (keep : ∀ b o, b ≠ X.env.locals → b ∉ X.fs → b ∉ ch → s.heap.get? b = some o → H b = none → h'.get? b = some o)
    (slot : ∀ b o, b ≠ X.env.locals → b ∈ X.fs → b ∉ ch → s.heap.get? b = some o → H b = none → ∃ sl, h'.get? b = some { o with slots := sl }) (free : ∀ b o, b ∉ ch → s.heap.get? b = some o → H b = none → H' b = none)
    (there : ∀ b o, b ∉ ch → s.heap.get? b = some o → ∃ o', h'.get? b = some o')
    (tups : ∀ b xs, H b = some (.tup xs) → H' b = some (.tup xs)) (frzs : ∀ b o u, H b = some (.frz o u) → H' b = some (.frz o u)) (tbls : ∀ b ps, H b = some (.tbl ps) → ∃ more, H' b = some (.tbl (ps ++ more)))
    (ns : ∀ m, s.heap.Ns X.env.locals m → h'.Ns X.env.locals m) (hok : HOk X.prog X.w H' h') (hg : AllBare g') :
    Inv X pins σ H' { s with heap := h', gens := g', drawn := d', toks := t' } := by
  have neL : ∀ b o, X.s₀.heap.get? b = some o → b ≠ X.env.locals := fun b o e => Nat.ne_of_lt (Nat.lt_of_lt_of_le (Heap.lt_size e) I.ok.above)
  have neC : ∀ b o, X.s₀.heap.get? b = some o → b ∉ X.ex → b ∉ ch := fun b o e hx hb => by
    rcases (hch b hb).1 with z | z
    · exact hx z
    · exact absurd (Nat.lt_of_lt_of_le (Heap.lt_size e) z) (Nat.lt_irrefl _)
  have cellK : ∀ x c, X.env.cells.lookup x = some c → ∀ v, s.heap.IsCell c v → h'.IsCell c v := fun x c e v ⟨o, ho, hd⟩ => by
    have nch : c ∉ ch := fun z => (hch c z).2.2.1 x c e rfl
    by_cases hc : c ∈ X.fs
    · obtain ⟨sl, q⟩ := slot c o (I.cne x c e) hc nch ho (I.freeC x c e)
      exact ⟨_, q, hd⟩
    · exact ⟨o, keep c o (I.cne x c e) hc nch ho (I.freeC x c e), hd⟩
  refine ⟨I.ok, I.os, hg, ⟨fun b o e n hb hx => ?_, fun b o e n hb hx => ?_, fun b o e n hx => ?_, fun b o e hx => ?_, fun b xs e => tups b xs (I.base.tups b xs e), fun b o xs e => frzs b o xs (I.base.frzs b o xs e), fun b ps e => ?_⟩, ?_, fun x c e => ?_, ?_, fun x c e => ?_, fun p hp => ?_, hok, I.len⟩
  · exact keep b o (neL b o e) hb (neC b o e hx) (I.base.keep b o e n hb hx) (I.base.free b o e n hx)
  · obtain ⟨sl, e1⟩ := I.base.slot b o e n hb hx
    obtain ⟨sl', e2⟩ := slot b _ (neL b o e) hb (neC b o e hx) e1 (I.base.free b o e n hx)
    exact ⟨sl', e2⟩
  · obtain ⟨o', e1⟩ := I.base.there b o e hx
    exact free b o' (neC b o e hx) e1 (I.base.free b o e n hx)
  · obtain ⟨o', e1⟩ := I.base.there b o e hx
    exact there b o' (neC b o e hx) e1
  · obtain ⟨m1, e1⟩ := I.base.tbls b ps e
    obtain ⟨m2, e2⟩ := tbls b _ e1
    exact ⟨m1 ++ m2, by rw [e2, Array.append_assoc]⟩
  · obtain ⟨m, hn, hl⟩ := I.loc
    refine ⟨m, ns m hn, fun i x v e1 e2 e3 => ?_⟩
    obtain ⟨u, r, l⟩ := hl i x v e1 e2 e3
    refine ⟨u, r, ?_⟩
    rcases l with l | ⟨k, c, e, z⟩
    · exact .inl l
    · exact .inr ⟨k, c, e, cellK x c e _ z⟩
  · obtain ⟨v, z⟩ := I.cell x c e
    exact ⟨v, cellK x c e v z⟩
  · obtain ⟨m, ⟨o, _, _, ho, _⟩, _⟩ := I.loc
    exact free _ o (fun z => (hch _ z).2.1 rfl) ho I.free
  · obtain ⟨v, o, ho, hd⟩ := I.cell x c e
    exact free c o (fun z => (hch c z).2.2.1 x c e rfl) ho (I.freeC x c e)
  · obtain ⟨e, n, ne, nf, d⟩ := I.pin p hp
    have nch : p.1 ∉ ch := fun z => (hch p.1 z).2.2.2 p hp rfl
    exact ⟨keep p.1 p.2 ne nf nch e n, free p.1 p.2 nch e n, ne, nf, d⟩
/-- .. where the frame's own object is kept too -/
theorem Inv.un {t' : Nat} (I : Inv X pins σ H s) (u : Un X.fs [] H H' s.heap h') (hok : HOk X.prog X.w H' h') : Inv X pins σ H' { s with heap := h', toks := t' } := by
  obtain ⟨m, ⟨o, es, ep, ho, r⟩, _⟩ := id I.loc
  obtain ⟨sl, hL⟩ := u.any ho I.free (by simp)
  exact I.step (g' := s.gens) (d' := s.drawn) (ch := []) (fun _ z => nomatch z) (fun b o _ hb _ e n => u.keep b o e n hb (by simp)) (fun b o _ hb _ e n => u.slot b o e n hb (by simp)) (fun b o _ e n => u.free b o e n (by simp)) (fun b o _ e => u.there b o e (by simp)) u.tups u.frzs u.tbls (fun m' hm => by
    obtain ⟨o', es', ep', ho', r'⟩ := hm
    rw [ho] at ho'; cases ho'
    exact ⟨_, es', ep', hL, r'⟩) hok I.bare
/-- behind a call (or a comprehension's block): the slots of this frame may have changed too, the records at ch may have turned -/
theorem Inv.call {g' : Array GenState} {t' : Nat} {d' : Drawn} {ch : List Addr} (I : Inv X pins σ H s) (u : Un (frs X.stack) ch H H' s.heap h') (hok : HOk X.prog X.w H' h') (hg : AllBare g')
    (hch : ∀ b ∈ ch, (b ∈ X.ex ∨ X.s₀.heap.objs.size ≤ b) ∧ b ≠ X.env.locals ∧ (∀ x c, X.env.cells.lookup x = some c → c ≠ b) ∧ ∀ p ∈ X.pn ++ pins, p.1 ≠ b) :
    Inv X pins σ H' { s with heap := h', gens := g', drawn := d', toks := t' } := by
  obtain ⟨m, ⟨o, es, ep, ho, r⟩, _⟩ := id I.loc
  obtain ⟨sl, hL⟩ := u.any ho I.free fun z => (hch _ z).2.1 rfl
  exact I.step (ch := ch) hch (fun b o hL hb hc e n => u.keep b o e n (fun z => (List.mem_cons.mp (I.stkSub b z)).elim hL hb) hc) (fun b o _ _ hc e n => u.any e n hc) (fun b o hc e n => u.free b o e n hc) (fun b o hc e => u.there b o e hc) u.tups u.frzs u.tbls (fun m' hm => by
    obtain ⟨o', es', ep', ho', r'⟩ := hm
    rw [ho] at ho'; cases ho'
    exact ⟨_, es', ep', hL, r'⟩) hok hg
/-- an untracked record of ours (an iterator) has turned -/
theorem Inv.turned {t' : Nat} {it : Addr} (I : Inv X pins σ H s) (k : ∀ b o, b ≠ it → s.heap.get? b = some o → h'.get? b = some o) (hn : H it = none) (hL : it ≠ X.env.locals)
    (h1 : it ∈ X.ex ∨ X.s₀.heap.objs.size ≤ it) (h2 : ∀ x c, X.env.cells.lookup x = some c → c ≠ it) (h3 : ∀ p ∈ X.pn ++ pins, p.1 ≠ it) : Inv X pins σ H { s with heap := h', toks := t' } := by
  have nit : ∀ b u, H b = some u → b ≠ it := fun b u e z => by rw [z, hn] at e; cases e
  refine I.step (g' := s.gens) (d' := s.drawn) (ch := [it]) (fun b hb => ?_) (fun b o _ _ hc e _ => k b o (fun z => hc (by simp [z])) e) (fun b o _ _ hc e _ => ⟨o.slots, k b o (fun z => hc (by simp [z])) e⟩) (fun _ _ _ _ n => n)
    (fun b o hc e => ⟨o, k b o (fun z => hc (by simp [z])) e⟩) (fun _ _ e => e) (fun _ _ _ e => e) (fun b ps e => ⟨#[], by rw [e]; simp⟩) (fun m hm => ?_) (fun b u e => ?_) I.bare
  · have e : b = it := by simpa using hb
    subst e
    exact ⟨h1, hL, h2, h3⟩
  · obtain ⟨o, es, ep, ho, r⟩ := hm
    exact ⟨o, es, ep, k _ o (Ne.symm hL) ho, r⟩
  · refine (I.hok b u e).stay (fun c v hc q => k c v ?_ q) (fun _ q => q) fun _ _ q => q
    rcases hc with z | z
    · rw [z]; exact nit b u e
    · exact nit c _ z
theorem Inv.tok (I : Inv X pins σ H s) (t : Nat) : Inv X pins σ H { s with toks := t } := I.un (h' := s.heap) (t' := t) Un.refl I.hok
/-- all objects kept -/
theorem Inv.kept {t' : Nat} (I : Inv X pins σ H s) (k : ∀ b u, s.heap.get? b = some u → h'.get? b = some u) : Inv X pins σ H { s with heap := h', toks := t' } := I.un (Un.kept k) (I.hok.kept k)
/-- a new object laid and tracked -/
theorem Inv.laid {a : Addr} {o : HO} {t' : Nat} (I : Inv X pins σ H s) (k : ∀ b u, s.heap.get? b = some u → h'.get? b = some u) (hp : s.heap.objs.size ≤ a) (new : ObjOk X.prog X.w (upd H a o) h' a o) :
    Inv X pins σ (upd H a o) { s with heap := h', toks := t' } := I.un (Un.laid k hp (I.hok.fresh hp)) (I.hok.laid k hp new)
/-- an object written -/
theorem Inv.write {x e : Addr} {o : HO} {t' : Nat} (I : Inv X pins σ H s) (mu : Mut (H x)) (he : e = x ∨ H e = some (.own x)) (k : ∀ b u, b ≠ e → s.heap.get? b = some u → h'.get? b = some u) (heo : ∃ u, h'.get? e = some u)
    (new : ObjOk X.prog X.w (upd H x o) h' x o) : Inv X pins σ (upd H x o) { s with heap := h', toks := t' } := I.un (Un.write mu he k heo) (I.hok.write mu he k heo new)
/-- forgetting slots, pins -/
theorem Inv.weak {σ' : List (Option V)} (I : Inv X pins σ H s) (hl : σ'.length = σ.length) (w : ∀ (i : Nat) v, σ'[i]? = some (some v) → σ[i]? = some (some v)) : Inv X pins σ' H s :=
  ⟨I.ok, I.os, I.bare, I.base, let ⟨m, hn, hl'⟩ := I.loc; ⟨m, hn, fun i x v e1 e2 e3 => hl' i x v e1 (w i v e2) e3⟩, I.cell, I.free, I.freeC, I.pin, I.hok, hl.trans I.len⟩
theorem Inv.pins_of {pins' : List (Addr × Obj)} (I : Inv X pins σ H s) (h : ∀ p ∈ pins', s.heap.get? p.1 = some p.2 ∧ H p.1 = none ∧ p.1 ≠ X.env.locals ∧ p.1 ∉ X.fs ∧ ∀ v, p.2.data ≠ .cell v) : Inv X pins' σ H s :=
  ⟨I.ok, I.os, I.bare, I.base, I.loc, I.cell, I.free, I.freeC, fun p hp => (List.mem_append.mp hp).elim (fun z => I.pin p (List.mem_append_left _ z)) (h p), I.hok, I.len⟩

theorem nodup_ix {N : List Str} (hN : N.Nodup) {i j : Nat} {x : Str} (a : N[i]? = some x) (b : N[j]? = some x) : i = j := by
  obtain ⟨h1, e1⟩ := List.getElem?_eq_some_iff.mp a
  obtain ⟨h2, e2⟩ := List.getElem?_eq_some_iff.mp b
  exact (List.getElem_inj hN).mp (e1.trans e2.symm)

/-- a name is stored; what changed -/
theorem store_ok2 {M : Model} {A : Around} {E : Value → Shared → Prop} {i : Nat} {x : Str} {v : V} {u : Value} {Q : Unit → Shared → Prop} (I : Inv X pins σ H s) (hN : X.N.Nodup) (hi : X.N[i]? = some x) (hx : Loc X.env.scope x) (r : RelV v u)
    (h : ∀ s', Inv X pins (σ.set i (some v)) H s' → (∃ a, Heap.SameBut a s.heap s'.heap ∧ (a = X.env.locals ∨ X.env.cells.lookup x = some a)) → Q () s') (hf : X.fn x = true ∨ X.env.scope.names.lookup x = some .local := by first | exact .inl rfl | exact .inr rfl | assumption) : wpAny M A (storeName X.env x u) Q E s := by
  obtain ⟨m, hn, hl⟩ := id I.loc
  have hcls : (X.env.scope.kind == .class || (X.env.scope.kind == .module && X.env.locals != X.env.globals)) = false := by rw [I.ok.kind]; rfl
  have hiσ : i < σ.length := by rw [I.len]; exact (List.getElem?_eq_some_iff.mp hi).1
  have cne := I.cne
  have tracked : ∀ {a : Addr} {h' : Heap}, (∃ o, s.heap.get? a = some o ∧ H a = none) → Heap.SameBut a s.heap h' → HOk X.prog X.w H h' := fun {a h'} ha hs b ob e => by
    obtain ⟨_, _, hfree⟩ := ha
    refine (I.hok b ob e).stay (fun c w' hc q => (hs.2 c ?_).trans q) (fun _ q => q) fun _ _ q => q
    rintro rfl
    rcases hc with rfl | hc
    · rw [hfree] at e; cases e
    · rw [hfree] at hc; cases hc
  rcases hx with hk | hk
  · refine wpAny_storeName_local hk hn (fun h' hn' hs => ?_) hcls
    obtain ⟨oL, _, _, hoL, _⟩ := id hn
    refine h _ ⟨I.ok, I.os, I.bare, ⟨fun b o e n hb hx => ?_, fun b o e n hb hx => ?_, I.base.free, fun b o e hx => ?_, I.base.tups, I.base.frzs, I.base.tbls⟩, ⟨_, hn', fun j y v' e1 e2 e3 => ?_⟩, fun y c e => ?_, I.free, I.freeC, fun p hp => ?_, tracked ⟨oL, hoL, I.free⟩ hs, by simpa using I.len⟩ ⟨_, hs, .inl rfl⟩
    · exact (hs.2 b (Nat.ne_of_lt (Nat.lt_of_lt_of_le (Heap.lt_size e) I.ok.above))).trans (I.base.keep b o e n hb hx)
    · obtain ⟨sl, e1⟩ := I.base.slot b o e n hb hx
      exact ⟨sl, (hs.2 b (Nat.ne_of_lt (Nat.lt_of_lt_of_le (Heap.lt_size e) I.ok.above))).trans e1⟩
    · obtain ⟨o', e1⟩ := I.base.there b o e hx
      exact ⟨o', (hs.2 b (Nat.ne_of_lt (Nat.lt_of_lt_of_le (Heap.lt_size e) I.ok.above))).trans e1⟩
    · by_cases hj : j = i
      · subst hj
        rw [hi] at e1; cases e1
        rw [List.getElem?_set_self hiσ] at e2
        cases e2
        exact ⟨u, r, .inl ⟨hk, by simp⟩⟩
      · rw [List.getElem?_set_ne (Ne.symm hj)] at e2
        obtain ⟨u', r', q⟩ := hl j y v' e1 e2 e3
        refine ⟨u', r', ?_⟩
        rcases q with ⟨k, e⟩ | ⟨k, c, e, z⟩
        · refine .inl ⟨k, ?_⟩
          have : y ≠ x := fun e => hj (nodup_ix hN e1 (e ▸ hi))
          simp [this, e]
        · exact .inr ⟨k, c, e, z.sameBut hs (cne y c e)⟩
    · obtain ⟨w', z⟩ := I.cell y c e
      exact ⟨w', z.sameBut hs (cne y c e)⟩
    · obtain ⟨e, n, ne, nf, d⟩ := I.pin p hp
      exact ⟨(hs.2 p.1 ne).trans e, n, ne, nf, d⟩
  · have hfn : X.fn x = true := by
      rcases hf with z | z
      · exact z
      · rw [z] at hk; cases hk
    obtain ⟨c, hc⟩ := I.ok.has x (.inl hk)
    obtain ⟨w', z⟩ := I.cell x c hc
    refine wpAny_storeName_cell I.ok.kind hk hc z (fun h' hc' hs => ?_)
    obtain ⟨oc, hoc, hocd⟩ := id z
    refine h { s with heap := h' } ⟨I.ok, I.os, I.bare, ⟨fun b o e n hb hx => ?_, fun b o e n hb hx => ?_, I.base.free, fun b o e hx => ?_, I.base.tups, I.base.frzs, I.base.tbls⟩, ⟨m, hn.sameBut hs (Ne.symm (cne x c hc)), fun j y v' e1 e2 e3 => ?_⟩, fun y c' e => ?_, I.free, I.freeC, fun p hp => ?_, tracked ⟨oc, hoc, I.freeC x c hc⟩ hs, by simpa using I.len⟩ ⟨c, hs, .inr hc⟩
    · exact (hs.2 b (Nat.ne_of_lt (Nat.lt_of_lt_of_le (Heap.lt_size e) (I.ok.cab x c hfn hc)))).trans (I.base.keep b o e n hb hx)
    · obtain ⟨sl, e1⟩ := I.base.slot b o e n hb hx
      exact ⟨sl, (hs.2 b (Nat.ne_of_lt (Nat.lt_of_lt_of_le (Heap.lt_size e) (I.ok.cab x c hfn hc)))).trans e1⟩
    · obtain ⟨o', e1⟩ := I.base.there b o e hx
      exact ⟨o', (hs.2 b (Nat.ne_of_lt (Nat.lt_of_lt_of_le (Heap.lt_size e) (I.ok.cab x c hfn hc)))).trans e1⟩
    · by_cases hj : j = i
      · subst hj
        rw [hi] at e1; cases e1
        rw [List.getElem?_set_self hiσ] at e2
        cases e2
        exact ⟨u, r, .inr ⟨.inl hk, c, hc, hc'⟩⟩
      · rw [List.getElem?_set_ne (Ne.symm hj)] at e2
        obtain ⟨u', r', q⟩ := hl j y v' e1 e2 e3
        refine ⟨u', r', ?_⟩
        rcases q with q | ⟨k, c', e, z'⟩
        · exact .inl q
        · refine .inr ⟨k, c', e, z'.sameBut hs ?_⟩
          rintro rfl
          exact hj (nodup_ix hN e1 (I.ok.inj _ _ _ e hc ▸ hi))
    · by_cases hcc : c' = c
      · subst hcc; exact ⟨_, hc'⟩
      · obtain ⟨w2, z2⟩ := I.cell y c' e
        exact ⟨w2, z2.sameBut hs hcc⟩
    · obtain ⟨e, n, ne, nf, d⟩ := I.pin p hp
      refine ⟨(hs.2 p.1 ?_).trans e, n, ne, nf, d⟩
      intro q
      rw [q, hoc] at e
      have q' : oc = p.2 := Option.some.inj e
      exact d w' (by rw [← q']; exact hocd)
theorem store_ok {M : Model} {A : Around} {E : Value → Shared → Prop} {i : Nat} {x : Str} {v : V} {u : Value} {Q : Unit → Shared → Prop} (I : Inv X pins σ H s) (hN : X.N.Nodup) (hi : X.N[i]? = some x) (hx : Loc X.env.scope x) (r : RelV v u)
    (h : ∀ s', Inv X pins (σ.set i (some v)) H s' → Q () s') (hf : X.fn x = true ∨ X.env.scope.names.lookup x = some .local := by first | exact .inl rfl | exact .inr rfl | assumption) : wpAny M A (storeName X.env x u) Q E s :=
  store_ok2 I hN hi hx r (fun s' I' _ => h s' I') hf
/-- behind a call or a block, the state as it is -/
theorem Inv.call' {s' : Shared} {ch : List Addr} (I : Inv X pins σ H s) (ho : s'.os = s.os) (u : Un (frs X.stack) ch H H' s.heap s'.heap) (hok : HOk X.prog X.w H' s'.heap) (hg : AllBare s'.gens)
    (hch : ∀ b ∈ ch, (b ∈ X.ex ∨ X.s₀.heap.objs.size ≤ b) ∧ b ≠ X.env.locals ∧ (∀ x c, X.env.cells.lookup x = some c → c ≠ b) ∧ ∀ p ∈ X.pn ++ pins, p.1 ≠ b) : Inv X pins σ H' s' := by
  obtain ⟨h', g', d', t', o'⟩ := s'
  have e : o' = s.os := ho
  subst e
  exact I.call (g' := g') (t' := t') (d' := d') u hok hg hch
end

/-- an exception: its class, its own dict's address (where it has one), the abstract heap behind it -/
abbrev XK := Value → Option Addr → Hp → Prop
abbrev St := List (Option V)
abbrev VK := V → Hp → Prop
/-- an expression's reading; a test's; an argument list's -/
abbrev TE := St → Hp → VK → Prop
abbrev TT := St → Hp → (Bool → Hp → Prop) → Prop
abbrev TA := St → Hp → (List V → Hp → Prop) → Prop
/-- what is wanted behind a statement -/
structure Ends where
  nx : St → Hp → Prop
  rt : VK
  bk : St → Hp → Prop := fun _ _ => False
  ct : St → Hp → Prop := fun _ _ => False
abbrev TS := Ends → St → Hp → Prop

def EP (X : Cx) (pins : List (Addr × Obj)) (σ : St) (Q : VK) (u : Value) (s' : Shared) : Prop := ∃ v H', Inv X pins σ H' s' ∧ RelV v u ∧ Q v H'
def TP (X : Cx) (pins : List (Addr × Obj)) (σ : St) (Q : Bool → Hp → Prop) (b : Bool) (s' : Shared) : Prop := ∃ H', Inv X pins σ H' s' ∧ Q b H'
def AP (X : Cx) (pins : List (Addr × Obj)) (σ : St) (Q : List V → Hp → Prop) (us : List Value) (s' : Shared) : Prop := ∃ vs H', Inv X pins σ H' s' ∧ Vals vs us ∧ Q vs H'
def SP (X : Cx) (pins : List (Addr × Obj)) (D : Ends) (f : Flow) (s' : Shared) : Prop :=
  match f with
  | .next => ∃ σ' H', Inv X pins σ' H' s' ∧ D.nx σ' H'
  | .brk => ∃ σ' H', Inv X pins σ' H' s' ∧ D.bk σ' H'
  | .cont => ∃ σ' H', Inv X pins σ' H' s' ∧ D.ct σ' H'
  | .ret u => ∃ v σ' H', Inv X pins σ' H' s' ∧ RelV v u ∧ D.rt v H'

def PE (X : Cx) (e : Expr) (t : TE) : Prop :=
  ∀ (pins : List (Addr × Obj)) (s : Shared) (σ : St) (H : Hp) (Q : VK), Inv X pins σ H s → t σ H Q → wpAny (model X.prog X.w) X.A (eval e X.env) (EP X pins σ Q) X.xe s
def PT (X : Cx) (e : Expr) (t : TT) : Prop :=
  ∀ (pins : List (Addr × Obj)) (s : Shared) (σ : St) (H : Hp) (Q : Bool → Hp → Prop), Inv X pins σ H s → t σ H Q → wpAny (model X.prog X.w) X.A (isTrue e X.env (eval e X.env)) (TP X pins σ Q) X.xe s
/-- a test whatever its 'whole' is (and, or) -/
def PW (X : Cx) (e : Expr) (t : TT) : Prop :=
  ∀ (whole : Sem Value) (pins : List (Addr × Obj)) (s : Shared) (σ : St) (H : Hp) (Q : Bool → Hp → Prop), Inv X pins σ H s → t σ H Q → wpAny (model X.prog X.w) X.A (isTrue e X.env whole) (TP X pins σ Q) X.xe s
theorem PW.pt {X : Cx} {e : Expr} {t : TT} (h : PW X e t) : PT X e t := h _
/-- an argument list (no star), from the left -/
def PA (X : Cx) (es : List Expr) (t : TA) : Prop :=
  ∀ (pos : Pos) (pins : List (Addr × Obj)) (s : Shared) (σ : St) (H : Hp) (Q : List V → Hp → Prop), Inv X pins σ H s → t σ H Q → wpAny (model X.prog X.w) X.A (spliced (backTo pos (starEach es X.env))) (AP X pins σ Q) X.xe s
def PS (X : Cx) (st : Stmt) (t : TS) : Prop :=
  ∀ (pins : List (Addr × Obj)) (s : Shared) (σ : St) (H : Hp) (D : Ends), Inv X pins σ H s → t D σ H → wpAny (model X.prog X.w) X.A (exec st X.env) (SP X pins D) X.xe s
def PSs (X : Cx) (st : List Stmt) (t : TS) : Prop :=
  ∀ (pins : List (Addr × Obj)) (s : Shared) (σ : St) (H : Hp) (D : Ends), Inv X pins σ H s → t D σ H → wpAny (model X.prog X.w) X.A (execs st X.env) (SP X pins D) X.xe s
/-- weaken the end -/
theorem thn {α : Type} {t : Sem α} {Q Q' : α → Shared → Prop} {M : Model} {A : Around} {E : Value → Shared → Prop} {s : Shared} (h : wpAny M A t Q E s) (hQ : ∀ a s, Q a s → Q' a s) : wpAny M A t Q' E s := wpAny_mono h hQ fun _ _ x => x
end L2

namespace L2
open PySem PySem.Spec PyProof.Rows
section
variable {X : Cx}

def tVar (i : Nat) : TE := fun σ H Q => ∃ v, σ[i]? = some (some v) ∧ Q v H
def tC (v : V) : TE := fun _ H Q => Q v H
theorem pe_var {i : Nat} {x : Str} {pos : Pos} (hN : X.N[i]? = some x) (hv : Vis X.env.scope x) (hd : (x == ("__debug__" : Str)) = false := by decide) (hcd : (x == ("__classdict__" : Str)) = false := by decide) : PE X (.Name x pos) (tVar i) := by
  intro pins s σ H Q I h
  obtain ⟨v, e, h⟩ := h
  obtain ⟨m, hn, hl⟩ := I.loc
  obtain ⟨u, r, l⟩ := hl i x v hN e hv
  have fin : EP X pins σ Q u s := ⟨v, H, I, r, h⟩
  rcases l with ⟨hk, hm⟩ | ⟨hk, c, hc, hcell⟩
  · exact wpAny_Name (wpAny_loadName_local I.ok.kind hk hn hm fin) hd
  · rcases hk with hk | hk
    · exact wpAny_Name (wpAny_loadName_cell I.ok.kind hk hc hcell fin) hd
    · exact wpAny_Name (wpAny_loadName_free I.ok.kind hk hc hcell fin hcd) hd
theorem pe_int {i j pos} : PE X (.Constant (.int i) j pos) (tC (.int i)) := fun _ _ _ H _ I h => wpAny_Constant_int ⟨.int i, H, I.tok _, ⟨_, rfl⟩, h⟩
theorem pe_bl {b j pos} : PE X (.Constant (.bool b) j pos) (tC (.bl b)) := fun _ _ _ H _ I h => Constant_bool ⟨.bl b, H, I, rfl, h⟩
theorem pe_str {x j pos} : PE X (.Constant (.str x) j pos) (tC (.str x)) := fun _ _ _ H _ I h => Calls.Constant_str ⟨.str x, H, I.tok _, ⟨_, rfl⟩, h⟩

/-- a global name of the def -/
def Gl (X : Cx) (x : Str) : Prop := X.env.kindOf x = some .globalImplicit
theorem ld_glob {E : Value → Shared → Prop} {pins : List (Addr × Obj)} {s : Shared} {σ : St} {H : Hp} {x : Str} {u : Value} {pos : Pos} {Q : Value → Shared → Prop} (I : Inv X pins σ H s) (hg : Gl X x) (hm : X.mg x = some u) (h : Q u s)
    (hd : (x == ("__debug__" : Str)) = false := by decide) : wpAny (model X.prog X.w) X.A (eval (.Name x pos) X.env) Q E s :=
  Calls.Name_function_global I.ok.kind hg (Calls.loadGlobal_global (by rw [I.ok.glob]; exact I.mod.glob.keeps I.bk) hm h) hd
theorem ld_blt {E : Value → Shared → Prop} {pins : List (Addr × Obj)} {s : Shared} {σ : St} {H : Hp} {x : Str} {u : Value} {pos : Pos} {Q : Value → Shared → Prop} (I : Inv X pins σ H s) (hg : Gl X x) (hm : X.mg x = none) (hv : bootBuiltins x = some u) (h : Q u s)
    (hn : x ≠ "__name__" := by decide) (hd : (x == ("__debug__" : Str)) = false := by decide) : wpAny (model X.prog X.w) X.A (eval (.Name x pos) X.env) Q E s := by
  obtain ⟨mb, h1, h2⟩ := I.mod.blt
  exact Calls.Name_function_global I.ok.kind hg (Calls.loadGlobal_builtin (by rw [I.ok.glob]; exact I.mod.glob.keeps I.bk) hm (by rw [I.ok.blt]; exact h1.keeps I.bk) ((h2 x hn).trans hv) h) hd
/-- a module's constant, a class, a function, as a value -/
theorem pe_glob {x : Str} {v : V} {u : Value} {pos : Pos} (hg : Gl X x) (hm : X.mg x = some u) (r : RelV v u) (hd : (x == ("__debug__" : Str)) = false := by decide) : PE X (.Name x pos) (tC v) :=
  fun _ _ _ H _ I h => ld_glob I hg hm ⟨v, H, I, r, h⟩ hd
theorem pe_bltn {x : Str} {v : V} {u : Value} {pos : Pos} (hg : Gl X x) (hm : X.mg x = none) (hv : bootBuiltins x = some u) (r : RelV v u) (hn : x ≠ "__name__" := by decide) (hd : (x == ("__debug__" : Str)) = false := by decide) : PE X (.Name x pos) (tC v) :=
  fun _ _ _ H _ I h => ld_blt I hg hm hv ⟨v, H, I, r, h⟩ hn hd

variable {a b : Expr} {ta tb : TE} {pos : Pos}
def PC (X : Cx) (op : CmpOp) (a b : Expr) (t : TE) : Prop :=
  ∀ (pins : List (Addr × Obj)) (s : Shared) (σ : St) (H : Hp) (Q : VK), Inv X pins σ H s → t σ H Q →
    wpAny (model X.prog X.w) X.A (eval a X.env) (fun v s₁ => wpAny (model X.prog X.w) X.A (eval b X.env) (fun u s₂ => wpAny (model X.prog X.w) X.A (compareOp op v u) (EP X pins σ Q) X.xe s₂) X.xe s₁) X.xe s
/-- a comparison as a value, as a test -/
def tB (t : TE) : TT := fun σ H Q => t σ H fun x H1 => ∃ c, x = .bl c ∧ Q c H1
theorem pe_cmp {op : CmpOp} {t : TE} (h : PC X op a b t) (h1 : behindInMarks op b = false := by first | exact nobehind _ (by decide) (by decide) | rfl) : PE X (.Compare a [op] [b] pos) t := fun pins s σ H Q I hw => wpAny_Compare1 (h pins s σ H Q I hw) h1
/-- an expression whose value is a bool, as a test -/
theorem pt_val {e : Expr} {t : TE} (h : PE X e t) (he : ∀ whole, isTrue e X.env whole = (do let v ← whole; standAt e.pos; holding [v] (truthy v)) := by intro _; rfl) : PT X e (tB t) := by
  intro pins s σ H Q I hw
  refine isTrue_plain (thn (h pins s σ H _ I hw) fun v s1 ⟨x, H1, I1, r1, q1⟩ => ?_) (he _)
  obtain ⟨d, rfl, q⟩ := q1
  cases r1
  exact wpAny_truthy_bool ⟨H1, I1, q⟩

variable {tA tB' : TT} {rest : List Expr}
def tAnd (t u : TT) : TT := fun σ H Q => t σ H fun c H1 => if c = true then u σ H1 Q else Q false H1
def tOr (t u : TT) : TT := fun σ H Q => t σ H fun c H1 => if c = true then Q true H1 else u σ H1 Q
def tNot (t : TT) : TT := fun σ H Q => t σ H fun c H1 => Q (!c) H1
theorem pw_and1 (ha : PT X a tA) : PW X (.BoolOp .And [a] pos) tA := by
  intro wh pins s σ H Q I h
  refine isTrue_and (thn (ha pins s σ H Q I h) fun c s1 e => ?_)
  cases c with
  | true => exact isTrue_and_nil e
  | false => exact e
theorem pw_or1 (ha : PT X a tA) : PW X (.BoolOp .Or [a] pos) tA := by
  intro wh pins s σ H Q I h
  refine isTrue_or (thn (ha pins s σ H Q I h) fun c s1 e => ?_)
  cases c with
  | false => exact isTrue_or_nil e
  | true => exact e
theorem pw_and (ha : PT X a tA) (hb : PW X (.BoolOp .And (b :: rest) pos) tB') : PW X (.BoolOp .And (a :: b :: rest) pos) (tAnd tA tB') := by
  intro wh pins s σ H Q I h
  refine isTrue_and (thn (ha pins s σ H _ I h) fun c s1 ⟨H1, I1, q1⟩ => ?_)
  cases c with
  | true => exact hb wh pins s1 σ H1 Q I1 q1
  | false => exact ⟨H1, I1, q1⟩
theorem pw_or (ha : PT X a tA) (hb : PW X (.BoolOp .Or (b :: rest) pos) tB') : PW X (.BoolOp .Or (a :: b :: rest) pos) (tOr tA tB') := by
  intro wh pins s σ H Q I h
  refine isTrue_or (thn (ha pins s σ H _ I h) fun c s1 ⟨H1, I1, q1⟩ => ?_)
  cases c with
  | true => exact ⟨H1, I1, q1⟩
  | false => exact hb wh pins s1 σ H1 Q I1 q1
theorem pt_not (ha : PT X a tA) : PT X (.UnaryOp .Not a pos) (tNot tA) := by
  intro pins s σ H Q I h
  exact isTrue_not (ha pins s σ H (fun c H1 => Q (!c) H1) I h)
/-- .. as values (bools) -/
def tAndV (ta tb : TE) : TE := fun σ H Q => ta σ H fun x H1 => ∃ c, x = .bl c ∧ if c = true then tb σ H1 Q else Q (.bl false) H1
def tNotV (ta : TE) : TE := fun σ H Q => ta σ H fun x H1 => ∃ c, x = .bl c ∧ Q (.bl (!c)) H1
theorem pe_one {op} {t : TE} (h : PE X a t) : PE X (.BoolOp op [a] pos) t := fun pins s σ H Q I hw => BoolOp_one (h pins s σ H Q I hw)
theorem pe_and (ha : PE X a ta) (hb : PE X (.BoolOp .And (b :: rest) pos) tb) : PE X (.BoolOp .And (a :: b :: rest) pos) (tAndV ta tb) := by
  intro pins s σ H Q I h
  refine BoolOp_and (thn (ha pins s σ H _ I h) fun v s1 ⟨x, H1, I1, r1, q1⟩ => ?_)
  obtain ⟨c, rfl, q1⟩ := q1
  cases r1
  refine wpAny_truthy_bool ?_
  cases c with
  | true => exact hb pins s1 σ H1 Q I1 q1
  | false => exact ⟨.bl false, H1, I1, rfl, q1⟩
theorem pe_not (ha : PE X a ta) : PE X (.UnaryOp .Not a pos) (tNotV ta) := by
  intro pins s σ H Q I h
  refine UnaryOp_ (thn (ha pins s σ H _ I h) fun v s1 ⟨x, H1, I1, r1, q1⟩ => ?_)
  obtain ⟨c, rfl, q1⟩ := q1
  cases r1
  exact not_of (wpAny_truthy_bool ⟨.bl (!c), H1, I1, rfl, q1⟩)
end
end L2

namespace L2
open PySem PySem.Spec PyProof.Rows

def SqL (K : PySem.W.Frag) (H : Hp) (a : Addr) (xs : List V) : Prop :=
  Rd H a (.lst xs) ∨
    ∃ (o : Obj) (its : Array Value) (n : Nat), K.lookup a = some o ∧ o.cls = .type "list" ∧ o.dict = none ∧ o.data = .seq its n ∧ its.size ≤ sizeLine ∧ Vals xs its.toList
def SqT (K : PySem.W.Frag) (H : Hp) (a : Addr) (xs : List V) : Prop :=
  Rd H a (.tup xs) ∨
    ∃ (o : Obj) (its : Array Value) (n : Nat), K.lookup a = some o ∧ o.cls = .type "tuple" ∧ o.data = .seq its n ∧ its.size ≤ sizeLine ∧ Vals xs its.toList
def absV : Value → Option V
  | .none => some .non
  | .bool b => some (.bl b)
  | .int i _ => some (.int i)
  | .str x _ => some (.str x)
  | .bytes b _ => some (.byt b)
  | .float b _ => some (.flt b)
  | .ref a => some (.ref a)
  | .type n => some (.ty n)
  | _ => none
theorem RelV.abs {x : V} {u : Value} (r : RelV x u) : absV u = some x := by
  cases x with
  | non => cases r; rfl
  | bl _ => cases r; rfl
  | int _ => obtain ⟨t, rfl⟩ := r; rfl
  | str _ => obtain ⟨t, rfl⟩ := r; rfl
  | byt _ => obtain ⟨t, rfl⟩ := r; rfl
  | flt _ => obtain ⟨t, rfl⟩ := r; rfl
  | ref _ => cases r; rfl
  | ty _ => cases r; rfl
theorem RelV.inj {x y : V} {u : Value} (r : RelV x u) (q : RelV y u) : x = y := Option.some.inj (r.abs.symm.trans q.abs)
theorem Vals.inj : ∀ {xs ys : List V} {us : List Value}, Vals xs us → Vals ys us → xs = ys
  | _, _, _, .nil, .nil => rfl
  | _, _, _, .cons r t, .cons r' t' => by rw [r.inj r', Vals.inj t t']
section
variable {X : Cx} {pins : List (Addr × Obj)} {σ : St} {H : Hp} {s : Shared} {a : Addr} {xs ys : List V}
theorem SqL.of {K : PySem.W.Frag} (h : H a = some (.lst xs)) : SqL K H a xs := .inl (.inl h)
theorem SqT.of {K : PySem.W.Frag} (h : H a = some (.tup xs)) : SqT K H a xs := .inl (.inl h)
theorem Inv.list (I : Inv X pins σ H s) (h : SqL X.K H a xs) : ∃ its : List Value, Vals xs its ∧ PlainL s.heap a its.toArray ∧ xs.length ≤ sizeLine := by
  rcases h with h | ⟨o, its, n, hk, hc, hd, hs, hz, r⟩
  · obtain ⟨z, its, n, r, e⟩ := h.ok I.hok
    exact ⟨its, r, ⟨_, n, e, rfl, rfl, rfl⟩, z⟩
  · refine ⟨its.toList, r, ⟨o, n, I.kIn a o hk, hc, hd, by simpa using hs⟩, ?_⟩
    have e := r.length
    simp only [Array.length_toList] at e
    omega
theorem Inv.tuple (I : Inv X pins σ H s) (h : SqT X.K H a xs) : ∃ its : List Value, Vals xs its ∧ IsTup s.heap a its.toArray ∧ xs.length ≤ sizeLine := by
  rcases h with h | ⟨o, its, n, hk, hc, hs, hz, r⟩
  · obtain ⟨z, its, r, p⟩ := h.ok I.hok
    exact ⟨its, r, p, z⟩
  · refine ⟨its.toList, r, ⟨o, I.kIn a o hk, hc, n, by simpa using hs⟩, ?_⟩
    have e := r.length
    simp only [Array.length_toList] at e
    omega
theorem Inv.list_inj (I : Inv X pins σ H s) (h : SqL X.K H a xs) (h' : SqL X.K H a ys) : xs = ys := by
  obtain ⟨its, r, ⟨o, n, e, _, _, d⟩, _⟩ := I.list h
  obtain ⟨its', r', ⟨o', n', e', _, _, d'⟩, _⟩ := I.list h'
  rw [e] at e'; cases e'
  rw [d] at d'
  injection d' with d1 _
  have : its = its' := by simpa using congrArg Array.toList d1
  subst this
  exact r.inj r'
end

abbrev Cx.wish (X : Cx) (E : Value → Shared → Prop) : Cx := { X with xe := E }
/-- no exception leaves -/
abbrev Cx.nox (X : Cx) : Cx := X.wish fun _ _ => False
theorem Cx.Ok.wish {X : Cx} (ok : X.Ok) (E : Value → Shared → Prop) : (X.wish E).Ok :=
  ⟨ok.mod, ok.kind, ok.glob, ok.blt, ok.above, ok.inj, ok.has, ok.cab, ok.hd, ok.frames, ok.stk, ok.exf, ok.bs, ok.bsz, ok.noex, ok.exfs, ok.funs, ok.frf⟩
theorem Cx.Ok.unwish {X : Cx} {E : Value → Shared → Prop} (ok : (X.wish E).Ok) : X.Ok :=
  ⟨ok.mod, ok.kind, ok.glob, ok.blt, ok.above, ok.inj, ok.has, ok.cab, ok.hd, ok.frames, ok.stk, ok.exf, ok.bs, ok.bsz, ok.noex, ok.exfs, ok.funs, ok.frf⟩
section
variable {X : Cx} {pins : List (Addr × Obj)} {σ : St} {H : Hp} {s : Shared} {E : Value → Shared → Prop}
theorem Inv.wish (I : Inv X pins σ H s) (E : Value → Shared → Prop) : Inv (X.wish E) pins σ H s := ⟨I.ok.wish E, I.os, I.bare, I.base, I.loc, I.cell, I.free, I.freeC, I.pin, I.hok, I.len⟩
theorem Inv.unwish (I : Inv (X.wish E) pins σ H s) : Inv X pins σ H s := ⟨I.ok.unwish, I.os, I.bare, I.base, I.loc, I.cell, I.free, I.freeC, I.pin, I.hok, I.len⟩
theorem SP.unwish {D : Ends} {f : Flow} {s' : Shared} (h : SP (X.wish E) pins D f s') : SP X pins D f s' := by
  cases f with
  | next => obtain ⟨σ', H', I, q⟩ := h; exact ⟨σ', H', I.unwish, q⟩
  | brk => obtain ⟨σ', H', I, q⟩ := h; exact ⟨σ', H', I.unwish, q⟩
  | cont => obtain ⟨σ', H', I, q⟩ := h; exact ⟨σ', H', I.unwish, q⟩
  | ret u => obtain ⟨v, σ', H', I, r, q⟩ := h; exact ⟨v, σ', H', I.unwish, r, q⟩
theorem PSs.nox {st : List Stmt} {t : TS} (h : PSs X.nox st t) : PSs X st t := fun pins s σ H D I hw =>
  wpAny_mono (h pins s σ H D (I.wish _) hw) (fun _ _ q => q.unwish) fun _ _ z => False.elim z
end

section
variable {X : Cx} {st : Stmt} {rest : List Stmt} {t u : TS} {e : Expr} {te : TE} {pos : Pos}
def tNext : TS := fun D σ H => D.nx σ H
def tSeq (t u : TS) : TS := fun D σ H => t { D with nx := u D } σ H
theorem pss_nil : PSs X [] tNext := fun _ _ σ H _ I h => wpAny_execs_nil ⟨σ, H, I, h⟩
theorem pss_cons (h1 : PS X st t) (h2 : PSs X rest u) : PSs X (st :: rest) (tSeq t u) := by
  intro pins s σ H D I h
  refine wpAny_execs_cons (thn (h1 pins s σ H { D with nx := u D } I h) fun f s1 q => ?_)
  cases f with
  | next =>
    obtain ⟨σ', H', I', q⟩ := q
    exact h2 pins s1 σ' H' D I' q
  | ret v => exact q
  | brk => exact q
  | cont => exact q
theorem pss_one (h1 : PS X st t) : PSs X [st] t := by
  intro pins s σ H D I h
  refine wpAny_execs_cons (thn (h1 pins s σ H D I h) fun f s1 q => ?_)
  cases f with
  | next => exact wpAny_execs_nil q
  | ret v => exact q
  | brk => exact q
  | cont => exact q
/-- in a def's body nothing is shown -/
theorem Inv.quiet {pins : List (Addr × Obj)} {σ : St} {H : Hp} {s : Shared} (I : Inv X pins σ H s) : interactive X.env = false := by simp [interactive, I.ok.kind]
/-- an expression whose value is dropped -/
def tDrop (te : TE) : TS := fun D σ H => te σ H fun _ H1 => D.nx σ H1
theorem ps_expr (he : PE X e te) (hs : swapsWith e none pos.line X.env = pure false := by rfl) : PS X (.Expr e pos) (tDrop te) := by
  intro pins s σ H D I h
  exact wpAny_Expr_any (thn (he pins s σ H _ I h) fun v s1 ⟨x, H1, I1, r1, q1⟩ => ⟨σ, H1, I1, q1⟩) I.quiet hs
def tRet (te : TE) : TS := fun D σ H => te σ H D.rt
theorem ps_ret (he : PE X e te) : PS X (.Return (some e) pos) (tRet te) := by
  intro pins s σ H D I h
  exact wpAny_Return_some (thn (he pins s σ H _ I h) fun v s1 ⟨x, H1, I1, r1, q1⟩ => ⟨x, σ, H1, I1, r1, q1⟩)
def tIfS (c : TT) (t u : TS) : TS := fun D σ H => c σ H fun b H1 => if b = true then t D σ H1 else u D σ H1
theorem ps_if {c : Expr} {a b : List Stmt} {tc : TT} (hc : PT X c tc) (ha : PSs X a t) (hb : PSs X b u) : PS X (.If c a b pos) (tIfS tc t u) := by
  intro pins s σ H D I h
  refine wpAny_If (thn (hc pins s σ H _ I h) fun d s1 ⟨H1, I1, q1⟩ => ?_)
  cases d with
  | true => exact ha pins s1 σ H1 D I1 q1
  | false => exact hb pins s1 σ H1 D I1 q1
/-- code that the proof never comes to -/
def tNever : TS := fun _ _ _ => False
theorem ps_never : PS X st tNever := fun _ _ _ _ _ _ h => h.elim
end

abbrev TG := V → St → Hp → (St → Hp → Prop) → Prop
abbrev TGs := List V → St → Hp → (St → Hp → Prop) → Prop
def PG (X : Cx) (target : Expr) (t : TG) : Prop :=
  ∀ (pins : List (Addr × Obj)) (s : Shared) (σ : St) (H : Hp) (v : V) (u : Value) (Q : St → Hp → Prop), Inv X pins σ H s → RelV v u → t v σ H Q →
    wpAny (model X.prog X.w) X.A (assign target X.env u) (fun _ s' => ∃ σ' H', Inv X pins σ' H' s' ∧ Q σ' H') X.xe s
/-- several targets, one after another -/
def PGs (X : Cx) (ts : List Expr) (t : TGs) : Prop :=
  ∀ (pins : List (Addr × Obj)) (s : Shared) (σ : St) (H : Hp) (vs : List V) (us : List Value) (Q : St → Hp → Prop), Inv X pins σ H s → Vals vs us → t vs σ H Q →
    wpAny (model X.prog X.w) X.A (assignInOrder ((assignEach ts X.env).map (·.2)) us) (fun _ s' => ∃ σ' H', Inv X pins σ' H' s' ∧ Q σ' H') X.xe s
/-- o[i] = v, by values -/
abbrev TSet := V → V → V → Hp → (Hp → Prop) → Prop
def PSet (X : Cx) (t : TSet) : Prop :=
  ∀ (pins : List (Addr × Obj)) (s : Shared) (σ : St) (H : Hp) (o i v : V) (ov iv u : Value) (Q : Hp → Prop), Inv X pins σ H s → RelV o ov → RelV i iv → RelV v u → t o i v H Q →
    wpAny (model X.prog X.w) X.A (setItem ov iv u) (fun _ s' => ∃ H', Inv X pins σ H' s' ∧ Q H') X.xe s
/-- a op= b, by values -/
abbrev TIp := V → V → Hp → VK → Prop
def PIp (X : Cx) (op : Operator) (t : TIp) : Prop :=
  ∀ (pins : List (Addr × Obj)) (s : Shared) (σ : St) (H : Hp) (x y : V) (v u : Value) (Q : VK), Inv X pins σ H s → RelV x v → RelV y u → t x y H Q →
    wpAny (model X.prog X.w) X.A (inplaceOp op v u) (EP X pins σ Q) X.xe s
section
variable {X : Cx} {pos : Pos}
def gName (i : Nat) : TG := fun v σ H Q => Q (σ.set i (some v)) H
theorem pg_name {i : Nat} {x : Str} (hN : X.N.Nodup) (hi : X.N[i]? = some x) (hx : Loc X.env.scope x) (hf : X.fn x = true ∨ X.env.scope.names.lookup x = some .local := by first | exact .inl rfl | exact .inr rfl | assumption) : PG X (.Name x pos) (gName i) := by
  intro pins s σ H v u Q I r h
  exact wpAny_assign_Name (store_ok I hN hi hx r (fun s' I' => ⟨_, H, I', h⟩) hf)
def gNil : TGs := fun vs σ H Q => vs = [] ∧ Q σ H
def gCons (t : TG) (u : TGs) : TGs := fun vs σ H Q => ∃ v r, vs = v :: r ∧ t v σ H fun σ' H' => u r σ' H' Q
theorem pgs_nil : PGs X [] gNil := by
  intro pins s σ H vs us Q I r h
  obtain ⟨e, h⟩ := h
  subst e
  cases r
  exact assignInOrder_nil ⟨σ, H, I, h⟩
theorem pgs_cons {e : Expr} {es : List Expr} {t : TG} {u : TGs} (h1 : PG X e t) (h2 : PGs X es u)
    (hs : (assignEach (e :: es) X.env).map (·.2) = assign e X.env :: (assignEach es X.env).map (·.2) := by rfl) : PGs X (e :: es) (gCons t u) := by
  intro pins s σ H vs us Q I r h
  obtain ⟨v, vr, e1, h⟩ := h
  subst e1
  cases r with
  | cons r rr =>
    rw [hs]
    refine assignInOrder_cons (thn (h1 pins s σ H _ _ _ I r h) fun _ s1 ⟨σ1, H1, I1, q1⟩ => ?_)
    exact h2 pins s1 σ1 H1 _ _ Q I1 rr q1
/-- (a, b, ..) = a tuple of that length -/
def gTup (K : PySem.W.Frag) (n : Nat) (t : TGs) : TG := fun v σ H Q => ∃ a xs, v = .ref a ∧ SqT K H a xs ∧ xs.length = n ∧ t xs σ H Q
theorem pg_tup {es : List Expr} {k : Nat} {t : TGs} {n : Nat} (hc : X.calm = true) (h : PGs X es t)
    (hn : (assignEach es X.env).length = n := by rfl) (hst : (assignEach es X.env).findIdx? (·.1) = none := by rfl) : PG X (.Tuple es k pos) (gTup X.K n t) := by
  intro pins s σ H v u Q I r hw
  obtain ⟨a, xs, e1, hq, hl, hw⟩ := hw
  subst e1
  cases r
  obtain ⟨its, rv, ht, hz⟩ := I.tuple hq
  refine assign_Tuple_tuple (I.ok.hd hc) ht (by simp [hn, ← hl, rv.length]) hst fun h' hx => ?_
  have I1 : Inv X pins σ H { s with heap := h' } := I.kept (t' := s.toks) fun b o e => hx b o (Nat.ne_of_lt (Heap.lt_size e)) e
  exact h pins _ σ H xs _ Q I1 (by simpa using rv) hw
/-- o[i] = .. -/
def gSub (to ti : TE) (t : TSet) : TG := fun v σ H Q => to σ H fun o H1 => ti σ H1 fun i H2 => t o i v H2 fun H3 => Q σ H3
theorem pg_sub {o i : Expr} {to ti : TE} {t : TSet} (ho : PE X o to) (hi : PE X i ti) (hs : PSet X t)
    (ha : ∀ v, assign (.Subscript o i pos) X.env v = (do
      let ov ← holding [v] (eval o X.env)
      let iv ← holding [v, ov] (eval i X.env)
      standAt pos
      holding [v, ov, iv] (setItem ov iv v)
      release [v, ov, iv] []) := by intro _; rfl) : PG X (.Subscript o i pos) (gSub to ti t) := by
  intro pins s σ H v u Q I r h
  rw [ha]
  refine wpAny_bind (wpAny_holding (thn (ho pins s σ H _ I h) fun ov s1 ⟨x, H1, I1, r1, q1⟩ => ?_))
  refine wpAny_bind (wpAny_holding (thn (hi pins s1 σ H1 _ I1 q1) fun iv s2 ⟨y, H2, I2, r2, q2⟩ => ?_))
  refine wpAny_bind (wpAny_standAt (wpAny_bind (wpAny_holding (thn (hs pins s2 σ H2 x y v ov iv u _ I2 r1 r2 r q2) fun _ s3 ⟨H3, I3, q3⟩ => ?_))))
  exact wpAny_release ⟨σ, H3, I3, q3⟩
/-- target = value -/
def tAsg (te : TE) (g : TG) : TS := fun D σ H => te σ H fun x H1 => g x σ H1 D.nx
theorem ps_asg {tg e : Expr} {te : TE} {g : TG} (he : PE X e te) (hg : PG X tg g) (hs : swapsWithSole [tg] e pos.line X.env = pure false := by rfl) (hw : swappedStores [tg] e X.env = pure none := by rfl)
    (h1 : (assignEach [tg] X.env).map (·.2) = [assign tg X.env] := by rfl) : PS X (.Assign [tg] e pos) (tAsg te g) := by
  intro pins s σ H D I h
  refine wpAny_Assign_stores (thn (he pins s σ H _ I h) fun v s1 ⟨x, H1, I1, r1, q1⟩ => ?_) hs hw
  rw [h1]
  exact thn (hg pins s1 σ H1 x v _ I1 r1 q1) fun _ s2 q => q
/-- name = value -/
theorem ps_set {i : Nat} {x : Str} {e : Expr} {te : TE} {pos' : Pos} (hN : X.N.Nodup) (hi : X.N[i]? = some x) (hx : Loc X.env.scope x) (he : PE X e te) (hs : swapsWith e (some (.Name x pos')) pos.line X.env = pure false := by rfl) (hf : X.fn x = true ∨ X.env.scope.names.lookup x = some .local := by first | exact .inl rfl | exact .inr rfl | assumption) :
    PS X (.Assign [.Name x pos'] e pos) (tAsg te (gName i)) := by
  intro pins s σ H D I h
  refine wpAny_Assign_Name (thn (he pins s σ H _ I h) fun v s1 ⟨y, H1, I1, r1, q1⟩ => ?_) hs
  exact store_ok I1 hN hi hx r1 (fun s2 I2 => ⟨_, H1, I2, q1⟩) hf
/-- name op= e -/
def tAug (i : Nat) (te : TE) (ti : TIp) : TS := fun D σ H => ∃ x, σ[i]? = some (some x) ∧ te σ H fun y H1 => ti x y H1 fun z H2 => D.nx (σ.set i (some z)) H2
theorem ps_aug {i : Nat} {x : Str} {e : Expr} {te : TE} {op : Operator} {ti : TIp} {pos' : Pos} (hN : X.N.Nodup) (hi : X.N[i]? = some x) (hx : Loc X.env.scope x) (he : PE X e te) (ho : PIp X op ti) (hf : X.fn x = true ∨ X.env.scope.names.lookup x = some .local := by first | exact .inl rfl | exact .inr rfl | assumption) :
    PS X (.AugAssign (.Name x pos') op e pos) (tAug i te ti) := by
  intro pins s σ H D I h
  obtain ⟨v, e1, h⟩ := h
  obtain ⟨m, hn, hl⟩ := I.loc
  have vis : Vis X.env.scope x := by rcases hx with k | k; exact .inl k; exact .inr (.inl k)
  obtain ⟨u, r, l⟩ := hl i x v hi e1 vis
  refine wpAny_AugAssign_Name ?_
  have go : wpAny (model X.prog X.w) X.A (eval e X.env) (fun w s₂ => wpAny (model X.prog X.w) X.A (inplaceOp op u w) (fun r s₃ => wpAny (model X.prog X.w) X.A (storeName X.env x r) (fun _ => SP X pins D .next) X.xe s₃) X.xe s₂) X.xe s := by
    refine thn (he pins s σ H _ I h) fun w s1 ⟨y, H1, I1, r1, q1⟩ => ?_
    refine thn (ho pins s1 σ H1 v y u w _ I1 r r1 q1) fun z s2 ⟨zv, H2, I2, r2, q2⟩ => ?_
    exact store_ok I2 hN hi hx r2 (fun s3 I3 => ⟨_, H2, I3, q2⟩) hf
  rcases l with ⟨hk, hm⟩ | ⟨hk, c, hc, hcell⟩
  · exact wpAny_loadName_local I.ok.kind hk hn hm go
  · rcases hk with hk | hk
    · exact wpAny_loadName_cell I.ok.kind hk hc hcell go
    · rcases hx with k | k
      · have : X.env.scope.names.lookup x = some .free := hk
        rw [k] at this; cases this
      · have : X.env.scope.names.lookup x = some .free := hk
        rw [k] at this; cases this
/-- o[i] op= e -/
def tAugS (to ti te : TE) (tget : V → V → Hp → VK → Prop) (tip : TIp) (tset : TSet) : TS := fun D σ H => to σ H fun o H1 => ti σ H1 fun i H2 => tget o i H2 fun x H3 => te σ H3 fun y H4 => tip x y H4 fun z H5 => tset o i z H5 fun H6 => D.nx σ H6
/-- o[i], by values -/
def PGet (X : Cx) (t : V → V → Hp → VK → Prop) : Prop :=
  ∀ (pins : List (Addr × Obj)) (s : Shared) (σ : St) (H : Hp) (o i : V) (ov iv : Value) (Q : VK), Inv X pins σ H s → RelV o ov → RelV i iv → t o i H Q →
    wpAny (model X.prog X.w) X.A (getItem ov iv) (EP X pins σ Q) X.xe s
theorem ps_augS {o i e : Expr} {to ti te : TE} {tget : V → V → Hp → VK → Prop} {tip : TIp} {tset : TSet} {op : Operator} {tpos : Pos} (ho : PE X o to) (hi : PE X i ti) (hg : PGet X tget) (he : PE X e te) (hp : PIp X op tip) (hs : PSet X tset)
    (ha : ∀ ov iv new, augStore i ov iv new = (do holding [new, ov, iv] (setItem ov iv new); release [new, ov, iv] []; pure .next) := by intros; rfl) : PS X (.AugAssign (.Subscript o i tpos) op e pos) (tAugS to ti te tget tip tset) := by
  intro pins s σ H D I h
  refine wpAny_AugAssign_SubscriptAny (thn (ho pins s σ H _ I h) fun ov s1 ⟨x1, H1, I1, r1, q1⟩ => ?_) ha
  refine thn (hi pins s1 σ H1 _ I1 q1) fun iv s2 ⟨x2, H2, I2, r2, q2⟩ => ?_
  refine thn (hg pins s2 σ H2 x1 x2 ov iv _ I2 r1 r2 q2) fun old s3 ⟨x3, H3, I3, r3, q3⟩ => ?_
  refine thn (he pins s3 σ H3 _ I3 q3) fun v s4 ⟨x4, H4, I4, r4, q4⟩ => ?_
  refine thn (hp pins s4 σ H4 x3 x4 old v _ I4 r3 r4 q4) fun new s5 ⟨x5, H5, I5, r5, q5⟩ => ?_
  exact thn (hs pins s5 σ H5 x1 x2 x5 ov iv new _ I5 r1 r2 r5 q5) fun _ s6 ⟨H6, I6, q6⟩ => ⟨σ, H6, I6, q6⟩
/-- ints -/
def ipI (f : Int → Int → Int) : TIp := fun x y H Q => ∃ i j, x = .int i ∧ y = .int j ∧ Q (.int (f i j)) H
theorem ip_add : PIp X .Add (ipI fun i j => i + j) := by
  intro pins s σ H x y v u Q I r1 r2 h
  obtain ⟨i, j, e1, e2, q⟩ := h
  subst e1; subst e2
  obtain ⟨t, rfl⟩ := r1
  obtain ⟨t', rfl⟩ := r2
  exact iadd_int ⟨.int _, H, I.tok _, ⟨_, rfl⟩, q⟩
theorem ip_sub : PIp X .Sub (ipI fun i j => i - j) := by
  intro pins s σ H x y v u Q I r1 r2 h
  obtain ⟨i, j, e1, e2, q⟩ := h
  subst e1; subst e2
  obtain ⟨t, rfl⟩ := r1
  obtain ⟨t', rfl⟩ := r2
  exact isub_int ⟨.int _, H, I.tok _, ⟨_, rfl⟩, q⟩
end

section
variable {X : Cx} {pos : Pos}
/-- the invariant W with its measure -/
def tWhile (c : TT) (tb : TS) : TS := fun D σ H => ∃ W : Nat → St → Hp → Prop, (∃ m, W m σ H) ∧ ∀ m σ H, W m σ H →
  c σ H fun b H1 => if b = true then ∃ N : St → Hp → Prop, (∀ σ' H', N σ' H' → ∃ m', m' < m ∧ W m' σ' H') ∧ tb { D with nx := N, ct := N, bk := D.nx } σ H1 else D.nx σ H1
theorem ps_while {c : Expr} {body : List Stmt} {tc : TT} {tb : TS} (hp : PassesOwn (model X.prog X.w) X.A X.env X.xe) (hc : PT X c tc) (hb : PSs X body tb) : PS X (.While c body [] pos) (tWhile tc tb) := by
  intro pins s σ H D I h
  obtain ⟨W, ⟨m0, w0⟩, turn⟩ := h
  refine wpAny_While (codeAny_whileLoop (fun n s' => ∃ σ' H', Inv X pins σ' H' s' ∧ W n σ' H') ?_ m0 ⟨σ, H, I, w0⟩)
  rintro n s1 ⟨σ1, H1, I1, w1⟩
  refine wpAny_passesOwn hp (thn (hc pins s1 σ1 H1 _ I1 (turn n σ1 H1 w1)) fun b s2 ⟨H2, I2, q2⟩ => ?_)
  cases b with
  | true =>
    obtain ⟨N, hN, q2⟩ := q2
    rw [if_pos rfl]
    refine wpAny_passesOwn hp (thn (hb pins s2 σ1 H2 _ I2 q2) fun f s3 q3 => ?_)
    cases f with
    | next =>
      obtain ⟨σ3, H3, I3, n3⟩ := q3
      obtain ⟨m', hm, w3⟩ := hN σ3 H3 n3
      exact ⟨m', hm, σ3, H3, I3, w3⟩
    | cont =>
      obtain ⟨σ3, H3, I3, n3⟩ := q3
      obtain ⟨m', hm, w3⟩ := hN σ3 H3 n3
      exact ⟨m', hm, σ3, H3, I3, w3⟩
    | brk => exact q3
    | ret v => exact q3
  | false =>
    rw [if_neg Bool.false_ne_true]
    exact wpAny_execs_nil ⟨σ1, H2, I2, q2⟩
end

/-- at turn i: it yields x (the heap may grow), or it stops -/
structure It where
  go : Nat → Hp → Prop
  yld : Nat → Hp → V → Hp → Prop
  stop : Nat → Hp → Prop
/-- the iterator's own objects may turn: they are not the frame's, not pinned, younger than the entry (or a comprehension's own) -/
def FpOk (X : Cx) (pins : List (Addr × Obj)) (H : Hp) (b : Addr) : Prop :=
  H b = none ∧ b ≠ X.env.locals ∧ b ∉ X.fs ∧ (b ∈ X.ex ∨ X.s₀.heap.objs.size ≤ b) ∧ (∀ x c, X.env.cells.lookup x = some c → c ≠ b) ∧ ∀ p ∈ X.pn ++ pins, p.1 ≠ b
theorem Inv.fpOk {X : Cx} {pins : List (Addr × Obj)} {σ : St} {H H' : Hp} {s : Shared} {b : Addr} (I : Inv X pins σ H s) (hb : s.heap.objs.size ≤ b) (hn : H' b = none) : FpOk X pins H' b := by
  refine ⟨hn, Nat.ne_of_gt (Nat.lt_of_lt_of_le I.lt hb), I.nofs hb, .inr (Nat.le_trans I.sz hb), fun x c e z => ?_, fun p hp z => ?_⟩
  · obtain ⟨v, q⟩ := I.cell x c e
    exact absurd (Nat.lt_of_lt_of_le q.lt (by rw [z]; exact hb)) (Nat.lt_irrefl _)
  · exact absurd (Nat.lt_of_lt_of_le (Heap.lt_size (I.pin p hp).1) (by rw [z]; exact hb)) (Nat.lt_irrefl _)
structure Turn (P : Program) (w : World) (K : PySem.W.Frag) (tg : Expr) (J : It) (fp : List Addr) (it : Addr) (tn : Nat → Heap → Prop) : Prop where
  mem : it ∈ fp
  obj : ∀ i h, tn i h → ∀ b ∈ fp, ∃ o, h.get? b = some o ∧ ∀ v, o.data ≠ .cell v
  keep : ∀ i h h', tn i h → (∀ b ∈ fp, ∀ o, h.get? b = some o → h'.get? b = some o) → tn i h'
  item : ∀ (X : Cx), X.prog = P → X.w = w → X.K = K → X.calm = true → ∀ (i : Nat) (pins : List (Addr × Obj)) (s : Shared) (σ : St) (H : Hp) (E : Value → Shared → Prop), Inv X pins σ H s → (∀ b ∈ fp, FpOk X pins H b) → tn i s.heap → J.go i H →
    wpAny (model P w) X.A (pyNext (.ref it)) (fun r s1 => ∃ u, r = some u ∧
      wpAny (model P w) X.A (letOwnedTupleGo tg (.ref it) u) (fun _ s2 => ∃ x H', Inv X pins σ H' s2 ∧ RelV x u ∧ J.yld i H x H' ∧ tn (i + 1) s2.heap ∧ ∀ b ∈ fp, H' b = none) E s1) E s
  done : ∀ (X : Cx), X.prog = P → X.w = w → X.K = K → X.calm = true → ∀ (i : Nat) (pins : List (Addr × Obj)) (s : Shared) (σ : St) (H : Hp) (E : Value → Shared → Prop), Inv X pins σ H s → (∀ b ∈ fp, FpOk X pins H b) → tn i s.heap → J.stop i H →
    wpAny (model P w) X.A (pyNext (.ref it)) (fun r s1 => r = none ∧ Inv X pins σ H s1) E s
  self : ∀ (A : Around) (i : Nat) (s : Shared) (Q : Value → Shared → Prop) (E : Value → Shared → Prop), tn i s.heap → Q (.ref it) s → wpAny (model P w) A (pyIter (.ref it)) Q E s
abbrev TI := St → Hp → (It → Hp → Prop) → Prop
/-- an iterator has come -/
def PIE (X : Cx) (pins : List (Addr × Obj)) (σ : St) (tg : Expr) (R : It → Hp → Prop) (itv : Value) (s2 : Shared) : Prop :=
  ∃ (it : Addr) (fp : List Addr) (tn : Nat → Heap → Prop) (J : It) (H' : Hp), itv = .ref it ∧ Inv X pins σ H' s2 ∧ Turn X.prog X.w X.K tg J fp it tn ∧ tn 0 s2.heap ∧ (∀ b ∈ fp, FpOk X pins H' b) ∧ R J H'
def PI (X : Cx) (tg iter : Expr) (wi : TI) : Prop :=
  ∀ (pins : List (Addr × Obj)) (s : Shared) (σ : St) (H : Hp) (R : It → Hp → Prop), Inv X pins σ H s → wi σ H R →
    wpAny (model X.prog X.w) X.A (eval iter X.env) (fun v s1 => wpAny (model X.prog X.w) X.A (pyIter v) (PIE X pins σ tg R) X.xe s1) X.xe s

/-- the step ahead of the store is nothing for an iterator that keeps no tuple -/
theorem go_of {M : Model} {A : Around} {E : Value → Shared → Prop} {s : Shared} {tg : Expr} {it : Addr} {u : Value} {o : Obj} {n : String} {vs : Array Value} {Q : Unit → Shared → Prop} (ho : s.heap.get? it = some o) (hc : o.cls = .type n) (hd : o.data = .fields vs)
    (hn : ["enumerate", "zip", "dict_itemiterator", "dict_reverseitemiterator", "odict_iterator", "itertools.zip_longest", "itertools.pairwise"].contains n = false) (hQ : Q () s) : wpAny M A (letOwnedTupleGo tg (.ref it) u) Q E s := by
  unfold letOwnedTupleGo
  cases tg <;> first
    | exact wpAny_pure hQ
    | (cases u <;> first
        | exact wpAny_pure hQ
        | (refine wpAny_bind (wpAny_load ho ?_)
           rw [hc, hd]
           show wpAny M A (if (["enumerate", "zip", "dict_itemiterator", "dict_reverseitemiterator", "odict_iterator", "itertools.zip_longest", "itertools.pairwise"].contains n && vs[0]? == some (rawInt _)) = true then _ else _) Q E s
           rw [if_neg (by intro h; rw [hn, Bool.false_and] at h; cases h)]
           exact wpAny_pure hQ))

/-- the list at a, as it stands at each turn (a loop may append to it) -/
def Itl (K : PySem.W.Frag) (a : Addr) : It :=
  ⟨fun i H => ∃ xs x, SqL K H a xs ∧ xs[i]? = some x, fun i H x H' => H' = H ∧ ∀ xs, SqL K H a xs → xs[i]? = some x, fun i H => ∃ xs, SqL K H a xs ∧ xs.length ≤ i⟩
/-- lo, lo + 1, .. (n of them) -/
def Itr (lo : Int) (n : Nat) : It := ⟨fun i _ => i < n, fun i H x H' => H' = H ∧ x = .int (lo + i), fun i _ => n ≤ i⟩
theorem turn_list {P : Program} {w : World} {K : PySem.W.Frag} {tg : Expr} (a it : Addr) : Turn P w K tg (Itl K a) [it] it (fun i h => h.IsListIter it a i) where
  mem := by simp
  obj := fun i h st b hb => by
    have e : b = it := by simpa using hb
    subst e
    obtain ⟨o, e, c, d⟩ := st
    exact ⟨o, e, fun v z => by rw [d] at z; cases z⟩
  keep := fun i h h' st k => st.at fun o e => k it (by simp) o e
  item := by
    intro X hP hw hK hc i pins s σ H E I hf st hg
    subst hP hw hK
    obtain ⟨xs, x, hq, hx⟩ := hg
    obtain ⟨its, rv, p, hz⟩ := I.list hq
    obtain ⟨u, hu, ru⟩ := rv.get hx
    obtain ⟨f0, f1, f2, f3, f4, f5⟩ := hf it (by simp)
    refine wpAny_pyNext_list_item st p.isList (x := u) (by simpa using hu) fun h' st' sb => ?_
    have I1 : Inv X pins σ H { s with heap := h' } := I.turned (t' := s.toks) (fun b o hb e => (sb.2 b hb).trans e) f0 f1 f3 f4 f5
    obtain ⟨o, e, c, d⟩ := id st'
    exact ⟨u, rfl, go_of (s := { s with heap := h' }) e c d (by decide) ⟨x, H, I1, ru, ⟨rfl, fun ys hy => by rw [I.list_inj hy hq]; exact hx⟩, st', fun b hb => (hf b hb).1⟩⟩
  done := by
    intro X hP hw hK hc i pins s σ H E I hf st hg
    subst hP hw hK
    obtain ⟨xs, hq, hx⟩ := hg
    obtain ⟨its, rv, p, hz⟩ := I.list hq
    obtain ⟨f0, f1, f2, f3, f4, f5⟩ := hf it (by simp)
    have hl := rv.length
    exact wpAny_pyNext_list_end (I.ok.hd hc) st p.isList (by simp; omega) fun h' eb => ⟨rfl, I.turned (t' := s.toks) (fun b o hb e => eb b o hb e) f0 f1 f3 f4 f5⟩
  self := fun _ _ _ _ _ st h => wpAny_pyIter_listiter st h
theorem turn_range {P : Program} {w : World} {K : PySem.W.Frag} {tg : Expr} (it : Addr) (lo : Int) (n : Nat) : Turn P w K tg (Itr lo n) [it] it (fun i h => IsRangeIter h it (lo + (i : Nat) * 1) ((n : Int) - (i : Nat)) 1) where
  mem := by simp
  obj := fun i h st b hb => by
    have e : b = it := by simpa using hb
    subst e
    exact ⟨_, st, fun v z => by
      have z' : Data.fields _ = Data.cell v := z
      cases z'⟩
  keep := fun i h h' st k => k it (by simp) _ st
  item := by
    intro X hP hw hK hc i pins s σ H E I hf st hg
    subst hP hw hK
    obtain ⟨f0, f1, f2, f3, f4, f5⟩ := hf it (by simp)
    have W := Walks.range (prog := X.prog) (w := X.w) (I.ok.hd hc) it lo 1 n
    refine W.item i s _ _ hg st fun v h' tk hv st' kk => ?_
    obtain ⟨t, rfl⟩ := hv
    have I1 : Inv X pins σ H { s with heap := h', toks := tk } := I.turned (fun b o hb e => kk b o (by simpa using hb) e) f0 f1 f3 f4 f5
    refine ⟨_, rfl, go_of (s := { s with heap := h', toks := tk }) (n := "range_iterator") st' rfl rfl (by decide) ⟨.int (lo + i), H, I1, ⟨t, ?_⟩, ⟨rfl, rfl⟩, st', fun b hb => (hf b hb).1⟩⟩
    rw [Int.mul_one]
  done := by
    intro X hP hw hK hc i pins s σ H E I hf st hg
    subst hP hw hK
    obtain ⟨f0, f1, f2, f3, f4, f5⟩ := hf it (by simp)
    exact wpAny_pyNext_range_end (I.ok.hd hc) st (by have : n ≤ i := hg; omega) fun h' eb => ⟨rfl, I.turned (t' := s.toks) (fun b o hb e => eb b o hb e) f0 f1 f3 f4 f5⟩
  self := fun _ _ _ _ _ st h => wpAny_pyIter_rangeiter st h
end L2

namespace L2
open PySem PySem.Spec PyProof.Rows
section
variable {X : Cx} {tg : Expr}
def iList (K : PySem.W.Frag) (tl : TE) : TI := fun σ H R => tl σ H fun x H1 => ∃ a, x = .ref a ∧ (∃ xs, SqL K H1 a xs) ∧ R (Itl K a) H1
theorem pi_list {l : Expr} {tl : TE} (hl : PE X l tl) : PI X tg l (iList X.K tl) := by
  intro pins s σ H R I h
  refine thn (hl pins s σ H _ I h) fun v s1 ⟨x, H1, I1, r1, q1⟩ => ?_
  obtain ⟨a, e, ⟨xs, hq⟩, q⟩ := q1
  subst e
  cases r1
  obtain ⟨its, rv, p, hz⟩ := I1.list hq
  refine wpAny_pyIter_list p.isList ?_
  refine ⟨s1.heap.objs.size, [s1.heap.objs.size], _, _, H1, rfl, I1.kept (t' := s1.toks) fun b o e => Heap.get?_push_of_some _ e, turn_list a _, ⟨_, Heap.get?_push_size _ rfl, rfl, rfl⟩, fun b hb => ?_, q⟩
  have e : b = s1.heap.objs.size := by simpa using hb
  subst e
  exact I1.fpOk (Nat.le_refl _) (I1.hok.fresh (Nat.le_refl _))
/-- a range object just made, walked -/
theorem range_it {pins : List (Addr × Obj)} {σ : St} {H : Hp} {s : Shared} {R : It → Hp → Prop} {E : Value → Shared → Prop} {lo hi : Int} {t u v : Tok} {tk : Nat} (I : Inv X pins σ H s) (h1 : -(2 ^ 62) ≤ lo) (h2 : lo < 2 ^ 62) (h3 : -(2 ^ 62) ≤ hi) (h4 : hi < 2 ^ 62)
    (q : R (Itr lo (hi - lo).toNat) H) : wpAny (model X.prog X.w) X.A (pyIter (.ref s.heap.objs.size)) (PIE X pins σ tg R) E { s with heap := s.heap.push { cls := .type "range", data := .fields #[.int lo t, .int hi u, .int 1 v] }, toks := tk } := by
  refine wpAny_pyIter_range (IsRange.new ..) (small_one h1 h2 h3 h4) ?_
  have I1 : Inv X pins σ H { s with heap := s.heap.push { cls := .type "range", data := .fields #[.int lo t, .int hi u, .int 1 v] }, toks := tk } := I.kept fun b o e => Heap.get?_push_of_some _ e
  refine ⟨(s.heap.push { cls := .type "range", data := .fields #[.int lo t, .int hi u, .int 1 v] }).objs.size, [(s.heap.push { cls := .type "range", data := .fields #[.int lo t, .int hi u, .int 1 v] }).objs.size], _, _, H, rfl,
    I1.kept (t' := tk) fun b o e => Heap.get?_push_of_some _ e, turn_range _ lo (hi - lo).toNat, ?_, fun b hb => ?_, q⟩
  · have e1 : lo + ((0 : Nat) : Int) * 1 = lo := by simp
    have e2 : (((hi - lo).toNat : Nat) : Int) - ((0 : Nat) : Int) = Builtin.Range.rangeSize lo hi 1 := by rw [rangeSize_one]; split <;> omega
    show IsRangeIter _ _ (lo + ((0 : Nat) : Int) * 1) ((((hi - lo).toNat : Nat) : Int) - ((0 : Nat) : Int)) 1
    rw [e1, e2]
    exact Heap.get?_push_size _ rfl
  · have e : b = (s.heap.push { cls := .type "range", data := .fields #[.int lo t, .int hi u, .int 1 v] }).objs.size := by simpa using hb
    subst e
    exact I1.fpOk (Nat.le_refl _) (I1.hok.fresh (Nat.le_refl _))
def iRng1 (ta : TA) : TI := fun σ H R => ta σ H fun vs H1 => ∃ j : Int, vs = [.int j] ∧ -(2 ^ 62) ≤ j ∧ j < 2 ^ 62 ∧ R (Itr 0 j.toNat) H1
def iRng2 (ta : TA) : TI := fun σ H R => ta σ H fun vs H1 => ∃ i j : Int, vs = [.int i, .int j] ∧ (-(2 ^ 62) ≤ i ∧ i < 2 ^ 62 ∧ -(2 ^ 62) ≤ j ∧ j < 2 ^ 62) ∧ R (Itr i (j - i).toNat) H1
theorem pi_range1 {a : Expr} {ta : TA} {p pos : Pos} (hg : Gl X "range") (hm : X.mg "range" = none) (ha : PA X [a] ta) (hs : starEach [a] X.env = [(false, eval a X.env)] := by rfl) : PI X tg (.Call (.Name "range" p) [a] [] pos) (iRng1 ta) := by
  intro pins s σ H R I h
  refine Call_ (ld_blt I hg hm boot_range (PyProof.Rows.callWith_type1 (thn (ha pos pins s σ H _ I h) fun us s1 ⟨vs, H1, I1, r1, q1⟩ => ?_) hs rfl))
  obtain ⟨j, e, q1, q2, q⟩ := q1
  subst e
  cases r1 with
  | cons r rr =>
    cases rr
    obtain ⟨t, rfl⟩ := r
    exact call_range_1 (range_it I1 (by omega) (by omega) q1 q2 (by simpa using q))
theorem pi_range2 {a b : Expr} {ta : TA} {p pos : Pos} (hg : Gl X "range") (hm : X.mg "range" = none) (ha : PA X [a, b] ta) (hs : starEach [a, b] X.env = [(false, eval a X.env), (false, eval b X.env)] := by rfl) (hs2 : starEach [b] X.env = [(false, eval b X.env)] := by rfl) :
    PI X tg (.Call (.Name "range" p) [a, b] [] pos) (iRng2 ta) := by
  intro pins s σ H R I h
  refine Call_ (ld_blt I hg hm boot_range (PyProof.Rows.callWith_type1 (thn (ha pos pins s σ H _ I h) fun us s1 ⟨vs, H1, I1, r1, q1⟩ => ?_) (by rw [hs, hs2]) (by rw [hs2]; rfl)))
  obtain ⟨i, j, e, ⟨q1, q2, q3, q4⟩, q⟩ := q1
  subst e
  cases r1 with
  | cons r rr =>
    cases rr with
    | cons r' rr =>
      cases rr
      obtain ⟨t, rfl⟩ := r
      obtain ⟨t', rfl⟩ := r'
      exact call_range_2 (range_it I1 q1 q2 q3 q4 q)

/-- W: the invariant by the turn and a measure; N: what the body is to reach -/
def tFor (wi : TI) (g : TG) (tb : TS) : TS := fun D σ H => wi σ H fun J H1 => ∃ W : Nat → Nat → St → Hp → Prop, (∃ m, W 0 m σ H1) ∧ ∀ i m σ H, W i m σ H →
  (J.stop i H ∧ D.nx σ H) ∨ (J.go i H ∧ ∃ N : St → Hp → Prop, (∀ σ' H', N σ' H' → ∃ m', m' < m ∧ W (i + 1) m' σ' H') ∧ ∀ x H', J.yld i H x H' → g x σ H' fun σ2 H2 => tb { D with nx := N, ct := N, bk := D.nx } σ2 H2)
/-- the records at fp as they stand -/
def pinsAt (fp : List Addr) (h : Heap) : List (Addr × Obj) := fp.filterMap fun b => (h.get? b).map fun o => (b, o)
theorem mem_pinsAt {fp : List Addr} {h : Heap} {b : Addr} {o : Obj} (hb : b ∈ fp) (e : h.get? b = some o) : (b, o) ∈ pinsAt fp h := List.mem_filterMap.mpr ⟨b, hb, by rw [e]; rfl⟩
theorem of_pinsAt {fp : List Addr} {h : Heap} {p : Addr × Obj} (hp : p ∈ pinsAt fp h) : p.1 ∈ fp ∧ h.get? p.1 = some p.2 := by
  obtain ⟨b, hb, e⟩ := List.mem_filterMap.mp hp
  cases q : h.get? b with
  | none => rw [q] at e; cases e
  | some o =>
    rw [q] at e
    have e' : (b, o) = p := Option.some.inj e
    subst e'
    exact ⟨hb, q⟩
theorem Inv.pinned {pins : List (Addr × Obj)} {σ : St} {H : Hp} {s : Shared} {fp : List Addr} (I : Inv X pins σ H s) (hf : ∀ b ∈ fp, FpOk X pins H b) (ho : ∀ b ∈ fp, ∃ o, s.heap.get? b = some o ∧ ∀ v, o.data ≠ .cell v) : Inv X (pins ++ pinsAt fp s.heap) σ H s :=
  I.pins_of fun p hp => (List.mem_append.mp hp).elim (fun z => I.pin p (List.mem_append_right _ z)) fun z => by
    obtain ⟨hb, e⟩ := of_pinsAt z
    obtain ⟨f0, f1, f2, _⟩ := hf p.1 hb
    obtain ⟨o, e', d⟩ := ho p.1 hb
    rw [e] at e'; cases e'
    exact ⟨e, f0, f1, f2, d⟩
theorem Inv.unpinned {pins pl : List (Addr × Obj)} {σ : St} {H : Hp} {s : Shared} (I : Inv X (pins ++ pl) σ H s) : Inv X pins σ H s := I.pins_of fun p hp => I.pin p (List.mem_append_right _ (List.mem_append_left _ hp))
theorem ps_for {iter : Expr} {body : List Stmt} {wi : TI} {g : TG} {tb : TS} {pos : Pos} (hp : PassesOwn (model X.prog X.w) X.A X.env X.xe) (hc : X.calm = true) (hi : PI X tg iter wi) (hg : PG X tg g) (hb : PSs X body tb)
    (hs : ∀ x, foldedSetIterable iter X.env x = pure x := by intro _; rfl) : PS X (.For tg iter body [] pos) (tFor wi g tb) := by
  intro pins s σ H D I h
  refine wpAny_For (thn (hi pins s σ H _ I h) fun v s1 h1 => thn h1 fun itv s2 h2 => ?_) hs
  obtain ⟨it, fp, tn, J, H2, e, I2, T, st2, f2, W, ⟨m0, w0⟩, turn⟩ := h2
  subst e
  -- what stays true of the iterator's objects through the loop
  have stat : ∀ {H' : Hp}, (∀ b ∈ fp, H' b = none) → ∀ b ∈ fp, FpOk X pins H' b := fun hn b hb => ⟨hn b hb, (f2 b hb).2⟩
  refine codeAny_forLoop_any (fun n s' => ∃ i σ' H', Inv X pins σ' H' s' ∧ tn i s'.heap ∧ (∀ b ∈ fp, H' b = none) ∧ W i n σ' H') ?_ m0 ⟨0, σ, H2, I2, st2, fun b hb => (f2 b hb).1, w0⟩
  rintro n s3 ⟨i, σ3, H3, I3, st3, fr3, w3⟩
  rcases turn i n σ3 H3 w3 with ⟨stop, qn⟩ | ⟨go, N, hN, step⟩
  · refine wpAny_passesOwn hp (thn (T.done X rfl rfl rfl hc i pins s3 σ3 H3 X.xe I3 (stat fr3) st3 stop) fun r s4 ⟨hr, I4⟩ => ?_)
    subst hr
    exact wpAny_execs_nil ⟨σ3, H3, I4, qn⟩
  · refine wpAny_passesOwn hp (thn (T.item X rfl rfl rfl hc i pins s3 σ3 H3 X.xe I3 (stat fr3) st3 go) fun r s4 ⟨u, hr, h4⟩ => ?_)
    subst hr
    refine wpAny_passesOwn hp (thn h4 fun _ s5 ⟨x, H5, I5, r5, y5, st5, fr5⟩ => ?_)
    have I5' := I5.pinned (stat fr5) (T.obj _ _ st5)
    refine wpAny_passesOwn hp (thn (hg _ s5 σ3 H5 x u _ I5' r5 (step x H5 y5)) fun _ s6 ⟨σ6, H6, I6, q6⟩ => ?_)
    refine wpAny_passesOwn hp (thn (hb _ s6 σ6 H6 _ I6 q6) fun f s7 q7 => ?_)
    have again : ∀ {σ7 : St} {H7 : Hp}, Inv X (pins ++ pinsAt fp s5.heap) σ7 H7 s7 → N σ7 H7 → ∃ m, m < n ∧ ∃ i σ' H', Inv X pins σ' H' s7 ∧ tn i s7.heap ∧ (∀ b ∈ fp, H' b = none) ∧ W i m σ' H' := fun {σ7 H7} I7 n7 => by
      obtain ⟨m', hm, w7⟩ := hN σ7 H7 n7
      refine ⟨m', hm, i + 1, σ7, H7, I7.unpinned, T.keep _ _ _ st5 fun b hb o e => (I7.pin (b, o) (List.mem_append_right _ (List.mem_append_right _ (mem_pinsAt hb e)))).1, fun b hb => ?_, w7⟩
      obtain ⟨o, e, d⟩ := T.obj _ _ st5 b hb
      exact (I7.pin (b, o) (List.mem_append_right _ (List.mem_append_right _ (mem_pinsAt hb e)))).2.1
    cases f with
    | next => obtain ⟨σ7, H7, I7, n7⟩ := q7; exact again I7 n7
    | cont => obtain ⟨σ7, H7, I7, n7⟩ := q7; exact again I7 n7
    | brk => obtain ⟨σ7, H7, I7, q7⟩ := q7; exact ⟨σ7, H7, I7.unpinned, q7⟩
    | ret v => obtain ⟨x7, σ7, H7, I7, r7, q7⟩ := q7; exact ⟨x7, σ7, H7, I7.unpinned, r7, q7⟩
end

/-- over a list that the body leaves as it is -/
theorem for_list {K : PySem.W.Frag} {a : Addr} {xs : List V} {g : TG} {tb : TS} {D : Ends} {σ : St} {H : Hp} (Pv : Nat → St → Hp → Prop) (h0 : Pv 0 σ H) (hl : ∀ i σ H, i ≤ xs.length → Pv i σ H → SqL K H a xs)
    (hs : ∀ i x σ H, xs[i]? = some x → Pv i σ H → g x σ H fun σ2 H2 => tb { D with nx := Pv (i + 1), ct := Pv (i + 1), bk := D.nx } σ2 H2) (hd : ∀ σ H, Pv xs.length σ H → D.nx σ H) :
    ∃ W : Nat → Nat → St → Hp → Prop, (∃ m, W 0 m σ H) ∧ ∀ i m σ H, W i m σ H →
      ((Itl K a).stop i H ∧ D.nx σ H) ∨ ((Itl K a).go i H ∧ ∃ N : St → Hp → Prop, (∀ σ' H', N σ' H' → ∃ m', m' < m ∧ W (i + 1) m' σ' H') ∧ ∀ x H', (Itl K a).yld i H x H' → g x σ H' fun σ2 H2 => tb { D with nx := N, ct := N, bk := D.nx } σ2 H2) := by
  refine ⟨fun i m σ H => m = xs.length - i ∧ i ≤ xs.length ∧ Pv i σ H, ⟨xs.length, by simp, Nat.zero_le _, h0⟩, ?_⟩
  rintro i m σ H ⟨rfl, hi, p⟩
  have q := hl i σ H hi p
  by_cases hlt : i < xs.length
  · refine .inr ⟨⟨xs, xs[i], q, by simp [hlt]⟩, Pv (i + 1), fun σ' H' p' => ⟨xs.length - (i + 1), by omega, rfl, hlt, p'⟩, fun x H' y => ?_⟩
    obtain ⟨e, y⟩ := y
    subst e
    exact hs i x σ _ (y xs q) p
  · have e : i = xs.length := by omega
    subst e
    exact .inl ⟨⟨xs, q, Nat.le_refl _⟩, hd σ H p⟩
theorem for_range {lo : Int} {n : Nat} {g : TG} {tb : TS} {D : Ends} {σ : St} {H : Hp} (Pv : Nat → St → Hp → Prop) (h0 : Pv 0 σ H)
    (hs : ∀ i σ H, i < n → Pv i σ H → g (.int (lo + i)) σ H fun σ2 H2 => tb { D with nx := Pv (i + 1), ct := Pv (i + 1), bk := D.nx } σ2 H2) (hd : ∀ σ H, Pv n σ H → D.nx σ H) :
    ∃ W : Nat → Nat → St → Hp → Prop, (∃ m, W 0 m σ H) ∧ ∀ i m σ H, W i m σ H →
      ((Itr lo n).stop i H ∧ D.nx σ H) ∨ ((Itr lo n).go i H ∧ ∃ N : St → Hp → Prop, (∀ σ' H', N σ' H' → ∃ m', m' < m ∧ W (i + 1) m' σ' H') ∧ ∀ x H', (Itr lo n).yld i H x H' → g x σ H' fun σ2 H2 => tb { D with nx := N, ct := N, bk := D.nx } σ2 H2) := by
  refine ⟨fun i m σ H => m = n - i ∧ i ≤ n ∧ Pv i σ H, ⟨n, by simp, Nat.zero_le _, h0⟩, ?_⟩
  rintro i m σ H ⟨rfl, hi, p⟩
  by_cases hlt : i < n
  · refine .inr ⟨hlt, Pv (i + 1), fun σ' H' p' => ⟨n - (i + 1), by omega, rfl, hlt, p'⟩, fun x H' y => ?_⟩
    obtain ⟨e, y⟩ := y
    subst e y
    exact hs i σ _ hlt p
  · have e : i = n := by omega
    subst e
    exact .inl ⟨Nat.le_refl _, hd σ H p⟩
end L2

namespace L2
open PySem PySem.Spec PyProof.Rows

abbrev R2 := V → V → Hp → VK → Prop
/-- a two-place operation on values: f is binaryOp op, inplaceOp op or compareOp op -/
def OpR (X : Cx) (f : Value → Value → Sem Value) (r : R2) : Prop :=
  ∀ (pins : List (Addr × Obj)) (s : Shared) (σ : St) (H : Hp) (x y : V) (v u : Value) (Q : VK), Inv X pins σ H s → RelV x v → RelV y u → r x y H Q →
    wpAny (model X.prog X.w) X.A (f v u) (EP X pins σ Q) X.xe s
/-- a one-place operation -/
def UnR (X : Cx) (f : Value → Sem Value) (r : V → Hp → VK → Prop) : Prop :=
  ∀ (pins : List (Addr × Obj)) (s : Shared) (σ : St) (H : Hp) (x : V) (v : Value) (Q : VK), Inv X pins σ H s → RelV x v → r x H Q →
    wpAny (model X.prog X.w) X.A (f v) (EP X pins σ Q) X.xe s
/-- a call of a value that is known (a builtin, a type) with values -/
def CallR (X : Cx) (f : Value) (r : List V → Hp → VK → Prop) : Prop :=
  ∀ (pins : List (Addr × Obj)) (s : Shared) (σ : St) (H : Hp) (xs : List V) (us : List Value) (Q : VK), Inv X pins σ H s → Vals xs us → r xs H Q →
    wpAny (model X.prog X.w) X.A (call f us) (EP X pins σ Q) X.xe s
def tOp (r : R2) (ta tb : TE) : TE := fun σ H Q => ta σ H fun x H1 => tb σ H1 fun y H2 => r x y H2 Q
def tUn (r : V → Hp → VK → Prop) (ta : TE) : TE := fun σ H Q => ta σ H fun x H1 => r x H1 Q
/-- ints in, under C, and a value out -/
def rI (C : Int → Int → Prop) (g : Int → Int → V) : R2 := fun x y H Q => ∃ i j, x = .int i ∧ y = .int j ∧ C i j ∧ Q (g i j) H
def rI0 (g : Int → Int → V) : R2 := fun x y H Q => ∃ i j, x = .int i ∧ y = .int j ∧ Q (g i j) H
def rU (g : Int → V) : V → Hp → VK → Prop := fun x H Q => ∃ i, x = .int i ∧ Q (g i) H

section
variable {X : Cx} {a b c : Expr} {ta tb tc : TE} {pos : Pos}

theorem binT (ha : PE X a ta) (hb : PE X b tb) {pins : List (Addr × Obj)} {s : Shared} {σ : St} {H : Hp} {R : V → V → Hp → Prop} (I : Inv X pins σ H s)
    (h : ta σ H fun x H1 => tb σ H1 fun y H2 => R x y H2) {Q : Value → Shared → Prop} {f : Value → Value → Sem Value}
    (hf : ∀ v u s2 x y H2, Inv X pins σ H2 s2 → RelV x v → RelV y u → R x y H2 → wpAny (model X.prog X.w) X.A (f v u) Q X.xe s2) :
    wpAny (model X.prog X.w) X.A (eval a X.env) (fun v s₁ => wpAny (model X.prog X.w) X.A (eval b X.env) (fun u s₂ => wpAny (model X.prog X.w) X.A (f v u) Q X.xe s₂) X.xe s₁) X.xe s := by
  refine thn (ha pins s σ H _ I h) fun v s1 ⟨x, H1, I1, r1, q1⟩ => ?_
  refine thn (hb pins s1 σ H1 _ I1 q1) fun u s2 ⟨y, H2, I2, r2, q2⟩ => ?_
  exact hf v u s2 x y H2 I2 r1 r2 q2

theorem pe_op {op : Operator} {r : R2} (ho : OpR X (binaryOp op) r) (ha : PE X a ta) (hb : PE X b tb) : PE X (.BinOp a op b pos) (tOp r ta tb) := by
  intro pins s σ H Q I h
  exact wpAny_BinOp (binT ha hb I h fun v u s2 x y H2 I2 rx ry q => ho pins s2 σ H2 x y v u Q I2 rx ry q)
theorem pe_un {op : UnaryOp} {r : V → Hp → VK → Prop} (ho : UnR X (unaryOp op) r) (ha : PE X a ta) : PE X (.UnaryOp op a pos) (tUn r ta) := by
  intro pins s σ H Q I h
  exact UnaryOp_ (thn (ha pins s σ H _ I h) fun v s1 ⟨x, H1, I1, r1, q1⟩ => ho pins s1 σ H1 x v Q I1 r1 q1)
theorem opI {f : Value → Value → Sem Value} {C : Int → Int → Prop} {g : Int → Int → Int}
    (rule : ∀ (i j : Int) (t u : Tok) (s : Shared) (Q : Value → Shared → Prop) (E : Value → Shared → Prop), C i j → Q (.int (g i j) s.toks) { s with toks := s.toks + 1 } → wpAny (model X.prog X.w) X.A (f (.int i t) (.int j u)) Q E s) :
    OpR X f (rI C fun i j => .int (g i j)) := by
  intro pins s σ H x y v u Q I rx ry h
  obtain ⟨i, j, rfl, rfl, hc, q⟩ := h
  obtain ⟨t, rfl⟩ := rx
  obtain ⟨t', rfl⟩ := ry
  exact rule i j t t' s _ _ hc ⟨.int (g i j), H, I.tok _, ⟨_, rfl⟩, q⟩
theorem opI0 {f : Value → Value → Sem Value} {g : Int → Int → Int}
    (rule : ∀ (i j : Int) (t u : Tok) (s : Shared) (Q : Value → Shared → Prop) (E : Value → Shared → Prop), Q (.int (g i j) s.toks) { s with toks := s.toks + 1 } → wpAny (model X.prog X.w) X.A (f (.int i t) (.int j u)) Q E s) :
    OpR X f (rI0 fun i j => .int (g i j)) := by
  intro pins s σ H x y v u Q I rx ry h
  obtain ⟨i, j, rfl, rfl, q⟩ := h
  obtain ⟨t, rfl⟩ := rx
  obtain ⟨t', rfl⟩ := ry
  exact rule i j t t' s _ _ ⟨.int (g i j), H, I.tok _, ⟨_, rfl⟩, q⟩
theorem opB0 {f : Value → Value → Sem Value} {g : Int → Int → Bool}
    (rule : ∀ (i j : Int) (t u : Tok) (s : Shared) (Q : Value → Shared → Prop) (E : Value → Shared → Prop), Q (.bool (g i j)) s → wpAny (model X.prog X.w) X.A (f (.int i t) (.int j u)) Q E s) :
    OpR X f (rI0 fun i j => .bl (g i j)) := by
  intro pins s σ H x y v u Q I rx ry h
  obtain ⟨i, j, rfl, rfl, q⟩ := h
  obtain ⟨t, rfl⟩ := rx
  obtain ⟨t', rfl⟩ := ry
  exact rule i j t t' s _ _ ⟨.bl (g i j), H, I, rfl, q⟩

def CDiv (i j : Int) : Prop := 0 < j ∧ j < 1073741824
def CMul (i j : Int) : Prop := (-(2 ^ 64) < i ∧ i < 2 ^ 64) ∨ (-(2 ^ 64) < j ∧ j < 2 ^ 64)
theorem CMul.ok {i j : Int} (h : CMul i j) : IntMulOk i j := by
  rcases h with ⟨h1, h2⟩ | ⟨h1, h2⟩
  · exact .of_left (intBits_le_64 h1 h2)
  · exact .of_right (intBits_le_64 h1 h2)
theorem op_add : OpR X (binaryOp .Add) (rI0 fun i j => .int (i + j)) := opI0 fun _ _ _ _ _ _ _ q => add_int q
theorem op_sub : OpR X (binaryOp .Sub) (rI0 fun i j => .int (i - j)) := opI0 fun _ _ _ _ _ _ _ q => sub_int q
theorem op_mul : OpR X (binaryOp .Mult) (rI CMul fun i j => .int (i * j)) := opI fun _ _ _ _ _ _ _ hc q => mul_int q hc.ok
/-- // by a positive divisor -/
theorem op_fdiv : OpR X (binaryOp .FloorDiv) (rI CDiv fun i j => .int (i / j)) := opI fun i j _ _ _ _ _ hc q => by
  have h1 : (0 : Int) < j := hc.1
  have h2 : j < 1073741824 := hc.2
  exact floordiv_int (by omega) (by rw [Int.fdiv_eq_ediv_of_nonneg i (by omega)]; exact q) (.inl (PyProof.noPylong_small (by omega)))
/-- % by a positive divisor of any size -/
theorem op_mod : OpR X (binaryOp .Mod) (rI (fun _ j => 0 < j) fun i j => .int (i % j)) := opI fun i j _ _ _ _ _ hc q => by
  have h1 : (0 : Int) < j := hc
  exact mod_int' (by omega) (by rw [Int.fmod_eq_emod_of_nonneg i (by omega)]; exact q)
theorem unI {f : Value → Sem Value} {g : Int → Int}
    (rule : ∀ (i : Int) (t : Tok) (s : Shared) (Q : Value → Shared → Prop) (E : Value → Shared → Prop), Q (.int (g i) s.toks) { s with toks := s.toks + 1 } → wpAny (model X.prog X.w) X.A (f (.int i t)) Q E s) :
    UnR X f (rU fun i => .int (g i)) := by
  intro pins s σ H x v Q I rx h
  obtain ⟨i, rfl, q⟩ := h
  obtain ⟨t, rfl⟩ := rx
  exact rule i t s _ _ ⟨.int (g i), H, I.tok _, ⟨_, rfl⟩, q⟩
theorem un_neg : UnR X (unaryOp .USub) (rU fun i => .int (-i)) := unI fun _ _ _ _ _ q => neg_int q
end

/-- the scalars that == tells apart as data does -/
def scal : V → V → Bool
  | .non, .non => true | .non, .int _ => true | .int _, .non => true | .non, .bl _ => true | .bl _, .non => true | .non, .str _ => true | .str _, .non => true
  | .int _, .int _ => true | .bl _, .bl _ => true | .str _, .str _ => true | .byt _, .byt _ => true
  | .int _, .str _ => true | .str _, .int _ => true | .bl _, .str _ => true | .str _, .bl _ => true
  | _, _ => false
def rEq : R2 := fun x y H Q => scal x y = true ∧ Q (.bl (decide (x = y))) H
def rNe : R2 := fun x y H Q => scal x y = true ∧ Q (.bl (!decide (x = y))) H

theorem dec_int {i j : Int} : decide (V.int i = V.int j) = (i == j) := by
  rw [Bool.eq_iff_iff]
  simp
theorem dec_bl {i j : Bool} : decide (V.bl i = V.bl j) = (i == j) := by
  rw [Bool.eq_iff_iff]
  simp
theorem dec_str {i j : Str} : decide (V.str i = V.str j) = (i == j) := by
  rw [Bool.eq_iff_iff]
  simp
theorem dec_byt {i j : Array UInt8} : decide (V.byt i = V.byt j) = (i.toList == j.toList) := by
  rw [Bool.eq_iff_iff]
  cases i
  cases j
  simp

section
variable {X : Cx} {a b c : Expr} {ta tb tc : TE} {pos : Pos}
theorem fin_bl {pins : List (Addr × Obj)} {σ : St} {H : Hp} {s : Shared} {Q : VK} {k k' : Bool} (I : Inv X pins σ H s) (q : Q (.bl k) H) (e : k = k') : EP X pins σ Q (.bool k') s := by
  subst e
  exact ⟨.bl k, H, I, rfl, q⟩
theorem op_eq : OpR X (compareOp .Eq) rEq := by
  intro pins s σ H x y v u Q I rx ry h
  obtain ⟨hs, q⟩ := h
  cases x with
  | non =>
    cases rx
    cases y with
    | non => cases ry; exact PySem.EqNone.eq_none_none (fin_bl I q (by simp))
    | bl j => cases ry; exact PySem.EqNone.eq_none_bool (fin_bl I q (by simp))
    | int j => obtain ⟨t', rfl⟩ := ry; exact PySem.EqNone.eq_none_int (fin_bl I q (by simp))
    | str j => obtain ⟨t', rfl⟩ := ry; exact PySem.EqNone.eq_none_str (fin_bl I q (by simp))
    | _ => exact absurd (show false = true from hs) Bool.false_ne_true
  | bl i =>
    cases rx
    cases y with
    | non => cases ry; exact PySem.EqNone.eq_bool_none (fin_bl I q (by simp))
    | bl j => cases ry; exact eq_bool (fin_bl I q dec_bl)
    | str j => obtain ⟨t', rfl⟩ := ry; exact PySem.EqMixed.eq_bool_str (fin_bl I q (by simp))
    | _ => exact absurd (show false = true from hs) Bool.false_ne_true
  | int i =>
    obtain ⟨t, rfl⟩ := rx
    cases y with
    | non => cases ry; exact PySem.EqNone.eq_int_none (fin_bl I q (by simp))
    | int j => obtain ⟨t', rfl⟩ := ry; exact eq_int (fin_bl I q dec_int)
    | str j => obtain ⟨t', rfl⟩ := ry; exact PySem.EqMixed.eq_int_str (fin_bl I q (by simp))
    | _ => exact absurd (show false = true from hs) Bool.false_ne_true
  | str i =>
    obtain ⟨t, rfl⟩ := rx
    cases y with
    | non => cases ry; exact PySem.EqNone.eq_str_none (fin_bl I q (by simp))
    | bl j => cases ry; exact PySem.EqMixed.eq_str_bool (fin_bl I q (by simp))
    | int j => obtain ⟨t', rfl⟩ := ry; exact PySem.EqMixed.eq_str_int (fin_bl I q (by simp))
    | str j => obtain ⟨t', rfl⟩ := ry; exact eq_str (fin_bl I q dec_str)
    | _ => exact absurd (show false = true from hs) Bool.false_ne_true
  | byt i =>
    obtain ⟨t, rfl⟩ := rx
    cases y with
    | byt j => obtain ⟨t', rfl⟩ := ry; exact PySem.W.eq_bytes (fin_bl I q dec_byt)
    | _ => exact absurd (show false = true from hs) Bool.false_ne_true
  | _ => cases y <;> exact absurd (show false = true from hs) Bool.false_ne_true
theorem op_ne : OpR X (compareOp .NotEq) rNe := by
  intro pins s σ H x y v u Q I rx ry h
  obtain ⟨hs, q⟩ := h
  cases x with
  | non =>
    cases rx
    cases y with
    | non => cases ry; exact PySem.EqNone.ne_none_none (fin_bl I q (by simp))
    | bl j => cases ry; exact PySem.EqNone.ne_none_bool (fin_bl I q (by simp))
    | int j => obtain ⟨t', rfl⟩ := ry; exact PySem.EqNone.ne_none_int (fin_bl I q (by simp))
    | str j => obtain ⟨t', rfl⟩ := ry; exact PySem.EqNone.ne_none_str (fin_bl I q (by simp))
    | _ => exact absurd (show false = true from hs) Bool.false_ne_true
  | bl i =>
    cases rx
    cases y with
    | non => cases ry; exact PySem.EqNone.ne_bool_none (fin_bl I q (by simp))
    | bl j => cases ry; exact ne_bool (fin_bl I q (congrArg not dec_bl))
    | str j => obtain ⟨t', rfl⟩ := ry; exact PySem.EqMixed.ne_bool_str (fin_bl I q (by simp))
    | _ => exact absurd (show false = true from hs) Bool.false_ne_true
  | int i =>
    obtain ⟨t, rfl⟩ := rx
    cases y with
    | non => cases ry; exact PySem.EqNone.ne_int_none (fin_bl I q (by simp))
    | int j => obtain ⟨t', rfl⟩ := ry; exact ne_int (fin_bl I q (congrArg not dec_int))
    | str j => obtain ⟨t', rfl⟩ := ry; exact PySem.EqMixed.ne_int_str (fin_bl I q (by simp))
    | _ => exact absurd (show false = true from hs) Bool.false_ne_true
  | str i =>
    obtain ⟨t, rfl⟩ := rx
    cases y with
    | non => cases ry; exact PySem.EqNone.ne_str_none (fin_bl I q (by simp))
    | bl j => cases ry; exact PySem.EqMixed.ne_str_bool (fin_bl I q (by simp))
    | int j => obtain ⟨t', rfl⟩ := ry; exact PySem.EqMixed.ne_str_int (fin_bl I q (by simp))
    | str j => obtain ⟨t', rfl⟩ := ry; exact ne_str (fin_bl I q (congrArg not dec_str))
    | _ => exact absurd (show false = true from hs) Bool.false_ne_true
  | byt i =>
    obtain ⟨t, rfl⟩ := rx
    cases y with
    | byt j => obtain ⟨t', rfl⟩ := ry; exact PySem.W.ne_bytes (fin_bl I q (congrArg not dec_byt))
    | _ => exact absurd (show false = true from hs) Bool.false_ne_true
  | _ => cases y <;> exact absurd (show false = true from hs) Bool.false_ne_true

theorem op_lt : OpR X (compareOp .Lt) (rI0 fun i j => .bl (decide (i < j))) := opB0 fun _ _ _ _ _ _ _ q => lt_int q
theorem op_le : OpR X (compareOp .LtE) (rI0 fun i j => .bl (decide (i ≤ j))) := opB0 fun _ _ _ _ _ _ _ q => le_int q
theorem op_gt : OpR X (compareOp .Gt) (rI0 fun i j => .bl (decide (j < i))) := opB0 fun _ _ _ _ _ _ _ q => gt_int q
theorem nomark (b : Expr) {op : CmpOp} (h : op ≠ .In := by decide) (h2 : op ≠ .NotIn := by decide) : behindInMarks op b = false := by
  have e1 : (op == CmpOp.In) = false := by cases op <;> first | rfl | exact absurd rfl h
  have e2 : (op == CmpOp.NotIn) = false := by cases op <;> first | rfl | exact absurd rfl h2
  cases b <;> simp [behindInMarks, e1, e2]
/-- a comparison as a value; hm: nomark b, or (for in, not in) by with_unfolding_all rfl -/
theorem pe_cmpR {op : CmpOp} {r : R2} (ho : OpR X (compareOp op) r) (ha : PE X a ta) (hb : PE X b tb) (hm : behindInMarks op b = false) : PE X (.Compare a [op] [b] pos) (tOp r ta tb) := by
  intro pins s σ H Q I h
  exact wpAny_Compare1 (binT ha hb I h fun v u s2 x y H2 I2 rx ry q => ho pins s2 σ H2 x y v u Q I2 rx ry q) hm
/-- a reading of a value as a test -/
def tTest (t : TE) : TT := fun σ H Q => t σ H fun x H' => ∃ k, x = .bl k ∧ Q k H'
theorem pt_cmpR {op : CmpOp} {r : R2} (ho : OpR X (compareOp op) r) (ha : PE X a ta) (hb : PE X b tb) (hm : behindInMarks op b = false) : PT X (.Compare a [op] [b] pos) (tTest (tOp r ta tb)) := by
  intro pins s σ H Q I h
  refine wpAny_isTrue_Compare1 (thn (ha pins s σ H _ I h) fun v s1 ⟨x, H1, I1, r1, q1⟩ => thn (hb pins s1 σ H1 _ I1 q1) fun u s2 ⟨y, H2, I2, r2, q2⟩ =>
    thn (ho pins s2 σ H2 x y v u _ I2 r1 r2 q2) fun c s3 ⟨z, H3, I3, r3, k, e, q3⟩ => ?_) hm
  subst e
  cases r3
  exact wpAny_truthy_bool ⟨H3, I3, q3⟩
/-- a op1 b op2 c -/
def tChain (r r' : R2) (ta tb tc : TE) : TE := fun σ H Q => ta σ H fun x H1 => tb σ H1 fun y H2 => r x y H2 fun z H3 => ∃ k, z = .bl k ∧
  (if k = true then tc σ H3 fun w' H4 => r' y w' H4 Q else Q (.bl false) H3)
theorem pt_chain {op op' : CmpOp} {r r' : R2} (ho : OpR X (compareOp op) r) (ho' : OpR X (compareOp op') r') (ha : PE X a ta) (hb : PE X b tb) (hc : PE X c tc)
    (hm : lastMarks [op, op'] [b, c] = false := by with_unfolding_all rfl) : PT X (.Compare a [op, op'] [b, c] pos) (tTest (tChain r r' ta tb tc)) := by
  intro pins s σ H Q I h
  refine isTrue_chain (thn (ha pins s σ H _ I h) fun v s1 ⟨x, H1, I1, r1, q1⟩ => test_link (thn (hb pins s1 σ H1 _ I1 q1) fun u s2 ⟨y, H2, I2, r2, q2⟩ =>
    thn (ho pins s2 σ H2 x y v u _ I2 r1 r2 q2) fun d s3 ⟨z, H3, I3, r3, k, e, q3⟩ => ?_)) hm
  subst e
  cases r3
  refine wpAny_truthy_bool ?_
  cases k with
  | false =>
    obtain ⟨k', e', q'⟩ := q3
    cases e'
    exact ite_ff ⟨H3, I3, q'⟩
  | true =>
    refine ite_tt (test_last (thn (hc pins s3 σ H3 _ I3 q3) fun w' s4 ⟨z', H4, I4, r4, q4⟩ => thn (ho' pins s4 σ H4 y z' u w' _ I4 r2 r4 q4) fun d' s5 ⟨z2, H5, I5, r5, k2, e2, q5⟩ => ?_))
    subst e2
    cases r5
    exact wpAny_truthy_bool ⟨H5, I5, q5⟩

theorem line63 : (sizeLine : Nat) < 2 ^ 63 := by rw [sizeLine_eq]; decide
theorem vals1 {x : V} {us : List Value} (r : Vals [x] us) : ∃ u, us = [u] ∧ RelV x u := by
  cases r with
  | cons r1 r2 => cases r2; exact ⟨_, rfl, r1⟩
theorem vals2 {x y : V} {us : List Value} (r : Vals [x, y] us) : ∃ u w', us = [u, w'] ∧ RelV x u ∧ RelV y w' := by
  cases r with
  | cons r1 r2 =>
    cases r2 with
    | cons r3 r4 => cases r4; exact ⟨_, _, rfl, r1, r3⟩
end
end L2

namespace L2
open PySem PySem.Spec PyProof.Rows

structure ObjM (h : Heap) (x dx C : Addr) (mA : Str → Option Value) : Prop where
  obj : h.get? x = some (PySem.W.instObj C dx)
  ns : h.Ns1 dx mA
  ne : dx ≠ x

theorem lookIn_ns {h : Heap} {dx : Addr} {mA : Str → Option Value} (n : h.Ns1 dx mA) : ∃ od, h.get? dx = some od ∧ ∀ name, PySem.W.lookIn name od = some (mA name) := by
  obtain ⟨o, es, ep, ho, hd, hk, _, hm⟩ := n
  refine ⟨o, ho, fun name => ?_⟩
  have e := hm name
  unfold nsFind findBy at e
  rw [← Array.find?_toList] at e
  unfold PySem.W.lookIn
  rw [hd]
  dsimp only
  split
  · rename_i y q
    rw [q] at e
    exact congrArg some e
  · rename_i q
    rw [q] at e
    have a : es.toList.any (·.refKey) = false := by
      rw [List.any_eq_false]
      intro y hy
      obtain ⟨z, t, hkey⟩ := hk y (Array.mem_toList_iff.mp hy)
      simp [DictEntry.refKey, hkey]
    have a' : ¬ es.toList.any (·.refKey) = true := by rw [a]; exact Bool.false_ne_true
    rw [if_neg a']
    exact congrArg some e

theorem ObjM.look {h : Heap} {x dx C : Addr} {mA : Str → Option Value} (I : ObjM h x dx C mA) : ∃ od, PySem.W.InstAt h x (PySem.W.instObj C dx) C (some od) ∧ ∀ name, PySem.W.lookIn name od = some (mA name) :=
  let ⟨od, ho, hl⟩ := lookIn_ns I.ns
  ⟨od, ⟨I.obj, rfl, rfl, ho⟩, hl⟩

section
variable {prog : Program} {w : World} {A : Around} {E : Value → Shared → Prop} {s : Shared} {K : PySem.W.Frag} {x dx C f : Addr} {mA : Str → Option Value} {name : Str} {v : Value}

theorem get_map {expr : Bool} {Q : Value → Shared → Prop} (X : K.In s.heap) (I : ObjM s.heap x dx C mA) (hg : PySem.W.plainGet K C name = true) (hh : PySem.W.hasDictIn K C = true)
    (ha : PySem.W.findIn K (.ref C) name = some none) (hv : mA name = some v) (hv' : PySem.W.handedIn v = true) (h : Q v { s with toks := s.toks + 1 }) :
    wpAny (model prog w) A (getAttr (.ref x) name expr) Q E s := by
  obtain ⟨od, J, hl⟩ := I.look
  exact PySem.W.get_value X J (PySem.W.plainGet_of hg).1 (PySem.W.findObj_own hh ha rfl (by rw [hl, hv])) hv' h

theorem get_meth {pl : Sem Bool} {Q : Value × List Value → Shared → Prop} (X : K.In s.heap) (I : ObjM s.heap x dx C mA) (hg : PySem.W.plainGet K C name = true)
    (hf : PySem.W.findIn K (.ref C) name = some (some (.ref f))) (ht : PySem.W.isFn K (.ref f) = true) (hv : mA name = none) (h : Q (.ref f, [.ref x]) s) :
    wpAny (model prog w) A (getMethod (.ref x) name pl) Q E s := by
  obtain ⟨od, J, hl⟩ := I.look
  exact PySem.W.method_fn X J (PySem.W.plainGet_of hg).1 (PySem.W.plainGet_of hg).2 hf (beq_iff_eq.mp ht) (by show (PySem.W.lookIn name od).map (·.isSome) = some false; rw [hl, hv]; rfl) h

theorem set_map {ns : List Str} {Q : Unit → Shared → Prop} (X : K.In s.heap) (I : ObjM s.heap x dx C mA)
    (hs : PySem.W.findIn K (.ref C) "__setattr__" = some (some (.builtin "object.__setattr__"))) (hp : PySem.W.plainOver K C = true) (ht : PySem.W.takerIn K C name = some none) (hh : PySem.W.hasDictIn K C = true)
    (hw : PySem.Within mA ns) (hsz : ns.length ≤ sizeLine)
    (h : ∀ h', ObjM h' x dx C (fun y => if y = name then some v else mA y) → Heap.SameBut dx s.heap h' → Q () { s with heap := h', toks := s.toks + 2 }) :
    wpAny (model prog w) A (setAttr (.ref x) name v) Q E s := by
  obtain ⟨od, J, hl⟩ := I.look
  refine PySem.W.set_plain X J hs (PySem.W.osa_open (s := { s with toks := s.toks + 1 }) (r := none) X J hp ht fun b => ?_)
  obtain ⟨cd, hc, hd'⟩ := PySem.W.any_some hh
  have hx : s.heap.get? x = some ⟨.ref C, some dx, .plain, #[]⟩ := I.obj
  refine wpAny_bind (wpAny_pure (wpAny_bind (wpAny_bind (wpAny_loadPart hx (wpAny_bind (PySem.W.Looks.here (s := { s with toks := s.toks + 1 }) (PySem.W.looks_clsIn X hc) ?_))))))
  rw [hd']
  refine wpAny_pure (a := some dx) (wpAny_bind (wpAny_pure (wpAny_bind ?_)))
  refine wpAny_nsSet1 (s := { s with toks := s.toks + 1 }) I.ns fun h' hn2 hs2 => ?_
  obtain ⟨oD, esD, epD, hoD, hdD, hcD⟩ := hn2.count (PySem.Within.cons name v hw)
  refine wpAny_bind (wpAny_lookBehind hoD (by rw [hdD]; exact pastItsLine_dict (Nat.le_trans hcD (by rw [List.length_cons]; omega))) ?_)
  exact wpAny_pure (h _ ⟨(hs2.2 _ (Ne.symm I.ne)).trans I.obj, hn2, I.ne⟩ hs2)

/-- C(..): the dict at the heap's end, the instance behind it; then its __init__ -/
theorem make_map {R : Result → Shared → Prop} {vs : List Value} {kw : List (Str × Value)} (X : K.In s.heap) (hm : PySem.W.makesIn K C = true)
    (hi : PySem.W.findIn K (.ref C) "__init__" = some (some (.ref f))) (hf : PySem.W.typeIn K (.ref f) = some (.type "function"))
    (h : codeAny (model prog w) (A.under (.builtin "type.__call__" ⟨.ref C :: vs, kw⟩)) (.call (.ref f) ⟨.ref (s.heap.objs.size + 1) :: vs, kw⟩) (PySem.W.InitBack (s.heap.objs.size + 1) R)
      { s with heap := (s.heap.push PySem.W.emptyDict).push (PySem.W.instObj C s.heap.objs.size) }) :
    codeAny (model prog w) A (.call (.ref C) ⟨vs, kw⟩) R s := by
  obtain ⟨hh, g, d, t, os⟩ := s
  exact PySem.W.make_core (PySem.W.makes_of X hm) (PySem.W.looks_findIn X hi) (fun self => PySem.W.bind_fn X self hf) (.inl rfl) h
end

def putF (f : Str) (v : V) : List (Str × V) → List (Str × V)
  | [] => [(f, v)]
  | (g, x) :: r => if g = f then (g, v) :: r else (g, x) :: putF f v r
theorem lookup_putF (f g : Str) (v : V) : ∀ fs : List (Str × V), (putF f v fs).lookup g = if g = f then some v else fs.lookup g
  | [] => by
    show List.lookup g [(f, v)] = _
    by_cases h : g = f
    · have hb : (g == f) = true := beq_iff_eq.mpr h
      simp only [List.lookup, hb, if_pos h]
    · have hb : (g == f) = false := beq_eq_false_iff_ne.mpr h
      simp only [List.lookup, hb, if_neg h]
  | (k, x) :: r => by
    have ih := lookup_putF f g v r
    rw [show putF f v ((k, x) :: r) = (if k = f then (k, v) :: r else (k, x) :: putF f v r) from rfl]
    by_cases hk : k = f
    · rw [if_pos hk]
      by_cases h : g = k
      · have hb : (g == k) = true := beq_iff_eq.mpr h
        simp only [List.lookup, hb, if_pos (h.trans hk)]
      · have hb : (g == k) = false := beq_eq_false_iff_ne.mpr h
        simp only [List.lookup, hb, if_neg (fun e : g = f => h (e.trans hk.symm))]
    · rw [if_neg hk]
      by_cases h : g = k
      · have hb : (g == k) = true := beq_iff_eq.mpr h
        simp only [List.lookup, hb, if_neg (fun e : g = f => hk (h.symm.trans e))]
      · have hb : (g == k) = false := beq_eq_false_iff_ne.mpr h
        simp only [List.lookup, hb]
        exact ih
theorem keys_putF (f : Str) (v : V) : ∀ fs : List (Str × V), f ∈ (putF f v fs).map (·.1) ∧ ∀ g, g ∈ fs.map (·.1) → g ∈ (putF f v fs).map (·.1)
  | [] => ⟨by simp [putF], fun g h => by simp at h⟩
  | (k, x) :: r => by
    obtain ⟨i1, i2⟩ := keys_putF f v r
    rw [show putF f v ((k, x) :: r) = (if k = f then (k, v) :: r else (k, x) :: putF f v r) from rfl]
    by_cases hk : k = f
    · rw [if_pos hk]
      subst hk
      exact ⟨by simp, fun g h => by simpa using h⟩
    · rw [if_neg hk]
      refine ⟨?_, fun g h => ?_⟩
      · rw [List.map_cons]
        exact List.mem_cons_of_mem _ i1
      · rw [List.map_cons] at h ⊢
        rcases List.mem_cons.mp h with e | e
        · exact List.mem_cons.mpr (.inl e)
        · exact List.mem_cons_of_mem _ (i2 g e)
theorem length_putF (f : Str) (v : V) : ∀ fs : List (Str × V), (putF f v fs).length ≤ fs.length + 1
  | [] => by simp [putF]
  | (k, x) :: r => by
    have ih := length_putF f v r
    rw [show putF f v ((k, x) :: r) = (if k = f then (k, v) :: r else (k, x) :: putF f v r) from rfl]
    by_cases hk : k = f
    · rw [if_pos hk, List.length_cons, List.length_cons]; omega
    · rw [if_neg hk, List.length_cons, List.length_cons]; omega

theorem RelO.some_of {v : V} {o : Option Value} (r : RelO (some v) o) : ∃ u, o = some u ∧ RelV v u := by
  cases o with
  | none => exact (show False from r).elim
  | some u => exact ⟨u, rfl, r⟩
theorem RelO.none_of {o : Option Value} (r : RelO none o) : o = none := by
  cases o with
  | none => rfl
  | some u => exact (show False from r).elim
theorem handed_of {v : V} {u : Value} (r : RelV v u) : PySem.W.handedIn u = true := by
  cases v with
  | non => cases (show u = Value.none from r); rfl
  | bl b => cases (show u = Value.bool b from r); rfl
  | int i => obtain ⟨t, e⟩ := (show ∃ t, u = Value.int i t from r); cases e; rfl
  | str x => obtain ⟨t, e⟩ := (show ∃ t, u = Value.str x t from r); cases e; rfl
  | byt b => obtain ⟨t, e⟩ := (show ∃ t, u = Value.bytes b t from r); cases e; rfl
  | flt b => obtain ⟨t, e⟩ := (show ∃ t, u = Value.float b t from r); cases e; rfl
  | ref a => cases (show u = Value.ref a from r); rfl
  | ty n => cases (show u = Value.type n from r); rfl

section
variable {P : Program} {w : World} {H H' : Hp} {h h' : Heap} {a C dx : Addr} {fs fs' : List (Str × V)}
theorem ins_get (hok : HOk P w H h) (e : H a = some (.ins C dx fs)) : ∃ mA, ObjM h a dx C mA ∧ (∀ f, RelO (fs.lookup f) (mA f)) ∧ PySem.Within mA (fs.map (·.1)) ∧ fs.length ≤ 1000 ∧ H dx = some (.own a) := by
  obtain ⟨d, z, ne, ob, mA, n, r, q⟩ := (show ObjOk P w H h a (.ins C dx fs) from hok a _ e)
  exact ⟨mA, ⟨ob, n, ne⟩, r, q, z, d⟩
end

structure Cls (K : PySem.W.Frag) (C : Addr) : Prop where
  pg : PySem.W.plainGet K C Str.empty = true
  hd : PySem.W.hasDictIn K C = true
  po : PySem.W.plainOver K C = true
  sa : PySem.W.findIn K (.ref C) "__setattr__" = some (some (.builtin "object.__setattr__"))
theorem Cls.get {K : PySem.W.Frag} {C : Addr} (c : Cls K C) (f : Str) : PySem.W.plainGet K C f = true := c.pg
/-- no class of it has the name -/
def NoAttr (K : PySem.W.Frag) (C : Addr) (f : Str) : Prop := PySem.W.findIn K (.ref C) f = some none
theorem NoAttr.taker {K : PySem.W.Frag} {C : Addr} {f : Str} (n : NoAttr K C f) : PySem.W.takerIn K C f = some none := by
  unfold PySem.W.takerIn
  rw [show PySem.W.findIn K (.ref C) f = some none from n]
  rfl
/-- a method: a plain def of the class or of one above it -/
structure Meth (K : PySem.W.Frag) (C : Addr) (m : Str) (f : Addr) : Prop where
  at_ : PySem.W.findIn K (.ref C) m = some (some (.ref f))
  fn : PySem.W.isFn K (.ref f) = true
  kp : PySem.W.keepIn K (.ref f) = true

section
variable {X : Cx} {pins : List (Addr × Obj)} {σ : St} {H : Hp} {s : Shared} {a C dx : Addr} {fs : List (Str × V)} {f : Str} {v : V} {A : Around} {E : Value → Shared → Prop}

theorem getattr_ok {b : Bool} {Q : Value → Shared → Prop} (I : Inv X pins σ H s) (e : H a = some (.ins C dx fs)) (c : Cls X.K C) (n : NoAttr X.K C f) (l : fs.lookup f = some v)
    (h : ∀ u s', Inv X pins σ H s' → RelV v u → Q u s') : wpAny (model X.prog X.w) A (getAttr (.ref a) f b) Q E s := by
  obtain ⟨mA, O, r, _, _, _⟩ := ins_get I.hok e
  obtain ⟨u, hu, ru⟩ := RelO.some_of (v := v) (o := mA f) (by rw [← l]; exact r f)
  exact get_map I.kIn O (c.get f) c.hd n hu (handed_of ru) (h u _ (I.tok _) ru)

theorem getmeth_ok {m : Str} {g : Addr} {pl : Sem Bool} {Q : Value × List Value → Shared → Prop} (I : Inv X pins σ H s) (e : H a = some (.ins C dx fs)) (c : Cls X.K C) (k : Meth X.K C m g) (l : fs.lookup m = none)
    (h : Q (.ref g, [.ref a]) s) : wpAny (model X.prog X.w) A (getMethod (.ref a) m pl) Q E s := by
  obtain ⟨mA, O, r, _, _, _⟩ := ins_get I.hok e
  have hn : mA m = none := RelO.none_of (by rw [← l]; exact r m)
  exact get_meth I.kIn O (c.get m) k.at_ k.fn hn h

theorem setattr_ok {y : V} {u : Value} {Q : Unit → Shared → Prop} (I : Inv X pins σ H s) (e : H a = some (.ins C dx fs)) (c : Cls X.K C) (n : NoAttr X.K C f) (hl : fs.length < 1000) (ry : RelV y u)
    (h : ∀ s', Inv X pins σ (upd H a (.ins C dx (putF f y fs))) s' → Q () s') : wpAny (model X.prog X.w) A (setAttr (.ref a) f u) Q E s := by
  obtain ⟨mA, O, r, wi, _, ho⟩ := ins_get I.hok e
  have hz : (fs.map (·.1)).length ≤ sizeLine := by rw [List.length_map, sizeLine_eq]; omega
  refine set_map I.kIn O c.sa c.po n.taker c.hd wi hz fun h' O' sb => h _ ?_
  have hd : ∃ o, h'.get? dx = some o := let ⟨o, _, _, e', _⟩ := O'.ns; ⟨o, e'⟩
  refine I.write (x := a) (e := dx) (by rw [e]; exact True.intro) (.inr ho) (fun b q hb z => (sb.2 b hb).trans z) hd ?_
  refine ⟨by rw [upd_ne O.ne]; exact ho, ?_, O.ne, O'.obj, _, O'.ns, fun g => ?_, fun g hg => ?_⟩
  · have := length_putF f y fs; omega
  · show RelO ((putF f y fs).lookup g) (if g = f then some u else mA g)
    rw [lookup_putF]
    by_cases q : g = f
    · rw [if_pos q, if_pos q]; exact ry
    · rw [if_neg q, if_neg q]; exact r g
  · by_cases q : g = f
    · rw [q]; exact (keys_putF f y fs).1
    · refine (keys_putF f y fs).2 g (wi g fun z => hg ?_)
      show (if g = f then some u else mA g) = none
      rw [if_neg q]; exact z

/-- a new instance, tracked, without attributes -/
theorem Inv.made (I : Inv X pins σ H s) : Inv X pins σ (upd (upd H s.heap.objs.size (.own (s.heap.objs.size + 1))) (s.heap.objs.size + 1) (.ins C s.heap.objs.size []))
    { s with heap := (s.heap.push PySem.W.emptyDict).push (PySem.W.instObj C s.heap.objs.size) } := by
  have e1 : (s.heap.push PySem.W.emptyDict).get? s.heap.objs.size = some PySem.W.emptyDict := Heap.get?_push_size s.heap rfl
  have e2 : ((s.heap.push PySem.W.emptyDict).push (PySem.W.instObj C s.heap.objs.size)).get? (s.heap.objs.size + 1) = some (PySem.W.instObj C s.heap.objs.size) := by
    have := Heap.get?_push_size (s.heap.push PySem.W.emptyDict) (o := PySem.W.instObj C s.heap.objs.size) rfl
    rwa [Heap.size_push] at this
  have e3 : (s.heap.push PySem.W.emptyDict).Ns s.heap.objs.size (fun _ => none) := ⟨PySem.W.emptyDict, #[], _, e1, rfl, (fun e he => absurd he (by simp)), fun _ => rfl⟩
  have I1 := I.laid (a := s.heap.objs.size) (o := .own (s.heap.objs.size + 1)) (h' := s.heap.push PySem.W.emptyDict) (t' := s.toks) (fun b u q => Heap.get?_push_of_some _ q) (Nat.le_refl _) ⟨_, e1⟩
  refine I1.laid (a := s.heap.objs.size + 1) (o := .ins C s.heap.objs.size []) (t' := s.toks) (fun b u q => Heap.get?_push_of_some _ q) (Nat.le_of_eq (Heap.size_push _ _)) ?_
  have ne : s.heap.objs.size ≠ s.heap.objs.size + 1 := Nat.ne_of_lt (Nat.lt_succ_self _)
  refine ⟨by rw [upd_ne ne, upd_same], Nat.zero_le _, ne, e2, fun _ => none, (Heap.Ns1.of_empty e3).at fun o q => Heap.get?_push_of_some _ q, fun _ => True.intro, fun y hy => absurd rfl hy⟩

/-- e.f where nothing but the object is asked: through attributeBase (super) and the last hold -/
theorem attr_of {prog : Program} {w : World} {env : Env} {e : Expr} {f : Str} {pos : Pos} {s : Shared} {Q : Value → Shared → Prop} (hb : attributeBase e f env (eval e env) = eval e env)
    (h : wpAny (model prog w) A (eval e env) (fun o s₁ => wpAny (model prog w) A (getAttr o f true) Q E s₁) E s) : wpAny (model prog w) A (eval (.Attribute e f pos) env) Q E s :=
  Attribute_any_ h (by rw [arm_eval_Attribute, hb])
end

/-- e.f, an attribute of the instance -/
def tFld (K : PySem.W.Frag) (ta : TE) (f : Str) : TE := fun σ H Q => ta σ H fun x H1 => ∃ a C dx fs v, x = .ref a ∧ H1 a = some (.ins C dx fs) ∧ Cls K C ∧ NoAttr K C f ∧ fs.lookup f = some v ∧ Q v H1
/-- e.f = value -/
def sFld (K : PySem.W.Frag) (ta tv : TE) (f : Str) : TS := fun D σ H => tv σ H fun y H1 => ta σ H1 fun x H2 => ∃ a C dx fs, x = .ref a ∧ H2 a = some (.ins C dx fs) ∧ Cls K C ∧ NoAttr K C f ∧ fs.length < 1000 ∧
  D.nx σ (upd H2 a (.ins C dx (putF f y fs)))
/-- an augmented operator on two values -/
def InOp (X : Cx) (op : Operator) (rd : V → V → Hp → VK → Prop) : Prop :=
  ∀ (pins : List (Addr × Obj)) (s : Shared) (σ : St) (H : Hp) (x y : V) (u v : Value) (Q : VK), Inv X pins σ H s → RelV x u → RelV y v → rd x y H Q → wpAny (model X.prog X.w) X.A (inplaceOp op u v) (EP X pins σ Q) X.xe s
/-- e.f op= value -/
def sFldAug (K : PySem.W.Frag) (ta tv : TE) (rd : V → V → Hp → VK → Prop) (f : Str) : TS := fun D σ H => ta σ H fun x H1 => ∃ a C dx fs v, x = .ref a ∧ H1 a = some (.ins C dx fs) ∧ Cls K C ∧ NoAttr K C f ∧ fs.lookup f = some v ∧
  tv σ H1 fun y H2 => rd v y H2 fun z H3 => ∃ dx' fs', H3 a = some (.ins C dx' fs') ∧ fs'.length < 1000 ∧ D.nx σ (upd H3 a (.ins C dx' (putF f z fs')))

section
variable {X : Cx} {o e value : Expr} {f : Str} {pos pos' tpos : Pos} {ta tv : TE}
theorem pe_fld (he : PE X e ta) (hb : attributeBase e f X.env (eval e X.env) = eval e X.env) : PE X (.Attribute e f pos) (tFld X.K ta f) := by
  intro pins s σ H Q I h
  refine attr_of hb (thn (he pins s σ H _ I h) fun u s1 ⟨x, H1, I1, rx, a, C, dx, fs, v, ex, ea, c, n, l, q⟩ => ?_)
  subst ex
  obtain rfl : u = Value.ref a := rx
  exact getattr_ok I1 ea c n l fun u' s2 I2 ru => ⟨v, H1, I2, ru, q⟩
theorem ps_fld (ha : PE X o ta) (hv : PE X value tv) (hs : swapsWith value (some (.Attribute o f pos')) pos.line X.env = pure false) : PS X (.Assign [.Attribute o f pos'] value pos) (sFld X.K ta tv f) := by
  intro pins s σ H D I h
  refine plainObj_wpAny_Assign_Attribute (thn (hv pins s σ H _ I h) fun u s1 ⟨y, H1, I1, ry, q⟩ => thn (ha pins s1 σ H1 _ I1 q) fun ov s2 ⟨x, H2, I2, rx, a, C, dx, fs, ex, ea, c, n, l, q2⟩ => ?_) hs
  subst ex
  obtain rfl : ov = Value.ref a := rx
  exact setattr_ok I2 ea c n l ry fun s3 I3 => ⟨σ, _, I3, q2⟩
theorem ps_fldaug {op : Operator} {rd : V → V → Hp → VK → Prop} (ha : PE X o ta) (hv : PE X value tv) (hop : InOp X op rd) : PS X (.AugAssign (.Attribute o f tpos) op value pos) (sFldAug X.K ta tv rd f) := by
  intro pins s σ H D I h
  refine wpAny_AugAssign_AttributeAny (thn (ha pins s σ H _ I h) fun ov s1 ⟨x, H1, I1, rx, a, C, dx, fs, v, ex, ea, c, n, l, q⟩ => ?_)
  subst ex
  obtain rfl : ov = Value.ref a := rx
  refine getattr_ok I1 ea c n l fun u s2 I2 ru => thn (hv pins s2 σ H1 _ I2 q) fun w3 s3 ⟨y, H2, I3, ry, q3⟩ => thn (hop pins s3 σ H2 v y u w3 _ I3 ru ry q3) fun w4 s4 ⟨z, H3, I4, rz, dx', fs', ea', l', q4⟩ => ?_
  exact setattr_ok I4 ea' c n l' rz fun s5 I5 => ⟨σ, _, I5, q4⟩
def rAdd : V → V → Hp → VK → Prop := fun x y H Q => ∃ i j, x = .int i ∧ y = .int j ∧ Q (.int (i + j)) H
theorem in_add : InOp X .Add rAdd := by
  rintro pins s σ H x y u v Q I rx ry ⟨i, j, rfl, rfl, q⟩
  obtain ⟨t, rfl⟩ := (show ∃ t, u = Value.int i t from rx)
  obtain ⟨t', rfl⟩ := (show ∃ t', v = Value.int j t' from ry)
  exact PyProof.Rows.iadd_int ⟨.int (i + j), H, I.tok _, ⟨_, rfl⟩, q⟩
end

section
variable {X : Cx} {pins : List (Addr × Obj)} {σ : St} {H : Hp} {s : Shared} {A : Around} {E : Value → Shared → Prop} {Q : Value → Shared → Prop} {c : Value} {b : Bool}
/-- the type of a value, as the fragment's deciders take it; for an instance its class -/
inductive TyOf (K : PySem.W.Frag) (H : Hp) : V → Value → Prop where
  | non : TyOf K H .non (.type "NoneType")
  | bl (x : Bool) : TyOf K H (.bl x) (.type "bool")
  | int (i : Int) : TyOf K H (.int i) (.type "int")
  | str (x : Str) : TyOf K H (.str x) (.type "str")
  | flt (x : UInt64) : TyOf K H (.flt x) (.type "float")
  | lst {a : Addr} {xs : List V} (e : H a = some (.lst xs)) : TyOf K H (.ref a) (.type "list")
  | frz {a : Addr} {o : Obj} {xs : List V} (e : H a = some (.frz o (.lst xs))) : TyOf K H (.ref a) (.type "list")
  | tup {a : Addr} {xs : List V} (e : H a = some (.tup xs)) : TyOf K H (.ref a) (.type "tuple")
  | dK {a : Addr} {kvs : List (Key × V)} (e : H a = some (.dK kvs)) : TyOf K H (.ref a) (.type "dict")
  | dT {a : Addr} {kvs : List (List Key × V)} (e : H a = some (.dT kvs)) : TyOf K H (.ref a) (.type "dict")
  | ins {a C dx : Addr} {fs : List (Str × V)} (e : H a = some (.ins C dx fs)) (cl : Cls K C) (ha : PySem.W.findIn K (.ref C) "__class__" = some (some (.builtin "object.__class__")))
      (hn : PySem.W.specialIn K (.builtin "object.__class__") "__get__" = some (some (.builtin "getset_descriptor.__get__"))) (htk : PySem.W.takesIn K (.builtin "object.__class__") = some true)
      (hm : PySem.W.mroIn K C (.type "object") = some true) : TyOf K H (.ref a) (.ref C)
/-- isinstance(x, c) for one class c, a built-in or an own one: kitOne's answer -/
theorem isinst_ok {x : V} {u t : Value} (I : Inv X pins σ H s) (rx : RelV x u) (ty : TyOf X.K H x t) (e : PySem.W.kitOne X.K t c = some b) (h : ∀ tk, Q (.bool b) { s with toks := tk }) :
    wpAny (model X.prog X.w) A (call (.builtin "isinstance") [u, c]) Q E s := by
  cases ty with
  | non => cases (show u = Value.none from rx); exact PySem.W.kia_one PySem.W.kitx_none I.kIn True.intro e (fun z => nomatch z) h
  | bl y => cases (show u = Value.bool y from rx); exact PySem.W.kia_one PySem.W.kitx_bool I.kIn True.intro e (fun z => nomatch z) h
  | int i => obtain ⟨t, q⟩ := (show ∃ t, u = Value.int i t from rx); cases q; exact PySem.W.kia_one PySem.W.kitx_int I.kIn True.intro e (fun z => nomatch z) h
  | str y => obtain ⟨t, q⟩ := (show ∃ t, u = Value.str y t from rx); cases q; exact PySem.W.kia_one PySem.W.kitx_str I.kIn True.intro e (fun z => nomatch z) h
  | flt y => obtain ⟨t, q⟩ := (show ∃ t, u = Value.float y t from rx); cases q; exact PySem.W.kia_one PySem.W.kitx_float I.kIn True.intro e (fun z => nomatch z) h
  | @lst a xs ea =>
    cases (show u = Value.ref a from rx)
    obtain ⟨_, _, n, _, h1⟩ := (show ObjOk X.prog X.w H s.heap a (.lst xs) from I.hok a _ ea)
    exact PySem.W.kia_one PySem.W.kitx_list I.kIn ⟨_, h1, rfl⟩ e (fun z => nomatch z) h
  | @frz a ob xs ea =>
    cases (show u = Value.ref a from rx)
    obtain ⟨_, _, _, n, _, h1⟩ := (show ObjOk X.prog X.w H s.heap a (.frz ob (.lst xs)) from I.hok a _ ea)
    exact PySem.W.kia_one PySem.W.kitx_list I.kIn ⟨_, h1, rfl⟩ e (fun z => nomatch z) h
  | @tup a xs ea =>
    cases (show u = Value.ref a from rx)
    obtain ⟨_, _, _, p⟩ := (show ObjOk X.prog X.w H s.heap a (.tup xs) from I.hok a _ ea)
    obtain ⟨o, h1, h2, _⟩ := p
    exact PySem.W.kia_one PySem.W.kitx_tuple I.kIn ⟨o, h1, h2⟩ e (fun z => nomatch z) h
  | @dK a kvs ea =>
    cases (show u = Value.ref a from rx)
    obtain ⟨_, _, vs, _, p⟩ := (show ObjOk X.prog X.w H s.heap a (.dK kvs) from I.hok a _ ea)
    obtain ⟨o, es, ep, h1, h2, _⟩ := p
    exact PySem.W.kia_one PySem.W.kitx_dict I.kIn ⟨o, h1, h2.1⟩ e (fun z => nomatch z) h
  | @dT a kvs ea =>
    cases (show u = Value.ref a from rx)
    obtain ⟨_, _, xs, _, o, es, ep, h1, h2, _⟩ := (show ObjOk X.prog X.w H s.heap a (.dT kvs) from I.hok a _ ea)
    exact PySem.W.kia_one PySem.W.kitx_dict I.kIn ⟨o, h1, h2.1⟩ e (fun z => nomatch z) h
  | @ins a C dx fs ea cl ha hn htk hm =>
    cases (show u = Value.ref a from rx)
    obtain ⟨mA, O, _⟩ := ins_get I.hok ea
    obtain ⟨od, J, _⟩ := O.look
    exact PySem.W.kia_one (PySem.W.kitx_own (cl.get _) cl.hd ha hn htk hm) I.kIn J e (fun z => nomatch z) h
end
end L2

namespace L2
open PySem PySem.Spec PyProof.Rows

structure Room (k : Nat) (A : Around) : Prop where
  hd : A.handled = none
  dp : A.depth + 3 * k + 5 < recursionLimit
  un : A.units + 16 * k + 200 < cLine
theorem Room.mono {j k : Nat} {A : Around} (r : Room k A) (h : j ≤ k) : Room j A := ⟨r.hd, by have := r.dp; omega, by have := r.un; omega⟩
theorem Room.deeper {k : Nat} {A : Around} (r : Room (k + 1) A) (env : Env) : Room k (A.deeper env) :=
  ⟨r.hd, by have := r.dp; show A.depth + 1 + 3 * k + 5 < _; omega, by have := r.un; show A.units + 3 + 16 * k + 200 < _; omega⟩
theorem make_depth {A : Around} {C : Addr} {us : List Value} {kw : List (Str × Value)} : (A.under (.builtin "type.__call__" ⟨.ref C :: us, kw⟩)).depth = A.depth + 1 := by
  first | rfl | simp [Around.under, Code.weight, Code.isCreation, Code.isGuard, Code.isCaller, Code.frames, Code.isFrame, guardIds]
theorem make_units {A : Around} {C : Addr} {us : List Value} {kw : List (Str × Value)} : (A.under (.builtin "type.__call__" ⟨.ref C :: us, kw⟩)).units = A.units + 1 := by
  first | rfl | simp [Around.under, Code.cUnits, Code.frames, Code.isFrame]
theorem Room.make {k : Nat} {A : Around} (r : Room (k + 1) A) (C : Addr) (us : List Value) (kw : List (Str × Value)) : Room k (A.under (.builtin "type.__call__" ⟨.ref C :: us, kw⟩)) :=
  ⟨r.hd, by have := r.dp; rw [make_depth]; omega, by have := r.un; rw [make_units]; omega⟩
theorem Room.depth {k : Nat} {A : Around} (r : Room k A) : A.depth < recursionLimit := by have := r.dp; omega
theorem Room.units {k : Nat} {A : Around} (r : Room k A) : A.units + 64 < cLine := by have := r.un; omega
def tNil : TA := fun _ H Q => Q [] H
def tCons (ta : TE) (tr : TA) : TA := fun σ H Q => ta σ H fun x H1 => tr σ H1 fun xs H2 => Q (x :: xs) H2
section
variable {X : Cx} {e : Expr} {es : List Expr} {te : TE} {t : TA} {pos : Pos}
theorem pa_nil : PA X [] tNil := fun _ _ _ _ H Q I h => Calls.spliced_nil ⟨[], H, I, .nil, h⟩
theorem pa_cons (ha : PE X e te) (hr : PA X es t) (hs : starEach (e :: es) X.env = (false, eval e X.env) :: starEach es X.env := by rfl) : PA X (e :: es) (tCons te t) := by
  intro pos pins s σ H Q I h
  rw [hs]
  show wpAny _ _ (spliced ((false, eval e X.env) :: backTo pos (starEach es X.env))) _ _ s
  refine Calls.spliced_cons (thn (ha pins s σ H _ I h) fun u s1 ⟨x, H1, I1, r1, q1⟩ => ?_)
  exact thn (hr pos pins s1 σ H1 _ I1 q1) fun us s2 ⟨xs, H2, I2, r2, q2⟩ => ⟨x :: xs, H2, I2, .cons r1 r2, q2⟩

def tLst (t : TA) : TE := fun σ H Q => t σ H fun xs H1 => xs.length ≤ sizeLine ∧ ∀ p, H1 p = none → Q (.ref p) (upd H1 p (.lst xs))
theorem pe_lst (h : PA X es t) : PE X (.List es pos) (tLst t) := by
  intro pins s σ H Q I hq
  refine wpAny_List_spliced (thn (h pos pins s σ H _ I hq) fun us s1 ⟨xs, H1, I1, r, z, q⟩ => ⟨by rw [← r.length]; exact z, ?_⟩)
  have hf : H1 s1.heap.objs.size = none := I1.hok.fresh (Nat.le_refl _)
  refine ⟨.ref s1.heap.objs.size, upd H1 s1.heap.objs.size (.lst xs), I1.laid (t' := s1.toks) (fun b u e => Heap.get?_push_of_some _ e) (Nat.le_refl _) ?_, rfl, q _ hf⟩
  exact ⟨z, us, 0, r, Heap.get?_push_size _ rfl⟩
end

/-- a def's promise: the bound arguments in the parameters' order, the heap, the wanted end, the wanted exception -/
abbrev Sp := List V → Hp → VK → XK → Prop
/-- how an exception lies behind a call (file 08 gives it): the callers' frames, abstract heap and state ahead of the call, the wish, the exception, the state -/
abbrev CXT := List Env → Hp → Shared → XK → Value → Shared → Prop

/-- the state at a call -/
structure Env0 (P : Program) (w : World) (K : PySem.W.Frag) (mg : Str → Option Value) (base : Heap) (A : Around) (outer : List Env) (s : Shared) (H : Hp) : Prop where
  frames : A.frames = some outer
  mod : Mod K mg base
  bs : ∀ b o, base.get? b = some o → s.heap.get? b = some o ∧ H b = none
  bsz : base.objs.size ≤ s.heap.objs.size
  funs : s.heap.FunFrames base outer
  frf : ∀ b ∈ frs outer, H b = none
  hok : HOk P w H s.heap
  bare : AllBare s.gens
/-- a call's end -/
def CE (outer : List Env) (P : Program) (w : World) (H : Hp) (s : Shared) (Q : VK) (u : Value) (s' : Shared) : Prop :=
  ∃ v H', s'.os = s.os ∧ AllBare s'.gens ∧ Un (frs outer) [] H H' s.heap s'.heap ∧ HOk P w H' s'.heap ∧ RelV v u ∧ Q v H'
def CR (CX : CXT) (outer : List Env) (P : Program) (w : World) (H : Hp) (s : Shared) (Q : VK) (E : XK) (r : Result) (s' : Shared) : Prop :=
  match r with
  | .ok (.ret u) => CE outer P w H s Q u s'
  | .ok _ => False
  | .error e => CX outer H s E e s'
structure FnOk (P : Program) (w : World) (K : PySem.W.Frag) (mg : Str → Option Value) (base : Heap) (CX : CXT) (k : Nat) (f : Addr) (fd : FuncData) (ps : List Str) (sp : Sp) : Prop where
  len : ∀ vs H Q E, sp vs H Q E → vs.length = ps.length
  run : ∀ (A : Around) (outer : List Env) (s : Shared) (H : Hp) (args : Args) (us : List Value) (vs : List V) (Q : VK) (E : XK), Room k A → Env0 P w K mg base A outer s H → BindsTo s fd args (ps.zip us) → Vals vs us → sp vs H Q E →
    codeAny (model P w) A (.call (.ref f) args) (CR CX outer P w H s Q E) s
theorem Env0.make {P : Program} {w : World} {K : PySem.W.Frag} {mg : Str → Option Value} {base : Heap} {A : Around} {outer : List Env} {s : Shared} {H : Hp} (e : Env0 P w K mg base A outer s H) (C : Addr) (us : List Value) (kw : List (Str × Value)) :
    Env0 P w K mg base (A.under (.builtin "type.__call__" ⟨.ref C :: us, kw⟩)) outer s H := ⟨by first | exact e.frames | (simpa [Around.under, Code.envs, Code.isFrame, pushEnvs] using e.frames), e.mod, e.bs, e.bsz, e.funs, e.frf, e.hok, e.bare⟩
section
variable {X : Cx} {pins : List (Addr × Obj)} {σ : St} {H : Hp} {s s' : Shared}
/-- from a body: what a callee wants -/
theorem Inv.env0 (I : Inv X pins σ H s) : Env0 X.prog X.w X.K X.mg X.base X.A X.stack s H :=
  ⟨I.ok.frames, I.ok.mod, I.bs, Nat.le_trans I.ok.bsz I.sz, I.stack, I.stkFree, I.hok, I.bare⟩
/-- behind a call -/
theorem Inv.after {Q : VK} {u : Value} (I : Inv X pins σ H s) (h : CE X.stack X.prog X.w H s Q u s') : EP X pins σ Q u s' := by
  obtain ⟨v, H', os, bare, un, hok, r, q⟩ := h
  obtain ⟨hh, g, d, t, os'⟩ := s'
  obtain rfl : os' = s.os := os
  exact ⟨v, H', I.call (h' := hh) (g' := g) (d' := d) (t' := t) (ch := []) un hok bare (fun b z => absurd z (by simp)), r, q⟩
end

/-- f(..): the written arguments, then the defaults dvs; E: what is wanted of an exception -/
def tCall (sp : Sp) (dvs : List V) (E : XK) (t : TA) : TE := fun σ H Q => t σ H fun vs H1 => sp (vs ++ dvs) H1 Q E
/-- o.m(..) of an instance of the class at C -/
def tMeth (C : Addr) (m : Str) (sp : Sp) (dvs : List V) (E : XK) (ta : TE) (t : TA) : TE := fun σ H Q => ta σ H fun x H1 => ∃ a dx fs, x = .ref a ∧ H1 a = some (.ins C dx fs) ∧ fs.lookup m = none ∧
  t σ H1 fun vs H2 => sp (x :: (vs ++ dvs)) H2 Q E
/-- C(..): a new instance and its dict, then __init__ -/
def tMake (C : Addr) (sp : Sp) (dvs : List V) (E : XK) (t : TA) : TE := fun σ H Q => t σ H fun vs H1 => ∀ x dx, H1 x = none → H1 dx = none → dx ≠ x →
  sp (.ref x :: (vs ++ dvs)) (upd (upd H1 dx (.own x)) x (.ins C dx [])) (fun v H2 => v = .non ∧ Q (.ref x) H2) E

/-- how the parameters are bound: us the positional arguments, kw the keywords' values by name, ds the defaults that fill up -/
def Binds (K : PySem.W.Frag) (fd : FuncData) (ps : List Str) (ds : List Value) : Prop :=
  ∀ (s : Shared) (us : List Value), K.In s.heap → (us ++ ds).length = ps.length → BindsTo s fd ⟨us, []⟩ (ps.zip (us ++ ds))
/-- every parameter is given -/
theorem Binds.all {K : PySem.W.Frag} {fd : FuncData} {ps : List Str} (h : ∀ us : List Value, us.length = ps.length → bindArgs fd ⟨us, []⟩ = pure (ps.zip us)) : Binds K fd ps [] := fun s us _ hl => by
  rw [List.append_nil] at hl ⊢
  exact .of_eq (h us hl)

/-- an exception of a callee reaches what this body wants of exceptions -/
def Passes (CX : CXT) (X : Cx) (E : XK) : Prop := ∀ (pins : List (Addr × Obj)) (σ : St) (H : Hp) (s : Shared) (e : Value) (s' : Shared), Inv X pins σ H s → CX X.stack H s E e s' → X.xe e s'

section
variable {X : Cx} {CX : CXT} {k : Nat} {f C : Addr} {fd : FuncData} {ps : List Str} {sp : Sp} {dvs : List V} {ds : List Value} {E : XK} {x m : Str} {p pos apos : Pos} {e o : Expr} {es : List Expr} {ta : TE} {t : TA}

/-- the callee runs -/
theorem run_fn {pins : List (Addr × Obj)} {σ : St} {H : Hp} {s : Shared} {Q : VK} {us : List Value} {vs : List V} (F : FnOk X.prog X.w X.K X.mg X.base CX k f fd ps sp) (hr : Room k X.A) (hb : Binds X.K fd ps ds) (hd : Vals dvs ds) (hx : Passes CX X E)
    (I : Inv X pins σ H s) (r : Vals vs us) (h : sp (vs ++ dvs) H Q E) : wpAny (model X.prog X.w) X.A (call (.ref f) us) (EP X pins σ Q) X.xe s := by
  have r2 : Vals (vs ++ dvs) (us ++ ds) := r.append hd
  have hl : (us ++ ds).length = ps.length := by rw [← r2.length]; exact F.len _ _ _ _ h
  refine wpAny_call (codeAny_mono (F.run X.A X.stack s H ⟨us, []⟩ (us ++ ds) (vs ++ dvs) Q E hr I.env0 (hb s us I.kIn hl) r2 h) fun r s' hq => ?_)
  cases r with
  | error e => exact hx pins σ H s e s' I hq
  | ok fl =>
    cases fl with
    | ret u => exact I.after hq
    | next => exact False.elim hq
    | brk => exact False.elim hq
    | cont => exact False.elim hq

theorem pe_call (F : FnOk X.prog X.w X.K X.mg X.base CX k f fd ps sp) (hr : Room k X.A) (hg : Gl X x) (hm : X.mg x = some (.ref f)) (hk : PySem.W.keepIn X.K (.ref f) = true) (hb : Binds X.K fd ps ds) (hd : Vals dvs ds) (hx : Passes CX X E)
    (ha : PA X (e :: es) t) (hdb : (x == ("__debug__" : Str)) = false := by decide) (he : starEach (e :: es) X.env = (false, eval e X.env) :: starEach es X.env := by rfl) (hpl : (backTo pos (starEach es X.env)).any (·.1) = false := by rfl) :
    PE X (.Call (.Name x p) (e :: es) [] pos) (tCall sp dvs E t) := by
  intro pins s σ H Q I h
  refine wpAny_Call_Name_kw (ld_glob I hg hm ?_ hdb)
  refine PySem.W.callWith_K (h₀ := X.base) I.ok.mod.kin hk (thn (ha pos pins s σ H _ I h) fun us s1 ⟨vs, H1, I1, r, q⟩ => ⟨I1.kIn, ?_⟩) he hpl
  exact run_fn F hr hb hd hx I1 r q
/-- o.m(e, ..) -/
theorem pe_meth {pl : Sem Bool} (he : PE X o ta) (c : Cls X.K C) (hm : Meth X.K C m f) (F : FnOk X.prog X.w X.K X.mg X.base CX k f fd ps sp) (hr : Room k X.A) (hb : Binds X.K fd ps ds) (hd : Vals dvs ds) (hx : Passes CX X E) (ha : PA X (e :: es) t)
    (hst : starEach (e :: es) X.env = (false, eval e X.env) :: starEach es X.env := by rfl) (hpl : (backTo pos (starEach es X.env)).any (·.1) = false := by rfl)
    (ht : eval (.Call (.Attribute o m apos) (e :: es) [] pos) X.env = (do
      let ov ← eval o X.env
      standAt apos.atName
      let (f, first) ← holding [ov] (getMethod ov m pl)
      callWith pos f first (backTo pos (starEach (e :: es) X.env)) (backToKw pos (keywordEach [] X.env))) := by rfl) :
    PE X (.Call (.Attribute o m apos) (e :: es) [] pos) (tMeth C m sp dvs E ta t) := by
  intro pins s σ H Q I h
  refine PySem.W.methodCall_KW (pl := pl) (thn (he pins s σ H _ I h) fun u s1 ⟨x, H1, I1, rx, a, dx, fs, ex, ea, l, q⟩ => ?_) ht
  subst ex
  obtain rfl : u = Value.ref a := rx
  refine getmeth_ok I1 ea c hm l ?_
  refine PySem.W.callWith_K (first := [.ref a]) (h₀ := X.base) I.ok.mod.kin hm.kp (thn (ha pos pins s1 σ H1 _ I1 q) fun us s2 ⟨vs, H2, I2, r, q2⟩ => ⟨I2.kIn, ?_⟩) hst hpl
  exact run_fn (us := .ref a :: us) (vs := .ref a :: vs) F hr hb hd hx I2 (.cons rfl r) q2
/-- o.m() -/
theorem pe_meth0 {pl : Sem Bool} (he : PE X o ta) (c : Cls X.K C) (hm : Meth X.K C m f) (F : FnOk X.prog X.w X.K X.mg X.base CX k f fd ps sp) (hr : Room k X.A) (hb : Binds X.K fd ps ds) (hd : Vals dvs ds) (hx : Passes CX X E)
    (ht : eval (.Call (.Attribute o m apos) [] [] pos) X.env = (do
      let ov ← eval o X.env
      standAt apos.atName
      let (f, first) ← holding [ov] (getMethod ov m pl)
      callWith pos f first (backTo pos (starEach [] X.env)) (backToKw pos (keywordEach [] X.env))) := by rfl) :
    PE X (.Call (.Attribute o m apos) [] [] pos) (tMeth C m sp dvs E ta tNil) := by
  intro pins s σ H Q I h
  refine PySem.W.methodCall_KW (pl := pl) (thn (he pins s σ H _ I h) fun u s1 ⟨x, H1, I1, rx, a, dx, fs, ex, ea, l, q⟩ => ?_) ht
  subst ex
  obtain rfl : u = Value.ref a := rx
  refine getmeth_ok I1 ea c hm l ?_
  exact PySem.W.callWith_K0 (first := [.ref a]) I1.kIn hm.kp (run_fn (us := [.ref a]) (vs := [.ref a]) F hr hb hd hx I1 (.cons rfl .nil) q)

/-- what a class must have to be made -/
structure Mk (K : PySem.W.Frag) (C f : Addr) : Prop where
  makes : PySem.W.makesIn K C = true
  init : PySem.W.findIn K (.ref C) "__init__" = some (some (.ref f))
  fn : PySem.W.isFn K (.ref f) = true
  kp : PySem.W.keepIn K (.ref C) = true

theorem run_make {pins : List (Addr × Obj)} {σ : St} {H : Hp} {s : Shared} {Q : VK} {us : List Value} {vs : List V} (M : Mk X.K C f) (F : FnOk X.prog X.w X.K X.mg X.base CX k f fd ps sp) (hr : Room (k + 1) X.A) (hb : Binds X.K fd ps ds) (hd : Vals dvs ds)
    (hx : Passes CX X E) (I : Inv X pins σ H s) (r : Vals vs us)
    (h : ∀ x dx, H x = none → H dx = none → dx ≠ x → sp (.ref x :: (vs ++ dvs)) (upd (upd H dx (.own x)) x (.ins C dx [])) (fun v H2 => v = .non ∧ Q (.ref x) H2) E) :
    wpAny (model X.prog X.w) X.A (call (.ref C) us) (EP X pins σ Q) X.xe s := by
  have hq := h (s.heap.objs.size + 1) s.heap.objs.size (I.hok.fresh (Nat.le_succ _)) (I.hok.fresh (Nat.le_refl _)) (Nat.ne_of_lt (Nat.lt_succ_self _))
  have I2 := Inv.made (C := C) I
  have r2 : Vals (V.ref (s.heap.objs.size + 1) :: (vs ++ dvs)) (Value.ref (s.heap.objs.size + 1) :: (us ++ ds)) := .cons rfl (r.append hd)
  have hl : (Value.ref (s.heap.objs.size + 1) :: us ++ ds).length = ps.length := by
    have e := r2.length
    rw [F.len _ _ _ _ hq] at e
    exact e.symm
  refine wpAny_call (make_map (f := f) I.kIn M.makes M.init (beq_iff_eq.mp M.fn) (codeAny_mono (F.run _ X.stack _ _ ⟨Value.ref (s.heap.objs.size + 1) :: us, []⟩ (Value.ref (s.heap.objs.size + 1) :: (us ++ ds)) _ _ E (hr.make C us [])
    (I2.env0.make C us []) (hb _ (Value.ref (s.heap.objs.size + 1) :: us) I2.kIn hl) r2 hq) fun r s' hq' => ?_))
  cases r with
  | error e => exact hx pins σ _ _ e s' I2 hq'
  | ok fl =>
    cases fl with
    | ret u =>
      obtain ⟨v, H', I3, rv, ev, q3⟩ := I2.after hq'
      subst ev
      exact ⟨rv, ⟨V.ref (s.heap.objs.size + 1), H', I3, rfl, q3⟩⟩
    | next => exact False.elim hq'
    | brk => exact False.elim hq'
    | cont => exact False.elim hq'
theorem pe_make (M : Mk X.K C f) (F : FnOk X.prog X.w X.K X.mg X.base CX k f fd ps sp) (hr : Room (k + 1) X.A) (hg : Gl X x) (hm : X.mg x = some (.ref C)) (hb : Binds X.K fd ps ds) (hd : Vals dvs ds) (hx : Passes CX X E)
    (ha : PA X (e :: es) t) (hdb : (x == ("__debug__" : Str)) = false := by decide) (he : starEach (e :: es) X.env = (false, eval e X.env) :: starEach es X.env := by rfl) (hpl : (backTo pos (starEach es X.env)).any (·.1) = false := by rfl) :
    PE X (.Call (.Name x p) (e :: es) [] pos) (tMake C sp dvs E t) := by
  intro pins s σ H Q I h
  refine wpAny_Call_Name_kw (ld_glob I hg hm ?_ hdb)
  refine PySem.W.callWith_K (h₀ := X.base) I.ok.mod.kin M.kp (thn (ha pos pins s σ H _ I h) fun us s1 ⟨vs, H1, I1, r, q⟩ => ⟨I1.kIn, ?_⟩) he hpl
  exact run_make M F hr hb hd hx I1 r q
end

section
variable {X : Cx} {CX : CXT} {k : Nat} {f C : Addr} {fd : FuncData} {ps ks : List Str} {sp : Sp} {E : XK} {x m : Str} {p pos apos kpos : Pos} {e o : Expr} {es : List Expr} {kws : List Keyword} {te ta : TE} {t tk : TA} {nm : Option Str}
variable {g : List Value → List Value → List Value} {gV : List V → List V → List V}
end

/-- names: the parameters first -/
structure FnScope (N P : List Str) (sc : Scope) : Prop where
  kind : sc.kind = .function
  co : sc.isCoroutine = false
  gen : sc.isGenerator = false
  nd : N.Nodup
  pre : N.take P.length = P
  par : ∀ x ∈ P, sc.names.lookup x = some .local ∨ sc.names.lookup x = some .cell
  nofree : ∀ y ∈ sc.names, y.2 ≠ .free

theorem bindL_out {kindOf : Str → Option NameKind} {x : Str} : ∀ {binds : List (Str × Value)} {m : Str → Option Value}, (∀ v, (x, v) ∉ binds) → bindL kindOf binds m x = m x
  | [], _, _ => rfl
  | (n, v) :: r, m, h => by
    unfold bindL
    rw [bindL_out fun w hw => h w (List.mem_cons_of_mem _ hw)]
    split
    · have : x ≠ n := by rintro rfl; exact h v List.mem_cons_self
      simp [this]
    · rfl
theorem bindC_out {kindOf : Str → Option NameKind} {x : Str} : ∀ {binds : List (Str × Value)} {m : Str → Option Value}, (∀ v, (x, v) ∉ binds) → bindC kindOf binds m x = m x
  | [], _, _ => rfl
  | (n, v) :: r, m, h => by
    unfold bindC
    rw [bindC_out fun w hw => h w (List.mem_cons_of_mem _ hw)]
    split
    · rfl
    · have : x ≠ n := by rintro rfl; exact h v List.mem_cons_self
      simp [this]
theorem bindL_get {kindOf : Str → Option NameKind} {x : Str} {v : Value} : ∀ {P : List Str} {vs : List Value} {i : Nat} {m : Str → Option Value}, P.Nodup → P[i]? = some x → vs[i]? = some v → kindOf x = some .local →
    bindL kindOf (P.zip vs) m x = some v
  | [], _, _, _, _, h, _, _ => by simp at h
  | _ :: _, [], _, _, _, _, h, _ => by simp at h
  | p :: P, w :: vs, 0, m, nd, h1, h2, hk => by
    simp at h1 h2; subst h1; subst h2
    show bindL kindOf ((p, w) :: P.zip vs) m p = _
    unfold bindL
    rw [bindL_out fun v hv => (List.nodup_cons.mp nd).1 (List.of_mem_zip hv).1, if_pos hk]
    simp
  | p :: P, w :: vs, i + 1, m, nd, h1, h2, hk => by
    show bindL kindOf ((p, w) :: P.zip vs) m x = _
    unfold bindL
    exact bindL_get (i := i) (List.nodup_cons.mp nd).2 (by simpa using h1) (by simpa using h2) hk
theorem bindC_get {kindOf : Str → Option NameKind} {x : Str} {v : Value} : ∀ {P : List Str} {vs : List Value} {i : Nat} {m : Str → Option Value}, P.Nodup → P[i]? = some x → vs[i]? = some v → kindOf x ≠ some .local →
    bindC kindOf (P.zip vs) m x = some v
  | [], _, _, _, _, h, _, _ => by simp at h
  | _ :: _, [], _, _, _, _, h, _ => by simp at h
  | p :: P, w :: vs, 0, m, nd, h1, h2, hk => by
    simp at h1 h2; subst h1; subst h2
    show bindC kindOf ((p, w) :: P.zip vs) m p = _
    unfold bindC
    rw [bindC_out fun v hv => (List.nodup_cons.mp nd).1 (List.of_mem_zip hv).1, if_neg hk]
    simp
  | p :: P, w :: vs, i + 1, m, nd, h1, h2, hk => by
    show bindC kindOf ((p, w) :: P.zip vs) m x = _
    unfold bindC
    exact bindC_get (i := i) (List.nodup_cons.mp nd).2 (by simpa using h1) (by simpa using h2) hk

/-- the names' values at the entry -/
def start (N : List Str) (vs : List V) : St := vs.map some ++ List.replicate (N.length - vs.length) none

/-- the context of a def's body, at its entry; an exception leaves the frame, then lies as CX says -/
def cxOf (CX : CXT) (P : Program) (w : World) (K : PySem.W.Frag) (mg : Str → Option Value) (base : Heap) (N : List Str) (qual : Str) (scope : Scope) (f : Addr) (cd : Value) (A : Around) (outer : List Env) (s : Shared) (H : Hp) (E : XK) : Cx where
  prog := P
  w := w
  K := K
  mg := mg
  base := base
  A := A.deeper (envOfC qual scope s.heap.objs.size f cd)
  N := N
  s₀ := s
  H₀ := H
  env := envOfC qual scope s.heap.objs.size f cd
  outer := outer
  stack := envOfC qual scope s.heap.objs.size f cd :: outer
  ex := []
  calm := true
  fn := fun _ => true
  pn := []
  xe := fun e s' => wpAny (model P w) (A.deeper (envOfC qual scope s.heap.objs.size f cd)) (leaving (envOfC qual scope s.heap.objs.size f cd) e) (fun _ s'' => CX outer H s E e s'') (fun e' s'' => CX outer H s E e' s'') s'

theorem cell_has {sc : Scope} {n : Nat} {x : Str} (h : sc.names.lookup x = some .cell) : ∃ c, (cellsFrom n sc.names []).lookup x = some c := by
  have q := PySem.W.cellsFrom_some sc.names n [] (.inl h)
  exact Option.isSome_iff_exists.mp q

theorem inv_start {CX : CXT} {P : Program} {w : World} {K : PySem.W.Frag} {mg : Str → Option Value} {base : Heap} {N ps : List Str} {qual : Str} {scope : Scope} {f : Addr} {cd : Value} {A : Around} {outer : List Env} {s s1 : Shared} {H : Hp} {E : XK} {us : List Value} {vs : List V}
    (S : FnScope N ps scope) (hd : A.handled = none) (e0 : Env0 P w K mg base A outer s H) (hl : vs.length = ps.length) (r : Vals vs us)
    (x : InCallC s s.heap.objs.size (bindL (envOfC qual scope s.heap.objs.size f cd).kindOf (ps.zip us) fun _ => none) (cellsFrom (s.heap.objs.size + 1) scope.names []) (bindC (envOfC qual scope s.heap.objs.size f cd).kindOf (ps.zip us) fun _ => none) s1) :
    Inv (cxOf CX P w K mg base N qual scope f cd A outer s H E) [] (start N vs) H s1 := by
  have hpl : ps.length ≤ N.length := by have := congrArg List.length S.pre; rw [List.length_take] at this; omega
  obtain ⟨h1, tk, rfl, hk⟩ := x.done
  have noA : ∀ b : Addr, b ∉ (cxOf CX P w K mg base N qual scope f cd A outer s H E).ex := fun b z => absurd (show b ∈ ([] : List Addr) from z) (by simp)
  refine ⟨⟨e0.mod, S.kind, rfl, rfl, Nat.le_refl _, fun y z c h1 h2 => ?_, fun y hy => ?_, fun y c _ h => ?_, fun _ => hd, Around.frames_deeper e0.frames, .inr ⟨rfl, rfl⟩, fun b z => absurd z (noA b), e0.bs, e0.bsz, fun b _ _ => noA b, fun b z => absurd z (noA b), e0.funs, e0.frf⟩,
    rfl, e0.bare, Un.kept hk, ⟨_, x.toInCall.ns, fun i y v h1 h2 h3 => ?_⟩, fun y c h => ⟨_, x.cell y c h⟩, e0.hok.fresh (Nat.le_refl _), fun y c h => ?_, fun p hp => absurd (show p ∈ ([] : List (Addr × Obj)) from hp) (by simp), e0.hok.kept hk, ?_⟩
  · exact name_of_addr x.apart (PySem.mem_of_lookup h1) (PySem.mem_of_lookup h2)
  · have hy : scope.names.lookup y = some .cell ∨ scope.names.lookup y = some .free := hy
    rcases hy with hy | hy
    · exact cell_has hy
    · exact absurd rfl (S.nofree _ (PySem.mem_of_lookup hy))
  · exact Nat.le_of_lt (x.above y c (PySem.mem_of_lookup h))
  · have hi : i < vs.length := by
      unfold start at h2
      by_cases hi : i < vs.length
      · exact hi
      · rw [List.getElem?_append_right (by simpa using hi)] at h2
        rw [List.getElem?_replicate] at h2
        split at h2 <;> cases h2
    have ha : vs[i]? = some v := by
      unfold start at h2
      rw [List.getElem?_append_left (by simpa using hi), List.getElem?_map] at h2
      cases e : vs[i]? with
      | none => rw [e] at h2; cases h2
      | some a => rw [e] at h2; cases h2; rfl
    obtain ⟨u, hu, rv⟩ := r.get ha
    have hp : ps[i]? = some y := by
      rw [← S.pre, List.getElem?_take_of_lt (by omega)]; exact h1
    have ndP : ps.Nodup := by rw [← S.pre]; exact S.nd.sublist (List.take_sublist _ _)
    refine ⟨u, rv, ?_⟩
    rcases S.par y (List.mem_of_getElem? hp) with k | k
    · exact .inl ⟨k, bindL_get ndP hp hu k⟩
    · obtain ⟨c, e⟩ := cell_has (n := s.heap.objs.size + 1) k
      refine .inr ⟨.inl k, c, e, ?_⟩
      have q := x.cell y c e
      rw [bindC_get ndP hp hu (by show scope.names.lookup y ≠ _; rw [k]; decide)] at q
      exact q
  · exact e0.hok.fresh (Nat.le_of_lt (x.above y c (PySem.mem_of_lookup h)))
  · unfold start
    show _ = N.length
    rw [List.length_append, List.length_map, List.length_replicate]
    omega

/-- THE RULE: a def (or a method) of the text, by its body. The body's reading t is chosen for each entry; it is run at the parameters' values -/
theorem fn_of {CX : CXT} {P : Program} {w : World} {K : PySem.W.Frag} {mg : Str → Option Value} {base : Heap} {k : Nat} {f : Addr} {name qual : Str} {params : Arguments} {body : List Stmt} {scope : Scope} {dV kV doc pm cdv ct oc : Value} {an od : Option Addr}
    {osl : Array (Option Value)} {N ps : List Str} {sp : Sp} (lk : K.lookup f = some ⟨oc, od, .func (PySem.W.fnOf name qual params body scope dV kV doc pm an cdv ct), osl⟩) (hcd : PySem.W.codeIn K cdv qual = true) (S : FnScope N ps scope)
    (len : ∀ vs H Q E, sp vs H Q E → vs.length = ps.length)
    (hbody : ∀ (A : Around) (outer : List Env) (s : Shared) (H : Hp) (vs : List V) (Q : VK) (E : XK), Room k (A.deeper (envOfC qual scope s.heap.objs.size f cdv)) → sp vs H Q E →
      ∃ t, PSs (cxOf CX P w K mg base N qual scope f cdv A outer s H E) body t ∧ t { nx := fun _ H' => Q .non H', rt := Q } (start N vs) H) :
    FnOk P w K mg base CX (k + 1) f (PySem.W.fnOf name qual params body scope dV kV doc pm an cdv ct) ps sp := by
  refine ⟨len, fun A outer s H args us vs Q E hr e0 hb r hsp => ?_⟩
  have hl := len _ _ _ _ hsp
  have KX : K.In s.heap := e0.mod.kin.keeps fun b o e => (e0.bs b o e).1
  have lim : s.heap.NoLimit := e0.mod.nolimit.keeps fun b o e => (e0.bs b o e).1
  have hkind : ∀ y ∈ ps.zip us, scope.names.lookup y.1 = some .local ∨ (scope.names.lookup y.1 = some .cell ∧ ((cellsFrom (s.heap.objs.size + 1) scope.names []).lookup y.1).isSome = true) := fun ⟨n, v⟩ hy => by
    rcases S.par n (List.of_mem_zip hy).1 with q | q
    · exact .inl q
    · exact .inr ⟨q, PySem.W.cellsFrom_some _ _ _ (.inl q)⟩
  refine codeAny_call_function hr.depth (KX _ _ lk) rfl S.co S.gen rfl (PySem.W.codeRec_of KX hcd) (hb _ _ _ _ ?_)
  refine wpAny_newFunctionEnv_cells S.kind hkind fun env he s1 x => ?_
  subst he
  refine ⟨lim.keeps x.toInCall.keep, codeAny_func ?_⟩
  obtain ⟨t, ht, hq⟩ := hbody A outer s H vs Q E (hr.deeper _) hsp
  have I : Inv (cxOf CX P w K mg base N qual scope f cdv A outer s H E) [] (start N vs) H s1 := inv_start S hr.hd e0 hl r x
  refine wpAny_mono (ht [] s1 (start N vs) H _ I hq) (fun fl s' hs => ?_) fun e s' hs => hs
  have fin : ∀ {σ' : St} {H' : Hp} {v : V} {u : Value}, Inv (cxOf CX P w K mg base N qual scope f cdv A outer s H E) [] σ' H' s' → RelV v u → Q v H' → CE outer P w H s Q u s' :=
    fun {σ' H' v u} J rv q => ⟨v, H', J.os, J.bare, J.base, J.hok, rv, q⟩
  cases fl with
  | ret u =>
    obtain ⟨v, σ', H', J, rv, q⟩ := hs
    exact fin J rv q
  | next =>
    obtain ⟨σ', H', J, q⟩ := hs
    exact fin (v := V.non) (u := Value.none) J rfl q
  | brk =>
    obtain ⟨_, _, _, q⟩ := hs
    exact False.elim q
  | cont =>
    obtain ⟨_, _, _, q⟩ := hs
    exact False.elim q
end L2

namespace L2
open PySem PySem.Spec PyProof.Rows
section
variable {X : Cx} {x : Str} {p pos : Pos} {e : Expr} {es : List Expr} {t : TA} {id T : String} {r : List V → Hp → VK → Prop}

def tCB (r : List V → Hp → VK → Prop) (t : TA) : TE := fun σ H Q => t σ H fun vs H1 => r vs H1 Q
/-- f(e, ..), f a built-in function -/
theorem pe_callB (hc : CallR X (.builtin id) r) (hg : Gl X x) (hm : X.mg x = none) (hv : bootBuiltins x = some (.builtin id)) (ha : PA X (e :: es) t) (hn : x ≠ "__name__" := by decide) (hdb : (x == ("__debug__" : Str)) = false := by decide)
    (he : starEach (e :: es) X.env = (false, eval e X.env) :: starEach es X.env := by rfl) (hpl : (backTo pos (starEach es X.env)).any (·.1) = false := by rfl) : PE X (.Call (.Name x p) (e :: es) [] pos) (tCB r t) := by
  intro pins s σ H Q I h
  refine wpAny_Call_Name_kw (ld_blt I hg hm hv ?_ hn hdb)
  exact PyProof.Rows.callWith_builtin1 (thn (ha pos pins s σ H _ I h) fun us s1 ⟨vs, H1, I1, r1, q1⟩ => hc pins s1 σ H1 vs us Q I1 r1 q1) he hpl
/-- T(e, ..), T a built-in type -/
theorem pe_callTy (hc : CallR X (.type T) r) (hg : Gl X x) (hm : X.mg x = none) (hv : bootBuiltins x = some (.type T)) (ha : PA X (e :: es) t) (hn : x ≠ "__name__" := by decide) (hdb : (x == ("__debug__" : Str)) = false := by decide)
    (he : starEach (e :: es) X.env = (false, eval e X.env) :: starEach es X.env := by rfl) (hpl : (backTo pos (starEach es X.env)).any (·.1) = false := by rfl) : PE X (.Call (.Name x p) (e :: es) [] pos) (tCB r t) := by
  intro pins s σ H Q I h
  refine wpAny_Call_Name_kw (ld_blt I hg hm hv ?_ hn hdb)
  exact PyProof.Rows.callWith_type1 (thn (ha pos pins s σ H _ I h) fun us s1 ⟨vs, H1, I1, r1, q1⟩ => hc pins s1 σ H1 vs us Q I1 r1 q1) he hpl
end
end L2

namespace HT
open PySem PyProof.Rows

section
open PySem.SeqAt
open PySem.AutoSeq1 (wpAny_loadPart')
open PySem.MeetsSeq PySem.MeetsSeq2 PySem.MeetsSeq3

end

section
variable {prog : Program} {w : World} {A : Around} {E : Value → Shared → Prop} {s : Shared}

/-- a slice's bound as a place among n (d where it is left out) -/
def sIx (n d : Nat) : Option Int → Nat
  | none => d
  | some v => if v < 0 then (v + (n : Int)).toNat else min v.toNat n
theorem sIx_none (n d : Nat) : sIx n d none = d := rfl
end
end HT

namespace L2
open PySem PySem.Spec PyProof.Rows

abbrev TO := St → Hp → (Option Int → Hp → Prop) → Prop
/-- a slice's part (left out, or an int) -/
def PO (X : Cx) (e : Option Expr) (t : TO) : Prop :=
  ∀ (pins : List (Addr × Obj)) (s : Shared) (σ : St) (H : Hp) (Q : Option Int → Hp → Prop), Inv X pins σ H s → t σ H Q →
    wpAny (model X.prog X.w) X.A (evalPart e X.env) (fun u s' => ∃ o H', Inv X pins σ H' s' ∧ IsPart u o ∧ Q o H') X.xe s
def tNoPart : TO := fun _ H Q => Q none H
def tPart (t : TE) : TO := fun σ H Q => t σ H fun x H1 => ∃ i, x = .int i ∧ Q (some i) H1

theorem intsAre_of {ns : List Int} : ∀ {us : List Value}, Vals (ns.map V.int) us → IntsAre us ns := by
  induction ns with
  | nil => intro us r; rw [List.map_nil] at r; cases r; exact .nil
  | cons n ns ih =>
    intro us r
    rw [List.map_cons] at r
    cases r with
    | cons r1 r2 =>
      obtain ⟨t, e⟩ := r1
      subst e
      exact .cons n t (ih r2)

section
variable {X : Cx} {e : Expr} {te : TE} {lo hi : Option Expr} {tl th : TO} {pos p2 : Pos}

theorem po_none : PO X none tNoPart := by
  intro pins s σ H Q I h
  rw [evalPart_none]
  exact wpAny_pure ⟨none, H, I, .none, h⟩
theorem po_some (h : PE X e te) : PO X (some e) (tPart te) := by
  intro pins s σ H Q I hw
  rw [evalPart_some]
  refine thn (h pins s σ H _ I hw) fun u s1 ⟨x, H1, I1, r1, q1⟩ => ?_
  obtain ⟨i, rfl, q⟩ := q1
  obtain ⟨t, rfl⟩ := r1
  exact ⟨some i, H1, I1, .int i t, q⟩

/-- what a slice of a value is, by values: the slice object stands at sl -/
def SlR (X : Cx) (r : V → Option Int → Option Int → Hp → VK → Prop) : Prop :=
  ∀ (pins : List (Addr × Obj)) (s : Shared) (σ : St) (H : Hp) (x : V) (v vl vu : Value) (lo hi : Option Int) (sl : Addr) (Q : VK), Inv X pins σ H s → RelV x v → s.heap.IsSliceOf sl vl vu .none → IsPart vl lo → IsPart vu hi → r x lo hi H Q →
    ∃ T id, typeLookup (.type T) "__getitem__" = pure (some (.builtin id)) ∧ s.TypeIs v T ∧ wpAny (model X.prog X.w) X.A (getItem v (.ref sl)) (EP X pins σ Q) X.xe s
def tSl (r : V → Option Int → Option Int → Hp → VK → Prop) (te : TE) (tl th : TO) : TE := fun σ H Q => te σ H fun x H1 => tl σ H1 fun l H2 => th σ H2 fun u H3 => r x l u H3 Q
/-- a[lo:hi], any a -/
theorem pe_slice {r : V → Option Int → Option Int → Hp → VK → Prop} (hr : SlR X r) (he : PE X e te) (hl : PO X lo tl) (hu : PO X hi th) : PE X (.Subscript e (.Slice lo hi none p2) pos) (tSl r te tl th) := by
  intro pins s σ H Q I h
  refine Subscript_ (thn (he pins s σ H _ I h) fun v s1 ⟨x, H1, I1, r1, q1⟩ => ?_)
  refine wpAny_Slice (thn (hl pins s1 σ H1 _ I1 q1) fun vl s2 ⟨l, H2, I2, pl, q2⟩ => thn (hu pins s2 σ H2 _ I2 q2) fun vu s3 ⟨u, H3, I3, pu, q3⟩ => ?_)
  rw [evalPart_none]
  refine wpAny_pure ?_
  have I4 : Inv X pins σ H3 { s3 with heap := s3.heap.push { cls := .type "slice", data := .fields #[vl, vu, .none] } } := I3.kept (t' := s3.toks) fun b ob q => Heap.get?_push_of_some _ q
  obtain ⟨T, id, hT, ht, hg⟩ := hr pins { s3 with heap := s3.heap.push { cls := .type "slice", data := .fields #[vl, vu, .none] } } σ H3 x v vl vu l u s3.heap.objs.size Q I4 r1 (Heap.IsSliceOf.new ..) pl pu q3
  show wpAny (model X.prog X.w) X.A (subscriptTail e (.Slice lo hi none p2) v (.ref s3.heap.objs.size)) (EP X pins σ Q) X.xe { s3 with heap := s3.heap.push { cls := .type "slice", data := .fields #[vl, vu, .none] } }
  exact tail_any (ops := [.ref s3.heap.objs.size, v]) ht hT hg (by with_unfolding_all rfl)

/-- the items of xs[lo:hi] -/
def cutV (xs : List V) (lo hi : Option Int) : List V := (xs.drop (HT.sIx xs.length 0 lo)).take (HT.sIx xs.length xs.length hi - HT.sIx xs.length 0 lo)
theorem cutV_length (xs : List V) (lo hi : Option Int) : (cutV xs lo hi).length ≤ xs.length := by
  unfold cutV
  rw [List.length_take, List.length_drop]
  omega
end
end L2

namespace L2
open PySem PySem.Spec PyProof.Rows

/-- the place that an index of any sign means -/
def ixN (n : Nat) (i : Int) : Option Nat := if 0 ≤ i then (if i < n then some i.toNat else none) else if -(n : Int) ≤ i then some (i + n).toNat else none
def atI {α : Type} (xs : List α) (i : Int) : Option α := (ixN xs.length i).bind fun j => xs[j]?
theorem ixN_seq {n : Nat} {i : Int} {j : Nat} (h : ixN n i = some j) : seqIndex? i n = some j ∧ j < n ∧ -(n : Int) ≤ i ∧ i < n := by
  unfold ixN at h
  by_cases h0 : 0 ≤ i
  · rw [if_pos h0] at h
    by_cases h1 : i < n
    · rw [if_pos h1] at h
      have e : i.toNat = j := Option.some.inj h
      exact ⟨by rw [seqIndex_of h0 h1, e], by omega, by omega, h1⟩
    · rw [if_neg h1] at h; cases h
  · rw [if_neg h0] at h
    by_cases h1 : -(n : Int) ≤ i
    · rw [if_pos h1] at h
      have e : (i + n).toNat = j := Option.some.inj h
      exact ⟨by rw [seqIndex_neg (by omega) h1, e], by omega, h1, by omega⟩
    · rw [if_neg h1] at h; cases h
theorem atI_get {α : Type} {xs : List α} {i : Int} {v : α} (h : atI xs i = some v) : ∃ j, seqIndex? i xs.length = some j ∧ xs[j]? = some v ∧ j < xs.length ∧ -(xs.length : Int) ≤ i ∧ i < xs.length := by
  unfold atI at h
  cases e : ixN xs.length i with
  | none => rw [e] at h; cases h
  | some j =>
    rw [e] at h
    obtain ⟨h1, h2, h3, h4⟩ := ixN_seq e
    exact ⟨j, h1, h, h2, h3, h4⟩
theorem atI_nat {α : Type} {xs : List α} {j : Nat} {v : α} (h : xs[j]? = some v) : atI xs (j : Int) = some v := by
  have hj : j < xs.length := (List.getElem?_eq_some_iff.mp h).1
  have e : ixN xs.length (j : Int) = some j := by
    unfold ixN
    rw [if_pos (by omega), if_pos (by omega)]; simp
  unfold atI; rw [e]; exact h
theorem atI_last {α : Type} (xs : List α) (v : α) : atI (xs ++ [v]) (-1) = some v := by
  have hl : (xs ++ [v]).length = xs.length + 1 := by simp
  have e : ixN (xs ++ [v]).length (-1) = some xs.length := by
    unfold ixN
    rw [hl, if_neg (by decide), if_pos (by omega)]
    congr 1
    omega
  unfold atI
  rw [e]
  show (xs ++ [v])[xs.length]? = some v
  simp

/-- what stands as an index of a plain subscript -/
def PlainIx (b : Expr) : Prop := ∀ o i, subscripted b false o i = operate [o, i] (getItem o i)
/-- a subscript by values -/
def IxR (X : Cx) (r : R2) : Prop :=
  ∀ (value slice : Expr) (pins : List (Addr × Obj)) (s : Shared) (σ : St) (H : Hp) (x y : V) (v u : Value) (Q : VK), Inv X pins σ H s → RelV x v → RelV y u → r x y H Q →
    subscripted slice false v u = operate [v, u] (getItem v u) → wpAny (model X.prog X.w) X.A (subscriptTail value slice v u) (EP X pins σ Q) X.xe s
/-- a call of a builtin's method by values: the receiver, the arguments -/
def MtR (X : Cx) (id : String) (r : V → List V → Hp → VK → Prop) : Prop :=
  ∀ (pins : List (Addr × Obj)) (s : Shared) (σ : St) (H : Hp) (x : V) (xs : List V) (v : Value) (us : List Value) (Q : VK), Inv X pins σ H s → RelV x v → Vals xs us → r x xs H Q →
    wpAny (model X.prog X.w) X.A (call (.builtin id) (v :: us)) (EP X pins σ Q) X.xe s
section
variable {X : Cx} {a b : Expr} {ta tb : TE} {pos : Pos}
/-- a[b] -/
theorem pe_ix {r : R2} (hr : IxR X r) (ha : PE X a ta) (hb : PE X b tb) (hs : PlainIx b) : PE X (.Subscript a b pos) (tOp r ta tb) := by
  intro pins s σ H Q I h
  exact Subscript_ (binT ha hb I h fun v u s2 x y H2 I2 rx ry q => hr a b pins s2 σ H2 x y v u Q I2 rx ry q (hs _ _))

def rIxL (K : PySem.W.Frag) : R2 := fun x y H Q => ∃ p xs i v, x = .ref p ∧ y = .int i ∧ SqL K H p xs ∧ atI xs i = some v ∧ Q v H
theorem ix_list : IxR X (rIxL X.K) := by
  intro value slice pins s σ H x y v u Q I rx ry h hs
  obtain ⟨p, xs, i, z, rfl, rfl, hq, he, q⟩ := h
  cases rx
  obtain ⟨t, rfl⟩ := ry
  obtain ⟨its, r, pl, hz⟩ := I.list hq
  obtain ⟨j, h1, h2, h3, h4, h5⟩ := atI_get he
  obtain ⟨w, ew, rw'⟩ := r.get h2
  have hl := r.length
  have hn := line63
  have fin : EP X pins σ Q w s := ⟨z, H, I, rw', q⟩
  by_cases h0 : 0 ≤ i
  · have hj : i.toNat = j := by
      rw [seqIndex_of h0 h5] at h1
      exact Option.some.inj h1
    exact item_listR pl.isList h0 (by omega) (by rw [hj]; simpa using ew) fin hs
  · have hj : (i + (its.toArray.size : Int)).toNat = j := by
      rw [seqIndex_neg (by omega) h4] at h1
      rw [List.size_toArray, ← hl]
      exact Option.some.inj h1
    exact subscriptTail_builtinR (x := w) pl.isList.typeIs slot_list_getitem.lookup
      (wpAny_getItem_list_neg (Q := fun r s' => r = w ∧ EP X pins σ Q r s') pl.isList (by omega) (by rw [List.size_toArray] <;> omega) (by omega) (by rw [hj]; simpa using ew) ⟨rfl, fin⟩) hs
/-- the list's object behind a store -/
theorem mapSeq_set (its : List Value) (n j : Nat) (u : Value) : Obj.mapSeq (·.setIfInBounds j u) { cls := .type "list", data := .seq its.toArray n } = { cls := .type "list", data := .seq (its.set j u).toArray n } := by
  simp [Obj.mapSeq]
theorem Inv.lst {pins : List (Addr × Obj)} {σ : St} {H : Hp} {s : Shared} {p : Addr} {xs : List V} (I : Inv X pins σ H s) (h : H p = some (.lst xs)) :
    ∃ (its : List Value) (n : Nat), Vals xs its ∧ s.heap.get? p = some { cls := .type "list", data := .seq its.toArray n } ∧ xs.length ≤ sizeLine := by
  obtain ⟨z, its, n, r, e⟩ := I.hok p _ h
  exact ⟨its, n, r, e, z⟩
/-- the list at p is written by an update of its object -/
theorem Inv.lstUpd {pins : List (Addr × Obj)} {σ : St} {H : Hp} {s : Shared} {p : Addr} {xs ys : List V} {its its' : List Value} {n n' : Nat} {f : Obj → Obj} (I : Inv X pins σ H s) (h : H p = some (.lst xs))
    (ho : s.heap.get? p = some { cls := .type "list", data := .seq its.toArray n }) (hf : f { cls := .type "list", data := .seq its.toArray n } = { cls := .type "list", data := .seq its'.toArray n' }) (r : Vals ys its') (hz : ys.length ≤ sizeLine) (t : Nat) :
    Inv X pins σ (upd H p (.lst ys)) { s with heap := s.heap.update p f, toks := t } := by
  have e : (s.heap.update p f).get? p = some { cls := .type "list", data := .seq its'.toArray n' } := by
    rw [Heap.get?_update_self f ho (by rw [hf] <;> rfl), hf]
  refine I.write (x := p) (e := p) (by rw [h]; trivial) (.inl rfl) (fun b u hb q => (Heap.get?_update_other _ _ (Ne.symm hb)).trans q) ⟨_, e⟩ ?_
  exact ⟨hz, its', n', r, e⟩
def rSetL : V → V → V → Hp → (Hp → Prop) → Prop := fun o i v H Q => ∃ p xs k j, o = .ref p ∧ i = .int k ∧ H p = some (.lst xs) ∧ ixN xs.length k = some j ∧ Q (upd H p (.lst (xs.set j v)))
theorem set_list : PSet X rSetL := by
  intro pins s σ H o i v ov iv u Q I ro ri rv h
  obtain ⟨p, xs, k, j, rfl, rfl, hp, hj, q⟩ := h
  cases ro
  obtain ⟨t, rfl⟩ := ri
  obtain ⟨its, n, r, ho, hz⟩ := I.lst hp
  obtain ⟨h1, h2, h3, h4⟩ := ixN_seq hj
  have hl := r.length
  have hn := line63
  have I' : Inv X pins σ (upd H p (.lst (xs.set j v))) { s with heap := s.heap.update p (Obj.mapSeq (·.setIfInBounds j u)) } :=
    I.lstUpd hp ho (mapSeq_set its n j u) (r.set rv j) (by rw [List.length_set]; exact hz) s.toks
  by_cases h0 : 0 ≤ k
  · have hk : k.toNat = j := by
      rw [seqIndex_of h0 h4] at h1
      exact Option.some.inj h1
    exact PySem.W.ki_setAt ho h0 (by omega) (by rw [List.size_toArray, ← hl]; exact h4) (by rw [hk]; exact ⟨_, I', q⟩)
  · have hk : (k + (its.toArray.size : Int)).toNat = j := by
      rw [seqIndex_neg (by omega) h3] at h1
      rw [List.size_toArray, ← hl]
      exact Option.some.inj h1
    exact PySem.W.ki_setBack ho (by omega) (by rw [List.size_toArray, ← hl]; exact h3) (by omega) (by rw [hk]; exact ⟨_, I', q⟩)

theorem slice_bounds (lo hi : Option Int) (n : Nat) : (sliceBounds lo hi none n).1 = ((HT.sIx n 0 lo : Nat) : Int) ∧ (sliceBounds lo hi none n).2.1 = ((HT.sIx n n hi : Nat) : Int) ∧ (sliceBounds lo hi none n).2.2 = 1 := by
  refine ⟨?_, ?_, rfl⟩
  · cases lo with
    | none => simp [sliceBounds, HT.sIx]
    | some i =>
      simp only [sliceBounds, HT.sIx, Option.getD_none, show (1 : Int) > 0 by decide, if_true]
      by_cases h : i < 0
      · simp only [h, if_true] <;> omega
      · simp only [h, if_false] <;> omega
  · cases hi with
    | none => simp [sliceBounds, HT.sIx]
    | some i =>
      simp only [sliceBounds, HT.sIx, Option.getD_none, show (1 : Int) > 0 by decide, if_true]
      by_cases h : i < 0
      · simp only [h, if_true] <;> omega
      · simp only [h, if_false] <;> omega
theorem slicePick_cut (its : List Value) (lo hi : Option Int) : slicePick its.toArray lo hi none = ((its.drop (HT.sIx its.length 0 lo)).take (HT.sIx its.length its.length hi - HT.sIx its.length 0 lo)).toArray := by
  obtain ⟨h1, h2, h3⟩ := slice_bounds lo hi its.toArray.size
  unfold slicePick
  rw [h1, h2, h3]
  simp only [sliceRange_one, pick_run, List.size_toArray] <;> rfl
/-- xs[lo:hi] of a list: a new list -/
def rSlL (K : PySem.W.Frag) : V → Option Int → Option Int → Hp → VK → Prop := fun x lo hi H Q => ∃ a xs, x = .ref a ∧ SqL K H a xs ∧ ∀ p, H p = none → Q (.ref p) (upd H p (.lst (cutV xs lo hi)))
theorem sl_list : SlR X (rSlL X.K) := by
  intro pins s σ H x v vl vu lo hi sl Q I rx hs pl pu h
  obtain ⟨a, xs, rfl, hx, q⟩ := h
  cases rx
  obtain ⟨its, r, ht, hz⟩ := I.list hx
  have hlen := r.length
  refine ⟨"list", _, slot_list_getitem.lookup, ht.isList.typeIs, ?_⟩
  refine wpAny_getItem_list_slice ht.isList hs pl pu .none (by simp) ?_ (by rw [List.size_toArray] <;> omega)
  rw [slicePick_cut, ← hlen]
  refine ⟨.ref s.heap.objs.size, _, I.laid (t' := s.toks) (o := .lst (cutV xs lo hi)) (fun b ob q => Heap.get?_push_of_some _ q) (Nat.le_refl _) ?_, rfl, q _ (I.hok.fresh (Nat.le_refl _))⟩
  exact ⟨Nat.le_trans (cutV_length xs lo hi) hz, _, 0, (r.drop (HT.sIx xs.length 0 lo)).take (HT.sIx xs.length xs.length hi - HT.sIx xs.length 0 lo), Heap.get?_push_size _ rfl⟩

theorem call_len_seq : CallR X (.builtin "len") (fun xs H Q => ∃ p ys, xs = [.ref p] ∧ (SqL X.K H p ys ∨ SqT X.K H p ys) ∧ Q (.int ys.length) H) := by
  intro pins s σ H xs us Q I r h
  obtain ⟨p, ys, rfl, hq, q⟩ := h
  obtain ⟨u, rfl, rx⟩ := vals1 r
  cases rx
  have hn := line63
  rcases hq with hq | hq
  · obtain ⟨its, r', pl, hz⟩ := I.list hq
    have hlen := r'.length
    exact Calls.call_len_list pl.isList (by simp only [List.size_toArray] <;> omega) ⟨.int ys.length, H, I.tok _, ⟨s.toks + 1, by rw [List.size_toArray, hlen]⟩, q⟩
  · obtain ⟨its, r', pl, hz⟩ := I.tuple hq
    have hlen := r'.length
    exact len_tuple pl (by simp only [List.size_toArray] <;> omega) ⟨.int ys.length, H, I.tok _, ⟨s.toks + 1, by rw [List.size_toArray, hlen]⟩, q⟩
theorem call_list_of : CallR X (.type "list") (fun xs H Q => ∃ p ys, xs = [.ref p] ∧ (SqL X.K H p ys ∨ SqT X.K H p ys) ∧ ∀ l, H l = none → Q (.ref l) (upd H l (.lst ys))) := by
  intro pins s σ H xs us Q I r h
  obtain ⟨p, ys, rfl, hq, q⟩ := h
  obtain ⟨u, rfl, rx⟩ := vals1 r
  cases rx
  have fin : ∀ (its : List Value), Vals ys its → ys.length ≤ sizeLine → ∀ (h' : Heap) (c' : Nat), (∀ b o', s.heap.get? b = some o' → h'.get? b = some o') →
      h'.get? s.heap.objs.size = some { cls := .type "list", dict := none, data := .seq its.toArray c', slots := #[] } → EP X pins σ Q (.ref s.heap.objs.size) { s with heap := h' } := fun its r' hz h' c' kp e =>
    ⟨.ref s.heap.objs.size, _, I.laid (t' := s.toks) kp (Nat.le_refl _) (show ObjOk X.prog X.w _ h' _ (.lst ys) from ⟨hz, its, c', r', e⟩), rfl, q _ (I.hok.fresh (Nat.le_refl _))⟩
  rcases hq with hq | hq
  · obtain ⟨its, r', pl, hz⟩ := I.list hq
    have hlen := r'.length
    obtain ⟨o, ho, hc, n, hd⟩ := pl.isList
    exact call_list_seq p (.inl rfl) ho hc hd (fun h' c' kp e => fin its r' hz h' c' kp e) (by simp only [List.size_toArray] <;> omega)
  · obtain ⟨its, r', pl, hz⟩ := I.tuple hq
    have hlen := r'.length
    obtain ⟨o, ho, hc, n, hd⟩ := pl
    exact call_list_seq p (.inr rfl) ho hc hd (fun h' c' kp e => fin its r' hz h' c' kp e) (by simp only [List.size_toArray] <;> omega)
/-- the value is of that builtin type -/
def tyV (K : PySem.W.Frag) (T : String) (x : V) (H : Hp) : Prop := match x with
  | .str _ => T = "str"
  | .int _ => T = "int"
  | .ref p => (T = "list" ∧ ∃ xs, SqL K H p xs) ∨ (T = "tuple" ∧ ∃ o, K.lookup p = some o ∧ o.cls = .type "tuple" ∧ o.dict = none) ∨
      (T = "dict" ∧ ((∃ kvs, H p = some (.dK kvs)) ∨ ∃ kvs, H p = some (.dT kvs))) ∨ (T = "set" ∧ ∃ S n, H p = some (.set S n))
  | _ => False
theorem tyV_is {pins : List (Addr × Obj)} {σ : St} {H : Hp} {s : Shared} {T : String} {x : V} {v : Value} (I : Inv X pins σ H s) (r : RelV x v) (ty : tyV X.K T x H) :
    s.TypeIs v T ∧ ∀ a, v = .ref a → ∃ ob, s.heap.get? a = some ob ∧ ob.dict = none := by
  cases x with
  | str z =>
    obtain ⟨t, rfl⟩ := r
    cases (show T = "str" from ty)
    exact ⟨typeIs_str s z t, fun _ e => nomatch e⟩
  | int i =>
    obtain ⟨t, rfl⟩ := r
    cases (show T = "int" from ty)
    exact ⟨typeIs_int s i t, fun _ e => nomatch e⟩
  | ref p =>
    cases r
    rcases ty with ⟨rfl, xs, hq⟩ | ⟨rfl, o, hk, hc, hd⟩ | ⟨rfl, hk⟩ | ⟨rfl, S, n, hk⟩
    · obtain ⟨its, _, pl, _⟩ := I.list hq
      refine ⟨pl.isList.typeIs, fun a e => ?_⟩
      cases e
      obtain ⟨o, n, e, c, hd, _⟩ := pl
      exact ⟨o, e, hd⟩
    · refine ⟨⟨o, I.kIn p o hk, hc⟩, fun a e => ?_⟩
      cases e
      exact ⟨o, I.kIn _ o hk, hd⟩
    · have z : ∃ o, s.heap.get? p = some o ∧ o.ExactDict := by
        rcases hk with ⟨kvs, hk⟩ | ⟨kvs, hk⟩
        · obtain ⟨_, _, _, _, o, _, _, e, ex, _⟩ := I.hok p _ hk
          exact ⟨o, e, ex⟩
        · obtain ⟨_, _, _, _, o, _, _, e, ex, _⟩ := I.hok p _ hk
          exact ⟨o, e, ex⟩
      obtain ⟨o, e, ex⟩ := z
      refine ⟨⟨o, e, ex.1⟩, fun a e2 => ?_⟩
      cases e2
      exact ⟨o, e, ex.2.1⟩
    · obtain ⟨o, _, _, _, e, ex, _⟩ := I.hok p _ hk
      refine ⟨⟨o, e, ex.1⟩, fun a e2 => ?_⟩
      cases e2
      exact ⟨o, e, ex.2.1⟩
  | _ => exact False.elim ty
def tBM (K : PySem.W.Frag) (T : String) (r : V → List V → Hp → VK → Prop) (to : TE) (t : TA) : TE := fun σ H Q => to σ H fun x H1 => tyV K T x H1 ∧ t σ H1 fun xs H2 => r x xs H2 Q
variable {o e : Expr} {es : List Expr} {to : TE} {t : TA} {name : Str} {apos cpos : Pos} {T id : String} {r : V → List V → Hp → VK → Prop}
theorem pe_bm (pa : PlainAttrs T) (slot : Slot T name id) (hty : typeOf (.builtin id) = pure (.type "method_descriptor")) (hm : MtR X id r) (ho : PE X o to) (ha : PA X (e :: es) t)
    (hbase : attributeBase o name X.env (eval o X.env) = eval o X.env := by rfl)
    (hfew : ((backTo cpos (starEach (e :: es) X.env)).all (fun x => !x.1) && (backToKw cpos (keywordEach [] X.env)).all (fun x => x.1.isSome)
      && decide ((e :: es).length + ([] : List Keyword).length + (if ([] : List Keyword).isEmpty then 0 else 1) < 30)) = true := by rfl)
    (hline : (apos.endLine == cpos.line) = true := by rfl) (hs : starEach (e :: es) X.env = (false, eval e X.env) :: starEach es X.env := by rfl) (hplain : (backTo cpos (starEach es X.env)).any (·.1) = false := by rfl) :
    PE X (.Call (.Attribute o name apos) (e :: es) [] cpos) (tBM X.K T r to t) := by
  intro pins s σ H Q I h
  refine wpAny_Call_method_late hbase hfew hline rfl (thn (ho pins s σ H _ I h) fun v s1 ⟨x, H1, I1, r1, ty, q1⟩ => ?_)
  obtain ⟨h1, h2⟩ := tyV_is I1 r1 ty
  refine ⟨T, id, pa, slot, hty, h1, h2, ?_⟩
  have hA := ha cpos pins s1 σ H1 _ I1 q1
  rw [hs] at hA ⊢
  refine Calls.callWith_builtin (by show (false || (backTo cpos (starEach es X.env)).any (·.1)) = false; rw [hplain] <;> rfl) (Calls.evalArgs_plain ?_)
  exact thn hA fun us s2 ⟨vs, H2, I2, r2, q2⟩ => hm pins s2 σ H2 x vs v us Q I2 r1 r2 q2
/- xs.append(e), list.index on a module's tuple .. are MtR facts of 06m -/
end
end L2

namespace L2
open PySem PySem.Spec PyProof.Rows

def MtM (X : Cx) (id : String) (r : V → List V → Hp → VK → Prop) : Prop :=
  ∀ (pins : List (Addr × Obj)) (s : Shared) (σ : St) (H : Hp) (x : V) (xs : List V) (v : Value) (us : List Value) (Q : VK), Inv X pins σ H s → RelV x v → Vals xs us → r x xs H Q →
    wpAny (model X.prog X.w) X.A (call (.builtin id) (v :: us)) (EP X pins σ Q) X.xe s

theorem Vals.one : ∀ {x : V} {us : List Value}, Vals [x] us → ∃ u, us = [u] ∧ RelV x u
  | _, _, .cons r .nil => ⟨_, rfl, r⟩
theorem Vals.two : ∀ {x y : V} {us : List Value}, Vals [x, y] us → ∃ u v, us = [u, v] ∧ RelV x u ∧ RelV y v
  | _, _, _, .cons r (.cons q .nil) => ⟨_, _, rfl, r, q⟩
theorem Vals.rep {xs : List V} {us : List Value} (h : Vals xs us) : ∀ k : Nat, Vals (List.replicate k xs).flatten (List.replicate k us).flatten
  | 0 => .nil
  | k + 1 => by
    rw [List.replicate_succ, List.replicate_succ, List.flatten_cons, List.flatten_cons]
    exact Vals.append h (Vals.rep h k)
theorem foldl_rep (its : List Value) : ∀ (k : Nat) (acc : List Value),
    List.foldl (fun x1 x2 => x1 ++ x2) acc.toArray (List.replicate k its.toArray) = (acc ++ (List.replicate k its).flatten).toArray
  | 0, acc => by simp
  | k + 1, acc => by
    have e : acc.toArray ++ its.toArray = (acc ++ its).toArray := by simp
    have e2 : (acc ++ its) ++ (List.replicate k its).flatten = acc ++ (List.replicate (k + 1) its).flatten := by
      rw [List.replicate_succ, List.flatten_cons, List.append_assoc]
    rw [← e2, ← foldl_rep its k (acc ++ its), ← e, List.replicate_succ, List.foldl_cons]

section
variable {X : Cx} {pins : List (Addr × Obj)} {σ : St} {H : Hp} {s : Shared} {l b : Addr} {xs ys zs : List V}

theorem Inv.lset {its its' : List Value} {n : Nat} {f : Array Value → Array Value} {t' : Nat} (I : Inv X pins σ H s) (hH : H l = some (.lst xs))
    (e : s.heap.get? l = some { cls := .type "list", data := .seq its.toArray n }) (hf : f its.toArray = its'.toArray) (hv : Vals ys its') (hz : ys.length ≤ sizeLine) :
    Inv X pins σ (upd H l (.lst ys)) { s with heap := s.heap.update l (Obj.mapSeq f), toks := t' } := by
  have q := PySem.IsL.update e f
  rw [hf] at q
  refine I.write (x := l) (e := l) (by rw [hH]; exact trivial) (.inl rfl) (fun b' u hb hu => (Heap.get?_update_other s.heap (Obj.mapSeq f) (Ne.symm hb)).trans hu) ⟨_, q⟩ ?_
  exact ⟨hz, its', _, hv, q⟩
theorem Inv.lnew {its : List Value} {t' : Nat} (I : Inv X pins σ H s) (hv : Vals ys its) (hz : ys.length ≤ sizeLine) :
    Inv X pins σ (upd H s.heap.objs.size (.lst ys)) { s with heap := s.heap.push { cls := .type "list", data := .seq its.toArray }, toks := t' } :=
  I.laid (fun _ _ q => Heap.get?_push_of_some _ q) (Nat.le_refl _) ⟨hz, its, 0, hv, Heap.get?_push_size _ rfl⟩
theorem Inv.fresh (I : Inv X pins σ H s) : H s.heap.objs.size = none := I.hok.fresh (Nat.le_refl _)
theorem Inv.lstM (I : Inv X pins σ H s) (hH : H l = some (.lst xs)) : xs.length ≤ sizeLine ∧ ∃ (its : List Value) (n : Nat), Vals xs its ∧ xs.length = its.length ∧ s.heap.get? l = some { cls := .type "list", data := .seq its.toArray n } := by
  obtain ⟨z, its, n, r, e⟩ := I.hok l _ hH
  exact ⟨z, its, n, r, r.length, e⟩

theorem notLongL {n : Nat} (h : n ≤ sizeLine) : Builtin.List.listTooLong n = false := by
  unfold Builtin.List.listTooLong
  exact decide_eq_false (by omega)
end

section
variable {X : Cx}

def rAppend : V → List V → Hp → VK → Prop := fun x vs H Q => ∃ l xs y, x = .ref l ∧ vs = [y] ∧ H l = some (.lst xs) ∧ xs.length < sizeLine ∧ Q .non (upd H l (.lst (xs ++ [y])))
theorem mt_append : MtM X "list.append" rAppend := by
  intro pins s σ H x vs v us Q I rx rv h
  obtain ⟨l, xs, y, rfl, rfl, hH, hz, q⟩ := h
  cases rx
  obtain ⟨u, rfl, ru⟩ := rv.one
  obtain ⟨z, its, n, r, hl, e⟩ := I.lstM hH
  refine call_meets F.slot_list_append ⟨_, e, rfl⟩ F.entry_list_append (F.args_list_append_2 _ _) (PySem.list_append l its.toArray n u (by rw [List.size_toArray]; omega)) ⟨e, ?_⟩
  refine ⟨.non, _, I.lset (its' := its ++ [u]) hH e (by simp) (r.append (.cons ru .nil)) ?_, rfl, q⟩
  rw [List.length_append, List.length_singleton]
  omega

def rCat : R2 := fun x y H Q => ∃ l b xs zs, x = .ref l ∧ y = .ref b ∧ H l = some (.lst xs) ∧ H b = some (.lst zs) ∧ xs.length + zs.length ≤ sizeLine ∧ ∀ p, H p = none → Q (.ref p) (upd H p (.lst (xs ++ zs)))
theorem op_cat : OpR X (binaryOp .Add) rCat := by
  intro pins s σ H x y v u Q I rx ry h
  obtain ⟨l, b, xs, zs, rfl, rfl, hH, hB, hz, q⟩ := h
  cases rx
  cases ry
  obtain ⟨z, its, n, r, hl, e⟩ := I.lstM hH
  obtain ⟨z2, its2, n2, r2, hl2, e2⟩ := I.lstM hB
  refine PySem.P.add_list e e2 ?_ (by rw [List.size_toArray, List.size_toArray]; omega)
  have ea : its.toArray ++ its2.toArray = (its ++ its2).toArray := by simp
  rw [ea]
  exact ⟨.ref _, _, I.lnew (t' := s.toks) (r.append r2) (by rw [List.length_append]; omega), rfl, q _ I.fresh⟩
/-- a list times an int (a negative one is nothing) -/
def rRep : R2 := fun x y H Q => ∃ l k xs, x = .ref l ∧ y = .int k ∧ H l = some (.lst xs) ∧ -(2 ^ 63) ≤ k ∧ k < 2 ^ 63 ∧ xs.length * k.toNat ≤ sizeLine ∧
  ∀ p, H p = none → Q (.ref p) (upd H p (.lst (List.replicate k.toNat xs).flatten))
theorem len_rep {α : Type} (xs : List α) (k : Nat) : (List.replicate k xs).flatten.length = k * xs.length := by
  induction k with
  | zero => simp
  | succ k ih => rw [List.replicate_succ, List.flatten_cons, List.length_append, ih, Nat.succ_mul, Nat.add_comm]
theorem op_rep : OpR X (binaryOp .Mult) rRep := by
  intro pins s σ H x y v u Q I rx ry h
  obtain ⟨l, k, xs, rfl, rfl, hH, h1, h2, hz, q⟩ := h
  cases rx
  obtain ⟨t, rfl⟩ := ry
  obtain ⟨z, its, n, r, hl, e⟩ := I.lstM hH
  have hlen : its.toArray.size * k.toNat ≤ sizeLine := by rw [List.size_toArray, ← hl]; exact hz
  have hcap : ¬ its.toArray.size * k.toNat > (2 ^ 63 - 1) / 8 := by
    have : (sizeLine : Nat) ≤ (2 ^ 63 - 1) / 8 := by decide
    omega
  have hfit : ¬ (!Builtin.List.listFitsIndex k) = true := by
    rw [fitsIndex_both h1 h2]
    exact Bool.false_ne_true
  have hlong : ¬ Builtin.List.listTooLong (its.toArray.size * k.toNat) = true := by
    rw [notLongL hlen]
    exact Bool.false_ne_true
  have hnew : List.foldl (fun x1 x2 => x1 ++ x2) #[] (List.replicate (if its.toArray.isEmpty = true then 0 else k.toNat) its.toArray) = (List.replicate k.toNat its).flatten.toArray := by
    have f0 : ∀ m : Nat, List.foldl (fun x1 x2 => x1 ++ x2) #[] (List.replicate m its.toArray) = (List.replicate m its).flatten.toArray := fun m => by
      have := foldl_rep its m []
      rw [List.nil_append] at this
      exact this
    rw [f0]
    cases its with
    | nil => simp
    | cons a r' => rw [if_neg (by simp)]
  refine wpAny_binaryOp_repeat_ref (T := "list") (U := "int") (by decide) ⟨_, e, rfl⟩ (fun s' => typeIs_int s' k t) noFill_list_mul F.fills_int_mul F.slot_int_rmul repeat_list F.slot_int_index.lookup
    (call_meets F.slot_int_rmul (typeIs_int s k t) F.entry_int_rmul (F.args_int_rmul_2 _ _) (int___rmul___int_list k t l its.toArray n)
      ⟨e, rfl, ⟨_, e, rfl⟩, call_meets F.slot_list_mul ⟨_, e, rfl⟩ F.entry_list_mul (F.args_list_mul_2 _ _) (AutoListH.list___mul___list_int_3 l its.toArray n k t hfit hcap hlong) ⟨e, ?_⟩⟩)
  rw [hnew]
  exact ⟨.ref _, _, I.lnew (t' := s.toks) (r.rep k.toNat) (by rw [len_rep, Nat.mul_comm]; exact hz), rfl, q _ I.fresh⟩

end

section
variable {prog : Program} {w : World} {A : Around} {E : Value → Shared → Prop} {s : Shared}
end

section
variable {X : Cx}
end
end L2

namespace Att
open PySem PySem.W PySem.Calls PyProof.Rows

theorem ints_of_wellAll {P : Params} {h : Heap} : ∀ (ns : List Int) (vs : List Value), WellAll P h vs (ns.map WData.int) → IntsAre vs ns := by
  intro ns
  induction ns with
  | nil =>
    intro vs w
    rw [List.map_nil] at w
    cases w
    exact .nil
  | cons n ns ih =>
    intro vs w
    rw [List.map_cons] at w
    cases w with
    | cons a b =>
      cases a
      exact .cons _ _ (ih _ b)

theorem script_of {l : OpenLaw} {n : Nat} (hn : l.most = some n) {P : Params} {h : Heap} {args : List WData} {vals : List Value}
    (hpre : l.row.toRowW.claim.pre args = true) (hwl : WellAll P h vals args) :
    ∃ a vs ns, vals = [Value.ref a] ∧ args = [WData.list (ns.map WData.int)] ∧ h.get? a = some { cls := .type "list", data := .seq vs.toArray } ∧ IntsAre vs ns ∧ ns.length ≤ n := by
  have hsh : WShape.hasAll [] args [.list .int] = true := (pre_splitW hpre).1
  have hc : l.pre.holds [] { args := args } = true := (pre_splitW hpre).2
  obtain ⟨d, r, rfl, h1, h2⟩ := hasAllW_cons hsh
  obtain rfl := hasAllW_nil h2
  obtain ⟨xs, rfl, h3⟩ := hasW_list h1
  obtain ⟨ns, rfl⟩ := items_int h3
  have hlen : ns.length ≤ n := by
    unfold OpenLaw.pre at hc
    have h4 : (WTm.not (.lt (.lit (.int (n : Int))) (.len (.arg 0)))).holds [] { args := [.list (ns.map .int)] } = true := by
      have h4 := (holds_andW hc).1
      rw [hn] at h4
      exact h4
    have h5 := condW_of h4 (w_not (w_lt w_lit (w_len_list (w_arg rfl))))
    rw [List.length_map] at h5
    refine Nat.le_of_not_lt fun q => ?_
    have q' : (n : Int) < ((ns.length : Nat) : Int) := by omega
    first
      | (rw [decide_eq_true q'] at h5; exact absurd h5 (by decide))
      | (simp at h5; omega)
  cases hwl with
  | cons w1 w2 =>
    cases w2
    cases w1 with
    | list ho hall => exact ⟨_, _, ns, rfl, rfl, ho, ints_of_wellAll ns _ hall, hlen⟩

theorem post_true (l : OpenLaw) (args : List WData) : l.row.toRowW.claim.post args (.bool true) args = true :=
  postW_of (r := l.row.toRowW) (X := (true == true))
    (show WShape.has [] (.bool true) .bool = true by first | rfl | decide | simp [WShape.has, WShape.arms, WShape.armsAll])
    (show (WTm.eq .res (.lit (.bool true))).value [] { args := args, res := some (.bool true), after := args } = some (.bool (true == true)) from w_eq_bool (w_res rfl) w_lit) rfl

/-- the same from a codeAny of the CALL (for a layer whose function contracts speak of calls) -/
theorem attach_call {l : OpenLaw} {n : Nat} {q : Program} {loose : List Str} {XP : (Str → Option Value) → Heap → Prop} {YP : World → Heap → Prop} {d : DefRec}
    (hn : l.most = some n) (hdf : d.params.defaults = [])
    (call : ∀ (w : World) (s₀ s₁ : Shared) (mg mb : Str → Option Value) (fa : Addr) (o : Obj) (pm cd doc : Value) (a : Addr) (vs : List Value) (ns : List Int),
      Ground q loose [] XP w s₀ mg mb s₁.heap → YP w s₁.heap →
      s₁.heap.get? fa = some o → o.data = .func (docDef d.name d.params d.body d.scope pm cd doc) → s₁.heap.CodeRec cd d.name → mg d.name = some (.ref fa) →
      s₁.heap.get? a = some { cls := .type "list", data := .seq vs.toArray } → IntsAre vs ns → ns.length ≤ n → s₁.gens = #[] →
      codeAny (model l.prog w) callerA (.call (.ref fa) ⟨[.ref a], []⟩) (fun r s' => r = .ok (.ret (.bool true)) ∧ OldK s₁.heap s'.heap ∧ s'.os = s₁.os ∧ AllBare s'.gens) s₁) :
    WalkO q loose XP YP l.row.toRowW d [] (fun f vs => PySem.call f vs) := by
  intro w s₀ s₁ mg mb G Y fa o pm cd doc dV kV ho hd hcd hD hmg hg args vals as hpre hlay hrd hwl hlo
  obtain rfl : dV = .none := Dflts.none hD hdf
  obtain rfl : kV = .none := Dflts.noKw hD
  obtain ⟨a, vs, ns, rfl, rfl, hobj, hints, hlen⟩ := script_of hn hpre hwl
  refine enter_call (codeAny_mono (call w s₀ s₁ mg mb fa o pm cd doc a vs ns G Y ho (fd_plain hd) hcd hmg hobj hints hlen hg) fun r s' hq => ?_)
  obtain ⟨rfl, h2, h3, h4⟩ := hq
  exact ⟨.inl ⟨.bool true, .bool true, [], rfl, fun _ => rfl, .bool true, post_true l _, fun _ => ⟨List.Pairwise.nil, fun _ hm => (nomatch hm)⟩⟩, h2, h3, h4⟩

section
variable {prog : Program} {w : World} {A : Around} {E : Value → Shared → Prop} {s : Shared} {K : Frag}

end
end Att

namespace L2
open PySem PySem.Spec PyProof.Rows

theorem vals_ints : ∀ {vs : List Value} {ns : List Int}, IntsAre vs ns → Vals (ns.map V.int) vs
  | _, _, .nil => .nil
  | _, _, .cons n t h => .cons ⟨t, rfl⟩ (vals_ints h)

/-- nothing is tracked but the script, known to the object (or it is an object of the module) -/
def Only (H : Hp) : Prop := ∀ b, H b = none ∨ ∃ o xs, H b = some (.frz o (.lst xs))

/-- THE HEAD: the law's promise, at the heap behind the top. F, the promise of the law's def, may use that base is part of the heap (so K.In base, base.Ns mainGlobals mg stand in Mod) -/
theorem law_call {P : Program} {w : World} {K : PySem.W.Frag} {mg mb : Str → Option Value} {CX : CXT} {k : Nat} {fa a : Addr} {fd : FuncData} {x : Str} {sp : Sp} {s₁ : Shared} {vs : List Value} {ns : List Int}
    (KX : K.In s₁.heap) (hns : s₁.heap.Ns mainGlobals mg) (hb : s₁.heap.Ns builtinsNs mb) (hbb : ∀ x : Str, x ≠ "__name__" → mb x = bootBuiltins x) (hlim : s₁.heap.NoLimit) (hg : s₁.gens = #[])
    (ha : s₁.heap.get? a = some { cls := .type "list", data := .seq vs.toArray }) (hi : IntsAre vs ns) (hl : ns.length ≤ sizeLine) (hr : Room k callerA)
    (F : ∀ base : Heap, K.In base → base.Ns mainGlobals mg → FnOk P w K mg base CX k fa fd [x] sp) (hbind : ∀ (s : Shared) (u : Value), BindsTo s fd ⟨[u], []⟩ [(x, u)])
    (hsp : ∀ H : Hp, Only H → SqL K H a (ns.map V.int) → sp [.ref a] H (fun v _ => v = .bl true) fun _ _ _ => False)
    (hCX : ∀ H e s', CX [] H s₁ (fun _ _ _ => False) e s' → False) :
    codeAny (model P w) callerA (.call (.ref fa) ⟨[.ref a], []⟩) (fun r s' => r = .ok (.ret (.bool true)) ∧ OldK s₁.heap s'.heap ∧ s'.os = s₁.os ∧ AllBare s'.gens) s₁ := by
  have rv := vals_ints hi
  have lenV := hi.length
  -- from an abstract heap in which nothing but the script may be tracked
  have core : ∀ H : Hp, Only H → SqL K H a (ns.map V.int) → HOk P w H s₁.heap → (∀ b, H b ≠ none → b = a) → (H a ≠ none → K.lookup a = none) →
      codeAny (model P w) callerA (.call (.ref fa) ⟨[.ref a], []⟩) (fun r s' => r = .ok (.ret (.bool true)) ∧ OldK s₁.heap s'.heap ∧ s'.os = s₁.os ∧ AllBare s'.gens) s₁ := by
    intro H hO hS hok hA hK
    have base_of : ∀ {b : Addr} {o : Obj}, s₁.heap.get? b = some o → H b = none → (hidT s₁.heap H).get? b = some o := fun e n => hidT_get e n
    have noA : ∀ {b : Addr} {o : Obj} {es : Array DictEntry} {ep : Nat}, s₁.heap.get? b = some o → o.data = .dict es ep → H b = none := fun {b o es ep} e d => by
      cases q : H b with
      | none => rfl
      | some u =>
        have e' : b = a := hA b (by rw [q]; simp)
        subst e'
        rw [ha] at e; cases e
        have d' : Data.seq vs.toArray _ = Data.dict es ep := d
        cases d'
    have nsK : ∀ {b : Addr} {m : Str → Option Value}, s₁.heap.Ns b m → (hidT s₁.heap H).Ns b m := fun {b m} ⟨o, es, ep, e, d, r⟩ => ⟨o, es, ep, base_of e (noA e d), d, r⟩
    have hKb : K.In (hidT s₁.heap H) := fun b o e => base_of (KX b o e) (by
      cases q : H b with
      | none => rfl
      | some u =>
        have e' : b = a := hA b (by rw [q]; simp)
        subst e'
        rw [hK (by rw [q]; simp)] at e; cases e)
    have hM : Mod K mg (hidT s₁.heap H) := ⟨hKb, nsK hns, ⟨mb, nsK hb, hbb⟩, let ⟨mc, h1, h2⟩ := hlim; ⟨mc, nsK h1, h2⟩⟩
    have e0 : Env0 P w K mg (hidT s₁.heap H) callerA [] s₁ H := ⟨rfl, hM, fun b o e => of_hidT e, Nat.le_of_eq (hidT_size _ _), trivial, fun b hb => absurd (show b ∈ ([] : List Addr) from hb) (by simp), hok, .of_eq hg⟩
    refine codeAny_mono ((F _ hKb (nsK hns)).run callerA [] s₁ H ⟨[.ref a], []⟩ [.ref a] [.ref a] _ _ hr e0 (hbind s₁ (.ref a)) (.cons rfl .nil) (hsp H hO hS)) fun r s' h => ?_
    cases r with
    | error e => exact (hCX H e s' h).elim
    | ok fl =>
      cases fl with
      | next => exact False.elim h
      | brk => exact False.elim h
      | cont => exact False.elim h
      | ret u =>
        obtain ⟨v, H', os, bare, un, hok', r', q⟩ := h
        have q' : v = .bl true := q
        subst q'
        obtain rfl : u = Value.bool true := r'
        refine ⟨rfl, OldK.of_keep fun b o e => ?_, os, bare⟩
        cases q : H b with
        | none => exact un.keep b o e q (by intro z; exact absurd (show b ∈ ([] : List Addr) from z) (by simp)) (by simp)
        | some u =>
          rcases hO b with z | ⟨ob, xs, z⟩
          · rw [q] at z; cases z
          · have z2 := un.frzs b ob _ z
            obtain ⟨e1, _⟩ := hok b _ z
            obtain ⟨e2, _⟩ := hok' b _ z2
            rw [e] at e1; cases e1
            exact e2
  cases hk : K.lookup a with
  | some o =>
    -- the script is one of the module's own objects
    have e := KX a o hk
    rw [ha] at e
    cases e
    refine core (fun _ => none) (fun _ => .inl rfl) (.inr ⟨_, vs.toArray, _, hk, rfl, rfl, rfl, by rw [List.size_toArray, lenV]; exact hl, by simpa using rv⟩) (fun b u z => by have z' : (none : Option HO) = some u := z; cases z') (fun b z => absurd rfl z) fun z => absurd rfl z
  | none =>
    refine core (fun b => if b = a then some (.frz { cls := .type "list", data := .seq vs.toArray } (.lst (ns.map V.int))) else none) (fun b => ?_) (.inl (.inr ⟨{ cls := .type "list", data := .seq vs.toArray }, if_pos rfl⟩)) (fun b u z => ?_) (fun b z => ?_) fun _ => hk
    · by_cases hb : b = a
      · exact .inr ⟨_, _, if_pos hb⟩
      · exact .inl (if_neg hb)
    · by_cases hb : b = a
      · have z' := (if_pos hb).symm.trans z
        cases z'
        subst hb
        exact ⟨ha, by rw [List.length_map]; exact hl, vs, _, rv, ha⟩
      · have z' := (if_neg hb).symm.trans z
        cases z'
    · by_cases hb : b = a
      · exact hb
      · exact absurd (if_neg hb) z
end L2

namespace L2
open PySem PySem.Spec PyProof.Rows

/-- the goal that k_head leaves (case hc), from the law's promise. F gives the function object fd (K's own) once, then the promise over every base -/
theorem walk_of {l : PySem.W.OpenLaw} {n k : Nat} {q : Program} {loose : List Str} {XP : (Str → Option Value) → Heap → Prop} {YP : World → Heap → Prop} {d : DefRec} {K : Params → PySem.W.Frag} {CX : World → CXT} {sp : World → Sp} {x : Str}
    (hn : l.most = some n) (hn2 : n ≤ sizeLine) (hdf : d.params.defaults = []) (hr : Room k callerA)
    (hY : ∀ (w : World) (h : Heap), YP w h → (K w.params).In h)
    (F : ∀ (w : World) (mg : Str → Option Value) (fa : Addr) (h : Heap), (K w.params).In h → h.Ns mainGlobals mg → mg d.name = some (.ref fa) →
      ∃ fd : FuncData, (∀ (s : Shared) (u : Value), BindsTo s fd ⟨[u], []⟩ [(x, u)]) ∧
        ∀ base : Heap, (K w.params).In base → base.Ns mainGlobals mg → FnOk l.prog w (K w.params) mg base (CX w) k fa fd [x] (sp w))
    (hsp : ∀ (w : World) (H : Hp) (a : Addr) (ns : List Int), ns.length ≤ n → Only H → SqL (K w.params) H a (ns.map V.int) → sp w [.ref a] H (fun v _ => v = .bl true) fun _ _ _ => False)
    (hCX : ∀ (w : World) (H : Hp) (s : Shared) (e : Value) (s' : Shared), CX w [] H s (fun _ _ _ => False) e s' → False) :
    PySem.W.WalkO q loose XP YP l.row.toRowW d [] (fun f vs => PySem.call f vs) := by
  refine Att.attach_call hn hdf fun w s₀ s₁ mg mb fa o pm cd doc a vs ns G Y ho hd hcd hmg hobj hints hlen hg => ?_
  have KX := hY w _ Y
  obtain ⟨fd, hb, hF⟩ := F w mg fa _ KX G.T.g hmg
  exact law_call KX G.T.g G.T.b G.T.builtins G.T.nolimit hg hobj hints (Nat.le_trans hlen hn2) hr hF hb (fun H hO hS => hsp w H a ns hlen hO hS) fun H e s' => hCX w H s₁ e s'
end L2

/- THE LAST THEOREM (shape; LID, My.* are yours):
   My.Adr: a structure of the addresses that your layer names (classes, functions); My.Txt K t: a structure (Prop) of the equations over K;
   My.txt_mk : {K} {implicit addresses ..} (e1 : nsIn K mainGlobals "law" = some (some (.ref f))) (e2 : K.lookup f = some ⟨oc, od, .func (fnOf "law" "law" params body scope dV kV doc pm an cdv ct), sl⟩) (e3 : codeIn K cdv "law" = true) .. : ∃ t, My.Txt K t

set_option maxRecDepth 100000 in
set_option maxHeartbeats 0 in
theorem PySem.Challenge.cw_LID_holds : PySem.Challenge.rw_LID.Holds := by
  w_on; o_law; k_head; (case hw => w_witness2)
  k_fill
  refine L2.walk_of (l := PySem.Challenge.rw_LID) (n := 63) (k := 40) (x := "script") (CX := fun w => ..) (sp := fun _ => My.sp_law) rfl (by decide) rfl ⟨rfl, by decide, by decide⟩ (fun w h Y => PySem.W.kIn_of Y) ?F ?S ?C
  case F =>
    intro w mg fa h KX G hmg
    have T : ∃ t, My.Txt (L2.KOf KX) t := by
      dsimp only [L2.KOf]                          -- K must stand as «<heap const> w.params» for k_is
      refine' My.txt_mk ?e1 ?e2 ?e3 ..
      (case e1 => PySem.W.k_is)                    -- in the order: a name -> its address -> its object -> its parts
      (case e2 => PySem.W.k_is)
      ..
    obtain ⟨t, T⟩ := T
    have e0 := hmg.symm.trans (PySem.W.mg_of KX G T.law)
    cases e0                                       -- fa is the law's own address
    exact ⟨_, fun s u => .of_eq rfl, fun base kb nb => My.law_fn T kb nb⟩     -- if «.of_eq rfl» comes too early: refine' ⟨_, ?b, fun base kb nb => My.law_fn T kb nb⟩; exact fun s u => .of_eq rfl
  case S => exact fun w H a ns hl hO hS => ..
  case C => exact ..
(the tactic k_is has no namespace: write k_is) -/

namespace L2
open PySem PySem.Spec PyProof.Rows

/-- the j-th statement of a class's body -/
def inClass (s : Stmt) (j : Nat) : Stmt := match s with
  | .ClassDef _ _ _ body _ _ _ _ _ _ _ => body.getD j (.Pass ⟨0, 0, 0, 0⟩)
  | _ => .Pass ⟨0, 0, 0, 0⟩
def defArgs (s : Stmt) : Arguments := match s with
  | .FunctionDef _ a _ _ _ _ _ _ _ _ => a
  | _ => { posonlyargs := [], args := [], vararg := none, kwonlyargs := [], kw_defaults := [], kwarg := none, defaults := [] }
def defBody (s : Stmt) : List Stmt := match s with
  | .FunctionDef _ _ b _ _ _ _ _ _ _ => b
  | _ => []
def defScope (s : Stmt) : Scope := match s with
  | .FunctionDef _ _ _ _ _ _ sc _ _ _ => sc
  | _ => { kind := .function, names := [], isGenerator := false, isCoroutine := false }

abbrev CX0 : CXT := fun _ _ _ _ _ _ => False
abbrev E0 : XK := fun _ _ _ => False
theorem pass0 {X : Cx} : Passes CX0 X E0 := fun _ _ _ _ _ _ _ h => h.elim

structure Fun (K : PySem.W.Frag) (x qual : Str) (st : Stmt) (f : Addr) (fd : FuncData) : Prop where
  ex : ∃ (oc : Value) (od : Option Addr) (kV doc pm : Value) (an : Option Addr) (cdv ct : Value) (osl : Array (Option Value)),
    fd = PySem.W.fnOf x qual (defArgs st) (defBody st) (defScope st) .none kV doc pm an cdv ct ∧ K.lookup f = some ⟨oc, od, .func fd, osl⟩ ∧ PySem.W.codeIn K cdv qual = true
  kp : PySem.W.keepIn K (.ref f) = true
section
variable {P : Program} {w : World} {K : PySem.W.Frag} {mg : Str → Option Value} {base : Heap}
/-- THE RULE for a def: its body as a term of rules, and the reading of that term -/
theorem Fun.ok {x qual : Str} {st : Stmt} {f : Addr} {fd : FuncData} {N ps : List Str} {k : Nat} {sp : Sp} (F : Fun K x qual st f fd) (S : FnScope N ps (defScope st)) (len : ∀ vs H Q E, sp vs H Q E → vs.length = ps.length)
    (hbody : ∀ (cdv : Value) (A : Around) (outer : List Env) (s : Shared) (H : Hp) (vs : List V) (Q : VK) (E : XK), Room k (A.deeper (envOfC qual (defScope st) s.heap.objs.size f cdv)) → sp vs H Q E →
      ∃ t, PSs (cxOf CX0 P w K mg base N qual (defScope st) f cdv A outer s H E).nox (defBody st) t ∧ t { nx := fun _ H' => Q .non H', rt := Q } (start N vs) H) : FnOk P w K mg base CX0 (k + 1) f fd ps sp := by
  obtain ⟨oc, od, kV, doc, pm, an, cdv, ct, osl, rfl, lk, hcd⟩ := F.ex
  refine fn_of lk hcd S len fun A outer s H vs Q E hr hsp => ?_
  obtain ⟨t, h, q⟩ := hbody cdv A outer s H vs Q E hr hsp
  exact ⟨t, h.nox, q⟩
/-- how its arguments bind (no defaults): h is «fun _ _ _ _ _ _ us hl => match us, hl with | [_, _], _ => rfl», one _ a parameter -/
theorem Fun.binds {x qual : Str} {st : Stmt} {f : Addr} {fd : FuncData} {ps : List Str} (F : Fun K x qual st f fd)
    (h : ∀ (kV doc pm : Value) (an : Option Addr) (cdv ct : Value) (us : List Value), us.length = ps.length → bindArgs (PySem.W.fnOf x qual (defArgs st) (defBody st) (defScope st) .none kV doc pm an cdv ct) ⟨us, []⟩ = pure (ps.zip us)) : Binds K fd ps [] := by
  obtain ⟨oc, od, kV, doc, pm, an, cdv, ct, osl, rfl, lk, hcd⟩ := F.ex
  exact .all (h kV doc pm an cdv ct)
theorem fun_mk {x qual : Str} {st : Stmt} {f : Addr} {oc : Value} {od an : Option Addr} {osl : Array (Option Value)} {kV doc pm cdv ct : Value} (l : K.lookup f = some ⟨oc, od, .func (PySem.W.fnOf x qual (defArgs st) (defBody st) (defScope st) .none kV doc pm an cdv ct), osl⟩)
    (c : PySem.W.codeIn K cdv qual = true) (k : PySem.W.keepIn K (.ref f) = true) : Fun K x qual st f (PySem.W.fnOf x qual (defArgs st) (defBody st) (defScope st) .none kV doc pm an cdv ct) := ⟨⟨oc, od, kV, doc, pm, an, cdv, ct, osl, rfl, l, c⟩, k⟩
end
theorem small1000 {n : Nat} (h : n ≤ 1000) : n < sizeLine := Nat.lt_of_le_of_lt h (by decide)

section
variable {X : Cx}
theorem pv (i : Nat) {x : Str} {pos : Pos} (hN : X.N[i]? = some x := by rfl) (hv : Vis X.env.scope x := by first | exact Or.inl rfl | exact Or.inr (Or.inl rfl) | exact Or.inr (Or.inr rfl)) (hd : (x == ("__debug__" : Str)) = false := by decide)
    (hcd : (x == ("__classdict__" : Str)) = false := by decide) : PE X (.Name x pos) (tVar i) := pe_var hN hv hd hcd
end

theorem iteF {A B : Prop} (h : B) : if false = true then A else B := by
  rw [if_neg Bool.false_ne_true]
  exact h
theorem iteT {A B : Prop} (h : A) : if true = true then A else B := by
  rw [if_pos rfl]
  exact h
theorem ite2 {c A B : Prop} [Decidable c] (h1 : c → A) (h2 : ¬ c → B) : if c then A else B := by
  by_cases h : c
  · rw [if_pos h]
    exact h1 h
  · rw [if_neg h]
    exact h2 h
theorem iteNS {c A B : Prop} [Decidable c] (hc : c) (h : B) : if (!decide c) = true then A else B := by
  rw [decide_eq_true hc]
  exact iteF h

/-- all that was tracked is as it was -/
def Same (H H' : Hp) : Prop := ∀ b o, H b = some o → H' b = some o
theorem Same.refl (H : Hp) : Same H H := fun _ _ h => h
theorem Same.trans {H H1 H2 : Hp} (a : Same H H1) (b : Same H1 H2) : Same H H2 := fun c o h => b c o (a c o h)
theorem Same.free {H H' : Hp} (e : Same H H') {l : Addr} (h : H' l = Option.none) : H l = Option.none := by
  cases q : H l with
  | none => rfl
  | some o =>
    rw [e l o q] at h
    cases h
theorem Same.seq {K : PySem.W.Frag} {H H' : Hp} {a : Addr} {xs : List V} (e : Same H H') (h : SqL K H a xs) : SqL K H' a xs := by
  rcases h with (h | ⟨o, h⟩) | h
  · exact .inl (.inl (e _ _ h))
  · exact .inl (.inr ⟨o, e _ _ h⟩)
  · exact .inr h

end L2

set_option Elab.async false
set_option linter.all false
set_option maxRecDepth 100000
set_option maxHeartbeats 4000000
namespace L2
open PySem PySem.Spec PyProof.Rows

section
variable {κ : Type} [DecidableEq κ]
def valV (kvs : List (κ × V)) (k : κ) : Option V := (kvs.find? fun kv => decide (kv.1 = k)).map (·.2)
/-- in its place, or at the end -/
def putK (kvs : List (κ × V)) (k : κ) (v : V) : List (κ × V) :=
  if (kvs.any fun kv => decide (kv.1 = k)) = true then kvs.map (fun kv => if kv.1 = k then (kv.1, v) else kv) else kvs ++ [(k, v)]
theorem valV_nil {k : κ} : valV ([] : List (κ × V)) k = none := rfl
theorem valV_pos {p : κ × V} {r : List (κ × V)} {k : κ} (e : p.1 = k) : valV (p :: r) k = some p.2 := by simp [valV, List.find?_cons, e]
theorem valV_neg {p : κ × V} {r : List (κ × V)} {k : κ} (e : ¬ p.1 = k) : valV (p :: r) k = valV r k := by simp [valV, List.find?_cons, e]
theorem valV_any (k : κ) : ∀ kvs : List (κ × V), (kvs.any fun kv => decide (kv.1 = k)) = (valV kvs k).isSome
  | [] => rfl
  | p :: r => by
    rw [List.any_cons]
    by_cases e : p.1 = k
    · simp only [valV_pos e, decide_eq_true e, Bool.true_or, Option.isSome_some]
    · rw [valV_neg e, decide_eq_false e, Bool.false_or]; exact valV_any k r
theorem valV_map (k j : κ) (y : V) : ∀ kvs : List (κ × V), valV (kvs.map fun kv => if kv.1 = k then (kv.1, y) else kv) j = (valV kvs j).map fun x => if j = k then y else x
  | [] => rfl
  | p :: r => by
    have ih := valV_map k j y r
    rw [List.map_cons]
    by_cases h : p.1 = k
    · rw [if_pos h]
      by_cases e : p.1 = j
      · rw [valV_pos (p := (p.1, y)) e, valV_pos e, Option.map_some, if_pos (e.symm.trans h)]
      · rw [valV_neg (p := (p.1, y)) e, valV_neg e, ih]
    · rw [if_neg h]
      by_cases e : p.1 = j
      · rw [valV_pos (p := p) e, valV_pos e, Option.map_some, if_neg (fun z => h (e.trans z))]
      · rw [valV_neg (p := p) e, valV_neg e, ih]
theorem valV_snoc (k j : κ) (y : V) : ∀ kvs : List (κ × V), valV kvs k = none → valV (kvs ++ [(k, y)]) j = if j = k then some y else valV kvs j
  | [], _ => by
    by_cases e : k = j
    · rw [if_pos e.symm]; exact valV_pos (p := (k, y)) e
    · rw [if_neg (fun z => e z.symm)]; exact valV_neg (p := (k, y)) e
  | p :: r, hn => by
    rw [List.cons_append]
    have hk : ¬ p.1 = k := fun z => by rw [valV_pos z] at hn; cases hn
    rw [valV_neg hk] at hn
    have ih := valV_snoc k j y r hn
    by_cases e : p.1 = j
    · rw [valV_pos e, valV_pos e, if_neg (fun z => hk (e.trans z))]
    · rw [valV_neg e, valV_neg e, ih]
theorem valV_put (kvs : List (κ × V)) (k j : κ) (y : V) : valV (putK kvs k y) j = if j = k then some y else valV kvs j := by
  unfold putK
  by_cases a : (kvs.any fun kv => decide (kv.1 = k)) = true
  · rw [if_pos a, valV_map]
    rw [valV_any] at a
    by_cases e : j = k
    · obtain ⟨x, hx⟩ := Option.isSome_iff_exists.mp a
      rw [if_pos e, e, hx, Option.map_some, if_pos rfl]
    · rw [if_neg e]
      cases valV kvs j with
      | none => rfl
      | some x => rw [Option.map_some, if_neg e]
  · rw [if_neg a]
    refine valV_snoc k j y kvs ?_
    rw [valV_any] at a
    cases q : valV kvs k with
    | none => rfl
    | some x => rw [q] at a; exact (a rfl).elim
theorem length_putK (kvs : List (κ × V)) (k : κ) (v : V) : (putK kvs k v).length ≤ kvs.length + 1 := by
  unfold putK
  split
  · rw [List.length_map]; omega
  · rw [List.length_append, List.length_cons, List.length_nil]; omega
theorem RelO.isSome_eq {o : Option V} {u : Option Value} (r : RelO o u) : o.isSome = u.isSome := by
  cases o with
  | none => cases u with
    | none => rfl
    | some _ => exact (show False from r).elim
  | some _ => cases u with
    | none => exact (show False from r).elim
    | some _ => rfl
/-- raw tables of the same keys -/
theorem KV.val {kvs : List (κ × V)} {vs : List (κ × Value)} (r : KV kvs vs) (k : κ) : RelO (valV kvs k) (valueAt vs k) := by
  unfold KV at r
  induction r with
  | nil => exact True.intro
  | @cons p q ps qs h t ih =>
    obtain ⟨h1, h2⟩ := h
    by_cases e : p.1 = k
    · have e' : q.1 = k := h1.symm.trans e
      have b : valueAt (q :: qs) k = some q.2 := by simp [valueAt, List.find?_cons, e']
      rw [valV_pos e, b]; exact h2
    · have e' : ¬ q.1 = k := fun z => e (h1.trans z)
      have b : valueAt (q :: qs) k = valueAt qs k := by simp [valueAt, List.find?_cons, e']
      rw [valV_neg e, b]; exact ih
theorem KV.any {kvs : List (κ × V)} {vs : List (κ × Value)} (r : KV kvs vs) (k : κ) : (kvs.any fun kv => decide (kv.1 = k)) = vs.any fun kv => decide (kv.1 = k) := by
  unfold KV at r
  induction r with
  | nil => rfl
  | cons h t ih => rw [List.any_cons, List.any_cons, ih, h.1]
theorem KV.repl {kvs : List (κ × V)} {vs : List (κ × Value)} (r : KV kvs vs) (k : κ) {y : V} {u : Value} (ry : RelV y u) :
    KV (kvs.map fun kv => if kv.1 = k then (kv.1, y) else kv) (vs.map fun kv => if kv.1 = k then (kv.1, u) else kv) := by
  unfold KV at r ⊢
  induction r with
  | nil => exact .nil
  | @cons p q ps qs h t ih =>
    rw [List.map_cons, List.map_cons]
    refine .cons ?_ ih
    obtain ⟨h1, h2⟩ := h
    by_cases e : p.1 = k
    · rw [if_pos e, if_pos (h1.symm.trans e)]; exact ⟨h1, ry⟩
    · rw [if_neg e, if_neg (fun z => e (h1.trans z))]; exact ⟨h1, h2⟩
theorem KV.put {kvs : List (κ × V)} {vs : List (κ × Value)} (r : KV kvs vs) (k : κ) {y : V} {u : Value} (ry : RelV y u) : KV (putK kvs k y) (stored vs k u) := by
  unfold putK stored
  rw [r.any k]
  by_cases e : (vs.any fun kv => decide (kv.1 = k)) = true
  · rw [if_pos e, if_pos e]; exact r.repl k ry
  · rw [if_neg e, if_neg e]; exact Paired.snoc r ⟨rfl, ry⟩
theorem KV.length {kvs : List (κ × V)} {vs : List (κ × Value)} (r : KV kvs vs) : kvs.length = vs.length := Paired.length r
end


theorem kV_is {P : Program} {w : World} {k : Key} {u : Value} (r : RelV (kV k) u) : (mixKind P w).is k u = true := by
  cases k with
  | inl i => obtain ⟨t, e⟩ := (show ∃ t, u = Value.int i t from r); subst e; exact mixKind_int P w i t
  | inr x => obtain ⟨t, e⟩ := (show ∃ t, u = Value.str x t from r); subst e; exact mixKind_str P w x t
theorem items_are {P : Program} {w : World} : ∀ {ks : List Key} {us : List Value}, Vals (ks.map kV) us → ItemsAre (mixKind P w) ks us
  | [], _, r => by rw [List.map_nil] at r; cases r; exact .nil
  | k :: ks, _, r => by
    rw [List.map_cons] at r
    cases r with
    | cons h t => exact .cons (kV_is h) (items_are t)

/-- raw entries of a dict with tuple keys -/
abbrev KT (H : Hp) : List (List Key × V) → List (List Key × Addr × Value) → Prop := Paired fun p q => p.1 = q.1 ∧ H q.2.1 = some (.tup (p.1.map kV)) ∧ RelV p.2 q.2.2
theorem KT.val {H : Hp} {kvs : List (List Key × V)} {xs : List (List Key × Addr × Value)} (r : KT H kvs xs) (k : List Key) : RelO (valV kvs k) ((atKey xs k).map (·.2)) := by
  induction r with
  | nil => exact True.intro
  | @cons p q ps qs h t ih =>
    obtain ⟨h1, _, h2⟩ := h
    by_cases e : p.1 = k
    · have e' : q.1 = k := h1.symm.trans e
      have b : atKey (q :: qs) k = some q.2 := by simp [atKey, List.find?_cons, e']
      rw [valV_pos e, b]; exact h2
    · have e' : ¬ q.1 = k := fun z => e (h1.trans z)
      have b : atKey (q :: qs) k = atKey qs k := by simp [atKey, List.find?_cons, e']
      rw [valV_neg e, b]; exact ih
theorem KT.repl {H : Hp} {kvs : List (List Key × V)} {xs : List (List Key × Addr × Value)} (r : KT H kvs xs) (k : List Key) {y : V} {u : Value} (ry : RelV y u) :
    KT H (kvs.map fun kv => if kv.1 = k then (kv.1, y) else kv) (xs.map (putAt k u)) := by
  induction r with
  | nil => exact .nil
  | @cons p q ps qs h t ih =>
    rw [List.map_cons, List.map_cons]
    refine .cons ?_ ih
    obtain ⟨h1, h2, h3⟩ := h
    unfold putAt
    by_cases e : p.1 = k
    · rw [if_pos e, if_pos (h1.symm.trans e)]; exact ⟨h1, h2, ry⟩
    · rw [if_neg e, if_neg (fun z => e (h1.trans z))]; exact ⟨h1, h2, h3⟩
theorem KT.put {H : Hp} {kvs : List (List Key × V)} {xs : List (List Key × Addr × Value)} (r : KT H kvs xs) (k : List Key) {b : Addr} {y : V} {u : Value} (hb : H b = some (.tup (k.map kV))) (ry : RelV y u) :
    KT H (putK kvs k y) (storedH xs k b u) := by
  have e : (kvs.any fun kv => decide (kv.1 = k)) = (atKey xs k).isSome := by
    rw [valV_any, (r.val k).isSome_eq, Option.isSome_map]
  unfold putK storedH
  rw [e]
  by_cases q : (atKey xs k).isSome = true
  · rw [if_pos q, if_pos q]; exact r.repl k ry
  · rw [if_neg q, if_neg q]; exact Paired.snoc r ⟨rfl, hb, ry⟩
theorem KT.keeps {H H' : Hp} {kvs : List (List Key × V)} {xs : List (List Key × Addr × Value)} (r : KT H kvs xs) (ht : ∀ b ys, H b = some (.tup ys) → H' b = some (.tup ys)) : KT H' kvs xs :=
  Paired.mapP r fun _ _ z => ⟨z.1, ht _ _ z.2.1, z.2.2⟩

section
variable {P : Program} {w : World} {H : Hp} {h : Heap} {a : Addr}
theorem rd_of {u : HO} (ok : HOk P w H h) (e : Rd H a u) : ObjOk P w H h a u := e.ok ok
theorem dk_rd {kvs : List (Key × V)} (ok : HOk P w H h) (e : Rd H a (.dK kvs)) : kvs.length ≤ sizeLine ∧ (a == sysModules) = false ∧ ∃ vs, KV kvs vs ∧ h.DictOf (mixKind P w) a vs :=
  show ObjOk P w H h a (.dK kvs) from rd_of ok e
theorem dk_of {kvs : List (Key × V)} (ok : HOk P w H h) (e : H a = some (.dK kvs)) : kvs.length ≤ sizeLine ∧ (a == sysModules) = false ∧ ∃ vs, KV kvs vs ∧ h.DictOf (mixKind P w) a vs := dk_rd ok (.inl e)
/-- a tracked tuple of ints and texts is a key -/
theorem key_of {ks : List Key} (ok : HOk P w H h) (e : H a = some (.tup (ks.map kV))) : (tupleKind (mixKind P w)).is h ks a := by
  obtain ⟨_, its, r, o, h1, h2, n, h3⟩ := (show ObjOk P w H h a (.tup (ks.map kV)) from ok a _ e)
  exact ⟨o, its.toArray, n, h1, h2, h3, by simpa using items_are r⟩
theorem dt_rd {kvs : List (List Key × V)} (ok : HOk P w H h) (e : Rd H a (.dT kvs)) : kvs.length ≤ sizeLine ∧ (a == sysModules) = false ∧
    ∃ xs, KT H kvs xs ∧ h.DictOfH (tupleKind (mixKind P w)) a xs := by
  obtain ⟨z, y, xs, r, o, es, ep, h1, h2, h3, h4, h5⟩ := (show ObjOk P w H h a (.dT kvs) from rd_of ok e)
  refine ⟨z, y, xs, r, o, es, ep, h1, h2, h3, h4, fun x hx => ?_, h5⟩
  have all : ∀ {l : List (List Key × V)} {m : List (List Key × Addr × Value)}, KT H l m → ∀ x ∈ m, (tupleKind (mixKind P w)).is h x.1 x.2.1 := by
    intro l m q
    induction q with
    | nil => intro x hx; exact nomatch hx
    | @cons p q ps qs hq t ih =>
      intro x hx
      rcases List.mem_cons.mp hx with e | hx
      · subst e
        exact key_of ok (by rw [← hq.1]; exact hq.2.1)
      · exact ih x hx
  exact all r x hx
theorem dt_of {kvs : List (List Key × V)} (ok : HOk P w H h) (e : H a = some (.dT kvs)) : kvs.length ≤ sizeLine ∧ (a == sysModules) = false ∧
    ∃ xs, KT H kvs xs ∧ h.DictOfH (tupleKind (mixKind P w)) a xs := dt_rd ok (.inl e)
end

/-- what the dict at a holds at the key y -/
def DGet (H : Hp) (a : Addr) (y : V) (r : Option V) : Prop :=
  (∃ kvs k, Rd H a (.dK kvs) ∧ y = kV k ∧ r = valV kvs k) ∨ ∃ kvs k b, Rd H a (.dT kvs) ∧ y = .ref b ∧ H b = some (.tup (k.map kV)) ∧ r = valV kvs k
/-- the heap behind a[y] = v -/
def DPut (H : Hp) (a : Addr) (y v : V) (H' : Hp) : Prop :=
  (∃ kvs k, H a = some (.dK kvs) ∧ y = kV k ∧ kvs.length < sizeLine ∧ H' = upd H a (.dK (putK kvs k v))) ∨
  ∃ kvs k b, H a = some (.dT kvs) ∧ y = .ref b ∧ H b = some (.tup (k.map kV)) ∧ kvs.length < sizeLine ∧ H' = upd H a (.dT (putK kvs k v))
theorem DGet.k {H : Hp} {a : Addr} {kvs : List (Key × V)} {k : Key} (e : H a = some (.dK kvs)) : DGet H a (kV k) (valV kvs k) := .inl ⟨kvs, k, .inl e, rfl, rfl⟩
theorem DPut.k {H : Hp} {a : Addr} {kvs : List (Key × V)} {k : Key} {v : V} (e : H a = some (.dK kvs)) (hl : kvs.length < sizeLine) : DPut H a (kV k) v (upd H a (.dK (putK kvs k v))) := .inl ⟨kvs, k, e, rfl, hl, rfl⟩
section
variable {X : Cx} {pins : List (Addr × Obj)} {σ : St} {H : Hp} {s : Shared} {a : Addr} {y v : V} {u r : Value} {o : Option V} {A : Around} {E : Value → Shared → Prop}

theorem Inv.big (I : Inv X pins σ H s) : sysModules < s.heap.objs.size := by
  have h : mainGlobals < s.heap.objs.size := (I.mod.glob.keeps I.bk).lt
  exact Nat.lt_trans (by decide) h

/-- y in d -/
theorem d_in {Q : Value → Shared → Prop} (hu : A.units + 1 < cLine) (I : Inv X pins σ H s) (g : DGet H a y o) (ry : RelV y u) (h : ∀ s', Inv X pins σ H s' → Q (.bool o.isSome) s') :
    wpAny (model X.prog X.w) A (compareOp .In u (.ref a)) Q E s := by
  rcases g with ⟨kvs, k, e, ey, l⟩ | ⟨kvs, k, b, e, ey, eb, l⟩
  · subst ey
    obtain ⟨z, hd, vs, rel, dd⟩ := dk_rd I.hok e
    refine wpAny_in_of (kV_is ry) hd dd.mapOf ?_
    rw [← (rel.val k).isSome_eq, ← l]
    exact h _ (I.tok _)
  · subst ey
    cases (show u = Value.ref b from ry)
    obtain ⟨z, hd, xs, rel, dd⟩ := dt_rd I.hok e
    refine wpAny_in_heap (tupleKind_room_in1 hu) (key_of I.hok eb) hd dd ?_
    have q := (rel.val k).isSome_eq
    rw [Option.isSome_map] at q
    rw [← q, ← l]
    exact h _ (I.tok _)
/-- a dict's object is replaced -/
theorem d_write {h' : Heap} {t' : Nat} {ob : HO} (I : Inv X pins σ H s) (mu : Mut (H a)) (hs : Heap.SameBut a s.heap h') (he : ∃ q, h'.get? a = some q) (new : ObjOk X.prog X.w (upd H a ob) h' a ob) :
    Inv X pins σ (upd H a ob) { s with heap := h', toks := t' } :=
  I.write (x := a) (e := a) mu (.inl rfl) (fun b q hb z => (hs.2 b hb).trans z) he new
theorem dk_new {P : Program} {w : World} {H' : Hp} {h' : Heap} {kvs : List (Key × V)} {vs : List (Key × Value)} (z : kvs.length ≤ sizeLine) (hd : (a == sysModules) = false) (rel : KV kvs vs) (dd : h'.DictOf (mixKind P w) a vs) :
    ObjOk P w H' h' a (.dK kvs) := ⟨z, hd, vs, rel, dd⟩
/-- d[y] = v -/
theorem d_setItem {H' : Hp} {Q : Unit → Shared → Prop} (hu : A.units + 1 < cLine) (I : Inv X pins σ H s) (g : DPut H a y v H') (ry : RelV y u) (rv : RelV v r) (h : ∀ s', Inv X pins σ H' s' → Q () s') :
    wpAny (model X.prog X.w) A (setItem (.ref a) u r) Q E s := by
  rcases g with ⟨kvs, k, e, ey, l, eH⟩ | ⟨kvs, k, b, e, ey, eb, l, eH⟩
  · subst ey eH
    obtain ⟨z, hd, vs, rel, dd⟩ := dk_of I.hok e
    have hz : vs.length ≤ sizeLine := by rw [← rel.length]; exact z
    have hl : (putK kvs k v).length ≤ sizeLine := by have := length_putK kvs k v; omega
    refine wpAny_setItem_pairs (hsz := hz) (kV_is ry) dd fun h' dd' hs => h _ ?_
    have he : ∃ q, h'.get? a = some q := let ⟨q, _, _, hq, _⟩ := dd'; ⟨q, hq⟩
    exact d_write I (by rw [e]; exact True.intro) hs he (dk_new hl hd (rel.put k rv) dd')
  · subst ey eH
    cases (show u = Value.ref b from ry)
    obtain ⟨z, hd, xs, rel, dd⟩ := dt_of I.hok e
    have hz : xs.length ≤ sizeLine := by rw [← Paired.length rel]; exact z
    have hl : (putK kvs k v).length ≤ sizeLine := by have := length_putK kvs k v; omega
    refine wpAny_setItem_heap (hsz := hz) (tupleKind_room_in1 hu) (key_of I.hok eb) dd fun h' dd' hs => h _ ?_
    obtain ⟨q, es, ep, hq, h2, h3, h4, _, h5⟩ := dd'
    refine d_write I (by rw [e]; exact True.intro) hs ⟨q, hq⟩ ⟨hl, hd, _, (rel.put k eb rv).keeps fun c ys ec => ?_, q, es, ep, hq, h2, h3, h4, h5⟩
    rw [upd_ne (ne_of ec e (fun z => nomatch z))]
    exact ec
end

section
variable {X : Cx} {pins : List (Addr × Obj)} {σ : St} {H : Hp} {s : Shared} {a : Addr} {kvs : List (Key × V)} {k : Key} {u : Value} {A : Around} {E : Value → Shared → Prop}
end


/-- y in d, y not in d -/
def tDIn (ty td : TE) : TE := fun σ H Q => ty σ H fun y H1 => td σ H1 fun x H2 => ∃ a o, x = .ref a ∧ DGet H2 a y o ∧ Q (.bl o.isSome) H2
/-- d[y] = v -/
def sDPut (td ty tv : TE) : TS := fun D σ H => tv σ H fun v H1 => td σ H1 fun x H2 => ty σ H2 fun y H3 => ∃ a H4, x = .ref a ∧ DPut H3 a y v H4 ∧ D.nx σ H4
section
variable {X : Cx} {o i e value : Expr} {pos pos' tpos : Pos} {td ty tv : TE}
theorem pc_din (hu : X.A.units + 1 < cLine) (hi : PE X i ty) (ho : PE X o td) : PC X .In i o (tDIn ty td) := by
  intro pins s σ H Q I h
  refine thn (hi pins s σ H _ I h) fun iv s1 ⟨y, H1, I1, ry, q1⟩ => thn (ho pins s1 σ H1 _ I1 q1) fun u s2 ⟨x, H2, I2, rx, a, ov, ex, g, q2⟩ => ?_
  subst ex
  obtain rfl : u = Value.ref a := rx
  exact d_in hu I2 g ry fun s3 I3 => ⟨.bl ov.isSome, H2, I3, rfl, q2⟩
theorem ps_dput (hu : X.A.units + 1 < cLine) (ho : PE X o td) (hi : PE X i ty) (hv : PE X value tv) (hs : swapsWith value (some (.Subscript o i pos')) pos.line X.env = pure false) :
    PS X (.Assign [.Subscript o i pos'] value pos) (sDPut td ty tv) := by
  intro pins s σ H D I h
  refine wpAny_Assign_Subscript (thn (hv pins s σ H _ I h) fun r s1 ⟨v, H1, I1, rv, q1⟩ => thn (ho pins s1 σ H1 _ I1 q1) fun u s2 ⟨x, H2, I2, rx, q2⟩ => thn (hi pins s2 σ H2 _ I2 q2) fun iv s3 ⟨y, H3, I3, ry, a, H4, ex, g, q3⟩ => ?_) hs
  subst ex
  obtain rfl : u = Value.ref a := rx
  exact d_setItem hu I3 g ry rv fun s4 I4 => ⟨σ, H4, I4, q3⟩
end


theorem dk_empty {P : Program} {w : World} {H : Hp} (h : Heap) (hb : sysModules < h.objs.size) : ObjOk P w H (h.push { cls := .type "dict", data := .dict #[] }) h.objs.size (.dK []) :=
  ⟨Nat.zero_le _, beq_eq_false_iff_ne.mpr (Ne.symm (Nat.ne_of_lt hb)), [], .nil, Heap.DictOf.new h⟩
section
variable {X : Cx} {pos : Pos}
end

/-- the pairs of a display, from the left -/
def tPairs : List (TE × TE) → St → Hp → (List (V × V) → Hp → Prop) → Prop
  | [], _, H, Q => Q [] H
  | (tk, tv) :: r, σ, H, Q => tk σ H fun x H1 => tv σ H1 fun y H2 => tPairs r σ H2 fun ps H3 => Q ((x, y) :: ps) H3
abbrev VV : List (V × V) → List (Value × Value) → Prop := Paired fun p q => RelV p.1 q.1 ∧ RelV p.2 q.2
def PPs (X : Cx) (pos : Pos) (keys : List (Option Expr)) (values : List Expr) (trs : List (TE × TE)) : Prop :=
  ∀ (pins : List (Addr × Obj)) (s : Shared) (σ : St) (H : Hp) (Q : List (V × V) → Hp → Prop), Inv X pins σ H s → tPairs trs σ H Q →
    wpAny (model X.prog X.w) X.A (evalPairs (pairTrees keys values X.env pos)) (fun vs s' => ∃ ps H', Inv X pins σ H' s' ∧ VV ps vs ∧ Q ps H') X.xe s
theorem pps_nil {X : Cx} {pos : Pos} : PPs X pos [] [] [] := fun pins s σ H Q I h => pairTrees_nil_walk ⟨[], H, I, .nil, h⟩
theorem pps_cons {X : Cx} {pos : Pos} {k v : Expr} {ks : List (Option Expr)} {vs : List Expr} {tk tv : TE} {trs : List (TE × TE)} (hk : PE X k tk) (hv : PE X v tv) (hr : PPs X pos ks vs trs) :
    PPs X pos (some k :: ks) (v :: vs) ((tk, tv) :: trs) := fun pins s σ H Q I h =>
  pairTrees_cons_walk (thn (hk pins s σ H _ I h) fun u s1 ⟨x, H1, I1, rx, q1⟩ => thn (hv pins s1 σ H1 _ I1 q1) fun w2 s2 ⟨y, H2, I2, ry, q2⟩ =>
    thn (hr pins s2 σ H2 _ I2 q2) fun ws s3 ⟨ps, H3, I3, rel, q3⟩ => ⟨(x, y) :: ps, H3, I3, .cons ⟨rx, ry⟩ rel, q3⟩)

def mergeK (kvs more : List (Key × V)) : List (Key × V) := more.foldl (fun acc kv => putK acc kv.1 kv.2) kvs
theorem KV.merge : ∀ {more : List (Key × V)} {rs : List (Key × Value)} {kvs : List (Key × V)} {vs : List (Key × Value)}, KV more rs → KV kvs vs → KV (mergeK kvs more) (merged vs rs) := by
  intro more rs kvs vs r
  unfold KV at r
  induction r generalizing kvs vs with
  | nil => intro q; exact q
  | @cons p q ps qs h t ih =>
    intro r0
    have e : KV (putK kvs p.1 p.2) (stored vs q.1 q.2) := by
      have := r0.put p.1 h.2
      rw [← h.1]; exact this
    exact ih e
theorem length_mergeK : ∀ (more kvs : List (Key × V)), (mergeK kvs more).length ≤ kvs.length + more.length
  | [], kvs => by show kvs.length ≤ kvs.length + 0; omega
  | p :: r, kvs => by
    have h1 := length_mergeK r (putK kvs p.1 p.2)
    have h2 := length_putK kvs p.1 p.2
    show (mergeK (putK kvs p.1 p.2) r).length ≤ _
    rw [List.length_cons]; omega
theorem carries_of {P : Program} {w : World} : ∀ {kvs : List (Key × V)} {ws : List (Value × Value)}, VV (kvs.map fun kv => (kV kv.1, kv.2)) ws → ∃ rs, Carries (mixKind P w) ws rs ∧ KV kvs rs
  | [], _, r => by rw [List.map_nil] at r; cases r; exact ⟨[], True.intro, .nil⟩
  | p :: kvs, _, r => by
    rw [List.map_cons] at r
    cases r with
    | @cons a b as bs h t =>
      obtain ⟨rs, c, q⟩ := carries_of (P := P) (w := w) t
      obtain ⟨b1, b2⟩ := b
      exact ⟨(p.1, b2) :: rs, ⟨kV_is h.1, rfl, c⟩, .cons ⟨rfl, h.2⟩ q⟩
/-- {k: v, ..} with keys ints and texts; the new dict stands empty while the pairs are made -/
def tDisp (trs : List (TE × TE)) : TE := fun σ H Q => ∀ p, H p = none → tPairs trs σ (upd H p (.dK [])) fun ps H2 => H2 p = some (.dK []) ∧ ∃ kvs : List (Key × V), ps = kvs.map (fun kv => (kV kv.1, kv.2)) ∧ kvs.length ≤ 15 ∧ Q (.ref p) (upd H2 p (.dK (mergeK [] kvs)))
theorem pe_disp {X : Cx} {pos : Pos} {keys : List (Option Expr)} {values : List Expr} {trs : List (TE × TE)} (h : PPs X pos keys values trs) (hall : keys.all (·.isSome) = true) (hl : keys.length = values.length) (h0 : keys ≠ [])
    (h15 : keys.length ≤ 15) : PE X (.Dict keys values pos) (tDisp trs) := by
  intro pins s σ H Q I q
  have hn := I.hok.fresh (Nat.le_refl s.heap.objs.size)
  have I1 := I.laid (a := s.heap.objs.size) (o := .dK []) (h' := s.heap.push { cls := .type "dict", data := .dict #[] }) (t' := s.toks) (fun _ _ q => Heap.get?_push_of_some _ q) (Nat.le_refl _) (dk_empty s.heap I.big)
  refine wpAny_Dict_walk (knd := mixKind X.prog X.w) hall hl h0 h15 (thn (h pins _ σ _ _ I1 (q _ hn)) fun ws s2 ⟨ps, H2, I2, rel, e, kvs, ep, lk, q2⟩ => ?_)
  subst ep
  obtain ⟨rs, c, rk⟩ := carries_of (P := X.prog) (w := X.w) rel
  obtain ⟨z, hd, vs0, r0, dd⟩ := dk_of I2.hok e
  cases r0
  refine ⟨rs, c, dd, fun h' dd' hs => ⟨.ref s.heap.objs.size, _, ?_, rfl, q2⟩⟩
  have hz : (mergeK [] kvs).length ≤ sizeLine := by
    have h1 := length_mergeK kvs []
    rw [List.length_nil] at h1
    rw [sizeLine_eq]; omega
  have he : ∃ q, h'.get? s.heap.objs.size = some q := let ⟨q, _, _, hq, _⟩ := dd'; ⟨q, hq⟩
  exact d_write I2 (by rw [e]; exact True.intro) hs he (dk_new hz hd (rk.merge .nil) dd')


section
variable {X : Cx} {pins : List (Addr × Obj)} {σ : St} {H : Hp} {s : Shared} {a : Addr} {y d : V} {u r : Value} {o : Option V} {A : Around} {E : Value → Shared → Prop}
end

section
variable {X : Cx} {o e f : Expr} {apos cpos : Pos} {td ty tx : TE}
end

section
variable {X : Cx} {pins : List (Addr × Obj)} {σ : St} {H : Hp} {s : Shared} {a : Addr} {kvs : List (Key × V)} {A : Around} {E : Value → Shared → Prop}
end


section
variable {X : Cx} {pins : List (Addr × Obj)} {σ : St} {H : Hp} {s : Shared} {a : Addr} {y : V} {u : Value} {A : Around} {E : Value → Shared → Prop}
end
end L2
namespace L2
section
variable {κ : Type} [DecidableEq κ]
end
end L2

set_option Elab.async false
set_option linter.all false
set_option maxRecDepth 100000
set_option maxHeartbeats 4000000
namespace L2
open PySem PySem.Spec PyProof.Rows

theorem closure_go {env : Env} (f : Str × NameKind → List (Str × Addr) → Sem (ForInStep (List (Str × Addr))))
    (hf : ∀ n k r, f (n, k) r = if (k == NameKind.free) = true then (cellOf env n >>= fun a => pure (.yield ((n, a) :: r))) else pure (.yield r)) :
    ∀ (l : List (Str × NameKind)) (acc : List (Str × Addr)), (∀ x ∈ l, x.2 = .free → ∃ c, env.cells.lookup x.1 = some c) → (∀ y c, acc.lookup y = some c → env.cells.lookup y = some c) →
      ∃ cl, (forIn l acc f : Sem (List (Str × Addr))) = pure cl ∧ (∀ y c, cl.lookup y = some c → env.cells.lookup y = some c) ∧ (∀ y, (∃ c, acc.lookup y = some c) → ∃ c, cl.lookup y = some c) ∧ ∀ y, (y, NameKind.free) ∈ l → ∃ c, cl.lookup y = some c
  | [], acc, _, ha => ⟨acc, by rw [List.forIn_nil], ha, fun _ h => h, fun _ h => by cases h⟩
  | (n, k) :: r, acc, h, ha => by
    rw [List.forIn_cons, hf]
    have hr : ∀ x ∈ r, x.2 = .free → ∃ c, env.cells.lookup x.1 = some c := fun x hx => h x (List.mem_cons_of_mem _ hx)
    by_cases hk : k = .free
    · subst hk
      obtain ⟨c, hc⟩ := h (n, .free) List.mem_cons_self rfl
      have hcell : cellOf env n = pure c := by unfold cellOf; rw [hc]
      have look : ∀ y, ((n, c) :: acc).lookup y = if (y == n) = true then some c else acc.lookup y := fun y => by
        rw [List.lookup_cons]; cases y == n <;> rfl
      obtain ⟨cl, e, r1, r2, r3⟩ := closure_go f hf r ((n, c) :: acc) hr (fun y c' q => by
        rw [look] at q
        split at q
        · rename_i hy
          have e := eq_of_beq hy
          subst e
          rw [← q]; exact hc
        · exact ha y c' q)
      rw [if_pos (by rfl), hcell]
      refine ⟨cl, e, r1, fun y ⟨c', q⟩ => r2 y ?_, fun y hy => ?_⟩
      · rw [look]
        split
        · exact ⟨_, rfl⟩
        · exact ⟨_, q⟩
      · rcases List.mem_cons.mp hy with q | q
        · injection q with q1 _
          exact r2 y ⟨c, by rw [look, q1, if_pos (by simp)]⟩
        · exact r3 y q
    · have hb : (k == NameKind.free) = false := by simpa using hk
      obtain ⟨cl, e, r1, r2, r3⟩ := closure_go f hf r acc hr ha
      rw [if_neg (by rw [hb]; decide)]
      refine ⟨cl, e, r1, r2, fun y hy => ?_⟩
      rcases List.mem_cons.mp hy with q | q
      · injection q with _ q2
        exact absurd q2.symm hk
      · exact r3 y q
theorem closureFor_ok {scope : Scope} {env : Env} (h : ∀ x ∈ scope.names, x.2 = .free → ∃ c, env.cells.lookup x.1 = some c) :
    ∃ cl, closureFor scope env = pure cl ∧ (∀ y c, cl.lookup y = some c → env.cells.lookup y = some c) ∧ ∀ y, (y, NameKind.free) ∈ scope.names → ∃ c, cl.lookup y = some c := by
  have g := closure_go (env := env) (fun x r => match x with | (name, kind) => if (kind == NameKind.free) = true then (do let a ← cellOf env name; pure (ForInStep.yield ((name, a) :: r))) else pure (ForInStep.yield r)) (fun _ _ _ => rfl) scope.names [] h (fun _ _ q => by cases q)
  obtain ⟨cl, e, r1, _, r3⟩ := g
  refine ⟨cl, ?_, r1, r3⟩
  have e2 : closureFor scope env = (forIn scope.names ([] : List (Str × Addr)) (fun x r => match x with | (name, kind) => if (kind == NameKind.free) = true then (do let a ← cellOf env name; pure (ForInStep.yield ((name, a) :: r))) else pure (ForInStep.yield r)) >>= fun r => pure r) := rfl
  rw [e2, e]
  rfl

/-- N, sc: the names and the scope around; N', ix: the block's names, and where they stand around -/
def compOk (N : List Str) (sc scope : Scope) (N' : List Str) (ix : List (Option Nat)) : Bool :=
  (scope.names.all fun p => decide (p.2 ≠ .cell) && (decide (p.2 ≠ .local) || decide (scope.names.lookup p.1 = some .local)) && (decide (p.2 ≠ .free) || (decide (sc.names.lookup p.1 = some .cell) && decide (scope.names.lookup p.1 = some .free)))) &&
  decide N'.Nodup && decide (ix.length = N'.length) &&
  ((List.range ix.length).all fun j => match ix[j]? with
    | some (some i) => (match N'[j]? with | some y => decide (N[i]? = some y) && (scope.names.any fun p => decide (p.1 = y) && decide (p.2 = .free)) | none => false)
    | _ => true)
structure CompSc (N : List Str) (sc scope : Scope) (N' : List Str) (ix : List (Option Nat)) : Prop where
  kind : scope.kind = .function
  nocell : ∀ y ∈ scope.names, y.2 ≠ .cell
  names : ∀ y ∈ scope.names, y.2 = .local → scope.names.lookup y.1 = some .local
  nd : N'.Nodup
  len : ix.length = N'.length
  cap : ∀ (j i : Nat), ix[j]? = some (some i) → ∃ y, N'[j]? = some y ∧ N[i]? = some y ∧ (y, NameKind.free) ∈ scope.names
  free : ∀ y, (y, NameKind.free) ∈ scope.names → sc.names.lookup y = some .cell
  frees : ∀ y, (y, NameKind.free) ∈ scope.names → scope.names.lookup y = some .free
theorem CompSc.of {N : List Str} {sc scope : Scope} {N' : List Str} {ix : List (Option Nat)} (kind : scope.kind = .function) (h : compOk N sc scope N' ix = true) : CompSc N sc scope N' ix := by
  unfold compOk at h
  simp only [Bool.and_eq_true, List.all_eq_true, Bool.or_eq_true, decide_eq_true_eq] at h
  obtain ⟨⟨⟨h1, h2⟩, h3⟩, h4⟩ := h
  refine ⟨kind, fun y hy => (h1 y hy).1.1, fun y hy hl => ?_, h2, h3, fun j i e => ?_, fun y hy => ?_, fun y hy => ?_⟩
  · rcases (h1 y hy).1.2 with z | z
    · exact absurd hl z
    · exact z
  · have hj : j < ix.length := (List.getElem?_eq_some_iff.mp e).1
    have q := h4 j (List.mem_range.mpr hj)
    rw [e] at q
    dsimp only at q
    cases e2 : N'[j]? with
    | none => rw [e2] at q; cases q
    | some y =>
      rw [e2] at q
      simp only [Bool.and_eq_true, decide_eq_true_eq, List.any_eq_true] at q
      obtain ⟨q1, ⟨n, k⟩, q2, q3, q4⟩ := q
      dsimp only at q3 q4
      subst q3 q4
      exact ⟨_, rfl, q1, q2⟩
  · rcases (h1 _ hy).2 with z | z
    · exact absurd rfl z
    · exact z.1
  · rcases (h1 _ hy).2 with z | z
    · exact absurd rfl z
    · exact z.2

/-- the block's names at its entry -/
def inSt (ix : List (Option Nat)) (σ : St) : St := ix.map fun o => o.bind fun i => (σ[i]?).join
theorem inSt_get {ix : List (Option Nat)} {σ : St} {j : Nat} {v : V} (h : (inSt ix σ)[j]? = some (some v)) : ∃ i, ix[j]? = some (some i) ∧ σ[i]? = some (some v) := by
  unfold inSt at h
  rw [List.getElem?_map] at h
  cases e : ix[j]? with
  | none => rw [e] at h; cases h
  | some o =>
    rw [e] at h
    cases o with
    | none => cases h
    | some i =>
      refine ⟨i, rfl, ?_⟩
      have h' : (σ[i]?).join = some v := Option.some.inj h
      cases e2 : σ[i]? with
      | none => rw [e2] at h'; cases h'
      | some o2 => rw [e2] at h'; exact congrArg some h'

/-- the context of a comprehension's block: made at the state s (the iterator stands, its records at fp) -/
def cxIn (X : Cx) (scope : Scope) (N' : List Str) (C : Addr) (cl : List (Str × Addr)) (s : Shared) (H : Hp) (fp : List Addr) : Cx where
  prog := X.prog
  w := X.w
  K := X.K
  mg := X.mg
  base := X.base
  A := X.A
  N := N'
  s₀ := s
  H₀ := H
  env := compEnvC scope cl C X.env
  outer := X.stack
  stack := X.stack
  ex := fp
  fn := fun _ => false
  calm := X.calm
  pn := []
  xe := fun _ _ => False

theorem lookup_relabel {env : Env} : ∀ {names : List (Str × NameKind)} {x : Str} {k : NameKind}, (∀ y ∈ names, y.2 ≠ .cell) →
    (names.map fun (n, k) => if (k == NameKind.free && env.scope.kind == .function && env.kindOf n == some .cell) then (n, NameKind.cell) else (n, k)).lookup x = some k → k = .cell ∨ k = .free → (x, NameKind.free) ∈ names
  | [], _, _, _, h, _ => by simp at h
  | (n, k') :: r, x, k, hc, h, hk => by
    have ih := @lookup_relabel env r x k fun y hy => hc y (List.mem_cons_of_mem _ hy)
    change List.lookup x ((if (k' == NameKind.free && env.scope.kind == .function && env.kindOf n == some .cell) = true then (n, NameKind.cell) else (n, k')) :: _) = _ at h
    by_cases hx : x = n
    · subst hx
      by_cases hq : (k' == NameKind.free && env.scope.kind == .function && env.kindOf x == some .cell) = true
      · have hf : k' = .free := by
          simp only [Bool.and_eq_true] at hq
          exact eq_of_beq hq.1.1
        subst hf
        exact List.mem_cons_self
      · rw [if_neg hq] at h
        simp only [List.lookup_cons, beq_self_eq_true] at h
        have e : k' = k := Option.some.inj h
        subst e
        rcases hk with z | z
        · exact absurd z (hc (x, k') List.mem_cons_self)
        · subst z; exact List.mem_cons_self
    · have hb : (x == n) = false := beq_eq_false_iff_ne.mpr hx
      refine List.mem_cons_of_mem _ (ih ?_ hk)
      by_cases hq : (k' == NameKind.free && env.scope.kind == .function && env.kindOf n == some .cell) = true
      · rw [if_pos hq] at h
        simp only [List.lookup_cons, hb] at h
        exact h
      · rw [if_neg hq] at h
        simp only [List.lookup_cons, hb] at h
        exact h

theorem lookup_relabel_free {env : Env} : ∀ {names : List (Str × NameKind)} {x : Str}, names.lookup x = some .free →
    (names.map fun (n, k) => if (k == NameKind.free && env.scope.kind == .function && env.kindOf n == some .cell) then (n, NameKind.cell) else (n, k)).lookup x = some .cell ∨
    (names.map fun (n, k) => if (k == NameKind.free && env.scope.kind == .function && env.kindOf n == some .cell) then (n, NameKind.cell) else (n, k)).lookup x = some .free
  | [], _, h => by simp at h
  | (n, k') :: r, x, h => by
    have ih := @lookup_relabel_free env r x
    show List.lookup x ((if (k' == NameKind.free && env.scope.kind == .function && env.kindOf n == some .cell) = true then (n, NameKind.cell) else (n, k')) :: _) = _ ∨ List.lookup x ((if (k' == NameKind.free && env.scope.kind == .function && env.kindOf n == some .cell) = true then (n, NameKind.cell) else (n, k')) :: _) = _
    by_cases hx : x = n
    · subst hx
      simp only [List.lookup_cons, beq_self_eq_true] at h
      cases h
      by_cases hq : (NameKind.free == NameKind.free && env.scope.kind == .function && env.kindOf x == some .cell) = true
      · rw [if_pos hq]; left; simp [List.lookup_cons]
      · rw [if_neg hq]; right; simp [List.lookup_cons]
    · have hb : (x == n) = false := beq_eq_false_iff_ne.mpr hx
      simp only [List.lookup_cons, hb] at h
      by_cases hq : (k' == NameKind.free && env.scope.kind == .function && env.kindOf n == some .cell) = true
      · rw [if_pos hq]; simp only [List.lookup_cons, hb]; exact ih h
      · rw [if_neg hq]; simp only [List.lookup_cons, hb]; exact ih h

section
variable {X : Cx} {pins : List (Addr × Obj)} {σ : St} {H H' : Hp} {s : Shared}
/-- an object that stands, untracked, younger than the entry, is tracked from now on -/
theorem Inv.adopt {a : Addr} {o : HO} (I : Inv X pins σ H s) (hn : H a = none) (h1 : X.s₀.heap.objs.size ≤ a) (hL : a ≠ X.env.locals) (hC : ∀ x c, X.env.cells.lookup x = some c → c ≠ a) (hp : ∀ p ∈ X.pn ++ pins, p.1 ≠ a)
    (new : ObjOk X.prog X.w (upd H a o) s.heap a o) : Inv X pins σ (upd H a o) s := by
  have u : ∀ b ob, X.s₀.heap.get? b = some ob → b ≠ a := fun b ob e => Nat.ne_of_lt (Nat.lt_of_lt_of_le (Heap.lt_size e) h1)
  refine ⟨I.ok, I.os, I.bare, ⟨I.base.keep, I.base.slot, fun b ob e n hx => by rw [upd_ne (u b ob e)]; exact I.base.free b ob e n hx, I.base.there, fun b xs e => ?_, fun b ob xs e => ?_, fun b ps e => ?_⟩, I.loc, I.cell, ?_, fun x c e => ?_, fun p hq => ?_, fun b ob e => ?_, I.len⟩
  · have q := I.base.tups b xs e
    rw [upd_ne (ne_of_none q hn)]; exact q
  · have q := I.base.frzs b ob xs e
    rw [upd_ne (ne_of_none q hn)]; exact q
  · obtain ⟨more, q⟩ := I.base.tbls b ps e
    exact ⟨more, by rw [upd_ne (ne_of_none q hn)]; exact q⟩
  · rw [upd_ne (Ne.symm hL)]; exact I.free
  · rw [upd_ne (hC x c e)]; exact I.freeC x c e
  · obtain ⟨e, n, r⟩ := I.pin p hq
    exact ⟨e, by rw [upd_ne (hp p hq)]; exact n, r⟩
  · by_cases hb : b = a
    · subst hb
      rw [upd_same] at e
      cases e
      exact new
    · rw [upd_ne hb] at e
      exact (I.hok b ob e).stay (fun _ _ _ q => q) (fun c q => by rw [upd_ne (ne_of_none q hn)]; exact q) fun c xs q => by rw [upd_ne (ne_of_none q hn)]; exact q

/-- an address that the context may let turn, unseen -/
structure Loose (X : Cx) (pins : List (Addr × Obj)) (H : Hp) (C : Addr) : Prop where
  no : H C = none
  nl : C ≠ X.env.locals
  ab : X.s₀.heap.objs.size ≤ C
  nc : ∀ x c, X.env.cells.lookup x = some c → c ≠ C
  np : ∀ p ∈ X.pn ++ pins, p.1 ≠ C
theorem Inv.loose {C : Addr} (I : Inv X pins σ H s) (hC : s.heap.objs.size ≤ C) (hn : H' C = none) : Loose X pins H' C :=
  let ⟨a, b, _, d, e, f⟩ := I.fpOk (H' := H') hC hn
  ⟨a, b, Nat.le_trans I.sz hC, e, f⟩
theorem Inv.same {C : Addr} {h' : Heap} {s' : Shared} (I : Inv X pins σ H s) (l : Loose X pins H C) (sb : Heap.SameBut C s.heap h') (e : s' = { s with heap := h' }) : Inv X pins σ H s' := by
  subst e
  exact I.turned (t' := s.toks) (fun b o hb q => (sb.2 b hb).trans q) l.no (l.nl) (.inr l.ab) l.nc l.np

/-- the block's context is one -/
theorem Inv.cxIn_ok {scope : Scope} {N' : List Str} {ix : List (Option Nat)} {C : Addr} {cl : List (Str × Addr)} {fp : List Addr} (I : Inv X pins σ H s) (S : CompSc X.N X.env.scope scope N' ix) (hC : s.heap.objs.size ≤ C)
    (c1 : ∀ y c, cl.lookup y = some c → X.env.cells.lookup y = some c) (c2 : ∀ y, (y, NameKind.free) ∈ scope.names → ∃ c, cl.lookup y = some c)
    (hf : ∀ b ∈ fp, FpOk X pins H b) (hlt : ∀ b ∈ fp, b < s.heap.objs.size) : (cxIn X scope N' C cl s H fp).Ok where
  mod := I.ok.mod
  kind := S.kind
  glob := I.ok.glob
  blt := I.ok.blt
  above := hC
  inj := fun x y c h1 h2 => I.ok.inj x y c (c1 x c h1) (c1 y c h2)
  has := fun x h => by
    rcases h with h | h
    · exact c2 x (lookup_relabel S.nocell h (.inl rfl))
    · exact c2 x (lookup_relabel S.nocell h (.inr rfl))
  cab := fun _ _ h => by cases h
  hd := I.ok.hd
  frames := I.ok.frames
  stk := .inl rfl
  exf := fun b hb => ⟨Nat.ne_of_lt (Nat.lt_of_lt_of_le (hlt b hb) hC), fun x c e => (hf b hb).2.2.2.2.1 x c (c1 x c e)⟩
  bs := I.bs
  bsz := Nat.le_trans I.ok.bsz I.sz
  noex := fun b o e hb => by
    rcases (hf b hb).2.2.2.1 with z | z
    · exact I.ok.noex b o e z
    · exact absurd (Nat.lt_of_lt_of_le (Heap.lt_size e) (Nat.le_trans I.ok.bsz z)) (Nat.lt_irrefl _)
  exfs := fun b hb z => by
    rcases List.mem_cons.mp (I.stkSub b z) with q | q
    · exact (hf b hb).2.1 q
    · exact (hf b hb).2.2.1 q
  funs := I.stack
  frf := I.stkFree

theorem Inv.cxIn {scope : Scope} {N' : List Str} {ix : List (Option Nat)} {C D : Addr} {oD : Obj} {cl : List (Str × Addr)} {fp : List Addr} {h' : Heap} {tk : Nat} {m : Str → Option Value} (I : Inv X pins σ H s) (S : CompSc X.N X.env.scope scope N' ix)
    (hC : s.heap.objs.size ≤ C) (hD : s.heap.objs.size ≤ D) (hDC : D ≠ C) (eD : h'.get? D = some oD) (dD : ∀ v, oD.data ≠ .cell v)
    (c1 : ∀ y c, cl.lookup y = some c → X.env.cells.lookup y = some c) (c2 : ∀ y, (y, NameKind.free) ∈ scope.names → ∃ c, cl.lookup y = some c)
    (hf : ∀ b ∈ fp, FpOk X pins H b) (hlt : ∀ b ∈ fp, b < s.heap.objs.size) (k : ∀ b o, s.heap.get? b = some o → h'.get? b = some o) (hn : h'.Ns C m) :
    Inv (cxIn X scope N' C cl s H fp) [(D, oD)] (inSt ix σ) H { s with heap := h', toks := tk } where
  ok := I.cxIn_ok S hC c1 c2 hf hlt
  os := rfl
  bare := I.bare
  base := Un.kept k
  loc := by
    refine ⟨m, hn, fun j y v e1 e2 e3 => ?_⟩
    obtain ⟨i, h1, h2⟩ := inSt_get e2
    obtain ⟨z, hz1, hz2, hz3⟩ := S.cap j i h1
    change N'[j]? = some y at e1
    rw [e1] at hz1
    cases hz1
    have hk := S.free y hz3
    obtain ⟨m0, hn0, hl⟩ := I.loc
    obtain ⟨u, ru, lk⟩ := hl i y v hz2 h2 (.inr (.inl hk))
    refine ⟨u, ru, .inr ⟨?_, ?_⟩⟩
    · exact lookup_relabel_free (env := X.env) (S.frees y hz3)
    · rcases lk with ⟨k1, _⟩ | ⟨_, c, hc, ic⟩
      · rw [show X.env.kindOf y = some .cell from hk] at k1; cases k1
      · obtain ⟨c', hc'⟩ := c2 y hz3
        have := c1 y c' hc'
        rw [hc] at this
        cases this
        obtain ⟨o, ho, hd⟩ := ic
        exact ⟨c, hc', o, k _ _ ho, hd⟩
  cell := fun y c e => by
    obtain ⟨v, o, ho, hd⟩ := I.cell y c (c1 y c e)
    exact ⟨v, o, k _ _ ho, hd⟩
  free := I.hok.fresh hC
  freeC := fun y c e => I.freeC y c (c1 y c e)
  pin := fun p hp => by
    have e : p = (D, oD) := by
      rcases List.mem_append.mp hp with z | z
      · cases z
      · exact List.mem_singleton.mp z
    subst e
    refine ⟨eD, I.hok.fresh hD, hDC, fun z => ?_, dD⟩
    rcases List.mem_cons.mp (I.stkSub D z) with q | q
    · exact absurd (Nat.lt_of_lt_of_le I.lt hD) (by rw [show D = X.env.locals from q]; exact Nat.lt_irrefl _)
    · exact I.nofs hD q
  hok := I.hok.kept k
  len := by
    show (inSt ix σ).length = N'.length
    unfold inSt
    rw [List.length_map]
    exact S.len

end

section
variable {prog : Program} {w : World} {A : Around} {R : Result → Shared → Prop} {s : Shared}
theorem compLoop_any {elt target iter : Expr} {ifs : List Expr} {scope : Scope} {pos : Pos} {it acc : Value} {env : Env} (I : Nat → Shared → Prop)
    (turn : ∀ n s, I n s → wpAny (model prog w) A (pyNext it) (fun r s₁ => match r with
      | none => R (.ok .next) s₁
      | some v => wpAny (model prog w) A (letOwnedTupleGo target it v) (fun _ s₁' => wpAny (model prog w) A (assign target env v) (fun _ s₂ =>
          wpAny (model prog w) A (forIn ifs true fun c r => if r = true then do let ok ← isTrue c env (eval c env); pure (ForInStep.yield ok) else pure (ForInStep.yield r)) (fun ok s₃ =>
            if ok = true then wpAny (model prog w) A (eval elt env) (fun x s₄ =>
              wpAny (model prog w) A (call (.builtin "list.append") [acc, x]) (fun _ s₅ => ∃ m, m < n ∧ I m s₅) (fun _ _ => False) s₄) (fun _ _ => False) s₃
            else ∃ m, m < n ∧ I m s₃) (fun _ _ => False) s₂) (fun _ _ => False) s₁') (fun _ _ => False) s₁) (fun _ _ => False) s)
    (n : Nat) (h : I n s) :
    codeAny (model prog w) A (.compLoop (.ListComp elt [⟨target, iter, ifs, 0⟩] scope pos) 0 it acc env) R s := by
  refine codeAny_loop rfl I (fun n s hI => ?_) n h
  show wpAny _ A ((compTurn (.ListComp elt [⟨target, iter, ifs, 0⟩] scope pos) 0 it acc env).onRaise (fun x => do noteFrame x env; theTreesLotGoes x)) _ _ s
  refine wpAny_noted ?_
  rw [compTurn_list]
  refine wpAny_bind (wpAny_standAt (wpAny_bind (wpAny_mono (turn n s hI) (fun r s₁ h₁ => ?_) fun _ _ h' => h'.elim)))
  cases r with
  | none => exact wpAny_pure h₁
  | some v =>
    refine wpAny_bind (wpAny_mono h₁ (fun _ s₁' h₁' => ?_) fun _ _ h' => h'.elim)
    refine wpAny_bind (wpAny_mono h₁' (fun _ s₂ h₂ => wpAny_bind (wpAny_mono h₂ (fun ok s₃ h₃ => ?_) fun _ _ h' => h'.elim)) fun _ _ h' => h'.elim)
    cases ok with
    | false => exact wpAny_pure ⟨rfl, h₃⟩
    | true =>
      exact wpAny_bind (wpAny_bind (wpAny_mono h₃ (fun x s₄ h₄ => wpAny_bind (wpAny_mono h₄ (fun _ s₅ h₅ => wpAny_pure (wpAny_pure ⟨rfl, h₅⟩)) fun _ _ h' => h'.elim)) fun _ _ h' => h'.elim))
end

/-- the tests of a clause -/
def PIfs (X : Cx) (ifs : List Expr) (t : TT) : Prop :=
  ∀ (pins : List (Addr × Obj)) (s : Shared) (σ : St) (H : Hp) (Q : Bool → Hp → Prop), Inv X pins σ H s → t σ H Q →
    wpAny (model X.prog X.w) X.A (forIn ifs true fun c r => if r = true then do let ok ← isTrue c X.env (eval c X.env); pure (ForInStep.yield ok) else pure (ForInStep.yield r)) (TP X pins σ Q) X.xe s
def tYes : TT := fun _ H Q => Q true H
theorem pf_nil {X : Cx} : PIfs X [] tYes := fun _ _ _ H _ I h => wpAny_tests_nil ⟨H, I, h⟩
theorem pf_one {X : Cx} {c : Expr} {t : TT} (h : PT X c t) : PIfs X [c] t := fun pins s σ H Q I q => wpAny_tests_one (h pins s σ H Q I q)

/-- what the walk of a comprehension asks: W by the turn, a measure, the items so far, the heap -/
def CompW (σ' : St) (j : Nat) (ti : TT) (te : TE) (Q : VK) (J : It) (H : Hp) : Prop :=
  ∃ W : Nat → Nat → List V → Hp → Prop, (∃ m, W 0 m [] H) ∧ ∀ i m ys H, W i m ys H →
    (J.stop i H ∧ ∀ D, H D = none → Q (.ref D) (upd H D (.lst ys))) ∨
    (J.go i H ∧ ys.length < sizeLine ∧ ∃ N : List V → Hp → Prop, (∀ ys' H', N ys' H' → ∃ m', m' < m ∧ W (i + 1) m' ys' H') ∧
      ∀ x H', J.yld i H x H' → ti (σ'.set j (some x)) H' fun b H2 => if b = true then te (σ'.set j (some x)) H2 fun y H3 => N (ys ++ [y]) H3 else N ys H2)
def tComp (ix : List (Option Nat)) (wi : TI) (j : Nat) (ti : TT) (te : TE) : TE := fun σ H Q => wi σ H fun J H1 => CompW (inSt ix σ) j ti te Q J H1

def CompT (σ' : St) (g : TG) (ti : TT) (te : TE) (Q : VK) (J : It) (H : Hp) : Prop :=
  ∃ W : Nat → Nat → List V → Hp → Prop, (∃ m, W 0 m [] H) ∧ ∀ i m ys H, W i m ys H →
    (J.stop i H ∧ ∀ D, H D = none → Q (.ref D) (upd H D (.lst ys))) ∨
    (J.go i H ∧ ys.length < sizeLine ∧ ∃ N : List V → Hp → Prop, (∀ ys' H', N ys' H' → ∃ m', m' < m ∧ W (i + 1) m' ys' H') ∧
      ∀ x H', J.yld i H x H' → g x σ' H' fun σ2 H1 => (σ2.length = σ'.length ∧ ∀ (k : Nat) z, σ'[k]? = some (some z) → σ2[k]? = some (some z)) ∧ ti σ2 H1 fun b H2 => if b = true then te σ2 H2 fun y H3 => N (ys ++ [y]) H3 else N ys H2)
def tCompT (ix : List (Option Nat)) (wi : TI) (g : TG) (ti : TT) (te : TE) : TE := fun σ H Q => wi σ H fun J H1 => CompT (inSt ix σ) g ti te Q J H1
section
variable {X : Cx} {pins : List (Addr × Obj)} {σ : St} {H : Hp} {s : Shared} {tg elt iter : Expr} {g : TG} {ifs : List Expr} {scope : Scope} {pos : Pos} {N' : List Str} {ix : List (Option Nat)} {wi : TI} {ti : TT} {te : TE}
theorem comp_runT {it : Addr} {fp : List Addr} {tn : Nat → Heap → Prop} {J : It} {cl : List (Str × Addr)} {E : Value → Shared → Prop} {RR : Value → Addr → Result → Shared → Prop} {Q : VK}
    (S : CompSc X.N X.env.scope scope N' ix) (hg : ∀ C cl s H fp, N'.Nodup → PG (cxIn X scope N' C cl s H fp) tg g) (hc : X.calm = true)
    (ht : ∀ C cl s H fp, PIfs (cxIn X scope N' C cl s H fp) ifs ti) (he : ∀ C cl s H fp, PE (cxIn X scope N' C cl s H fp) elt te)
    (c1 : ∀ y c, cl.lookup y = some c → X.env.cells.lookup y = some c) (c2 : ∀ y, (y, NameKind.free) ∈ scope.names → ∃ c, cl.lookup y = some c)
    (I : Inv X pins σ H s) (T : Turn X.prog X.w X.K tg J fp it tn) (st : tn 0 s.heap) (hf : ∀ b ∈ fp, FpOk X pins H b) (hW : CompT (inSt ix σ) g ti te Q J H)
    (hRR : ∀ D C H' s' m', Inv X pins σ H' s' → s'.heap.Ns C m' → Loose X pins H' C → s.heap.objs.size ≤ C → Q (.ref D) H' → RR (.ref D) C (.ok .next) s') :
    wpAny (model X.prog X.w) X.A (newList []) (fun acc s₃ => wpAny (model X.prog X.w) X.A (newFunctionEnv scope X.env.globals cl [] X.env.qual none .none (some X.env)) (fun cenv s₄ =>
      codeAny (model X.prog X.w) X.A (.compStart (.ListComp elt [⟨tg, iter, ifs, 0⟩] scope pos) 0 (.ref it) acc { cenv with scope := relabel scope X.env }) (RR acc cenv.locals) s₄) E s₃) E s := by
  obtain ⟨W, ⟨m0, w0⟩, turn⟩ := hW
  have hlt : ∀ b ∈ fp, b < s.heap.objs.size := fun b hb => let ⟨_, e, _⟩ := T.obj _ _ st b hb; Heap.lt_size e
  refine wpAny_newObj_type (wpAny_newFunctionEnv S.nocell (by intro y hy; simp at hy) (fun h₁ hns₁ hsb₁ => ?_) S.kind)
  dsimp only at hns₁ hsb₁ ⊢
  generalize hH2 : s.heap.push { cls := .type "list", dict := none, data := .seq ([] : List Value).toArray } = H2 at hns₁ hsb₁ ⊢
  have hC : H2.objs.size = s.heap.objs.size + 1 := by rw [← hH2, Heap.size_push]
  have hDC : s.heap.objs.size ≠ H2.objs.size := by rw [hC]; exact Nat.ne_of_lt (Nat.lt_succ_self _)
  have hCle : s.heap.objs.size ≤ H2.objs.size := by rw [hC]; exact Nat.le_succ _
  have old : ∀ b o, s.heap.get? b = some o → h₁.get? b = some o := fun b o e => hsb₁.extBut b o (by rw [hC]; exact Nat.ne_of_lt (Nat.lt_succ_of_lt (Heap.lt_size e))) (Heap.get?_push_of_some _ (hH2 ▸ Heap.get?_push_of_some _ e))
  have hacc : h₁.get? s.heap.objs.size = some { cls := .type "list", data := .seq ([] : List Value).toArray 0 } := hsb₁.extBut _ _ hDC (Heap.get?_push_of_some _ (hH2 ▸ Heap.get?_push_size _ rfl))
  have st1 : tn 0 h₁ := T.keep _ _ _ st fun b hb o e => old b o e
  have loop : ∀ s₃ : Shared, s₃ = { s with heap := h₁, toks := s.toks + ([] : List (Str × Value)).length } →
      codeAny (model X.prog X.w) X.A (.compLoop (.ListComp elt [⟨tg, iter, ifs, 0⟩] scope pos) 0 (.ref it) (.ref s.heap.objs.size) (compEnvC scope cl H2.objs.size X.env))
        (RR (.ref s.heap.objs.size) H2.objs.size) s₃ := by
    rintro s₃ rfl
    -- the block's context
    generalize hX' : cxIn X scope N' H2.objs.size cl s H fp = X'
    have I0 : Inv X' [(s.heap.objs.size, { cls := .type "list", data := .seq ([] : List Value).toArray 0 })] (inSt ix σ) H { s with heap := h₁, toks := s.toks + ([] : List (Str × Value)).length } := by
      rw [← hX']
      exact I.cxIn S hCle (Nat.le_refl _) hDC hacc (fun v z => by cases z) c1 c2 hf hlt old hns₁
    have stat : ∀ {H' : Hp} {o : Obj}, (∀ b ∈ fp, H' b = none) → ∀ b ∈ fp, FpOk X' [(s.heap.objs.size, o)] H' b := fun {H' o} hn b hb => by
      rw [← hX']
      refine ⟨hn b hb, Nat.ne_of_lt (Nat.lt_of_lt_of_le (hlt b hb) hCle), fun z => ?_, .inl hb, fun y c e => (hf b hb).2.2.2.2.1 y c (c1 y c e), fun p hp z => ?_⟩
      · rcases List.mem_cons.mp (I.stkSub b z) with q | q
        · exact (hf b hb).2.1 q
        · exact (hf b hb).2.2.1 q
      · have e : p = (s.heap.objs.size, o) := by
          rcases List.mem_append.mp hp with q | q
          · cases q
          · exact List.mem_singleton.mp q
        subst e
        exact absurd (hlt b hb) (by rw [← z]; exact Nat.lt_irrefl _)
    have xP : X'.prog = X.prog := by rw [← hX']; rfl
    have xw : X'.w = X.w := by rw [← hX']; rfl
    have xK : X'.K = X.K := by rw [← hX']; rfl
    have xc : X'.calm = true := by rw [← hX']; exact hc
    have xA : X'.A = X.A := by rw [← hX']; rfl
    have xe : X'.env = compEnvC scope cl H2.objs.size X.env := by rw [← hX']; rfl
    have xx : X'.xe = fun _ _ => False := by rw [← hX']; rfl
    have xN : X'.N = N' := by rw [← hX']; rfl
    have ht' : PIfs X' ifs ti := by rw [← hX']; exact ht _ _ _ _ _
    have he' : PE X' elt te := by rw [← hX']; exact he _ _ _ _ _
    have hg' : PG X' tg g := by rw [← hX']; exact hg _ _ _ _ _ S.nd
    rw [← xA, ← xP, ← xw, ← xe]
    refine compLoop_any (fun k s' => ∃ i ys us n H', Inv X' [(s.heap.objs.size, { cls := .type "list", data := .seq (us : List Value).toArray n })] (inSt ix σ) H' s' ∧ Vals ys us ∧ ys.length ≤ sizeLine ∧ tn i s'.heap ∧ (∀ b ∈ fp, H' b = none) ∧ W i k ys H') ?_ m0
      ⟨0, [], [], 0, H, I0, .nil, Nat.zero_le _, st1, fun b hb => (hf b hb).1, w0⟩
    rintro k s3 ⟨i, ys, us, n, H3, I3, rv, hz, st3, fr3, w3⟩
    rcases turn i k ys H3 w3 with ⟨stop, qn⟩ | ⟨go, hz', N, hN, step⟩
    · rw [← xP, ← xw, ← xK] at T
      refine thn (T.done X' rfl rfl rfl xc i _ s3 (inSt ix σ) H3 _ I3 (stat fr3) st3 stop) fun r s4 ⟨hr, I4⟩ => ?_
      subst hr
      obtain ⟨m', hn', _⟩ := id I4.loc
      rw [xe] at hn'
      obtain ⟨eD, nD, _⟩ := I4.pin _ (List.mem_append_right _ List.mem_cons_self)
      have un : Un (frs X.stack) fp H H3 s.heap s4.heap := by have := I4.base; rw [← hX'] at this; exact this
      have os : s4.os = s.os := by have := I4.os; rw [← hX'] at this; exact this
      have hok : HOk X.prog X.w H3 s4.heap := by have := I4.hok; rw [xP, xw] at this; exact this
      have hCn : H3 H2.objs.size = none := by have := I4.free; rw [xe] at this; exact this
      have I5 : Inv X pins σ H3 s4 := I.call' os un hok I4.bare fun b hb => let ⟨_, a, _, c, d, e⟩ := hf b hb; ⟨c, a, d, e⟩
      have lD : Loose X pins H3 s.heap.objs.size := I.loose (Nat.le_refl _) nD
      have I6 := I5.adopt (o := .lst ys) lD.no lD.ab lD.nl lD.nc lD.np ⟨hz, us, n, rv, eD⟩
      exact hRR _ _ _ _ m' I6 hn' (I.loose hCle (by rw [upd_ne (Ne.symm hDC)]; exact hCn)) hCle (qn _ nD)
    · have T' := T
      rw [← xP, ← xw, ← xK] at T'
      refine thn (T'.item X' rfl rfl rfl xc i _ s3 (inSt ix σ) H3 _ I3 (stat fr3) st3 go) fun r s4 ⟨u, hr, h4⟩ => ?_
      subst hr
      refine thn h4 fun _ s5 ⟨v, H5, I5, r5, y5, st5, fr5⟩ => ?_
      have I5' := I5.pinned (stat fr5) (T.obj _ _ st5)
      have t5 := hg' _ s5 _ H5 v u _ I5' r5 (step v H5 y5)
      rw [xx] at t5
      refine thn t5 fun _ s6 ⟨σ6, H6, I6, ⟨kl, kw⟩, q6⟩ => ?_
      have t6 := ht' _ s6 _ H6 _ I6 q6
      rw [xx] at t6
      refine thn t6 fun ok s7 ⟨H7, I7, q7⟩ => ?_
      have weak : ∀ {H8 : Hp} {s8 : Shared}, Inv X' ([(s.heap.objs.size, { cls := .type "list", data := .seq us.toArray n })] ++ pinsAt fp s5.heap) σ6 H8 s8 →
          Inv X' ([(s.heap.objs.size, { cls := .type "list", data := .seq us.toArray n })] ++ pinsAt fp s5.heap) (inSt ix σ) H8 s8 ∧ tn (i + 1) s8.heap ∧ ∀ b ∈ fp, H8 b = none := fun {H8 s8} I8 => by
        refine ⟨I8.weak kl.symm kw, T.keep _ _ _ st5 fun b hb o e => (I8.pin (b, o) (List.mem_append_right _ (List.mem_append_right _ (mem_pinsAt hb e)))).1, fun b hb => ?_⟩
        · obtain ⟨o, e, d⟩ := T.obj _ _ st5 b hb
          exact (I8.pin (b, o) (List.mem_append_right _ (List.mem_append_right _ (mem_pinsAt hb e)))).2.1
      cases ok with
      | false =>
        have q7' : N ys H7 := q7
        obtain ⟨m', hm, w7⟩ := hN ys H7 q7'
        obtain ⟨J7, st7, fr7⟩ := weak I7
        exact ⟨m', hm, i + 1, ys, us, n, H7, J7.unpinned, rv, hz, st7, fr7, w7⟩
      | true =>
        have q7' : te σ6 H7 fun y H3 => N (ys ++ [y]) H3 := q7
        have t8 := he' _ s7 _ H7 _ I7 q7'
        rw [xx] at t8
        show wpAny _ _ _ _ _ _
        refine thn t8 fun uy s8 ⟨y, H8, I8, r8, n8⟩ => ?_
        obtain ⟨m', hm, w8⟩ := hN _ _ n8
        obtain ⟨J8, st8, fr8⟩ := weak I8
        have K8 := J8.unpinned
        obtain ⟨eD, nD, neL, nfs, _⟩ := K8.pin _ (List.mem_append_right _ List.mem_cons_self)
        have hl := rv.length
        refine call_meets F.slot_list_append ⟨_, eD, rfl⟩ F.entry_list_append (F.args_list_append_2 _ _) (PySem.list_append s.heap.objs.size us.toArray n uy (by rw [List.size_toArray]; omega)) ⟨eD, ?_⟩
        have eD2 := PySem.IsL.update eD (·.push uy)
        have dD : ∀ p ∈ X'.pn ++ [], p.1 ≠ s.heap.objs.size := fun p hp => by
          rw [← hX'] at hp
          rcases List.mem_append.mp hp with q | q <;> cases q
        have K0 : Inv X' [] (inSt ix σ) H8 s8 := K8.pins_of fun p hp => by cases hp
        have K9 := K0.turned (t' := s8.toks) (h' := s8.heap.update s.heap.objs.size (Obj.mapSeq (·.push uy))) (it := s.heap.objs.size) (fun b o hb q => (Heap.get?_update_other s8.heap _ (Ne.symm hb)).trans q) nD neL (.inr (by rw [← hX']; exact Nat.le_refl _)) (fun y' c e z => by
          rw [xe] at e
          obtain ⟨v', q⟩ := I.cell y' c (c1 y' c e)
          exact absurd q.lt (by rw [z]; exact Nat.lt_irrefl _)) dD
        refine ⟨m', hm, i + 1, ys ++ [y], us ++ [uy], (if ((us.toArray.push uy).size == us.toArray.size) = true then n else n + 1), H8, K9.pins_of fun p hp => ?_, rv.append (.cons r8 .nil), by rw [List.length_append, List.length_singleton]; omega, ?_, fr8, w8⟩
        · have e := List.mem_singleton.mp hp
          subst e
          exact ⟨by rw [show (us ++ [uy]).toArray = us.toArray.push uy by simp]; exact eD2, nD, neL, nfs, fun v z => by cases z⟩
        · exact T.keep _ _ _ st8 fun b hb o e => (Heap.get?_update_other s8.heap _ (Nat.ne_of_gt (hlt b hb))).trans e
  exact codeAny_compStart_list (loop _ rfl) (T.self X.A 0 _ _ _ st1 (loop _ rfl))

end
section
variable {X : Cx} {pins : List (Addr × Obj)} {σ : St} {H : Hp} {s : Shared} {x : Str} {px : Pos} {elt iter : Expr} {ifs : List Expr} {scope : Scope} {pos : Pos} {N' : List Str} {ix : List (Option Nat)} {j : Nat} {wi : TI} {ti : TT} {te : TE}
theorem compW_T {Q : VK} {J : It} {H : Hp} (hij : ix[j]? = some none) (h : CompW (inSt ix σ) j ti te Q J H) : CompT (inSt ix σ) (gName j) ti te Q J H := by
  obtain ⟨W, w0, turn⟩ := h
  refine ⟨W, w0, fun i m ys H w => ?_⟩
  rcases turn i m ys H w with z | ⟨go, hz, N, hN, step⟩
  · exact .inl z
  · refine .inr ⟨go, hz, N, hN, fun x H' y => ⟨⟨by simp, fun k z e => ?_⟩, step x H' y⟩⟩
    by_cases hk : j = k
    · subst hk
      exfalso
      obtain ⟨i', q1, _⟩ := inSt_get e
      rw [hij] at q1
      cases q1
    · rw [List.getElem?_set_ne hk]; exact e
theorem pg_own {C : Addr} {cl : List (Str × Addr)} {s : Shared} {H : Hp} {fp : List Addr} (nd : N'.Nodup) (hj : N'[j]? = some x) (hx : scope.names.lookup x = some .local) : PG (cxIn X scope N' C cl s H fp) (.Name x px) (gName j) :=
  pg_name nd hj (.inl (lookup_relabel_local hx)) (.inr (lookup_relabel_local hx))
theorem comp_clos (I : Inv X pins σ H s) (S : CompSc X.N X.env.scope scope N' ix) : ∃ cl, closureFor scope X.env = pure cl ∧ (∀ y c, cl.lookup y = some c → X.env.cells.lookup y = some c) ∧ ∀ y, (y, NameKind.free) ∈ scope.names → ∃ c, cl.lookup y = some c :=
  closureFor_ok fun ⟨n, k⟩ hy hk => by
    dsimp only at hk
    subst hk
    exact I.ok.has n (.inl (S.free n hy))
/-- [elt for x in iter if ..] -/
theorem pe_comp {N' : List Str} {ix : List (Option Nat)} (S : CompSc X.N X.env.scope scope N' ix) (hj : N'[0]? = some x) (hij : ix[0]? = some none) (hx : scope.names.lookup x = some .local) (hc : X.calm = true) (hi : PI X (.Name x px) iter wi)
    (ht : ∀ C cl s H fp, PIfs (cxIn X scope N' C cl s H fp) ifs ti) (he : ∀ C cl s H fp, PE (cxIn X scope N' C cl s H fp) elt te) (hs : ∀ x, foldedSetIterable iter X.env x = pure x) :
    PE X (.ListComp elt [⟨.Name x px, iter, ifs, 0⟩] scope pos) (tComp ix wi 0 ti te) := by
  intro pins s σ H Q I h
  rw [eval_ListComp]
  obtain ⟨cl, hcl, c1, c2⟩ := comp_clos I S
  refine wpAny_comprehension_free (use := none) rfl hs hcl S.kind S.names (thn (hi pins s σ H _ I h) fun v s1 h1 => thn h1 fun itv s2 h2 => ?_)
  obtain ⟨it, fp, tn, J, H2, e, I2, T, st2, f2, hW⟩ := h2
  subst e
  refine comp_runT (RR := fun acc C => compPost (model X.prog X.w) X.A X.xe none (EP X pins σ Q) acc C) S (fun _ _ _ _ _ nd => pg_own nd hj hx) hc ht he c1 c2 I2 T st2 f2 (compW_T hij hW) fun D C H' s' m' I' hn lo _ q => ?_
  exact ⟨m', hn, fun h' hs' => ⟨.ref D, H', I'.same lo hs' rfl, rfl, q⟩⟩
/-- y = [elt for x in iter if ..], y a plain local name -/
theorem ps_setComp {y : Str} {py spos : Pos} {i : Nat} {N' : List Str} {ix : List (Option Nat)} (hN : X.N.Nodup) (hi' : X.N[i]? = some y) (hy : X.env.scope.names.lookup y = some .local)
    (S : CompSc X.N X.env.scope scope N' ix) (hj : N'[0]? = some x) (hij : ix[0]? = some none) (hx : scope.names.lookup x = some .local) (hc : X.calm = true) (hi : PI X (.Name x px) iter wi)
    (ht : ∀ C cl s H fp, PIfs (cxIn X scope N' C cl s H fp) ifs ti) (he : ∀ C cl s H fp, PE (cxIn X scope N' C cl s H fp) elt te)
    (hsw : swapsWith (.ListComp elt [⟨.Name x px, iter, ifs, 0⟩] scope pos) (some (.Name y py)) spos.line X.env = pure true := by rfl) (hs : ∀ x, foldedSetIterable iter X.env x = pure x := by intro _; rfl) :
    PS X (.Assign [.Name y py] (.ListComp elt [⟨.Name x px, iter, ifs, 0⟩] scope pos) spos) (tAsg (tComp ix wi 0 ti te) (gName i)) := by
  intro pins s σ H D I h
  obtain ⟨cl, hcl, c1, c2⟩ := comp_clos I S
  rw [exec_Assign_Name_used _ _ _ _ hsw]
  refine wpAny_bind (wpAny_standAt (wpAny_bind ?_))
  show wpAny _ X.A (do let _ ← comprehension (.ListComp elt [⟨.Name x px, iter, ifs, 0⟩] scope pos) scope X.env _ (newList []) false (eval iter X.env) (some (assign (.Name y py) X.env))) _ _ s
  refine wpAny_bind (wpAny_mono (wpAny_comprehension_free (use := some (assign (.Name y py) X.env)) (Q := fun _ s' => SP X pins D .next s') rfl hs hcl S.kind S.names
    (thn (hi pins s σ H _ I h) fun v s1 h1 => thn h1 fun itv s2 h2 => ?_)) (fun _ s' hq => wpAny_pure (wpAny_pure hq)) fun _ _ e => e)
  obtain ⟨it, fp, tn, J, H2, e, I2, T, st2, f2, hW⟩ := h2
  subst e
  refine comp_runT (RR := fun acc C => compPost (model X.prog X.w) X.A X.xe (some (assign (.Name y py) X.env)) (fun _ s' => SP X pins D .next s') acc C) S (fun _ _ _ _ _ nd => pg_own nd hj hx) hc ht he c1 c2 I2 T st2 f2 (compW_T hij hW) fun D' C H' s' m' I' hn lo hC q => ?_
  show wpAny _ X.A (assign (.Name y py) X.env (.ref D')) _ _ _
  refine wpAny_assign_Name (store_ok2 (i := i) (v := .ref D') I' hN hi' (.inl hy) rfl (fun s3 I3 ⟨a, sb, ha⟩ => ?_) (.inr hy))
  have hCa : C ≠ a := by
    rcases ha with z | z
    · rw [z]; exact lo.nl
    · exact Ne.symm (lo.nc _ _ z)
  refine ⟨m', hn.sameBut sb hCa, fun h' hs' => ?_⟩
  exact ⟨_, H', I3.same lo hs' rfl, q⟩
end

end L2

set_option Elab.async false
set_option linter.all false
set_option maxRecDepth 100000
set_option maxHeartbeats 4000000
namespace L2
open PySem PySem.Spec PyProof.Rows

section
variable {X : Cx}
def clsV : V → Option Value
  | .ty n => some (.type n)
  | .ref a => some (.ref a)
  | _ => none
theorem clsV_rel {x : V} {c u : Value} (h : clsV x = some c) (r : RelV x u) : u = c := by
  cases x <;> first | (cases h; exact r) | cases h
def rIsi (K : PySem.W.Frag) : List V → Hp → VK → Prop := fun xs H Q => ∃ x t cv c b, xs = [x, cv] ∧ clsV cv = some c ∧ TyOf K H x t ∧ PySem.W.kitOne K t c = some b ∧ Q (.bl b) H
theorem call_isi : CallR X (.builtin "isinstance") (rIsi X.K) := by
  intro pins s σ H xs us Q I r h
  obtain ⟨x, t, cv, c, b, rfl, hc, ty, e, q⟩ := h
  obtain ⟨u, w', rfl, ru, rc⟩ := vals2 r
  have ec := clsV_rel hc rc
  subst ec
  exact isinst_ok I ru ty e fun tk => ⟨.bl b, H, I.tok tk, rfl, q⟩

def rInsert : V → List V → Hp → VK → Prop := fun x vs H Q => ∃ l xs i y, x = .ref l ∧ vs = [.int i, y] ∧ H l = some (.lst xs) ∧ 0 ≤ i ∧ i ≤ (xs.length : Int) ∧ xs.length < sizeLine ∧ Q .non (upd H l (.lst (xs.take i.toNat ++ y :: xs.drop i.toNat)))
theorem mt_insert : MtM X "list.insert" rInsert := by
  intro pins s σ H x vs v us Q I rx rv h
  obtain ⟨l, xs, i, y, rfl, rfl, hH, h0, h1, hz, q⟩ := h
  cases rx
  obtain ⟨ui, u, rfl, ri, ru⟩ := rv.two
  obtain ⟨t, rfl⟩ := ri
  obtain ⟨z, its, n, r, hl, e⟩ := I.lstM hH
  have hsz : sizeLine = 16777216 := sizeLine_eq
  have hf : Builtin.List.listFitsIndex i = true := by
    unfold Builtin.List.listFitsIndex
    simp only [Bool.and_eq_true, decide_eq_true_eq]
    omega
  refine call_meets PySem.F.slot_list_insert ⟨_, e, rfl⟩ PySem.F.entry_list_insert (PySem.F.args_list_insert_3 _ _ _) (PySem.AutoSeq1.list_insert_list_int_val_1 l its.toArray n i t u (by simp [hf]) (by rw [List.size_toArray]; omega)) ⟨e, ?_⟩
  refine ⟨.non, _, I.lset (its' := its.take i.toNat ++ u :: its.drop i.toNat) hH e ?_ ((r.take _).append (.cons ru (r.drop _))) ?_, rfl, q⟩
  · have hk : (if i < 0 then (i + ((its.toArray.size : Nat) : Int)).toNat else min i.toNat its.toArray.size) = i.toNat := by
      rw [if_neg (by omega), List.size_toArray]
      omega
    dsimp only
    rw [hk]
    apply Array.ext'
    simp
    exact List.take_of_length_le (by simp)
  · simp only [List.length_append, List.length_cons, List.length_take, List.length_drop]
    omega

theorem call_sum (hc : X.calm = true) : CallR X (.builtin "sum") (fun xs H Q => ∃ (p : Addr) (ns : List Int), xs = [.ref p] ∧ SqL X.K H p (ns.map V.int) ∧ Q (.int ns.sum) H) := by
  intro pins s σ H xs us Q I r h
  obtain ⟨p, ns, rfl, hq, q⟩ := h
  obtain ⟨u, rfl, rx⟩ := vals1 r
  cases rx
  obtain ⟨its, rv, pl, hz⟩ := I.list hq
  have hi := intsAre_of rv
  obtain ⟨xs', hx⟩ := hi.allInts.items
  have hl' : s.heap.IsList p (intItems xs') := hx ▸ pl.isList
  refine sum_intListG (I.ok.hd hc) hl' fun h' tk t' hk => ?_
  have e1 : ns = xs'.toList.map (·.1) := by
    rw [← nums_intItems, ← hx]
    exact (show numsOf its.toArray.toList = ns from hi.numsOf).symm
  have e2 : preSum (numAt xs') xs'.size = ns.sum := by
    rw [preSum_eq, List.take_of_length_le (by simp), e1]
  rw [e2]
  exact ⟨.int ns.sum, H, I.kept hk, ⟨_, rfl⟩, q⟩
theorem bools_of {bs : List Bool} : ∀ {us : List Value}, Vals (bs.map V.bl) us → ∀ (i : Nat) v, us[i]? = some v → ∃ b, bs[i]? = some b ∧ v = .bool b := by
  intro us r i v e
  have hl := r.length
  have hi : i < us.length := (List.getElem?_eq_some_iff.mp e).1
  rw [List.length_map] at hl
  have hb : bs[i]? = some bs[i] := List.getElem?_eq_getElem (by omega)
  obtain ⟨u, e2, ru⟩ := r.get (i := i) (x := V.bl bs[i]) (by rw [List.getElem?_map, hb]; rfl)
  rw [e] at e2
  cases e2
  exact ⟨_, hb, ru⟩
theorem range_all_bs (bs : List Bool) : ((List.range bs.length).all fun i => (bs[i]?).getD true) = bs.all id := by
  rw [Bool.eq_iff_iff, List.all_eq_true, List.all_eq_true]
  constructor
  · intro h b hb
    obtain ⟨i, hi, rfl⟩ := List.getElem_of_mem hb
    have := h i (List.mem_range.mpr hi)
    simpa [List.getElem?_eq_getElem hi] using this
  · intro h i hi
    have hi' := List.mem_range.mp hi
    simpa [List.getElem?_eq_getElem hi'] using h _ (List.getElem_mem hi')
theorem range_any_bs (bs : List Bool) : ((List.range bs.length).any fun i => (bs[i]?).getD false) = bs.any id := by
  rw [Bool.eq_iff_iff, List.any_eq_true, List.any_eq_true]
  constructor
  · rintro ⟨i, hi, e⟩
    have hi' := List.mem_range.mp hi
    simp only [List.getElem?_eq_getElem hi', Option.getD_some] at e
    exact ⟨_, List.getElem_mem hi', e⟩
  · rintro ⟨b, hb, e⟩
    obtain ⟨i, hi, rfl⟩ := List.getElem_of_mem hb
    exact ⟨i, List.mem_range.mpr hi, by simp only [List.getElem?_eq_getElem hi, Option.getD_some]; exact e⟩
theorem iter_kept {s : Shared} {h' : Heap} {o : Obj} (hk : ∀ b x, b ∉ [s.heap.objs.size] → (s.heap.push o).get? b = some x → h'.get? b = some x) : ∀ b x, s.heap.get? b = some x → h'.get? b = some x :=
  fun b x e => hk b x (fun hm => by rw [List.mem_singleton.mp hm] at e; exact Nat.lt_irrefl _ (Heap.lt_size e)) (Heap.get?_push_of_some _ e)
theorem call_all (hc : X.calm = true) : CallR X (.builtin "all") (fun xs H Q => ∃ (p : Addr) (bs : List Bool), xs = [.ref p] ∧ SqL X.K H p (bs.map V.bl) ∧ Q (.bl (bs.all id)) H) := by
  intro pins s σ H xs us Q I r h
  obtain ⟨p, bs, rfl, hq, q⟩ := h
  obtain ⟨u, rfl, rx⟩ := vals1 r
  cases rx
  obtain ⟨its, rv, pl, hz⟩ := I.list hq
  have hl := pl.isList
  have hlt : p < s.heap.objs.size := by obtain ⟨_, e, _⟩ := hl; exact Heap.lt_size e
  have hlen : bs.length = its.length := by have := rv.length; rw [List.length_map] at this; exact this
  refine call_all_walk (wpAny_pyIter_list hl ?_)
  refine ⟨s.heap.objs.size, [s.heap.objs.size, p], [s.heap.objs.size], its.toArray.size, _, _, fun i => (bs[i]?).getD true, rfl, Walks.list (A := X.A.in1) (I.ok.hd hc) _ p (Nat.ne_of_lt hlt) its.toArray,
    ⟨⟨_, Heap.get?_push_size _ rfl, rfl, rfl⟩, hl.push _⟩, fun i v s' Q' E' hP hQ => ?_, fun h' tk hk => ?_⟩
  · obtain ⟨b, e, rfl⟩ := bools_of rv i v (by simpa using hP)
    simp only [e, Option.getD_some] at hQ
    exact wpAny_truthy_bool hQ
  · have e : ((List.range its.toArray.size).all fun i => (bs[i]?).getD true) = bs.all id := by
      rw [List.size_toArray, ← hlen]; exact range_all_bs bs
    rw [e]
    exact ⟨.bl _, H, I.kept (iter_kept hk), rfl, q⟩
theorem call_any (hc : X.calm = true) : CallR X (.builtin "any") (fun xs H Q => ∃ (p : Addr) (bs : List Bool), xs = [.ref p] ∧ SqL X.K H p (bs.map V.bl) ∧ Q (.bl (bs.any id)) H) := by
  intro pins s σ H xs us Q I r h
  obtain ⟨p, bs, rfl, hq, q⟩ := h
  obtain ⟨u, rfl, rx⟩ := vals1 r
  cases rx
  obtain ⟨its, rv, pl, hz⟩ := I.list hq
  have hl := pl.isList
  have hlt : p < s.heap.objs.size := by obtain ⟨_, e, _⟩ := hl; exact Heap.lt_size e
  have hlen : bs.length = its.length := by have := rv.length; rw [List.length_map] at this; exact this
  refine call_any_walk (wpAny_pyIter_list hl ?_)
  refine ⟨s.heap.objs.size, [s.heap.objs.size, p], [s.heap.objs.size], its.toArray.size, _, _, fun i => (bs[i]?).getD false, rfl, Walks.list (A := X.A.in1) (I.ok.hd hc) _ p (Nat.ne_of_lt hlt) its.toArray,
    ⟨⟨_, Heap.get?_push_size _ rfl, rfl, rfl⟩, hl.push _⟩, fun i v s' Q' E' hP hQ => ?_, fun h' tk hk => ?_⟩
  · obtain ⟨b, e, rfl⟩ := bools_of rv i v (by simpa using hP)
    simp only [e, Option.getD_some] at hQ
    exact wpAny_truthy_bool hQ
  · have e : ((List.range its.toArray.size).any fun i => (bs[i]?).getD false) = bs.any id := by
      rw [List.size_toArray, ← hlen]; exact range_any_bs bs
    rw [e]
    exact ⟨.bl _, H, I.kept (iter_kept hk), rfl, q⟩

def Itv (K : PySem.W.Frag) (a : Addr) (xs : List V) : It :=
  ⟨fun i H => i < xs.length ∧ SqL K H a xs, fun i H x H' => H' = H ∧ xs.reverse[i]? = some x, fun i _ => i = xs.length⟩
theorem turn_rev {P : Program} {w : World} {K : PySem.W.Frag} {tg : Expr} (a it : Addr) (xs : List V) : Turn P w K tg (Itv K a xs) [it] it (fun i h => h.IsRevIter it a ((xs.length : Int) - 1 - (i : Int))) where
  mem := by simp
  obj := fun i h st b hb => by
    have e : b = it := by simpa using hb
    subst e
    obtain ⟨o, e, c, d⟩ := st
    exact ⟨o, e, fun v z => by rw [d] at z; cases z⟩
  keep := fun i h h' st k => st.at fun o e => k it (by simp) o e
  item := by
    intro X hP hw hK hc i pins s σ H E I hf st hg
    subst hP hw hK
    obtain ⟨hi, hq⟩ := hg
    obtain ⟨its, rv, p, hz⟩ := I.list hq
    have hl := rv.length
    obtain ⟨u, hu, ru⟩ := rv.get (List.getElem?_eq_getElem (l := xs) (i := xs.length - 1 - i) (by omega))
    obtain ⟨f0, f1, f2, f3, f4, f5⟩ := hf it (by simp)
    have e : (xs.length : Int) - 1 - (i : Int) = ((xs.length - 1 - i : Nat) : Int) := by omega
    have st0 := st
    rw [e] at st0
    refine wpAny_pyNext_rev_item st0 p.isList (x := u) (by simpa using hu) fun h' st' sb => ?_
    have I1 : Inv X pins σ H { s with heap := h' } := I.turned (t' := s.toks) (fun b o hb e => (sb.2 b hb).trans e) f0 f1 f3 f4 f5
    have e2 : ((xs.length - 1 - i : Nat) : Int) - 1 = (xs.length : Int) - 1 - ((i + 1 : Nat) : Int) := by omega
    rw [e2] at st'
    obtain ⟨o, e, c, d⟩ := id st'
    refine ⟨u, rfl, go_of (s := { s with heap := h' }) e c d (by decide) ⟨_, H, I1, ru, ⟨rfl, ?_⟩, st', fun b hb => (hf b hb).1⟩⟩
    rw [List.getElem?_reverse hi, List.getElem?_eq_getElem (by omega)]
  done := by
    intro X hP hw hK hc i pins s σ H E I hf st hg
    subst hP hw hK
    have hg' : i = xs.length := hg
    subst hg'
    obtain ⟨f0, f1, f2, f3, f4, f5⟩ := hf it (by simp)
    have e : (xs.length : Int) - 1 - (xs.length : Int) = -1 := by omega
    have st0 := st
    rw [e] at st0
    exact wpAny_pyNext_rev_end (I.ok.hd hc) st0 fun h' eb => ⟨rfl, I.turned (t' := s.toks) (fun b o hb e => eb b o hb e) f0 f1 f3 f4 f5⟩
  self := fun _ _ _ _ _ st h => wpAny_pyIter_revIter st h
def iRev (K : PySem.W.Frag) (ta : TA) : TI := fun σ H R => ta σ H fun vs H1 => ∃ a xs, vs = [.ref a] ∧ SqL K H1 a xs ∧ R (Itv K a xs) H1
theorem pi_rev {tg a : Expr} {ta : TA} {p pos : Pos} (hg : Gl X "reversed") (hm : X.mg "reversed" = none) (ha : PA X [a] ta) (hs : starEach [a] X.env = [(false, eval a X.env)] := by rfl) : PI X tg (.Call (.Name "reversed" p) [a] [] pos) (iRev X.K ta) := by
  intro pins s σ H R I h
  refine Call_ (ld_blt I hg hm boot_reversed (PyProof.Rows.callWith_type1 (thn (ha pos pins s σ H _ I h) fun us s1 ⟨vs, H1, I1, r1, q1⟩ => ?_) hs rfl))
  obtain ⟨l, xs, e, hq, q⟩ := q1
  subst e
  obtain ⟨u, rfl, ru⟩ := vals1 r1
  cases ru
  obtain ⟨its, rv, pl, hz⟩ := I1.list hq
  have hl := rv.length
  refine call_reversed_list pl.isList ?_
  have st : (s1.heap.push (revObj l ((its.toArray.size : Int) - 1))).IsRevIter s1.heap.objs.size l ((xs.length : Int) - 1 - ((0 : Nat) : Int)) := by
    have e : (xs.length : Int) - 1 - ((0 : Nat) : Int) = (its.toArray.size : Int) - 1 := by simp only [List.size_toArray]; omega
    rw [e]
    exact ⟨_, Heap.get?_push_size _ rfl, rfl, rfl⟩
  refine wpAny_pyIter_revIter (s := { s1 with heap := s1.heap.push (revObj l ((its.toArray.size : Int) - 1)) }) st ?_
  refine ⟨s1.heap.objs.size, [s1.heap.objs.size], _, _, H1, rfl, I1.kept (t' := s1.toks) fun b o e => Heap.get?_push_of_some _ e, turn_rev l _ xs, st, fun b hb => ?_, q⟩
  have e : b = s1.heap.objs.size := by simpa using hb
  subst e
  exact I1.fpOk (Nat.le_refl _) (I1.hok.fresh (Nat.le_refl _))
end
structure Wk (J : It) (xs : List V) (H : Hp) : Prop where
  go : ∀ i H3, Same H H3 → i < xs.length → J.go i H3
  yl : ∀ i H3 x H', Same H H3 → i < xs.length → J.yld i H3 x H' → H' = H3 ∧ xs[i]? = some x
  st : ∀ H3, Same H H3 → J.stop xs.length H3
theorem wk_list {K : PySem.W.Frag} {a : Addr} {xs : List V} {H : Hp} (h : SqL K H a xs) : Wk (Itl K a) xs H where
  go := fun i H3 s hi => ⟨xs, xs[i], s.seq h, List.getElem?_eq_getElem hi⟩
  yl := fun i H3 x H' s hi y => ⟨y.1, y.2 xs (s.seq h)⟩
  st := fun H3 s => ⟨xs, s.seq h, Nat.le_refl _⟩
theorem wk_rev {K : PySem.W.Frag} {a : Addr} {xs : List V} {H : Hp} (h : SqL K H a xs) : Wk (Itv K a xs) xs.reverse H where
  go := fun i H3 s hi => ⟨by simpa using hi, s.seq h⟩
  yl := fun i H3 x H' s hi y => y
  st := fun H3 s => by show xs.reverse.length = xs.length; simp
theorem wk_range {lo : Int} {n : Nat} {H : Hp} : Wk (Itr lo n) ((List.range n).map fun (i : Nat) => V.int (lo + (i : Int))) H where
  go := fun i H3 s hi => by show i < n; simpa using hi
  yl := fun i H3 x H' s hi y => ⟨y.1, by
    have hi' : i < n := by simpa using hi
    rw [y.2, List.getElem?_map, List.getElem?_range hi']
    rfl⟩
  st := fun H3 s => by show n ≤ _; simp
/-- each item's value is told, the heap stays -/
theorem comp_pure {J : It} {xs ys : List V} {σ' : St} {j : Nat} {te : TE} {Q : VK} {H : Hp} (W : Wk J xs H) (hz : xs.length ≤ sizeLine) (hl : ys.length = xs.length)
    (hs : ∀ (i : Nat) x y, xs[i]? = some x → ys[i]? = some y → ∀ Q' : VK, Q' y H → te (σ'.set j (some x)) H Q') (hd : ∀ D, H D = none → Q (.ref D) (upd H D (.lst ys))) : CompW σ' j tYes te Q J H := by
  refine ⟨fun i m zs H3 => m = xs.length - i ∧ i ≤ xs.length ∧ H3 = H ∧ zs = ys.take i, ⟨xs.length, by simp, Nat.zero_le _, rfl, by simp⟩, ?_⟩
  rintro i m zs H3 ⟨rfl, hi, rfl, rfl⟩
  by_cases hlt : i < xs.length
  · refine .inr ⟨W.go i _ (Same.refl _) hlt, by rw [List.length_take]; omega, fun zs' H' => H' = H3 ∧ zs' = ys.take (i + 1), fun zs' H' p => ⟨xs.length - (i + 1), by omega, rfl, hlt, p.1, p.2⟩, fun x H' y => ?_⟩
    obtain ⟨e, ex⟩ := W.yl i _ x H' (Same.refl _) hlt y
    subst e
    unfold tYes
    dsimp only
    rw [if_pos rfl]
    have hy : ys[i]? = some (ys[i]'(by omega)) := List.getElem?_eq_getElem _
    refine hs i x _ ex hy _ ⟨rfl, ?_⟩
    rw [List.take_add_one, hy]
    rfl
  · have e : i = xs.length := by omega
    subst e
    refine .inl ⟨W.st _ (Same.refl _), ?_⟩
    rw [List.take_of_length_le (by omega)]
    exact hd
/-- each item's value is a new list -/
theorem comp_news {J : It} {xs : List V} {ls : List (List V)} {σ' : St} {j : Nat} {te : TE} {Q : VK} {H : Hp} (W : Wk J xs H) (hz : xs.length ≤ sizeLine) (hl : ls.length = xs.length)
    (hs : ∀ (i : Nat) x l H3, xs[i]? = some x → ls[i]? = some l → Same H H3 → ∀ Q' : VK, (∀ D, H3 D = none → Q' (.ref D) (upd H3 D (.lst l))) → te (σ'.set j (some x)) H3 Q')
    (hd : ∀ (as : List Addr) H', Same H H' → as.length = ls.length → as.Nodup → (∀ b ∈ as, H b = none) → (∀ (i : Nat) a l, as[i]? = some a → ls[i]? = some l → H' a = some (.lst l)) → ∀ D, H' D = none → Q (.ref D) (upd H' D (.lst (as.map V.ref)))) : CompW σ' j tYes te Q J H := by
  refine ⟨fun i m zs H3 => m = xs.length - i ∧ i ≤ xs.length ∧ ∃ as : List Addr, zs = as.map V.ref ∧ as.length = i ∧ Same H H3 ∧ as.Nodup ∧ (∀ b ∈ as, H b = none) ∧ (∀ b ∈ as, ∃ o, H3 b = some o) ∧ ∀ (k : Nat) a l, as[k]? = some a → ls[k]? = some l → H3 a = some (.lst l),
    ⟨xs.length, by simp, Nat.zero_le _, [], rfl, rfl, Same.refl _, List.nodup_nil, (fun _ h => by cases h), (fun _ h => by cases h), fun k a l e => by simp at e⟩, ?_⟩
  rintro i m zs H3 ⟨rfl, hi, as, rfl, hlen, sm, nd, fr, there, hrow⟩
  by_cases hlt : i < xs.length
  · refine .inr ⟨W.go i _ sm hlt, by rw [List.length_map]; omega, _, fun zs' H' p => ⟨xs.length - (i + 1), by omega, rfl, hlt, p⟩, fun x H' y => ?_⟩
    obtain ⟨e, ex⟩ := W.yl i _ x H' sm hlt y
    subst e
    unfold tYes
    dsimp only
    rw [if_pos rfl]
    have hy : ls[i]? = some (ls[i]'(by omega)) := List.getElem?_eq_getElem _
    refine hs i x _ H' ex hy sm _ fun D hD => ?_
    have nD : D ∉ as := fun z => by
      obtain ⟨o, e⟩ := there D z
      rw [hD] at e
      cases e
    refine ⟨as ++ [D], by rw [List.map_append]; rfl, by rw [List.length_append, List.length_singleton]; omega, fun b o e => ?_, ?_, fun b hb => ?_, fun b hb => ?_, fun k a l e1 e2 => ?_⟩
    · have q := sm b o e
      rw [upd_ne (ne_of_none q hD)]
      exact q
    · rw [List.nodup_append]
      refine ⟨nd, by simp, fun x hx y hy => ?_⟩
      rw [List.mem_singleton.mp hy]
      intro z
      exact nD (by rw [← z]; exact hx)
    · rcases List.mem_append.mp hb with z | z
      · exact fr b z
      · rw [List.mem_singleton.mp z]
        exact sm.free hD
    · rcases List.mem_append.mp hb with z | z
      · obtain ⟨o, e⟩ := there b z
        exact ⟨o, by rw [upd_ne (ne_of_none e hD)]; exact e⟩
      · rw [List.mem_singleton.mp z]
        exact ⟨_, upd_same⟩
    · by_cases hk : k < as.length
      · rw [List.getElem?_append_left hk] at e1
        have q := hrow k a l e1 e2
        rw [upd_ne (ne_of_none q hD)]
        exact q
      · rw [List.getElem?_append_right (by omega)] at e1
        cases q : k - as.length with
        | zero =>
          rw [q] at e1
          have ea : D = a := by simpa using e1
          subst ea
          have ek : k = i := by omega
          subst ek
          rw [hy] at e2
          cases e2
          exact upd_same
        | succ n =>
          rw [q] at e1
          simp at e1
  · have e : i = xs.length := by omega
    subst e
    exact .inl ⟨W.st _ sm, hd as H3 sm (by omega) nd fr hrow⟩

section
variable {X : Cx} {K : PySem.W.Frag}
theorem ix_listK (hK : X.K = K) : IxR X (rIxL K) := hK ▸ ix_list
theorem sl_listK (hK : X.K = K) : SlR X (rSlL K) := hK ▸ sl_list
theorem call_lenK (hK : X.K = K) : CallR X (.builtin "len") (fun xs H Q => ∃ p ys, xs = [.ref p] ∧ (SqL K H p ys ∨ SqT K H p ys) ∧ Q (.int ys.length) H) := hK ▸ call_len_seq
theorem call_listK (hK : X.K = K) : CallR X (.type "list") (fun xs H Q => ∃ p ys, xs = [.ref p] ∧ (SqL K H p ys ∨ SqT K H p ys) ∧ ∀ l, H l = none → Q (.ref l) (upd H l (.lst ys))) := hK ▸ call_list_of
theorem call_isiK (hK : X.K = K) : CallR X (.builtin "isinstance") (rIsi K) := hK ▸ call_isi
theorem call_sumK (hK : X.K = K) (hc : X.calm = true) : CallR X (.builtin "sum") (fun xs H Q => ∃ (p : Addr) (ns : List Int), xs = [.ref p] ∧ SqL K H p (ns.map V.int) ∧ Q (.int ns.sum) H) := hK ▸ call_sum hc
theorem call_allK (hK : X.K = K) (hc : X.calm = true) : CallR X (.builtin "all") (fun xs H Q => ∃ (p : Addr) (bs : List Bool), xs = [.ref p] ∧ SqL K H p (bs.map V.bl) ∧ Q (.bl (bs.all id)) H) := hK ▸ call_all hc
theorem call_anyK (hK : X.K = K) (hc : X.calm = true) : CallR X (.builtin "any") (fun xs H Q => ∃ (p : Addr) (bs : List Bool), xs = [.ref p] ∧ SqL K H p (bs.map V.bl) ∧ Q (.bl (bs.any id)) H) := hK ▸ call_any hc
theorem pi_listK {tg l : Expr} {tl : TE} (hK : X.K = K) (hl : PE X l tl) : PI X tg l (iList K tl) := hK ▸ pi_list hl
theorem pi_revK {tg a : Expr} {ta : TA} {p pos : Pos} (hK : X.K = K) (hg : Gl X "reversed") (hm : X.mg "reversed" = none) (ha : PA X [a] ta) (hs : starEach [a] X.env = [(false, eval a X.env)] := by rfl) : PI X tg (.Call (.Name "reversed" p) [a] [] pos) (iRev K ta) := hK ▸ pi_rev hg hm ha hs
theorem pe_fldK {e : Expr} {ta : TE} {f : Str} {pos : Pos} (hK : X.K = K) (he : PE X e ta) (hb : attributeBase e f X.env (eval e X.env) = eval e X.env) : PE X (.Attribute e f pos) (tFld K ta f) := hK ▸ pe_fld he hb
theorem ps_fldK {o value : Expr} {f : Str} {pos pos' : Pos} {ta tv : TE} (hK : X.K = K) (ha : PE X o ta) (hv : PE X value tv) (hs : swapsWith value (some (.Attribute o f pos')) pos.line X.env = pure false) : PS X (.Assign [.Attribute o f pos'] value pos) (sFld K ta tv f) := hK ▸ ps_fld ha hv hs
end
end L2

set_option Elab.async false
set_option linter.all false
set_option maxRecDepth 100000
set_option maxHeartbeats 4000000
namespace L2
open PySem PySem.Spec PyProof.Rows

structure XB (P : Program) (w : World) (outer : List Env) (H : Hp) (s : Shared) (B : Heap) (H' : Hp) : Prop where
  hok : HOk P w H' B
  keep : ∀ b o, s.heap.get? b = some o → H b = none → b ∉ frs outer → B.get? b = some o
  free : ∀ b o, s.heap.get? b = some o → H b = none → H' b = none
  there : ∀ b o, s.heap.get? b = some o → b ∉ frs outer → ∃ o', B.get? b = some o'
  tups : ∀ b xs, H b = some (.tup xs) → H' b = some (.tup xs)
  frzs : ∀ b o u, H b = some (.frz o u) → H' b = some (.frz o u)
  tbls : ∀ b ps, H b = some (.tbl ps) → ∃ more, H' b = some (.tbl (ps ++ more))
def SlotsUp (outer : List Env) (H : Hp) (h h' : Heap) : Prop := ∀ b o, h.get? b = some o → H b = none → b ∈ frs outer → ∃ sl, h'.get? b = some { o with slots := sl }
/-- how an exception lies behind a call -/
def CX1 (P : Program) (w : World) : CXT := fun outer H s E ev s' => ∃ (e : Addr) (cls a0 : Value) (B : Heap) (H' : Hp), ev = .ref e ∧ s'.os = s.os ∧ AllBare s'.gens ∧ XB P w outer H s B H' ∧ SlotsUp outer H s.heap s'.heap ∧ Heap.FlyingW B outer e cls a0 s'.heap ∧ E cls none H'
theorem passE0 {P : Program} {w : World} {X : Cx} : Passes (CX1 P w) X E0 := fun _ _ _ _ _ _ _ ⟨_, _, _, _, _, _, _, _, _, _, _, h⟩ => h.elim

section
variable {P : Program} {w : World} {K : PySem.W.Frag} {mg : Str → Option Value} {base : Heap} {N : List Str} {qual : Str} {scope : Scope} {f : Addr} {cd : Value} {A : Around} {outer : List Env} {s₀ : Shared} {H₀ : Hp} {E : XK}
/-- a callee's exception goes on through this frame -/
theorem passX : Passes (CX1 P w) (cxOf (CX1 P w) P w K mg base N qual scope f cd A outer s₀ H₀ E) E := by
  intro pins σ H s ev s' I h
  obtain ⟨e, cls, a0, B, H', rfl, os, bare, xb, sl, fl, q⟩ := h
  have ne : ∀ b o, s₀.heap.get? b = some o → b ≠ s₀.heap.objs.size := fun b o e => Nat.ne_of_lt (Heap.lt_size e)
  have nf : ∀ b, b ∉ frs outer → b ≠ s₀.heap.objs.size → b ∉ frs (envOfC qual scope s₀.heap.objs.size f cd :: outer) := fun b h1 h2 z => by
    rcases List.mem_cons.mp (I.stkSub b z) with y | y
    · exact h2 y
    · exact h1 y
  refine wpAny_leaves_onW I.ok.frames rfl fl fun h'' fl' up => ?_
  refine ⟨e, cls, a0, B, H', rfl, os.trans I.os, bare, ⟨xb.hok, fun b o q n hb => ?_, fun b o q n => ?_, fun b o q hb => ?_, fun b xs q => xb.tups b xs (I.base.tups b xs q), fun b o u q => xb.frzs b o u (I.base.frzs b o u q), fun b ps q => ?_⟩, fun b o q n hb => ?_, fl', q⟩
  · exact xb.keep b o (I.base.keep b o q n hb (by intro z; cases z)) (I.base.free b o q n (by intro z; cases z)) (nf b hb (ne b o q))
  · obtain ⟨o', q'⟩ := I.base.there b o q (by intro z; cases z)
    exact xb.free b o' q' (I.base.free b o q n (by intro z; cases z))
  · obtain ⟨o', q'⟩ := I.base.there b o q (by intro z; cases z)
    exact xb.there b o' q' (nf b hb (ne b o q))
  · obtain ⟨m1, q1⟩ := I.base.tbls b ps q
    obtain ⟨m2, q2⟩ := xb.tbls b _ q1
    exact ⟨m1 ++ m2, by rw [q2, Array.append_assoc]⟩
  · obtain ⟨s1, q1⟩ := I.base.slot b o q n hb (by intro z; cases z)
    obtain ⟨s2, q2⟩ := sl b _ q1 (I.base.free b o q n (by intro z; cases z)) (by
      show b ∈ frs (envOfC qual scope s₀.heap.objs.size f cd :: outer)
      exact List.mem_cons_of_mem _ hb)
    obtain ⟨_, o2, ho2, hd2⟩ := I.ok.funs.mem hb
    change s₀.heap.get? b = some o2 at ho2
    rw [q] at ho2
    cases ho2
    obtain ⟨s3, q3⟩ := up b _ q2 hd2
    exact ⟨s3, q3⟩
/-- an exception just made leaves this frame -/
theorem raisesX {pins : List (Addr × Obj)} {σ : St} {H : Hp} {s : Shared} {h' : Heap} {e : Addr} {cls : Value} {vs : List Value} (I : Inv (cxOf (CX1 P w) P w K mg base N qual scope f cd A outer s₀ H₀ E) pins σ H s)
    (hx : Heap.MadeExcOf s.heap h' e cls vs) (q : E cls none H) : (cxOf (CX1 P w) P w K mg base N qual scope f cd A outer s₀ H₀ E).xe (.ref e) { s with heap := h' } := by
  have ne : ∀ b o, s₀.heap.get? b = some o → b ≠ s₀.heap.objs.size := fun b o e => Nat.ne_of_lt (Heap.lt_size e)
  have nf : ∀ b, b ∉ frs outer → b ≠ s₀.heap.objs.size → b ∉ frs (envOfC qual scope s₀.heap.objs.size f cd :: outer) := fun b h1 h2 z => by
    rcases List.mem_cons.mp (I.stkSub b z) with y | y
    · exact h2 y
    · exact h1 y
  have tk : ∀ b o, H b = some o → b ∉ frs (envOfC qual scope s₀.heap.objs.size f cd :: outer) := fun b o e z => by
    rw [I.stkFree b z] at e
    cases e
  have hin : ∀ env ∈ (envOfC qual scope s₀.heap.objs.size f cd :: outer), ∀ b, env.frame = some b → b ∈ frs (envOfC qual scope s₀.heap.objs.size f cd :: outer) := fun env he b hb => List.mem_filterMap.mpr ⟨env, he, hb⟩
  show wpAny (model P w) (A.deeper (envOfC qual scope s₀.heap.objs.size f cd)) (leaving (envOfC qual scope s₀.heap.objs.size f cd) (.ref e)) (fun _ s'' => CX1 P w outer H₀ s₀ E (.ref e) s'') (fun e' s'' => CX1 P w outer H₀ s₀ E e' s'') { s with heap := h' }
  refine wpAny_leaves_madeW (base := PySem.W.hideAll s.heap (frs (envOfC qual scope s₀.heap.objs.size f cd :: outer))) (s := { s with heap := h' }) I.ok.frames rfl (fun b o z => PySem.W.of_hideAll _ z) (PySem.W.funFrames_hide I.stack hin) hx fun h'' t fl _ _ up => ?_
  have Bget : ∀ b o, s.heap.get? b = some o → b ∉ frs (envOfC qual scope s₀.heap.objs.size f cd :: outer) → (PySem.W.hideAll s.heap (frs (envOfC qual scope s₀.heap.objs.size f cd :: outer))).get? b = some o := fun b o z hb => PySem.W.hideAll_get _ z hb
  refine ⟨e, cls, _, _, H, rfl, I.os, I.bare, ⟨fun a o z => ?_, fun b o z n hb => ?_, fun b o z n => I.base.free b o z n (by intro y; cases y), fun b o z hb => ?_, I.base.tups, I.base.frzs, I.base.tbls⟩, fun b o z n hb => ?_, fl, q⟩
  · refine (I.hok a o z).stay (fun c v hc y => Bget c v y ?_) (fun _ y => y) fun _ _ y => y
    rcases hc with y' | y'
    · rw [y']; exact tk a o z
    · exact tk c _ y'
  · exact Bget b o (I.base.keep b o z n hb (by intro y; cases y)) (nf b hb (ne b o z))
  · obtain ⟨o', z'⟩ := I.base.there b o z (by intro y; cases y)
    exact ⟨o', Bget b o' z' (nf b hb (ne b o z))⟩
  · obtain ⟨s1, q1⟩ := I.base.slot b o z n hb (by intro y; cases y)
    obtain ⟨_, o2, ho2, hd2⟩ := I.ok.funs.mem hb
    change s₀.heap.get? b = some o2 at ho2
    rw [z] at ho2
    cases ho2
    obtain ⟨s3, q3⟩ := up b _ (hx.keeps b _ q1) hd2
    exact ⟨s3, q3⟩
end

theorem own_obj {K : PySem.W.Frag} {h : Heap} {C : Addr} {bmB : List Value} {newId : String} (X : K.In h) (q : PySem.W.excIn K C bmB newId = true) :
    ∃ bm N nm qn bs hdct sn sub ab col dd k0 k1 k2 k3 k5 mN, h.get? C = some (excClassObj nm qn C N bs bm hdct sn sub ab col dd k0 k1 k2 k3 k5 newId) ∧ h.Ns N mN ∧ mN "__init__" = none ∧ OwnTail h bmB bm := by
  unfold PySem.W.excIn at q
  split at q
  · rename_i dd cd sl ho
    split at q
    · rename_i C' bm k0 k1 k2 k3 n k5 hm hs
      simp only [Bool.and_eq_true, beq_iff_eq, Bool.not_eq_true'] at q
      obtain ⟨⟨⟨⟨⟨e1, e2⟩, hdel⟩, ht⟩, hok⟩, hni⟩ := q
      subst e1 e2
      obtain ⟨nm, bs, mro, ns, qn, hd, sn, sub, ab, col, del⟩ := cd
      dsimp only at hm hdel hok hni
      subst hm hdel
      have es : sl = #[k0, k1, k2, k3, some (.builtin n), k5] := by
        obtain ⟨l⟩ := sl
        simp only at hs
        rw [hs]
      subst es
      exact ⟨bm, ns, nm, qn, bs, hd, sn, sub, ab, col, dd, k0, k1, k2, k3, k5, _, X _ _ ho, .of_isNs (PySem.W.isNs_of_in X hok), PySem.W.nsMap_none_of_in X hok hni, PySem.W.tail_of_in X ht⟩
    · cases q
  · cases q

/-- an error class of the text: under ValueError, at C -/
abbrev vErr : List Value := [.type "ValueError", .type "Exception", .type "BaseException", .type "object"]
structure XCls (K : PySem.W.Frag) (C : Addr) : Prop where
  ex : PySem.W.excIn K C vErr "ValueError.__new__" = true

/-- raise C(..): what is wanted of the exception -/
def Raises (X : Cx) (E : XK) : Prop := ∀ (pins : List (Addr × Obj)) (σ : St) (H : Hp) (s : Shared) (h' : Heap) (e : Addr) (cls : Value) (vs : List Value), Inv X pins σ H s → Heap.MadeExcOf s.heap h' e cls vs → E cls none H → X.xe (.ref e) { s with heap := h' }
def tRaise (C : Addr) (E : XK) (t : TA) : TS := fun _ σ H => t σ H fun vs H1 => vs.length ≤ sizeLine ∧ E (.ref C) none H1
theorem ps_raise {X : Cx} {E : XK} {x : Str} {C : Addr} {e₀ : Expr} {rest : List Expr} {t : TA} {np cpos pos : Pos} (hR : Raises X E) (hc : X.calm = true) (hg : Gl X x) (hm : X.mg x = some (.ref C)) (hC : XCls X.K C) (ha : PA X (e₀ :: rest) t)
    (hd : (x == ("__debug__" : Str)) = false := by decide) (he : starEach (e₀ :: rest) X.env = (false, eval e₀ X.env) :: starEach rest X.env := by rfl) (hpl : (backTo cpos (starEach rest X.env)).any (·.1) = false := by rfl) :
    PS X (.Raise (some (.Call (.Name x np) (e₀ :: rest) [] cpos)) none pos) (tRaise C E t) := by
  intro pins s σ H D I h
  obtain ⟨tl, N, nm, q, bs, hdct, sn, sub, ab, col, dd, k0, k1, k2, k3, k5, mN, hCo, hN, hni, T⟩ := own_obj I.mod.kin hC.ex
  refine wpAny_Raise_call_subT (C := C) (nm := nm) (q := q) (N := N) (bs := bs) (bm := tl) (hdct := hdct) (sn := sn) (sub := sub) (ab := ab) (col := col) (dd := dd) (k0 := k0) (k1 := k1) (k2 := k2) (k3 := k3) (k5 := k5)
    PySem.F.excBase_ValueError (mN := mN) (T.hasType PySem.F.excBase_ValueError.hasBase) (I.ok.hd hc) (by rw [he]; show (false || (backTo cpos (starEach rest X.env)).any (·.1)) = false; rw [hpl]; rfl) hni (ld_glob I hg hm ⟨rfl, ?_⟩ hd)
  have hA := ha cpos pins s σ H _ I h
  rw [he] at hA ⊢
  refine Calls.evalArgs_plain (thn hA fun us s2 ⟨vs, H1, I1, rv, hz, q⟩ => ?_)
  exact ⟨rfl, by rw [← rv.length]; exact hz, I1.bk _ _ hCo, hN.keeps I1.bk, T.keeps I1.bk, fun h' e hx => hR pins σ H1 s2 h' e _ _ I1 hx q⟩

def PJ (X : Cx) (parts : List Expr) (c : St → Hp → Prop) : Prop :=
  ∀ (pins : List (Addr × Obj)) (s : Shared) (σ : St) (H : Hp) (acc : Str) (Q : Str → Shared → Prop), Inv X pins σ H s → c σ H → acc.length + 20000 * parts.length ≤ 1000000 → (∀ x s', x.length ≤ 1000000 → Inv X pins σ H s' → Q x s') → Joins (model X.prog X.w) X.A X.xe (evalEach parts X.env) acc Q s
section
variable {X : Cx}
theorem pj_nil : PJ X [] (fun _ _ => True) := fun _ _ _ _ acc _ I _ hz h => h acc _ (by simp at hz; omega) I
theorem pj_str {x : Str} {j : Nat} {pos : Pos} {es : List Expr} {c : St → Hp → Prop} (hx : x.length ≤ 20000) (hr : PJ X es c) : PJ X (.Constant (.str x) j pos :: es) c := by
  intro pins s σ H acc Q I hc hz h
  simp only [List.length_cons] at hz
  show wpAny _ _ (eval (.Constant (.str x) j pos) X.env) _ _ s
  refine Calls.Constant_str ⟨x, _, rfl, ?_, hr pins _ σ H _ Q (I.tok _) hc ?_ h⟩
  · rw [strLen_append]
    have := sizeLine_eq
    omega
  · rw [strLen_append]
    omega
theorem pj_int {e : Expr} {pos : Pos} {es : List Expr} {te : TE} {c : St → Hp → Prop} (he : PE X e te) (hr : PJ X es c) : PJ X (.FormattedValue e (-1) none pos :: es) (fun σ H => te σ H fun v H1 => ∃ i : Int, v = .int i ∧ i.natAbs.log2 < 1920 ∧ H1 = H ∧ c σ H) := by
  intro pins s σ H acc Q I hc hz h
  simp only [List.length_cons] at hz
  show wpAny _ _ (eval (.FormattedValue e (-1) none pos) X.env) _ _ s
  refine wpAny_FormattedValue_plain (thn (he pins s σ H _ I hc) fun v s1 ⟨x, H1, I1, r1, i, ex, hl, eH, q⟩ => ?_)
  subst ex eH
  obtain ⟨t, rfl⟩ := r1
  have hlen : (Str.ofString (toString i)).length ≤ 20000 := by
    have e := int_text_length_le (k := 1920) (by decide) hl
    rw [PySem.ofString_length]
    omega
  refine wpAny_formatField_int hl ⟨_, _, rfl, ?_, hr pins _ σ H1 _ Q ((I1.tok _).tok _) q ?_ h⟩
  · rw [strLen_append]
    have := sizeLine_eq
    omega
  · rw [strLen_append]
    omega
/-- f'..', two parts and more: some text -/
def tFs (c : St → Hp → Prop) : TE := fun σ H Q => c σ H ∧ ∀ x : Str, Q (.str x) H
theorem pe_fs {v₁ v₂ : Expr} {rest : List Expr} {pos : Pos} {c : St → Hp → Prop} (h : PJ X (v₁ :: v₂ :: rest) c) (hn : (v₁ :: v₂ :: rest).length ≤ 40) : PE X (.JoinedStr (v₁ :: v₂ :: rest) pos) (tFs c) := by
  intro pins s σ H Q I ⟨hc, q⟩
  refine wpAny_JoinedStr (h pins s σ H _ _ I hc ?_ fun x s' hx I' => ⟨?_, .str x, H, I'.tok _, ⟨_, rfl⟩, q x⟩)
  · show 0 + _ ≤ _
    omega
  · have := sizeLine_eq
    omega
end

section
variable {X : Cx} {pins : List (Addr × Obj)} {σ : St} {H : Hp} {s : Shared} {e : Addr} {cls : Value}
end

section
variable {X : Cx} {k : Nat} {f C : Addr} {fd : FuncData} {ps : List Str} {sp : Sp} {x m : Str} {p pos apos : Pos} {e o : Expr} {es : List Expr} {ta : TE} {t : TA}
end

section
variable {X : Cx} {k : Nat} {f C : Addr} {fd : FuncData} {ps : List Str} {sp : Sp} {x m : Str} {p pos apos : Pos} {e o : Expr} {es : List Expr} {ta : TE} {t : TA}
end

section
variable {X : Cx} {pins : List (Addr × Obj)} {σ : St} {H : Hp} {s : Shared}
end
section
variable {X : Cx} {x : Str} {C : Addr} {np pos : Pos} {b₀ : Stmt} {suite : List Stmt} {rest : List ExceptHandler} {tb : TS} {tr : Value → TS}
end
section
variable {X : Cx} {ex : Expr} {t : XK → TE} {th : Value → TS} {h₀ : ExceptHandler} {hs : List ExceptHandler} {p1 pos : Pos}
end

section
variable {P : Program} {w : World} {K : PySem.W.Frag} {mg : Str → Option Value} {base : Heap}
theorem Fun.okX {x qual : Str} {st : Stmt} {f : Addr} {fd : FuncData} {N ps : List Str} {k : Nat} {sp : Sp} (F : Fun K x qual st f fd) (S : FnScope N ps (defScope st)) (len : ∀ vs H Q E, sp vs H Q E → vs.length = ps.length)
    (hbody : ∀ (cdv : Value) (A : Around) (outer : List Env) (s : Shared) (H : Hp) (vs : List V) (Q : VK) (E : XK), Room k (A.deeper (envOfC qual (defScope st) s.heap.objs.size f cdv)) → sp vs H Q E →
      ∃ t, PSs (cxOf (CX1 P w) P w K mg base N qual (defScope st) f cdv A outer s H E) (defBody st) t ∧ t { nx := fun _ H' => Q .non H', rt := Q } (start N vs) H) : FnOk P w K mg base (CX1 P w) (k + 1) f fd ps sp := by
  obtain ⟨oc, od, kV, doc, pm, an, cdv, ct, osl, rfl, lk, hcd⟩ := F.ex
  exact fn_of lk hcd S len fun A outer s H vs Q E hr hsp => hbody cdv A outer s H vs Q E hr hsp
theorem raises_cx {N : List Str} {qual : Str} {scope : Scope} {f : Addr} {cd : Value} {A : Around} {outer : List Env} {s : Shared} {H : Hp} {E : XK} : Raises (cxOf (CX1 P w) P w K mg base N qual scope f cd A outer s H E) E :=
  fun _ _ _ _ _ _ _ _ I hx q => raisesX I hx q
end

theorem get_listK {X : Cx} {K : PySem.W.Frag} (hK : X.K = K) : PGet X (rIxL K) := by
  subst hK
  intro pins s σ H o i ov iv Q I ro ri h
  obtain ⟨p, xs, k, z, rfl, rfl, hq, he, q⟩ := h
  cases ro
  obtain ⟨t, rfl⟩ := ri
  obtain ⟨its, r, pl, hz⟩ := I.list hq
  obtain ⟨j, h1, h2, h3, h4, h5⟩ := atI_get he
  obtain ⟨w, ew, rw'⟩ := r.get h2
  have hl := r.length
  have hn := line63
  have fin : EP X pins σ Q w s := ⟨z, H, I, rw', q⟩
  by_cases h0 : 0 ≤ k
  · have hj : k.toNat = j := by
      rw [seqIndex_of h0 h5] at h1
      exact Option.some.inj h1
    exact wpAny_getItem_list pl.isList h0 (by omega) (by rw [hj]; simpa using ew) fin
  · have hj : (k + (its.toArray.size : Int)).toNat = j := by
      rw [seqIndex_neg (by omega) h4] at h1
      rw [List.size_toArray, ← hl]
      exact Option.some.inj h1
    exact wpAny_getItem_list_neg pl.isList (by omega) (by rw [List.size_toArray] <;> omega) (by omega) (by rw [hj]; simpa using ew) fin

section
variable {X : Cx} {K : PySem.W.Frag}
end
end L2

set_option Elab.async false
set_option linter.all false
set_option maxRecDepth 100000
set_option maxHeartbeats 4000000
namespace L2
open PySem PySem.Spec PyProof.Rows
section
variable {K : PySem.W.Frag} {x qual : Str} {st : Stmt} {f : Addr} {fd : FuncData}
theorem Fun.binds1 {p0 : Str} (F : Fun K x qual st f fd) (h : ∀ (kV doc pm : Value) (an : Option Addr) (cdv ct : Value) (a0 : Value), bindArgs (PySem.W.fnOf x qual (defArgs st) (defBody st) (defScope st) .none kV doc pm an cdv ct) ⟨[a0], []⟩ = pure (List.zip [p0] [a0])) : Binds K fd [p0] [] :=
  F.binds fun kV doc pm an cdv ct us hl => match us, hl with | [a0], _ => h kV doc pm an cdv ct _
theorem Fun.binds2 {p0 p1 : Str} (F : Fun K x qual st f fd) (h : ∀ (kV doc pm : Value) (an : Option Addr) (cdv ct : Value) (a0 a1 : Value), bindArgs (PySem.W.fnOf x qual (defArgs st) (defBody st) (defScope st) .none kV doc pm an cdv ct) ⟨[a0, a1], []⟩ = pure (List.zip [p0, p1] [a0, a1])) : Binds K fd [p0, p1] [] :=
  F.binds fun kV doc pm an cdv ct us hl => match us, hl with | [a0, a1], _ => h kV doc pm an cdv ct _ _
theorem Fun.binds3 {p0 p1 p2 : Str} (F : Fun K x qual st f fd) (h : ∀ (kV doc pm : Value) (an : Option Addr) (cdv ct : Value) (a0 a1 a2 : Value), bindArgs (PySem.W.fnOf x qual (defArgs st) (defBody st) (defScope st) .none kV doc pm an cdv ct) ⟨[a0, a1, a2], []⟩ = pure (List.zip [p0, p1, p2] [a0, a1, a2])) : Binds K fd [p0, p1, p2] [] :=
  F.binds fun kV doc pm an cdv ct us hl => match us, hl with | [a0, a1, a2], _ => h kV doc pm an cdv ct _ _ _
theorem Fun.binds5 {p0 p1 p2 p3 p4 : Str} (F : Fun K x qual st f fd) (h : ∀ (kV doc pm : Value) (an : Option Addr) (cdv ct : Value) (a0 a1 a2 a3 a4 : Value), bindArgs (PySem.W.fnOf x qual (defArgs st) (defBody st) (defScope st) .none kV doc pm an cdv ct) ⟨[a0, a1, a2, a3, a4], []⟩ = pure (List.zip [p0, p1, p2, p3, p4] [a0, a1, a2, a3, a4])) : Binds K fd [p0, p1, p2, p3, p4] [] :=
  F.binds fun kV doc pm an cdv ct us hl => match us, hl with | [a0, a1, a2, a3, a4], _ => h kV doc pm an cdv ct _ _ _ _ _
end
end L2
namespace Com
open PySem L2

theorem same_upd {H H1 : Hp} {b : Addr} {o : HO} (s : Same H H1) (hb : H b = none) : Same H (upd H1 b o) := fun c u e => by
  rw [upd_ne (ne_of_none e hb)]
  exact s c u e
theorem same_new {H : Hp} {b : Addr} {o : HO} (hb : H b = none) : Same H (upd H b o) := same_upd (Same.refl H) hb
/-- a join of ways: what holds ahead of the rest -/
theorem seq_mk {t u : TS} {D : Ends} {σ : St} {H : Hp} (R : St → Hp → Prop) (h1 : ∀ σ' H', R σ' H' → u D σ' H') (h2 : (∀ σ' H', R σ' H' → u D σ' H') → t { D with nx := u D } σ H) : tSeq t u D σ H := h2 h1

/-- a join of ways that ends nowhere else -/
theorem seq_mk' {t u : TS} {D : Ends} {σ : St} {H : Hp} (R : St → Hp → Prop) (h1 : ∀ σ' H', R σ' H' → u D σ' H') (h2 : ∀ D' : Ends, (∀ σ' H', R σ' H' → D'.nx σ' H') → t D' σ H) : tSeq t u D σ H := h2 _ h1
/-- a loop whose body ends nowhere else -/
theorem for_rangeN {lo : Int} {n : Nat} {g : TG} {tb : TS} {D : Ends} {σ : St} {H : Hp} (Pv : Nat → St → Hp → Prop) (h0 : Pv 0 σ H)
    (hs : ∀ i σ H, i < n → Pv i σ H → ∀ D' : Ends, (∀ σ' H', Pv (i + 1) σ' H' → D'.nx σ' H') → g (.int (lo + i)) σ H fun σ2 H2 => tb D' σ2 H2) (hd : ∀ σ H, Pv n σ H → D.nx σ H) :
    ∃ W : Nat → Nat → St → Hp → Prop, (∃ m, W 0 m σ H) ∧ ∀ i m σ H, W i m σ H →
      ((Itr lo n).stop i H ∧ D.nx σ H) ∨ ((Itr lo n).go i H ∧ ∃ N : St → Hp → Prop, (∀ σ' H', N σ' H' → ∃ m', m' < m ∧ W (i + 1) m' σ' H') ∧ ∀ x H', (Itr lo n).yld i H x H' → g x σ H' fun σ2 H2 => tb { D with nx := N, ct := N, bk := D.nx } σ2 H2) :=
  for_range Pv h0 (fun i σ H hi hp => hs i σ H hi hp _ fun _ _ z => z) hd
/-- name = a literal -/
theorem asg_lit {v : V} {u : TS} {i : Nat} {D : Ends} {σ : St} {H : Hp} (h : u D (σ.set i (some v)) H) : tSeq (tAsg (tC v) (gName i)) u D σ H := h

def drawn (ns : List Int) (k many : Int) : Int :=
  ((if 0 < (ns.length : Int) then ns.getD (k % (ns.length : Int)).toNat 0 else 7) * (48271 + 9973 * (k % 97)) + (k + 1) * (k + 3) * 16807 + (ns.length : Int)) % 2147483647 / 16 % many
theorem drawn_nn (ns : List Int) (k : Int) {many : Int} (h : 0 < many) : 0 ≤ drawn ns k many := Int.emod_nonneg _ (by omega)
theorem drawn_lt (ns : List Int) (k : Int) {many : Int} (h : 0 < many) : drawn ns k many < many := Int.emod_lt_of_pos _ h

def RowOk (n : Nat) (r : List Int) : Prop := 1 ≤ r.length ∧ r.length ≤ 8 ∧ ∀ e ∈ r, -1 ≤ e ∧ e < (n : Int)
def Wf (rows : List (List Int)) : Prop := 1 ≤ rows.length ∧ rows.length ≤ 12 ∧ ∀ r ∈ rows, RowOk rows.length r

/-- a list of lists of ints: the list at R, its rows at as -/
structure Mat (H : Hp) (R : Addr) (as : List Addr) (rows : List (List Int)) : Prop where
  hd : H R = some (.lst (as.map V.ref))
  len : as.length = rows.length
  row : ∀ (i : Nat) a r, as[i]? = some a → rows[i]? = some r → H a = some (.lst (r.map V.int))
  nd : (R :: as).Nodup
theorem Mat.same {H H' : Hp} {R : Addr} {as : List Addr} {rows : List (List Int)} (m : Mat H R as rows) (s : Same H H') : Mat H' R as rows :=
  ⟨s _ _ m.hd, m.len, fun i a r e1 e2 => s _ _ (m.row i a r e1 e2), m.nd⟩
theorem Mat.keep {H H' : Hp} {R : Addr} {as : List Addr} {rows : List (List Int)} (m : Mat H R as rows) (k : ∀ b o, b ∈ R :: as → H b = some o → H' b = some o) : Mat H' R as rows :=
  ⟨k _ _ List.mem_cons_self m.hd, m.len, fun i a r e1 e2 => k _ _ (List.mem_cons_of_mem _ (List.mem_of_getElem? e1)) (m.row i a r e1 e2), m.nd⟩
theorem Mat.upd {H : Hp} {R : Addr} {as : List Addr} {rows : List (List Int)} {b : Addr} {o : HO} (m : Mat H R as rows) (hb : b ∉ R :: as) : Mat (upd H b o) R as rows :=
  m.keep fun c u hc e => by
    rw [upd_ne (fun z => hb (by rw [← z]; exact hc))]
    exact e
theorem Mat.new {H : Hp} {R : Addr} (hR : H R = some (.lst [])) : Mat H R [] [] := ⟨hR, rfl, fun i a r e => by simp at e, by simp⟩
theorem Mat.snoc {H : Hp} {R D : Addr} {as : List Addr} {rows : List (List Int)} {r : List Int} (m : Mat H R as rows) (hD : H D = some (.lst (r.map V.int))) (nD : D ∉ R :: as) :
    Mat (L2.upd H R (.lst (as.map V.ref ++ [V.ref D]))) R (as ++ [D]) (rows ++ [r]) := by
  have hR : ∀ a ∈ as, a ≠ R := fun a ha z => by have := (List.nodup_cons.mp m.nd).1; rw [← z] at this; exact this ha
  have hDR : D ≠ R := fun z => nD (by rw [z]; exact List.mem_cons_self)
  refine ⟨by rw [upd_same, List.map_append]; rfl, by simp [m.len], fun i a r' e1 e2 => ?_, ?_⟩
  · by_cases hi : i < as.length
    · rw [List.getElem?_append_left hi] at e1
      rw [List.getElem?_append_left (by rw [← m.len]; exact hi)] at e2
      rw [upd_ne (hR a (List.mem_of_getElem? e1))]
      exact m.row i a r' e1 e2
    · rw [List.getElem?_append_right (by omega)] at e1
      rw [List.getElem?_append_right (by rw [← m.len]; omega)] at e2
      rw [m.len] at e1
      cases q : i - rows.length with
      | zero =>
        rw [q] at e1 e2
        simp at e1 e2
        subst e1 e2
        rw [upd_ne hDR]
        exact hD
      | succ n =>
        rw [q] at e1
        simp at e1
  · have h1 := m.nd
    rw [List.nodup_cons] at h1 ⊢
    refine ⟨fun z => ?_, ?_⟩
    · rcases List.mem_append.mp z with z | z
      · exact h1.1 z
      · exact hDR (List.mem_singleton.mp z).symm
    · rw [List.nodup_append]
      refine ⟨h1.2, by simp, fun x hx y hy => ?_⟩
      rw [List.mem_singleton.mp hy]
      intro z
      exact nD (by rw [← z]; exact List.mem_cons_of_mem _ hx)
theorem Mat.get {H : Hp} {R : Addr} {as : List Addr} {rows : List (List Int)} (m : Mat H R as rows) {i : Nat} (hi : i < rows.length) : ∃ a, as[i]? = some a ∧ H a = some (.lst ((rows[i]).map V.int)) ∧ a ∈ as := by
  have h : i < as.length := by rw [m.len]; exact hi
  exact ⟨as[i], List.getElem?_eq_getElem h, m.row i _ _ (List.getElem?_eq_getElem h) (List.getElem?_eq_getElem hi), List.getElem_mem h⟩
theorem Mat.refs {H : Hp} {R : Addr} {as : List Addr} {rows : List (List Int)} (m : Mat H R as rows) {i : Nat} {x : V} (e : (as.map V.ref)[i]? = some x) : ∃ a, ∃ hi : i < rows.length, x = .ref a ∧ as[i]? = some a ∧ H a = some (.lst ((rows[i]).map V.int)) ∧ a ∈ as := by
  rw [List.getElem?_map] at e
  cases q : as[i]? with
  | none => rw [q] at e; cases e
  | some a =>
    rw [q] at e
    have hi : i < rows.length := by rw [← m.len]; exact (List.getElem?_eq_some_iff.mp q).1
    refine ⟨a, hi, (Option.some.inj e).symm, rfl, m.row i a _ q (List.getElem?_eq_getElem hi), List.mem_of_getElem? q⟩
/-- a row is changed -/
theorem Mat.set {H : Hp} {R a : Addr} {as : List Addr} {rows : List (List Int)} {i : Nat} {r : List Int} (m : Mat H R as rows) (ea : as[i]? = some a) : Mat (L2.upd H a (.lst (r.map V.int))) R as (rows.set i r) := by
  have ha := List.mem_of_getElem? ea
  have h1 := List.nodup_cons.mp m.nd
  have hR : R ≠ a := fun z => h1.1 (by rw [z]; exact ha)
  refine ⟨by rw [upd_ne hR]; exact m.hd, by simp [m.len], fun j b r' e1 e2 => ?_, m.nd⟩
  by_cases hj : i = j
  · subst hj
    rw [ea] at e1
    cases e1
    have hi : i < rows.length := by rw [← m.len]; exact (List.getElem?_eq_some_iff.mp ea).1
    rw [List.getElem?_set_self hi] at e2
    cases e2
    exact upd_same
  · have hb : b ≠ a := fun z => hj (by
      subst z
      obtain ⟨x1, y1⟩ := List.getElem?_eq_some_iff.mp ea
      obtain ⟨x2, y2⟩ := List.getElem?_eq_some_iff.mp e1
      exact (List.getElem_inj h1.2).mp (y1.trans y2.symm))
    rw [List.getElem?_set_ne hj] at e2
    rw [upd_ne hb]
    exact m.row j b r' e1 e2
theorem Mat.sq {K : PySem.W.Frag} {H : Hp} {R : Addr} {as : List Addr} {rows : List (List Int)} (m : Mat H R as rows) : SqL K H R (as.map V.ref) := SqL.of m.hd
theorem Mat.reflen {H : Hp} {R : Addr} {as : List Addr} {rows : List (List Int)} (m : Mat H R as rows) : (as.map V.ref).length = rows.length := by rw [List.length_map, m.len]

structure Brd where
  rows : List (List Int)
  turns : List Int
  loads : List Int
  steps : List Int
  taken : Int
def bflds (aR aT aL aS : Addr) (z : Int) : List (Str × V) := [("rows", .ref aR), ("turns", .ref aT), ("loads", .ref aL), ("steps", .ref aS), ("taken", .int z)]
structure BoardAt (C : Addr) (H : Hp) (p dx aR : Addr) (as : List Addr) (aT aL aS : Addr) (b : Brd) : Prop where
  ob : H p = some (.ins C dx (bflds aR aT aL aS b.taken))
  mat : Mat H aR as b.rows
  hT : H aT = some (.lst (b.turns.map V.int))
  hL : H aL = some (.lst (b.loads.map V.int))
  hS : H aS = some (.lst (b.steps.map V.int))
  nd : (p :: aT :: aL :: aS :: aR :: as).Nodup
theorem BoardAt.keep {C : Addr} {H H' : Hp} {p dx aR : Addr} {as : List Addr} {aT aL aS : Addr} {b : Brd} (B : BoardAt C H p dx aR as aT aL aS b) (k : ∀ c o, c ∈ p :: aT :: aL :: aS :: aR :: as → H c = some o → H' c = some o) : BoardAt C H' p dx aR as aT aL aS b :=
  ⟨k _ _ (by simp) B.ob, B.mat.keep fun c o hc => k c o (by simp at hc ⊢; rcases hc with h | h <;> simp [h]), k _ _ (by simp) B.hT, k _ _ (by simp) B.hL, k _ _ (by simp) B.hS, B.nd⟩
theorem BoardAt.same {C : Addr} {H H' : Hp} {p dx aR : Addr} {as : List Addr} {aT aL aS : Addr} {b : Brd} (B : BoardAt C H p dx aR as aT aL aS b) (s : Same H H') : BoardAt C H' p dx aR as aT aL aS b := B.keep fun c o _ => s c o
theorem bf_rows (aR aT aL aS : Addr) (z : Int) : (bflds aR aT aL aS z).lookup ("rows" : Str) = some (.ref aR) := by rfl
theorem bf_turns (aR aT aL aS : Addr) (z : Int) : (bflds aR aT aL aS z).lookup ("turns" : Str) = some (.ref aT) := by rfl
theorem bf_loads (aR aT aL aS : Addr) (z : Int) : (bflds aR aT aL aS z).lookup ("loads" : Str) = some (.ref aL) := by rfl
theorem bf_steps (aR aT aL aS : Addr) (z : Int) : (bflds aR aT aL aS z).lookup ("steps" : Str) = some (.ref aS) := by rfl
theorem bf_taken (aR aT aL aS : Addr) (z : Int) : (bflds aR aT aL aS z).lookup ("taken" : Str) = some (.int z) := by rfl
theorem putF_new (f : Str) (v : V) : ∀ fs : List (Str × V), (∀ p ∈ fs, p.1 ≠ f) → putF f v fs = fs ++ [(f, v)]
  | [], _ => rfl
  | (g, u) :: r, h => by
    have hg : ¬ g = f := h (g, u) List.mem_cons_self
    show (if g = f then (g, v) :: r else (g, u) :: putF f v r) = _
    rw [if_neg hg, putF_new f v r fun p hp => h p (List.mem_cons_of_mem _ hp)]
    rfl
theorem bflds_mk (aR aT aL aS : Addr) : putF "taken" (.int 0) (putF "steps" (.ref aS) (putF "loads" (.ref aL) (putF "turns" (.ref aT) (putF "rows" (.ref aR) [])))) = bflds aR aT aL aS 0 := by
  have n1 : ∀ p ∈ ([("rows", .ref aR)] : List (Str × V)), p.1 ≠ ("turns" : Str) := fun p hp => by
    rw [List.mem_singleton.mp hp]; show ("rows" : Str) ≠ "turns"; decide +kernel
  have k (ks : List Str) (f : Str) (h : f ∉ ks) (fs : List (Str × V)) (e : fs.map (·.1) = ks) : ∀ p ∈ fs, p.1 ≠ f := fun p hp z => h (by rw [← e, ← z]; exact List.mem_map.mpr ⟨p, hp, rfl⟩)
  rw [show putF "rows" (.ref aR) [] = ([("rows", .ref aR)] : List (Str × V)) from rfl, putF_new "turns" _ _ n1, putF_new "loads" _ _ (k ["rows", "turns"] _ (by decide +kernel) _ rfl), putF_new "steps" _ _ (k ["rows", "turns", "loads"] _ (by decide +kernel) _ rfl), putF_new "taken" _ _ (k ["rows", "turns", "loads", "steps"] _ (by decide +kernel) _ rfl)]
  rfl
end Com

set_option Elab.async false
set_option linter.all false
set_option maxRecDepth 100000
set_option maxHeartbeats 4000000
namespace L2
open PySem PySem.Spec PyProof.Rows

section
open PySem.W PySem.Calls PySem.Builtin PySem.Builtin.ObjectAttr PySem.Builtin.Getset_descriptor
variable {prog : Program} {w : World} {A : Around} {E : Value → Shared → Prop} {s : Shared} {K : Frag} {x D : Addr} {ox : Obj}
end

section
variable {X : Cx}
end

section
variable {X : Cx} {pins : List (Addr × Obj)} {σ : St} {H : Hp} {s : Shared}
end

section
variable {X : Cx} {pins : List (Addr × Obj)} {σ : St} {H : Hp} {s : Shared} {e : Addr}
end
section
variable {X : Cx} {i : Nat} {n x : Str} {C : Addr} {np pos : Pos} {b₀ : Stmt} {suite : List Stmt} {rest : List ExceptHandler} {tb : TS} {tr : Value → TS}
end
end L2

set_option Elab.async false
set_option linter.all false
set_option maxRecDepth 100000
set_option maxHeartbeats 4000000
namespace L2
open PySem PySem.Spec PyProof.Rows

section
variable {X : Cx} {pins : List (Addr × Obj)} {σ : List (Option V)} {H : Hp} {s : Shared} {h' : Heap}
/-- untracked records of ours have turned -/
theorem Inv.turnedL {t' : Nat} {fp : List Addr} (I : Inv X pins σ H s) (k : ∀ b o, b ∉ fp → s.heap.get? b = some o → h'.get? b = some o) (hf : ∀ b ∈ fp, FpOk X pins H b) : Inv X pins σ H { s with heap := h', toks := t' } := by
  have nit : ∀ b u, H b = some u → b ∉ fp := fun b u e z => by rw [(hf b z).1] at e; cases e
  refine I.step (g' := s.gens) (d' := s.drawn) (ch := fp) (fun b hb => ?_) (fun b o _ _ hc e _ => k b o hc e) (fun b o _ _ hc e _ => ⟨o.slots, k b o hc e⟩) (fun _ _ _ _ n => n)
    (fun b o hc e => ⟨o, k b o hc e⟩) (fun _ _ e => e) (fun _ _ _ e => e) (fun b ps e => ⟨#[], by rw [e]; simp⟩) (fun m hm => ?_) (fun b u e => ?_) I.bare
  · obtain ⟨_, f1, _, f3, f4, f5⟩ := hf b hb
    exact ⟨f3, f1, f4, f5⟩
  · obtain ⟨o, es, ep, ho, r⟩ := hm
    exact ⟨o, es, ep, k _ o (fun z => (hf _ z).2.1 rfl) ho, r⟩
  · refine (I.hok b u e).stay (fun c v hc q => k c v ?_ q) (fun _ q => q) fun _ _ q => q
    rcases hc with z | z
    · rw [z]; exact nit b u e
    · exact nit c _ z
/-- a thing that stands is tracked -/
theorem Inv.track {a : Addr} {o : HO} (I : Inv X pins σ H s) (f : FpOk X pins H a) (hsz : X.s₀.heap.objs.size ≤ a) (new : ObjOk X.prog X.w (upd H a o) s.heap a o) : Inv X pins σ (upd H a o) s := by
  obtain ⟨f0, f1, f2, f3, f4, f5⟩ := f
  have ne0 : ∀ b ob, X.s₀.heap.get? b = some ob → b ≠ a := fun b ob e => Nat.ne_of_lt (Nat.lt_of_lt_of_le (Heap.lt_size e) hsz)
  refine ⟨I.ok, I.os, I.bare, ⟨I.base.keep, I.base.slot, fun b ob e n hx => by rw [upd_ne (ne0 b ob e)]; exact I.base.free b ob e n hx, I.base.there, fun b xs e => ?_, fun b ob u e => ?_, fun b ps e => ?_⟩, I.loc, I.cell, by rw [upd_ne (Ne.symm f1)]; exact I.free, fun x c e => by rw [upd_ne (f4 x c e)]; exact I.freeC x c e, fun p hp => ?_, fun b ob e => ?_, I.len⟩
  · have z := I.base.tups b xs e
    rw [upd_ne (ne_of_none z f0)]; exact z
  · have z := I.base.frzs b ob u e
    rw [upd_ne (ne_of_none z f0)]; exact z
  · obtain ⟨m, z⟩ := I.base.tbls b ps e
    exact ⟨m, by rw [upd_ne (ne_of_none z f0)]; exact z⟩
  · obtain ⟨e, n, r⟩ := I.pin p hp
    exact ⟨e, by rw [upd_ne (f5 p hp)]; exact n, r⟩
  · by_cases hb : b = a
    · subst hb
      rw [upd_same] at e
      cases e
      exact new
    · rw [upd_ne hb] at e
      exact (I.hok b ob e).stay (fun _ _ _ z => z) (fun c z => by rw [upd_ne (ne_of_none z f0)]; exact z) fun c xs z => by rw [upd_ne (ne_of_none z f0)]; exact z
end

def Ite (K : PySem.W.Frag) (a : Addr) (xs : List V) : It :=
  ⟨fun i H => i < xs.length ∧ SqL K H a xs, fun i H x H' => ∃ p y, H p = none ∧ xs[i]? = some y ∧ x = .ref p ∧ H' = upd H p (.tup [.int (i : Int), y]), fun i H => i = xs.length ∧ SqL K H a xs⟩
theorem turn_enum {P : Program} {w : World} {K : PySem.W.Frag} {elts : List Expr} {x1 : Nat} {tpos : Pos} (a e it : Addr) (xs : List V) (hei : e ≠ it) :
    Turn P w K (.Tuple elts x1 tpos) (Ite K a xs) [e, it] e (fun i h => (∃ old, IsEnum h e it ((i : Nat) : Int) old) ∧ h.IsListIter it a i) where
  mem := by simp
  obj := fun i h st b hb => by
    obtain ⟨⟨old, he⟩, o, e2, c, d⟩ := st
    simp only [List.mem_cons, List.not_mem_nil, or_false] at hb
    rcases hb with rfl | rfl
    · exact ⟨_, he, fun v z => by cases z⟩
    · exact ⟨o, e2, fun v z => by rw [d] at z; cases z⟩
  keep := fun i h h' st k => ⟨by obtain ⟨old, he⟩ := st.1; exact ⟨old, k e (by simp) _ he⟩, st.2.at fun o e2 => k it (by simp) o e2⟩
  item := by
    intro X hP hw hK hc i pins s σ H E I hf st hg
    subst hP hw hK
    obtain ⟨hi, hq⟩ := hg
    obtain ⟨⟨old, he⟩, hit⟩ := st
    obtain ⟨its, rv, p, hz⟩ := I.list hq
    have hl := rv.length
    obtain ⟨u, hu, ru⟩ := rv.get (List.getElem?_eq_getElem (l := xs) (i := i) hi)
    refine wpAny_pyNext_enum_item he hit p.isList (x := u) (by simpa using hu) hei fun h1 heo hit1 ht1 hz1 hk1 => ?_
    refine ⟨.ref s.heap.objs.size, rfl, ?_⟩
    refine wpAny_letOwnedTupleGo_enum heo fun h2 he2 hs2 => ?_
    have hes : e < s.heap.objs.size := Heap.lt_size he
    have k2 : ∀ b o, b ∉ [e, it] → s.heap.get? b = some o → h2.get? b = some o := fun b o hb q => by
      simp only [List.mem_cons, List.not_mem_nil, or_false, not_or] at hb
      exact (hs2.2 b hb.1).trans (hk1 b o hb.1 hb.2 q)
    have I1 : Inv X pins σ H { s with heap := h2, toks := s.toks + 1 } := I.turnedL (t' := s.toks + 1) k2 hf
    have fn : H s.heap.objs.size = none := I.hok.fresh (Nat.le_refl _)
    have htup : h2.get? s.heap.objs.size = some { cls := .type "tuple", data := .seq #[.int i s.toks, u] } := (hs2.2 _ (Nat.ne_of_gt hes)).trans ht1
    have I2 := I1.track (a := s.heap.objs.size) (o := .tup [.int (i : Int), xs[i]]) (I.fpOk (Nat.le_refl _) fn) I.sz (by
      refine ⟨by rw [sizeLine_eq]; show 2 ≤ _; decide, [.int i s.toks, u], .cons ⟨_, rfl⟩ (.cons ru .nil), ?_⟩
      exact ⟨_, htup, rfl, _, rfl⟩)
    refine ⟨.ref s.heap.objs.size, _, I2, rfl, ⟨s.heap.objs.size, xs[i], fn, List.getElem?_eq_getElem hi, rfl, rfl⟩, ⟨⟨u, ?_⟩, ?_⟩, fun b hb => ?_⟩
    · have : ((i + 1 : Nat) : Int) = (i : Int) + 1 := by omega
      rw [this]; exact he2
    · exact hit1.extBut hs2.extBut (Ne.symm hei)
    · have hb' := (hf b hb).1
      have : b < s.heap.objs.size := by
        simp only [List.mem_cons, List.not_mem_nil, or_false] at hb
        rcases hb with rfl | rfl
        · exact hes
        · obtain ⟨o, e2, _⟩ := hit; exact Heap.lt_size e2
      rw [upd_ne (Nat.ne_of_lt this)]; exact hb'
  done := by
    intro X hP hw hK hc i pins s σ H E I hf st hg
    subst hP hw hK
    obtain ⟨hi, hq⟩ := hg
    subst hi
    obtain ⟨⟨old, he⟩, hit⟩ := st
    obtain ⟨its, rv, p, hz⟩ := I.list hq
    have hl := rv.length
    refine wpAny_pyNext_enum_end (I.ok.hd hc) he hit p.isList (by simp; omega) fun h1 he1 => ⟨rfl, ?_⟩
    exact I.turnedL (t' := s.toks) (fp := [e, it]) (fun b o hb q => he1 b o (fun z => hb (by simp [z])) q) hf
  self := fun _ _ _ _ _ st h => by obtain ⟨⟨old, he⟩, _⟩ := st; exact wpAny_pyIter_enum he h
def iEnum (K : PySem.W.Frag) (ta : TA) : TI := fun σ H R => ta σ H fun vs H1 => ∃ a xs, vs = [.ref a] ∧ SqL K H1 a xs ∧ R (Ite K a xs) H1
section
variable {X : Cx}
theorem pi_enum {elts : List Expr} {x1 : Nat} {tpos : Pos} {a : Expr} {ta : TA} {p pos : Pos} {K : PySem.W.Frag} (hK : X.K = K) (hg : Gl X "enumerate") (hm : X.mg "enumerate" = none) (ha : PA X [a] ta) (hs : starEach [a] X.env = [(false, eval a X.env)] := by rfl) :
    PI X (.Tuple elts x1 tpos) (.Call (.Name "enumerate" p) [a] [] pos) (iEnum K ta) := by
  subst hK
  intro pins s σ H R I h
  refine Call_ (ld_blt I hg hm boot_enumerate (PyProof.Rows.callWith_type1 (thn (ha pos pins s σ H _ I h) fun us s1 ⟨vs, H1, I1, r1, q1⟩ => ?_) hs rfl))
  obtain ⟨l, xs, e, hq, q⟩ := q1
  subst e
  obtain ⟨u, rfl, ru⟩ := vals1 r1
  cases ru
  obtain ⟨its, rv, pl, hz⟩ := I1.list hq
  refine call_enumerate_list pl.isList fun h1 he hit hsz hk => ?_
  refine wpAny_pyIter_enum (s := { s1 with heap := h1 }) he ?_
  refine ⟨s1.heap.objs.size + 1, [s1.heap.objs.size + 1, s1.heap.objs.size], _, _, H1, rfl, I1.kept (t' := s1.toks) hk, turn_enum l (s1.heap.objs.size + 1) s1.heap.objs.size xs (Nat.succ_ne_self _), ⟨⟨_, he⟩, hit⟩, fun b hb => ?_, q⟩
  simp only [List.mem_cons, List.not_mem_nil, or_false] at hb
  rcases hb with rfl | rfl
  · exact I1.fpOk (Nat.le_succ _) (I1.hok.fresh (Nat.le_succ _))
  · exact I1.fpOk (Nat.le_refl _) (I1.hok.fresh (Nat.le_refl _))
end
theorem for_enumN {K : PySem.W.Frag} {a : Addr} {xs : List V} {g : TG} {tb : TS} {D : Ends} {σ : St} {H : Hp} (Pv : Nat → St → Hp → Prop) (h0 : Pv 0 σ H) (hl : ∀ i σ H, i ≤ xs.length → Pv i σ H → SqL K H a xs)
    (hs : ∀ i x σ H p, xs[i]? = some x → Pv i σ H → H p = none → ∀ D' : Ends, (∀ σ' H', Pv (i + 1) σ' H' → D'.nx σ' H') → g (.ref p) σ (upd H p (.tup [.int (i : Int), x])) fun σ2 H2 => tb D' σ2 H2) (hd : ∀ σ H, Pv xs.length σ H → D.nx σ H) :
    ∃ W : Nat → Nat → St → Hp → Prop, (∃ m, W 0 m σ H) ∧ ∀ i m σ H, W i m σ H →
      ((Ite K a xs).stop i H ∧ D.nx σ H) ∨ ((Ite K a xs).go i H ∧ ∃ N : St → Hp → Prop, (∀ σ' H', N σ' H' → ∃ m', m' < m ∧ W (i + 1) m' σ' H') ∧ ∀ x H', (Ite K a xs).yld i H x H' → g x σ H' fun σ2 H2 => tb { D with nx := N, ct := N, bk := D.nx } σ2 H2) := by
  refine ⟨fun i m σ H => m = xs.length - i ∧ i ≤ xs.length ∧ Pv i σ H, ⟨xs.length, by simp, Nat.zero_le _, h0⟩, ?_⟩
  rintro i m σ H ⟨rfl, hi, p⟩
  have q := hl i σ H hi p
  by_cases hlt : i < xs.length
  · refine .inr ⟨⟨hlt, q⟩, Pv (i + 1), fun σ' H' p' => ⟨xs.length - (i + 1), by omega, rfl, hlt, p'⟩, fun x H' y => ?_⟩
    obtain ⟨c, y, hc, ey, rfl, rfl⟩ := y
    exact hs i y σ H c ey p hc _ fun _ _ z => z
  · have e : i = xs.length := by omega
    subst e
    exact .inl ⟨⟨rfl, q⟩, hd σ H p⟩
end L2
namespace L2
open PySem PySem.Spec PyProof.Rows
section
variable {X : Cx}
end
end L2
namespace L2
open PySem PySem.Spec PyProof.Rows
end L2

set_option Elab.async false
set_option linter.all false
set_option maxRecDepth 100000
set_option maxHeartbeats 4000000
namespace Com
open PySem L2
/-- the pit is reached within k goings -/
def reachN (rows : List (List Int)) : Nat → Nat → Bool
  | 0, _ => false
  | k + 1, i => (rows.getD i []).any fun e => e == -1 || (decide (0 ≤ e) && reachN rows k e.toNat)
theorem reachN_mono (rows : List (List Int)) : ∀ (k : Nat) (i : Nat), reachN rows k i = true → reachN rows (k + 1) i = true
  | 0, i, h => by cases h
  | k + 1, i, h => by
    unfold reachN at h ⊢
    obtain ⟨e, he, q⟩ := List.any_eq_true.mp h
    refine List.any_eq_true.mpr ⟨e, he, ?_⟩
    rw [Bool.or_eq_true, Bool.and_eq_true] at q ⊢
    rcases q with q | ⟨q1, q2⟩
    · exact .inl q
    · exact .inr ⟨q1, reachN_mono rows k _ q2⟩
theorem reachN_le (rows : List (List Int)) {j k : Nat} (h : j ≤ k) {i : Nat} (q : reachN rows j i = true) : reachN rows k i = true := by
  induction h with
  | refl => exact q
  | step _ ih => exact reachN_mono rows _ i ih
/-- the exits lead to sites or the pit -/
def Ins (rows : List (List Int)) : Prop := ∀ r ∈ rows, ∀ e ∈ r, -1 ≤ e ∧ e < (rows.length : Int)
theorem Wf.ins {rows : List (List Int)} (W : Wf rows) : Ins rows := fun r hr => (W.2.2 r hr).2.2
theorem reachN_lt {rows : List (List Int)} {k i : Nat} (h : reachN rows k i = true) : i < rows.length := by
  cases k with
  | zero => cases h
  | succ k =>
    unfold reachN at h
    obtain ⟨e, he, _⟩ := List.any_eq_true.mp h
    by_cases hi : i < rows.length
    · exact hi
    · have e0 : rows.getD i [] = [] := by simp [List.getElem?_eq_none (by omega : rows.length ≤ i)]
      rw [e0] at he
      cases he
/-- nothing new comes in the going behind k: then never more -/
def Still (rows : List (List Int)) (k : Nat) : Prop := ∀ i, reachN rows (k + 1) i = true → reachN rows k i = true
theorem Still.next {rows : List (List Int)} {k : Nat} (h : Still rows k) : Still rows (k + 1) := fun i q => by
  rw [reachN] at q
  obtain ⟨e, he, q⟩ := List.any_eq_true.mp q
  rw [reachN]
  refine List.any_eq_true.mpr ⟨e, he, ?_⟩
  rw [Bool.or_eq_true, Bool.and_eq_true] at q ⊢
  rcases q with q | ⟨q1, q2⟩
  · exact .inl q
  · exact .inr ⟨q1, h _ q2⟩
theorem Still.all {rows : List (List Int)} {k : Nat} (h : Still rows k) : ∀ m, k ≤ m → ∀ i, reachN rows m i = true → reachN rows k i = true := fun m hm => by
  have hs : ∀ d, Still rows (k + d) := fun d => by
    induction d with
    | zero => exact h
    | succ d ih => exact ih.next
  induction hm with
  | refl => exact fun i q => q
  | @step m hm ih =>
    intro i q
    have e : m = k + (m - k) := by have : k ≤ m := hm; omega
    have hs' := hs (m - k)
    rw [← e] at hs'
    exact ih i (hs' i q)
/-- how many sites are known behind k goings -/
def cnt (rows : List (List Int)) (k : Nat) : Nat := ((List.range rows.length).filter (reachN rows k)).length
theorem cnt_le (rows : List (List Int)) (k : Nat) : cnt rows k ≤ rows.length := by
  unfold cnt
  exact Nat.le_trans (List.length_filter_le _ _) (by simp)
theorem filter_le {p q : Nat → Bool} (h : ∀ i, p i = true → q i = true) : ∀ l : List Nat, (l.filter p).length ≤ (l.filter q).length
  | [] => Nat.le_refl _
  | a :: l => by
    have ih := filter_le h l
    rw [List.filter_cons, List.filter_cons]
    cases hp : p a with
    | true =>
      rw [h a hp, if_pos rfl, if_pos rfl, List.length_cons, List.length_cons]
      omega
    | false =>
      rw [if_neg Bool.false_ne_true]
      split
      · rw [List.length_cons]; omega
      · exact ih
theorem filter_lt {p q : Nat → Bool} (h : ∀ i, p i = true → q i = true) : ∀ (l : List Nat) (x : Nat), x ∈ l → p x = false → q x = true → (l.filter p).length < (l.filter q).length
  | a :: l, x, hx, hp, hq => by
    rw [List.filter_cons, List.filter_cons]
    rcases List.mem_cons.mp hx with rfl | hx
    · rw [hp, hq, if_neg Bool.false_ne_true, if_pos rfl, List.length_cons]
      have := filter_le h l
      omega
    · have ih := filter_lt h l x hx hp hq
      cases hpa : p a with
      | true =>
        rw [h a hpa, if_pos rfl, if_pos rfl, List.length_cons, List.length_cons]
        omega
      | false =>
        rw [if_neg Bool.false_ne_true]
        split
        · rw [List.length_cons]; omega
        · exact ih
theorem cnt_lt {rows : List (List Int)} {k i : Nat} (h1 : reachN rows (k + 1) i = true) (h0 : reachN rows k i = false) : cnt rows k < cnt rows (k + 1) :=
  filter_lt (fun j => reachN_mono rows k j) _ i (List.mem_range.mpr (reachN_lt h1)) h0 h1
theorem still_or {rows : List (List Int)} (k : Nat) : Still rows k ∨ cnt rows k < cnt rows (k + 1) := by
  by_cases h : Still rows k
  · exact .inl h
  · right
    unfold Still at h
    have : ∃ i, reachN rows (k + 1) i = true ∧ ¬ reachN rows k i = true := Classical.byContradiction fun hn => h fun i q => Classical.byContradiction fun hk => hn ⟨i, q, hk⟩
    obtain ⟨i, h1, h0⟩ := this
    exact cnt_lt h1 (by simpa using h0)
theorem still_by {rows : List (List Int)} : ∀ k, (∃ j, j ≤ k ∧ Still rows j) ∨ k < cnt rows (k + 1)
  | 0 => by
    rcases still_or (rows := rows) 0 with h | h
    · exact .inl ⟨0, Nat.le_refl _, h⟩
    · exact .inr (by omega)
  | k + 1 => by
    rcases still_by (rows := rows) k with ⟨j, hj, h⟩ | h
    · exact .inl ⟨j, by omega, h⟩
    · rcases still_or (rows := rows) (k + 1) with h' | h'
      · exact .inl ⟨k + 1, Nat.le_refl _, h'⟩
      · exact .inr (by omega)
/-- as many goings as sites are enough -/
theorem still_len (rows : List (List Int)) : Still rows rows.length := by
  rcases still_by (rows := rows) rows.length with ⟨j, hj, h⟩ | h
  · intro i q
    exact reachN_le rows hj (h.all _ (by omega) i q)
  · have := cnt_le rows (rows.length + 1)
    omega
/-- the pit is reached from the site i -/
def rch (rows : List (List Int)) (i : Nat) : Bool := reachN rows rows.length i
theorem rch_of {rows : List (List Int)} {k i : Nat} (h : reachN rows k i = true) : rch rows i = true := by
  unfold rch
  by_cases hk : k ≤ rows.length
  · exact reachN_le rows hk h
  · exact (still_len rows).all k (by omega) i h
/-- going on from a site that reaches it -/
theorem rch_step {rows : List (List Int)} {i : Nat} {e : Int} (he : e ∈ rows.getD i []) (h : e = -1 ∨ 0 ≤ e ∧ rch rows e.toNat = true) : rch rows i = true := by
  refine rch_of (k := rows.length + 1) ?_
  rw [reachN]
  refine List.any_eq_true.mpr ⟨e, he, ?_⟩
  rw [Bool.or_eq_true, Bool.and_eq_true]
  rcases h with h | ⟨h1, h2⟩
  · exact .inl (by rw [h]; rfl)
  · exact .inr ⟨decide_eq_true h1, h2⟩
def reachL (rows : List (List Int)) : List Bool := (List.range rows.length).map (rch rows)
theorem reachL_len (rows : List (List Int)) : (reachL rows).length = rows.length := by unfold reachL; simp
theorem reachL_get {rows : List (List Int)} {i : Nat} (h : i < rows.length) : (reachL rows)[i]? = some (rch rows i) := by
  unfold reachL
  rw [List.getElem?_map, List.getElem?_range h]
  rfl
end Com

set_option Elab.async false
set_option linter.all false
set_option maxRecDepth 100000
set_option maxHeartbeats 4000000
namespace Com
open PySem L2
/-- the exit ahead of the turn t -/
def lastx (r : List Int) (t : Int) : Int := (atI r (t - 1)).getD 0
def TurnsOk (rows : List (List Int)) (ts : List Int) : Prop := ts.length = rows.length ∧ ∀ i, i < rows.length → 0 ≤ ts.getD i 0 ∧ ts.getD i 0 < ((rows.getD i []).length : Int)
end Com

set_option Elab.async false
set_option linter.all false
set_option maxRecDepth 100000
set_option maxHeartbeats 4000000
namespace L2
open PySem PySem.Spec PyProof.Rows
section
variable {X : Cx} {pins : List (Addr × Obj)} {σ : St} {H : Hp} {s : Shared} {tg elt iter : Expr} {g : TG} {ifs : List Expr} {scope : Scope} {pos : Pos} {N' : List Str} {ix : List (Option Nat)} {wi : TI} {ti : TT} {te : TE}
/-- [elt for x in iter if ..] -/
theorem pe_compT {N' : List Str} {ix : List (Option Nat)} (S : CompSc X.N X.env.scope scope N' ix) (hg : ∀ C cl s H fp, N'.Nodup → PG (cxIn X scope N' C cl s H fp) tg g) (hc : X.calm = true) (hi : PI X tg iter wi)
    (ht : ∀ C cl s H fp, PIfs (cxIn X scope N' C cl s H fp) ifs ti) (he : ∀ C cl s H fp, PE (cxIn X scope N' C cl s H fp) elt te) (hs : ∀ x, foldedSetIterable iter X.env x = pure x) :
    PE X (.ListComp elt [⟨tg, iter, ifs, 0⟩] scope pos) (tCompT ix wi g ti te) := by
  intro pins s σ H Q I h
  rw [eval_ListComp]
  obtain ⟨cl, hcl, c1, c2⟩ := comp_clos I S
  refine wpAny_comprehension_free (use := none) rfl hs hcl S.kind S.names (thn (hi pins s σ H _ I h) fun v s1 h1 => thn h1 fun itv s2 h2 => ?_)
  obtain ⟨it, fp, tn, J, H2, e, I2, T, st2, f2, hW⟩ := h2
  subst e
  refine comp_runT (RR := fun acc C => compPost (model X.prog X.w) X.A X.xe none (EP X pins σ Q) acc C) S hg hc ht he c1 c2 I2 T st2 f2 hW fun D C H' s' m' I' hn lo _ q => ?_
  exact ⟨m', hn, fun h' hs' => ⟨.ref D, H', I'.same lo hs' rfl, rfl, q⟩⟩

theorem pg_tupK {K : PySem.W.Frag} {es : List Expr} {k : Nat} {t : TGs} {n : Nat} {pos : Pos} (hK : X.K = K) (hc : X.calm = true) (h : PGs X es t)
    (hn : (assignEach es X.env).length = n := by rfl) (hst : (assignEach es X.env).findIdx? (·.1) = none := by rfl) : PG X (.Tuple es k pos) (gTup K n t) := hK ▸ pg_tup hc h hn hst
/-- a list as a test -/
def tL (K : PySem.W.Frag) (t : TE) : TT := fun σ H Q => t σ H fun x H1 => ∃ a xs, x = .ref a ∧ SqL K H1 a xs ∧ Q (!xs.isEmpty) H1
theorem pt_lst {K : PySem.W.Frag} {e : Expr} {t : TE} (hK : X.K = K) (h : PE X e t) (he : ∀ whole, isTrue e X.env whole = (do let v ← whole; standAt e.pos; holding [v] (truthy v)) := by intro _; rfl) : PT X e (tL K t) := by
  subst hK
  intro pins s σ H Q I hw
  refine isTrue_plain (thn (h pins s σ H _ I hw) fun v s1 ⟨x, H1, I1, r1, q1⟩ => ?_) (he _)
  obtain ⟨a, xs, rfl, hq, q⟩ := q1
  cases r1
  obtain ⟨its, rv, p, hz⟩ := I1.list hq
  have hl := rv.length
  rw [sizeLine_eq] at hz
  refine wpAny_truthy_list p.isList (by simp; omega) ⟨H1, I1.kept (t' := s1.toks + 1 + 1) fun b o e => e, ?_⟩
  have e : (!its.toArray.isEmpty) = !xs.isEmpty := by
    cases xs with
    | nil =>
      have : its = [] := List.length_eq_zero_iff.mp (by simpa using hl.symm)
      rw [this]; rfl
    | cons y r =>
      cases its with
      | nil => simp at hl
      | cons z r' => simp
  rw [e]
  exact q
end
/-- a comprehension over enumerate(xs) -/
theorem comp_enumT {K : PySem.W.Frag} {a : Addr} {xs : List V} {σ' : St} {g : TG} {ti : TT} {te : TE} {Q : VK} {H : Hp} (Pv : Nat → List V → Hp → Prop) (h0 : Pv 0 [] H) (hl : ∀ i ys H, i ≤ xs.length → Pv i ys H → SqL K H a xs)
    (hs : ∀ i x ys H p, xs[i]? = some x → Pv i ys H → H p = none → g (.ref p) σ' (upd H p (.tup [.int (i : Int), x])) fun σ2 H1 => (σ2.length = σ'.length ∧ ∀ (k : Nat) z, σ'[k]? = some (some z) → σ2[k]? = some (some z)) ∧ ti σ2 H1 fun b H2 => if b = true then te σ2 H2 fun y H3 => Pv (i + 1) (ys ++ [y]) H3 else Pv (i + 1) ys H2)
    (hz : ∀ i ys H, i < xs.length → Pv i ys H → ys.length < sizeLine)
    (hd : ∀ ys H, Pv xs.length ys H → ∀ D, H D = none → Q (.ref D) (upd H D (.lst ys))) : CompT σ' g ti te Q (Ite K a xs) H := by
  refine ⟨fun i m ys H => m = xs.length - i ∧ i ≤ xs.length ∧ Pv i ys H, ⟨xs.length, by simp, Nat.zero_le _, h0⟩, ?_⟩
  rintro i m ys H ⟨rfl, hi, p⟩
  have q := hl i ys H hi p
  by_cases hlt : i < xs.length
  · refine .inr ⟨⟨hlt, q⟩, ?_⟩
    have hx : xs[i]? = some xs[i] := List.getElem?_eq_getElem hlt
    refine ⟨hz i ys H hlt p, Pv (i + 1), fun ys' H' p' => ⟨xs.length - (i + 1), by omega, rfl, hlt, p'⟩, fun x H' y => ?_⟩
    obtain ⟨c, y, hc, ey, rfl, rfl⟩ := y
    exact hs i y ys H c ey p hc
  · have e : i = xs.length := by omega
    subst e
    exact .inl ⟨⟨rfl, q⟩, hd ys H p⟩
end L2

set_option Elab.async false
set_option linter.all false
set_option maxRecDepth 100000
set_option maxHeartbeats 4000000
namespace L2
open PySem PySem.Spec PyProof.Rows
section
variable {X : Cx}
/-- xs.count(k) of a list of ints -/
def rCount (K : PySem.W.Frag) : V → List V → Hp → VK → Prop := fun x vs H Q => ∃ (l : Addr) (ns : List Int) (k : Int), x = .ref l ∧ vs = [.int k] ∧ SqL K H l (ns.map V.int) ∧ Q (.int (ns.count k : Nat)) H
theorem mt_count {K : PySem.W.Frag} (hK : X.K = K) : MtM X "list.count" (rCount K) := by
  subst hK
  intro pins s σ H x vs v us Q I rx rv h
  obtain ⟨l, ns, k, rfl, rfl, hq, q⟩ := h
  cases rx
  obtain ⟨u, rfl, ru⟩ := rv.one
  obtain ⟨t, rfl⟩ := ru
  obtain ⟨its, rvs, pl, hz⟩ := I.list hq
  exact count_list_ints pl.isList (intsAre_of rvs) ⟨.int _, H, I.tok _, ⟨_, rfl⟩, q⟩
/-- -e -/
theorem pe_neg {a : Expr} {ta : TE} {pos : Pos} (ha : PE X a ta) : PE X (.UnaryOp .USub a pos) (tUn (rU fun i => .int (-i)) ta) := pe_un un_neg ha
/-- a list's method, in a comprehension too -/
theorem pe_bmC {o e : Expr} {es : List Expr} {to : TE} {t : TA} {name : Str} {apos cpos : Pos} {T id : String} {r : V → List V → Hp → VK → Prop} {K : PySem.W.Frag} (hK : X.K = K) (pa : PlainAttrs T) (slot : Slot T name id) (hty : typeOf (.builtin id) = pure (.type "method_descriptor")) (hm : MtR X id r) (ho : PE X o to) (ha : PA X (e :: es) t)
    (hbase : attributeBase o name X.env (eval o X.env) = eval o X.env := by rfl)
    (hfew : ((backTo cpos (starEach (e :: es) X.env)).all (fun x => !x.1) && (backToKw cpos (keywordEach [] X.env)).all (fun x => x.1.isSome)
      && decide ((e :: es).length + ([] : List Keyword).length + (if ([] : List Keyword).isEmpty then 0 else 1) < 30)) = true := by rfl)
    (hline : (apos.endLine == cpos.line) = true := by rfl) (hs : starEach (e :: es) X.env = (false, eval e X.env) :: starEach es X.env := by rfl) (hplain : (backTo cpos (starEach es X.env)).any (·.1) = false := by rfl) :
    PE X (.Call (.Attribute o name apos) (e :: es) [] cpos) (tBM K T r to t) := by
  subst hK
  exact pe_bm pa slot hty hm ho ha hbase hfew hline hs hplain
end
end L2

set_option Elab.async false
set_option linter.all false
set_option maxRecDepth 100000
set_option maxHeartbeats 4000000
namespace L2
open PySem PySem.Spec PyProof.Rows
section
variable {X : Cx}
/-- numbers of up to 4,000 bits -/
def CB (i : Int) : Prop := i.natAbs < 2 ^ 4000
theorem CB.bits {i : Int} (h : CB i) : Builtin.Int.intBits i ≤ 4000 := PyProof.Rows.intBits_le h
theorem CB.mul {i j : Int} (h1 : CB i) (h2 : CB j) : IntMulOk i j := by
  have a := h1.bits
  have b := h2.bits
  unfold IntMulOk Builtin.Int.intTooBig
  have : ¬ ((Builtin.Int.intBits i + Builtin.Int.intBits j : Int) > bitsLine) := by
    have hb : (8000 : Int) ≤ bitsLine := by decide +kernel
    omega
  rw [decide_eq_false this]
  simp
theorem op_mulB : OpR X (binaryOp .Mult) (rI (fun i j => CB i ∧ CB j) fun i j => .int (i * j)) := opI fun _ _ _ _ _ _ _ hc q => mul_int q (hc.1.mul hc.2)
theorem op_fdivB : OpR X (binaryOp .FloorDiv) (rI (fun _ j => j ≠ 0 ∧ CB j) fun i j => .int (i.fdiv j)) := opI fun _ j _ _ _ _ _ hc q => floordiv_int hc.1 q (.inl (PyProof.noPylong_of_log2 (by
  have h0 : j.natAbs ≠ 0 := fun z => hc.1 (Int.natAbs_eq_zero.mp z)
  have : j.natAbs.log2 < 4000 := (Nat.log2_lt h0).mpr hc.2
  omega)))
end
section
variable {X : Cx} {tg elt iter : Expr} {g : TG} {ifs : List Expr} {scope : Scope} {pos : Pos} {wi : TI} {ti : TT} {te : TE}
/-- y = [elt for (..) in iter if ..], y a plain local name -/
theorem ps_setCompT {y : Str} {py spos : Pos} {i : Nat} {N' : List Str} {ix : List (Option Nat)} (hN : X.N.Nodup) (hi' : X.N[i]? = some y) (hy : X.env.scope.names.lookup y = some .local)
    (S : CompSc X.N X.env.scope scope N' ix) (hg : ∀ C cl s H fp, N'.Nodup → PG (cxIn X scope N' C cl s H fp) tg g) (hc : X.calm = true) (hi : PI X tg iter wi)
    (ht : ∀ C cl s H fp, PIfs (cxIn X scope N' C cl s H fp) ifs ti) (he : ∀ C cl s H fp, PE (cxIn X scope N' C cl s H fp) elt te)
    (hsw : swapsWith (.ListComp elt [⟨tg, iter, ifs, 0⟩] scope pos) (some (.Name y py)) spos.line X.env = pure true := by rfl) (hs : ∀ x, foldedSetIterable iter X.env x = pure x := by intro _; rfl) :
    PS X (.Assign [.Name y py] (.ListComp elt [⟨tg, iter, ifs, 0⟩] scope pos) spos) (tAsg (tCompT ix wi g ti te) (gName i)) := by
  intro pins s σ H D I h
  obtain ⟨cl, hcl, c1, c2⟩ := comp_clos I S
  rw [exec_Assign_Name_used _ _ _ _ hsw]
  refine wpAny_bind (wpAny_standAt (wpAny_bind ?_))
  show wpAny _ X.A (do let _ ← comprehension (.ListComp elt [⟨tg, iter, ifs, 0⟩] scope pos) scope X.env _ (newList []) false (eval iter X.env) (some (assign (.Name y py) X.env))) _ _ s
  refine wpAny_bind (wpAny_mono (wpAny_comprehension_free (use := some (assign (.Name y py) X.env)) (Q := fun _ s' => SP X pins D .next s') rfl hs hcl S.kind S.names
    (thn (hi pins s σ H _ I h) fun v s1 h1 => thn h1 fun itv s2 h2 => ?_)) (fun _ s' hq => wpAny_pure (wpAny_pure hq)) fun _ _ e => e)
  obtain ⟨it, fp, tn, J, H2, e, I2, T, st2, f2, hW⟩ := h2
  subst e
  refine comp_runT (RR := fun acc C => compPost (model X.prog X.w) X.A X.xe (some (assign (.Name y py) X.env)) (fun _ s' => SP X pins D .next s') acc C) S hg hc ht he c1 c2 I2 T st2 f2 hW fun D' C H' s' m' I' hn lo hC q => ?_
  show wpAny _ X.A (assign (.Name y py) X.env (.ref D')) _ _ _
  refine wpAny_assign_Name (store_ok2 (i := i) (v := .ref D') I' hN hi' (.inl hy) rfl (fun s3 I3 ⟨a, sb, ha⟩ => ?_) (.inr hy))
  have hCa : C ≠ a := by
    rcases ha with z | z
    · rw [z]; exact lo.nl
    · exact Ne.symm (lo.nc _ _ z)
  refine ⟨m', hn.sameBut sb hCa, fun h' hs' => ?_⟩
  exact ⟨_, H', I3.same lo hs' rfl, q⟩
end
/-- a comprehension, by what holds ahead of each item -/
theorem comp_inv {J : It} {xs : List V} {σ' : St} {j : Nat} {ti : TT} {te : TE} {Q : VK} {H : Hp} (W : Wk J xs H) (Pv : Nat → List V → Hp → Prop) (h0 : Pv 0 [] H) (hm : ∀ i ys H3, Pv i ys H3 → Same H H3)
    (hs : ∀ i x ys H3, xs[i]? = some x → Pv i ys H3 → ti (σ'.set j (some x)) H3 fun b H4 => if b = true then te (σ'.set j (some x)) H4 fun y H5 => Pv (i + 1) (ys ++ [y]) H5 else Pv (i + 1) ys H4)
    (hz : ∀ i ys H3, i < xs.length → Pv i ys H3 → ys.length < sizeLine)
    (hd : ∀ ys H3, Pv xs.length ys H3 → ∀ D, H3 D = none → Q (.ref D) (upd H3 D (.lst ys))) : CompW σ' j ti te Q J H := by
  refine ⟨fun i m zs H3 => m = xs.length - i ∧ i ≤ xs.length ∧ Pv i zs H3, ⟨xs.length, by simp, Nat.zero_le _, h0⟩, ?_⟩
  rintro i m zs H3 ⟨rfl, hi, p⟩
  have s3 := hm i zs H3 p
  by_cases hlt : i < xs.length
  · refine .inr ⟨W.go i _ s3 hlt, hz i zs H3 hlt p, Pv (i + 1), fun zs' H' p' => ⟨xs.length - (i + 1), by omega, rfl, hlt, p'⟩, fun x H' y => ?_⟩
    obtain ⟨e, ex⟩ := W.yl i _ x H' s3 hlt y
    subst e
    exact hs i x zs H' ex p
  · have e : i = xs.length := by omega
    subst e
    exact .inl ⟨W.st _ s3, fun D hD => hd zs H3 p D hD⟩
end L2

set_option Elab.async false
set_option linter.all false
set_option maxRecDepth 100000
set_option maxHeartbeats 4000000
namespace L2
open PySem PySem.Spec PyProof.Rows
section
variable {X : Cx} {pins : List (Addr × Obj)} {σ : St} {H H' : Hp} {s : Shared}
end
section
variable {X : Cx} {pins : List (Addr × Obj)} {σ : St} {H : Hp} {s : Shared} {tg elt iter : Expr} {g : TG} {ifs : List Expr} {scope : Scope} {pos : Pos} {N' : List Str} {ix : List (Option Nat)} {wi : TI} {ti : TT} {te : TE}
end
end L2

set_option Elab.async false
set_option linter.all false
set_option maxRecDepth 100000
set_option maxHeartbeats 4000000
namespace Com
theorem gD_set_self {α : Type} {l : List α} {i : Nat} {v d : α} (h : i < l.length) : (l.set i v).getD i d = v := by
  simp [List.getD_eq_getElem?_getD, List.getElem?_set, h]
theorem gD_set_ne {α : Type} {l : List α} {i j : Nat} {v d : α} (h : i ≠ j) : (l.set i v).getD j d = l.getD j d := by
  simp [List.getD_eq_getElem?_getD, List.getElem?_set_ne h]
theorem gD_mem {α : Type} {l : List α} {i : Nat} {d : α} (h : i < l.length) : l.getD i d ∈ l := by
  rw [List.getD_eq_getElem?_getD, List.getElem?_eq_getElem h]
  exact List.getElem_mem h
theorem sum_set : ∀ {l : List Int} {i : Nat} {v : Int}, i < l.length → (l.set i v).sum = l.sum - l.getD i 0 + v
  | [], _, _, h => absurd h (by simp)
  | x :: r, 0, v, _ => by
    simp only [List.set_cons_zero, List.sum_cons, List.getD_cons_zero]
    omega
  | x :: r, i + 1, v, h => by
    have ih := sum_set (l := r) (i := i) (v := v) (by simpa using h)
    simp only [List.set_cons_succ, List.sum_cons, List.getD_cons_succ]
    omega
def sumTo : Nat → (Nat → Int) → Int
  | 0, _ => 0
  | n + 1, g => sumTo n g + g n
theorem sumTo_congr : ∀ {n : Nat} {g g' : Nat → Int}, (∀ i, i < n → g i = g' i) → sumTo n g = sumTo n g'
  | 0, _, _, _ => rfl
  | n + 1, g, g', h => by
    show sumTo n g + g n = sumTo n g' + g' n
    rw [sumTo_congr (n := n) fun i hi => h i (by omega), h n (by omega)]
theorem sumTo_one : ∀ {n s : Nat} {g g' : Nat → Int}, s < n → (∀ i, i < n → i ≠ s → g' i = g i) → sumTo n g' = sumTo n g - g s + g' s
  | 0, _, _, _, h, _ => absurd h (by omega)
  | n + 1, s, g, g', hs, h => by
    show sumTo n g' + g' n = sumTo n g + g n - g s + g' s
    by_cases e : s = n
    · subst e
      rw [sumTo_congr (n := s) (g := g') (g' := g) fun i hi => h i (by omega) (by omega)]
      omega
    · rw [sumTo_one (n := n) (s := s) (g := g) (g' := g') (by omega) fun i hi => h i (by omega), h n (by omega) (by omega)]
      omega
theorem sumTo_le : ∀ {n : Nat} {g g' : Nat → Int}, (∀ i, i < n → g i ≤ g' i) → sumTo n g ≤ sumTo n g'
  | 0, _, _, _ => Int.le_refl _
  | n + 1, g, g', h => by
    show sumTo n g + g n ≤ sumTo n g' + g' n
    have := sumTo_le (n := n) (g := g) (g' := g') fun i hi => h i (by omega)
    have := h n (by omega)
    omega
theorem sumTo_const (c : Int) : ∀ n : Nat, sumTo n (fun _ => c) = n * c
  | 0 => by simp [sumTo]
  | n + 1 => by
    show sumTo n (fun _ => c) + c = _
    rw [sumTo_const c n, show ((n + 1 : Nat) : Int) = (n : Int) + 1 by omega, Int.add_mul]
    omega
theorem sumTo_list : ∀ (l : List Int), sumTo l.length (fun i => l.getD i 0) = l.sum := by
  have key : ∀ (l : List Int) (k : Nat), k ≤ l.length → sumTo k (fun i => l.getD i 0) = (l.take k).sum := by
    intro l k
    induction k with
    | zero => intro _; simp [sumTo]
    | succ k ih =>
      intro h
      show sumTo k (fun i => l.getD i 0) + l.getD k 0 = _
      rw [ih (by omega), List.take_add_one, List.sum_append, List.getElem?_eq_getElem (show k < l.length by omega), List.getD_eq_getElem?_getD, List.getElem?_eq_getElem (show k < l.length by omega)]
      simp
  intro l
  rw [key l l.length (Nat.le_refl _), List.take_length]
def exitOf (rows : List (List Int)) (ts : List Int) (s : Nat) : Int := (rows.getD s []).getD (ts.getD s 0).toNat 0
def moveL (ls : List Int) (s : Nat) (g : Int) : List Int :=
  if g = -1 then ls.set s (ls.getD s 0 - 1) else (ls.set s (ls.getD s 0 - 1)).set g.toNat ((ls.set s (ls.getD s 0 - 1)).getD g.toNat 0 + 1)
def moveT (z g : Int) : Int := if g = -1 then z + 1 else z
def nextT (rows : List (List Int)) (ts : List Int) (s : Nat) : List Int := ts.set s ((ts.getD s 0 + 1) % ((rows.getD s []).length : Int))
def stepB (b : Brd) (s : Nat) : Brd := ⟨b.rows, nextT b.rows b.turns s, moveL b.loads s (exitOf b.rows b.turns s), b.steps.set s (b.steps.getD s 0 + 1), moveT b.taken (exitOf b.rows b.turns s)⟩
structure BrdOk (b : Brd) : Prop where
  W : Wf b.rows
  T : TurnsOk b.rows b.turns
  L : b.loads.length = b.rows.length
  S : b.steps.length = b.rows.length
  P : ∀ i, 0 ≤ b.loads.getD i 0
theorem le100 {n : Nat} (h : n ≤ 12) : n ≤ 100 := Nat.le_trans h (by decide)
theorem BrdOk.b1 {b : Brd} (O : BrdOk b) : b.rows.length ≤ 100 := le100 O.W.2.1
theorem BrdOk.b2 {b : Brd} (O : BrdOk b) : ∀ r ∈ b.rows, r.length ≤ 100 := fun r hr => Nat.le_trans (O.W.2.2 r hr).2.1 (by decide)
theorem BrdOk.b3 {b : Brd} (O : BrdOk b) : b.turns.length ≤ 100 := by rw [O.T.1]; exact O.b1
theorem BrdOk.b4 {b : Brd} (O : BrdOk b) : b.loads.length ≤ 100 := by rw [O.L]; exact O.b1
theorem BrdOk.b5 {b : Brd} (O : BrdOk b) : b.steps.length ≤ 100 := by rw [O.S]; exact O.b1
theorem exit_in {rows : List (List Int)} {ts : List Int} (W : Wf rows) (T : TurnsOk rows ts) {s : Nat} (h : s < rows.length) : -1 ≤ exitOf rows ts s ∧ exitOf rows ts s < (rows.length : Int) := by
  obtain ⟨t0, t1⟩ := T.2 s h
  have hm : exitOf rows ts s ∈ rows.getD s [] := gD_mem (by omega)
  exact (W.2.2 _ (gD_mem h)).2.2 _ hm
theorem row_len {rows : List (List Int)} (W : Wf rows) {s : Nat} (h : s < rows.length) : 1 ≤ (rows.getD s []).length ∧ (rows.getD s []).length ≤ 8 := ⟨(W.2.2 _ (gD_mem h)).1, (W.2.2 _ (gD_mem h)).2.1⟩
theorem moveL_len (ls : List Int) (s : Nat) (g : Int) : (moveL ls s g).length = ls.length := by
  unfold moveL
  split <;> simp
theorem moveL_nn {ls : List Int} {s : Nat} {g : Int} (h : ∀ i, 0 ≤ ls.getD i 0) (hs : 1 ≤ ls.getD s 0) : ∀ i, 0 ≤ (moveL ls s g).getD i 0 := by
  have h1 : ∀ i, 0 ≤ (ls.set s (ls.getD s 0 - 1)).getD i 0 := fun i => by
    by_cases e : s = i
    · subst e
      by_cases hl : s < ls.length
      · rw [gD_set_self hl]; omega
      · rw [List.set_eq_of_length_le (by omega)]; exact h s
    · rw [gD_set_ne e]; exact h i
  intro i
  unfold moveL
  split
  · exact h1 i
  · by_cases e : g.toNat = i
    · subst e
      by_cases hl : g.toNat < (ls.set s (ls.getD s 0 - 1)).length
      · rw [gD_set_self hl]; have := h1 g.toNat; omega
      · rw [List.set_eq_of_length_le (by omega)]; exact h1 _
    · rw [gD_set_ne e]; exact h1 i
theorem nextT_ok {rows : List (List Int)} {ts : List Int} (W : Wf rows) (T : TurnsOk rows ts) {s : Nat} (h : s < rows.length) : TurnsOk rows (nextT rows ts s) := by
  refine ⟨by unfold nextT; rw [List.length_set]; exact T.1, fun i hi => ?_⟩
  unfold nextT
  by_cases e : s = i
  · subst e
    rw [gD_set_self (by rw [T.1]; exact h)]
    have := (row_len W h).1
    exact ⟨Int.emod_nonneg _ (by omega), Int.emod_lt_of_pos _ (by omega)⟩
  · rw [gD_set_ne e]
    exact T.2 i hi
theorem BrdOk.step {b : Brd} (O : BrdOk b) {s : Nat} (h : s < b.rows.length) (hs : 1 ≤ b.loads.getD s 0) : BrdOk (stepB b s) :=
  ⟨O.W, nextT_ok O.W O.T h, by show (moveL _ _ _).length = _; rw [moveL_len]; exact O.L, by show (List.set _ _ _).length = _; rw [List.length_set]; exact O.S, moveL_nn O.P hs⟩
/-- what moves: weights over the sites -/
theorem moveL_sum {ls : List Int} {n s : Nat} {g : Int} (f : Int → Int) (hf : f (-1) = 0) (hl : ls.length = n) (h : s < n) (h0 : -1 ≤ g) (h1 : g < (n : Int)) :
    sumTo n (fun i => (moveL ls s g).getD i 0 * f i) = sumTo n (fun i => ls.getD i 0 * f i) - f s + f g := by
  have k1 : sumTo n (fun i => (ls.set s (ls.getD s 0 - 1)).getD i 0 * f i) = sumTo n (fun i => ls.getD i 0 * f i) - f s := by
    rw [sumTo_one (s := s) (g := fun i => ls.getD i 0 * f i) h fun i hi e => by
      show (ls.set s (ls.getD s 0 - 1)).getD i 0 * f i = ls.getD i 0 * f i
      rw [gD_set_ne (Ne.symm e)]]
    show sumTo n (fun i => ls.getD i 0 * f i) - ls.getD s 0 * f s + (ls.set s (ls.getD s 0 - 1)).getD s 0 * f s = _
    rw [gD_set_self (by omega), Int.sub_mul]
    omega
  unfold moveL
  split
  · rename_i e
    rw [k1, e, hf]
    omega
  · rename_i e
    have hg : g.toNat < n := by omega
    rw [sumTo_one (s := g.toNat) (g := fun i => (ls.set s (ls.getD s 0 - 1)).getD i 0 * f i) hg fun i hi e => by
      show ((ls.set s (ls.getD s 0 - 1)).set g.toNat _).getD i 0 * f i = (ls.set s (ls.getD s 0 - 1)).getD i 0 * f i
      rw [gD_set_ne (Ne.symm e)], k1]
    show sumTo n (fun i => ls.getD i 0 * f i) - f s - (ls.set s (ls.getD s 0 - 1)).getD g.toNat 0 * f g.toNat + ((ls.set s (ls.getD s 0 - 1)).set g.toNat ((ls.set s (ls.getD s 0 - 1)).getD g.toNat 0 + 1)).getD g.toNat 0 * f g.toNat = _
    rw [gD_set_self (by rw [List.length_set]; omega), Int.add_mul, show ((g.toNat : Nat) : Int) = g by omega]
    omega
/-- marbles on the board and taken -/
theorem move_sum {ls : List Int} {s : Nat} {g z : Int} (h : s < ls.length) (h0 : -1 ≤ g) (h1 : g < (ls.length : Int)) : (moveL ls s g).sum + moveT z g = ls.sum + z := by
  unfold moveL moveT
  split
  · rw [sum_set h]; omega
  · rw [sum_set (by rw [List.length_set]; omega), sum_set h]
    omega
def dropW (c : Int) (f : Int → Int) (r : List Int) (t : Nat) : Int := ((r.take t).map fun e => c - f e - 1).sum
theorem dropW_succ {c : Int} {f : Int → Int} {r : List Int} {t : Nat} (h : t < r.length) : dropW c f r (t + 1) = dropW c f r t + (c - f (r.getD t 0) - 1) := by
  unfold dropW
  rw [List.take_add_one, List.getElem?_eq_getElem h, List.map_append, List.sum_append, List.getD_eq_getElem?_getD, List.getElem?_eq_getElem h]
  simp
def pot (f : Int → Int) (b : Brd) : Int := sumTo b.rows.length (fun i => b.loads.getD i 0 * f i) + sumTo b.rows.length (fun i => dropW (f i) f (b.rows.getD i []) (b.turns.getD i 0).toNat)
theorem pot_step {f : Int → Int} {b : Brd} (hf : f (-1) = 0) (O : BrdOk b) {s : Nat} (h : s < b.rows.length) (hw : 0 ≤ dropW (f s) f (b.rows.getD s []) (b.rows.getD s []).length) : pot f (stepB b s) ≤ pot f b - 1 := by
  obtain ⟨x0, x1⟩ := exit_in O.W O.T h
  obtain ⟨t0, t1⟩ := O.T.2 s h
  have hl := (row_len O.W h).1
  unfold pot
  show sumTo b.rows.length (fun i => (moveL b.loads s (exitOf b.rows b.turns s)).getD i 0 * f i) + sumTo b.rows.length (fun i => dropW (f i) f (b.rows.getD i []) ((nextT b.rows b.turns s).getD i 0).toNat) ≤ _
  rw [moveL_sum f hf O.L h x0 x1]
  have e4 := sumTo_one (n := b.rows.length) (s := s) (g := fun i => dropW (f i) f (b.rows.getD i []) (b.turns.getD i 0).toNat) (g' := fun i => dropW (f i) f (b.rows.getD i []) ((nextT b.rows b.turns s).getD i 0).toNat) h fun i hi e => by
    show dropW (f i) f (b.rows.getD i []) ((nextT b.rows b.turns s).getD i 0).toNat = _
    unfold nextT
    rw [gD_set_ne (Ne.symm e)]
  rw [e4]
  have e1 : (nextT b.rows b.turns s).getD s 0 = (b.turns.getD s 0 + 1) % ((b.rows.getD s []).length : Int) := by
    unfold nextT
    rw [gD_set_self (by rw [O.T.1]; exact h)]
  have e2 : dropW (f s) f (b.rows.getD s []) ((b.turns.getD s 0).toNat + 1) = dropW (f s) f (b.rows.getD s []) (b.turns.getD s 0).toNat + (f s - f (exitOf b.rows b.turns s) - 1) := dropW_succ (by omega)
  have e3 : dropW (f s) f (b.rows.getD s []) ((nextT b.rows b.turns s).getD s 0).toNat ≤ dropW (f s) f (b.rows.getD s []) ((b.turns.getD s 0).toNat + 1) := by
    rw [e1]
    by_cases e : b.turns.getD s 0 + 1 = ((b.rows.getD s []).length : Int)
    · rw [e, Int.emod_self, show (b.turns.getD s 0).toNat + 1 = (b.rows.getD s []).length by omega]
      show dropW _ _ _ 0 ≤ _
      have z : dropW (f s) f (b.rows.getD s []) 0 = 0 := by unfold dropW; simp
      rw [z]
      exact hw
    · rw [Int.emod_eq_of_lt (by omega) (by omega), show (b.turns.getD s 0 + 1).toNat = (b.turns.getD s 0).toNat + 1 by omega]
      exact Int.le_refl _
  show _ + (_ - dropW (f s) f (b.rows.getD s []) (b.turns.getD s 0).toNat + dropW (f s) f (b.rows.getD s []) ((nextT b.rows b.turns s).getD s 0).toNat) ≤ _
  omega
/-- rows on which M marbles have at most 20,000 steps -/
structure Weigh (rows : List (List Int)) (M : Int) (f : Int → Int) (G D1 D2 : Int) : Prop where
  pit : f (-1) = 0
  low : ∀ i, i < rows.length → 0 ≤ f (i : Nat)
  top : ∀ i, i < rows.length → f (i : Nat) ≤ G
  full : ∀ i, i < rows.length → 0 ≤ dropW (f (i : Nat)) f (rows.getD i []) (rows.getD i []).length
  dLow : ∀ i, i < rows.length → ∀ t, t < (rows.getD i []).length → -D1 ≤ dropW (f (i : Nat)) f (rows.getD i []) t
  dTop : ∀ i, i < rows.length → ∀ t, t < (rows.getD i []).length → dropW (f (i : Nat)) f (rows.getD i []) t ≤ D2
  g0 : 0 ≤ G
  all : M * G + (rows.length : Int) * (D1 + D2) ≤ 20000
def Tame (rows : List (List Int)) (M : Int) : Prop := ∃ f G D1 D2, Weigh rows M f G D1 D2
theorem tame_mu {rows : List (List Int)} {M : Int} (T : Tame rows M) : ∃ μ : Brd → Nat, (∀ b, BrdOk b → b.rows = rows → b.loads.sum ≤ M → μ b ≤ 20000) ∧ ∀ b s, BrdOk b → b.rows = rows → s < rows.length → 1 ≤ b.loads.getD s 0 → μ (stepB b s) + 1 ≤ μ b := by
  obtain ⟨f, G, D1, D2, w⟩ := T
  have lo : ∀ b, BrdOk b → b.rows = rows → -((rows.length : Int) * D1) ≤ pot f b := fun b O e => by
    unfold pot
    rw [e]
    have z1 : (0 : Int) ≤ sumTo rows.length (fun i => b.loads.getD i 0 * f i) := by
      have := sumTo_le (n := rows.length) (g := fun _ => 0) (g' := fun i => b.loads.getD i 0 * f i) fun i hi => Int.mul_nonneg (O.P i) (w.low i hi)
      rw [sumTo_const] at this
      omega
    have z2 := sumTo_le (n := rows.length) (g := fun _ => -D1) (g' := fun i => dropW (f i) f (rows.getD i []) (b.turns.getD i 0).toNat) fun i hi => by
      have := O.T.2 i (by rw [e]; exact hi)
      rw [e] at this
      exact w.dLow i hi _ (by omega)
    rw [sumTo_const, Int.mul_neg] at z2
    omega
  refine ⟨fun b => (pot f b + (rows.length : Int) * D1).toNat, fun b O e hs => ?_, fun b s O e h h1 => ?_⟩
  · have z1 := sumTo_le (n := rows.length) (g := fun i => b.loads.getD i 0 * f i) (g' := fun i => b.loads.getD i 0 * G) fun i hi => Int.mul_le_mul_of_nonneg_left (w.top i hi) (O.P i)
    have z2 : sumTo rows.length (fun i => b.loads.getD i 0 * G) = b.loads.sum * G := by
      have key : ∀ n, sumTo n (fun i => b.loads.getD i 0 * G) = sumTo n (fun i => b.loads.getD i 0) * G := by
        intro n
        induction n with
        | zero => simp [sumTo]
        | succ n ih =>
          show sumTo n (fun i => b.loads.getD i 0 * G) + b.loads.getD n 0 * G = (sumTo n (fun i => b.loads.getD i 0) + b.loads.getD n 0) * G
          rw [ih, Int.add_mul]
      rw [key, ← sumTo_list b.loads, O.L, e]
    have z3 : b.loads.sum * G ≤ M * G := Int.mul_le_mul_of_nonneg_right hs w.g0
    have z4 := sumTo_le (n := rows.length) (g := fun i => dropW (f i) f (rows.getD i []) (b.turns.getD i 0).toNat) (g' := fun _ => D2) fun i hi => by
      have := O.T.2 i (by rw [e]; exact hi)
      rw [e] at this
      exact w.dTop i hi _ (by omega)
    rw [sumTo_const] at z4
    have := w.all
    rw [Int.mul_add] at this
    have e5 : pot f b = sumTo rows.length (fun i => b.loads.getD i 0 * f i) + sumTo rows.length (fun i => dropW (f i) f (rows.getD i []) (b.turns.getD i 0).toNat) := by unfold pot; rw [e]
    show (pot f b + (rows.length : Int) * D1).toNat ≤ 20000
    omega
  · have z1 := pot_step (s := s) w.pit O (by rw [e]; exact h) (by rw [e]; exact w.full s h)
    have z2 := lo (stepB b s) (O.step (by rw [e]; exact h) h1) e
    show (pot f (stepB b s) + (rows.length : Int) * D1).toNat + 1 ≤ (pot f b + (rows.length : Int) * D1).toNat
    omega
def ladenL (ls : List Int) : List Nat := (List.range ls.length).filter fun i => decide (0 < ls.getD i 0)
theorem laden_mem {ls : List Int} {s : Nat} (h : s ∈ ladenL ls) : s < ls.length ∧ 1 ≤ ls.getD s 0 := by
  unfold ladenL at h
  rw [List.mem_filter, List.mem_range, decide_eq_true_eq] at h
  omega
theorem laden_nil {ls : List Int} (h : ladenL ls = []) (P : ∀ i, 0 ≤ ls.getD i 0) : ls = List.replicate ls.length 0 := by
  refine List.ext_getElem (by simp) fun i h1 h2 => ?_
  rw [List.getElem_replicate]
  have e : ls.getD i 0 = ls[i] := by rw [List.getD_eq_getElem?_getD, List.getElem?_eq_getElem h1]; rfl
  by_cases z : 0 < ls.getD i 0
  · have : i ∈ ladenL ls := by
      unfold ladenL
      rw [List.mem_filter, List.mem_range, decide_eq_true_eq]
      exact ⟨h1, z⟩
    rw [h] at this
    cases this
  · have := P i
    omega
theorem all_open {rows : List (List Int)} (h : ∀ i, i < rows.length → rch rows i = true) : (reachL rows).all id = true := by
  rw [List.all_eq_true]
  intro x hx
  unfold reachL at hx
  obtain ⟨i, hi, rfl⟩ := List.mem_map.mp hx
  exact h i (List.mem_range.mp hi)
def nxt (b : Brd) : Brd := match (ladenL b.loads).head? with
  | none => b
  | some s => stepB b s
def iterR : Nat → Brd → Brd
  | 0, b => b
  | k + 1, b => nxt (iterR k b)
theorem nxt_some {b : Brd} {s : Nat} (h : (ladenL b.loads).head? = some s) : nxt b = stepB b s := by unfold nxt; rw [h]
theorem nxt_none {b : Brd} (h : ladenL b.loads = []) : nxt b = b := by unfold nxt; rw [h]; rfl
theorem BrdOk.nxt {b : Brd} (O : BrdOk b) : BrdOk (nxt b) ∧ (Com.nxt b).rows = b.rows ∧ (Com.nxt b).loads.sum + (Com.nxt b).taken = b.loads.sum + b.taken := by
  cases h : (ladenL b.loads).head? with
  | none =>
    have : Com.nxt b = b := by unfold Com.nxt; rw [h]
    rw [this]
    exact ⟨O, rfl, rfl⟩
  | some s =>
    obtain ⟨h1, h2⟩ := laden_mem (List.mem_of_head? h)
    rw [nxt_some h]
    have hs : s < b.rows.length := by rw [← O.L]; exact h1
    have hx := exit_in O.W O.T hs
    exact ⟨O.step hs h2, rfl, move_sum h1 hx.1 (by rw [O.L]; exact hx.2)⟩
theorem BrdOk.iter {b : Brd} (O : BrdOk b) : ∀ k, BrdOk (iterR k b) ∧ (iterR k b).rows = b.rows ∧ (iterR k b).loads.sum + (iterR k b).taken = b.loads.sum + b.taken
  | 0 => ⟨O, rfl, rfl⟩
  | k + 1 => by
    obtain ⟨h1, h2, h3⟩ := O.iter k
    obtain ⟨g1, g2, g3⟩ := h1.nxt
    exact ⟨g1, g2.trans h2, g3.trans h3⟩
structure RunTo (b : Brd) (N : Nat) : Prop where
  done : ladenL (iterR N b).loads = []
  more : ∀ i, i < N → ladenL (iterR i b).loads ≠ []
theorem run_ex {b : Brd} (O : BrdOk b) {M : Int} (T : Tame b.rows M) (h : b.loads.sum ≤ M) : ∃ N, N ≤ 20000 ∧ RunTo b N := by
  obtain ⟨μ, m1, m2⟩ := tame_mu T
  have key : ∀ k, (∃ N, N ≤ k ∧ RunTo b N) ∨ ((∀ i, i < k → ladenL (iterR i b).loads ≠ []) ∧ μ (iterR k b) + k ≤ μ b) := by
    intro k
    induction k with
    | zero => exact .inr ⟨fun i hi => by omega, Nat.le_refl _⟩
    | succ k ih =>
      rcases ih with ⟨N, h1, h2⟩ | ⟨h1, h2⟩
      · exact .inl ⟨N, by omega, h2⟩
      · by_cases e : ladenL (iterR k b).loads = []
        · exact .inl ⟨k, by omega, e, h1⟩
        · refine .inr ⟨fun i hi => ?_, ?_⟩
          · by_cases e' : i = k
            · rw [e']; exact e
            · exact h1 i (by omega)
          · obtain ⟨O1, r1, _⟩ := O.iter k
            cases q : (ladenL (iterR k b).loads).head? with
            | none => exact absurd (List.head?_eq_none_iff.mp q) e
            | some s =>
              obtain ⟨g1, g2⟩ := laden_mem (List.mem_of_head? q)
              have := m2 (iterR k b) s O1 r1 (by rw [← r1, ← O1.L]; exact g1) g2
              show μ (nxt (iterR k b)) + (k + 1) ≤ μ b
              rw [nxt_some q]
              omega
  have hb := m1 b O rfl h
  rcases key 20001 with ⟨N, h1, h2⟩ | ⟨h1, h2⟩
  · by_cases e : N = 20001
    · rcases key 20000 with ⟨N', g1, g2⟩ | ⟨g1, g2⟩
      · exact ⟨N', g1, g2⟩
      · subst e
        have z := h2.more 20000 (by omega)
        obtain ⟨O1, r1, _⟩ := O.iter 20000
        cases q : (ladenL (iterR 20000 b).loads).head? with
        | none => exact absurd (List.head?_eq_none_iff.mp q) z
        | some s =>
          obtain ⟨k1, k2⟩ := laden_mem (List.mem_of_head? q)
          have := m2 (iterR 20000 b) s O1 r1 (by rw [← r1, ← O1.L]; exact k1) k2
          omega
    · exact ⟨N, by omega, h2⟩
  · omega
theorem iter_steps {b : Brd} (O : BrdOk b) {N : Nat} (R : RunTo b N) : ∀ k, k ≤ N → (iterR k b).steps.sum = b.steps.sum + k
  | 0, _ => by simp [iterR]
  | k + 1, h => by
    have ih := iter_steps O R k (by omega)
    obtain ⟨O1, r1, _⟩ := O.iter k
    cases q : (ladenL (iterR k b).loads).head? with
    | none => exact absurd (List.head?_eq_none_iff.mp q) (R.more k (by omega))
    | some s =>
      obtain ⟨g1, g2⟩ := laden_mem (List.mem_of_head? q)
      show (nxt (iterR k b)).steps.sum = _
      rw [nxt_some q]
      show ((iterR k b).steps.set s ((iterR k b).steps.getD s 0 + 1)).sum = _
      rw [sum_set (by rw [O1.S, ← O1.L]; exact g1)]
      omega
end Com

set_option Elab.async false
set_option linter.all false
set_option maxRecDepth 100000
set_option maxHeartbeats 4000000
namespace Com
def qn (u : Nat → Nat) (n : Nat) : Nat → Nat
  | 0 => 1
  | i + 1 => (1 + u (n - 1 - i)) * qn u n i + 1
theorem qn_pos (u : Nat → Nat) (n : Nat) : ∀ i, 1 ≤ qn u n i
  | 0 => Nat.le_refl _
  | i + 1 => by unfold qn; omega
theorem qn_succ (u : Nat → Nat) (n i : Nat) : qn u n i + 1 ≤ qn u n (i + 1) := by
  show _ ≤ (1 + u (n - 1 - i)) * qn u n i + 1
  rw [Nat.add_mul]
  omega
theorem qn_mono (u : Nat → Nat) (n : Nat) {i j : Nat} (h : i ≤ j) : qn u n i ≤ qn u n j := by
  induction j with
  | zero => rw [show i = 0 by omega]; exact Nat.le_refl _
  | succ j ih =>
    by_cases e : i = j + 1
    · rw [e]; exact Nat.le_refl _
    · have := ih (by omega)
      have := qn_succ u n j
      omega
def ups (k : Int) (r : List Int) : Nat := (r.filter fun e => decide (k ≤ e)).length
def sumU (u : Nat → Nat) : Nat → Nat
  | 0 => 0
  | n + 1 => sumU u n + u n
theorem qn_small {u : Nat → Nat} {n : Nat} (h : ∀ i, i < n → u i ≤ 2) : ∀ i, i ≤ n → 2 * qn u n i + 1 ≤ 3 ^ (i + 1)
  | 0, _ => by show 2 * 1 + 1 ≤ 3 ^ 1; decide
  | i + 1, hi => by
    have ih := qn_small h i (by omega)
    have hu := h (n - 1 - i) (by omega)
    show 2 * ((1 + u (n - 1 - i)) * qn u n i + 1) + 1 ≤ 3 ^ (i + 1 + 1)
    have := Nat.mul_le_mul_right (qn u n i) (show 1 + u (n - 1 - i) ≤ 3 by omega)
    rw [Nat.pow_succ]
    omega
theorem qn_big {u : Nat → Nat} {n : Nat} : ∀ i s, i ≤ n → sumU u (n - i) + s = sumU u n → qn u n i ≤ (i + 1) * 2 ^ s
  | 0, s, _, _ => by show 1 ≤ 1 * 2 ^ s; have := Nat.one_le_two_pow (n := s); omega
  | i + 1, s, hi, hs => by
    have e : n - i = (n - (i + 1)) + 1 := by omega
    have e2 : sumU u (n - i) = sumU u (n - (i + 1)) + u (n - (i + 1)) := by rw [e]; rfl
    have e3 : sumU u (n - i) ≤ sumU u n := by
      have key : ∀ a b, a ≤ b → sumU u a ≤ sumU u b := by
        intro a b h
        induction b with
        | zero => rw [show a = 0 by omega]; exact Nat.le_refl _
        | succ b ih =>
          by_cases z : a = b + 1
          · rw [z]; exact Nat.le_refl _
          · have := ih (by omega)
            show sumU u a ≤ sumU u b + u b
            omega
      exact key _ _ (by omega)
    have ih := qn_big (u := u) (n := n) i (sumU u n - sumU u (n - i)) (by omega) (by omega)
    have e4 : s = u (n - 1 - i) + (sumU u n - sumU u (n - i)) := by
      rw [show n - 1 - i = n - (i + 1) by omega]; omega
    show (1 + u (n - 1 - i)) * qn u n i + 1 ≤ (i + 1 + 1) * 2 ^ s
    rw [e4, Nat.pow_add]
    generalize sumU u n - sumU u (n - i) = s' at ih
    generalize u (n - 1 - i) = v
    have hv : 1 + v ≤ 2 ^ v := by have := Nat.lt_two_pow_self (n := v); omega
    have g1 : (1 + v) * qn u n i ≤ 2 ^ v * ((i + 1) * 2 ^ s') := Nat.mul_le_mul hv ih
    have g2 : 2 ^ v * ((i + 1) * 2 ^ s') = (i + 1) * (2 ^ v * 2 ^ s') := by rw [Nat.mul_left_comm]
    have g3 : 1 ≤ 2 ^ v * 2 ^ s' := Nat.mul_pos Nat.one_le_two_pow Nat.one_le_two_pow
    rw [Nat.add_mul (i + 1) 1]
    omega
theorem drop_lo (g : Int → Int) (k X : Int) : ∀ r : List Int, (∀ e ∈ r, e < k → 0 ≤ g e) → (∀ e ∈ r, k ≤ e → -X ≤ g e) → -((ups k r : Int) * X) ≤ (r.map g).sum
  | [], _, _ => by simp [ups]
  | e :: r, h1, h2 => by
    have ih := drop_lo g k X r (fun x hx => h1 x (List.mem_cons_of_mem _ hx)) (fun x hx => h2 x (List.mem_cons_of_mem _ hx))
    rw [List.map_cons, List.sum_cons]
    by_cases z : k ≤ e
    · have : ups k (e :: r) = ups k r + 1 := by simp [ups, z]
      rw [this, show ((ups k r + 1 : Nat) : Int) = (ups k r : Int) + 1 by omega, Int.add_mul]
      have := h2 e List.mem_cons_self z
      omega
    · have : ups k (e :: r) = ups k r := by unfold ups; rw [List.filter_cons_of_neg (by simpa using z)]
      rw [this]
      have := h1 e List.mem_cons_self (by omega)
      omega
theorem drop_one (g : Int → Int) (k X Y : Int) (hY : 0 ≤ Y) : ∀ r : List Int, (∃ e ∈ r, e < k) → (∀ e ∈ r, e < k → Y ≤ g e) → (∀ e ∈ r, k ≤ e → -X ≤ g e) → Y - (ups k r : Int) * X ≤ (r.map g).sum
  | [], ⟨e, he, _⟩, _, _ => by cases he
  | e :: r, hx, h1, h2 => by
    rw [List.map_cons, List.sum_cons]
    by_cases z : k ≤ e
    · have : ups k (e :: r) = ups k r + 1 := by simp [ups, z]
      rw [this, show ((ups k r + 1 : Nat) : Int) = (ups k r : Int) + 1 by omega, Int.add_mul]
      have ih := drop_one g k X Y hY r (by
        obtain ⟨x, hx, hl⟩ := hx
        rcases List.mem_cons.mp hx with y | y
        · omega
        · exact ⟨x, y, hl⟩) (fun x hx => h1 x (List.mem_cons_of_mem _ hx)) (fun x hx => h2 x (List.mem_cons_of_mem _ hx))
      have := h2 e List.mem_cons_self z
      omega
    · have : ups k (e :: r) = ups k r := by unfold ups; rw [List.filter_cons_of_neg (by simpa using z)]
      rw [this]
      have ih := drop_lo g k X r (fun x hx hl => Int.le_trans hY (h1 x (List.mem_cons_of_mem _ hx) hl)) (fun x hx => h2 x (List.mem_cons_of_mem _ hx))
      have := h1 e List.mem_cons_self (by omega)
      omega
theorem drop_hi (g : Int → Int) (G : Int) (hG : 0 ≤ G) : ∀ r : List Int, (∀ e ∈ r, g e ≤ G) → (r.map g).sum ≤ (r.length : Int) * G
  | [], _ => by simp
  | e :: r, h => by
    have ih := drop_hi g G hG r fun x hx => h x (List.mem_cons_of_mem _ hx)
    have := h e List.mem_cons_self
    rw [List.map_cons, List.sum_cons, List.length_cons, show ((r.length + 1 : Nat) : Int) = (r.length : Int) + 1 by omega, Int.add_mul]
    omega
theorem ups_take (k : Int) (r : List Int) (t : Nat) : ups k (r.take t) ≤ ups k r := ((List.take_sublist t r).filter _).length_le
def Shape (rows : List (List Int)) (u : Nat → Nat) : Prop := ∀ k, k < rows.length → ups (k : Nat) (rows.getD k []) ≤ u k ∧ u k ≤ 3 ∧ ∃ e ∈ rows.getD k [], e < (k : Int)
theorem term_of {n e i : Int} {qn0 qe qi u : Int} (k4 : e < i → (1 + u) * qi + 1 ≤ qe) (k1 : 1 ≤ qe) (k3 : qe ≤ qn0) (k2 : 1 ≤ qi) : (e < i → u * qi ≤ (qn0 - qi) - (qn0 - qe) - 1) ∧ (i ≤ e → -qi ≤ (qn0 - qi) - (qn0 - qe) - 1) ∧ (qn0 - qi) - (qn0 - qe) - 1 ≤ qn0 - 1 := by
  refine ⟨fun h => ?_, fun _ => by omega, by omega⟩
  have := k4 h
  rw [Int.add_mul] at this
  omega
theorem shape_tame {rows : List (List Int)} {u : Nat → Nat} {M : Int} (W : Wf rows) (S : Shape rows u) (hb : (M + 10 * (rows.length : Int)) * ((qn u rows.length rows.length : Int) - 1) ≤ 20000) : Tame rows M := by
  generalize hn : rows.length = n at hb
  have q1 : ∀ i, 1 ≤ qn u n i := qn_pos u n
  have qm : ∀ {i j : Nat}, i ≤ j → qn u n i ≤ qn u n j := fun {i j} h => qn_mono u n h
  have qs : ∀ i, i < n → qn u n (n - 1 - i + 1) = (1 + u i) * qn u n (n - 1 - i) + 1 := fun i hi => by
    show (1 + u (n - 1 - (n - 1 - i))) * qn u n (n - 1 - i) + 1 = _
    rw [show n - 1 - (n - 1 - i) = i by omega]
  have qt : ∀ i, i < n → qn u n (n - 1 - i) + 1 ≤ qn u n n := fun i hi => Nat.le_trans (qn_succ u n (n - 1 - i)) (qm (by omega))
  generalize qn u n = q at q1 qm qs qt hb
  have gn : (1 : Int) ≤ q n := by have := q1 n; omega
  have fk : ∀ i : Nat, (q n : Int) - (q ((n : Int) - 1 - (i : Nat)).toNat : Int) = (q n : Int) - (q (n - 1 - i) : Int) := fun i => by
    rw [show ((n : Int) - 1 - (i : Nat)).toNat = n - 1 - i by omega]
  have hex : ∀ i, i < n → ∀ e ∈ rows.getD i [], -1 ≤ e ∧ e < (n : Int) := fun i hi e he => by
    have := (W.2.2 _ (gD_mem (show i < rows.length by rw [hn]; exact hi))).2.2 e he
    rw [hn] at this
    exact this
  have hlen : ∀ i, i < n → (rows.getD i []).length ≤ 8 := fun i hi => (row_len W (by rw [hn]; exact hi)).2
  have hsh : ∀ i, i < n → ups (i : Nat) (rows.getD i []) ≤ u i ∧ u i ≤ 3 ∧ ∃ e ∈ rows.getD i [], e < (i : Int) := fun i hi => S i (by rw [hn]; exact hi)
  clear S W
  have term : ∀ i, i < n → ∀ e ∈ rows.getD i [], (e < (i : Int) → (u i : Int) * (q (n - 1 - i) : Int) ≤ ((q n : Int) - (q (n - 1 - i) : Int)) - ((q n : Int) - (q ((n : Int) - 1 - e).toNat : Int)) - 1) ∧ (((i : Nat) : Int) ≤ e → -(q (n - 1 - i) : Int) ≤ ((q n : Int) - (q (n - 1 - i) : Int)) - ((q n : Int) - (q ((n : Int) - 1 - e).toNat : Int)) - 1) ∧ ((q n : Int) - (q (n - 1 - i) : Int)) - ((q n : Int) - (q ((n : Int) - 1 - e).toNat : Int)) - 1 ≤ (q n : Int) - 1 := fun i hi e he => by
    obtain ⟨e0, e1⟩ := hex i hi e he
    have k1 := q1 ((n : Int) - 1 - e).toNat
    have k2 := q1 (n - 1 - i)
    have k3 : q ((n : Int) - 1 - e).toNat ≤ q n := qm (by omega)
    refine term_of (n := n) (fun h => ?_) (by omega) (by omega) (by omega)
    have k4 : q (n - 1 - i + 1) ≤ q ((n : Int) - 1 - e).toNat := qm (by omega)
    rw [qs i hi] at k4
    have k5 : (((1 + u i) * q (n - 1 - i) + 1 : Nat) : Int) ≤ (q ((n : Int) - 1 - e).toNat : Int) := Int.ofNat_le.mpr k4
    simpa using k5
  refine ⟨fun e => (q n : Int) - (q ((n : Int) - 1 - e).toNat : Int), (q n : Int) - 1, 3 * ((q n : Int) - 1), 7 * ((q n : Int) - 1), ?_⟩
  refine ⟨?_, fun i hi => ?_, fun i hi => ?_, fun i hi => ?_, fun i hi t ht => ?_, fun i hi t ht => ?_, by omega, ?_⟩
  · show (q n : Int) - (q ((n : Int) - 1 - -1).toNat : Int) = 0
    rw [show ((n : Int) - 1 - -1).toNat = n by omega]
    omega
  · rw [hn] at hi
    rw [fk]
    have := qt i hi
    omega
  · rw [hn] at hi
    rw [fk]
    have := q1 (n - 1 - i)
    omega
  · rw [hn] at hi
    obtain ⟨s1, s2, s3⟩ := hsh i hi
    have z := drop_one (fun e => ((q n : Int) - (q (n - 1 - i) : Int)) - ((q n : Int) - (q ((n : Int) - 1 - e).toNat : Int)) - 1) (i : Nat) (q (n - 1 - i) : Int) ((u i : Int) * (q (n - 1 - i) : Int)) (Int.mul_nonneg (Int.natCast_nonneg _) (Int.natCast_nonneg _)) (rows.getD i []) s3 (fun e he => (term i hi e he).1) (fun e he => (term i hi e he).2.1)
    unfold dropW
    dsimp only
    rw [List.take_length, fk]
    have m : (ups (i : Nat) (rows.getD i []) : Int) * (q (n - 1 - i) : Int) ≤ (u i : Int) * (q (n - 1 - i) : Int) := Int.mul_le_mul_of_nonneg_right (Int.ofNat_le.mpr s1) (Int.natCast_nonneg _)
    exact Int.le_trans (Int.sub_nonneg.mpr m) z
  · rw [hn] at hi
    obtain ⟨s1, s2, s3⟩ := hsh i hi
    have z := drop_lo (fun e => ((q n : Int) - (q (n - 1 - i) : Int)) - ((q n : Int) - (q ((n : Int) - 1 - e).toNat : Int)) - 1) (i : Nat) (q (n - 1 - i) : Int) ((rows.getD i []).take t) (fun e he h => Int.le_trans (Int.mul_nonneg (Int.natCast_nonneg _) (Int.natCast_nonneg _)) ((term i hi e (List.mem_of_mem_take he)).1 h)) (fun e he => (term i hi e (List.mem_of_mem_take he)).2.1)
    have z2 : ups (i : Nat) ((rows.getD i []).take t) ≤ 3 := Nat.le_trans (ups_take (i : Nat) (rows.getD i []) t) (Nat.le_trans s1 s2)
    have z3 := qt i hi
    have m : (ups (i : Nat) ((rows.getD i []).take t) : Int) * (q (n - 1 - i) : Int) ≤ 3 * ((q n : Int) - 1) := Int.mul_le_mul (Int.ofNat_le.mpr z2) (by omega) (Int.natCast_nonneg _) (by decide)
    unfold dropW
    dsimp only
    rw [fk]
    exact Int.le_trans (Int.neg_le_neg m) z
  · rw [hn] at hi
    have hl := hlen i hi
    have z := drop_hi (fun e => ((q n : Int) - (q (n - 1 - i) : Int)) - ((q n : Int) - (q ((n : Int) - 1 - e).toNat : Int)) - 1) ((q n : Int) - 1) (by omega) ((rows.getD i []).take t) (fun e he => (term i hi e (List.mem_of_mem_take he)).2.2)
    rw [List.length_take] at z
    have m : ((min t (rows.getD i []).length : Nat) : Int) * ((q n : Int) - 1) ≤ 7 * ((q n : Int) - 1) := Int.mul_le_mul_of_nonneg_right (by omega) (by omega)
    unfold dropW
    dsimp only
    rw [fk]
    exact Int.le_trans z m
  · rw [hn]
    have e : M * ((q n : Int) - 1) + (n : Int) * (3 * ((q n : Int) - 1) + 7 * ((q n : Int) - 1)) = (M + 10 * (n : Int)) * ((q n : Int) - 1) := by
      rw [← Int.add_mul, Int.add_mul M, ← Int.mul_assoc, Int.mul_comm (n : Int) (3 + 7)]
      rfl
    rw [e]
    exact hb
theorem tame_small {rows : List (List Int)} {u : Nat → Nat} (W : Wf rows) (S : Shape rows u) (hn : rows.length ≤ 4) (hu : ∀ i, i < rows.length → u i ≤ 2) : Tame rows 30 := by
  refine shape_tame W S ?_
  have h := qn_small hu rows.length (Nat.le_refl _)
  have h3 : (3 : Nat) ^ (rows.length + 1) ≤ 3 ^ 5 := Nat.pow_le_pow_right (by decide) (by omega)
  have h4 : (3 : Nat) ^ 5 = 243 := by decide
  have hp := qn_pos u rows.length rows.length
  exact Int.le_trans (Int.mul_le_mul (show (30 : Int) + 10 * (rows.length : Int) ≤ 70 by omega) (show (qn u rows.length rows.length : Int) - 1 ≤ 120 by omega) (by omega) (by decide)) (by decide)
theorem tame_big {rows : List (List Int)} {u : Nat → Nat} (W : Wf rows) (S : Shape rows u) (hu : sumU u rows.length ≤ 3) : Tame rows 30 := by
  refine shape_tame W S ?_
  have h := qn_big (u := u) (n := rows.length) rows.length (sumU u rows.length) (Nat.le_refl _) (by simp [sumU])
  have hn := W.2.1
  have hp := qn_pos u rows.length rows.length
  have h2 : (2 : Nat) ^ sumU u rows.length ≤ 2 ^ 3 := Nat.pow_le_pow_right (by decide) hu
  have h3 : (rows.length + 1) * 2 ^ sumU u rows.length ≤ 13 * 8 := Nat.mul_le_mul (by omega) h2
  exact Int.le_trans (Int.mul_le_mul (show (30 : Int) + 10 * (rows.length : Int) ≤ 150 by omega) (show (qn u rows.length rows.length : Int) - 1 ≤ 103 by omega) (by omega) (by decide)) (by decide)
theorem sumU_zero : ∀ n, sumU (fun _ => 0) n = 0
  | 0 => rfl
  | n + 1 => by show sumU (fun _ => 0) n + 0 = 0; rw [sumU_zero n]
def othC (n g : Int) : Int := if g < 0 then g else n - 1 - g
def revRows (rows : List (List Int)) : List (List Int) := rows.reverse.map fun r => r.map (othC rows.length)
theorem revRows_len (rows : List (List Int)) : (revRows rows).length = rows.length := by unfold revRows; simp
theorem revRows_get {rows : List (List Int)} {i : Nat} (h : i < rows.length) : (revRows rows).getD i [] = (rows.getD (rows.length - 1 - i) []).map (othC rows.length) := by
  unfold revRows
  rw [List.getD_eq_getElem?_getD, List.getElem?_map, List.getElem?_reverse h, List.getElem?_eq_getElem (by omega), List.getD_eq_getElem?_getD, List.getElem?_eq_getElem (by omega)]
  rfl
theorem tame_rev {rows : List (List Int)} {M : Int} (W : Wf rows) (T : Tame rows M) : Tame (revRows rows) M := by
  obtain ⟨f, G, D1, D2, w⟩ := T
  have ff : ∀ i, i < rows.length → f (othC rows.length (i : Nat)) = f ((rows.length - 1 - i : Nat) : Int) := fun i hi => by
    unfold othC
    rw [if_neg (by omega), show (rows.length : Int) - 1 - (i : Nat) = ((rows.length - 1 - i : Nat) : Int) by omega]
  have dd : ∀ i, i < rows.length → ∀ t, dropW (f (othC rows.length (i : Nat))) (fun e => f (othC rows.length e)) ((revRows rows).getD i []) t = dropW (f ((rows.length - 1 - i : Nat) : Int)) f (rows.getD (rows.length - 1 - i) []) t := fun i hi t => by
    unfold dropW
    rw [revRows_get hi, ff i hi, ← List.map_take, List.map_map]
    refine congrArg List.sum (List.map_congr_left fun e he => ?_)
    obtain ⟨e0, e1⟩ := (W.2.2 _ (gD_mem (show rows.length - 1 - i < rows.length by omega))).2.2 e (List.mem_of_mem_take he)
    show _ - f (othC rows.length (othC rows.length e)) - 1 = _
    have : othC rows.length (othC rows.length e) = e := by
      unfold othC
      by_cases h : e < 0
      · rw [if_pos h, if_pos h]
      · rw [if_neg h, if_neg (by omega)]
        omega
    rw [this]
  have ll : ∀ i, i < rows.length → ((revRows rows).getD i []).length = (rows.getD (rows.length - 1 - i) []).length := fun i hi => by rw [revRows_get hi, List.length_map]
  refine ⟨fun e => f (othC rows.length e), G, D1, D2, ?_⟩
  refine ⟨w.pit, fun i hi => ?_, fun i hi => ?_, fun i hi => ?_, fun i hi t ht => ?_, fun i hi t ht => ?_, w.g0, by rw [revRows_len]; exact w.all⟩
  all_goals rw [revRows_len] at hi
  · show 0 ≤ f (othC rows.length (i : Nat)); rw [ff i hi]; exact w.low _ (by omega)
  · show f (othC rows.length (i : Nat)) ≤ G; rw [ff i hi]; exact w.top _ (by omega)
  · show 0 ≤ dropW (f (othC rows.length (i : Nat))) (fun e => f (othC rows.length e)) _ _; rw [dd i hi, ll i hi]; exact w.full _ (by omega)
  · show _ ≤ dropW (f (othC rows.length (i : Nat))) (fun e => f (othC rows.length e)) _ _; rw [dd i hi]; exact w.dLow _ (by omega) t (by rw [ll i hi] at ht; exact ht)
  · show dropW (f (othC rows.length (i : Nat))) (fun e => f (othC rows.length e)) _ _ ≤ _; rw [dd i hi]; exact w.dTop _ (by omega) t (by rw [ll i hi] at ht; exact ht)
theorem ups_zero {k : Int} {r : List Int} (h : ∀ e ∈ r, e < k) : ups k r = 0 := by
  unfold ups
  rw [List.length_eq_zero_iff, List.filter_eq_nil_iff]
  intro e he
  have := h e he
  simpa using by omega
theorem ups_small {k : Int} {r : List Int} (hl : r.length ≤ 3) (h : ∃ e ∈ r, e < k) : ups k r ≤ 2 := by
  have : ups k r < r.length := by
    unfold ups
    rw [List.length_filter_lt_length_iff_exists]
    obtain ⟨e, he, hlt⟩ := h
    exact ⟨e, he, by simpa using hlt⟩
  omega
theorem ups_ins (k : Int) (r : List Int) (i : Nat) (x : Int) : ups k (r.take i ++ x :: r.drop i) ≤ ups k r + 1 := by
  have e : ups k r = ups k (r.take i) + ups k (r.drop i) := by
    unfold ups
    rw [← List.length_append, ← List.filter_append, List.take_append_drop]
  have e2 : ups k (r.take i ++ x :: r.drop i) ≤ ups k (r.take i) + (ups k (r.drop i) + 1) := by
    unfold ups
    rw [List.filter_append, List.length_append]
    refine Nat.add_le_add_left ?_ _
    by_cases z : k ≤ x
    · simp [z]
    · simp [z]
  omega
theorem shape_nil (u : Nat → Nat) : Shape [] u := fun k h => by simp at h
theorem shape_snoc {rows : List (List Int)} {r : List Int} {u : Nat → Nat} (h : Shape rows u) (h1 : ups (rows.length : Nat) r ≤ u rows.length) (h2 : u rows.length ≤ 3) (h3 : ∃ e ∈ r, e < (rows.length : Int)) : Shape (rows ++ [r]) u := fun i hi => by
  rw [List.length_append, List.length_singleton] at hi
  by_cases hlt : i < rows.length
  · rw [List.getD_eq_getElem?_getD, List.getElem?_append_left hlt, ← List.getD_eq_getElem?_getD]
    exact h i hlt
  · have e2 : i = rows.length := by omega
    subst e2
    rw [List.getD_eq_getElem?_getD, List.getElem?_append_right (Nat.le_refl _), Nat.sub_self]
    exact ⟨h1, h2, h3⟩
theorem sumU_upd {u : Nat → Nat} {c : Nat} : ∀ n, sumU (fun k => if k = c then u k + 1 else u k) n = sumU u n + (if c < n then 1 else 0)
  | 0 => by simp [sumU]
  | n + 1 => by
    show sumU (fun k => if k = c then u k + 1 else u k) n + (if n = c then u n + 1 else u n) = sumU u n + u n + _
    rw [sumU_upd n]
    by_cases e : n = c
    · subst e; simp; omega
    · rw [if_neg e]
      by_cases z : c < n
      · rw [if_pos z, if_pos (by omega)]; omega
      · rw [if_neg z, if_neg (by omega)]; omega
theorem le_sumU {u : Nat → Nat} {c : Nat} : ∀ n, c < n → u c ≤ sumU u n
  | 0, h => by omega
  | n + 1, h => by
    show u c ≤ sumU u n + u n
    by_cases e : c = n
    · subst e; omega
    · have := le_sumU (u := u) n (show c < n by omega); omega
theorem shape_ins {rows : List (List Int)} {u : Nat → Nat} {c i j : Nat} {x : Int} (h : Shape rows u) (hc : c < rows.length) (hs : sumU u rows.length ≤ j) (hj : j ≤ 2) : ∃ u', Shape (rows.set c ((rows[c]).take i ++ x :: (rows[c]).drop i)) u' ∧ sumU u' rows.length ≤ j + 1 := by
  refine ⟨fun k => if k = c then u k + 1 else u k, fun k hk => ?_, by rw [sumU_upd, if_pos hc]; omega⟩
  rw [List.length_set] at hk
  obtain ⟨h1, h2, e, h3, h4⟩ := h k hk
  by_cases z : c = k
  · subst z
    have eg : rows.getD c [] = rows[c] := by rw [List.getD_eq_getElem?_getD, List.getElem?_eq_getElem hk]; rfl
    rw [gD_set_self hk]
    dsimp only
    rw [if_pos rfl]
    rw [eg] at h1 h3
    refine ⟨Nat.le_trans (ups_ins _ _ _ _) (by omega), ?_, e, ?_, h4⟩
    · have := le_sumU (u := u) (c := c) rows.length hk; omega
    · have : e ∈ (rows[c]).take i ++ (rows[c]).drop i := by rw [List.take_append_drop]; exact h3
      rcases List.mem_append.mp this with y | y
      · exact List.mem_append.mpr (.inl y)
      · exact List.mem_append.mpr (.inr (List.mem_cons_of_mem _ y))
  · rw [gD_set_ne z]
    dsimp only
    rw [if_neg (Ne.symm z)]
    exact ⟨h1, h2, e, h3, h4⟩
theorem Shape.step {rows : List (List Int)} {u : Nat → Nat} (h : Shape rows u) (W : ∀ r ∈ rows, ∀ e ∈ r, -1 ≤ e) : ∀ i, i < rows.length → ∃ e ∈ rows.getD i [], -1 ≤ e ∧ e < (i : Int) := fun i hi => by
  obtain ⟨_, _, e, h3, h4⟩ := h i hi
  exact ⟨e, h3, W _ (gD_mem hi) e h3, h4⟩
end Com

set_option Elab.async false
set_option linter.all false
set_option maxRecDepth 100000
set_option maxHeartbeats 4000000
namespace Com
def inN (r : List Int) (t : Nat) (e : Int) : Nat → Nat
  | 0 => 0
  | c + 1 => inN r t e c + (if r.getD ((t + c) % r.length) 0 = e then 1 else 0)
theorem inN_mono (r : List Int) (t : Nat) (e : Int) {c c' : Nat} (h : c ≤ c') : inN r t e c ≤ inN r t e c' := by
  induction c' with
  | zero => rw [show c = 0 by omega]; exact Nat.le_refl _
  | succ k ih =>
    by_cases z : c = k + 1
    · rw [z]; exact Nat.le_refl _
    · have := ih (by omega)
      show _ ≤ inN r t e k + _
      omega
def inA (b : Brd) (c : Nat → Nat) (e : Int) : Int := sumTo b.rows.length fun s => (inN (b.rows.getD s []) (b.turns.getD s 0).toNat e (c s) : Int)
def bump (c : Nat → Nat) (s : Nat) : Nat → Nat := fun i => if i = s then c i + 1 else c i
def St (b : Brd) (c : Nat → Nat) : Brd :=
  ⟨b.rows, (List.range b.rows.length).map fun s => (((b.turns.getD s 0).toNat + c s) % (b.rows.getD s []).length : Nat),
   (List.range b.rows.length).map fun e => b.loads.getD e 0 + inA b c (e : Nat) - (c e : Int),
   (List.range b.rows.length).map fun s => b.steps.getD s 0 + (c s : Int), b.taken + inA b c (-1)⟩
theorem range_get {n i : Nat} {f : Nat → Int} (h : i < n) : ((List.range n).map f).getD i 0 = f i := by
  rw [List.getD_eq_getElem?_getD, List.getElem?_map, List.getElem?_range h]
  rfl
theorem list_ext {l l' : List Int} (h : l.length = l'.length) (g : ∀ i, i < l.length → l.getD i 0 = l'.getD i 0) : l = l' := by
  refine List.ext_getElem h fun i h1 h2 => ?_
  have := g i h1
  rw [List.getD_eq_getElem?_getD, List.getD_eq_getElem?_getD, List.getElem?_eq_getElem h1, List.getElem?_eq_getElem h2] at this
  exact this
theorem brd_ext {b b' : Brd} (h1 : b.rows = b'.rows) (h2 : b.turns = b'.turns) (h3 : b.loads = b'.loads) (h4 : b.steps = b'.steps) (h5 : b.taken = b'.taken) : b = b' := by
  cases b; cases b'
  simp only at h1 h2 h3 h4 h5
  subst h1 h2 h3 h4 h5
  rfl
theorem St_zero {b : Brd} (O : BrdOk b) : St b (fun _ => 0) = b := by
  have z : ∀ e, inA b (fun _ => 0) e = 0 := fun e => by
    have := sumTo_congr (n := b.rows.length) (g := fun s => (inN (b.rows.getD s []) (b.turns.getD s 0).toNat e ((fun _ => 0) s) : Int)) (g' := fun _ => 0) fun i _ => rfl
    rw [sumTo_const] at this
    unfold inA
    omega
  refine brd_ext rfl (list_ext ?_ fun i hi => ?_) (list_ext ?_ fun i hi => ?_) (list_ext ?_ fun i hi => ?_) ?_
  · show ((List.range _).map _).length = _
    rw [List.length_map, List.length_range, O.T.1]
  · have hi' : i < b.rows.length := by simpa [St] using hi
    obtain ⟨t0, t1⟩ := O.T.2 i hi'
    show ((List.range _).map _).getD i 0 = _
    rw [range_get hi', Nat.add_zero, Nat.mod_eq_of_lt (by omega)]
    omega
  · show ((List.range _).map _).length = _
    rw [List.length_map, List.length_range, O.L]
  · have hi' : i < b.rows.length := by simpa [St] using hi
    show ((List.range _).map _).getD i 0 = _
    rw [range_get hi', z]
    show b.loads.getD i 0 + 0 - 0 = _
    omega
  · show ((List.range _).map _).length = _
    rw [List.length_map, List.length_range, O.S]
  · have hi' : i < b.rows.length := by simpa [St] using hi
    show ((List.range _).map _).getD i 0 = _
    rw [range_get hi']
    show b.steps.getD i 0 + 0 = _
    omega
  · show b.taken + inA b (fun _ => 0) (-1) = _
    rw [z]
    omega
theorem moveL_get {ls : List Int} {s : Nat} {g : Int} (h : s < ls.length) (h0 : -1 ≤ g) (h1 : g < (ls.length : Int)) {e : Nat} (he : e < ls.length) : (moveL ls s g).getD e 0 = ls.getD e 0 - (if e = s then 1 else 0) + (if (e : Int) = g then 1 else 0) := by
  have k : (ls.set s (ls.getD s 0 - 1)).getD e 0 = ls.getD e 0 - (if e = s then 1 else 0) := by
    by_cases z : e = s
    · subst z; rw [gD_set_self h, if_pos rfl]
    · rw [gD_set_ne (Ne.symm z), if_neg z]; omega
  unfold moveL
  split
  · rename_i z
    rw [k, if_neg (by omega : ¬ (e : Int) = g)]
    omega
  · rename_i z
    by_cases y : e = g.toNat
    · subst y
      rw [gD_set_self (by rw [List.length_set]; exact he), k, if_pos (by omega : ((g.toNat : Nat) : Int) = g)]
    · rw [gD_set_ne (Ne.symm y), k, if_neg (by omega : ¬ (e : Int) = g)]
      omega
theorem inA_bump {b : Brd} {c : Nat → Nat} {s : Nat} (h : s < b.rows.length) (e : Int) : inA b (bump c s) e = inA b c e + (if (b.rows.getD s []).getD (((b.turns.getD s 0).toNat + c s) % (b.rows.getD s []).length) 0 = e then 1 else 0) := by
  unfold inA
  have e1 := sumTo_one (n := b.rows.length) (s := s) (g := fun s => (inN (b.rows.getD s []) (b.turns.getD s 0).toNat e (c s) : Int)) (g' := fun i => (inN (b.rows.getD i []) (b.turns.getD i 0).toNat e (bump c s i) : Int)) h fun i hi z => by
    show (inN _ _ e (if i = s then c i + 1 else c i) : Int) = _
    rw [if_neg z]
  rw [e1]
  have e2 : bump c s s = c s + 1 := by unfold bump; rw [if_pos rfl]
  show _ - (inN _ _ e (c s) : Int) + (inN _ _ e (bump c s s) : Int) = _
  rw [e2]
  show _ - _ + ((inN _ _ e (c s) + (if _ then 1 else 0) : Nat) : Int) = _
  split <;> omega
theorem St_exit {b : Brd} {c : Nat → Nat} {s : Nat} (h : s < b.rows.length) : exitOf (St b c).rows (St b c).turns s = (b.rows.getD s []).getD (((b.turns.getD s 0).toNat + c s) % (b.rows.getD s []).length) 0 := by
  unfold exitOf
  have e : (St b c).turns.getD s 0 = ((((b.turns.getD s 0).toNat + c s) % (b.rows.getD s []).length : Nat) : Int) := by
    show ((List.range _).map _).getD s 0 = _
    rw [range_get h]
  rw [e]
  rfl
theorem St_ok {b : Brd} (O : BrdOk b) (c : Nat → Nat) : TurnsOk b.rows (St b c).turns := by
  refine ⟨by show ((List.range _).map _).length = _; simp, fun i hi => ?_⟩
  show 0 ≤ ((List.range _).map _).getD i 0 ∧ ((List.range _).map _).getD i 0 < _
  rw [range_get hi]
  have := (row_len O.W hi).1
  have := Nat.mod_lt ((b.turns.getD i 0).toNat + c i) (show 0 < (b.rows.getD i []).length by omega)
  omega
theorem St_step {b : Brd} (O : BrdOk b) {c : Nat → Nat} {s : Nat} (h : s < b.rows.length) : stepB (St b c) s = St b (bump c s) := by
  have hx : -1 ≤ exitOf (St b c).rows (St b c).turns s ∧ exitOf (St b c).rows (St b c).turns s < (b.rows.length : Int) := exit_in (rows := b.rows) O.W (St_ok O c) h
  have ex := St_exit (b := b) (c := c) h
  have ll : (St b c).loads.length = b.rows.length := by show ((List.range _).map _).length = _; simp
  have hl := (row_len O.W h).1
  refine brd_ext rfl (list_ext ?_ fun i hi => ?_) (list_ext ?_ fun i hi => ?_) (list_ext ?_ fun i hi => ?_) ?_
  · show (List.set ((List.range _).map _) _ _).length = ((List.range _).map _).length
    simp
  · have hi' : i < b.rows.length := by
      have : i < (List.set ((List.range b.rows.length).map _) _ _).length := hi
      simpa using this
    show (List.set ((List.range _).map _) s ((((List.range _).map _).getD s 0 + 1) % _)).getD i 0 = ((List.range _).map _).getD i 0
    rw [range_get hi', range_get h]
    by_cases z : i = s
    · subst z
      rw [gD_set_self (by simpa using h)]
      show ((_ : Nat) : Int) % _ = (((_ + bump c i i) % _ : Nat) : Int)
      rw [show bump c i i = c i + 1 by unfold bump; rw [if_pos rfl]]
      show (((((b.turns.getD i 0).toNat + c i) % (b.rows.getD i []).length : Nat) : Int) + 1) % ((b.rows.getD i []).length : Int) = _
      rw [show ((((b.turns.getD i 0).toNat + c i) % (b.rows.getD i []).length : Nat) : Int) + 1 = ((((b.turns.getD i 0).toNat + c i) % (b.rows.getD i []).length + 1 : Nat) : Int) by omega, ← Int.natCast_emod, Nat.mod_add_mod]
      rfl
    · rw [gD_set_ne (Ne.symm z), range_get hi']
      rw [show bump c s i = c i by unfold bump; rw [if_neg z]]
  · show (moveL _ _ _).length = ((List.range _).map _).length
    rw [moveL_len, ll]; simp
  · have hi' : i < b.rows.length := by
      have : i < (moveL (St b c).loads s (exitOf (St b c).rows (St b c).turns s)).length := hi
      rw [moveL_len, ll] at this
      exact this
    show (moveL (St b c).loads s (exitOf (St b c).rows (St b c).turns s)).getD i 0 = ((List.range _).map _).getD i 0
    rw [moveL_get (by rw [ll]; exact h) hx.1 (by rw [ll]; exact hx.2) (by rw [ll]; exact hi'), ex, range_get hi']
    show ((List.range _).map _).getD i 0 - _ + _ = _
    rw [range_get hi', inA_bump h]
    unfold bump
    by_cases z : i = s
    · rw [if_pos z, if_pos z]
      by_cases y : (b.rows.getD s []).getD (((b.turns.getD s 0).toNat + c s) % (b.rows.getD s []).length) 0 = (i : Int)
      · rw [if_pos y.symm, if_pos y]; omega
      · rw [if_neg (fun w => y w.symm), if_neg y]; omega
    · rw [if_neg z, if_neg z]
      by_cases y : (b.rows.getD s []).getD (((b.turns.getD s 0).toNat + c s) % (b.rows.getD s []).length) 0 = (i : Int)
      · rw [if_pos y.symm, if_pos y]; omega
      · rw [if_neg (fun w => y w.symm), if_neg y]; omega
  · show (List.set ((List.range _).map _) _ _).length = ((List.range _).map _).length
    simp
  · have hi' : i < b.rows.length := by
      have : i < (List.set ((List.range b.rows.length).map _) _ _).length := hi
      simpa using this
    show (List.set ((List.range _).map _) s (((List.range _).map _).getD s 0 + 1)).getD i 0 = ((List.range _).map _).getD i 0
    rw [range_get hi', range_get h]
    unfold bump
    by_cases z : i = s
    · subst z
      rw [gD_set_self (by simpa using h), if_pos rfl]
      omega
    · rw [gD_set_ne (Ne.symm z), range_get hi', if_neg z]
  · show moveT (b.taken + inA b c (-1)) (exitOf (St b c).rows (St b c).turns s) = b.taken + inA b (bump c s) (-1)
    rw [ex, inA_bump h]
    unfold moveT
    split <;> omega
inductive Leg (b : Brd) : (Nat → Nat) → Prop
  | zero : Leg b fun _ => 0
  | step {c : Nat → Nat} {s : Nat} : Leg b c → s < b.rows.length → 1 ≤ (St b c).loads.getD s 0 → Leg b (bump c s)
def Stab (b : Brd) (x : Nat → Nat) : Prop := ∀ e, e < b.rows.length → b.loads.getD e 0 + inA b x (e : Nat) - (x e : Int) ≤ 0
theorem St_loads {b : Brd} {c : Nat → Nat} {e : Nat} (h : e < b.rows.length) : (St b c).loads.getD e 0 = b.loads.getD e 0 + inA b c (e : Nat) - (c e : Int) := by
  show ((List.range _).map _).getD e 0 = _
  rw [range_get h]
theorem inA_mono {b : Brd} {c x : Nat → Nat} (h : ∀ s, s < b.rows.length → c s ≤ x s) (e : Int) : inA b c e ≤ inA b x e := sumTo_le fun i hi => by
  have := inN_mono (b.rows.getD i []) (b.turns.getD i 0).toNat e (h i hi)
  omega
theorem least {b : Brd} {c x : Nat → Nat} (L : Leg b c) (S : Stab b x) : ∀ s, s < b.rows.length → c s ≤ x s := by
  induction L with
  | zero => intro s _; exact Nat.zero_le _
  | @step c s _ hs h1 ih =>
    intro i hi
    show (if i = s then c i + 1 else c i) ≤ x i
    by_cases z : i = s
    · subst z
      rw [if_pos rfl]
      have h2 := ih i hi
      by_cases y : c i = x i
      · exfalso
        rw [St_loads hi] at h1
        have h3 := S i hi
        have h4 := inA_mono ih (i : Nat)
        omega
      · omega
    · rw [if_neg z]
      exact ih i hi
theorem leg_iter {b : Brd} (O : BrdOk b) : ∀ k, ∃ c, Leg b c ∧ iterR k b = St b c
  | 0 => ⟨_, .zero, (St_zero O).symm⟩
  | k + 1 => by
    obtain ⟨c, L, e⟩ := leg_iter O k
    obtain ⟨O1, r1, _⟩ := O.iter k
    cases q : (ladenL (iterR k b).loads).head? with
    | none =>
      refine ⟨c, L, ?_⟩
      show nxt (iterR k b) = _
      rw [nxt_none (List.head?_eq_none_iff.mp q), e]
    | some s =>
      obtain ⟨g1, g2⟩ := laden_mem (List.mem_of_head? q)
      have hs : s < b.rows.length := by rw [← r1, ← O1.L]; exact g1
      refine ⟨bump c s, .step L hs (by rw [← e]; exact g2), ?_⟩
      show nxt (iterR k b) = _
      rw [nxt_some q, e, St_step O hs]
end Com

set_option Elab.async false
set_option linter.all false
set_option maxRecDepth 100000
set_option maxHeartbeats 4000000
namespace Com
end Com

set_option Elab.async false
set_option linter.all false
set_option maxRecDepth 100000
set_option maxHeartbeats 4000000
namespace Com
open PySem L2
section
variable (rows : List (List Int)) (st : Int)
end
section
variable {rows : List (List Int)} {st : Int}
end
section
variable {rows : List (List Int)} {st : Int} {ts : List Int} {x : Int}
end
theorem rep_get (n i : Nat) : (List.replicate n (0 : Int)).getD i 0 = 0 := by
  rw [List.getD_eq_getElem?_getD, List.getElem?_replicate]
  split <;> rfl
end Com

set_option Elab.async false
set_option linter.all false
namespace Com
abbrev Rw := Nat → Int
def lapG (f : List Rw → Int) : List Rw → List Rw → Nat → Int
  | _, [], _ => 0
  | pre, r :: t, c => r c * f (pre ++ t) - lapG f (pre ++ [r]) t c
/-- the determinant of n rows at the columns from c on, by the first column -/
def dt : Nat → List Rw → Nat → Int
  | 0, _, _ => 1
  | n + 1, rows, c => lapG (fun m => dt n m (c + 1)) [] rows c

theorem app1 {α : Type} (A : List α) (x : α) (B : List α) : (A ++ [x]) ++ B = A ++ x :: B := by simp

section
variable {f g : List Rw → Int} {n : Nat} {x y : Rw} {c : Nat}
theorem lap_preswap (h : ∀ A B, A.length + B.length + 2 = n → f (A ++ x :: y :: B) = - f (A ++ y :: x :: B)) (P Q : List Rw) : ∀ (B Q : List Rw), P.length + Q.length + 2 + B.length = n + 1 → lapG f (P ++ x :: y :: Q) B c = - lapG f (P ++ y :: x :: Q) B c
  | [], Q, _ => by simp [lapG]
  | r :: t, Q, hl => by
    have h1 := h P (Q ++ t) (by simp at hl ⊢; omega)
    have h2 := lap_preswap h P Q t (Q ++ [r]) (by simp at hl ⊢; omega)
    simp only [lapG, List.append_assoc, List.cons_append, List.singleton_append] at h1 h2 ⊢
    rw [h1, h2, Int.mul_neg, Int.neg_sub]
    omega
theorem lap_swap (h : ∀ A B, A.length + B.length + 2 = n → f (A ++ x :: y :: B) = - f (A ++ y :: x :: B)) (B : List Rw) : ∀ (A pre : List Rw), pre.length + A.length + 2 + B.length = n + 1 → lapG f pre (A ++ x :: y :: B) c = - lapG f pre (A ++ y :: x :: B) c
  | [], pre, hl => by
    have h2 := lap_preswap (c := c) h pre [] B [] (by simp at hl ⊢; omega)
    simp only [lapG, List.nil_append, List.append_assoc, List.cons_append, List.singleton_append] at h2 ⊢
    rw [h2]
    omega
  | a :: A, pre, hl => by
    have h1 := h (pre ++ A) B (by simp at hl ⊢; omega)
    have h2 := lap_swap h B A (pre ++ [a]) (by simp at hl ⊢; omega)
    simp only [List.append_assoc] at h1
    rw [List.cons_append, List.cons_append, lapG, lapG, h1, h2, Int.mul_neg, Int.neg_sub]
    omega
end
theorem dt_swap : ∀ (n : Nat) (c : Nat) (A : List Rw) (x y : Rw) (B : List Rw), A.length + B.length + 2 = n → dt n (A ++ x :: y :: B) c = - dt n (A ++ y :: x :: B) c
  | 0, _, _, _, _, _, h => by omega
  | n + 1, c, A, x, y, B, h => lap_swap (n := n) (fun A' B' h' => dt_swap n (c + 1) A' x y B' h') B A [] (by simp; omega)

section
variable {f : List Rw → Int} {n : Nat} {x y : Rw} {a b : Int} {c : Nat}
theorem lap_prelin (h : ∀ A B, A.length + B.length + 1 = n → f (A ++ (fun j => a * x j + b * y j) :: B) = a * f (A ++ x :: B) + b * f (A ++ y :: B)) (P : List Rw) : ∀ (B Q : List Rw), P.length + Q.length + 1 + B.length = n + 1 → lapG f (P ++ (fun j => a * x j + b * y j) :: Q) B c = a * lapG f (P ++ x :: Q) B c + b * lapG f (P ++ y :: Q) B c
  | [], Q, _ => by simp [lapG]
  | r :: t, Q, hl => by
    have h1 := h P (Q ++ t) (by simp at hl ⊢; omega)
    have h2 := lap_prelin h P t (Q ++ [r]) (by simp at hl ⊢; omega)
    simp only [lapG, List.append_assoc, List.cons_append, List.singleton_append] at h1 h2 ⊢
    rw [h1, h2]
    grind
theorem lap_lin (h : ∀ A B, A.length + B.length + 1 = n → f (A ++ (fun j => a * x j + b * y j) :: B) = a * f (A ++ x :: B) + b * f (A ++ y :: B)) (B : List Rw) : ∀ (A pre : List Rw), pre.length + A.length + 1 + B.length = n + 1 → lapG f pre (A ++ (fun j => a * x j + b * y j) :: B) c = a * lapG f pre (A ++ x :: B) c + b * lapG f pre (A ++ y :: B) c
  | [], pre, hl => by
    have h2 := lap_prelin (c := c) h pre B [] (by simp at hl ⊢; omega)
    simp only [lapG, List.nil_append, List.append_assoc, List.cons_append, List.singleton_append] at h2 ⊢
    rw [h2]
    grind
  | r :: A, pre, hl => by
    have h1 := h (pre ++ A) B (by simp at hl ⊢; omega)
    have h2 := lap_lin h B A (pre ++ [r]) (by simp at hl ⊢; omega)
    simp only [List.append_assoc] at h1
    rw [List.cons_append, List.cons_append, List.cons_append, lapG, lapG, lapG, h1, h2]
    grind
end
theorem dt_lin : ∀ (n : Nat) (c : Nat) (A : List Rw) (a b : Int) (x y : Rw) (B : List Rw), A.length + B.length + 1 = n → dt n (A ++ (fun j => a * x j + b * y j) :: B) c = a * dt n (A ++ x :: B) c + b * dt n (A ++ y :: B) c
  | 0, _, _, _, _, _, _, _, h => by omega
  | n + 1, c, A, a, b, x, y, B, h => lap_lin (n := n) (fun A' B' h' => dt_lin n (c + 1) A' a b x y B' h') B A [] (by simp; omega)

theorem dt_dup (n c : Nat) (x : Rw) (C : List Rw) : ∀ (B A : List Rw), A.length + B.length + C.length + 2 = n → dt n (A ++ x :: (B ++ x :: C)) c = 0
  | [], A, h => by
    have := dt_swap n c A x x C (by simp at h; omega)
    simp only [List.nil_append]
    omega
  | b :: B, A, h => by
    have h1 := dt_swap n c A x b (B ++ x :: C) (by simp at h ⊢; omega)
    have h2 := dt_dup n c x C B (A ++ [b]) (by simp at h ⊢; omega)
    rw [app1] at h2
    rw [List.cons_append, h1, h2]
    rfl
inductive Span (P : List Rw) : Rw → Prop
  | zero : Span P fun _ => 0
  | add (a : Int) {p s : Rw} : p ∈ P → Span P s → Span P fun j => a * p j + s j
theorem Span.mono {P Q : List Rw} (h : ∀ p ∈ P, p ∈ Q) {s : Rw} (S : Span P s) : Span Q s := by
  induction S with
  | zero => exact .zero
  | add a hp _ ih => exact .add a (h _ hp) ih
theorem Span.lin {P : List Rw} {s t : Rw} (a b : Int) (S : Span P s) (T : Span P t) : Span P fun j => a * s j + b * t j := by
  induction S with
  | zero =>
    induction T with
    | zero => exact (by funext j; simp : (fun _ => (0 : Int)) = fun j => a * (fun _ => (0 : Int)) j + b * (fun _ => (0 : Int)) j) ▸ Span.zero
    | @add e p t hp _ ih =>
      have : (fun j => a * (fun _ => (0 : Int)) j + b * (fun j => e * p j + t j) j) = fun j => (b * e) * p j + (fun j => a * (fun _ => (0 : Int)) j + b * t j) j := by funext j; grind
      rw [this]
      exact .add _ hp ih
  | @add e p s hp _ ih =>
    have : (fun j => a * (fun j => e * p j + s j) j + b * t j) = fun j => (a * e) * p j + (fun j => a * s j + b * t j) j := by funext j; grind
    rw [this]
    exact .add _ hp ih
theorem Span.map {P : List Rw} {s : Rw} (k : Nat → Nat) (S : Span P s) : Span (P.map fun r j => r (k j)) fun j => s (k j) := by
  induction S with
  | zero => exact .zero
  | add a hp _ ih => exact .add a (List.mem_map.mpr ⟨_, hp, rfl⟩) ih
theorem dt_scale (n c : Nat) (A : List Rw) (a : Int) (x : Rw) (B : List Rw) (h : A.length + B.length + 1 = n) : dt n (A ++ (fun j => a * x j) :: B) c = a * dt n (A ++ x :: B) c := by
  have := dt_lin n c A a 0 x x B h
  rw [show (fun j => a * x j + 0 * x j) = fun j => a * x j by funext j; omega] at this
  rw [this]; omega
theorem dt_span {n c : Nat} {A B : List Rw} {s : Rw} (h : A.length + B.length + 1 = n) (S : Span A s) : dt n (A ++ s :: B) c = 0 := by
  induction S with
  | zero =>
    have := dt_scale n c A 0 (fun _ => 0) B h
    rw [show (fun (_ : Nat) => (0 : Int) * 0) = fun _ => 0 from rfl] at this
    rw [this]; omega
  | @add a p s hp _ ih =>
    have := dt_lin n c A a 1 p s B h
    rw [show (fun j => a * p j + 1 * s j) = fun j => a * p j + s j by funext j; omega, ih] at this
    rw [this]
    obtain ⟨A1, A2, rfl⟩ := List.append_of_mem hp
    have e := dt_dup n c p B A2 A1 (by simp at h; omega)
    rw [List.append_assoc, List.cons_append, e]
    omega
/-- a row is another one and what the rows ahead of it span -/
theorem dt_mod {n c : Nat} {A B : List Rw} {x u s : Rw} {e : Int} (h : A.length + B.length + 1 = n) (S : Span A s) (q : ∀ j, e * x j = u j + s j) : e * dt n (A ++ x :: B) c = dt n (A ++ u :: B) c := by
  rw [← dt_scale n c A e x B h, show (fun j => e * x j) = fun j => 1 * u j + 1 * s j by funext j; have := q j; omega, dt_lin n c A 1 1 u s B h, dt_span h S]
  omega

theorem lap_zero (f : List Rw → Int) (c : Nat) : ∀ (Q pre : List Rw), (∀ q ∈ Q, q c = 0) → lapG f pre Q c = 0
  | [], _, _ => rfl
  | r :: t, pre, h => by
    rw [lapG, h r List.mem_cons_self, lap_zero f c t _ fun q hq => h q (List.mem_cons_of_mem _ hq)]
    omega
theorem dt_zero {n c : Nat} {Q : List Rw} (h : ∀ q ∈ Q, q c = 0) : dt (n + 1) Q c = 0 := lap_zero _ c Q [] h
theorem lap_block (f g : List Rw → Int) (c : Nat) (Q : List Rw) (d : Int) (hQ : ∀ q ∈ Q, q c = 0) (k : Nat) (h : ∀ S : List Rw, S.length = k → f (S ++ Q) = g S * d) : ∀ (P pre : List Rw), pre.length + P.length = k + 1 → lapG f pre (P ++ Q) c = lapG g pre P c * d
  | [], pre, _ => by rw [List.nil_append, lap_zero f c Q pre hQ, lapG]; omega
  | r :: t, pre, hl => by
    have h1 := h (pre ++ t) (by simp at hl ⊢; omega)
    have h2 := lap_block f g c Q d hQ k h t (pre ++ [r]) (by simp at hl ⊢; omega)
    rw [List.append_assoc] at h1
    rw [List.cons_append, lapG, lapG, h1, h2, Int.sub_mul, Int.mul_assoc]
theorem dt_block (m : Nat) (Q : List Rw) : ∀ (k c : Nat) (P : List Rw), P.length = k → (∀ q ∈ Q, ∀ j, c ≤ j → j < c + k → q j = 0) → dt (k + m) (P ++ Q) c = dt k P c * dt m Q (c + k)
  | 0, c, P, h, _ => by
    rw [List.length_eq_zero_iff.mp h, List.nil_append, Nat.zero_add, Nat.add_zero, dt, Int.one_mul]
  | k + 1, c, P, h, z => by
    rw [show k + 1 + m = (k + m) + 1 by omega, dt, dt]
    refine lap_block _ _ c Q _ (fun q hq => z q hq c (Nat.le_refl _) (by omega)) k (fun S hS => ?_) P [] (by simpa using h)
    have := dt_block m Q k (c + 1) S hS fun q hq j h1 h2 => z q hq j (by omega) (by omega)
    rw [this, show c + 1 + k = c + (k + 1) by omega]
theorem lap_congr {α : Type} (f g : List Rw → Int) (c c' : Nat) (φ ψ : α → Rw) (hc : ∀ x, φ x c = ψ x c') (h : ∀ l : List α, f (l.map φ) = g (l.map ψ)) : ∀ (l pre : List α), lapG f (pre.map φ) (l.map φ) c = lapG g (pre.map ψ) (l.map ψ) c'
  | [], _ => rfl
  | r :: t, pre => by
    have h1 := h (pre ++ t)
    have h2 := lap_congr f g c c' φ ψ hc h t (pre ++ [r])
    simp only [List.map_append, List.map_cons, List.map_nil] at h1 h2
    rw [List.map_cons, List.map_cons, lapG, lapG, hc, h1, h2]
theorem dt_shift {α : Type} (φ ψ : α → Rw) : ∀ (n c c' : Nat) (l : List α), (∀ x i, i < n → φ x (c + i) = ψ x (c' + i)) → dt n (l.map φ) c = dt n (l.map ψ) c'
  | 0, _, _, _, _ => rfl
  | n + 1, c, c', l, h => by
    rw [dt, dt]
    exact lap_congr _ _ c c' φ ψ (fun x => h x 0 (by omega)) (fun l' => dt_shift φ ψ n (c + 1) (c' + 1) l' fun x i hi => by have := h x (i + 1) (by omega); rw [show c + 1 + i = c + (i + 1) by omega, show c' + 1 + i = c' + (i + 1) by omega]; exact this) l []
theorem dt_congr {α : Type} (φ ψ : α → Rw) (n c : Nat) (l : List α) (h : ∀ x j, c ≤ j → j < c + n → φ x j = ψ x j) : dt n (l.map φ) c = dt n (l.map ψ) c :=
  dt_shift φ ψ n c c l fun x i hi => h x (c + i) (by omega) (by omega)
theorem dt_two (u v : Rw) (k : Nat) : dt 2 [u, v] k = u k * v (k + 1) - v k * u (k + 1) := by
  simp [dt, lapG]

/-- the column k is put to be the column j -/
def cs (k j : Nat) (i : Nat) : Nat := if i = k then j else i
def bor (P : List Rw) (x : Rw) (j : Nat) : Int := dt (P.length + 1) ((P ++ [x]).map fun r i => r (cs P.length j i)) 0
theorem bor_self (P : List Rw) (x : Rw) : bor P x P.length = dt (P.length + 1) (P ++ [x]) 0 := by
  unfold bor
  have : (fun (r : Rw) i => r (cs P.length P.length i)) = id := by
    funext r i
    unfold cs
    by_cases h : i = P.length
    · rw [if_pos h, h]; rfl
    · rw [if_neg h]; rfl
  rw [this, List.map_id]
structure Elim (P : List Rw) : Prop where
  ne : dt P.length P 0 ≠ 0
  z : ∀ x j, j < P.length → bor P x j = 0
  sp : ∀ x, ∃ d : Int, d ≠ 0 ∧ ∃ s, Span P s ∧ ∀ j, d * bor P x j = d * dt P.length P 0 * x j + s j
theorem Elim.nil : Elim [] where
  ne := by decide
  z := fun _ j h => absurd h (Nat.not_lt_zero j)
  sp := fun x => ⟨1, by decide, _, .zero, fun j => by simp [bor, dt, lapG, cs]⟩
theorem Elim.step {P : List Rw} (E : Elim P) (p x : Rw) (j : Nat) : dt P.length P 0 * bor (P ++ [p]) x j = bor P p P.length * bor P x j - bor P x P.length * bor P p j := by
  obtain ⟨dp, hp, sp, Sp, ep⟩ := E.sp p
  obtain ⟨dx, hx, sx, Sx, ex⟩ := E.sp x
  have hL := E.ne
  generalize hLd : dt P.length P 0 = L at hL ep ex ⊢
  have hk : (P.map fun r i => r (cs (P.length + 1) j i)).length = P.length := by simp
  -- the determinant with the rows cleared
  have e1 : (dp * L) * dt (P.length + 2) ((P.map fun r i => r (cs (P.length + 1) j i)) ++ (fun i => p (cs (P.length + 1) j i)) :: [fun i => x (cs (P.length + 1) j i)]) 0 = dt (P.length + 2) ((P.map fun r i => r (cs (P.length + 1) j i)) ++ (fun i => dp * bor P p (cs (P.length + 1) j i)) :: [fun i => x (cs (P.length + 1) j i)]) 0 :=
    dt_mod (by simp) (Span.lin 0 (-1) .zero (Sp.map _)) (fun i => by have := ep (cs (P.length + 1) j i); omega)
  have e2 : (dx * L) * dt (P.length + 2) (((P.map fun r i => r (cs (P.length + 1) j i)) ++ [fun i => dp * bor P p (cs (P.length + 1) j i)]) ++ (fun i => x (cs (P.length + 1) j i)) :: []) 0 = dt (P.length + 2) (((P.map fun r i => r (cs (P.length + 1) j i)) ++ [fun i => dp * bor P p (cs (P.length + 1) j i)]) ++ (fun i => dx * bor P x (cs (P.length + 1) j i)) :: []) 0 :=
    dt_mod (by simp) ((Span.lin 0 (-1) .zero (Sx.map _)).mono fun q hq => List.mem_append.mpr (.inl hq)) (fun i => by have := ex (cs (P.length + 1) j i); omega)
  rw [app1, app1] at e2
  have e3 := dt_block 2 [fun i => dp * bor P p (cs (P.length + 1) j i), fun i => dx * bor P x (cs (P.length + 1) j i)] P.length 0 (P.map fun r i => r (cs (P.length + 1) j i)) hk (fun q hq i _ hi => by
    have hc : cs (P.length + 1) j i = i := by unfold cs; rw [if_neg (by omega)]
    simp only [List.mem_cons, List.not_mem_nil, or_false] at hq
    rcases hq with rfl | rfl
    · simp only [hc]; rw [E.z p i (by omega)]; omega
    · simp only [hc]; rw [E.z x i (by omega)]; omega)
  have e4 : dt P.length (P.map fun r i => r (cs (P.length + 1) j i)) 0 = L := by
    have := dt_congr (fun (r : Rw) i => r (cs (P.length + 1) j i)) id P.length 0 P fun r i _ hi => by
      have hc : cs (P.length + 1) j i = i := by unfold cs; rw [if_neg (by omega)]
      simp only [hc, id]
    rw [this, List.map_id, hLd]
  have c1 : cs (P.length + 1) j (0 + P.length) = P.length := by unfold cs; rw [if_neg (by omega)]; omega
  have c2 : cs (P.length + 1) j (0 + P.length + 1) = j := by unfold cs; rw [if_pos (by omega)]
  rw [e4, dt_two, c1, c2] at e3
  have e0 : bor (P ++ [p]) x j = dt (P.length + 2) ((P.map fun r i => r (cs (P.length + 1) j i)) ++ (fun i => p (cs (P.length + 1) j i)) :: [fun i => x (cs (P.length + 1) j i)]) 0 := by
    unfold bor
    simp
  rw [← e0] at e1
  have hpd : dp * dx * L ≠ 0 := Int.mul_ne_zero (Int.mul_ne_zero hp hx) hL
  refine Int.eq_of_mul_eq_mul_left hpd ?_
  rw [e3, ← e1] at e2
  grind
theorem Elim.snoc {P : List Rw} (E : Elim P) {p : Rw} (hp : bor P p P.length ≠ 0) : Elim (P ++ [p]) := by
  have hl : (P ++ [p]).length = P.length + 1 := by simp
  have hL : dt (P ++ [p]).length (P ++ [p]) 0 = bor P p P.length := by rw [hl, bor_self]
  refine ⟨by rw [hL]; exact hp, fun x j hj => ?_, fun x => ?_⟩
  · have := E.step p x j
    have z : bor P p P.length * bor P x j - bor P x P.length * bor P p j = 0 := by
      by_cases h : j = P.length
      · rw [h, Int.mul_comm]; omega
      · rw [E.z x j (by omega), E.z p j (by omega)]; omega
    rw [z] at this
    exact (Int.mul_eq_zero.mp this).resolve_left E.ne
  · obtain ⟨dp, hdp, sp, Sp, ep⟩ := E.sp p
    obtain ⟨dx, hdx, sx, Sx, ex⟩ := E.sp x
    have up : ∀ {s}, Span P s → Span (P ++ [p]) s := fun S => S.mono fun q hq => List.mem_append.mpr (.inl hq)
    refine ⟨dp * dx * dt P.length P 0, Int.mul_ne_zero (Int.mul_ne_zero hdp hdx) E.ne, _, Span.add (-(bor P x P.length * dx * (dp * dt P.length P 0))) (List.mem_append.mpr (.inr List.mem_cons_self)) (Span.lin (bor P p P.length * dp) (-(bor P x P.length * dx)) (up Sx) (up Sp)), fun j => ?_⟩
    rw [hL]
    have h1 := E.step p x j
    have h2 := ep j
    have h3 := ex j
    grind
/-- no row left leads -/
theorem Elim.none {P : List Rw} (E : Elim P) (c : Nat) (hc : c = P.length) : ∀ (todo done : List Rw), 1 ≤ done.length + todo.length → (∀ u ∈ done, ∀ j, j ≤ c → u j = 0) → (∀ r ∈ todo, bor P r c = 0) → dt (P.length + (done.length + todo.length)) (P ++ (done ++ todo)) 0 = 0
  | [], done, h, hd, _ => by
    rw [List.append_nil, List.length_nil, Nat.add_zero, dt_block done.length done P.length 0 P rfl fun q hq j _ hj => hd q hq j (by omega)]
    obtain ⟨m, hm⟩ : ∃ m, done.length = m + 1 := ⟨done.length - 1, by simp at h; omega⟩
    rw [hm, dt_zero fun q hq => hd q hq _ (by omega)]
    omega
  | r :: t, done, h, hd, ht => by
    obtain ⟨d, hd0, s, S, e⟩ := E.sp r
    have ih := E.none c hc t (done ++ [fun j => d * bor P r j]) (by simp; omega) (fun u hu j hj => by
      rcases List.mem_append.mp hu with z | z
      · exact hd u z j hj
      · rw [List.mem_singleton.mp z]
        show d * bor P r j = 0
        by_cases hj' : j = c
        · rw [hj', ht r List.mem_cons_self]; omega
        · rw [E.z r j (by omega)]; omega) (fun r' hr' => ht r' (List.mem_cons_of_mem _ hr'))
    have m := dt_mod (n := P.length + (done.length + (r :: t).length)) (c := 0) (A := P ++ done) (B := t) (x := r) (u := fun j => d * bor P r j) (s := fun j => 0 * (fun _ => (0 : Int)) j + (-1) * s j) (e := d * dt P.length P 0) (by simp; omega) ((Span.lin 0 (-1) .zero S).mono fun q hq => List.mem_append.mpr (.inl hq)) (fun j => by have := e j; simp only; omega)
    simp only [List.append_assoc, List.cons_append, List.nil_append, List.singleton_append, List.length_append, List.length_cons, List.length_nil] at ih m ⊢
    rw [show P.length + (done.length + (0 + 1) + t.length) = P.length + (done.length + (t.length + 1)) by omega] at ih
    rw [ih] at m
    exact (Int.mul_eq_zero.mp m).resolve_left (Int.mul_ne_zero hd0 E.ne)
/-- a row taken to the top -/
def sgn : Nat → Int
  | 0 => 1
  | k + 1 => - sgn k
theorem dt_move (n c : Nat) (p : Rw) (B : List Rw) : ∀ (A P : List Rw), P.length + A.length + 1 + B.length = n → dt n (P ++ (A ++ p :: B)) c = sgn A.length * dt n (P ++ p :: (A ++ B)) c
  | [], P, _ => by simp [sgn]
  | a :: A, P, h => by
    have h1 := dt_move n c p B A (P ++ [a]) (by simp at h ⊢; omega)
    have h2 := dt_swap n c P a p (A ++ B) (by simp at h ⊢; omega)
    rw [app1, app1] at h1
    rw [List.cons_append, h1, h2, List.length_cons, sgn, List.cons_append]
    grind
def Bdd (M : Nat) (r : Rw) : Prop := ∀ j, (r j).natAbs ≤ M
def bd (M : Nat) : Nat → Nat
  | 0 => 1
  | n + 1 => (n + 1) * (M * bd M n)
theorem lap_bd {f : List Rw → Int} {M B c n : Nat} (hf : ∀ l : List Rw, l.length ≤ n → (∀ r ∈ l, Bdd M r) → (f l).natAbs ≤ B) : ∀ (l pre : List Rw), pre.length + l.length ≤ n + 1 → (∀ r ∈ l, Bdd M r) → (∀ r ∈ pre, Bdd M r) → (lapG f pre l c).natAbs ≤ l.length * (M * B)
  | [], _, _, _, _ => by simp [lapG]
  | r :: t, pre, hl, h1, h2 => by
    have hr := h1 r List.mem_cons_self c
    have a1 := hf (pre ++ t) (by simp at hl ⊢; omega) fun q hq => by
      rcases List.mem_append.mp hq with z | z
      · exact h2 q z
      · exact h1 q (List.mem_cons_of_mem _ z)
    have a2 := lap_bd (c := c) hf t (pre ++ [r]) (by simp at hl ⊢; omega) (fun q hq => h1 q (List.mem_cons_of_mem _ hq)) fun q hq => by
      rcases List.mem_append.mp hq with z | z
      · exact h2 q z
      · rw [List.mem_singleton.mp z]; exact h1 r List.mem_cons_self
    have a3 : (r c * f (pre ++ t)).natAbs ≤ M * B := by
      rw [Int.natAbs_mul]
      exact Nat.mul_le_mul hr a1
    rw [lapG, List.length_cons, Nat.add_mul, Nat.one_mul]
    omega
theorem dt_bd {M : Nat} : ∀ (n c : Nat) (l : List Rw), l.length ≤ n → (∀ r ∈ l, Bdd M r) → (dt n l c).natAbs ≤ bd M n
  | 0, _, _, _, _ => by simp [dt, bd]
  | n + 1, c, l, hl, h => by
    rw [dt, bd]
    have := lap_bd (c := c) (n := n) (f := fun m => dt n m (c + 1)) (fun l' hl' h' => dt_bd n (c + 1) l' hl' h') l [] (by simpa using hl) h (fun _ z => by cases z)
    exact Nat.le_trans this (Nat.mul_le_mul_right _ hl)
theorem bd_mono {M : Nat} (hM : 1 ≤ M) {m n : Nat} (h : m ≤ n) : bd M m ≤ bd M n := by
  induction h with
  | refl => exact Nat.le_refl _
  | @step n _ ih =>
    refine Nat.le_trans ih ?_
    rw [bd]
    have h1 : bd M n ≤ M * bd M n := Nat.le_mul_of_pos_left _ hM
    exact Nat.le_trans h1 (Nat.le_mul_of_pos_left _ (Nat.succ_pos _))
theorem bor_bd {M : Nat} {P : List Rw} {x : Rw} {j : Nat} (hP : ∀ r ∈ P, Bdd M r) (hx : Bdd M x) : (bor P x j).natAbs ≤ bd M (P.length + 1) := by
  refine dt_bd _ _ _ (by simp) fun r hr => ?_
  obtain ⟨q, hq, rfl⟩ := List.mem_map.mp hr
  rcases List.mem_append.mp hq with z | z
  · exact fun i => hP q z _
  · rw [List.mem_singleton.mp z]; exact fun i => hx _
def rowAt (P : List Rw) (m : Nat) (r : Rw) : List Int := (List.range m).map fun j => bor P r (P.length + j)
theorem rowAt_len (P : List Rw) (m : Nat) (r : Rw) : (rowAt P m r).length = m := by simp [rowAt]
theorem rowAt_get {P : List Rw} {m : Nat} {r : Rw} {j : Nat} (h : j < m) : (rowAt P m r).getD j 0 = bor P r (P.length + j) := by
  unfold rowAt
  rw [List.getD_eq_getElem?_getD, List.getElem?_map, List.getElem?_range h]
  rfl
theorem Elim.clear {P : List Rw} (E : Elim P) (p r : Rw) (j : Nat) : (bor P p P.length * bor P r j - bor P r P.length * bor P p j).fdiv (dt P.length P 0) = bor (P ++ [p]) r j := by
  rw [← E.step p r j]
  exact Int.mul_fdiv_cancel_left _ E.ne
theorem bor_nil (r : Rw) (j : Nat) : bor [] r j = r j := by simp [bor, dt, lapG, cs]
def fn (l : List Int) : Rw := fun j => l.getD j 0
theorem rowAt_nil {l : List Int} {n : Nat} (h : l.length = n) : rowAt [] n (fn l) = l := by
  refine List.ext_getElem (by rw [rowAt_len, h]) fun i h1 h2 => ?_
  have e := rowAt_get (P := []) (m := n) (r := fn l) (j := i) (by omega)
  rw [List.getD_eq_getElem?_getD, List.getElem?_eq_getElem h1, bor_nil, List.length_nil, Nat.zero_add] at e
  refine Eq.trans e ?_
  unfold fn
  rw [List.getD_eq_getElem?_getD, List.getElem?_eq_getElem h2]
  rfl
theorem sgn_two : ∀ k : Nat, sgn (k + 2) = sgn k
  | k => by rw [sgn, sgn]; omega
theorem sgn_par : ∀ k : Nat, sgn k = if k % 2 = 1 then -1 else 1
  | 0 => rfl
  | 1 => rfl
  | k + 2 => by rw [sgn_two, sgn_par k, show (k + 2) % 2 = k % 2 by omega]
def diagP : List Rw → Nat → Int
  | [], _ => 1
  | r :: t, c => r c * diagP t (c + 1)
theorem dt_upper : ∀ (l : List Rw) (c : Nat), (∀ (i : Nat) (h : i < l.length), ∀ j, c ≤ j → j < c + i → (l[i]) j = 0) → dt l.length l c = diagP l c
  | [], _, _ => rfl
  | r :: t, c, h => by
    have b := dt_block t.length t 1 c [r] rfl fun q hq j h1 h2 => by
      obtain ⟨i, hi, rfl⟩ := List.getElem_of_mem hq
      exact h (i + 1) (by simp; exact hi) j h1 (by omega)
    rw [List.length_cons, Nat.add_comm, ← List.singleton_append, b, dt_upper t (c + 1) fun i hi j h1 h2 => h (i + 1) (by simp; exact hi) j (by omega) (by omega), List.singleton_append, diagP]
    simp [dt, lapG]
end Com

set_option Elab.async false
set_option linter.all false
namespace Com
def vE (i : Nat) (e : Int) : Rw := fun j => (if j = i then 1 else 0) - (if (j : Int) = e then 1 else 0)
theorem dt_add {l : List Rw} {n i k : Nat} (c : Nat) (hn : l.length = n) (hi : i < l.length) (hk : k < l.length) (ne : k ≠ i) : dt n (l.set i fun j => l[i] j + l[k] j) c = dt n l c := by
  subst hn
  have e1 : l.set i (fun j => l[i] j + l[k] j) = l.take i ++ (fun j => 1 * l[i] j + 1 * l[k] j) :: l.drop (i + 1) := by
    rw [List.set_eq_take_append_cons_drop, if_pos hi]
    congr 2
    funext j
    omega
  have e2 : l = l.take i ++ l[i] :: l.drop (i + 1) := by
    rw [← List.drop_eq_getElem_cons hi, List.take_append_drop]
  have hl : (l.take i).length + (l.drop (i + 1)).length + 1 = l.length := by
    rw [List.length_take, List.length_drop]; omega
  rw [e1, dt_lin _ _ _ _ _ _ _ _ hl]
  have z : dt l.length (l.take i ++ l[k] :: l.drop (i + 1)) c = 0 := by
    by_cases h : k < i
    · have hm : l[k] ∈ l.take i := List.mem_iff_getElem?.mpr ⟨k, by rw [List.getElem?_take_of_lt h, List.getElem?_eq_getElem hk]⟩
      obtain ⟨A, B, e⟩ := List.append_of_mem hm
      have hA : (l.take i).length = A.length + B.length + 1 := by rw [e]; simp; omega
      rw [e, List.append_assoc, List.cons_append]
      exact dt_dup _ _ _ _ B A (by omega)
    · have hm : l[k] ∈ l.drop (i + 1) := List.mem_iff_getElem?.mpr ⟨k - (i + 1), by rw [List.getElem?_drop, show i + 1 + (k - (i + 1)) = k by omega, List.getElem?_eq_getElem hk]⟩
      obtain ⟨A, B, e⟩ := List.append_of_mem hm
      have hA : (l.drop (i + 1)).length = A.length + B.length + 1 := by rw [e]; simp; omega
      rw [e]
      exact dt_dup _ _ _ _ A (l.take i) (by omega)
  rw [z, ← e2]
  omega
def oneR (n : Nat) (g : Nat → Int) : List Rw := (List.range n).map fun i => vE i (g i)
theorem oneR_len (n : Nat) (g : Nat → Int) : (oneR n g).length = n := by simp [oneR]
theorem oneR_get {n : Nat} {g : Nat → Int} {i : Nat} (h : i < n) : (oneR n g)[i]'(by rw [oneR_len]; exact h) = vE i (g i) := by simp [oneR]
/-- a row's exit is put to be its exit's exit -/
theorem dt_jump {n : Nat} {g : Nat → Int} {i k : Nat} (hi : i < n) (hk : k < n) (ne : k ≠ i) : dt n ((oneR n g).set i (vE i (g k))) 0 = dt n ((oneR n g).set i (vE i (k : Int))) 0 := by
  have hl : ((oneR n g).set i (vE i (k : Int))).length = n := by rw [List.length_set, oneR_len]
  have := dt_add (l := (oneR n g).set i (vE i (k : Int))) (i := i) (k := k) 0 hl (by rw [hl]; exact hi) (by rw [hl]; exact hk) ne
  rw [← this, List.set_set]
  congr 2
  funext j
  rw [List.getElem_set_self, List.getElem_set_ne (Ne.symm ne), oneR_get hk]
  unfold vE
  have : ((j : Int) = (k : Int)) = (j = k) := by rw [eq_iff_iff]; omega
  simp only [this]
  split <;> split <;> split <;> omega
structure TreeR (n : Nat) (g : Nat → Int) (rk : Nat → Nat) : Prop where
  ok : ∀ i, i < n → g i = -1 ∨ 0 ≤ g i ∧ g i < (n : Int) ∧ rk (g i).toNat < rk i
theorem TreeR.row {n : Nat} {g : Nat → Int} {rk : Nat → Nat} (T : TreeR n g rk) {i : Nat} (hi : i < n) : ∀ (m : Nat) (y : Int), y = -1 ∨ 0 ≤ y ∧ y < (n : Int) ∧ rk y.toNat < rk i ∧ rk y.toNat < m → dt n ((oneR n g).set i (vE i y)) 0 = dt n ((oneR n g).set i (vE i (-1))) 0
  | 0, y, h => by
    rcases h with rfl | h
    · rfl
    · omega
  | m + 1, y, h => by
    rcases h with rfl | ⟨h0, h1, h2, h3⟩
    · rfl
    · obtain ⟨k, rfl⟩ : ∃ k : Nat, y = (k : Int) := ⟨y.toNat, by omega⟩
      rw [Int.toNat_natCast] at h2 h3
      have ne : k ≠ i := fun z => by rw [z] at h2; omega
      rw [← dt_jump hi (by omega) ne]
      refine T.row hi m (g k) ?_
      rcases T.ok k (by omega) with z | ⟨z0, z1, z2⟩
      · exact .inl z
      · exact .inr ⟨z0, z1, by omega, by omega⟩
theorem oneR_set {n : Nat} {g : Nat → Int} {i : Nat} (y : Int) : (oneR n g).set i (vE i y) = oneR n fun k => if k = i then y else g k := by
  refine List.ext_getElem (by rw [List.length_set, oneR_len, oneR_len]) fun k h1 h2 => ?_
  rw [oneR_len] at h2
  rw [oneR_get h2, List.getElem_set]
  by_cases e : i = k
  · subst e; rw [if_pos rfl, if_pos rfl]
  · rw [if_neg e, if_neg (Ne.symm e), oneR_get h2]
theorem TreeR.one {n : Nat} {rk : Nat → Nat} : ∀ (m : Nat) (g : Nat → Int), TreeR n g rk → (∀ i, i < n → g i = -1 ∨ i < m) → dt n (oneR n g) 0 = 1
  | 0, g, _, h => by
    have e : oneR n g = (List.range n).map fun i => vE i (-1) := List.map_congr_left fun i hi => by rw [(h i (List.mem_range.mp hi)).resolve_right (Nat.not_lt_zero _)]
    have u := dt_upper (oneR n g) 0 fun i hi j _ hj => by
      rw [oneR_len] at hi
      rw [oneR_get hi, (h i hi).resolve_right (Nat.not_lt_zero _)]
      unfold vE
      rw [if_neg (by omega), if_neg (by omega)]
      rfl
    rw [oneR_len] at u
    rw [u, e]
    have d : ∀ (k c : Nat), diagP ((List.range' c k).map fun i => vE i (-1)) c = 1 := fun k => by
      induction k with
      | zero => exact fun _ => rfl
      | succ k ih =>
        intro c
        rw [List.range'_succ, List.map_cons, diagP, ih (c + 1)]
        unfold vE
        rw [if_pos rfl, if_neg (by omega)]
        rfl
    rw [List.range_eq_range']
    exact d n 0
  | m + 1, g, T, h => by
    by_cases hm : m < n
    · have hr := T.row hm (rk m + 1) (g m) (by
        rcases T.ok m hm with z | ⟨z0, z1, z2⟩
        · exact .inl z
        · exact .inr ⟨z0, z1, z2, by omega⟩)
      have hs : (oneR n g).set m (vE m (g m)) = oneR n g := by
        rw [oneR_set]
        congr 1
        funext k
        split
        · rename_i z; rw [z]
        · rfl
      rw [hs, oneR_set] at hr
      rw [hr]
      refine TreeR.one (rk := rk) m _ ⟨fun i hi => ?_⟩ fun i hi => ?_
      · by_cases e : i = m
        · exact .inl (if_pos e)
        · rw [if_neg e]
          exact T.ok i hi
      · by_cases e : i = m
        · exact .inl (if_pos e)
        · rw [if_neg e]
          rcases h i hi with z | z
          · exact .inl z
          · exact .inr (by omega)
    · refine TreeR.one m g T fun i hi => ?_
      rcases h i hi with z | z
      · exact .inl z
      · exact .inr (by omega)
end Com

set_option Elab.async false
set_option linter.all false
namespace Com
def sumN : Nat → (Nat → Int) → Int
  | 0, _ => 0
  | n + 1, f => sumN n f + f n
theorem sumN_congr {f g : Nat → Int} : ∀ (n : Nat), (∀ i, i < n → f i = g i) → sumN n f = sumN n g
  | 0, _ => rfl
  | n + 1, h => by rw [sumN, sumN, sumN_congr n fun i hi => h i (by omega), h n (by omega)]
theorem sumN_add {f g : Nat → Int} : ∀ (n : Nat), sumN n (fun i => f i + g i) = sumN n f + sumN n g
  | 0 => rfl
  | n + 1 => by rw [sumN, sumN, sumN, sumN_add n]; omega
theorem sumN_zero : ∀ (n : Nat), sumN n (fun _ => 0) = 0
  | 0 => rfl
  | n + 1 => by rw [sumN, sumN_zero n]; rfl
theorem sumN_cat (f : Nat → Int) (a : Nat) : ∀ (b : Nat), sumN (a + b) f = sumN a f + sumN b fun i => f (a + i)
  | 0 => by simp [sumN]
  | b + 1 => by
    rw [← Nat.add_assoc, sumN, sumN_cat f a b, sumN]
    omega
def nest : List Nat → (List Nat → Int) → Int
  | [], F => F []
  | a :: l, F => sumN a fun d => nest l fun c => F (d :: c)
def prodL : List Nat → Nat
  | [] => 1
  | a :: l => a * prodL l
theorem nest_congr : ∀ (l : List Nat) (F G : List Nat → Int), (∀ c : List Nat, c.length = l.length → (∀ (i : Nat), i < l.length → c.getD i 0 < l.getD i 0) → F c = G c) → nest l F = nest l G
  | [], F, G, h => h [] rfl fun i hi => absurd hi (Nat.not_lt_zero i)
  | a :: l, F, G, h => by
    rw [nest, nest]
    refine sumN_congr a fun d hd => nest_congr l _ _ fun c hc hi => h (d :: c) (by simp [hc]) fun i hi' => ?_
    match i, hi' with
    | 0, _ => exact hd
    | i + 1, hi' => exact hi i (by simpa using hi')
theorem dt_sumN (n c : Nat) (A B : List Rw) (V : Nat → Rw) (h : A.length + B.length + 1 = n) : ∀ (m : Nat), dt n (A ++ (fun j => sumN m fun t => V t j) :: B) c = sumN m fun t => dt n (A ++ V t :: B) c
  | 0 => by
    have := dt_scale n c A 0 (fun _ => 0) B h
    rw [show (fun (_ : Nat) => (0 : Int) * 0) = fun _ => 0 from rfl] at this
    show dt n (A ++ (fun _ => (0 : Int)) :: B) c = 0
    rw [this]; omega
  | m + 1 => by
    have := dt_lin n c A 1 1 (fun j => sumN m fun t => V t j) (V m) B h
    rw [dt_sumN n c A B V h m] at this
    rw [sumN, show (fun j => sumN (m + 1) fun t => V t j) = fun j => 1 * (sumN m fun t => V t j) + 1 * V m j by funext j; rw [sumN]; omega, this]
    omega
def chs (V : Nat → Nat → Rw) : Nat → List Nat → List Rw
  | _, [] => []
  | k, t :: c => V k t :: chs V (k + 1) c
def smr (V : Nat → Nat → Rw) : Nat → List Nat → List Rw
  | _, [] => []
  | k, a :: l => (fun j => sumN a fun t => V k t j) :: smr V (k + 1) l
theorem smr_len (V : Nat → Nat → Rw) : ∀ (l : List Nat) (k : Nat), (smr V k l).length = l.length
  | [], _ => rfl
  | _ :: l, k => by rw [smr, List.length_cons, List.length_cons, smr_len V l]
theorem dt_nest (V : Nat → Nat → Rw) (n : Nat) : ∀ (l : List Nat) (k : Nat) (pre : List Rw), pre.length + l.length = n → dt n (pre ++ smr V k l) 0 = nest l fun c => dt n (pre ++ chs V k c) 0
  | [], k, pre, _ => rfl
  | a :: l, k, pre, h => by
    rw [smr, nest, dt_sumN n 0 pre (smr V (k + 1) l) (V k) (by rw [smr_len]; simp at h; omega)]
    refine sumN_congr a fun t _ => ?_
    have := dt_nest V n l (k + 1) (pre ++ [V k t]) (by simp at h ⊢; omega)
    rw [app1] at this
    rw [this]
    refine congrArg (nest l) ?_
    funext c
    rw [app1]
    rfl
theorem smr_eq (V : Nat → Nat → Rw) : ∀ (l : List Nat) (k : Nat), smr V k l = (List.range l.length).map fun i => fun j => sumN (l.getD i 0) fun t => V (k + i) t j
  | [], _ => rfl
  | a :: l, k => by
    rw [smr, smr_eq V l (k + 1), List.length_cons, List.range_succ_eq_map, List.map_cons, List.map_map]
    congr 1
    refine List.map_congr_left fun i _ => ?_
    show (fun j => sumN (l.getD i 0) fun t => V (k + 1 + i) t j) = fun j => sumN ((a :: l).getD (i + 1) 0) fun t => V (k + (i + 1)) t j
    rw [show k + 1 + i = k + (i + 1) by omega]
    rfl
theorem chs_eq (V : Nat → Nat → Rw) : ∀ (c : List Nat) (k : Nat), chs V k c = (List.range c.length).map fun i => V (k + i) (c.getD i 0)
  | [], _ => rfl
  | t :: c, k => by
    rw [chs, chs_eq V c (k + 1), List.length_cons, List.range_succ_eq_map, List.map_cons, List.map_map]
    congr 1
    refine List.map_congr_left fun i _ => ?_
    show V (k + 1 + i) (c.getD i 0) = V (k + (i + 1)) ((t :: c).getD (i + 1) 0)
    rw [show k + 1 + i = k + (i + 1) by omega]
    rfl
end Com

set_option Elab.async false
set_option linter.all false
set_option maxRecDepth 100000
set_option maxHeartbeats 4000000
namespace Com
open PySem L2
theorem sumN_head (f : Nat → Int) (n : Nat) : sumN (n + 1) f = f 0 + sumN n fun i => f (i + 1) := by
  rw [Nat.add_comm, sumN_cat]
  show (0 + f 0) + sumN n (fun i => f (1 + i)) = _
  rw [Int.zero_add]
  congr 1
  exact sumN_congr n fun i _ => by rw [Nat.add_comm]
theorem lastx_zero {r : List Int} (h : 1 ≤ r.length) : lastx r 0 = r.getD (r.length - 1) 0 := by
  unfold lastx
  rcases List.eq_nil_or_concat r with rfl | ⟨l, z, rfl⟩
  · simp at h
  · rw [List.concat_eq_append, show (0 - 1 : Int) = -1 by omega, atI_last]
    simp
theorem lastx_succ {r : List Int} {t : Nat} (h : t < r.length) : lastx r ((t : Int) + 1) = r.getD t 0 := by
  unfold lastx
  rw [show (t : Int) + 1 - 1 = (t : Int) by omega, atI_nat (List.getElem?_eq_getElem h), List.getD_eq_getElem?_getD, List.getElem?_eq_getElem h]
theorem sum_last (F : Int → Int) {r : List Int} (h : 1 ≤ r.length) : (sumN r.length fun t => F (lastx r (t : Int))) = sumN r.length fun t => F (r.getD t 0) := by
  obtain ⟨m, hm⟩ : ∃ m, r.length = m + 1 := ⟨r.length - 1, by omega⟩
  rw [hm, sumN_head, sumN]
  rw [sumN_congr (g := fun t => F (r.getD t 0)) m fun t ht => by
    rw [show (((t + 1 : Nat)) : Int) = (t : Int) + 1 by omega, lastx_succ (by omega)]]
  rw [show ((0 : Nat) : Int) = 0 from rfl, lastx_zero h, hm, Nat.add_sub_cancel]
  omega
theorem sum_count (z : Int) : ∀ r : List Int, (sumN r.length fun t => if z = r.getD t 0 then 1 else 0) = ((r.count z : Nat) : Int)
  | [] => rfl
  | e :: r => by
    rw [List.length_cons, sumN_head, List.count_cons]
    have := sum_count z r
    rw [show (sumN r.length fun i => if z = (e :: r).getD (i + 1) 0 then (1 : Int) else 0) = ((r.count z : Nat) : Int) from this]
    show (if z = e then (1 : Int) else 0) + _ = _
    by_cases h : z = e
    · rw [if_pos h, h]; simp; omega
    · rw [if_neg h, if_neg (by simp; exact fun y => h y.symm)]; omega
theorem sumN_const (c : Int) : ∀ n : Nat, (sumN n fun _ => c) = (n : Int) * c
  | 0 => by simp [sumN]
  | n + 1 => by rw [sumN, sumN_const c n]; grind
theorem sumN_sub {f g : Nat → Int} (n : Nat) : sumN n (fun i => f i - g i) = sumN n f - sumN n g := by
  have := sumN_add (f := fun i => f i - g i) (g := g) n
  rw [sumN_congr (g := f) n fun i _ => by omega] at this
  omega
/-- the rows of the exits that are last, one for each turn -/
def exV (rows : List (List Int)) (i t : Nat) : Rw := vE i (lastx (rows.getD i []) (t : Int))
theorem exV_sum {r : List Int} (rows : List (List Int)) (i j : Nat) (hr : rows.getD i [] = r) (h : 1 ≤ r.length) : (sumN r.length fun t => exV rows i t j) = (if j = i then (r.length : Int) else 0) - ((r.count (j : Int) : Nat) : Int) := by
  unfold exV vE
  rw [hr, sumN_sub, sum_last (fun e => if (j : Int) = e then 1 else 0) h, sum_count, sumN_const]
  split <;> simp
end Com

set_option Elab.async false
set_option linter.all false
set_option maxRecDepth 100000
set_option maxHeartbeats 4000000
namespace Com
open PySem L2
def grd (r : List Int) (i : Nat) : Rw := fun j => (if j = i then (r.length : Int) else 0) - ((r.count (j : Int) : Nat) : Int)
def grdM (rows : List (List Int)) : List Rw := (List.range rows.length).map fun i => grd (rows.getD i []) i
def treesN (rows : List (List Int)) : Int := dt rows.length (grdM rows) 0
def lensN (rows : List (List Int)) : List Nat := rows.map List.length
def gOf (rows : List (List Int)) (c : List Nat) (i : Nat) : Int := lastx (rows.getD i []) ((c.getD i 0 : Nat) : Int)
def toZ (c : List Nat) : List Int := c.map Int.ofNat
theorem toZ_get (c : List Nat) (i : Nat) : (toZ c).getD i 0 = ((c.getD i 0 : Nat) : Int) := by
  unfold toZ
  rw [List.getD_eq_getElem?_getD, List.getElem?_map, List.getD_eq_getElem?_getD]
  cases c[i]? <;> rfl
theorem lens_get {rows : List (List Int)} (i : Nat) : (lensN rows).getD i 0 = (rows.getD i []).length := by
  unfold lensN
  rw [List.getD_eq_getElem?_getD, List.getElem?_map, List.getD_eq_getElem?_getD]
  cases rows[i]? <;> rfl
theorem trees_nest {rows : List (List Int)} (h : ∀ i, i < rows.length → 1 ≤ (rows.getD i []).length) : treesN rows = nest (lensN rows) fun c => dt rows.length (oneR rows.length (gOf rows c)) 0 := by
  have hl : (lensN rows).length = rows.length := by simp [lensN]
  have e : grdM rows = smr (exV rows) 0 (lensN rows) := by
    rw [smr_eq, hl]
    unfold grdM
    refine List.map_congr_left fun i hi => ?_
    funext j
    rw [Nat.zero_add, lens_get, exV_sum rows i j rfl (h i (List.mem_range.mp hi))]
    rfl
  have d := dt_nest (exV rows) rows.length (lensN rows) 0 [] (by simp [hl])
  rw [List.nil_append] at d
  unfold treesN
  rw [e, d]
  refine nest_congr _ _ _ fun c hc _ => ?_
  rw [List.nil_append, chs_eq, hc, hl]
  congr 1
  unfold oneR exV gOf
  refine List.map_congr_left fun i _ => ?_
  rw [Nat.zero_add]
theorem nest_one : ∀ l : List Nat, nest l (fun _ => 1) = (prodL l : Int)
  | [] => rfl
  | a :: l => by
    rw [nest, nest_one l, sumN_const, prodL]
    simp
end Com

set_option Elab.async false
set_option linter.all false
set_option maxRecDepth 100000
set_option maxHeartbeats 4000000
namespace Com
open PySem L2
theorem sumTo_N : ∀ (n : Nat) (f : Nat → Int), sumTo n f = sumN n f
  | 0, _ => rfl
  | n + 1, f => by rw [sumTo, sumN, sumTo_N n f]
def flow (rows : List (List Int)) (ts : List Int) (c : Nat → Nat) (e : Int) : Int := sumN rows.length fun s => (inN (rows.getD s []) (ts.getD s 0).toNat e (c s) : Int)
def turnsC (rows : List (List Int)) (ts : List Int) (c : Nat → Nat) : List Int := (List.range rows.length).map fun s => ((((ts.getD s 0).toNat + c s) % (rows.getD s []).length : Nat) : Int)
theorem turnsC_get {rows : List (List Int)} {ts : List Int} {c : Nat → Nat} {i : Nat} (h : i < rows.length) : (turnsC rows ts c).getD i 0 = ((((ts.getD i 0).toNat + c i) % (rows.getD i []).length : Nat) : Int) := range_get h
theorem inA_flow (b : Brd) (c : Nat → Nat) (e : Int) : inA b c e = flow b.rows b.turns c e := sumTo_N _ _
theorem inN_add (r : List Int) (t : Nat) (e : Int) (a : Nat) : ∀ b, inN r t e (a + b) = inN r t e a + inN r ((t + a) % r.length) e b
  | 0 => by simp [inN]
  | b + 1 => by
    rw [← Nat.add_assoc, inN, inN_add r t e a b, inN, Nat.mod_add_mod, Nat.add_assoc t a b]
    omega
theorem flow_add {rows : List (List Int)} {ts : List Int} (c d : Nat → Nat) (e : Int) : flow rows ts (fun i => c i + d i) e = flow rows ts c e + flow rows (turnsC rows ts c) d e := by
  unfold flow
  rw [← sumN_add]
  refine sumN_congr _ fun i hi => ?_
  rw [inN_add, turnsC_get hi, Int.toNat_natCast]
  omega
theorem flow_congr {rows : List (List Int)} {ts : List Int} {c d : Nat → Nat} (h : ∀ i, i < rows.length → c i = d i) (e : Int) : flow rows ts c e = flow rows ts d e := sumN_congr _ fun i hi => by rw [h i hi]
def Lat (rows : List (List Int)) (s : Nat) (m : Int) (k : Nat → Int) : Prop := ∀ j, j < rows.length → (if j = s then m else 0) = sumN rows.length fun p => k p * grd (rows.getD p []) p j
theorem sumN_pick {n s : Nat} (h : s < n) (f : Nat → Int) : sumN n (fun i => if s = i then f i else 0) = f s := by
  have := sumTo_one (n := n) (s := s) (g := fun _ => 0) (g' := fun i => if s = i then f i else 0) h fun i _ hi => if_neg fun z => hi z.symm
  rw [sumTo_N, sumTo_N, sumN_zero] at this
  simpa using this
theorem sumN_smul (a : Int) (f : Nat → Int) : ∀ n, sumN n (fun i => a * f i) = a * sumN n f
  | 0 => by simp [sumN]
  | n + 1 => by rw [sumN, sumN, sumN_smul a f n, Int.mul_add]
theorem lat_sum {rows : List (List Int)} (k : Nat → Int) {j : Nat} (hj : j < rows.length) : (sumN rows.length fun p => k p * grd (rows.getD p []) p j) = k j * ((rows.getD j []).length : Int) - sumN rows.length fun p => k p * (((rows.getD p []).count (j : Int) : Nat) : Int) := by
  rw [← sumN_pick hj (fun p => k p * ((rows.getD p []).length : Int)), ← sumN_sub]
  refine sumN_congr _ fun p hp => ?_
  unfold grd
  rw [Int.mul_sub]
  split <;> simp
theorem turnsC_add {rows : List (List Int)} {ts : List Int} (c d : Nat → Nat) : turnsC rows (turnsC rows ts c) d = turnsC rows ts fun i => c i + d i := by
  unfold turnsC
  refine List.map_congr_left fun i hi => ?_
  have hi' := List.mem_range.mp hi
  have := turnsC_get (ts := ts) (c := c) hi'
  unfold turnsC at this
  rw [this, Int.toNat_natCast, Nat.mod_add_mod, Nat.add_assoc]
theorem turnsC_congr {rows : List (List Int)} {ts : List Int} {c d : Nat → Nat} (h : ∀ i, i < rows.length → c i = d i) : turnsC rows ts c = turnsC rows ts d := List.map_congr_left fun i hi => by rw [h i (List.mem_range.mp hi)]
end Com

set_option Elab.async false
set_option linter.all false
set_option maxRecDepth 100000
set_option maxHeartbeats 4000000
namespace Com
open PySem L2
def mkR (s : Nat) : Rw := fun j => if j = s then 1 else 0
def DpN (rows : List (List Int)) (s p : Nat) : Int := dt rows.length ((grdM rows).set p (mkR s)) 0
theorem set_form {α : Type} {l : List α} {p : Nat} (h : p < l.length) (x : α) : l.set p x = l.take p ++ x :: l.drop (p + 1) := by
  rw [List.set_eq_take_append_cons_drop, if_pos h]
theorem dt_cols {n : Nat} {l l' : List Rw} (hl : l.length = l'.length) (h : ∀ i, i < l.length → ∀ j, j < n → l.getD i (fun _ => 0) j = l'.getD i (fun _ => 0) j) : dt n l 0 = dt n l' 0 := by
  have e : ∀ m : List Rw, m = (List.range m.length).map fun i => m.getD i fun _ => 0 := fun m => by
    refine List.ext_getElem (by simp) fun i h1 h2 => ?_
    rw [List.getElem_map, List.getElem_range, List.getD_eq_getElem?_getD, List.getElem?_eq_getElem h1]
    rfl
  rw [e l, e l', ← hl]
  refine dt_congr _ _ n 0 _ fun i j _ hj => ?_
  by_cases hi : i < l.length
  · exact h i hi j (by omega)
  · rw [List.getD_eq_getElem?_getD, List.getElem?_eq_none (by omega), List.getD_eq_getElem?_getD, List.getElem?_eq_none (by omega)]
theorem grdM_len (rows : List (List Int)) : (grdM rows).length = rows.length := by simp [grdM]
theorem grdM_get {rows : List (List Int)} {p : Nat} (h : p < rows.length) : (grdM rows)[p]'(by rw [grdM_len]; exact h) = grd (rows.getD p []) p := by simp [grdM]
theorem dt_put {rows : List (List Int)} {p q : Nat} (hp : p < rows.length) (hq : q < rows.length) : dt rows.length ((grdM rows).take p ++ grd (rows.getD q []) q :: (grdM rows).drop (p + 1)) 0 = if p = q then treesN rows else 0 := by
  have hl := grdM_len rows
  by_cases e : p = q
  · subst e
    rw [if_pos rfl, ← grdM_get hp, ← List.drop_eq_getElem_cons (by rw [hl]; exact hp), List.take_append_drop]
    rfl
  · rw [if_neg e]
    have hg := grdM_get hq
    by_cases h : q < p
    · have hm : grd (rows.getD q []) q ∈ (grdM rows).take p := by
        rw [← hg, List.mem_take_iff_getElem]
        exact ⟨q, by rw [hl]; omega, rfl⟩
      obtain ⟨A, B, e2⟩ := List.append_of_mem hm
      have hlen : A.length + B.length + 1 = p := by
        have := congrArg List.length e2
        rw [List.length_take, hl] at this
        simp at this
        omega
      rw [e2, List.append_assoc, List.cons_append]
      exact dt_dup _ _ _ _ _ _ (by rw [List.length_drop, hl]; omega)
    · have hm : grd (rows.getD q []) q ∈ (grdM rows).drop (p + 1) := by
        rw [← hg, List.mem_drop_iff_getElem]
        exact ⟨q - (p + 1), by rw [hl]; omega, by congr 1; omega⟩
      obtain ⟨A, B, e2⟩ := List.append_of_mem hm
      have hlen : A.length + B.length + 1 = rows.length - (p + 1) := by
        have := congrArg List.length e2
        rw [List.length_drop, hl] at this
        simp at this
        omega
      rw [e2]
      exact dt_dup _ _ _ _ _ _ (by rw [List.length_take, hl]; omega)
theorem cramer {rows : List (List Int)} {s : Nat} {m : Int} {k : Nat → Int} (L : Lat rows s m k) {p : Nat} (hp : p < rows.length) : m * DpN rows s p = k p * treesN rows := by
  have hl := grdM_len rows
  have hlen : ((grdM rows).take p).length + ((grdM rows).drop (p + 1)).length + 1 = rows.length := by
    rw [List.length_take, List.length_drop, hl]
    omega
  unfold DpN
  rw [set_form (by rw [hl]; exact hp), ← dt_scale _ _ _ _ _ _ hlen]
  have e1 : dt rows.length ((grdM rows).take p ++ (fun j => m * mkR s j) :: (grdM rows).drop (p + 1)) 0 = dt rows.length ((grdM rows).take p ++ (fun j => sumN rows.length fun q => (fun j => k q * grd (rows.getD q []) q j) j) :: (grdM rows).drop (p + 1)) 0 := by
    refine dt_cols (by simp) fun i hi j hj => ?_
    have hA : ((grdM rows).take p).length = p := by rw [List.length_take, hl]; omega
    by_cases hip : i < p
    · rw [List.getD_eq_getElem?_getD, List.getElem?_append_left (by omega), List.getD_eq_getElem?_getD, List.getElem?_append_left (by omega)]
    · rw [List.getD_eq_getElem?_getD, List.getElem?_append_right (by omega), List.getD_eq_getElem?_getD, List.getElem?_append_right (by omega), hA]
      cases i - p with
      | zero =>
        show m * mkR s j = sumN rows.length fun q => k q * grd (rows.getD q []) q j
        rw [← L j hj]
        unfold mkR
        split <;> simp
      | succ d => rfl
  rw [e1, dt_sumN _ _ _ _ (fun q j => k q * grd (rows.getD q []) q j) hlen]
  have e2 : ∀ q, q < rows.length → dt rows.length ((grdM rows).take p ++ (fun j => k q * grd (rows.getD q []) q j) :: (grdM rows).drop (p + 1)) 0 = if p = q then k q * treesN rows else 0 := fun q hq => by
    rw [dt_scale _ _ _ _ _ _ hlen, dt_put hp hq]
    split <;> simp
  rw [sumN_congr _ e2, sumN_pick hp]
structure Some (rows : List (List Int)) (s : Nat) : Prop where
  D : 1 ≤ treesN rows
  hs : s < rows.length
  ex : ∃ (m : Nat) (k : Nat → Nat), 1 ≤ m ∧ Lat rows s m fun i => (k i : Int)
theorem Some.nn {rows : List (List Int)} {s : Nat} (S : Some rows s) {p : Nat} (hp : p < rows.length) : 0 ≤ DpN rows s p := by
  obtain ⟨m, k, hm, L⟩ := S.ex
  have c := cramer L hp
  have h1 : 0 ≤ (k p : Int) * treesN rows := Int.mul_nonneg (by omega) (by have := S.D; omega)
  rw [← c] at h1
  exact Int.nonneg_of_mul_nonneg_right h1 (by omega)
theorem Some.adj {rows : List (List Int)} {s : Nat} (S : Some rows s) {j : Nat} (hj : j < rows.length) : (sumN rows.length fun p => DpN rows s p * grd (rows.getD p []) p j) = treesN rows * mkR s j := by
  obtain ⟨m, k, hm, L⟩ := S.ex
  have h : (m : Int) * (sumN rows.length fun p => DpN rows s p * grd (rows.getD p []) p j) = m * (treesN rows * mkR s j) := by
    rw [← sumN_smul]
    have e1 : ∀ p, p < rows.length → (m : Int) * (DpN rows s p * grd (rows.getD p []) p j) = treesN rows * ((k p : Int) * grd (rows.getD p []) p j) := fun p hp => by
      have := cramer L hp
      rw [← Int.mul_assoc, this]
      grind
    rw [sumN_congr _ e1, sumN_smul, ← L j hj]
    unfold mkR
    split
    · grind
    · simp
  exact Int.eq_of_mul_eq_mul_left (by omega) h
theorem Some.lat {rows : List (List Int)} {s : Nat} (S : Some rows s) (m : Nat) : (∃ k : Nat → Nat, Lat rows s m fun i => (k i : Int)) ↔ ∀ p, p < rows.length → treesN rows ∣ m * DpN rows s p := by
  constructor
  · rintro ⟨k, L⟩ p hp
    rw [cramer L hp]
    exact Int.dvd_mul_left _ _
  · intro h
    have hD := S.D
    refine ⟨fun p => ((m * DpN rows s p) / treesN rows).toNat, fun j hj => ?_⟩
    have e1 : ∀ p, p < rows.length → ((((m * DpN rows s p) / treesN rows).toNat : Nat) : Int) * treesN rows = m * DpN rows s p := fun p hp => by
      have h0 : 0 ≤ (m * DpN rows s p) / treesN rows := Int.ediv_nonneg (Int.mul_nonneg (by omega) (S.nn hp)) (by omega)
      rw [Int.toNat_of_nonneg h0, Int.ediv_mul_cancel (h p hp)]
    have e2 : treesN rows * (sumN rows.length fun p => ((((m * DpN rows s p) / treesN rows).toNat : Nat) : Int) * grd (rows.getD p []) p j) = treesN rows * (if j = s then (m : Int) else 0) := by
      rw [← sumN_smul]
      have e3 : ∀ p, p < rows.length → treesN rows * (((((m * DpN rows s p) / treesN rows).toNat : Nat) : Int) * grd (rows.getD p []) p j) = (m : Int) * (DpN rows s p * grd (rows.getD p []) p j) := fun p hp => by
        have := e1 p hp
        rw [← Int.mul_assoc, Int.mul_comm (treesN rows), this, Int.mul_assoc]
      rw [sumN_congr _ e3, sumN_smul, S.adj hj]
      unfold mkR
      split
      · grind
      · simp
    exact (Int.eq_of_mul_eq_mul_left (by omega) e2).symm
def gcN (rows : List (List Int)) (s : Nat) : Nat → Nat
  | 0 => (treesN rows).toNat
  | p + 1 => Nat.gcd (gcN rows s p) (DpN rows s p).toNat
def roundN (rows : List (List Int)) (s : Nat) : Nat := (treesN rows).toNat / gcN rows s rows.length
theorem gcN_D (rows : List (List Int)) (s : Nat) : ∀ p, gcN rows s p ∣ (treesN rows).toNat
  | 0 => Nat.dvd_refl _
  | p + 1 => Nat.dvd_trans (Nat.gcd_dvd_left _ _) (gcN_D rows s p)
theorem gcN_p (rows : List (List Int)) (s : Nat) : ∀ {q p : Nat}, p < q → gcN rows s q ∣ (DpN rows s p).toNat
  | q + 1, p, h => by
    by_cases e : p = q
    · subst e; exact Nat.gcd_dvd_right _ _
    · exact Nat.dvd_trans (Nat.gcd_dvd_left _ _) (gcN_p rows s (by omega))
theorem gcN_all {rows : List (List Int)} {s m : Nat} : ∀ {q : Nat}, (∀ p, p < q → (treesN rows).toNat ∣ m * (DpN rows s p).toNat) → (treesN rows).toNat ∣ m * gcN rows s q
  | 0, _ => Nat.dvd_mul_left _ _
  | q + 1, h => by
    rw [gcN, ← Nat.gcd_mul_left]
    exact Nat.dvd_gcd (gcN_all fun p hp => h p (by omega)) (h q (by omega))
theorem gcN_pos {rows : List (List Int)} {s : Nat} (h : 1 ≤ treesN rows) : ∀ p, 0 < gcN rows s p := fun p => Nat.pos_of_dvd_of_pos (gcN_D rows s p) (by omega)
theorem round_mul {rows : List (List Int)} {s : Nat} : roundN rows s * gcN rows s rows.length = (treesN rows).toNat := Nat.div_mul_cancel (gcN_D rows s _)
theorem Some.round {rows : List (List Int)} {s : Nat} (S : Some rows s) (m : Nat) : roundN rows s ∣ m ↔ ∃ k : Nat → Nat, Lat rows s m fun i => (k i : Int) := by
  rw [S.lat]
  have hD := S.D
  have hg := gcN_pos (s := s) hD rows.length
  have hmul := @round_mul rows s
  have cast : ∀ p, p < rows.length → (treesN rows ∣ m * DpN rows s p ↔ (treesN rows).toNat ∣ m * (DpN rows s p).toNat) := fun p hp => by
    have h0 := S.nn hp
    rw [← Int.natCast_dvd_natCast]
    have e1 : (((treesN rows).toNat : Nat) : Int) = treesN rows := by omega
    have e2 : ((m * (DpN rows s p).toNat : Nat) : Int) = m * DpN rows s p := by
      rw [Int.natCast_mul, Int.toNat_of_nonneg h0]
    rw [e1, e2]
  constructor
  · rintro ⟨c, rfl⟩ p hp
    rw [cast p hp]
    obtain ⟨d, hd⟩ := gcN_p rows s hp
    rw [hd, ← hmul]
    exact ⟨c * d, by grind⟩
  · intro h
    have := gcN_all (s := s) (m := m) (q := rows.length) fun p hp => (cast p hp).mp (h p hp)
    rw [← hmul] at this
    exact Nat.dvd_of_mul_dvd_mul_right hg this
end Com

set_option Elab.async false
set_option linter.all false
set_option maxRecDepth 100000
set_option maxHeartbeats 4000000
namespace Com
open PySem L2
def withL (b : Brd) (l : List Int) : Brd := ⟨b.rows, b.turns, l, b.steps, b.taken⟩
theorem withL_ok {b : Brd} (O : BrdOk b) {l : List Int} (h : l.length = b.rows.length) (h0 : ∀ i, 0 ≤ l.getD i 0) : BrdOk (withL b l) := ⟨O.W, O.T, h, O.S, h0⟩
theorem run_St {b : Brd} (O : BrdOk b) {N : Nat} (R : RunTo b N) : ∃ c, Leg b c ∧ iterR N b = St b c ∧ ∀ e, e < b.rows.length → b.loads.getD e 0 + flow b.rows b.turns c (e : Nat) - (c e : Int) = 0 := by
  obtain ⟨c, L, e⟩ := leg_iter O N
  refine ⟨c, L, e, fun j hj => ?_⟩
  have hz : (iterR N b).loads.getD j 0 = 0 := by
    have := laden_nil R.done (O.iter N).1.P
    rw [this, rep_get]
  rw [e, St_loads hj, inA_flow] at hz
  exact hz
theorem exch {b0 : Brd} {l1 l2 l3 : List Int} {N1 N2 N3 : Nat} (O : BrdOk b0) (h1 : l1.length = b0.rows.length) (h2 : l2.length = b0.rows.length) (h3 : l3.length = b0.rows.length) (p1 : ∀ i, 0 ≤ l1.getD i 0) (p2 : ∀ i, 0 ≤ l2.getD i 0) (p3 : ∀ i, 0 ≤ l3.getD i 0)
    (hs : ∀ e, e < b0.rows.length → l3.getD e 0 = l1.getD e 0 + l2.getD e 0) (R1 : RunTo (withL b0 l1) N1) (R2 : RunTo (withL (iterR N1 (withL b0 l1)) l2) N2) (R3 : RunTo (withL b0 l3) N3) :
    iterR N2 (withL (iterR N1 (withL b0 l1)) l2) = iterR N3 (withL b0 l3) ∧ N1 + N2 = N3 := by
  have O1 := withL_ok O h1 p1
  have O3 := withL_ok O h3 p3
  obtain ⟨OA, rA, _⟩ := O1.iter N1
  have rA' : (iterR N1 (withL b0 l1)).rows = b0.rows := rA
  have O2 := withL_ok OA (l := l2) (by rw [rA']; exact h2) p2
  obtain ⟨c1, L1, e1, z1⟩ := run_St O1 R1
  obtain ⟨c2, L2, e2, z2⟩ := run_St O2 R2
  obtain ⟨x, L3, e3, z3⟩ := run_St O3 R3
  have eT : (iterR N1 (withL b0 l1)).turns = turnsC b0.rows b0.turns c1 := by rw [e1]; rfl
  have z1' : ∀ e, e < b0.rows.length → l1.getD e 0 + flow b0.rows b0.turns c1 (e : Nat) - (c1 e : Int) = 0 := z1
  have z2' : ∀ e, e < b0.rows.length → l2.getD e 0 + flow b0.rows (turnsC b0.rows b0.turns c1) c2 (e : Nat) - (c2 e : Int) = 0 := fun e he => by
    have := z2 e (by show e < (iterR N1 (withL b0 l1)).rows.length; rw [rA']; exact he)
    show l2.getD e 0 + _ - _ = 0
    rw [← eT, ← rA']
    exact this
  have z3' : ∀ e, e < b0.rows.length → l3.getD e 0 + flow b0.rows b0.turns x (e : Nat) - (x e : Int) = 0 := z3
  have fa := fun e => flow_add (rows := b0.rows) (ts := b0.turns) c1 c2 e
  have a1 := least L3 (x := fun i => c1 i + c2 i) (fun e he => by
    have he' : e < b0.rows.length := he
    rw [inA_flow]
    show l3.getD e 0 + flow b0.rows b0.turns (fun i => c1 i + c2 i) e - ((c1 e + c2 e : Nat) : Int) ≤ 0
    rw [fa, hs e he']
    have := z1' e he'
    have := z2' e he'
    omega)
  have a2 := least L1 (x := x) (fun e he => by
    have he' : e < b0.rows.length := he
    rw [inA_flow]
    show l1.getD e 0 + flow b0.rows b0.turns x e - (x e : Int) ≤ 0
    have := z3' e he'
    rw [hs e he'] at this
    have := p2 e
    omega)
  have fx : ∀ e, flow b0.rows b0.turns x e = flow b0.rows b0.turns c1 e + flow b0.rows (turnsC b0.rows b0.turns c1) (fun i => x i - c1 i) e := fun e => by
    rw [← flow_add]
    exact flow_congr (fun i hi => by have := a2 i hi; omega) e
  have a3 := least L2 (x := fun i => x i - c1 i) (fun e he => by
    have he' : e < b0.rows.length := by rw [← rA']; exact he
    rw [inA_flow]
    show l2.getD e 0 + flow (iterR N1 (withL b0 l1)).rows (iterR N1 (withL b0 l1)).turns (fun i => x i - c1 i) e - ((x e - c1 e : Nat) : Int) ≤ 0
    rw [eT, rA']
    have h3' := z3' e he'
    rw [hs e he', fx] at h3'
    have := z1' e he'
    have := a2 e he'
    omega)
  have hc : ∀ i, i < b0.rows.length → c1 i + c2 i = x i := fun i hi => by
    have b1 := a1 i hi
    have b2 := a2 i hi
    have b3 := a3 i (by show i < (iterR N1 (withL b0 l1)).rows.length; rw [rA']; exact hi)
    omega
  have eq : iterR N2 (withL (iterR N1 (withL b0 l1)) l2) = iterR N3 (withL b0 l3) := by
    have f2 := laden_nil R2.done (O2.iter N2).1.P
    have f3 := laden_nil R3.done (O3.iter N3).1.P
    have r2 := (O2.iter N2).2.1
    have r3 := (O3.iter N3).2.1
    have r2' : (iterR N2 (withL (iterR N1 (withL b0 l1)) l2)).rows = b0.rows := r2.trans rA'
    have r3' : (iterR N3 (withL b0 l3)).rows = b0.rows := r3
    refine brd_ext (r2'.trans r3'.symm) ?_ ?_ ?_ ?_
    · rw [e2, e3]
      show turnsC (iterR N1 (withL b0 l1)).rows (iterR N1 (withL b0 l1)).turns c2 = turnsC b0.rows b0.turns x
      rw [rA', eT, turnsC_add]
      exact turnsC_congr hc
    · rw [f2, f3, (O2.iter N2).1.L, (O3.iter N3).1.L, r2', r3']
    · rw [e2, e3]
      show (List.range (iterR N1 (withL b0 l1)).rows.length).map _ = (List.range b0.rows.length).map _
      rw [rA']
      refine List.map_congr_left fun i hi => ?_
      have hi' := List.mem_range.mp hi
      show (iterR N1 (withL b0 l1)).steps.getD i 0 + (c2 i : Int) = b0.steps.getD i 0 + (x i : Int)
      have : (iterR N1 (withL b0 l1)).steps.getD i 0 = b0.steps.getD i 0 + (c1 i : Int) := by rw [e1]; exact range_get hi'
      rw [this, ← hc i hi']
      omega
    · rw [e2, e3]
      show (iterR N1 (withL b0 l1)).taken + inA (withL (iterR N1 (withL b0 l1)) l2) c2 (-1) = b0.taken + inA (withL b0 l3) x (-1)
      rw [inA_flow, inA_flow]
      show (iterR N1 (withL b0 l1)).taken + flow (iterR N1 (withL b0 l1)).rows (iterR N1 (withL b0 l1)).turns c2 (-1) = b0.taken + flow b0.rows b0.turns x (-1)
      have : (iterR N1 (withL b0 l1)).taken = b0.taken + flow b0.rows b0.turns c1 (-1) := by rw [e1]; show b0.taken + inA (withL b0 l1) c1 (-1) = _; rw [inA_flow]; rfl
      rw [this, eT, rA', ← flow_congr hc, fa]
      omega
  refine ⟨eq, ?_⟩
  have t1 := iter_steps O1 R1 N1 (Nat.le_refl _)
  have t2 := iter_steps O2 R2 N2 (Nat.le_refl _)
  have t3 := iter_steps O3 R3 N3 (Nat.le_refl _)
  rw [eq] at t2
  have t1' : (iterR N1 (withL b0 l1)).steps.sum = b0.steps.sum + N1 := t1
  have t2' : (iterR N3 (withL b0 l3)).steps.sum = (iterR N1 (withL b0 l1)).steps.sum + N2 := t2
  have t3' : (iterR N3 (withL b0 l3)).steps.sum = b0.steps.sum + N3 := t3
  omega
theorem sumN_rev : ∀ (n : Nat) (f : Nat → Int), sumN n f = sumN n fun i => f (n - 1 - i)
  | 0, _ => rfl
  | n + 1, f => by
    rw [sumN_head (fun i => f (n + 1 - 1 - i)), sumN, sumN_rev n f, Int.add_comm]
    congr 1
    exact sumN_congr n fun i hi => by rw [show n + 1 - 1 - (i + 1) = n - 1 - i by omega]
structure Chn (ls : List Nat) (rows : List (List Int)) (π : Nat → Nat) : Prop where
  n : rows.length = ls.length
  p1 : ∀ i, i < rows.length → 1 ≤ ls.getD i 0
  b : ∀ i, i < rows.length → π i < rows.length
  inv : ∀ i, i < rows.length → π (π i) = i
  re : ∀ f : Nat → Int, sumN rows.length f = sumN rows.length fun i => f (π i)
  len : ∀ i, i < rows.length → (rows.getD (π i) []).length = ls.getD i 0
  cnt : ∀ i, i < rows.length → ∀ j, j < rows.length → (rows.getD (π i) []).count ((π j : Nat) : Int) = if j + 1 = i then 1 else 0
theorem Chn.sum {ls : List Nat} {rows : List (List Int)} {π : Nat → Nat} (C : Chn ls rows π) (k : Nat → Int) {j : Nat} (hj : j < rows.length) : (sumN rows.length fun p => k p * grd (rows.getD p []) p (π j)) = k (π j) * (ls.getD j 0 : Int) - if j + 1 < rows.length then k (π (j + 1)) else 0 := by
  rw [lat_sum _ (C.b j hj), C.len j hj]
  congr 1
  rw [C.re]
  have e : ∀ i, i < rows.length → k (π i) * (((rows.getD (π i) []).count ((π j : Nat) : Int) : Nat) : Int) = if j + 1 = i then k (π i) else 0 := fun i hi => by
    rw [C.cnt i hi j hj]
    split <;> simp
  rw [sumN_congr _ e]
  by_cases h : j + 1 < rows.length
  · rw [if_pos h, sumN_pick h (fun i => k (π i))]
  · rw [if_neg h, sumN_congr (g := fun _ => 0) _ fun i hi => if_neg (by omega), sumN_zero]
theorem Chn.lat {ls : List Nat} {rows : List (List Int)} {π : Nat → Nat} (C : Chn ls rows π) {s : Nat} (hs : s < rows.length) (m : Int) (k : Nat → Int) : Lat rows (π s) m k ↔ ∀ j, j < rows.length → (if j = s then m else 0) = k (π j) * (ls.getD j 0 : Int) - if j + 1 < rows.length then k (π (j + 1)) else 0 := by
  have pe : ∀ j, j < rows.length → (π j = π s ↔ j = s) := fun j hj => ⟨fun h => by rw [← C.inv j hj, h, C.inv s hs], fun h => by rw [h]⟩
  constructor
  · intro L j hj
    have := L (π j) (C.b j hj)
    rw [C.sum k hj] at this
    rw [← this]
    by_cases e : j = s
    · rw [if_pos e, if_pos ((pe j hj).mpr e)]
    · rw [if_neg e, if_neg fun z => e ((pe j hj).mp z)]
  · intro h j hj
    have h1 := h (π j) (C.b j hj)
    rw [← C.sum k (C.b j hj), C.inv j hj] at h1
    rw [← h1]
    by_cases e : j = π s
    · rw [if_pos e, if_pos (by rw [e, C.inv s hs])]
    · rw [if_neg e, if_neg fun z => e (by rw [← z, C.inv j hj])]
theorem prodL_take (ls : List Nat) {i : Nat} (h : i < ls.length) : prodL (ls.take (i + 1)) = prodL (ls.take i) * ls.getD i 0 := by
  have sn : ∀ (l : List Nat) (a : Nat), prodL (l ++ [a]) = prodL l * a := fun l a => by
    induction l with
    | nil => simp [prodL]
    | cons b l ih => rw [List.cons_append, prodL, ih, prodL, Nat.mul_assoc]
  rw [List.take_add_one, List.getElem?_eq_getElem h]
  show prodL (ls.take i ++ [ls[i]]) = _
  rw [sn, List.getD_eq_getElem?_getD, List.getElem?_eq_getElem h]
  rfl
theorem Chn.iff {ls : List Nat} {rows : List (List Int)} {π : Nat → Nat} (C : Chn ls rows π) {s : Nat} (hs : s < rows.length) (m : Nat) : (∃ k : Nat → Nat, Lat rows (π s) m fun i => (k i : Int)) ↔ prodL (ls.take (s + 1)) ∣ m := by
  constructor
  · rintro ⟨k, L⟩
    have h := (C.lat hs m _).mp L
    -- beyond s all are nought
    have hz : ∀ d, ∀ j, j < rows.length → s < j → rows.length - j = d + 1 → k (π j) = 0 := by
      intro d
      induction d with
      | zero =>
        intro j hj hsj hd
        have := h j hj
        rw [if_neg (by omega), if_neg (by omega)] at this
        have h1 := C.p1 j hj
        have h2 : (k (π j) : Int) * (ls.getD j 0 : Int) = 0 := by omega
        rcases Int.mul_eq_zero.mp h2 with z | z <;> omega
      | succ d ih =>
        intro j hj hsj hd
        have h3 := ih (j + 1) (by omega) (by omega) (by omega)
        have := h j hj
        rw [if_neg (by omega), if_pos (by omega), h3] at this
        have h1 := C.p1 j hj
        have h2 : (k (π j) : Int) * (ls.getD j 0 : Int) = 0 := by omega
        rcases Int.mul_eq_zero.mp h2 with z | z <;> omega
    have hu : ∀ j, j ≤ s → (k (π j) : Int) = (k (π 0) : Int) * (prodL (ls.take j) : Int) := by
      intro j
      induction j with
      | zero => intro _; simp [prodL]
      | succ j ih =>
        intro hj
        have := h j (by omega)
        rw [if_neg (by omega), if_pos (by omega)] at this
        have h2 := ih (by omega)
        rw [prodL_take ls (by rw [← C.n]; omega), Int.natCast_mul, ← Int.mul_assoc, ← h2]
        omega
    have hS := h s hs
    rw [if_pos rfl] at hS
    have h4 : (if s + 1 < rows.length then ((k (π (s + 1)) : Nat) : Int) else 0) = 0 := by
      by_cases q : s + 1 < rows.length
      · rw [if_pos q, hz (rows.length - (s + 1) - 1) (s + 1) q (by omega) (by omega)]
        rfl
      · rw [if_neg q]
    rw [h4, hu s (Nat.le_refl _)] at hS
    refine ⟨k (π 0), ?_⟩
    rw [prodL_take ls (by rw [← C.n]; exact hs)]
    have : ((prodL (ls.take s) * ls.getD s 0 * k (π 0) : Nat) : Int) = (m : Int) := by
      rw [hS]
      simp
      grind
    omega
  · rintro ⟨c, rfl⟩
    refine ⟨fun q => if π q ≤ s ∧ q < rows.length then c * prodL (ls.take (π q)) else 0, (C.lat hs _ _).mpr fun j hj => ?_⟩
    have hb := C.b j hj
    dsimp only
    rw [C.inv j hj]
    have hn : j < ls.length := by rw [← C.n]; exact hj
    by_cases h2 : j = s
    · subst h2
      have h4 : (if j + 1 < rows.length then (((if π (π (j + 1)) ≤ j ∧ π (j + 1) < rows.length then c * prodL (ls.take (π (π (j + 1)))) else 0 : Nat)) : Int) else 0) = 0 := by
        by_cases q : j + 1 < rows.length
        · rw [if_pos q, C.inv _ q, if_neg (by omega)]
          rfl
        · rw [if_neg q]
      rw [if_pos rfl, if_pos ⟨Nat.le_refl _, hb⟩, h4, prodL_take ls hn]
      simp
      grind
    · by_cases h1 : j ≤ s
      · rw [if_neg h2, if_pos ⟨h1, hb⟩, if_pos (by omega), C.inv (j + 1) (by omega), if_pos ⟨by omega, C.b _ (by omega)⟩, prodL_take ls hn]
        simp
        grind
      · rw [if_neg h2, if_neg (by omega)]
        by_cases q : j + 1 < rows.length
        · rw [if_pos q, C.inv _ q, if_neg (by omega)]
          simp
        · rw [if_neg q]
          simp
theorem prodL_pos : ∀ {l : List Nat}, (∀ x ∈ l, 1 ≤ x) → 1 ≤ prodL l
  | [], _ => by decide
  | a :: l, h => by
    rw [prodL]
    exact Nat.mul_le_mul (h a List.mem_cons_self) (prodL_pos fun x hx => h x (List.mem_cons_of_mem _ hx))
theorem Chn.round {ls : List Nat} {rows : List (List Int)} {π : Nat → Nat} (C : Chn ls rows π) {s : Nat} (hs : s < rows.length) (hD : 1 ≤ treesN rows) : Some rows (π s) ∧ roundN rows (π s) = prodL (ls.take (s + 1)) := by
  have hp : 1 ≤ prodL (ls.take (s + 1)) := prodL_pos fun x hx => by
    obtain ⟨i, hi, rfl⟩ := List.getElem_of_mem (List.mem_of_mem_take hx)
    have := C.p1 i (by rw [C.n]; exact hi)
    rw [List.getD_eq_getElem?_getD, List.getElem?_eq_getElem hi] at this
    exact this
  have S : Some rows (π s) := ⟨hD, C.b s hs, by
    obtain ⟨k, L⟩ := (C.iff hs (prodL (ls.take (s + 1)))).mpr (Nat.dvd_refl _)
    exact ⟨_, k, hp, L⟩⟩
  refine ⟨S, Nat.dvd_antisymm ?_ ?_⟩
  · exact (S.round _).mpr ((C.iff hs _).mpr (Nat.dvd_refl _))
  · exact (C.iff hs _).mp ((S.round _).mp (Nat.dvd_refl _))
/-- rows that lead to lesser ranks -/
theorem trees_rk {rows : List (List Int)} (rk : Nat → Nat) (h : ∀ i, i < rows.length → 1 ≤ (rows.getD i []).length ∧ ∀ e ∈ rows.getD i [], e = -1 ∨ 0 ≤ e ∧ e < (rows.length : Int) ∧ rk e.toNat < rk i) : treesN rows = (prodL (lensN rows) : Int) := by
  rw [trees_nest fun i hi => (h i hi).1, ← nest_one]
  refine nest_congr _ _ _ fun c hc hd => ?_
  have hl : (lensN rows).length = rows.length := by simp [lensN]
  rw [hl] at hc hd
  refine TreeR.one (rk := rk) rows.length _ ⟨fun i hi => ?_⟩ fun i hi => .inr hi
  obtain ⟨h1, h2⟩ := h i hi
  have hd' := hd i hi
  rw [lens_get] at hd'
  have hm : gOf rows c i ∈ rows.getD i [] := by
    unfold gOf
    generalize rows.getD i [] = r at h1 hd'
    generalize c.getD i 0 = t at hd'
    match t, hd' with
    | 0, _ =>
      have := lastx_zero h1
      rw [show ((0 : Nat) : Int) = 0 from rfl, this, List.getD_eq_getElem?_getD, List.getElem?_eq_getElem (by omega)]
      exact List.getElem_mem _
    | t + 1, hd' =>
      have := lastx_succ (r := r) (t := t) (by omega)
      rw [show (((t + 1 : Nat)) : Int) = (t : Int) + 1 by omega, this, List.getD_eq_getElem?_getD, List.getElem?_eq_getElem (by omega)]
      exact List.getElem_mem _
  exact h2 _ hm
end Com

set_option Elab.async false
set_option linter.all false
set_option maxRecDepth 100000
set_option maxHeartbeats 4000000
namespace Law
open PySem L2 Com
def top (i : Nat) : Stmt := PySem.Challenge.pw_marblerun_k22_whole_marbles_exchanged.main.body.getD i (.Pass ⟨0, 0, 0, 0⟩)
abbrev s_check_rows : Stmt := top 14
abbrev s_check_row : Stmt := top 15
abbrev s_check_site : Stmt := top 16
abbrev s_Binit : Stmt := inClass (top 17) 0
abbrev s_Bturn_to : Stmt := inClass (top 17) 1
abbrev s_Bload : Stmt := inClass (top 17) 2
abbrev s_Btwin : Stmt := inClass (top 17) 3
abbrev s_Bstand_like : Stmt := inClass (top 17) 4
abbrev s_reached : Stmt := top 19
abbrev s_is_open : Stmt := top 20
abbrev s_check_open : Stmt := top 21
abbrev s_step : Stmt := top 23
abbrev s_loaded : Stmt := top 24
abbrev s_run : Stmt := top 25
abbrev s_grid : Stmt := top 27
abbrev s_grid_row : Stmt := top 28
abbrev s_det : Stmt := top 29
abbrev s_cleared : Stmt := top 30
abbrev s_round_of : Stmt := top 31
abbrev s_with_mark : Stmt := top 32
abbrev s_greatest_divisor : Stmt := top 33
abbrev s_drawn : Stmt := top 35
abbrev s_other : Stmt := top 36
abbrev s_rows_by : Stmt := top 37
abbrev s_turns_by : Stmt := top 38
abbrev s_board : Stmt := top 39
abbrev s_whole : Stmt := top 40
abbrev s_row : Stmt := top 41
abbrev s_stands : Stmt := top 42
abbrev s_run_all : Stmt := top 43
abbrev s_chain : Stmt := top 44
abbrev s_law : Stmt := top 45
set_option genInjectivity false in
set_option genSizeOfSpec false in
structure Adr where
  C : Addr
  f_check_rows : Addr
  fd_check_rows : FuncData
  f_check_row : Addr
  fd_check_row : FuncData
  f_check_site : Addr
  fd_check_site : FuncData
  f_Binit : Addr
  fd_Binit : FuncData
  f_Bturn_to : Addr
  fd_Bturn_to : FuncData
  f_Bload : Addr
  fd_Bload : FuncData
  f_Btwin : Addr
  fd_Btwin : FuncData
  f_Bstand_like : Addr
  fd_Bstand_like : FuncData
  f_reached : Addr
  fd_reached : FuncData
  f_is_open : Addr
  fd_is_open : FuncData
  f_check_open : Addr
  fd_check_open : FuncData
  f_step : Addr
  fd_step : FuncData
  f_loaded : Addr
  fd_loaded : FuncData
  f_run : Addr
  fd_run : FuncData
  f_grid : Addr
  fd_grid : FuncData
  f_grid_row : Addr
  fd_grid_row : FuncData
  f_det : Addr
  fd_det : FuncData
  f_cleared : Addr
  fd_cleared : FuncData
  f_round_of : Addr
  fd_round_of : FuncData
  f_with_mark : Addr
  fd_with_mark : FuncData
  f_greatest_divisor : Addr
  fd_greatest_divisor : FuncData
  f_drawn : Addr
  fd_drawn : FuncData
  f_other : Addr
  fd_other : FuncData
  f_rows_by : Addr
  fd_rows_by : FuncData
  f_turns_by : Addr
  fd_turns_by : FuncData
  f_board : Addr
  fd_board : FuncData
  f_whole : Addr
  fd_whole : FuncData
  f_row : Addr
  fd_row : FuncData
  f_stands : Addr
  fd_stands : FuncData
  f_run_all : Addr
  fd_run_all : FuncData
  f_chain : Addr
  fd_chain : FuncData
  f_law : Addr
  fd_law : FuncData
  t_PIT : Tok
  t_MOST_SITES : Tok
  t_MOST_EXITS : Tok
  t_MOST_MARBLES : Tok
  c_NoSite : Addr
  c_NoPlace : Addr
  c_TooMany : Addr
  c_NoMarble : Addr
  c_NotOpen : Addr
  c_TooLong : Addr
structure Txt (K : PySem.W.Frag) (mg : Str → Option Value) (A : Adr) : Prop where
  F_check_rows : Fun K "check_rows" "check_rows" s_check_rows A.f_check_rows A.fd_check_rows
  m_check_rows : mg "check_rows" = some (.ref A.f_check_rows)
  k_check_rows : PySem.W.keepIn K (.ref A.f_check_rows) = true
  b_check_rows : Binds K A.fd_check_rows ["rows"] []
  F_check_row : Fun K "check_row" "check_row" s_check_row A.f_check_row A.fd_check_row
  m_check_row : mg "check_row" = some (.ref A.f_check_row)
  k_check_row : PySem.W.keepIn K (.ref A.f_check_row) = true
  b_check_row : Binds K A.fd_check_row ["row", "sites"] []
  F_check_site : Fun K "check_site" "check_site" s_check_site A.f_check_site A.fd_check_site
  m_check_site : mg "check_site" = some (.ref A.f_check_site)
  k_check_site : PySem.W.keepIn K (.ref A.f_check_site) = true
  b_check_site : Binds K A.fd_check_site ["board", "at"] []
  F_Binit : Fun K "__init__" "Board.__init__" s_Binit A.f_Binit A.fd_Binit
  mk_Board : Mk K A.C A.f_Binit
  bi_Board : Binds K A.fd_Binit ["self", "rows"] []
  F_Bturn_to : Fun K "turn_to" "Board.turn_to" s_Bturn_to A.f_Bturn_to A.fd_Bturn_to
  mt_turn_to : Meth K A.C "turn_to" A.f_Bturn_to
  bm_turn_to : Binds K A.fd_Bturn_to ["self", "at", "place"] []
  F_Bload : Fun K "load" "Board.load" s_Bload A.f_Bload A.fd_Bload
  mt_load : Meth K A.C "load" A.f_Bload
  bm_load : Binds K A.fd_Bload ["self", "at", "many"] []
  F_Btwin : Fun K "twin" "Board.twin" s_Btwin A.f_Btwin A.fd_Btwin
  mt_twin : Meth K A.C "twin" A.f_Btwin
  bm_twin : Binds K A.fd_Btwin ["self"] []
  F_Bstand_like : Fun K "stand_like" "Board.stand_like" s_Bstand_like A.f_Bstand_like A.fd_Bstand_like
  mt_stand_like : Meth K A.C "stand_like" A.f_Bstand_like
  bm_stand_like : Binds K A.fd_Bstand_like ["self", "other"] []
  F_reached : Fun K "reached" "reached" s_reached A.f_reached A.fd_reached
  m_reached : mg "reached" = some (.ref A.f_reached)
  k_reached : PySem.W.keepIn K (.ref A.f_reached) = true
  b_reached : Binds K A.fd_reached ["rows"] []
  F_is_open : Fun K "is_open" "is_open" s_is_open A.f_is_open A.fd_is_open
  m_is_open : mg "is_open" = some (.ref A.f_is_open)
  k_is_open : PySem.W.keepIn K (.ref A.f_is_open) = true
  b_is_open : Binds K A.fd_is_open ["board"] []
  F_check_open : Fun K "check_open" "check_open" s_check_open A.f_check_open A.fd_check_open
  m_check_open : mg "check_open" = some (.ref A.f_check_open)
  k_check_open : PySem.W.keepIn K (.ref A.f_check_open) = true
  b_check_open : Binds K A.fd_check_open ["board"] []
  F_step : Fun K "step" "step" s_step A.f_step A.fd_step
  m_step : mg "step" = some (.ref A.f_step)
  k_step : PySem.W.keepIn K (.ref A.f_step) = true
  b_step : Binds K A.fd_step ["board", "at"] []
  F_loaded : Fun K "loaded" "loaded" s_loaded A.f_loaded A.fd_loaded
  m_loaded : mg "loaded" = some (.ref A.f_loaded)
  k_loaded : PySem.W.keepIn K (.ref A.f_loaded) = true
  b_loaded : Binds K A.fd_loaded ["board"] []
  F_run : Fun K "run" "run" s_run A.f_run A.fd_run
  m_run : mg "run" = some (.ref A.f_run)
  k_run : PySem.W.keepIn K (.ref A.f_run) = true
  b_run : Binds K A.fd_run ["board", "most"] []
  F_grid : Fun K "grid" "grid" s_grid A.f_grid A.fd_grid
  m_grid : mg "grid" = some (.ref A.f_grid)
  k_grid : PySem.W.keepIn K (.ref A.f_grid) = true
  b_grid : Binds K A.fd_grid ["board"] []
  F_grid_row : Fun K "grid_row" "grid_row" s_grid_row A.f_grid_row A.fd_grid_row
  m_grid_row : mg "grid_row" = some (.ref A.f_grid_row)
  k_grid_row : PySem.W.keepIn K (.ref A.f_grid_row) = true
  b_grid_row : Binds K A.fd_grid_row ["board", "at"] []
  F_det : Fun K "det" "det" s_det A.f_det A.fd_det
  m_det : mg "det" = some (.ref A.f_det)
  k_det : PySem.W.keepIn K (.ref A.f_det) = true
  b_det : Binds K A.fd_det ["square"] []
  F_cleared : Fun K "cleared" "cleared" s_cleared A.f_cleared A.fd_cleared
  m_cleared : mg "cleared" = some (.ref A.f_cleared)
  k_cleared : PySem.W.keepIn K (.ref A.f_cleared) = true
  b_cleared : Binds K A.fd_cleared ["row", "top", "lead"] []
  F_round_of : Fun K "round_of" "round_of" s_round_of A.f_round_of A.fd_round_of
  m_round_of : mg "round_of" = some (.ref A.f_round_of)
  k_round_of : PySem.W.keepIn K (.ref A.f_round_of) = true
  b_round_of : Binds K A.fd_round_of ["board", "at"] []
  F_with_mark : Fun K "with_mark" "with_mark" s_with_mark A.f_with_mark A.fd_with_mark
  m_with_mark : mg "with_mark" = some (.ref A.f_with_mark)
  k_with_mark : PySem.W.keepIn K (.ref A.f_with_mark) = true
  b_with_mark : Binds K A.fd_with_mark ["square", "place", "at"] []
  F_greatest_divisor : Fun K "greatest_divisor" "greatest_divisor" s_greatest_divisor A.f_greatest_divisor A.fd_greatest_divisor
  m_greatest_divisor : mg "greatest_divisor" = some (.ref A.f_greatest_divisor)
  k_greatest_divisor : PySem.W.keepIn K (.ref A.f_greatest_divisor) = true
  b_greatest_divisor : Binds K A.fd_greatest_divisor ["one", "other"] []
  F_drawn : Fun K "_law_drawn" "_law_drawn" s_drawn A.f_drawn A.fd_drawn
  m__law_drawn : mg "_law_drawn" = some (.ref A.f_drawn)
  k__law_drawn : PySem.W.keepIn K (.ref A.f_drawn) = true
  b__law_drawn : Binds K A.fd_drawn ["script", "k", "many"] []
  F_other : Fun K "_law_other" "_law_other" s_other A.f_other A.fd_other
  m__law_other : mg "_law_other" = some (.ref A.f_other)
  k__law_other : PySem.W.keepIn K (.ref A.f_other) = true
  b__law_other : Binds K A.fd_other ["gone", "many"] []
  F_rows_by : Fun K "_law_rows_by" "_law_rows_by" s_rows_by A.f_rows_by A.fd_rows_by
  m__law_rows_by : mg "_law_rows_by" = some (.ref A.f_rows_by)
  k__law_rows_by : PySem.W.keepIn K (.ref A.f_rows_by) = true
  b__law_rows_by : Binds K A.fd_rows_by ["script"] []
  F_turns_by : Fun K "_law_turns_by" "_law_turns_by" s_turns_by A.f_turns_by A.fd_turns_by
  m__law_turns_by : mg "_law_turns_by" = some (.ref A.f_turns_by)
  k__law_turns_by : PySem.W.keepIn K (.ref A.f_turns_by) = true
  b__law_turns_by : Binds K A.fd_turns_by ["script", "rows"] []
  F_board : Fun K "_law_board" "_law_board" s_board A.f_board A.fd_board
  m__law_board : mg "_law_board" = some (.ref A.f_board)
  k__law_board : PySem.W.keepIn K (.ref A.f_board) = true
  b__law_board : Binds K A.fd_board ["rows", "turns", "loads"] []
  F_whole : Fun K "_law_whole" "_law_whole" s_whole A.f_whole A.fd_whole
  m__law_whole : mg "_law_whole" = some (.ref A.f_whole)
  k__law_whole : PySem.W.keepIn K (.ref A.f_whole) = true
  b__law_whole : Binds K A.fd_whole ["found"] []
  F_row : Fun K "_law_row" "_law_row" s_row A.f_row A.fd_row
  m__law_row : mg "_law_row" = some (.ref A.f_row)
  k__law_row : PySem.W.keepIn K (.ref A.f_row) = true
  b__law_row : Binds K A.fd_row ["found", "due"] []
  F_stands : Fun K "_law_stands" "_law_stands" s_stands A.f_stands A.fd_stands
  m__law_stands : mg "_law_stands" = some (.ref A.f_stands)
  k__law_stands : PySem.W.keepIn K (.ref A.f_stands) = true
  b__law_stands : Binds K A.fd_stands ["board", "rows", "turns", "lying", "counts"] []
  F_run_all : Fun K "_law_run_all" "_law_run_all" s_run_all A.f_run_all A.fd_run_all
  m__law_run_all : mg "_law_run_all" = some (.ref A.f_run_all)
  k__law_run_all : PySem.W.keepIn K (.ref A.f_run_all) = true
  b__law_run_all : Binds K A.fd_run_all ["board", "sites"] []
  F_chain : Fun K "_law_chain" "_law_chain" s_chain A.f_chain A.fd_chain
  m__law_chain : mg "_law_chain" = some (.ref A.f_chain)
  k__law_chain : PySem.W.keepIn K (.ref A.f_chain) = true
  b__law_chain : Binds K A.fd_chain ["script"] []
  F_law : Fun K "law" "law" s_law A.f_law A.fd_law
  m_law : mg "law" = some (.ref A.f_law)
  k_law : PySem.W.keepIn K (.ref A.f_law) = true
  b_law : Binds K A.fd_law ["script"] []
  m_Board : mg "Board" = some (.ref A.C)
  cl_Board : Cls K A.C
  na_rows : NoAttr K A.C "rows"
  na_turns : NoAttr K A.C "turns"
  na_loads : NoAttr K A.C "loads"
  na_steps : NoAttr K A.C "steps"
  na_taken : NoAttr K A.C "taken"
  n_len : mg "len" = none
  n_range : mg "range" = none
  n_isinstance : mg "isinstance" = none
  n_int : mg "int" = none
  n_bool : mg "bool" = none
  n_list : mg "list" = none
  n_reversed : mg "reversed" = none
  n_sum : mg "sum" = none
  n_all : mg "all" = none
  n_any : mg "any" = none
  n_enumerate : mg "enumerate" = none
  g_PIT : mg "PIT" = some (.int (-1) A.t_PIT)
  g_MOST_SITES : mg "MOST_SITES" = some (.int (12) A.t_MOST_SITES)
  g_MOST_EXITS : mg "MOST_EXITS" = some (.int (8) A.t_MOST_EXITS)
  g_MOST_MARBLES : mg "MOST_MARBLES" = some (.int (400) A.t_MOST_MARBLES)
  m_NoSite : mg "NoSite" = some (.ref A.c_NoSite)
  x_NoSite : XCls K A.c_NoSite
  kb_NoSite : PySem.W.kitOne K (.ref A.c_NoSite) (.type "BaseException") = some true
  m_NoPlace : mg "NoPlace" = some (.ref A.c_NoPlace)
  x_NoPlace : XCls K A.c_NoPlace
  kb_NoPlace : PySem.W.kitOne K (.ref A.c_NoPlace) (.type "BaseException") = some true
  m_TooMany : mg "TooMany" = some (.ref A.c_TooMany)
  x_TooMany : XCls K A.c_TooMany
  kb_TooMany : PySem.W.kitOne K (.ref A.c_TooMany) (.type "BaseException") = some true
  m_NoMarble : mg "NoMarble" = some (.ref A.c_NoMarble)
  x_NoMarble : XCls K A.c_NoMarble
  kb_NoMarble : PySem.W.kitOne K (.ref A.c_NoMarble) (.type "BaseException") = some true
  m_NotOpen : mg "NotOpen" = some (.ref A.c_NotOpen)
  x_NotOpen : XCls K A.c_NotOpen
  kb_NotOpen : PySem.W.kitOne K (.ref A.c_NotOpen) (.type "BaseException") = some true
  m_TooLong : mg "TooLong" = some (.ref A.c_TooLong)
  x_TooLong : XCls K A.c_TooLong
  kb_TooLong : PySem.W.kitOne K (.ref A.c_TooLong) (.type "BaseException") = some true
  q_int_bool : PySem.W.kitOne K (.type "int") (.type "bool") = some false

def spDrawn (K : PySem.W.Frag) : Sp := fun vs H Q _ => ∃ (a : Addr) (ns : List Int) (k many : Int), vs = [.ref a, .int k, .int many] ∧ SqL K H a (ns.map V.int) ∧ 0 < many ∧ -(2 ^ 62) < k ∧ k < 2 ^ 62 ∧ Q (.int (drawn ns k many)) H
def oth (many g : Int) : Int := if g < 0 then g else many - 1 - g
def spOther : Sp := fun vs H Q _ => ∃ (g many : Int), vs = [.int g, .int many] ∧ Q (.int (oth many g)) H
theorem at_ints {ns : List Int} {i : Int} (h0 : 0 ≤ i) (h1 : i < (ns.length : Int)) : atI (ns.map V.int) i = some (V.int (ns.getD i.toNat 0)) := by
  obtain ⟨n, rfl⟩ : ∃ n : Nat, i = (n : Int) := ⟨i.toNat, by omega⟩
  have hl : n < ns.length := by omega
  refine atI_nat ?_
  rw [List.getElem?_map, List.getElem?_eq_getElem hl]
  simp [List.getElem?_eq_getElem hl]
theorem at_list {α : Type} {xs : List α} {i : Int} {n : Nat} {x : α} (h0 : i = (n : Int)) (h1 : xs[n]? = some x) : atI xs i = some x := by rw [h0]; exact atI_nat h1
theorem ixN_in {n : Nat} {i : Int} (h0 : 0 ≤ i) (h1 : i < (n : Int)) : ixN n i = some i.toNat := by
  unfold ixN
  rw [if_pos h0, if_pos h1]
theorem kb10 {i : Nat} (h : i < 100) : -(2 ^ 62 : Int) < 10 + 20 * (0 + (i : Int)) ∧ 10 + 20 * (0 + (i : Int)) < 2 ^ 62 := by omega
theorem kb11 {i : Nat} (h : i < 100) : -(2 ^ 62 : Int) < 10 + 20 * (0 + (i : Int)) + 1 ∧ 10 + 20 * (0 + (i : Int)) + 1 < 2 ^ 62 := by omega
theorem kb12 {i : Nat} (h : i < 100) : -(2 ^ 62 : Int) < 10 + 20 * (0 + (i : Int)) + 2 ∧ 10 + 20 * (0 + (i : Int)) + 2 < 2 ^ 62 := by omega
theorem kb13 {i j : Nat} (h : i < 100) (h2 : j < 100) : -(2 ^ 62 : Int) < 10 + 20 * (0 + (i : Int)) + 3 + (0 + (j : Int)) ∧ 10 + 20 * (0 + (i : Int)) + 3 + (0 + (j : Int)) < 2 ^ 62 := by omega
theorem kbc {c : Int} {i : Nat} (h : i < 100) (hc : 0 ≤ c ∧ c ≤ 10000) : -(2 ^ 62 : Int) < c + (0 + (i : Int)) ∧ c + (0 + (i : Int)) < 2 ^ 62 := by omega
theorem ps1 {m : Int} (h : 1 ≤ m) : 0 < m := Int.lt_of_lt_of_le Int.zero_lt_one h
theorem psi {i : Nat} : (0 : Int) < 0 + (i : Int) + 1 := by omega
theorem psl {n : Nat} : (0 : Int) < (n : Int) + 1 := by omega
theorem small12 {n : Nat} (h : n ≤ 100) : n ≤ sizeLine := Nat.le_of_lt (small1000 (by omega))

def spCheckRow (K : PySem.W.Frag) : Sp := fun vs H Q _ => ∃ (a : Addr) (r : List Int) (n : Nat), vs = [.ref a, .int (n : Int)] ∧ SqL K H a (r.map V.int) ∧ RowOk n r ∧ Q .non H
def spCheckRows : Sp := fun vs H Q _ => ∃ (a : Addr) (as : List Addr) (rows : List (List Int)), vs = [.ref a] ∧ Mat H a as rows ∧ Wf rows ∧ Q .non H
def newB (rows : List (List Int)) : Brd := ⟨rows, List.replicate rows.length 0, List.replicate rows.length 0, List.replicate rows.length 0, 0⟩
def spInit (C : Addr) : Sp := fun vs H Q _ => ∃ (p dx aH : Addr) (asH : List Addr) (rows : List (List Int)), vs = [.ref p, .ref aH] ∧ H p = some (.ins C dx []) ∧ Mat H aH asH rows ∧ Wf rows ∧
  ∀ (aR : Addr) (as : List Addr) (aT aL aS : Addr) (H' : Hp), BoardAt C H' p dx aR as aT aL aS (newB rows) → (∀ b o, H b = some o → b ≠ p → H' b = some o) → (∀ b ∈ aT :: aL :: aS :: aR :: as, H b = none) → Q .non H'

def spWhole : Sp := fun vs H Q _ => ∃ i : Int, vs = [.int i] ∧ Q (.bl true) H
def spRow (K : PySem.W.Frag) : Sp := fun vs H Q _ => ∃ (a b : Addr) (xs : List Int), vs = [.ref a, .ref b] ∧ H a = some (.lst (xs.map V.int)) ∧ SqL K H b (xs.map V.int) ∧ xs.length ≤ 1000 ∧ Q (.bl true) H
def spStands (K : PySem.W.Frag) (C : Addr) : Sp := fun vs H Q _ => ∃ (p dx aR : Addr) (as : List Addr) (aT aL aS : Addr) (b : Brd) (R : Addr) (asR : List Addr) (tA lA cA : Addr), vs = [.ref p, .ref R, .ref tA, .ref lA, .ref cA] ∧ BoardAt C H p dx aR as aT aL aS b ∧ Mat H R asR b.rows ∧
  SqL K H tA (b.turns.map V.int) ∧ SqL K H lA ((b.loads ++ [b.taken]).map V.int) ∧ SqL K H cA (b.steps.map V.int) ∧ b.rows.length ≤ 100 ∧ (∀ r ∈ b.rows, r.length ≤ 100) ∧ b.turns.length ≤ 100 ∧ b.loads.length ≤ 100 ∧ b.steps.length ≤ 100 ∧ ∀ H', Same H H' → Q (.bl true) H'
theorem cut_last (xs : List Int) (z : Int) : cutV ((xs ++ [z]).map V.int) none (some (-1)) = xs.map V.int := by
  have e : HT.sIx ((xs ++ [z]).map V.int).length ((xs ++ [z]).map V.int).length (some (-1)) = xs.length := by
    simp only [List.length_map, List.length_append, List.length_singleton]
    unfold HT.sIx
    simp
    try omega
  unfold cutV
  rw [e, HT.sIx_none]
  simp
theorem at_last_int (xs : List Int) (z : Int) : atI ((xs ++ [z]).map V.int) (-1) = some (V.int z) := by
  rw [List.map_append]
  exact atI_last _ _

theorem rowok_new {n : Nat} {ns : List Int} {sz : Int} {top many : Int} (h1 : 1 ≤ sz) (h8 : sz ≤ 8) (ht : 1 ≤ top) (htm : top ≤ many + 1) (hn : (n : Int) = many) (c : Int → Int) {e : Int} {i : Nat} (he : -1 ≤ e ∧ e < many) :
    RowOk n (((List.range sz.toNat).map fun (j : Nat) => drawn ns (c j) top - 1).set i e) := by
  refine ⟨by simp; omega, by simp; omega, fun x hx => ?_⟩
  rcases List.mem_or_eq_of_mem_set hx with h | h
  · obtain ⟨j, _, rfl⟩ := List.mem_map.mp h
    have a1 := drawn_nn ns (c j) (many := top) (by omega)
    have a2 := drawn_lt ns (c j) (many := top) (by omega)
    omega
  · rw [h, hn]
    exact he
theorem rowok_ins {n : Nat} {r : List Int} {k : Nat} {e : Int} (h : RowOk n r) (h8 : r.length < 8) (he : -1 ≤ e ∧ e < (n : Int)) : RowOk n (r.take k ++ e :: r.drop k) := by
  obtain ⟨h1, h2, h3⟩ := h
  have hl : (r.take k ++ e :: r.drop k).length = r.length + 1 := by
    simp only [List.length_append, List.length_take, List.length_cons, List.length_drop]
    omega
  refine ⟨by omega, by omega, fun x hx => ?_⟩
  rcases List.mem_append.mp hx with z | z
  · exact h3 x (List.mem_of_mem_take z)
  · rcases List.mem_cons.mp z with z | z
    · rw [z]; exact he
    · exact h3 x (List.mem_of_mem_drop z)
theorem rowok_oth {n : Nat} {r : List Int} {many : Int} (h : RowOk n r) (hn : (n : Int) = many) : RowOk n (r.map (oth many)) := by
  obtain ⟨h1, h2, h3⟩ := h
  refine ⟨by simpa using h1, by simpa using h2, fun x hx => ?_⟩
  obtain ⟨y, hy, rfl⟩ := List.mem_map.mp hx
  have := h3 y hy
  unfold oth
  split <;> omega
theorem map_set_int {r : List Int} {i : Nat} {e : Int} : (r.map V.int).set i (.int e) = (r.set i e).map V.int := by rw [List.map_set]
theorem map_ins_int {r : List Int} {k : Nat} {e : Int} : (r.map V.int).take k ++ V.int e :: (r.map V.int).drop k = (r.take k ++ e :: r.drop k).map V.int := by
  rw [List.map_append, List.map_cons, List.map_take, List.map_drop]
theorem mat_of {H H' : Hp} {R : Addr} {as : List Addr} {rows : List (List Int)} (hlen : as.length = rows.length) (nd : as.Nodup) (sm : Same H H') (hrow : ∀ (i : Nat) a l, as[i]? = some a → (rows.map fun r => r.map V.int)[i]? = some l → H' a = some (.lst l)) (hR : H' R = none) : Mat (upd H' R (.lst (as.map V.ref))) R as rows := by
  have look : ∀ (i : Nat) a r, as[i]? = some a → rows[i]? = some r → H' a = some (.lst (r.map V.int)) := fun i a r e1 e2 => hrow i a _ e1 (by rw [List.getElem?_map, e2]; rfl)
  have nR : R ∉ as := fun z => by
    obtain ⟨i, hi, e⟩ := List.getElem_of_mem z
    have hi2 : i < rows.length := by omega
    have := look i R rows[i] (by rw [List.getElem?_eq_getElem hi, e]) (List.getElem?_eq_getElem hi2)
    rw [hR] at this
    cases this
  refine ⟨upd_same, hlen, fun i a r e1 e2 => ?_, List.nodup_cons.mpr ⟨nR, nd⟩⟩
  rw [upd_ne (fun z => nR (by rw [← z]; exact List.mem_of_getElem? e1))]
  exact look i a r e1 e2

def spLaw (K : PySem.W.Frag) : Sp := fun vs H Q _ => ∃ (a : Addr) (ns : List Int), vs = [.ref a] ∧ SqL K H a (ns.map V.int) ∧ ns.length ≤ 63 ∧ ∀ H', Q (.bl true) H'
theorem made_same {H H' : Hp} {p dx C : Addr} (hp : H p = none) (hdx : H dx = none) (k : ∀ b o, (upd (upd H dx (.own p)) p (.ins C dx [])) b = some o → b ≠ p → H' b = some o) : Same H H' := fun b o e =>
  k b o (by rw [upd_ne (ne_of_none e hp), upd_ne (ne_of_none e hdx)]; exact e) (ne_of_none e hp)
theorem made_none {H : Hp} {p dx C b : Addr} (h : (upd (upd H dx (.own p)) p (.ins C dx [])) b = none) : H b = none := by
  by_cases h1 : b = p
  · rw [h1, upd_same] at h; cases h
  · rw [upd_ne h1] at h
    by_cases h2 : b = dx
    · rw [h2, upd_same] at h; cases h
    · rw [upd_ne h2] at h; exact h
theorem log2_small {z : Int} (h1 : -(2 ^ 62) < z) (h2 : z < 2 ^ 62) : z.natAbs.log2 < 1920 := by
  by_cases h0 : z.natAbs = 0
  · rw [h0]; decide
  · have h3 : z.natAbs < 2 ^ 62 := by omega
    have h4 := (Nat.log2_lt h0).mpr h3
    omega
def spSite (C Cn : Addr) : Sp := fun vs H Q E => ∃ (p dx aR : Addr) (as : List Addr) (aT aL aS : Addr) (b : Brd) (z : Int), vs = [.ref p, .int z] ∧ BoardAt C H p dx aR as aT aL aS b ∧ -(2 ^ 62) < z ∧ z < 2 ^ 62 ∧
  (0 ≤ z ∧ z < (b.rows.length : Int) → Q .non H) ∧ (¬ (0 ≤ z ∧ z < (b.rows.length : Int)) → E (.ref Cn) none H)
def spTurn (C Cn Cp : Addr) : Sp := fun vs H Q E => ∃ (p dx aR : Addr) (as : List Addr) (aT aL aS : Addr) (b : Brd) (z y : Int), vs = [.ref p, .int z, .int y] ∧ BoardAt C H p dx aR as aT aL aS b ∧ b.turns.length = b.rows.length ∧ -(2 ^ 62) < z ∧ z < 2 ^ 62 ∧ -(2 ^ 62) < y ∧ y < 2 ^ 62 ∧
  (¬ (0 ≤ z ∧ z < (b.rows.length : Int)) → E (.ref Cn) none H) ∧
  (0 ≤ z ∧ z < (b.rows.length : Int) → ¬ (0 ≤ y ∧ y < ((b.rows.getD z.toNat []).length : Int)) → E (.ref Cp) none H) ∧
  (0 ≤ z ∧ z < (b.rows.length : Int) → 0 ≤ y ∧ y < ((b.rows.getD z.toNat []).length : Int) → Q .non (upd H aT (.lst ((b.turns.set z.toNat y).map V.int))))
def spLoad (C Cn Cm : Addr) : Sp := fun vs H Q E => ∃ (p dx aR : Addr) (as : List Addr) (aT aL aS : Addr) (b : Brd) (z y : Int), vs = [.ref p, .int z, .int y] ∧ BoardAt C H p dx aR as aT aL aS b ∧ b.loads.length = b.rows.length ∧ -(2 ^ 62) < z ∧ z < 2 ^ 62 ∧
  (¬ (0 ≤ z ∧ z < (b.rows.length : Int)) → E (.ref Cn) none H) ∧
  (0 ≤ z ∧ z < (b.rows.length : Int) → 400 < b.loads.sum + y → E (.ref Cm) none H) ∧
  (0 ≤ z ∧ z < (b.rows.length : Int) → b.loads.sum + y ≤ 400 → Q .non (upd H aL (.lst ((b.loads.set z.toNat (b.loads.getD z.toNat 0 + y)).map V.int))))
theorem _root_.Com.BoardAt.setT {C : Addr} {H : Hp} {p dx aR : Addr} {as : List Addr} {aT aL aS : Addr} {b : Brd} (B : BoardAt C H p dx aR as aT aL aS b) (ts : List Int) : BoardAt C (upd H aT (.lst (ts.map V.int))) p dx aR as aT aL aS { b with turns := ts } := by
  have n := B.nd
  simp only [List.nodup_cons, List.mem_cons, not_or] at n
  obtain ⟨⟨n1, n2, n3, n4, n5⟩, ⟨n6, n7, n8, n9⟩, _⟩ := n
  exact ⟨by rw [upd_ne n1]; exact B.ob, B.mat.upd (by simp only [List.mem_cons, not_or]; exact ⟨n8, n9⟩), upd_same, by rw [upd_ne (Ne.symm n6)]; exact B.hL, by rw [upd_ne (Ne.symm n7)]; exact B.hS, B.nd⟩
theorem _root_.Com.BoardAt.setL {C : Addr} {H : Hp} {p dx aR : Addr} {as : List Addr} {aT aL aS : Addr} {b : Brd} (B : BoardAt C H p dx aR as aT aL aS b) (ls : List Int) : BoardAt C (upd H aL (.lst (ls.map V.int))) p dx aR as aT aL aS { b with loads := ls } := by
  have n := B.nd
  simp only [List.nodup_cons, List.mem_cons, not_or] at n
  obtain ⟨⟨n1, n2, n3, n4, n5⟩, ⟨n6, n7, n8, n9⟩, ⟨n10, n11, n12⟩, _⟩ := n
  exact ⟨by rw [upd_ne n2]; exact B.ob, B.mat.upd (by simp only [List.mem_cons, not_or]; exact ⟨n11, n12⟩), by rw [upd_ne n6]; exact B.hT, upd_same, by rw [upd_ne (Ne.symm n10)]; exact B.hS, B.nd⟩
theorem getD_get {α : Type} {l : List α} {i : Nat} {d : α} (h : i < l.length) : l.getD i d = l[i] := by simp [List.getElem?_eq_getElem h]
theorem _root_.Com.Mat.at {H : Hp} {R : Addr} {as : List Addr} {rows : List (List Int)} (M : Mat H R as rows) {z : Int} (h0 : 0 ≤ z) (h1 : z < (rows.length : Int)) : ∃ c, atI (as.map V.ref) z = some (.ref c) ∧ H c = some (.lst ((rows.getD z.toNat []).map V.int)) ∧ as[z.toNat]? = some c := by
  have h : z.toNat < rows.length := by omega
  obtain ⟨c, ec, hc, _⟩ := M.get h
  refine ⟨c, at_list (n := z.toNat) (by omega) (by rw [List.getElem?_map, ec]; rfl), ?_, ec⟩
  rw [getD_get h]
  exact hc

def spTurns (K : PySem.W.Frag) : Sp := fun vs H Q _ => ∃ (a R : Addr) (as : List Addr) (rows : List (List Int)) (ns : List Int), vs = [.ref a, .ref R] ∧ SqL K H a (ns.map V.int) ∧ Mat H R as rows ∧ Wf rows ∧
  ∀ (l : Addr) (ts : List Int), H l = none → TurnsOk rows ts → Q (.ref l) (upd H l (.lst (ts.map V.int)))
def spBoard (K : PySem.W.Frag) (C : Addr) : Sp := fun vs H Q _ => ∃ (R tA lA : Addr) (as : List Addr) (rows : List (List Int)) (ts ls : List Int), vs = [.ref R, .ref tA, .ref lA] ∧ Mat H R as rows ∧ Wf rows ∧ SqL K H tA (ts.map V.int) ∧ SqL K H lA (ls.map V.int) ∧ TurnsOk rows ts ∧
  ls.length = rows.length ∧ (∀ k, k ≤ rows.length → (ls.take k).sum ≤ 400) ∧ ∀ (p dx aR : Addr) (asB : List Addr) (aT aL aS : Addr) (H' : Hp), BoardAt C H' p dx aR asB aT aL aS ⟨rows, ts, ls, List.replicate rows.length 0, 0⟩ → Same H H' →
    (∀ c ∈ p :: aT :: aL :: aS :: aR :: asB, H c = none) → Q (.ref p) H'
/-- the first k of xs, then noughts -/
def part (xs : List Int) (n k : Nat) : List Int := xs.take k ++ List.replicate (n - k) 0
theorem part_len {xs : List Int} {n k : Nat} (h : xs.length = n) (hk : k ≤ n) : (part xs n k).length = n := by
  unfold part
  rw [List.length_append, List.length_take, List.length_replicate]
  omega
theorem part_zero (xs : List Int) (n : Nat) : part xs n 0 = List.replicate n 0 := by unfold part; simp
theorem part_all {xs : List Int} {n : Nat} (h : xs.length = n) : part xs n n = xs := by unfold part; rw [← h]; simp
theorem part_get {xs : List Int} {n k : Nat} (h : xs.length = n) (hk : k < n) : (part xs n k).getD k 0 = 0 := by
  unfold part
  have hl : (xs.take k).length = k := by rw [List.length_take]; omega
  have e : (xs.take k ++ List.replicate (n - k) (0 : Int))[k]? = some 0 := by
    rw [List.getElem?_append_right (by omega), hl, Nat.sub_self, List.getElem?_replicate, if_pos (by omega)]
  simp [e]
theorem part_set {xs : List Int} {n k : Nat} (h : xs.length = n) (hk : k < n) : (part xs n k).set k (xs.getD k 0) = part xs n (k + 1) := by
  unfold part
  have hl : (xs.take k).length = k := by rw [List.length_take]; omega
  have hx : xs[k]? = some (xs.getD k 0) := by simp [List.getElem?_eq_getElem (show k < xs.length by omega)]
  rw [List.set_append_right _ _ (by omega), hl, Nat.sub_self, List.take_add_one, hx, show n - k = (n - (k + 1)) + 1 by omega, List.replicate_succ, List.set_cons_zero]
  simp
theorem part_sum {xs : List Int} {n k : Nat} : (part xs n k).sum = (xs.take k).sum := by
  unfold part
  rw [List.sum_append]
  have : (List.replicate (n - k) (0 : Int)).sum = 0 := by
    induction (n - k) with
    | zero => rfl
    | succ m ih => rw [List.replicate_succ, List.sum_cons, ih]; rfl
  omega
theorem take_sum_succ {xs : List Int} {k : Nat} (h : k < xs.length) : (xs.take (k + 1)).sum = (xs.take k).sum + xs.getD k 0 := by
  rw [getD_get h, List.take_add_one, List.sum_append, List.getElem?_eq_getElem h]
  simp

def spReached (K : PySem.W.Frag) : Sp := fun vs H Q _ => ∃ (R : Addr) (as : List Addr) (rows : List (List Int)), vs = [.ref R] ∧ Mat H R as rows ∧ rows.length ≤ 12 ∧ Ins rows ∧ (∀ r ∈ rows, r.length ≤ 100) ∧
  ∀ (l : Addr) (H' : Hp), Same H H' → H l = none → H' l = some (.lst ((reachL rows).map V.bl)) → Q (.ref l) H'
def spOpen (C : Addr) : Sp := fun vs H Q _ => ∃ (p dx aR : Addr) (as : List Addr) (aT aL aS : Addr) (b : Brd), vs = [.ref p] ∧ BoardAt C H p dx aR as aT aL aS b ∧ b.rows.length ≤ 12 ∧ Ins b.rows ∧ (∀ r ∈ b.rows, r.length ≤ 100) ∧
  ∀ H', Same H H' → Q (.bl ((reachL b.rows).all id)) H'
/-- the numbers that a dict knows -/
def kn (kvs : List (Key × V)) (i : Int) : Bool := (valV kvs (.inl i)).isSome
theorem kn_put (kvs : List (Key × V)) (i j : Int) (v : V) : kn (putK kvs (.inl i) v) j = (decide (j = i) || kn kvs j) := by
  unfold kn
  rw [valV_put]
  by_cases h : j = i
  · subst h; simp
  · have : ¬ (Sum.inl j : Key) = Sum.inl i := fun z => h (by injection z)
    rw [if_neg this, decide_eq_false h]
    rfl
theorem bools_get {bs : List Bool} {i : Nat} {b : Bool} (h : bs[i]? = some b) : (bs.map V.bl)[i]? = some (V.bl b) := by rw [List.getElem?_map, h]; rfl

/-- each site has an exit to a lesser one or the pit -/
def Down (rows : List (List Int)) : Prop := ∀ i, i < rows.length → ∃ e ∈ rows.getD i [], -1 ≤ e ∧ e < (i : Int)
theorem Down.open {rows : List (List Int)} (h : Down rows) : ∀ i, i < rows.length → rch rows i = true := by
  intro i
  induction i using Nat.strongRecOn with
  | _ i ih =>
    intro hi
    obtain ⟨e, q1, q2, q3⟩ := h i hi
    refine rch_step q1 ?_
    by_cases he : e = -1
    · exact .inl he
    · exact .inr ⟨by omega, ih e.toNat (by omega) (by omega)⟩
theorem open_rev {rows : List (List Int)} {many : Int} (h : Down rows) (hb : ∀ r ∈ rows, ∀ e ∈ r, -1 ≤ e ∧ e < (rows.length : Int)) (hm : (rows.length : Int) = many) : ∀ i, i < (rows.reverse.map fun r => r.map (oth many)).length → rch (rows.reverse.map fun r => r.map (oth many)) i = true := by
  have hl : (rows.reverse.map fun r => r.map (oth many)).length = rows.length := by simp
  have key : ∀ d, d < rows.length → rch (rows.reverse.map fun r => r.map (oth many)) (rows.length - 1 - d) = true := by
    intro d
    induction d using Nat.strongRecOn with
    | _ d ih =>
      intro hd
      obtain ⟨e, q1, q2, q3⟩ := h d hd
      have hg : (rows.reverse.map fun r => r.map (oth many)).getD (rows.length - 1 - d) [] = (rows.getD d []).map (oth many) := by
        rw [List.getD_eq_getElem?_getD, List.getElem?_map, List.getElem?_reverse (by omega), show rows.length - 1 - (rows.length - 1 - d) = d by omega, List.getElem?_eq_getElem hd, getD_get hd]
        rfl
      refine rch_step (e := oth many e) (by rw [hg]; exact List.mem_map.mpr ⟨e, q1, rfl⟩) ?_
      by_cases he : e = -1
      · left; rw [he]; rfl
      · right
        have e1 : oth many e = many - 1 - e := by unfold oth; rw [if_neg (by omega)]
        rw [e1]
        refine ⟨by omega, ?_⟩
        have := ih e.toNat (by omega) (by omega)
        rw [show (many - 1 - e).toNat = rows.length - 1 - e.toNat by omega]
        exact this
  intro i hi
  rw [hl] at hi
  have := key (rows.length - 1 - i) (by omega)
  rw [show rows.length - 1 - (rows.length - 1 - i) = i by omega] at this
  exact this

def spRowsT (K : PySem.W.Frag) : Sp := fun vs H Q _ => ∃ (a : Addr) (ns : List Int), vs = [.ref a] ∧ SqL K H a (ns.map V.int) ∧ ∀ (R : Addr) (as : List Addr) (rows : List (List Int)) (H' : Hp), Wf rows → (∀ i, i < rows.length → rch rows i = true) → Tame rows 30 → Mat H' R as rows → Same H H' → (∀ b ∈ R :: as, H b = none) → Q (.ref R) H'
def Shp (many : Int) (rows : List (List Int)) : Prop := ∃ u, Shape rows u ∧ (sumU u rows.length ≤ 3 ∨ (many ≤ 4 ∧ ∀ i, i < rows.length → u i ≤ 2))
theorem shp_of {many : Int} {rows : List (List Int)} {big : Bool} (h : Shape rows fun _ => if big = true then 0 else 2) (hm : big = false → many ≤ 4) : Shp many rows := by
  cases big with
  | true => exact ⟨_, h, .inl (by show sumU (fun _ => 0) _ ≤ 3; rw [sumU_zero]; decide)⟩
  | false => exact ⟨_, h, .inr ⟨hm rfl, fun i _ => Nat.le_refl _⟩⟩
theorem Shp.down {many : Int} {rows : List (List Int)} (h : Shp many rows) (W : Wf rows) : Down rows := by
  obtain ⟨u, sh, _⟩ := h
  exact sh.step fun r hr e he => ((W.2.2 r hr).2.2 e he).1
theorem Shp.tame {many : Int} {rows : List (List Int)} (h : Shp many rows) (W : Wf rows) (hm : (rows.length : Int) = many) : Tame rows 30 := by
  obtain ⟨u, sh, h | ⟨h4, h2⟩⟩ := h
  · exact tame_big W sh h
  · exact tame_small W sh (by omega) h2
theorem tame_oth {many : Int} {rows : List (List Int)} (T : Tame rows 30) (W : Wf rows) (hm : (rows.length : Int) = many) : Tame (rows.reverse.map fun r => r.map (oth many)) 30 := by
  have := tame_rev W T
  unfold revRows at this
  rw [hm] at this
  exact this

def spStep (C Cn Cm : Addr) : Sp := fun vs H Q E => ∃ (p dx aR : Addr) (as : List Addr) (aT aL aS : Addr) (b : Brd) (z : Int), vs = [.ref p, .int z] ∧ BoardAt C H p dx aR as aT aL aS b ∧ BrdOk b ∧ -(2 ^ 62) < z ∧ z < 2 ^ 62 ∧
  (¬ (0 ≤ z ∧ z < (b.rows.length : Int)) → E (.ref Cn) none H) ∧ (0 ≤ z ∧ z < (b.rows.length : Int) → b.loads.getD z.toNat 0 < 1 → E (.ref Cm) none H) ∧
  (0 ≤ z ∧ z < (b.rows.length : Int) → 1 ≤ b.loads.getD z.toNat 0 → ∀ H', BoardAt C H' p dx aR as aT aL aS (stepB b z.toNat) → (∀ x, x ∉ p :: aT :: aL :: aS :: aR :: as → H' x = H x) → Q (.int (exitOf b.rows b.turns z.toNat)) H')
theorem same_frame {H0 H H' : Hp} {xs : List Addr} (s : Same H0 H) (fr : ∀ x ∈ xs, H0 x = none) (f : ∀ x, x ∉ xs → H' x = H x) : Same H0 H' := fun c o e => by
  rw [f c (fun z => by rw [fr c z] at e; cases e)]
  exact s c o e
theorem rep_nn (n : Nat) : ∀ i, (0 : Int) ≤ (List.replicate n (0 : Int)).getD i 0 := fun i => by
  rw [List.getD_eq_getElem?_getD, List.getElem?_replicate]
  split <;> simp
theorem rep_sum0 (n : Nat) : (List.replicate n (0 : Int)).sum = 0 := by
  induction n with
  | zero => rfl
  | succ m ih => rw [List.replicate_succ, List.sum_cons, ih]; rfl
theorem set_nn {ls : List Int} {i : Nat} {v : Int} (h : ∀ i, 0 ≤ ls.getD i 0) (hv : 0 ≤ v) : ∀ j, 0 ≤ (ls.set i v).getD j 0 := fun j => by
  by_cases e : i = j
  · subst e
    by_cases hl : i < ls.length
    · rw [gD_set_self hl]; exact hv
    · rw [List.set_eq_of_length_le (by omega)]; exact h i
  · rw [gD_set_ne e]; exact h j
theorem putF_taken (aR aT aL aS : Addr) (z y : Int) : putF "taken" (.int y) (bflds aR aT aL aS z) = bflds aR aT aL aS y := by
  have n (f g : Str) (h : f ≠ g) (v u : V) (r : List (Str × V)) : putF g v ((f, u) :: r) = (f, u) :: putF g v r := by
    show (if f = g then (f, v) :: r else (f, u) :: putF g v r) = _
    rw [if_neg h]
  unfold bflds
  rw [n _ _ (by decide +kernel), n _ _ (by decide +kernel), n _ _ (by decide +kernel), n _ _ (by decide +kernel)]
  rfl
theorem _root_.Com.BoardAt.setS {C : Addr} {H : Hp} {p dx aR : Addr} {as : List Addr} {aT aL aS : Addr} {b : Brd} (B : BoardAt C H p dx aR as aT aL aS b) (ls : List Int) : BoardAt C (upd H aS (.lst (ls.map V.int))) p dx aR as aT aL aS { b with steps := ls } := by
  have n := B.nd
  simp only [List.nodup_cons, List.mem_cons, not_or] at n
  obtain ⟨⟨n1, n2, n3, n4, n5⟩, ⟨n6, n7, n8, n9⟩, ⟨n10, n11, n12⟩, ⟨n13, n14⟩, _⟩ := n
  exact ⟨by rw [upd_ne n3]; exact B.ob, B.mat.upd (by simp only [List.mem_cons, not_or]; exact ⟨n13, n14⟩), by rw [upd_ne n7]; exact B.hT, by rw [upd_ne n10]; exact B.hL, upd_same, B.nd⟩
theorem _root_.Com.BoardAt.setP {C : Addr} {H : Hp} {p dx aR : Addr} {as : List Addr} {aT aL aS : Addr} {b : Brd} (B : BoardAt C H p dx aR as aT aL aS b) (y : Int) : BoardAt C (upd H p (.ins C dx (bflds aR aT aL aS y))) p dx aR as aT aL aS { b with taken := y } := by
  have n := B.nd
  simp only [List.nodup_cons, List.mem_cons, not_or] at n
  obtain ⟨⟨n1, n2, n3, n4, n5⟩, _⟩ := n
  exact ⟨upd_same, B.mat.upd (by simp only [List.mem_cons, not_or]; exact ⟨n4, n5⟩), by rw [upd_ne (Ne.symm n1)]; exact B.hT, by rw [upd_ne (Ne.symm n2)]; exact B.hL, by rw [upd_ne (Ne.symm n3)]; exact B.hS, B.nd⟩

theorem board_in {C : Addr} {H : Hp} {p dx aR : Addr} {asB : List Addr} {aT aL aS : Addr} {b : Brd} (B : BoardAt C H p dx aR asB aT aL aS b) : ∀ x ∈ p :: aT :: aL :: aS :: aR :: asB, ∃ o, H x = some o := fun c hc => by
  simp only [List.mem_cons] at hc
  rcases hc with rfl | rfl | rfl | rfl | rfl | hc
  · exact ⟨_, B.ob⟩
  · exact ⟨_, B.hT⟩
  · exact ⟨_, B.hL⟩
  · exact ⟨_, B.hS⟩
  · exact ⟨_, B.mat.hd⟩
  · obtain ⟨i, hi, ei⟩ := List.getElem_of_mem hc
    obtain ⟨c', e1, e2, _⟩ := B.mat.get (i := i) (by rw [← B.mat.len]; exact hi)
    rw [List.getElem?_eq_getElem hi, ei] at e1
    cases e1
    exact ⟨_, e2⟩
theorem mat_in {H : Hp} {R : Addr} {as : List Addr} {rows : List (List Int)} (M : Mat H R as rows) : ∀ x ∈ R :: as, ∃ o, H x = some o := fun c hc => by
  rcases List.mem_cons.mp hc with y | y
  · rw [y]; exact ⟨_, M.hd⟩
  · obtain ⟨i, hi, ei⟩ := List.getElem_of_mem y
    obtain ⟨c', e1, e2, _⟩ := M.get (i := i) (by rw [← M.len]; exact hi)
    rw [List.getElem?_eq_getElem hi, ei] at e1
    cases e1
    exact ⟨_, e2⟩
theorem mat_no {H : Hp} {R : Addr} {as : List Addr} {rows : List (List Int)} (M : Mat H R as rows) {t : Addr} (hn : H t = none) : t ∉ R :: as := fun z => by
  obtain ⟨o, e⟩ := mat_in M t z
  rw [hn] at e
  cases e
section
variable {C : Addr} {H0 H H' : Hp} {p dx aR : Addr} {asB : List Addr} {aT aL aS R : Addr} {as : List Addr} {tA lA cA : Addr} {b b' b2 : Brd}
end

theorem _root_.Com.BoardAt.lists {C : Addr} {H : Hp} {p dx aR : Addr} {as : List Addr} {aT aL aS : Addr} {b : Brd} (B : BoardAt C H p dx aR as aT aL aS b) : ∀ x ∈ aT :: aL :: aS :: aR :: as, ∃ xs, H x = some (.lst xs) := fun c hc => by
  simp only [List.mem_cons] at hc
  rcases hc with rfl | rfl | rfl | rfl | hc
  · exact ⟨_, B.hT⟩
  · exact ⟨_, B.hL⟩
  · exact ⟨_, B.hS⟩
  · exact ⟨_, B.mat.hd⟩
  · obtain ⟨i, hi, ei⟩ := List.getElem_of_mem hc
    obtain ⟨c', e1, e2, _⟩ := B.mat.get (i := i) (by rw [← B.mat.len]; exact hi)
    rw [List.getElem?_eq_getElem hi, ei] at e1
    cases e1
    exact ⟨_, e2⟩
theorem putF_turns (aR aT aL aS : Addr) (z : Int) (n : Addr) : putF "turns" (.ref n) (bflds aR aT aL aS z) = bflds aR n aL aS z := by
  have n' (f g : Str) (h : f ≠ g) (v u : V) (r : List (Str × V)) : putF g v ((f, u) :: r) = (f, u) :: putF g v r := by
    show (if f = g then (f, v) :: r else (f, u) :: putF g v r) = _
    rw [if_neg h]
  unfold bflds
  rw [n' _ _ (by decide +kernel)]
  rfl
theorem putF_loads (aR aT aL aS : Addr) (z : Int) (n : Addr) : putF "loads" (.ref n) (bflds aR aT aL aS z) = bflds aR aT n aS z := by
  have n' (f g : Str) (h : f ≠ g) (v u : V) (r : List (Str × V)) : putF g v ((f, u) :: r) = (f, u) :: putF g v r := by
    show (if f = g then (f, v) :: r else (f, u) :: putF g v r) = _
    rw [if_neg h]
  unfold bflds
  rw [n' _ _ (by decide +kernel), n' _ _ (by decide +kernel)]
  rfl
theorem putF_steps (aR aT aL aS : Addr) (z : Int) (n : Addr) : putF "steps" (.ref n) (bflds aR aT aL aS z) = bflds aR aT aL n z := by
  have n' (f g : Str) (h : f ≠ g) (v u : V) (r : List (Str × V)) : putF g v ((f, u) :: r) = (f, u) :: putF g v r := by
    show (if f = g then (f, v) :: r else (f, u) :: putF g v r) = _
    rw [if_neg h]
  unfold bflds
  rw [n' _ _ (by decide +kernel), n' _ _ (by decide +kernel), n' _ _ (by decide +kernel)]
  rfl
section
variable {C : Addr} {H : Hp} {p dx aR : Addr} {as : List Addr} {aT aL aS : Addr} {b : Brd}
theorem _root_.Com.BoardAt.newT (B : BoardAt C H p dx aR as aT aL aS b) {n : Addr} (hn : H n = none) (ts : List Int) : BoardAt C (upd (upd H n (.lst (ts.map V.int))) p (.ins C dx (bflds aR n aL aS b.taken))) p dx aR as n aL aS { b with turns := ts } := by
  have nn : ∀ x ∈ p :: aT :: aL :: aS :: aR :: as, x ≠ n := fun x hx z => by obtain ⟨o, e⟩ := board_in B x hx; rw [z, hn] at e; cases e
  have nd := B.nd
  simp only [List.nodup_cons, List.mem_cons, not_or] at nd
  obtain ⟨⟨n1, n2, n3, n4, n5⟩, ⟨n6, n7, n8, n9⟩, ⟨n10, n11, n12⟩, ⟨n13, n14⟩, n15, n16⟩ := nd
  have pn := nn p (by simp)
  have k : ∀ x o, x ∈ aL :: aS :: aR :: as → H x = some o → (upd (upd H n (.lst (ts.map V.int))) p (.ins C dx (bflds aR n aL aS b.taken))) x = some o := fun x o hx e => by
    have x1 : x ≠ n := nn x (by simp only [List.mem_cons] at hx ⊢; exact .inr (.inr hx))
    have x2 : x ≠ p := by
      simp only [List.mem_cons] at hx
      rcases hx with rfl | rfl | rfl | hx
      · exact Ne.symm n2
      · exact Ne.symm n3
      · exact Ne.symm n4
      · exact fun z => n5 (by rw [← z]; exact hx)
    rw [upd_ne x2, upd_ne x1]
    exact e
  refine ⟨upd_same, B.mat.keep fun c o hc => k c o (by simp only [List.mem_cons] at hc ⊢; exact .inr (.inr hc)), by rw [upd_ne (Ne.symm pn)]; exact upd_same, k _ _ (by simp) B.hL, k _ _ (by simp) B.hS, ?_⟩
  simp only [List.nodup_cons, List.mem_cons, not_or]
  exact ⟨⟨pn, n2, n3, n4, n5⟩, ⟨Ne.symm (nn aL (by simp)), Ne.symm (nn aS (by simp)), Ne.symm (nn aR (by simp)), fun z => nn n (by simp [z]) rfl⟩, ⟨n10, n11, n12⟩, ⟨n13, n14⟩, n15, n16⟩
theorem _root_.Com.BoardAt.newL (B : BoardAt C H p dx aR as aT aL aS b) {n : Addr} (hn : H n = none) (ts : List Int) : BoardAt C (upd (upd H n (.lst (ts.map V.int))) p (.ins C dx (bflds aR aT n aS b.taken))) p dx aR as aT n aS { b with loads := ts } := by
  have nn : ∀ x ∈ p :: aT :: aL :: aS :: aR :: as, x ≠ n := fun x hx z => by obtain ⟨o, e⟩ := board_in B x hx; rw [z, hn] at e; cases e
  have nd := B.nd
  simp only [List.nodup_cons, List.mem_cons, not_or] at nd
  obtain ⟨⟨n1, n2, n3, n4, n5⟩, ⟨n6, n7, n8, n9⟩, ⟨n10, n11, n12⟩, ⟨n13, n14⟩, n15, n16⟩ := nd
  have pn := nn p (by simp)
  have k : ∀ x o, x ∈ aT :: aS :: aR :: as → H x = some o → (upd (upd H n (.lst (ts.map V.int))) p (.ins C dx (bflds aR aT n aS b.taken))) x = some o := fun x o hx e => by
    simp only [List.mem_cons] at hx
    have x1 : x ≠ n := nn x (by
      simp only [List.mem_cons]
      rcases hx with h | h | h | h <;> simp [h])
    have x2 : x ≠ p := by
      rcases hx with rfl | rfl | rfl | hx
      · exact Ne.symm n1
      · exact Ne.symm n3
      · exact Ne.symm n4
      · exact fun z => n5 (by rw [← z]; exact hx)
    rw [upd_ne x2, upd_ne x1]
    exact e
  refine ⟨upd_same, B.mat.keep fun c o hc => k c o (by simp only [List.mem_cons] at hc ⊢; exact .inr (.inr hc)), k _ _ (by simp) B.hT, by rw [upd_ne (Ne.symm pn)]; exact upd_same, k _ _ (by simp) B.hS, ?_⟩
  simp only [List.nodup_cons, List.mem_cons, not_or]
  exact ⟨⟨n1, pn, n3, n4, n5⟩, ⟨nn aT (by simp), n7, n8, n9⟩, ⟨Ne.symm (nn aS (by simp)), Ne.symm (nn aR (by simp)), fun z => nn n (by simp [z]) rfl⟩, ⟨n13, n14⟩, n15, n16⟩
theorem _root_.Com.BoardAt.newS (B : BoardAt C H p dx aR as aT aL aS b) {n : Addr} (hn : H n = none) (ts : List Int) : BoardAt C (upd (upd H n (.lst (ts.map V.int))) p (.ins C dx (bflds aR aT aL n b.taken))) p dx aR as aT aL n { b with steps := ts } := by
  have nn : ∀ x ∈ p :: aT :: aL :: aS :: aR :: as, x ≠ n := fun x hx z => by obtain ⟨o, e⟩ := board_in B x hx; rw [z, hn] at e; cases e
  have nd := B.nd
  simp only [List.nodup_cons, List.mem_cons, not_or] at nd
  obtain ⟨⟨n1, n2, n3, n4, n5⟩, ⟨n6, n7, n8, n9⟩, ⟨n10, n11, n12⟩, ⟨n13, n14⟩, n15, n16⟩ := nd
  have pn := nn p (by simp)
  have k : ∀ x o, x ∈ aT :: aL :: aR :: as → H x = some o → (upd (upd H n (.lst (ts.map V.int))) p (.ins C dx (bflds aR aT aL n b.taken))) x = some o := fun x o hx e => by
    simp only [List.mem_cons] at hx
    have x1 : x ≠ n := nn x (by
      simp only [List.mem_cons]
      rcases hx with h | h | h | h <;> simp [h])
    have x2 : x ≠ p := by
      rcases hx with rfl | rfl | rfl | hx
      · exact Ne.symm n1
      · exact Ne.symm n2
      · exact Ne.symm n4
      · exact fun z => n5 (by rw [← z]; exact hx)
    rw [upd_ne x2, upd_ne x1]
    exact e
  refine ⟨upd_same, B.mat.keep fun c o hc => k c o (by simp only [List.mem_cons] at hc ⊢; exact .inr (.inr hc)), k _ _ (by simp) B.hT, k _ _ (by simp) B.hL, by rw [upd_ne (Ne.symm pn)]; exact upd_same, ?_⟩
  simp only [List.nodup_cons, List.mem_cons, not_or]
  exact ⟨⟨n1, n2, pn, n4, n5⟩, ⟨n6, nn aT (by simp), n8, n9⟩, ⟨nn aL (by simp), n11, n12⟩, ⟨Ne.symm (nn aR (by simp)), fun z => nn n (by simp [z]) rfl⟩, n15, n16⟩
end
/-- but p, all stays -/
def But (p : Addr) (H H' : Hp) : Prop := ∀ x o, x ≠ p → H x = some o → H' x = some o
theorem But.refl (p : Addr) (H : Hp) : But p H H := fun _ _ _ e => e
theorem But.new {p : Addr} {H H' : Hp} (k : But p H H') {n : Addr} {o o' : HO} (hn : H' n = none) : But p H (upd (upd H' n o) p o') := fun x u hx e => by
  have := k x u hx e
  rw [upd_ne hx, upd_ne (ne_of_none this hn)]
  exact this
theorem But.free {p : Addr} {H H' : Hp} (k : But p H H') {n : Addr} (hn : H' n = none) (hp : n ≠ p) : H n = none := by
  cases e : H n with
  | none => rfl
  | some o => rw [k n o hp e] at hn; cases hn
theorem But.same {p : Addr} {H0 H H' : Hp} (k : But p H H') (s : Same H0 H) (hp : H0 p = none) : Same H0 H' := fun x o e => k x o (ne_of_none e hp) (s x o e)
theorem But.board {p : Addr} {H H' : Hp} (k : But p H H') {C : Addr} {p2 dx2 aR2 : Addr} {as2 : List Addr} {aT2 aL2 aS2 : Addr} {b2 : Brd} (B : BoardAt C H p2 dx2 aR2 as2 aT2 aL2 aS2 b2) (hp : p ∉ p2 :: aT2 :: aL2 :: aS2 :: aR2 :: as2) : BoardAt C H' p2 dx2 aR2 as2 aT2 aL2 aS2 b2 :=
  B.keep fun c o hc e => k c o (fun z => hp (by rw [← z]; exact hc)) e
theorem ins_not {C : Addr} {H : Hp} {p dx : Addr} {fs : List (Str × V)} (e : H p = some (.ins C dx fs)) {p2 dx2 aR2 : Addr} {as2 : List Addr} {aT2 aL2 aS2 : Addr} {b2 : Brd} (B : BoardAt C H p2 dx2 aR2 as2 aT2 aL2 aS2 b2) (hp : p ≠ p2) : p ∉ p2 :: aT2 :: aL2 :: aS2 :: aR2 :: as2 := fun z => by
  rcases List.mem_cons.mp z with z | z
  · exact hp z
  · obtain ⟨xs, e2⟩ := B.lists p z
    rw [e] at e2
    cases e2
def spLike (C : Addr) : Sp := fun vs H Q _ => ∃ (p dx aR : Addr) (as : List Addr) (aT aL aS : Addr) (b : Brd) (p2 dx2 aR2 : Addr) (as2 : List Addr) (aT2 aL2 aS2 : Addr) (b2 : Brd), vs = [.ref p, .ref p2] ∧ BoardAt C H p dx aR as aT aL aS b ∧ BoardAt C H p2 dx2 aR2 as2 aT2 aL2 aS2 b2 ∧ p ≠ p2 ∧
  ∀ (aT' aL' aS' : Addr) (H' : Hp), BoardAt C H' p dx aR as aT' aL' aS' ⟨b.rows, b2.turns, b2.loads, b2.steps, b2.taken⟩ → But p H H' → H aT' = none → H aL' = none → H aS' = none → Q .non H'
def spTwin (C : Addr) : Sp := fun vs H Q _ => ∃ (p dx aR : Addr) (as : List Addr) (aT aL aS : Addr) (b : Brd), vs = [.ref p] ∧ BoardAt C H p dx aR as aT aL aS b ∧ Wf b.rows ∧
  ∀ (p' dx' aR' : Addr) (as' : List Addr) (aT' aL' aS' : Addr) (H' : Hp), BoardAt C H' p' dx' aR' as' aT' aL' aS' b → Same H H' → (∀ c ∈ p' :: aT' :: aL' :: aS' :: aR' :: as', H c = none) → Q (.ref p') H'
def spLaden (C : Addr) : Sp := fun vs H Q _ => ∃ (p dx aR : Addr) (as : List Addr) (aT aL aS : Addr) (b : Brd), vs = [.ref p] ∧ BoardAt C H p dx aR as aT aL aS b ∧ b.loads.length ≤ 100 ∧
  ∀ (l : Addr) (H' : Hp), Same H H' → H l = none → H' l = some (.lst ((ladenL b.loads).map fun i => V.int (i : Nat))) → Q (.ref l) H'
def spChkO (C Co : Addr) : Sp := fun vs H Q E => ∃ (p dx aR : Addr) (as : List Addr) (aT aL aS : Addr) (b : Brd), vs = [.ref p] ∧ BoardAt C H p dx aR as aT aL aS b ∧ Wf b.rows ∧
  ((reachL b.rows).all id = true → ∀ H', Same H H' → Q .non H') ∧ ((reachL b.rows).all id = false → ∀ H', Same H H' → E (.ref Co) none H')
def spRun (C Co Cl : Addr) : Sp := fun vs H Q E => ∃ (p dx aR : Addr) (as : List Addr) (aT aL aS : Addr) (b : Brd) (most : Int), vs = [.ref p, .int most] ∧ BoardAt C H p dx aR as aT aL aS b ∧ BrdOk b ∧ -(2 ^ 62) < most ∧ most < 2 ^ 62 ∧
  ((reachL b.rows).all id = false → ∀ H', Same H H' → E (.ref Co) none H') ∧
  ((reachL b.rows).all id = true → ∃ N : Nat, RunTo b N ∧ ((N : Int) ≤ most → ∀ (aT' aL' aS' : Addr) (H' : Hp), BoardAt C H' p dx aR as aT' aL' aS' (iterR N b) → But p H H' → H aT' = none → H aL' = none → H aS' = none → Q (.int N) H') ∧
    (most < (N : Int) → ∀ H', Same H H' → E (.ref Cl) none H'))
theorem laden_range (ls : List Int) (i : Nat) : ((List.range (i + 1)).filter fun k => decide (0 < ls.getD k 0)).map (fun k => V.int (k : Nat)) = ((List.range i).filter fun k => decide (0 < ls.getD k 0)).map (fun k => V.int (k : Nat)) ++ (if 0 < ls.getD i 0 then [V.int (i : Nat)] else []) := by
  rw [List.range_succ, List.filter_append, List.map_append]
  by_cases h : 0 < ls.getD i 0
  · rw [if_pos h, List.filter_cons_of_pos (by exact decide_eq_true h)]; rfl
  · rw [if_neg h, List.filter_cons_of_neg (by exact fun z => h (of_decide_eq_true z))]; rfl

def gridR (rows : List (List Int)) (i : Nat) : List Int := ((List.range rows.length).map fun (j : Nat) => -(((rows.getD i []).count (j : Int) : Nat) : Int)).set i (((rows.getD i []).length : Int) - ((rows.getD i []).count (i : Int) : Nat))
def gridL (rows : List (List Int)) : List (List Int) := (List.range rows.length).map (gridR rows)
theorem gridR_len (rows : List (List Int)) (i : Nat) : (gridR rows i).length = rows.length := by unfold gridR; simp
theorem gridL_len (rows : List (List Int)) : (gridL rows).length = rows.length := by unfold gridL; simp
def spGridRow (C : Addr) : Sp := fun vs H Q _ => ∃ (p dx aR : Addr) (as : List Addr) (aT aL aS : Addr) (b : Brd) (z : Int), vs = [.ref p, .int z] ∧ BoardAt C H p dx aR as aT aL aS b ∧ Wf b.rows ∧ 0 ≤ z ∧ z < (b.rows.length : Int) ∧
  ∀ D, H D = none → Q (.ref D) (upd H D (.lst ((gridR b.rows z.toNat).map V.int)))
def spGrid (C : Addr) : Sp := fun vs H Q _ => ∃ (p dx aR : Addr) (as : List Addr) (aT aL aS : Addr) (b : Brd), vs = [.ref p] ∧ BoardAt C H p dx aR as aT aL aS b ∧ Wf b.rows ∧
  ∀ (D : Addr) (asD : List Addr) (H' : Hp), Mat H' D asD (gridL b.rows) → Same H H' → (∀ c ∈ D :: asD, H c = none) → Q (.ref D) H'
theorem filt_snoc (p : Nat → Bool) (i : Nat) : (List.range (i + 1)).filter p = (List.range i).filter p ++ if p i = true then [i] else [] := by
  rw [List.range_succ, List.filter_append]
  simp [List.filter_cons]
abbrev M30 : Nat := 10 ^ 30
def BL (r : List Int) : Prop := ∀ e ∈ r, e.natAbs ≤ M30
theorem BL.fn {r : List Int} (h : BL r) : Bdd M30 (fn r) := fun j => by
  unfold Com.fn
  rw [List.getD_eq_getElem?_getD]
  cases e : r[j]? with
  | none => exact Nat.zero_le _
  | some z => exact h z (List.mem_of_getElem? e)
theorem cut_take {xs : List V} {i : Nat} (h : i ≤ xs.length) : cutV xs none (some (i : Int)) = xs.take i := by
  have e : HT.sIx xs.length xs.length (some (i : Int)) = i := by
    unfold HT.sIx
    simp
    rw [if_neg (by omega)]
    omega
  unfold cutV
  rw [e, HT.sIx_none]
  simp
theorem cut_drop {xs : List V} {i : Nat} (h : i ≤ xs.length) : cutV xs (some (i : Int)) none = xs.drop i := by
  have e : HT.sIx xs.length 0 (some (i : Int)) = i := by
    unfold HT.sIx
    simp
    rw [if_neg (by omega)]
    omega
  unfold cutV
  rw [e, HT.sIx_none]
  exact List.take_of_length_le (by rw [List.length_drop]; omega)
def clr (r t : List Int) (l : Int) : List Int := (List.range (r.length - 1)).map fun (j : Nat) => (t.getD 0 0 * r.getD (j + 1) 0 - r.getD 0 0 * t.getD (j + 1) 0).fdiv l
def CBs (r : List Int) : Prop := ∀ i, CB (r.getD i 0)
def spCleared (K : PySem.W.Frag) : Sp := fun vs H Q _ => ∃ (c d : Addr) (r t : List Int) (l : Int), vs = [.ref c, .ref d, .int l] ∧ SqL K H c (r.map V.int) ∧ SqL K H d (t.map V.int) ∧ t.length = r.length ∧ 1 ≤ r.length ∧ r.length ≤ 12 ∧ CBs r ∧ CBs t ∧ l ≠ 0 ∧ CB l ∧
  ∀ D, H D = none → Q (.ref D) (upd H D (.lst ((clr r t l).map V.int)))
structure Sq (n : Nat) (rows : List (List Int)) : Prop where
  len : rows.length = n
  row : ∀ r ∈ rows, r.length = n
  bl : ∀ r ∈ rows, BL r
def spDet (K : PySem.W.Frag) : Sp := fun vs H Q _ => ∃ (R : Addr) (as : List Addr) (rows : List (List Int)) (n : Nat), vs = [.ref R] ∧ Mat H R as rows ∧ Sq n rows ∧ n ≤ 12 ∧ ∀ H', Same H H' → Q (.int (dt n (rows.map Com.fn) 0)) H'
theorem bd_cb {i : Int} {m : Nat} (h : i.natAbs ≤ bd M30 m) (hm : m ≤ 12) : CB i := by
  have h1 : bd M30 m ≤ bd M30 12 := bd_mono (by decide +kernel) hm
  have h2 : bd M30 12 < 2 ^ 4000 := by decide +kernel
  exact Nat.lt_of_le_of_lt (Nat.le_trans h h1) h2
theorem rowAt_cb {P : List Rw} {m : Nat} {r : Rw} (hP : ∀ r ∈ P, Bdd M30 r) (hx : Bdd M30 r) (hn : P.length < 12) : CBs (rowAt P m r) := fun i => by
  by_cases h : i < m
  · rw [rowAt_get h]
    exact bd_cb (bor_bd hP hx) (by omega)
  · rw [List.getD_eq_getElem?_getD, List.getElem?_eq_none (by rw [rowAt_len]; omega)]
    exact Nat.two_pow_pos _
theorem clr_rowAt {P : List Rw} (E : Elim P) (m : Nat) (p r : Rw) : clr (rowAt P (m + 1) r) (rowAt P (m + 1) p) (dt P.length P 0) = rowAt (P ++ [p]) m r := by
  refine List.ext_getElem (by rw [rowAt_len]; simp [clr, rowAt_len]) fun i h1 h2 => ?_
  rw [rowAt_len] at h2
  have e := rowAt_get (P := P ++ [p]) (r := r) h2
  rw [List.getD_eq_getElem?_getD, List.getElem?_eq_getElem (by rw [rowAt_len]; exact h2)] at e
  refine Eq.trans ?_ e.symm
  have e2 : (clr (rowAt P (m + 1) r) (rowAt P (m + 1) p) (dt P.length P 0)).getD i 0 = bor (P ++ [p]) r ((P ++ [p]).length + i) := by
    unfold clr
    rw [rowAt_len, Nat.add_sub_cancel, List.getD_eq_getElem?_getD, List.getElem?_map, List.getElem?_range h2]
    show ((rowAt P (m + 1) p).getD 0 0 * (rowAt P (m + 1) r).getD (i + 1) 0 - (rowAt P (m + 1) r).getD 0 0 * (rowAt P (m + 1) p).getD (i + 1) 0).fdiv _ = _
    rw [rowAt_get (by omega), rowAt_get (by omega), rowAt_get (by omega), rowAt_get (by omega), Nat.add_zero, E.clear, List.length_append, List.length_singleton, show P.length + (i + 1) = P.length + 1 + i by omega]
  rw [List.getD_eq_getElem?_getD, List.getElem?_eq_getElem h1] at e2
  exact e2

theorem grid_fn {rows : List (List Int)} : dt rows.length ((gridL rows).map Com.fn) 0 = treesN rows := by
  unfold treesN gridL grdM
  rw [List.map_map]
  have h := dt_congr (fun i => Com.fn (gridR rows i)) (fun i => if i < rows.length then grd (rows.getD i []) i else Com.fn (gridR rows i)) rows.length 0 (List.range rows.length) (fun i j _ hj => by
    by_cases hi : i < rows.length
    · rw [if_pos hi]
      unfold gridR Com.fn grd
      rw [Nat.zero_add] at hj
      by_cases e : j = i
      · subst e
        rw [List.getD_eq_getElem?_getD, List.getElem?_set_self (by simp; exact hi), if_pos rfl]
        rfl
      · rw [List.getD_eq_getElem?_getD, List.getElem?_set_ne (Ne.symm e), List.getElem?_map, List.getElem?_range hj, if_neg e]
        show -_ = (0 : Int) - _
        omega
    · rw [if_neg hi])
  have e2 : (List.range rows.length).map (Com.fn ∘ gridR rows) = (List.range rows.length).map fun i => Com.fn (gridR rows i) := rfl
  rw [e2, h]
  congr 1
  refine List.map_congr_left fun i hi => ?_
  rw [if_pos (List.mem_range.mp hi)]
theorem grid_sq {rows : List (List Int)} (W : Wf rows) : Sq rows.length (gridL rows) := by
  refine ⟨gridL_len rows, fun r hr => ?_, fun r hr e he => ?_⟩
  · obtain ⟨i, _, rfl⟩ := List.mem_map.mp hr
    exact gridR_len rows i
  · obtain ⟨i, hi, rfl⟩ := List.mem_map.mp hr
    have hi' := List.mem_range.mp hi
    have h8 : (rows.getD i []).length ≤ 8 := by rw [getD_get hi']; exact (W.2.2 _ (List.getElem_mem hi')).2.1
    unfold gridR at he
    show e.natAbs ≤ 1000000000000000000000000000000
    rcases List.mem_or_eq_of_mem_set he with z | z
    · obtain ⟨j, _, rfl⟩ := List.mem_map.mp z
      have := List.count_le_length (a := (j : Int)) (l := rows.getD i [])
      omega
    · have := List.count_le_length (a := (i : Int)) (l := rows.getD i [])
      omega

theorem nodup_set {α : Type} : ∀ {as : List α} {i : Nat} {l : α}, as.Nodup → l ∉ as → (as.set i l).Nodup
  | [], _, _, h, _ => h
  | a :: as, 0, l, h, n => by
    rw [List.set_cons_zero, List.nodup_cons]
    rw [List.nodup_cons] at h
    exact ⟨fun z => n (List.mem_cons_of_mem _ z), h.2⟩
  | a :: as, i + 1, l, h, n => by
    rw [List.set_cons_succ, List.nodup_cons]
    rw [List.nodup_cons] at h
    refine ⟨fun z => ?_, nodup_set h.2 fun z => n (List.mem_cons_of_mem _ z)⟩
    rcases List.mem_or_eq_of_mem_set z with y | y
    · exact h.1 y
    · exact n (by rw [y]; exact List.mem_cons_self)

def spGcd : Sp := fun vs H Q _ => ∃ (x y : Nat), vs = [.int (x : Int), .int (y : Int)] ∧ Q (.int ((Nat.gcd x y : Nat) : Int)) H
def markL (n s : Nat) : List Int := (List.replicate n 0).set s 1
def spMark (K : PySem.W.Frag) : Sp := fun vs H Q _ => ∃ (R : Addr) (as : List Addr) (rows : List (List Int)) (p s : Nat), vs = [.ref R, .int (p : Int), .int (s : Int)] ∧ Mat H R as rows ∧ rows.length ≤ 12 ∧ p < rows.length ∧ s < rows.length ∧ ∀ (D : Addr) (asD : List Addr) (H' : Hp), Mat H' D asD (rows.set p (markL rows.length s)) → Same H H' → Q (.ref D) H'
def spRound (C Cn Co : Addr) : Sp := fun vs H Q E => ∃ (p dx aR : Addr) (as : List Addr) (aT aL aS : Addr) (b : Brd) (z : Int), vs = [.ref p, .int z] ∧ BoardAt C H p dx aR as aT aL aS b ∧ Wf b.rows ∧ -(2 ^ 62) < z ∧ z < 2 ^ 62 ∧
  (¬ (0 ≤ z ∧ z < (b.rows.length : Int)) → ∀ H', Same H H' → E (.ref Cn) none H') ∧
  (0 ≤ z ∧ z < (b.rows.length : Int) → (reachL b.rows).all id = false → ∀ H', Same H H' → E (.ref Co) none H') ∧
  (0 ≤ z ∧ z < (b.rows.length : Int) → (reachL b.rows).all id = true → Some b.rows z.toNat ∧ ∀ H', Same H H' → Q (.int (roundN b.rows z.toNat : Nat)) H')
theorem reps (k : Nat) : (List.replicate k [V.int 0]).flatten = (List.replicate k (0 : Int)).map V.int := by
  induction k with
  | zero => rfl
  | succ k ih => rw [List.replicate_succ, List.flatten_cons, ih, List.replicate_succ]; rfl
theorem mark_sq {n p s : Nat} {rows : List (List Int)} (S : Sq n rows) : Sq n (rows.set p (markL rows.length s)) := by
  refine ⟨by rw [List.length_set]; exact S.len, fun r hr => ?_, fun r hr => ?_⟩
  · rcases List.mem_or_eq_of_mem_set hr with h | h
    · exact S.row r h
    · rw [h, S.len]; unfold markL; simp
  · rcases List.mem_or_eq_of_mem_set hr with h | h
    · exact S.bl r h
    · rw [h]
      intro e he
      show e.natAbs ≤ 1000000000000000000000000000000
      unfold markL at he
      rcases List.mem_or_eq_of_mem_set he with z | z
      · rw [List.eq_of_mem_replicate z]; decide
      · rw [z]; decide
theorem grid_row_fn {rows : List (List Int)} {i j : Nat} (hi : i < rows.length) (hj : j < rows.length) : Com.fn (gridR rows i) j = grd (rows.getD i []) i j := by
  unfold gridR Com.fn grd
  by_cases e : j = i
  · subst e
    rw [List.getD_eq_getElem?_getD, List.getElem?_set_self (by simp; exact hi), if_pos rfl]
    rfl
  · rw [List.getD_eq_getElem?_getD, List.getElem?_set_ne (Ne.symm e), List.getElem?_map, List.getElem?_range hj, if_neg e]
    show -_ = (0 : Int) - _
    omega
theorem mark_fn {n s j : Nat} (hs : s < n) : Com.fn (markL n s) j = mkR s j := by
  unfold Com.fn markL mkR
  by_cases e : j = s
  · subst e
    rw [gD_set_self (by rw [List.length_replicate]; exact hs), if_pos rfl]
  · rw [gD_set_ne (Ne.symm e), rep_get, if_neg e]
theorem det_mark {rows : List (List Int)} {p s : Nat} (hs : s < rows.length) (hp : p < rows.length) : dt rows.length (((gridL rows).set p (markL rows.length s)).map Com.fn) 0 = DpN rows s p := by
  unfold DpN
  refine dt_cols (by simp [gridL_len, grdM_len]) fun i hi j hj => ?_
  have hi' : i < rows.length := by simpa [gridL_len] using hi
  rw [List.getD_eq_getElem?_getD, List.getElem?_map, List.getD_eq_getElem?_getD]
  by_cases e : p = i
  · subst e
    rw [List.getElem?_set_self (by rw [gridL_len]; exact hp), List.getElem?_set_self (by rw [grdM_len]; exact hp)]
    exact mark_fn hs
  · rw [List.getElem?_set_ne e, List.getElem?_set_ne e]
    unfold gridL grdM
    rw [List.getElem?_map, List.getElem?_map, List.getElem?_range hi']
    exact grid_row_fn hi' hj

def ldB (b : Brd) (z : Nat) : Brd := withL b (b.loads.set z (b.loads.getD z 0 + 1))
inductive RunAll (b0 : Brd) : List Nat → Nat → Brd → Prop
  | nil : RunAll b0 [] 0 b0
  | snoc {zs : List Nat} {m N z : Nat} {b : Brd} : RunAll b0 zs m b → RunTo (ldB b z) N → RunAll b0 (zs ++ [z]) (m + N) (iterR N (ldB b z))
theorem RunAll.last {b0 : Brd} {l : List Nat} {m : Nat} {b' : Brd} (R : RunAll b0 l m b') : ∀ {zs : List Nat} {z : Nat}, l = zs ++ [z] → ∃ m' N b, RunAll b0 zs m' b ∧ RunTo (ldB b z) N ∧ m = m' + N ∧ b' = iterR N (ldB b z) := by
  cases R with
  | nil => intro zs z e; simp at e
  | @snoc zs' m N z' b R1 R2 =>
    intro zs z e
    obtain ⟨e1, e2⟩ := List.append_inj' e rfl
    subst e1
    cases e2
    exact ⟨m, N, b, R1, R2, rfl, rfl⟩
theorem RunAll.zero {b0 : Brd} {m : Nat} {b' : Brd} (R : RunAll b0 [] m b') : m = 0 ∧ b' = b0 := by
  generalize e : ([] : List Nat) = l at R
  cases R with
  | nil => exact ⟨rfl, rfl⟩
  | snoc _ _ => simp at e
def ownB (p aT aL aS aR : Addr) (as : List Addr) : List Addr := p :: aT :: aL :: aS :: aR :: as
def spAll (C : Addr) : Sp := fun vs H Q _ => ∃ (p dx aR : Addr) (as : List Addr) (aT aL aS : Addr) (b : Brd) (sA : Addr) (zs : List Nat), vs = [.ref p, .ref sA] ∧ BoardAt C H p dx aR as aT aL aS b ∧ BrdOk b ∧ (reachL b.rows).all id = true ∧ Tame b.rows 30 ∧ b.loads.sum ≤ 20 ∧ zs.length ≤ 2 ∧ H sA = some (.lst ((toZ zs).map V.int)) ∧ sA ∉ ownB p aT aL aS aR as ∧ (∀ z ∈ zs, z < b.rows.length) ∧
  ∀ (m : Nat) (b' : Brd) (aT' aL' aS' : Addr) (H' : Hp), RunAll b zs m b' → BoardAt C H' p dx aR as aT' aL' aS' b' → (∀ x o, x ∉ ownB p aT aL aS aR as → H x = some o → H' x = some o) → (∀ x ∈ [aT', aL', aS'], x ∈ ownB p aT aL aS aR as ∨ H x = none) → Q (.int (m : Int)) H'
def spChain (K : PySem.W.Frag) : Sp := fun vs H Q _ => ∃ (a : Addr) (ns : List Int), vs = [.ref a] ∧ SqL K H a (ns.map V.int) ∧ ∀ H', Same H H' → Q (.bl true) H'
theorem count_one {l t x : Nat} (ht : t < l) (j : Nat) : ((List.replicate l (-1 : Int)).set t (x : Int)).count (j : Int) = if j = x then 1 else 0 := by
  rw [List.count_set (by rw [List.length_replicate]; exact ht), List.getElem_replicate, List.count_replicate]
  have h1 : ((-1 : Int) == (j : Int)) = false := by rw [beq_eq_false_iff_ne]; omega
  rw [h1]
  by_cases e : j = x
  · subst e; simp
  · have h2 : ((x : Int) == (j : Int)) = false := by rw [beq_eq_false_iff_ne]; omega
    rw [h2, if_neg e]
    simp
theorem count_none (l j : Nat) : (List.replicate l (-1 : Int)).count (j : Int) = 0 := by
  rw [List.count_replicate]
  have h1 : ((-1 : Int) == (j : Int)) = false := by rw [beq_eq_false_iff_ne]; omega
  rw [h1]
  simp
theorem count_oth {n : Nat} : ∀ {r : List Int}, (∀ e ∈ r, -1 ≤ e ∧ e < (n : Int)) → ∀ {j : Nat}, j < n → (r.map (oth (n : Int))).count (((n - 1 - j : Nat)) : Int) = r.count (j : Int)
  | [], _, _, _ => rfl
  | e :: r, h, j, hj => by
    rw [List.map_cons, List.count_cons, List.count_cons, count_oth (fun x hx => h x (List.mem_cons_of_mem _ hx)) hj]
    congr 1
    have he := h e List.mem_cons_self
    have : (oth (n : Int) e == (((n - 1 - j : Nat)) : Int)) = (e == (j : Int)) := by
      unfold oth
      rw [Bool.eq_iff_iff]
      simp only [beq_iff_eq]
      split <;> omega
    rw [this]
/-- a chain's rows -/
structure ChR (ls : List Nat) (i : Nat) (rows : List (List Int)) : Prop where
  n : rows.length = ls.length
  at_ : ∀ k, k < ls.length → (1 ≤ k ∧ k ≤ i → ∃ t, t < ls.getD k 0 ∧ rows.getD k [] = (List.replicate (ls.getD k 0) (-1)).set t ((k - 1 : Nat) : Int)) ∧ (k = 0 ∨ i < k → rows.getD k [] = List.replicate (ls.getD k 0) (-1))
structure LsOk (ls : List Nat) : Prop where
  n1 : 1 ≤ ls.length
  n12 : ls.length ≤ 12
  l : ∀ k, k < ls.length → 1 ≤ ls.getD k 0 ∧ ls.getD k 0 ≤ 8
theorem ChR.row {ls : List Nat} {rows : List (List Int)} (C : ChR ls (ls.length - 1) rows) (L : LsOk ls) {k : Nat} (hk : k < ls.length) : (rows.getD k []).length = ls.getD k 0 ∧ (∀ e ∈ rows.getD k [], e = -1 ∨ 1 ≤ k ∧ e = ((k - 1 : Nat) : Int)) ∧ (∃ e ∈ rows.getD k [], -1 ≤ e ∧ e < (k : Int)) ∧ ∀ j : Nat, (rows.getD k []).count (j : Int) = if j + 1 = k then 1 else 0 := by
  obtain ⟨l1, l8⟩ := L.l k hk
  by_cases h : k = 0
  · have e := (C.at_ k hk).2 (.inl h)
    rw [e]
    refine ⟨by simp, fun x hx => .inl (List.eq_of_mem_replicate hx), ⟨-1, List.mem_replicate.mpr ⟨by omega, rfl⟩, by omega, by omega⟩, fun j => ?_⟩
    rw [count_none, if_neg (by omega)]
  · obtain ⟨t, ht, e⟩ := (C.at_ k hk).1 ⟨by omega, by omega⟩
    rw [e]
    refine ⟨by simp, fun x hx => ?_, ⟨((k - 1 : Nat) : Int), ?_, by omega, by omega⟩, fun j => ?_⟩
    · rcases List.mem_or_eq_of_mem_set hx with y | y
      · exact .inl (List.eq_of_mem_replicate y)
      · exact .inr ⟨by omega, y⟩
    · rw [List.mem_iff_getElem?]
      exact ⟨t, List.getElem?_set_self (by rw [List.length_replicate]; exact ht)⟩
    · rw [count_one ht]
      by_cases q : j = k - 1
      · rw [if_pos q, if_pos (by omega)]
      · rw [if_neg q, if_neg (by omega)]
theorem ChR.wf {ls : List Nat} {rows : List (List Int)} (C : ChR ls (ls.length - 1) rows) (L : LsOk ls) : Wf rows := by
  refine ⟨by rw [C.n]; exact L.n1, by rw [C.n]; exact L.n12, fun r hr => ?_⟩
  obtain ⟨k, hk, rfl⟩ := List.getElem_of_mem hr
  have hk' : k < ls.length := by rw [← C.n]; exact hk
  obtain ⟨a1, a2, _⟩ := C.row L hk'
  have hl := L.l k hk'
  rw [getD_get hk] at a1 a2
  exact ⟨by omega, by omega, fun e he => by rcases a2 e he with z | ⟨z1, z2⟩ <;> omega⟩
theorem ChR.down {ls : List Nat} {rows : List (List Int)} (C : ChR ls (ls.length - 1) rows) (L : LsOk ls) : Down rows := fun k hk => (C.row L (by rw [← C.n]; exact hk)).2.2.1
theorem ChR.fwd {ls : List Nat} {rows : List (List Int)} (C : ChR ls (ls.length - 1) rows) (L : LsOk ls) : Chn ls rows id ∧ 1 ≤ treesN rows := by
  refine ⟨⟨C.n, fun i hi => (L.l i (by rw [← C.n]; exact hi)).1, fun i hi => hi, fun i _ => rfl, fun f => rfl, fun i hi => (C.row L (by rw [← C.n]; exact hi)).1, fun i hi j _ => (C.row L (by rw [← C.n]; exact hi)).2.2.2 j⟩, ?_⟩
  rw [trees_rk id fun i hi => by
    have hi' : i < ls.length := by rw [← C.n]; exact hi
    obtain ⟨a1, a2, _⟩ := C.row L hi'
    have hl := L.l i hi'
    refine ⟨by omega, fun e he => ?_⟩
    rcases a2 e he with z | ⟨z1, z2⟩
    · exact .inl z
    · exact .inr ⟨by omega, by omega, by show e.toNat < i; omega⟩]
  have := prodL_pos (l := lensN rows) fun x hx => by
    unfold lensN at hx
    obtain ⟨r, hr, rfl⟩ := List.mem_map.mp hx
    exact ((C.wf L).2.2 r hr).1
  omega
theorem rev_get {rows : List (List Int)} {f : Int → Int} {k : Nat} (hk : k < rows.length) : (rows.reverse.map fun r => r.map f).getD (rows.length - 1 - k) [] = (rows.getD k []).map f := by
  rw [List.getD_eq_getElem?_getD, List.getElem?_map, List.getElem?_reverse (by omega), show rows.length - 1 - (rows.length - 1 - k) = k by omega, List.getElem?_eq_getElem hk, getD_get hk]
  rfl
theorem ChR.bwd {ls : List Nat} {rows : List (List Int)} (C : ChR ls (ls.length - 1) rows) (L : LsOk ls) : Chn ls (rows.reverse.map fun r => r.map (oth (rows.length : Int))) (fun k => rows.length - 1 - k) ∧ 1 ≤ treesN (rows.reverse.map fun r => r.map (oth (rows.length : Int))) := by
  have W := C.wf L
  have hl : (rows.reverse.map fun r => r.map (oth (rows.length : Int))).length = rows.length := by simp
  have g : ∀ i, i < rows.length → (rows.reverse.map fun r => r.map (oth (rows.length : Int))).getD (rows.length - 1 - i) [] = (rows.getD i []).map (oth (rows.length : Int)) := fun i hi => rev_get hi
  refine ⟨⟨by rw [hl]; exact C.n, fun i hi => (L.l i (by rw [← C.n, ← hl]; exact hi)).1, fun i hi => by rw [hl] at hi ⊢; omega, fun i hi => by rw [hl] at hi; omega, fun f => by rw [hl]; exact sumN_rev _ f, fun i hi => ?_, fun i hi j hj => ?_⟩, ?_⟩
  · rw [hl] at hi
    rw [g i hi, List.length_map]
    exact (C.row L (by rw [← C.n]; exact hi)).1
  · rw [hl] at hi hj
    rw [g i hi, count_oth (fun e he => (W.2.2 _ (gD_mem hi)).2.2 e he) hj]
    exact (C.row L (by rw [← C.n]; exact hi)).2.2.2 j
  · rw [trees_rk (fun i => rows.length - 1 - i) fun i hi => by
      rw [hl] at hi ⊢
      have gi := g (rows.length - 1 - i) (by omega)
      rw [show rows.length - 1 - (rows.length - 1 - i) = i by omega] at gi
      rw [gi, List.length_map]
      have hk' : rows.length - 1 - i < ls.length := by rw [← C.n]; omega
      obtain ⟨a1, a2, _⟩ := C.row L hk'
      have hll := L.l _ hk'
      refine ⟨by omega, fun e he => ?_⟩
      obtain ⟨e', he', rfl⟩ := List.mem_map.mp he
      unfold oth
      rcases a2 e' he' with z | ⟨z1, z2⟩
      · left; rw [z]; rfl
      · right
        rw [if_neg (by omega), z2]
        refine ⟨by omega, by omega, ?_⟩
        have : ((rows.length : Int) - 1 - ((rows.length - 1 - i - 1 : Nat) : Int)).toNat = rows.length - 1 - (rows.length - 1 - i - 1) := by omega
        rw [this]
        omega]
    have := prodL_pos (l := lensN (rows.reverse.map fun r => r.map (oth (rows.length : Int)))) fun x hx => by
      unfold lensN at hx
      obtain ⟨r, hr, rfl⟩ := List.mem_map.mp hx
      obtain ⟨r', hr', rfl⟩ := List.mem_map.mp hr
      rw [List.length_map]
      exact (W.2.2 r' (List.mem_reverse.mp hr')).1
    omega
theorem ChR.step {ls : List Nat} {i t : Nat} {rows : List (List Int)} (C : ChR ls i rows) (hi : i + 1 < ls.length) (ht : t < ls.getD (i + 1) 0) : ChR ls (i + 1) (rows.set (i + 1) ((rows.getD (i + 1) []).set t (i : Int))) := by
  refine ⟨by rw [List.length_set]; exact C.n, fun k hk => ?_⟩
  have hr : rows.getD (i + 1) [] = List.replicate (ls.getD (i + 1) 0) (-1) := (C.at_ (i + 1) hi).2 (.inr (by omega))
  by_cases e : i + 1 = k
  · subst e
    rw [gD_set_self (by rw [C.n]; exact hi), hr]
    exact ⟨fun _ => ⟨t, ht, by rw [Nat.add_sub_cancel]⟩, fun z => by omega⟩
  · rw [gD_set_ne e]
    obtain ⟨c1, c2⟩ := C.at_ k hk
    exact ⟨fun z => c1 ⟨z.1, by omega⟩, fun z => c2 (by omega)⟩

def zB (rows : List (List Int)) (ts : List Int) : Brd := ⟨rows, ts, List.replicate rows.length 0, List.replicate rows.length 0, 0⟩
theorem zB_ok {rows : List (List Int)} {ts : List Int} (W : Wf rows) (T : TurnsOk rows ts) : BrdOk (zB rows ts) := ⟨W, T, by show (List.replicate _ _).length = _; simp; rfl, by show (List.replicate _ _).length = _; simp; rfl, rep_nn _⟩
theorem two_runs {rows : List (List Int)} {ts : List Int} {i j m : Nat} {b' : Brd} (W : Wf rows) (T : TurnsOk rows ts) (hi : i < rows.length) (hj : j < rows.length) (R : RunAll (zB rows ts) [i, j] m b') :
    ∃ N1 N2, RunTo (withL (zB rows ts) ((List.replicate rows.length 0).set i 1)) N1 ∧ RunTo (withL (iterR N1 (withL (zB rows ts) ((List.replicate rows.length 0).set i 1))) ((List.replicate rows.length 0).set j 1)) N2 ∧ m = N1 + N2 ∧ b' = iterR N2 (withL (iterR N1 (withL (zB rows ts) ((List.replicate rows.length 0).set i 1))) ((List.replicate rows.length 0).set j 1)) := by
  have O := zB_ok W T
  obtain ⟨m1, N2, b1, R1, RT2, rfl, rfl⟩ := R.last (zs := [i]) (z := j) rfl
  obtain ⟨m0, N1, b0, R0, RT1, rfl, rfl⟩ := R1.last (zs := []) (z := i) rfl
  obtain ⟨rfl, rfl⟩ := R0.zero
  have e1 : ldB (zB rows ts) i = withL (zB rows ts) ((List.replicate rows.length 0).set i 1) := by
    unfold ldB
    show withL _ ((List.replicate rows.length (0 : Int)).set i ((List.replicate rows.length (0 : Int)).getD i 0 + 1)) = _
    rw [rep_get]
    rfl
  rw [e1] at RT1 RT2 ⊢
  have O1 := withL_ok O (l := (List.replicate rows.length 0).set i 1) (by rw [List.length_set, List.length_replicate]; rfl) (set_nn (rep_nn _) (by decide))
  obtain ⟨OA, rA, _⟩ := O1.iter N1
  have hz := laden_nil RT1.done OA.P
  have hzl : (iterR N1 (withL (zB rows ts) ((List.replicate rows.length 0).set i 1))).loads = List.replicate rows.length 0 := by
    rw [hz, OA.L, rA]
    rfl
  have e2 : ldB (iterR N1 (withL (zB rows ts) ((List.replicate rows.length 0).set i 1))) j = withL (iterR N1 (withL (zB rows ts) ((List.replicate rows.length 0).set i 1))) ((List.replicate rows.length 0).set j 1) := by
    unfold ldB
    rw [hzl, rep_get]
    rfl
  rw [e2] at RT2 ⊢
  exact ⟨N1, N2, RT1, RT2, by omega, rfl⟩
theorem exch22 {rows : List (List Int)} {ts : List Int} {i j m1 m2 m3 : Nat} {b1 b2 b3 : Brd} (W : Wf rows) (T : TurnsOk rows ts) (hi : i < rows.length) (hj : j < rows.length) (R1 : RunAll (zB rows ts) [i, j] m1 b1) (R2 : RunAll (zB rows ts) [j, i] m2 b2) (R3 : RunAll (ldB (zB rows ts) i) [j] m3 b3) :
    m1 = m3 ∧ m2 = m3 ∧ b1 = b3 ∧ b2 = b3 ∧ BrdOk b3 ∧ b3.rows = rows ∧ b3.loads = List.replicate rows.length 0 ∧ b3.taken = 2 ∧ b3.steps.sum = (m3 : Int) := by
  have O := zB_ok W T
  obtain ⟨m0, N3, b0, R0, RT3, rfl, rfl⟩ := R3.last (zs := []) (z := j) rfl
  obtain ⟨rfl, rfl⟩ := R0.zero
  have e3 : ldB (ldB (zB rows ts) i) j = withL (zB rows ts) (((List.replicate rows.length 0).set i 1).set j (((List.replicate rows.length (0 : Int)).set i 1).getD j 0 + 1)) := by
    show withL _ ((((List.replicate rows.length (0 : Int)).set i ((List.replicate rows.length (0 : Int)).getD i 0 + 1))).set j ((((List.replicate rows.length (0 : Int)).set i ((List.replicate rows.length (0 : Int)).getD i 0 + 1))).getD j 0 + 1)) = _
    rw [rep_get]
    rfl
  rw [e3] at RT3 ⊢
  have hl : ∀ k : Nat, ((List.replicate rows.length (0 : Int)).set k 1).length = (zB rows ts).rows.length := fun k => by rw [List.length_set, List.length_replicate]; rfl
  have hp : ∀ k : Nat, ∀ e, 0 ≤ ((List.replicate rows.length (0 : Int)).set k 1).getD e 0 := fun k => set_nn (rep_nn _) (by decide)
  have hl3 : (((List.replicate rows.length (0 : Int)).set i 1).set j (((List.replicate rows.length (0 : Int)).set i 1).getD j 0 + 1)).length = (zB rows ts).rows.length := by rw [List.length_set]; exact hl i
  have hp3 : ∀ e, 0 ≤ (((List.replicate rows.length (0 : Int)).set i 1).set j (((List.replicate rows.length (0 : Int)).set i 1).getD j 0 + 1)).getD e 0 := set_nn (hp i) (by have := hp i j; omega)
  have g1 : ∀ k e : Nat, k < rows.length → ((List.replicate rows.length (0 : Int)).set k 1).getD e 0 = if e = k then 1 else 0 := fun k e hk => by
    by_cases q : e = k
    · subst q; rw [if_pos rfl, gD_set_self (by rw [List.length_replicate]; exact hk)]
    · rw [if_neg q, gD_set_ne (Ne.symm q), rep_get]
  have hs : ∀ e, e < (zB rows ts).rows.length → (((List.replicate rows.length (0 : Int)).set i 1).set j (((List.replicate rows.length (0 : Int)).set i 1).getD j 0 + 1)).getD e 0 = ((List.replicate rows.length (0 : Int)).set i 1).getD e 0 + ((List.replicate rows.length (0 : Int)).set j 1).getD e 0 := fun e _ => by
    rw [g1 j e hj]
    by_cases q : e = j
    · subst q
      rw [gD_set_self (by rw [List.length_set, List.length_replicate]; exact hj), if_pos rfl]
    · rw [gD_set_ne (Ne.symm q), if_neg q]
      omega
  obtain ⟨A1, A2, RA1, RA2, rfl, rfl⟩ := two_runs W T hi hj R1
  obtain ⟨B1, B2, RB1, RB2, rfl, rfl⟩ := two_runs W T hj hi R2
  obtain ⟨x1, y1⟩ := exch O (hl i) (hl j) hl3 (hp i) (hp j) hp3 hs RA1 RA2 RT3
  obtain ⟨x2, y2⟩ := exch O (hl j) (hl i) hl3 (hp j) (hp i) hp3 (fun e he => by rw [hs e he]; omega) RB1 RB2 RT3
  have O3 := withL_ok O hl3 hp3
  obtain ⟨OC, rC, tC⟩ := O3.iter N3
  have hz := laden_nil RT3.done OC.P
  have hzl : (iterR N3 (withL (zB rows ts) (((List.replicate rows.length 0).set i 1).set j (((List.replicate rows.length (0 : Int)).set i 1).getD j 0 + 1)))).loads = List.replicate rows.length 0 := by
    rw [hz, OC.L, rC]
    rfl
  refine ⟨by omega, by omega, x1, x2, OC, rC, hzl, ?_, ?_⟩
  · rw [hzl, rep_sum0] at tC
    have t0 : (withL (zB rows ts) (((List.replicate rows.length 0).set i 1).set j (((List.replicate rows.length (0 : Int)).set i 1).getD j 0 + 1))).loads.sum = 2 := by
      show (((List.replicate rows.length (0 : Int)).set i 1).set j (((List.replicate rows.length (0 : Int)).set i 1).getD j 0 + 1)).sum = 2
      rw [sum_set (by rw [List.length_set, List.length_replicate]; exact hj), sum_set (by rw [List.length_replicate]; exact hi), rep_sum0, rep_get]
      omega
    rw [t0] at tC
    have t1 : (withL (zB rows ts) (((List.replicate rows.length 0).set i 1).set j (((List.replicate rows.length (0 : Int)).set i 1).getD j 0 + 1))).taken = 0 := rfl
    rw [t1] at tC
    omega
  · have := iter_steps O3 RT3 N3 (Nat.le_refl _)
    rw [this]
    show (List.replicate rows.length (0 : Int)).sum + (N3 : Int) = _
    rw [rep_sum0]
    omega
/-- a board's places -/
structure Bo where
  p : Addr
  dx : Addr
  aR : Addr
  as : List Addr
  aT : Addr
  aL : Addr
  aS : Addr
def Bo.own (o : Bo) : List Addr := ownB o.p o.aT o.aL o.aS o.aR o.as
abbrev Bo.at (C : Addr) (H : Hp) (o : Bo) (b : Brd) : Prop := BoardAt C H o.p o.dx o.aR o.as o.aT o.aL o.aS b
theorem Bo.ins {C : Addr} {H : Hp} {o : Bo} {b : Brd} (B : o.at C H b) : ∀ x ∈ o.own, ∃ y, H x = some y := board_in B
theorem Bo.kept {C : Addr} {H H' : Hp} {o u : Bo} {b : Brd} (B : o.at C H b) (k : ∀ x y, x ∉ u.own → H x = some y → H' x = some y) (d : ∀ x ∈ o.own, x ∉ u.own) : o.at C H' b := BoardAt.keep B fun c y hc e => k c y (d c hc) e
/-- the places that a board has behind its runs -/
theorem own_new {H : Hp} {u : Bo} {aT aL aS : Addr} (fr : ∀ x ∈ [aT, aL, aS], x ∈ u.own ∨ H x = none) : ∀ x ∈ ownB u.p aT aL aS u.aR u.as, x ∈ u.own ∨ H x = none := fun x hx => by
  unfold ownB at hx
  simp only [List.mem_cons] at hx
  have o1 : u.p ∈ u.own := List.mem_cons_self
  rcases hx with rfl | rfl | rfl | rfl | rfl | hx
  · exact .inl o1
  · exact fr _ (by simp)
  · exact fr _ (by simp)
  · exact fr _ (by simp)
  · left; unfold Bo.own ownB; simp
  · left; unfold Bo.own ownB; simp [hx]
section
variable {P : Program} {w : World} {K : PySem.W.Frag} {mg : Str → Option Value} {base : Heap} {A : Adr}
theorem sc_drawn : FnScope ["script", "k", "many", "cell", "mixed"] ["script", "k", "many"] (defScope s_drawn) := ⟨rfl, rfl, rfl, by decide +kernel, rfl, by decide +kernel, by decide +kernel⟩
theorem ok_drawn (T : Txt K mg A) : FnOk P w K mg base CX0 1 A.f_drawn A.fd_drawn ["script", "k", "many"] (spDrawn K) := by
  refine T.F_drawn.ok sc_drawn (fun vs H Q E h => ?_) (fun cdv A' outer s H vs Q E hr h => ?_)
  · obtain ⟨a, ns, k, many, rfl, _⟩ := h
    rfl
  · obtain ⟨a, ns, k, many, rfl, hS, hm, k1, k2, q⟩ := h
    refine ⟨_, (pss_cons (ps_set (i := 3) sc_drawn.nd rfl (Or.inl rfl) pe_int)
      (pss_cons (ps_if (pt_cmpR op_gt (pe_callB (call_lenK (K := K) rfl) (by rfl) T.n_len PySem.boot_len (pa_cons (pv 0) pa_nil)) pe_int (nomark _))
        (pss_one (ps_set (i := 3) sc_drawn.nd rfl (Or.inl rfl) (pe_ix (ix_listK (K := K) rfl) (pv 0) (pe_op op_mod (pv 1) (pe_callB (call_lenK (K := K) rfl) (by rfl) T.n_len PySem.boot_len (pa_cons (pv 0) pa_nil))) (fun _ _ => rfl))))
        pss_nil)
      (pss_cons (ps_set (i := 4) sc_drawn.nd rfl (Or.inl rfl) (pe_op op_add (pe_op op_add (pe_op op_mul (pv 3) (pe_op op_add pe_int (pe_op op_mul pe_int (pe_op op_mod (pv 1) pe_int)))) (pe_op op_mul (pe_op op_mul (pe_op op_add (pv 1) pe_int) (pe_op op_add (pv 1) pe_int)) pe_int)) (pe_callB (call_lenK (K := K) rfl) (by rfl) T.n_len PySem.boot_len (pa_cons (pv 0) pa_nil))))
      (pss_one (ps_ret (pe_op op_mod (pe_op op_fdiv (pe_op op_mod (pv 4) pe_int) pe_int) (pv 2))))))), ?_⟩
    have hl : (ns.map V.int).length = ns.length := by simp
    refine ⟨_, rfl, _, _, rfl, .inl hS, _, _, rfl, rfl, _, rfl, ?_⟩
    rw [hl]
    refine ite2 (fun hc => ?_) (fun hc => ?_)
    · have hc' : 0 < (ns.length : Int) := by simpa using hc
      refine ⟨_, rfl, _, rfl, _, rfl, _, _, rfl, .inl hS, _, _, rfl, rfl, (by rw [hl]; exact hc'), _, _, _, _, rfl, rfl, hS, at_ints (Int.emod_nonneg _ (by rw [hl]; omega)) (by rw [hl]; exact Int.emod_lt_of_pos _ hc'), ?_⟩
      refine ⟨_, rfl, _, rfl, _, _, rfl, rfl, (by show (0 : Int) < 97; decide), _, _, rfl, rfl, .inl ⟨by decide, by decide⟩, _, _, rfl, rfl, _, _, rfl, rfl, .inr ⟨by omega, by omega⟩,
        _, rfl, _, _, rfl, rfl, _, rfl, _, _, rfl, rfl, _, _, rfl, rfl, .inl ⟨by omega, by omega⟩, _, _, rfl, rfl, .inr ⟨by decide, by decide⟩, _, _, rfl, rfl, _, rfl, _, _, rfl, .inl hS, _, _, rfl, rfl, ?_⟩
      refine ⟨_, rfl, _, _, rfl, rfl, (by show (0 : Int) < 2147483647; decide), _, _, rfl, rfl, ⟨by decide, by decide⟩, _, rfl, _, _, rfl, rfl, hm, ?_⟩
      have e : drawn ns k many = (ns.getD (k % (ns.length : Int)).toNat 0 * (48271 + 9973 * (k % 97)) + (k + 1) * (k + 3) * 16807 + (ns.length : Int)) % 2147483647 / 16 % many := by
        unfold drawn
        rw [if_pos hc']
      rw [e] at q
      rw [hl]
      exact q
    · have hc' : ¬ 0 < (ns.length : Int) := by simpa using hc
      refine ⟨_, rfl, _, rfl, _, _, rfl, rfl, (by show (0 : Int) < 97; decide), _, _, rfl, rfl, .inl ⟨by decide, by decide⟩, _, _, rfl, rfl, _, _, rfl, rfl, .inr ⟨by omega, by omega⟩,
        _, rfl, _, _, rfl, rfl, _, rfl, _, _, rfl, rfl, _, _, rfl, rfl, .inl ⟨by omega, by omega⟩, _, _, rfl, rfl, .inr ⟨by decide, by decide⟩, _, _, rfl, rfl, _, rfl, _, _, rfl, .inl hS, _, _, rfl, rfl, ?_⟩
      refine ⟨_, rfl, _, _, rfl, rfl, (by show (0 : Int) < 2147483647; decide), _, _, rfl, rfl, ⟨by decide, by decide⟩, _, rfl, _, _, rfl, rfl, hm, ?_⟩
      have e : drawn ns k many = (7 * (48271 + 9973 * (k % 97)) + (k + 1) * (k + 3) * 16807 + (ns.length : Int)) % 2147483647 / 16 % many := by
        unfold drawn
        rw [if_neg hc']
      rw [e] at q
      rw [hl]
      exact q
theorem sc_other : FnScope ["gone", "many"] ["gone", "many"] (defScope s_other) := ⟨rfl, rfl, rfl, by decide +kernel, rfl, by decide +kernel, by decide +kernel⟩
theorem ok_other (T : Txt K mg A) : FnOk P w K mg base CX0 1 A.f_other A.fd_other ["gone", "many"] spOther := by
  refine T.F_other.ok sc_other (fun vs H Q E h => ?_) (fun cdv A' outer s H vs Q E hr h => ?_)
  · obtain ⟨g, many, rfl, _⟩ := h
    rfl
  · obtain ⟨g, many, rfl, q⟩ := h
    refine ⟨_, (pss_cons (ps_if (pt_cmpR op_lt (pv 0) pe_int (nomark _))
        (pss_one (ps_ret (pv 0)))
        pss_nil)
      (pss_one (ps_ret (pe_op op_sub (pe_op op_sub (pv 1) pe_int) (pv 0))))), ?_⟩
    refine ⟨_, rfl, _, _, rfl, rfl, _, rfl, ?_⟩
    unfold oth at q
    refine ite2 (fun hc => ?_) (fun hc => ?_)
    · have hc' : g < 0 := by simpa using hc
      rw [if_pos hc'] at q
      exact ⟨_, rfl, q⟩
    · have hc' : ¬ g < 0 := by simpa using hc
      rw [if_neg hc'] at q
      exact ⟨_, rfl, _, _, rfl, rfl, _, rfl, _, _, rfl, rfl, q⟩
theorem sc_rows_by : FnScope ["script", "big", "many", "rows", "k", "at", "size", "top", "row", "j"] ["script"] (defScope s_rows_by) := ⟨rfl, rfl, rfl, by decide +kernel, rfl, by decide +kernel, by decide +kernel⟩
theorem ok_rows_by (T : Txt K mg A) (G_drawn : FnOk P w K mg base CX0 1 A.f_drawn A.fd_drawn ["script", "k", "many"] (spDrawn K)) (G_other : FnOk P w K mg base CX0 1 A.f_other A.fd_other ["gone", "many"] spOther) : FnOk P w K mg base CX0 3 A.f_rows_by A.fd_rows_by ["script"] (spRowsT K) := by
  refine T.F_rows_by.ok sc_rows_by (fun vs H Q E h => ?_) (fun cdv A' outer s H vs Q E hr h => ?_)
  · obtain ⟨a, ns, rfl, _⟩ := h
    rfl
  · obtain ⟨a, ns, rfl, hS, q⟩ := h
    refine ⟨_, (pss_cons (ps_set (i := 1) sc_rows_by.nd rfl (Or.inl rfl) (pe_cmpR op_eq (pe_call G_drawn (hr.mono (by decide)) (by rfl) T.m__law_drawn T.k__law_drawn T.b__law_drawn .nil pass0 (pa_cons (pv 0) (pa_cons pe_int (pa_cons pe_int pa_nil)))) pe_int (nomark _)))
      (pss_cons (ps_set (i := 2) sc_rows_by.nd rfl (Or.inr rfl) (pe_op op_add pe_int (pe_call G_drawn (hr.mono (by decide)) (by rfl) T.m__law_drawn T.k__law_drawn T.b__law_drawn .nil pass0 (pa_cons (pv 0) (pa_cons pe_int (pa_cons pe_int pa_nil))))))
      (pss_cons (ps_if (pt_val (pv 1))
        (pss_one (ps_set (i := 2) sc_rows_by.nd rfl (Or.inr rfl) (pe_op op_add pe_int (pe_call G_drawn (hr.mono (by decide)) (by rfl) T.m__law_drawn T.k__law_drawn T.b__law_drawn .nil pass0 (pa_cons (pv 0) (pa_cons pe_int (pa_cons pe_int pa_nil)))))))
        pss_nil)
      (pss_cons (ps_set (i := 3) sc_rows_by.nd rfl (Or.inl rfl) (pe_lst pa_nil))
      (pss_cons (ps_for PassesOwn.never rfl (pi_range1 (by rfl) T.n_range (pa_cons (pv 2) pa_nil)) (pg_name (i := 4) sc_rows_by.nd rfl (Or.inl rfl))
        (pss_cons (ps_set (i := 5) sc_rows_by.nd rfl (Or.inr rfl) (pe_op op_add pe_int (pe_op op_mul pe_int (pv 4))))
        (pss_cons (ps_set (i := 6) sc_rows_by.nd rfl (Or.inl rfl) (pe_op op_add pe_int (pe_call G_drawn (hr.mono (by decide)) (by rfl) T.m__law_drawn T.k__law_drawn T.b__law_drawn .nil pass0 (pa_cons (pv 0) (pa_cons (pv 5) (pa_cons pe_int pa_nil))))))
        (pss_cons (ps_set (i := 7) sc_rows_by.nd rfl (Or.inr rfl) (pe_op op_add (pv 2) pe_int))
        (pss_cons (ps_if (pt_val (pv 1))
          (pss_cons (ps_set (i := 6) sc_rows_by.nd rfl (Or.inl rfl) (pe_op op_add pe_int (pe_call G_drawn (hr.mono (by decide)) (by rfl) T.m__law_drawn T.k__law_drawn T.b__law_drawn .nil pass0 (pa_cons (pv 0) (pa_cons (pv 5) (pa_cons pe_int pa_nil))))))
          (pss_one (ps_set (i := 7) sc_rows_by.nd rfl (Or.inr rfl) (pe_op op_add (pv 4) pe_int))))
          pss_nil)
        (pss_cons (ps_setComp (i := 8) sc_rows_by.nd rfl rfl (CompSc.of (N' := ["j", "script", "at", "top"]) (ix := [none, some 0, some 5, some 7]) rfl (by kernel_rfl)) rfl rfl rfl rfl (pi_range1 (by rfl) T.n_range (pa_cons (pv 6) pa_nil)) (by exact fun _ _ _ _ _ => pf_nil) (by exact fun _ _ _ _ _ => (pe_op op_sub (pe_call G_drawn (hr.mono (by decide)) (by rfl) T.m__law_drawn T.k__law_drawn T.b__law_drawn .nil pass0 (pa_cons (pv 1) (pa_cons (pe_op op_add (pe_op op_add (pv 2) pe_int) (pv 0)) (pa_cons (pv 3) pa_nil)))) pe_int)))
        (pss_cons (ps_asg (pe_op op_sub (pe_call G_drawn (hr.mono (by decide)) (by rfl) T.m__law_drawn T.k__law_drawn T.b__law_drawn .nil pass0 (pa_cons (pv 0) (pa_cons (pe_op op_add (pv 5) pe_int) (pa_cons (pe_op op_add (pv 4) pe_int) pa_nil)))) pe_int) (pg_sub (pv 8) (pe_call G_drawn (hr.mono (by decide)) (by rfl) T.m__law_drawn T.k__law_drawn T.b__law_drawn .nil pass0 (pa_cons (pv 0) (pa_cons (pe_op op_add (pv 5) pe_int) (pa_cons (pv 6) pa_nil)))) set_list))
        (pss_one (ps_expr (pe_bm PySem.F.plainAttrs_list PySem.F.slot_list_append PySem.F.type_list_append mt_append (pv 3) (pa_cons (pv 8) pa_nil)))))))))))
      (pss_cons (ps_if (PW.pt (pw_and (pt_val (pv 1)) (pw_and1 (pt_cmpR op_gt (pe_call G_drawn (hr.mono (by decide)) (by rfl) T.m__law_drawn T.k__law_drawn T.b__law_drawn .nil pass0 (pa_cons (pv 0) (pa_cons pe_int (pa_cons pe_int pa_nil)))) pe_int (nomark _)))))
        (pss_one (ps_for PassesOwn.never rfl (pi_range1 (by rfl) T.n_range (pa_cons pe_int pa_nil)) (pg_name (i := 9) sc_rows_by.nd rfl (Or.inl rfl))
          (pss_cons (ps_set (i := 8) sc_rows_by.nd rfl (Or.inl rfl) (pe_ix (ix_listK (K := K) rfl) (pv 3) (pe_call G_drawn (hr.mono (by decide)) (by rfl) T.m__law_drawn T.k__law_drawn T.b__law_drawn .nil pass0 (pa_cons (pv 0) (pa_cons (pe_op op_add pe_int (pv 9)) (pa_cons (pv 2) pa_nil)))) (fun _ _ => rfl)))
          (pss_one (ps_if (pt_cmpR op_lt (pe_callB (call_lenK (K := K) rfl) (by rfl) T.n_len PySem.boot_len (pa_cons (pv 8) pa_nil)) pe_int (nomark _))
            (pss_one (ps_expr (pe_bm PySem.F.plainAttrs_list PySem.F.slot_list_insert PySem.F.type_list_insert mt_insert (pv 8) (pa_cons (pe_call G_drawn (hr.mono (by decide)) (by rfl) T.m__law_drawn T.k__law_drawn T.b__law_drawn .nil pass0 (pa_cons (pv 0) (pa_cons (pe_op op_add pe_int (pv 9)) (pa_cons (pe_op op_add (pe_callB (call_lenK (K := K) rfl) (by rfl) T.n_len PySem.boot_len (pa_cons (pv 8) pa_nil)) pe_int) pa_nil)))) (pa_cons (pe_call G_drawn (hr.mono (by decide)) (by rfl) T.m__law_drawn T.k__law_drawn T.b__law_drawn .nil pass0 (pa_cons (pv 0) (pa_cons (pe_op op_add pe_int (pv 9)) (pa_cons (pv 2) pa_nil)))) pa_nil)))))
            pss_nil)))))
        pss_nil)
      (pss_cons (ps_if (pt_cmpR op_eq (pe_call G_drawn (hr.mono (by decide)) (by rfl) T.m__law_drawn T.k__law_drawn T.b__law_drawn .nil pass0 (pa_cons (pv 0) (pa_cons pe_int (pa_cons pe_int pa_nil)))) pe_int (nomark _))
        (pss_one (ps_setComp (i := 3) sc_rows_by.nd rfl rfl (CompSc.of (N' := ["row", "many"]) (ix := [none, some 2]) rfl (by kernel_rfl)) rfl rfl rfl rfl (pi_revK (K := K) rfl (by rfl) T.n_reversed (pa_cons (pv 3) pa_nil)) (by exact fun _ _ _ _ _ => pf_nil) (by exact fun _ _ _ _ _ => (pe_comp (CompSc.of (N' := ["gone", "many"]) (ix := [none, some 1]) rfl (by kernel_rfl)) rfl rfl rfl rfl (pi_listK (K := K) rfl (pv 0)) (by exact fun _ _ _ _ _ => pf_nil) (by exact fun _ _ _ _ _ => (pe_call G_other (hr.mono (by decide)) (by rfl) T.m__law_other T.k__law_other T.b__law_other .nil pass0 (pa_cons (pv 0) (pa_cons (pv 1) pa_nil)))) (fun _ => rfl)))))
        pss_nil)
      (pss_one (ps_ret (pv 3)))))))))), ?_⟩
    have d12 := drawn_nn ns 1 (many := 4) (by decide)
    have d12' := drawn_lt ns 1 (many := 4) (by decide)
    have d28 := drawn_nn ns 2 (many := 8) (by decide)
    have d28' := drawn_lt ns 2 (many := 8) (by decide)
    refine ⟨_, rfl, a, ns, 0, 4, rfl, hS, by decide, by decide, by decide, rfl, ?_⟩
    generalize decide (V.int (drawn ns 0 4) = V.int 1) = big
    refine ⟨_, rfl, a, ns, 1, 4, rfl, hS, by decide, by decide, by decide, _, _, rfl, rfl, ?_⟩
    dsimp only [gName]
    refine seq_mk (fun σ' H' => ∃ many : Int, 1 ≤ many ∧ many ≤ 12 ∧ (big = false → many ≤ 4) ∧ σ' = [some (.ref a), some (.bl big), some (.int many), none, none, none, none, none, none, none] ∧ H = H') ?rest (fun rest => ?way)
    case way =>
      refine ⟨_, rfl, _, rfl, ?_⟩
      refine ite2 (fun hb => ?_) (fun _ => rest _ _ ⟨_, by omega, by omega, fun _ => by omega, rfl, rfl⟩)
      refine ⟨_, rfl, a, ns, 2, 8, rfl, hS, by decide, by decide, by decide, _, _, rfl, rfl, ?_⟩
      exact rest _ _ ⟨_, by omega, by omega, fun z => by subst z; exact absurd hb (by decide), rfl, rfl⟩
    rintro σ' H' ⟨many, hm1, hm12, hm4, rfl, rfl⟩
    -- rows = []
    refine ⟨small12 (by simp), fun R hR => ?_⟩
    have M0 := Mat.new (H := upd H R (.lst [])) (R := R) upd_same
    -- for k in range(many)
    refine ⟨_, rfl, _, rfl, by omega, by omega, ?_⟩
    refine for_range (fun i σ H2 => ∃ (as : List Addr) (rows : List (List Int)) (x4 x5 x6 x7 x8 x9 : Option V), σ = [some (.ref a), some (.bl big), some (.int many), some (.ref R), x4, x5, x6, x7, x8, x9] ∧ Mat H2 R as rows ∧ rows.length = i ∧ (∀ r ∈ rows, RowOk many.toNat r) ∧ Shape rows (fun _ => if big = true then 0 else 2) ∧ Same H H2 ∧ ∀ c ∈ R :: as, H c = none)
      ⟨[], [], none, none, none, none, none, none, rfl, M0, rfl, (fun _ z => by cases z), shape_nil _, same_new hR, fun c hc => by rw [List.mem_singleton.mp hc]; exact hR⟩ ?_ ?_
    · rintro i σ H2 hi ⟨as, rows, x4, x5, x6, x7, x8, x9, rfl, M, hlen, hrow, dn, s2, fr⟩
      have hS2 : SqL K H2 a (ns.map V.int) := s2.seq hS
      have hI : i < 100 := by omega
      have b3 := drawn_nn ns (10 + 20 * (0 + (i : Int))) (many := 3) (by decide)
      have b3' := drawn_lt ns (10 + 20 * (0 + (i : Int))) (many := 3) (by decide)
      have b8 := drawn_nn ns (10 + 20 * (0 + (i : Int))) (many := 8) (by decide)
      have b8' := drawn_lt ns (10 + 20 * (0 + (i : Int))) (many := 8) (by decide)
      refine ⟨_, rfl, _, _, rfl, rfl, .inl ⟨by decide, by decide⟩, _, _, rfl, rfl, ?_⟩
      refine ⟨_, rfl, _, rfl, a, ns, _, 3, rfl, hS2, by decide, (kb10 hI).1, (kb10 hI).2, _, _, rfl, rfl, ?_⟩
      refine ⟨_, rfl, _, _, rfl, rfl, ?_⟩
      dsimp only [gName]
      refine seq_mk (fun σ' H' => ∃ sz tp : Int, 1 ≤ sz ∧ sz ≤ 8 ∧ 1 ≤ tp ∧ tp ≤ many + 1 ∧ (big = true → tp = (i : Int) + 1) ∧ (big = false → sz ≤ 3) ∧ σ' = [some (.ref a), some (.bl big), some (.int many), some (.ref R), some (.int (0 + (i : Int))), some (.int (10 + 20 * (0 + (i : Int)))), some (.int sz), some (.int tp), x8, x9] ∧ H2 = H') ?rest2 (fun rest => ?way2)
      case way2 =>
        refine ⟨_, rfl, _, rfl, ?_⟩
        refine ite2 (fun hb => ?_) (fun hb => rest _ _ ⟨_, _, by omega, by omega, by omega, by omega, fun z => by subst z; exact absurd rfl hb, fun _ => by omega, rfl, rfl⟩)
        refine ⟨_, rfl, _, rfl, a, ns, _, 8, rfl, hS2, by decide, (kb10 hI).1, (kb10 hI).2, _, _, rfl, rfl, ?_⟩
        refine ⟨_, rfl, _, _, rfl, rfl, ?_⟩
        exact rest _ _ ⟨_, _, by omega, by omega, by omega, by omega, fun _ => by omega, fun z => by subst z; exact absurd hb (by decide), rfl, rfl⟩
      · rintro σ' H' ⟨sz, tp, hz1, hz8, ht1, htm, htb, hzb, rfl, rfl⟩
        refine ⟨_, rfl, _, rfl, by omega, by omega, ?_⟩
        refine comp_pure (ys := ((List.range sz.toNat).map fun (j : Nat) => drawn ns (10 + 20 * (0 + (i : Int)) + 3 + (0 + (j : Int))) tp - 1).map V.int) wk_range (by rw [List.length_map, List.length_range]; exact small12 (by omega)) (by simp) (fun j x y ex ey Q' q' => ?_) (fun D hD => ?_)
        · rw [List.getElem?_map] at ex ey
          rw [List.getElem?_map] at ey
          cases er : (List.range sz.toNat)[j]? with
          | none => rw [er] at ex; cases ex
          | some j' =>
            rw [er] at ex ey
            cases ex
            cases ey
            obtain ⟨hj1, hj2⟩ := List.getElem?_eq_some_iff.mp er
            rw [List.getElem_range] at hj2
            rw [List.length_range] at hj1
            have hJ : j < 100 := by omega
            subst hj2
            exact ⟨_, rfl, _, rfl, _, _, rfl, rfl, _, rfl, _, _, rfl, rfl, _, rfl, a, ns, _, _, rfl, hS2, ps1 ht1, (kb13 hI hJ).1, (kb13 hI hJ).2, _, _, rfl, rfl, q'⟩
        · have hS3 : ∀ o, SqL K (upd H2 D o) a (ns.map V.int) := fun o => (same_new hD).seq hS2
          have hDn : D ∉ R :: as := fun z => by
            rcases List.mem_cons.mp z with z | z
            · rw [z, M.hd] at hD; cases hD
            · obtain ⟨n, hn, e⟩ := List.getElem_of_mem z
              obtain ⟨a', e1, e2, _⟩ := M.get (i := n) (by rw [← M.len]; exact hn)
              rw [List.getElem?_eq_getElem hn, e] at e1
              cases e1
              rw [hD] at e2; cases e2
          have hRD : R ≠ D := fun z => hDn (by rw [← z]; exact List.mem_cons_self)
          have l1 := drawn_lt ns (10 + 20 * (0 + (i : Int)) + 1) (many := sz) (ps1 hz1)
          refine ⟨_, rfl, _, rfl, _, _, rfl, rfl, _, rfl, _, _, rfl, rfl, a, ns, _, _, rfl, hS3 _, psi, (kb12 hI).1, (kb12 hI).2, _, _, rfl, rfl, _, rfl,
            _, rfl, _, rfl, _, _, rfl, rfl, _, rfl, a, ns, _, _, rfl, hS3 _, ps1 hz1, (kb11 hI).1, (kb11 hI).2, _, _, _, _, rfl, rfl, upd_same, ixN_in (drawn_nn _ _ (ps1 hz1)) (by simp only [List.length_map, List.length_range]; omega), ?_⟩
          rw [map_set_int, upd_upd]
          have hR3 : ∀ o, (upd H2 D o) R = some (.lst (as.map V.ref)) := fun o => by rw [upd_ne hRD]; exact M.hd
          refine ⟨_, rfl, .inl ⟨rfl, _, SqL.of (hR3 _)⟩, _, rfl, R, _, _, rfl, rfl, hR3 _, (by rw [M.reflen]; exact small1000 (by omega)), ?_⟩
          refine ⟨as ++ [D], _, _, _, _, _, _, _, rfl, (M.upd (b := D) hDn).snoc (D := D) upd_same hDn, by rw [List.length_append, List.length_singleton, hlen], fun r hr => ?_, ?dnn, ?_, fun c hc => ?_⟩
          case dnn =>
            have a1 := drawn_nn ns (10 + 20 * (0 + (i : Int)) + 2) (many := 0 + (i : Int) + 1) psi
            have a2 := drawn_lt ns (10 + 20 * (0 + (i : Int)) + 2) (many := 0 + (i : Int) + 1) psi
            have hmm : (drawn ns (10 + 20 * (0 + (i : Int)) + 2) (0 + (i : Int) + 1) - 1) ∈ ((List.range sz.toNat).map fun (j : Nat) => drawn ns (10 + 20 * (0 + (i : Int)) + 3 + (0 + (j : Int))) tp - 1).set (drawn ns (10 + 20 * (0 + (i : Int)) + 1) sz).toNat (drawn ns (10 + 20 * (0 + (i : Int)) + 2) (0 + (i : Int) + 1) - 1) := by
              rw [List.mem_iff_getElem?]
              exact ⟨(drawn ns (10 + 20 * (0 + (i : Int)) + 1) sz).toNat, List.getElem?_set_self (by rw [List.length_map, List.length_range]; have := drawn_nn ns (10 + 20 * (0 + (i : Int)) + 1) (many := sz) (by omega); omega)⟩
            refine shape_snoc dn ?_ (by split <;> decide) ⟨_, hmm, by omega⟩
            rw [hlen]
            by_cases hb : big = true
            · rw [if_pos hb, ups_zero fun e he => ?_]
              · exact Nat.le_refl _
              · have htp := htb hb
                rcases List.mem_or_eq_of_mem_set he with z | z
                · obtain ⟨j, _, rfl⟩ := List.mem_map.mp z
                  have := drawn_lt ns (10 + 20 * (0 + (i : Int)) + 3 + (0 + (j : Int))) (many := tp) (by omega)
                  omega
                · omega
            · rw [if_neg hb]
              have hz3 := hzb (by simpa using hb)
              exact ups_small (by rw [List.length_set, List.length_map, List.length_range]; omega) ⟨_, hmm, by omega⟩
          · rcases List.mem_append.mp hr with z | z
            · exact hrow r z
            · rw [List.mem_singleton.mp z]
              have a1 := drawn_nn ns (10 + 20 * (0 + (i : Int)) + 2) (many := 0 + (i : Int) + 1) psi
              have a2 := drawn_lt ns (10 + 20 * (0 + (i : Int)) + 2) (many := 0 + (i : Int) + 1) psi
              exact rowok_new (many := many) (by omega) (by omega) (by omega) (by omega) (by omega) (fun j => 10 + 20 * (0 + (i : Int)) + 3 + (0 + j)) (by omega)
          · exact same_upd (same_upd s2 (s2.free hD)) (fr R List.mem_cons_self)
          · rcases List.mem_cons.mp hc with z | z
            · rw [z]; exact fr R List.mem_cons_self
            · rcases List.mem_append.mp z with z | z
              · exact fr c (List.mem_cons_of_mem _ z)
              · rw [List.mem_singleton.mp z]; exact s2.free hD
    · rintro σ H2 ⟨as, rows, x4, x5, x6, x7, x8, x9, rfl, M, hlen, hrow, dn, s2, fr⟩
      have hS2 : SqL K H2 a (ns.map V.int) := s2.seq hS
      dsimp only
      refine seq_mk (fun σ' H' => ∃ (as : List Addr) (rows : List (List Int)) (x4 x5 x6 x7 x8 x9 : Option V), σ' = [some (.ref a), some (.bl big), some (.int many), some (.ref R), x4, x5, x6, x7, x8, x9] ∧ Mat H' R as rows ∧ rows.length = many.toNat ∧ (∀ r ∈ rows, RowOk many.toNat r) ∧ Shp many rows ∧ Same H H' ∧ ∀ c ∈ R :: as, H c = none) ?rest3 (fun rest => ?way3)
      case way3 =>
        refine ⟨_, rfl, _, rfl, ?_⟩
        refine ite2 (fun hb => ?_) (fun _ => iteF (rest _ _ ⟨as, rows, x4, x5, x6, x7, x8, x9, rfl, M, hlen, hrow, shp_of dn hm4, s2, fr⟩))
        refine ⟨_, rfl, a, ns, 4, 3, rfl, hS2, by decide, by decide, by decide, _, _, rfl, rfl, _, rfl, ?_⟩
        refine ite2 (fun _ => ?_) (fun _ => rest _ _ ⟨as, rows, x4, x5, x6, x7, x8, x9, rfl, M, hlen, hrow, shp_of dn hm4, s2, fr⟩)
        refine ⟨_, rfl, by decide, by decide, ?_⟩
        refine for_range (fun i σ' H' => ∃ (as : List Addr) (rows : List (List Int)) (x4 x5 x6 x7 x8 x9 : Option V), σ' = [some (.ref a), some (.bl big), some (.int many), some (.ref R), x4, x5, x6, x7, x8, x9] ∧ Mat H' R as rows ∧ rows.length = many.toNat ∧ (∀ r ∈ rows, RowOk many.toNat r) ∧ (∃ u, Shape rows u ∧ sumU u rows.length ≤ i) ∧ Same H H' ∧ ∀ c ∈ R :: as, H c = none) ⟨as, rows, x4, x5, x6, x7, x8, x9, rfl, M, hlen, hrow, ⟨_, dn, by
            have hb' : big = true := hb
            subst hb'
            show sumU (fun _ => 0) _ ≤ 0
            rw [sumU_zero]
            exact Nat.le_refl _⟩, s2, fr⟩ ?_ (fun σ' H' h => by
          obtain ⟨as, rows, x4, x5, x6, x7, x8, x9, h1, M, hlen, hrow, ⟨u, u1, u2⟩, s2, fr⟩ := h
          exact rest σ' H' ⟨as, rows, x4, x5, x6, x7, x8, x9, h1, M, hlen, hrow, ⟨u, u1, .inl u2⟩, s2, fr⟩)
        rintro i σ' H' hi ⟨as, rows, x4, x5, x6, x7, x8, x9, rfl, M, hlen, hrow, ⟨u, dn, du⟩, s2, fr⟩
        have hi3 : i < 3 := hi
        have hI : i < 100 := Nat.lt_trans hi3 (by decide)
        have hS3 : SqL K H' a (ns.map V.int) := s2.seq hS
        have e1 := drawn_nn ns (5 + (0 + (i : Int))) (many := many) (ps1 hm1)
        have e2 := drawn_lt ns (5 + (0 + (i : Int))) (many := many) (ps1 hm1)
        have hn : (drawn ns (5 + (0 + (i : Int))) many).toNat < rows.length := by omega
        obtain ⟨c, ec, hc, hca⟩ := M.get hn
        have hrn := hrow _ (List.getElem_mem hn)
        have hcl : ((rows[(drawn ns (5 + (0 + (i : Int))) many).toNat]).map V.int).length = (rows[(drawn ns (5 + (0 + (i : Int))) many).toNat]).length := by simp
        refine ⟨_, rfl, _, rfl, _, rfl, _, _, rfl, rfl, _, rfl, a, ns, _, _, rfl, hS3, ps1 hm1, (kbc hI (by decide)).1, (kbc hI (by decide)).2, _, _, _, _, rfl, rfl, M.sq, at_list (n := (drawn ns (5 + (0 + (i : Int))) many).toNat) (by omega) (by rw [List.getElem?_map, ec]; rfl), ?_⟩
        refine ⟨_, rfl, _, _, rfl, .inl (SqL.of hc), _, _, rfl, rfl, _, rfl, ?_⟩
        refine ite2 (fun h8 => ?_) (fun _ => ⟨as, rows, _, _, _, _, _, _, rfl, M, hlen, hrow, ⟨u, dn, by omega⟩, s2, fr⟩)
        have h8' : (rows[(drawn ns (5 + (0 + (i : Int))) many).toNat]).length < 8 := by
          rw [hcl] at h8
          have := of_decide_eq_true h8
          omega
        have f1 := drawn_nn ns (253 + (0 + (i : Int))) (many := ((rows[(drawn ns (5 + (0 + (i : Int))) many).toNat]).length : Int) + 1) psl
        have f2 := drawn_lt ns (253 + (0 + (i : Int))) (many := ((rows[(drawn ns (5 + (0 + (i : Int))) many).toNat]).length : Int) + 1) psl
        have g1 := drawn_nn ns (250 + (0 + (i : Int))) (many := many) (ps1 hm1)
        have g2 := drawn_lt ns (250 + (0 + (i : Int))) (many := many) (ps1 hm1)
        refine ⟨_, rfl, .inl ⟨rfl, _, SqL.of hc⟩, _, rfl, _, rfl, _, _, rfl, rfl, _, rfl, _, _, rfl, .inl (SqL.of hc), _, _, rfl, rfl, a, ns, _, _, rfl, hS3, psl, (kbc hI (by decide)).1, (kbc hI (by decide)).2,
          _, rfl, _, rfl, _, _, rfl, rfl, _, rfl, a, ns, _, _, rfl, hS3, ps1 hm1, (kbc hI (by decide)).1, (kbc hI (by decide)).2, c, _, _, _, rfl, rfl, hc, (by rw [hcl]; exact f1), (by rw [hcl]; omega), (by rw [hcl]; exact small1000 (by omega)), ?_⟩
        rw [map_ins_int]
        refine ⟨as, _, _, _, _, _, _, _, rfl, M.set ec, by rw [List.length_set]; exact hlen, fun r hr => ?_, by rw [List.length_set]; exact shape_ins dn hn du (by omega), same_upd s2 (fr c (List.mem_cons_of_mem _ hca)), fr⟩
        rcases List.mem_or_eq_of_mem_set hr with z | z
        · exact hrow r z
        · rw [z]
          exact rowok_ins hrn h8' (by omega)
      rintro σ' H' ⟨as, rows, x4, x5, x6, x7, x8, x9, rfl, M, hlen, hrow, dn, s2, fr⟩
      have W : Wf rows := ⟨by omega, by omega, fun r hr => by rw [hlen]; exact hrow r hr⟩
      have hS3 : SqL K H' a (ns.map V.int) := s2.seq hS
      refine ⟨_, rfl, a, ns, 3, 2, rfl, hS3, by decide, by decide, by decide, rfl, _, rfl, ?_⟩
      refine ite2 (fun _ => ?_) (fun _ => ⟨_, rfl, q R as rows H' W (dn.down W).open (dn.tame W (by omega)) M s2 fr⟩)
      refine ⟨_, rfl, R, _, rfl, M.sq, ?_⟩
      refine comp_news (ls := (rows.reverse.map fun r => r.map (oth many)).map fun r => r.map V.int) (wk_rev M.sq) (by rw [List.length_reverse, M.reflen]; exact small12 (by omega)) (by simp [M.len]) (fun i x l H3 ex el s3 Q' q' => ?_) (fun as' H1 s1 hlen' nd' fr' hrows' D hD => ?_)
      · have hi : i < rows.length := by
          have := (List.getElem?_eq_some_iff.mp ex).1
          rw [List.length_reverse, M.reflen] at this
          exact this
        rw [List.getElem?_reverse (by rw [M.reflen]; exact hi), M.reflen] at ex
        obtain ⟨c, hi', rfl, ec, hc, _⟩ := M.refs ex
        have el' : l = ((rows[rows.length - 1 - i]).map (oth many)).map V.int := by
          rw [List.getElem?_map, List.getElem?_map, List.getElem?_reverse hi] at el
          rw [List.getElem?_eq_getElem hi'] at el
          exact (Option.some.inj el).symm
        subst el'
        have hc3 := s3 _ _ hc
        refine ⟨_, rfl, c, rfl, ⟨_, SqL.of hc3⟩, ?_⟩
        have hz : ((rows[rows.length - 1 - i]).map V.int).length ≤ sizeLine := by
          have := (hrow _ (List.getElem_mem hi')).2.1
          rw [List.length_map]
          exact small12 (by omega)
        refine comp_pure (ys := ((rows[rows.length - 1 - i]).map (oth many)).map V.int) (wk_list (K := K) (SqL.of hc3)) hz (by simp) (fun j x y ex2 ey2 Q2 q2 => ?_) (fun D hD => q' D hD)
        rw [List.getElem?_map] at ex2 ey2
        rw [List.getElem?_map] at ey2
        cases er : (rows[rows.length - 1 - i])[j]? with
        | none => rw [er] at ex2; cases ex2
        | some z =>
          rw [er] at ex2 ey2
          cases ex2
          cases ey2
          exact ⟨_, rfl, _, rfl, _, _, rfl, q2⟩
      · have hl2 : as'.length = (rows.reverse.map fun r => r.map (oth many)).length := by rw [hlen', List.length_map]
        have hrl : (rows.reverse.map fun r => r.map (oth many)).length = rows.length := by simp
        have W2 : Wf (rows.reverse.map fun r => r.map (oth many)) := ⟨by omega, by omega, fun r hr => by
          rw [hrl]
          obtain ⟨r', hr', rfl⟩ := List.mem_map.mp hr
          exact rowok_oth (W.2.2 r' (List.mem_reverse.mp hr')) (by omega)⟩
        refine ⟨_, rfl, q D as' _ _ W2 (open_rev (dn.down W) (fun r hr e he => by have := (W.2.2 r hr).2.2 e he; exact this) (by omega)) (tame_oth (dn.tame W (by omega)) W (by omega)) (mat_of hl2 nd' s1 hrows' hD) (same_upd (s2.trans s1) ((s2.trans s1).free hD)) fun b hb => ?_⟩
        rcases List.mem_cons.mp hb with z | z
        · rw [z]; exact (s2.trans s1).free hD
        · exact s2.free (fr' b z)
theorem sc_check_row : FnScope ["row", "sites", "way"] ["row", "sites"] (defScope s_check_row) := ⟨rfl, rfl, rfl, by decide +kernel, rfl, by decide +kernel, by decide +kernel⟩
theorem ok_check_row (T : Txt K mg A) : FnOk P w K mg base CX0 1 A.f_check_row A.fd_check_row ["row", "sites"] (spCheckRow K) := by
  refine T.F_check_row.ok sc_check_row (fun vs H Q E h => ?_) (fun cdv A' outer s H vs Q E hr h => ?_)
  · obtain ⟨a, r, n, rfl, _⟩ := h
    rfl
  · obtain ⟨a, r, n, rfl, hS, ⟨h1, h8, hr'⟩, q⟩ := h
    refine ⟨_, (pss_cons (ps_if (pt_not (pt_chain op_le op_le pe_int (pe_callB (call_lenK (K := K) rfl) (by rfl) T.n_len PySem.boot_len (pa_cons (pv 0) pa_nil)) (pe_glob (v := .int (8)) (by rfl) T.g_MOST_EXITS ⟨_, rfl⟩)))
        (pss_one ps_never)
        pss_nil)
      (pss_one (ps_for PassesOwn.never rfl (pi_listK (K := K) rfl (pv 0)) (pg_name (i := 2) sc_check_row.nd rfl (Or.inl rfl))
        (pss_one (ps_if (PW.pt (pw_and (pt_cmpR op_ne (pv 2) (pe_glob (v := .int (-1)) (by rfl) T.g_PIT ⟨_, rfl⟩) (nomark _)) (pw_and1 (pt_not (pt_chain op_le op_lt pe_int (pv 2) (pv 1))))))
          (pss_one ps_never)
          pss_nil))))), ?_⟩
    have hl : (r.map V.int).length = r.length := by simp
    refine ⟨_, rfl, _, _, rfl, .inl hS, _, _, rfl, rfl, _, rfl, ?_⟩
    rw [hl, decide_eq_true (show (1 : Int) ≤ (r.length : Int) by omega)]
    refine iteT ?_
    refine ⟨_, _, rfl, rfl, _, rfl, ?_⟩
    rw [decide_eq_true (show (r.length : Int) ≤ 8 by omega)]
    refine iteF ?_
    refine ⟨_, rfl, a, rfl, ⟨_, hS⟩, for_list (K := K) (a := a) (xs := r.map V.int) (fun i σ H2 => ∃ x2 : Option V, σ = [some (.ref a), some (.int (n : Int)), x2] ∧ H2 = H) ⟨none, rfl, rfl⟩ (fun i σ H2 _ ⟨_, _, e⟩ => by rw [e]; exact hS) ?_ ?_⟩
    · rintro i x σ H2 hi ⟨x2, rfl, rfl⟩
      obtain ⟨z, hz, rfl⟩ : ∃ z, z ∈ r ∧ x = V.int z := by
        rw [List.getElem?_map] at hi
        cases e : r[i]? with
        | none => rw [e] at hi; cases hi
        | some z =>
          rw [e] at hi
          exact ⟨z, List.mem_of_getElem? e, (Option.some.inj hi).symm⟩
      obtain ⟨z1, z2⟩ := hr' z hz
      refine ⟨_, rfl, rfl, _, rfl, ?_⟩
      by_cases hp : z = -1
      · subst hp
        refine iteF ?_
        exact iteF ⟨_, rfl, rfl⟩
      · have e : decide (V.int z = V.int (-1)) = false := decide_eq_false (fun w => hp (by injection w))
        rw [e]
        refine iteT ?_
        refine ⟨_, rfl, _, _, rfl, rfl, _, rfl, ?_⟩
        rw [decide_eq_true (show (0 : Int) ≤ z by omega)]
        refine iteT ?_
        refine ⟨_, rfl, _, _, rfl, rfl, _, rfl, ?_⟩
        rw [decide_eq_true (show z < (n : Int) by omega)]
        exact iteF ⟨_, rfl, rfl⟩
    · rintro σ H2 ⟨x2, rfl, rfl⟩
      exact q
theorem sc_check_rows : FnScope ["rows", "row"] ["rows"] (defScope s_check_rows) := ⟨rfl, rfl, rfl, by decide +kernel, rfl, by decide +kernel, by decide +kernel⟩
theorem ok_check_rows (T : Txt K mg A) (G_check_row : FnOk P w K mg base CX0 1 A.f_check_row A.fd_check_row ["row", "sites"] (spCheckRow K)) : FnOk P w K mg base CX0 2 A.f_check_rows A.fd_check_rows ["rows"] spCheckRows := by
  refine T.F_check_rows.ok sc_check_rows (fun vs H Q E h => ?_) (fun cdv A' outer s H vs Q E hr h => ?_)
  · obtain ⟨a, as, rows, rfl, _⟩ := h
    rfl
  · obtain ⟨a, as, rows, rfl, M, ⟨h1, h12, hrow⟩, q⟩ := h
    refine ⟨_, (pss_cons (ps_if (pt_not (pt_chain op_le op_le pe_int (pe_callB (call_lenK (K := K) rfl) (by rfl) T.n_len PySem.boot_len (pa_cons (pv 0) pa_nil)) (pe_glob (v := .int (12)) (by rfl) T.g_MOST_SITES ⟨_, rfl⟩)))
        (pss_one ps_never)
        pss_nil)
      (pss_one (ps_for PassesOwn.never rfl (pi_listK (K := K) rfl (pv 0)) (pg_name (i := 1) sc_check_rows.nd rfl (Or.inl rfl))
        (pss_one (ps_expr (pe_call G_check_row (hr.mono (by decide)) (by rfl) T.m_check_row T.k_check_row T.b_check_row .nil pass0 (pa_cons (pv 1) (pa_cons (pe_callB (call_lenK (K := K) rfl) (by rfl) T.n_len PySem.boot_len (pa_cons (pv 0) pa_nil)) pa_nil)))))))), ?_⟩
    have hl := M.reflen
    refine ⟨_, rfl, _, _, rfl, .inl M.sq, _, _, rfl, rfl, _, rfl, ?_⟩
    rw [hl, decide_eq_true (show (1 : Int) ≤ (rows.length : Int) by omega)]
    refine iteT ?_
    refine ⟨_, _, rfl, rfl, _, rfl, ?_⟩
    rw [decide_eq_true (show (rows.length : Int) ≤ 12 by omega)]
    refine iteF ?_
    refine ⟨_, rfl, a, rfl, ⟨_, M.sq⟩, for_list (K := K) (a := a) (xs := as.map V.ref) (fun i σ H2 => ∃ x1 : Option V, σ = [some (.ref a), x1] ∧ H2 = H) ⟨none, rfl, rfl⟩ (fun i σ H2 _ ⟨_, _, e⟩ => by rw [e]; exact M.sq) ?_ ?_⟩
    · rintro i x σ H2 hi ⟨x1, rfl, rfl⟩
      obtain ⟨c, hi', rfl, ec, hc, _⟩ := M.refs hi
      refine ⟨_, rfl, _, rfl, _, _, rfl, .inl M.sq, c, rows[i], rows.length, (by rw [hl]; rfl), SqL.of hc, hrow _ (List.getElem_mem hi'), ?_⟩
      exact ⟨_, rfl, rfl⟩
    · rintro σ H2 ⟨x1, rfl, rfl⟩
      exact q
theorem sc_Binit : FnScope ["self", "rows"] ["self", "rows"] (defScope s_Binit) := ⟨rfl, rfl, rfl, by decide +kernel, rfl, by decide +kernel, by decide +kernel⟩
theorem ok_Binit (T : Txt K mg A) (G_check_rows : FnOk P w K mg base CX0 2 A.f_check_rows A.fd_check_rows ["rows"] spCheckRows) : FnOk P w K mg base CX0 3 A.f_Binit A.fd_Binit ["self", "rows"] (spInit A.C) := by
  refine T.F_Binit.ok sc_Binit (fun vs H Q E h => ?_) (fun cdv A' outer s H vs Q E hr h => ?_)
  · obtain ⟨p, dx, aH, asH, rows, rfl, _⟩ := h
    rfl
  · obtain ⟨p, dx, aH, asH, rows, rfl, hp, M, W, q⟩ := h
    refine ⟨_, (pss_cons (ps_expr (pe_call G_check_rows (hr.mono (by decide)) (by rfl) T.m_check_rows T.k_check_rows T.b_check_rows .nil pass0 (pa_cons (pv 1) pa_nil)))
      (pss_cons (ps_fldK (K := K) rfl (pv 0) (pe_comp (CompSc.of (N' := ["row"]) (ix := [none]) rfl (by kernel_rfl)) rfl rfl rfl rfl (pi_listK (K := K) rfl (pv 1)) (by exact fun _ _ _ _ _ => pf_nil) (by exact fun _ _ _ _ _ => (pe_callTy (call_listK (K := K) rfl) (by rfl) T.n_list PyProof.Rows.Boot.«list» (pa_cons (pv 0) pa_nil))) (fun _ => rfl)) rfl)
      (pss_cons (ps_fldK (K := K) rfl (pv 0) (pe_op op_rep (pe_lst (pa_cons pe_int pa_nil)) (pe_callB (call_lenK (K := K) rfl) (by rfl) T.n_len PySem.boot_len (pa_cons (pv 1) pa_nil))) rfl)
      (pss_cons (ps_fldK (K := K) rfl (pv 0) (pe_op op_rep (pe_lst (pa_cons pe_int pa_nil)) (pe_callB (call_lenK (K := K) rfl) (by rfl) T.n_len PySem.boot_len (pa_cons (pv 1) pa_nil))) rfl)
      (pss_cons (ps_fldK (K := K) rfl (pv 0) (pe_op op_rep (pe_lst (pa_cons pe_int pa_nil)) (pe_callB (call_lenK (K := K) rfl) (by rfl) T.n_len PySem.boot_len (pa_cons (pv 1) pa_nil))) rfl)
      (pss_one (ps_fldK (K := K) rfl (pv 0) pe_int rfl))))))), ?_⟩
    obtain ⟨h1, h12, hrow⟩ := id W
    have hl := M.reflen
    -- check_rows(rows)
    refine ⟨_, rfl, aH, asH, rows, rfl, M, W, ?_⟩
    -- self.rows = [list(row) for row in rows]
    refine ⟨_, rfl, aH, rfl, ⟨_, M.sq⟩, ?_⟩
    refine comp_news (ls := rows.map fun r => r.map V.int) (wk_list M.sq) (by rw [hl]; exact small12 (by omega)) (by rw [List.length_map, hl]) (fun i x l H3 ex el s3 Q' q' => ?_) (fun as H1 s1 hlen nd fr hrows aR hR => ?_)
    · obtain ⟨c, hi', rfl, ec, hc, _⟩ := M.refs ex
      rw [List.getElem?_map, List.getElem?_eq_getElem hi'] at el
      cases el
      exact ⟨_, rfl, _, _, rfl, .inl (SqL.of (s3 _ _ hc)), q'⟩
    · rw [List.length_map] at hlen
      have MR := mat_of (H := H) (R := aR) hlen nd s1 hrows hR
      have hp1 := s1 _ _ hp
      have npR : p ≠ aR := ne_of_none hp1 hR
      refine ⟨_, rfl, p, A.C, dx, [], rfl, (by rw [upd_ne npR]; exact hp1), T.cl_Board, T.na_rows, (by show 0 < 1000; decide), ?_⟩
      generalize hH2 : upd (upd H1 aR (.lst (as.map V.ref))) p (.ins A.C dx (putF "rows" (.ref aR) [])) = H2
      have e2p : H2 p = some (.ins A.C dx (putF "rows" (.ref aR) [])) := by rw [← hH2]; exact upd_same
      have e2 : ∀ c, c ≠ p → H2 c = upd H1 aR (.lst (as.map V.ref)) c := fun c hc => by rw [← hH2]; exact upd_ne hc
      -- self.turns = [0] * len(rows)
      have M1 : SqL K H2 aH (asH.map V.ref) := by
        have := s1 _ _ M.hd
        refine SqL.of ?_
        rw [e2 aH (ne_of M.hd hp (by intro z; cases z)), upd_ne (ne_of_none this hR)]
        exact this
      have zz : ∀ k : Nat, (List.replicate k [V.int 0]).flatten = (List.replicate k (0 : Int)).map V.int := fun k => by
        induction k with
        | zero => rfl
        | succ k ih => rw [List.replicate_succ, List.flatten_cons, ih, List.replicate_succ]; rfl
      refine ⟨small12 (by show 1 ≤ 100; decide), fun l1 hl1 => ⟨_, rfl, _, _, rfl, .inl ((same_new hl1).seq M1), l1, _, _, rfl, rfl, upd_same, by omega, by omega, by rw [hl]; exact small12 (by simp; omega), fun aT hT => ?_⟩⟩
      have nT1 : aT ≠ l1 := fun z => by rw [z, upd_same] at hT; cases hT
      rw [upd_ne nT1] at hT
      have npl : p ≠ l1 := ne_of_none e2p hl1
      have npT : p ≠ aT := ne_of_none e2p hT
      refine ⟨_, rfl, p, A.C, dx, _, rfl, (by rw [upd_ne npT, upd_ne npl]; exact e2p), T.cl_Board, T.na_turns, (by show 1 < 1000; decide), ?_⟩
      rw [hl, Int.toNat_natCast, zz]
      generalize hH3 : upd (upd (upd H2 l1 (.lst [V.int 0])) aT (.lst ((List.replicate rows.length (0 : Int)).map V.int))) p (.ins A.C dx (putF "turns" (.ref aT) (putF "rows" (.ref aR) []))) = H3
      have e3p : H3 p = some (.ins A.C dx (putF "turns" (.ref aT) (putF "rows" (.ref aR) []))) := by rw [← hH3]; exact upd_same
      have e3T : H3 aT = some (.lst ((List.replicate rows.length (0 : Int)).map V.int)) := by rw [← hH3, upd_ne (Ne.symm npT)]; exact upd_same
      have e3 : ∀ c o, c ≠ p → H2 c = some o → H3 c = some o := fun c o hc e => by
        rw [← hH3, upd_ne hc, upd_ne (ne_of_none e hT), upd_ne (ne_of_none e hl1)]
        exact e
      have f3 : ∀ c, H3 c = none → H2 c = none := fun c e => by
        cases q : H2 c with
        | none => rfl
        | some o =>
          by_cases hc : c = p
          · rw [hc, e3p] at e; cases e
          · rw [e3 c o hc q] at e; cases e
      -- self.loads = [0] * len(rows)
      have M3 : H3 aH = some (.lst (asH.map V.ref)) := by
        rcases M1 with (m | ⟨o, m⟩) | m
        · exact e3 _ _ (ne_of M.hd hp (by intro z; cases z)) m
        · have := s1 _ _ M.hd
          rw [e2 aH (ne_of M.hd hp (by intro z; cases z)), upd_ne (ne_of_none this hR), this] at m
          cases m
        · have := s1 _ _ M.hd
          refine e3 _ _ (ne_of M.hd hp (by intro z; cases z)) ?_
          rw [e2 aH (ne_of M.hd hp (by intro z; cases z)), upd_ne (ne_of_none this hR)]
          exact this
      refine ⟨small12 (by show 1 ≤ 100; decide), fun l2 hl2 => ⟨_, rfl, _, _, rfl, .inl (SqL.of (same_new hl2 _ _ M3)), l2, _, _, rfl, rfl, upd_same, by omega, by omega, by rw [hl]; exact small12 (by simp; omega), fun aL hL => ?_⟩⟩
      have nL2 : aL ≠ l2 := fun z => by rw [z, upd_same] at hL; cases hL
      rw [upd_ne nL2] at hL
      have npl2 : p ≠ l2 := ne_of_none e3p hl2
      have npL : p ≠ aL := ne_of_none e3p hL
      refine ⟨_, rfl, p, A.C, dx, _, rfl, (by rw [upd_ne npL, upd_ne npl2]; exact e3p), T.cl_Board, T.na_loads, (by show 2 < 1000; decide), ?_⟩
      rw [hl, Int.toNat_natCast, zz]
      generalize hH4 : upd (upd (upd H3 l2 (.lst [V.int 0])) aL (.lst ((List.replicate rows.length (0 : Int)).map V.int))) p (.ins A.C dx (putF "loads" (.ref aL) (putF "turns" (.ref aT) (putF "rows" (.ref aR) [])))) = H4
      have e4p : H4 p = some (.ins A.C dx (putF "loads" (.ref aL) (putF "turns" (.ref aT) (putF "rows" (.ref aR) [])))) := by rw [← hH4]; exact upd_same
      have e4L : H4 aL = some (.lst ((List.replicate rows.length (0 : Int)).map V.int)) := by rw [← hH4, upd_ne (Ne.symm npL)]; exact upd_same
      have e4 : ∀ c o, c ≠ p → H3 c = some o → H4 c = some o := fun c o hc e => by
        rw [← hH4, upd_ne hc, upd_ne (ne_of_none e hL), upd_ne (ne_of_none e hl2)]
        exact e
      have f4 : ∀ c, H4 c = none → H3 c = none := fun c e => by
        cases q : H3 c with
        | none => rfl
        | some o =>
          by_cases hc : c = p
          · rw [hc, e4p] at e; cases e
          · rw [e4 c o hc q] at e; cases e
      have npH : aH ≠ p := ne_of M.hd hp (by intro z; cases z)
      have M4 := e4 _ _ npH M3
      -- self.steps = [0] * len(rows)
      refine ⟨small12 (by show 1 ≤ 100; decide), fun l3 hl3 => ⟨_, rfl, _, _, rfl, .inl (SqL.of (same_new hl3 _ _ M4)), l3, _, _, rfl, rfl, upd_same, by omega, by omega, by rw [hl]; exact small12 (by simp; omega), fun aS hS => ?_⟩⟩
      have nS3 : aS ≠ l3 := fun z => by rw [z, upd_same] at hS; cases hS
      rw [upd_ne nS3] at hS
      have npl3 : p ≠ l3 := ne_of_none e4p hl3
      have npS : p ≠ aS := ne_of_none e4p hS
      refine ⟨_, rfl, p, A.C, dx, _, rfl, (by rw [upd_ne npS, upd_ne npl3]; exact e4p), T.cl_Board, T.na_steps, (by show 3 < 1000; decide), ?_⟩
      rw [hl, Int.toNat_natCast, zz]
      -- self.taken = 0
      refine ⟨_, rfl, p, A.C, dx, _, rfl, upd_same, T.cl_Board, T.na_taken, (by show 4 < 1000; decide), ?_⟩
      rw [upd_upd]
      rw [bflds_mk]
      generalize hH5 : upd (upd (upd H4 l3 (.lst [V.int 0])) aS (.lst ((List.replicate rows.length (0 : Int)).map V.int))) p (.ins A.C dx (bflds aR aT aL aS 0)) = H5
      have e5p : H5 p = some (.ins A.C dx (bflds aR aT aL aS 0)) := by rw [← hH5]; exact upd_same
      have e5S : H5 aS = some (.lst ((List.replicate rows.length (0 : Int)).map V.int)) := by rw [← hH5, upd_ne (Ne.symm npS)]; exact upd_same
      have e5 : ∀ c o, c ≠ p → H4 c = some o → H5 c = some o := fun c o hc e => by
        rw [← hH5, upd_ne hc, upd_ne (ne_of_none e hS), upd_ne (ne_of_none e hl3)]
        exact e
      have up : ∀ c o, c ≠ p → upd H1 aR (.lst (as.map V.ref)) c = some o → H5 c = some o := fun c o hc e => e5 c o hc (e4 c o hc (e3 c o hc (by rw [e2 c hc]; exact e)))
      have e5T : H5 aT = some (.lst ((List.replicate rows.length (0 : Int)).map V.int)) := e5 _ _ (Ne.symm npT) (e4 _ _ (Ne.symm npT) e3T)
      have e5L : H5 aL = some (.lst ((List.replicate rows.length (0 : Int)).map V.int)) := e5 _ _ (Ne.symm npL) e4L
      have pas : ∀ c ∈ aR :: as, c ≠ p := fun c hc z => by
        rcases List.mem_cons.mp hc with h | h
        · exact npR (by rw [← z, h])
        · have := fr c h
          rw [z, hp] at this
          cases this
      have MR5 : Mat H5 aR as rows := MR.keep fun c o hc e => up c o (pas c hc) e
      have hn2 : ∀ c, H2 c = none → c ∉ aR :: as := fun c e hc => by
        rw [e2 c (pas c hc)] at e
        rcases List.mem_cons.mp hc with z | z
        · rw [z, upd_same] at e; cases e
        · obtain ⟨i, hi, ei⟩ := List.getElem_of_mem z
          obtain ⟨c', ec1, ec2, _⟩ := MR.get (i := i) (by rw [← hlen]; exact hi)
          rw [List.getElem?_eq_getElem hi, ei] at ec1
          cases ec1
          rw [ec2] at e; cases e
      have nLT : aL ≠ aT := fun z => by rw [z, e3T] at hL; cases hL
      have nST : aS ≠ aT := fun z => by rw [z, e4 _ _ (Ne.symm npT) e3T] at hS; cases hS
      have nSL : aS ≠ aL := fun z => by rw [z, e4L] at hS; cases hS
      have tH : ∀ c, H2 c = none → H c = none := fun c e => by
        cases q' : H c with
        | none => rfl
        | some o =>
          exfalso
          by_cases hc : c = p
          · rw [hc, e2p] at e; cases e
          · have := s1 _ _ q'
            rw [e2 c hc, upd_ne (ne_of_none this hR), this] at e
            cases e
      have nd5 : (p :: aT :: aL :: aS :: aR :: as).Nodup := by
        have x1 := hn2 aT hT
        have x2 := hn2 aL (f3 aL hL)
        have x3 := hn2 aS (f3 aS (f4 aS hS))
        simp only [List.nodup_cons, List.mem_cons, not_or] at x1 x2 x3 ⊢
        have y := MR.nd
        simp only [List.nodup_cons] at y
        refine ⟨⟨npT, npL, npS, npR, fun z => pas p (List.mem_cons_of_mem _ z) rfl⟩, ⟨Ne.symm nLT, Ne.symm nST, x1.1, x1.2⟩, ⟨Ne.symm nSL, x2.1, x2.2⟩, ⟨x3.1, x3.2⟩, y.1, y.2⟩
      refine q aR as aT aL aS H5 ⟨e5p, MR5, e5T, e5L, e5S, nd5⟩ (fun c o e hc => ?_) (fun c hc => ?_)
      · have := s1 _ _ e
        exact up c o hc (by rw [upd_ne (ne_of_none this hR)]; exact this)
      · simp only [List.mem_cons] at hc
        rcases hc with z | z | z | z | z
        · rw [z]; exact tH _ hT
        · rw [z]; exact tH _ (f3 _ hL)
        · rw [z]; exact tH _ (f3 _ (f4 _ hS))
        · rw [z]; exact s1.free hR
        · exact fr c z
theorem sc_whole : FnScope ["found"] ["found"] (defScope s_whole) := ⟨rfl, rfl, rfl, by decide +kernel, rfl, by decide +kernel, by decide +kernel⟩
theorem ok_whole (T : Txt K mg A) : FnOk P w K mg base CX0 1 A.f_whole A.fd_whole ["found"] spWhole := by
  refine T.F_whole.ok sc_whole (fun vs H Q E h => ?_) (fun cdv A' outer s H vs Q E hr h => ?_)
  · obtain ⟨i, rfl, _⟩ := h
    rfl
  · obtain ⟨i, rfl, q⟩ := h
    refine ⟨_, (pss_one (ps_ret (pe_and (pe_callB (call_isiK (K := K) rfl) (by rfl) T.n_isinstance PyProof.Rows.Boot.«isinstance» (pa_cons (pv 0) (pa_cons (pe_bltn (v := .ty "int") (by rfl) T.n_int PyProof.Rows.Boot.«int» rfl) pa_nil))) (pe_one (pe_not (pe_callB (call_isiK (K := K) rfl) (by rfl) T.n_isinstance PyProof.Rows.Boot.«isinstance» (pa_cons (pv 0) (pa_cons (pe_bltn (v := .ty "bool") (by rfl) T.n_bool PyProof.Rows.Boot.«bool» rfl) pa_nil)))))))), ?_⟩
    refine ⟨_, rfl, _, _, _, _, true, rfl, rfl, .int i, rfl, _, rfl, ?_⟩
    refine iteT ?_
    exact ⟨_, rfl, _, _, _, _, false, rfl, rfl, .int i, T.q_int_bool, _, rfl, q⟩
theorem sc_row : FnScope ["found", "due", "k"] ["found", "due"] (defScope s_row) := ⟨rfl, rfl, rfl, by decide +kernel, rfl, by decide +kernel, by decide +kernel⟩
theorem ok_row (T : Txt K mg A) (G_whole : FnOk P w K mg base CX0 1 A.f_whole A.fd_whole ["found"] spWhole) : FnOk P w K mg base CX0 2 A.f_row A.fd_row ["found", "due"] (spRow K) := by
  refine T.F_row.ok sc_row (fun vs H Q E h => ?_) (fun cdv A' outer s H vs Q E hr h => ?_)
  · obtain ⟨a, b, xs, rfl, _⟩ := h
    rfl
  · obtain ⟨a, b, xs, rfl, ha, hb, hx, q⟩ := h
    refine ⟨_, (pss_cons (ps_if (PW.pt (pw_or (pt_not (pt_val (pe_callB (call_isiK (K := K) rfl) (by rfl) T.n_isinstance PyProof.Rows.Boot.«isinstance» (pa_cons (pv 0) (pa_cons (pe_bltn (v := .ty "list") (by rfl) T.n_list PyProof.Rows.Boot.«list» rfl) pa_nil))))) (pw_or1 (pt_cmpR op_ne (pe_callB (call_lenK (K := K) rfl) (by rfl) T.n_len PySem.boot_len (pa_cons (pv 0) pa_nil)) (pe_callB (call_lenK (K := K) rfl) (by rfl) T.n_len PySem.boot_len (pa_cons (pv 1) pa_nil)) (nomark _)))))
        (pss_one (ps_ret pe_bl))
        pss_nil)
      (pss_cons (ps_for PassesOwn.never rfl (pi_range1 (by rfl) T.n_range (pa_cons (pe_callB (call_lenK (K := K) rfl) (by rfl) T.n_len PySem.boot_len (pa_cons (pv 1) pa_nil)) pa_nil)) (pg_name (i := 2) sc_row.nd rfl (Or.inl rfl))
        (pss_one (ps_if (PW.pt (pw_or (pt_not (pt_val (pe_call G_whole (hr.mono (by decide)) (by rfl) T.m__law_whole T.k__law_whole T.b__law_whole .nil pass0 (pa_cons (pe_ix (ix_listK (K := K) rfl) (pv 0) (pv 2) (fun _ _ => rfl)) pa_nil)))) (pw_or1 (pt_cmpR op_ne (pe_ix (ix_listK (K := K) rfl) (pv 0) (pv 2) (fun _ _ => rfl)) (pe_ix (ix_listK (K := K) rfl) (pv 1) (pv 2) (fun _ _ => rfl)) (nomark _)))))
          (pss_one (ps_ret pe_bl))
          pss_nil)))
      (pss_one (ps_ret pe_bl)))), ?_⟩
    have hl : (xs.map V.int).length = xs.length := by simp
    refine ⟨_, rfl, _, _, _, _, true, rfl, rfl, .lst ha, rfl, _, rfl, ?_⟩
    refine iteF ?_
    refine ⟨_, rfl, _, _, rfl, .inl (SqL.of ha), _, rfl, _, _, rfl, .inl hb, rfl, _, rfl, ?_⟩
    refine iteNS rfl ?_
    refine ⟨_, rfl, _, _, rfl, .inl hb, _, rfl, by omega, by omega, ?_⟩
    refine for_range (fun i σ H2 => ∃ x2 : Option V, σ = [some (.ref a), some (.ref b), x2] ∧ H = H2) ⟨none, rfl, rfl⟩ ?_ ?_
    · rintro i σ H2 hi ⟨x2, rfl, rfl⟩
      have hi' : i < xs.length := by rw [hl] at hi; simpa using hi
      have hat : atI (xs.map V.int) (0 + (i : Int)) = some (V.int xs[i]) := at_list (n := i) (by omega) (by rw [List.getElem?_map, List.getElem?_eq_getElem hi']; rfl)
      refine ⟨_, rfl, _, rfl, _, _, _, _, rfl, rfl, SqL.of ha, hat, _, rfl, _, rfl, ?_⟩
      refine iteF ?_
      refine ⟨_, rfl, _, rfl, _, _, _, _, rfl, rfl, SqL.of ha, hat, _, rfl, _, rfl, _, _, _, _, rfl, rfl, hb, hat, rfl, _, rfl, ?_⟩
      refine iteNS rfl ?_
      exact ⟨_, rfl, rfl⟩
    · rintro σ H2 ⟨x2, rfl, rfl⟩
      exact q
theorem sc_stands : FnScope ["board", "rows", "turns", "lying", "counts", "k"] ["board", "rows", "turns", "lying", "counts"] (defScope s_stands) := ⟨rfl, rfl, rfl, by decide +kernel, rfl, by decide +kernel, by decide +kernel⟩
theorem ok_stands (T : Txt K mg A) (G_whole : FnOk P w K mg base CX0 1 A.f_whole A.fd_whole ["found"] spWhole) (G_row : FnOk P w K mg base CX0 2 A.f_row A.fd_row ["found", "due"] (spRow K)) : FnOk P w K mg base CX0 3 A.f_stands A.fd_stands ["board", "rows", "turns", "lying", "counts"] (spStands K A.C) := by
  refine T.F_stands.ok sc_stands (fun vs H Q E h => ?_) (fun cdv A' outer s H vs Q E hr h => ?_)
  · obtain ⟨p, dx, aR, as, aT, aL, aS, b, R, asR, tA, lA, cA, rfl, _⟩ := h
    rfl
  · obtain ⟨p, dx, aR, as, aT, aL, aS, b, R, asR, tA, lA, cA, rfl, B, MR, hT, hL, hC, n1, n2, n3, n4, n5, q⟩ := h
    refine ⟨_, (pss_cons (ps_if (PW.pt (pw_or (pt_not (pt_val (pe_callB (call_isiK (K := K) rfl) (by rfl) T.n_isinstance PyProof.Rows.Boot.«isinstance» (pa_cons (pe_fldK (K := K) rfl (pv 0) rfl) (pa_cons (pe_bltn (v := .ty "list") (by rfl) T.n_list PyProof.Rows.Boot.«list» rfl) pa_nil))))) (pw_or1 (pt_cmpR op_ne (pe_callB (call_lenK (K := K) rfl) (by rfl) T.n_len PySem.boot_len (pa_cons (pe_fldK (K := K) rfl (pv 0) rfl) pa_nil)) (pe_callB (call_lenK (K := K) rfl) (by rfl) T.n_len PySem.boot_len (pa_cons (pv 1) pa_nil)) (nomark _)))))
        (pss_one (ps_ret pe_bl))
        pss_nil)
      (pss_cons (ps_for PassesOwn.never rfl (pi_range1 (by rfl) T.n_range (pa_cons (pe_callB (call_lenK (K := K) rfl) (by rfl) T.n_len PySem.boot_len (pa_cons (pv 1) pa_nil)) pa_nil)) (pg_name (i := 5) sc_stands.nd rfl (Or.inl rfl))
        (pss_one (ps_if (pt_not (pt_val (pe_call G_row (hr.mono (by decide)) (by rfl) T.m__law_row T.k__law_row T.b__law_row .nil pass0 (pa_cons (pe_ix (ix_listK (K := K) rfl) (pe_fldK (K := K) rfl (pv 0) rfl) (pv 5) (fun _ _ => rfl)) (pa_cons (pe_ix (ix_listK (K := K) rfl) (pv 1) (pv 5) (fun _ _ => rfl)) pa_nil)))))
          (pss_one (ps_ret pe_bl))
          pss_nil)))
      (pss_cons (ps_if (PW.pt (pw_or (pt_not (pt_val (pe_call G_row (hr.mono (by decide)) (by rfl) T.m__law_row T.k__law_row T.b__law_row .nil pass0 (pa_cons (pe_fldK (K := K) rfl (pv 0) rfl) (pa_cons (pv 2) pa_nil))))) (pw_or1 (pt_not (pt_val (pe_call G_row (hr.mono (by decide)) (by rfl) T.m__law_row T.k__law_row T.b__law_row .nil pass0 (pa_cons (pe_fldK (K := K) rfl (pv 0) rfl) (pa_cons (pe_slice (sl_listK (K := K) rfl) (pv 3) po_none (po_some (pe_un un_neg pe_int))) pa_nil))))))))
        (pss_one (ps_ret pe_bl))
        pss_nil)
      (pss_cons (ps_if (PW.pt (pw_or (pt_not (pt_val (pe_call G_whole (hr.mono (by decide)) (by rfl) T.m__law_whole T.k__law_whole T.b__law_whole .nil pass0 (pa_cons (pe_fldK (K := K) rfl (pv 0) rfl) pa_nil)))) (pw_or1 (pt_cmpR op_ne (pe_fldK (K := K) rfl (pv 0) rfl) (pe_ix (ix_listK (K := K) rfl) (pv 3) (pe_un un_neg pe_int) (fun _ _ => rfl)) (nomark _)))))
        (pss_one (ps_ret pe_bl))
        pss_nil)
      (pss_one (ps_ret (pe_call G_row (hr.mono (by decide)) (by rfl) T.m__law_row T.k__law_row T.b__law_row .nil pass0 (pa_cons (pe_fldK (K := K) rfl (pv 0) rfl) (pa_cons (pv 4) pa_nil))))))))), ?_⟩
    have l1 := B.mat.reflen
    have l2 := MR.reflen
    refine ⟨_, rfl, p, A.C, dx, _, _, rfl, B.ob, T.cl_Board, T.na_rows, bf_rows _ _ _ _ _, _, _, _, _, true, rfl, rfl, .lst B.mat.hd, rfl, _, rfl, ?_⟩
    refine iteF ?_
    refine ⟨_, rfl, p, A.C, dx, _, _, rfl, B.ob, T.cl_Board, T.na_rows, bf_rows _ _ _ _ _, _, _, rfl, .inl B.mat.sq, _, rfl, _, _, rfl, .inl MR.sq, rfl, _, rfl, ?_⟩
    refine iteNS (by rw [l1, l2]) ?_
    refine ⟨_, rfl, _, _, rfl, .inl MR.sq, _, rfl, by omega, by omega, ?_⟩
    refine for_range (fun i σ H2 => ∃ x5 : Option V, σ = [some (.ref p), some (.ref R), some (.ref tA), some (.ref lA), some (.ref cA), x5] ∧ H = H2) ⟨none, rfl, rfl⟩ ?_ ?_
    · rintro i σ H2 hi ⟨x5, rfl, rfl⟩
      have hi' : i < b.rows.length := by rw [l2] at hi; simpa using hi
      obtain ⟨c, ec, hc, _⟩ := B.mat.get hi'
      obtain ⟨d, ed, hd, _⟩ := MR.get hi'
      refine ⟨_, rfl, p, A.C, dx, _, _, rfl, B.ob, T.cl_Board, T.na_rows, bf_rows _ _ _ _ _, _, rfl, _, _, _, _, rfl, rfl, B.mat.sq, at_list (n := i) (by omega) (by rw [List.getElem?_map, ec]; rfl), _, rfl, _, rfl, _, _, _, _, rfl, rfl, MR.sq, at_list (n := i) (by omega) (by rw [List.getElem?_map, ed]; rfl), c, d, _, rfl, hc, SqL.of hd, (by have := n2 _ (List.getElem_mem hi'); omega), _, rfl, ?_⟩
      refine iteF ?_
      exact ⟨_, rfl, rfl⟩
    · rintro σ H2 ⟨x5, rfl, rfl⟩
      refine ⟨_, rfl, p, A.C, dx, _, _, rfl, B.ob, T.cl_Board, T.na_turns, bf_turns _ _ _ _ _, _, rfl, aT, tA, _, rfl, B.hT, hT, by omega, _, rfl, ?_⟩
      refine iteF ?_
      refine ⟨_, rfl, p, A.C, dx, _, _, rfl, B.ob, T.cl_Board, T.na_loads, bf_loads _ _ _ _ _, _, rfl, _, rfl, _, rfl, _, _, rfl, hL, fun l hl => ?_⟩
      have s1 : Same H (upd H l (.lst (cutV ((b.loads ++ [b.taken]).map V.int) none (some (-1))))) := same_new hl
      rw [cut_last] at s1 ⊢
      have B1 := B.same s1
      refine ⟨aL, l, _, rfl, B1.hL, SqL.of upd_same, by omega, _, rfl, ?_⟩
      refine iteF ?_
      refine ⟨_, rfl, p, A.C, dx, _, _, rfl, B1.ob, T.cl_Board, T.na_taken, bf_taken _ _ _ _ _, _, rfl, _, rfl, ?_⟩
      refine iteF ?_
      refine ⟨_, rfl, p, A.C, dx, _, _, rfl, B1.ob, T.cl_Board, T.na_taken, bf_taken _ _ _ _ _, _, rfl, _, rfl, _, _, _, _, rfl, rfl, s1.seq hL, at_last_int _ _, rfl, _, rfl, ?_⟩
      refine iteNS rfl ?_
      exact ⟨_, rfl, p, A.C, dx, _, _, rfl, B1.ob, T.cl_Board, T.na_steps, bf_steps _ _ _ _ _, _, rfl, aS, cA, _, rfl, B1.hS, s1.seq hC, by omega, q _ s1⟩
theorem sc_check_site : FnScope ["board", "at"] ["board", "at"] (defScope s_check_site) := ⟨rfl, rfl, rfl, by decide +kernel, rfl, by decide +kernel, by decide +kernel⟩
theorem ok_check_site (T : Txt K mg A) : FnOk P w K mg base (CX1 P w) 1 A.f_check_site A.fd_check_site ["board", "at"] (spSite A.C A.c_NoSite) := by
  refine T.F_check_site.okX sc_check_site (fun vs H Q E h => ?_) (fun cdv A' outer s H vs Q E hr h => ?_)
  · obtain ⟨p, dx, aR, as, aT, aL, aS, b, z, rfl, _⟩ := h
    rfl
  · obtain ⟨p, dx, aR, as, aT, aL, aS, b, z, rfl, B, z1, z2, q1, q2⟩ := h
    refine ⟨_, (pss_one (ps_if (pt_not (pt_chain op_le op_lt pe_int (pv 1) (pe_callB (call_lenK (K := K) rfl) (by rfl) T.n_len PySem.boot_len (pa_cons (pe_fldK (K := K) rfl (pv 0) rfl) pa_nil))))
        (pss_one (ps_raise raises_cx rfl (by rfl) T.m_NoSite T.x_NoSite (pa_cons (pe_fs (pj_str (by decide +kernel) (pj_int (pv 1) pj_nil)) (by decide)) pa_nil)))
        pss_nil)), ?_⟩
    have l1 := B.mat.reflen
    have lg := log2_small z1 z2
    refine ⟨_, rfl, _, _, rfl, rfl, _, rfl, ?_⟩
    by_cases h0 : 0 ≤ z
    · rw [decide_eq_true h0]
      refine iteT ?_
      refine ⟨_, rfl, p, A.C, dx, _, _, rfl, B.ob, T.cl_Board, T.na_rows, bf_rows _ _ _ _ _, _, _, rfl, .inl B.mat.sq, _, _, rfl, rfl, _, rfl, ?_⟩
      rw [l1]
      by_cases h1 : z < (b.rows.length : Int)
      · rw [decide_eq_true h1]
        exact iteF (q1 ⟨h0, h1⟩)
      · rw [decide_eq_false h1]
        refine iteT ?_
        exact ⟨⟨_, rfl, _, rfl, lg, rfl, trivial⟩, fun x => ⟨small12 (by show 1 ≤ 100; decide), q2 (fun w => h1 w.2)⟩⟩
    · rw [decide_eq_false h0]
      refine iteF ?_
      refine ⟨_, rfl, ?_⟩
      refine iteT ?_
      exact ⟨⟨_, rfl, _, rfl, lg, rfl, trivial⟩, fun x => ⟨small12 (by show 1 ≤ 100; decide), q2 (fun w => h0 w.1)⟩⟩
theorem sc_Bturn_to : FnScope ["self", "at", "place"] ["self", "at", "place"] (defScope s_Bturn_to) := ⟨rfl, rfl, rfl, by decide +kernel, rfl, by decide +kernel, by decide +kernel⟩
theorem ok_Bturn_to (T : Txt K mg A) (G_check_site : FnOk P w K mg base (CX1 P w) 1 A.f_check_site A.fd_check_site ["board", "at"] (spSite A.C A.c_NoSite)) : FnOk P w K mg base (CX1 P w) 2 A.f_Bturn_to A.fd_Bturn_to ["self", "at", "place"] (spTurn A.C A.c_NoSite A.c_NoPlace) := by
  refine T.F_Bturn_to.okX sc_Bturn_to (fun vs H Q E h => ?_) (fun cdv A' outer s H vs Q E hr h => ?_)
  · obtain ⟨p, dx, aR, as, aT, aL, aS, b, z, y, rfl, _⟩ := h
    rfl
  · obtain ⟨p, dx, aR, as, aT, aL, aS, b, z, y, rfl, B, hl, z1, z2, y1, y2, q1, q2, q3⟩ := h
    refine ⟨_, (pss_cons (ps_expr (pe_call G_check_site (hr.mono (by decide)) (by rfl) T.m_check_site T.k_check_site T.b_check_site .nil passX (pa_cons (pv 0) (pa_cons (pv 1) pa_nil))))
      (pss_cons (ps_if (pt_not (pt_chain op_le op_lt pe_int (pv 2) (pe_callB (call_lenK (K := K) rfl) (by rfl) T.n_len PySem.boot_len (pa_cons (pe_ix (ix_listK (K := K) rfl) (pe_fldK (K := K) rfl (pv 0) rfl) (pv 1) (fun _ _ => rfl)) pa_nil))))
        (pss_one (ps_raise raises_cx rfl (by rfl) T.m_NoPlace T.x_NoPlace (pa_cons (pe_fs (pj_str (by decide +kernel) (pj_int (pv 1) (pj_str (by decide +kernel) (pj_int (pv 2) pj_nil)))) (by decide)) pa_nil)))
        pss_nil)
      (pss_one (ps_asg (pv 2) (pg_sub (pe_fldK (K := K) rfl (pv 0) rfl) (pv 1) set_list))))), ?_⟩
    have lg := log2_small z1 z2
    have lgy := log2_small y1 y2
    refine ⟨_, rfl, _, rfl, p, dx, aR, as, aT, aL, aS, b, z, rfl, B, z1, z2, fun hz => ?_, q1⟩
    obtain ⟨c, hat, hc, _⟩ := B.mat.at hz.1 hz.2
    have hlr : ((b.rows.getD z.toNat []).map V.int).length = (b.rows.getD z.toNat []).length := by simp
    refine ⟨_, rfl, _, _, rfl, rfl, _, rfl, ?_⟩
    by_cases h0 : 0 ≤ y
    · rw [decide_eq_true h0]
      refine iteT ?_
      refine ⟨_, rfl, p, A.C, dx, _, _, rfl, B.ob, T.cl_Board, T.na_rows, bf_rows _ _ _ _ _, _, rfl, _, _, _, _, rfl, rfl, B.mat.sq, hat, _, _, rfl, .inl (SqL.of hc), _, _, rfl, rfl, _, rfl, ?_⟩
      rw [hlr]
      by_cases h1 : y < ((b.rows.getD z.toNat []).length : Int)
      · rw [decide_eq_true h1]
        refine iteF ?_
        refine ⟨_, rfl, _, rfl, p, A.C, dx, _, _, rfl, B.ob, T.cl_Board, T.na_turns, bf_turns _ _ _ _ _, _, rfl, aT, _, _, _, rfl, rfl, B.hT, ixN_in hz.1 (by rw [List.length_map, hl]; exact hz.2), ?_⟩
        rw [map_set_int]
        exact q3 hz ⟨h0, h1⟩
      · rw [decide_eq_false h1]
        refine iteT ?_
        exact ⟨⟨_, rfl, _, rfl, lg, rfl, _, rfl, _, rfl, lgy, rfl, trivial⟩, fun x => ⟨small12 (by show 1 ≤ 100; decide), q2 hz (fun w => h1 w.2)⟩⟩
    · rw [decide_eq_false h0]
      refine iteF ?_
      refine ⟨_, rfl, ?_⟩
      refine iteT ?_
      exact ⟨⟨_, rfl, _, rfl, lg, rfl, _, rfl, _, rfl, lgy, rfl, trivial⟩, fun x => ⟨small12 (by show 1 ≤ 100; decide), q2 hz (fun w => h0 w.1)⟩⟩
theorem sc_Bload : FnScope ["self", "at", "many"] ["self", "at", "many"] (defScope s_Bload) := ⟨rfl, rfl, rfl, by decide +kernel, rfl, by decide +kernel, by decide +kernel⟩
theorem ok_Bload (T : Txt K mg A) (G_check_site : FnOk P w K mg base (CX1 P w) 1 A.f_check_site A.fd_check_site ["board", "at"] (spSite A.C A.c_NoSite)) : FnOk P w K mg base (CX1 P w) 2 A.f_Bload A.fd_Bload ["self", "at", "many"] (spLoad A.C A.c_NoSite A.c_TooMany) := by
  refine T.F_Bload.okX sc_Bload (fun vs H Q E h => ?_) (fun cdv A' outer s H vs Q E hr h => ?_)
  · obtain ⟨p, dx, aR, as, aT, aL, aS, b, z, y, rfl, _⟩ := h
    rfl
  · obtain ⟨p, dx, aR, as, aT, aL, aS, b, z, y, rfl, B, hl, z1, z2, q1, q2, q3⟩ := h
    refine ⟨_, (pss_cons (ps_expr (pe_call G_check_site (hr.mono (by decide)) (by rfl) T.m_check_site T.k_check_site T.b_check_site .nil passX (pa_cons (pv 0) (pa_cons (pv 1) pa_nil))))
      (pss_cons (ps_if (pt_cmpR op_gt (pe_op op_add (pe_callB (call_sumK (K := K) rfl rfl) (by rfl) T.n_sum PyProof.Rows.Boot.«sum» (pa_cons (pe_fldK (K := K) rfl (pv 0) rfl) pa_nil)) (pv 2)) (pe_glob (v := .int (400)) (by rfl) T.g_MOST_MARBLES ⟨_, rfl⟩) (nomark _))
        (pss_one (ps_raise raises_cx rfl (by rfl) T.m_TooMany T.x_TooMany (pa_cons (pe_fs (pj_str (by decide +kernel) (pj_int (pe_glob (v := .int (400)) (by rfl) T.g_MOST_MARBLES ⟨_, rfl⟩) (pj_str (by decide +kernel) pj_nil))) (by decide)) pa_nil)))
        pss_nil)
      (pss_one (ps_augS (pe_fldK (K := K) rfl (pv 0) rfl) (pv 1) (get_listK (K := K) rfl) (pv 2) ip_add set_list)))), ?_⟩
    refine ⟨_, rfl, _, rfl, p, dx, aR, as, aT, aL, aS, b, z, rfl, B, z1, z2, fun hz => ?_, q1⟩
    refine ⟨_, rfl, p, A.C, dx, _, _, rfl, B.ob, T.cl_Board, T.na_loads, bf_loads _ _ _ _ _, aL, b.loads, rfl, SqL.of B.hL, _, rfl, _, _, rfl, rfl, _, _, rfl, rfl, _, rfl, ?_⟩
    by_cases hs : (400 : Int) < b.loads.sum + y
    · rw [decide_eq_true hs]
      refine iteT ?_
      exact ⟨⟨_, rfl, by decide, rfl, trivial⟩, fun x => ⟨small12 (by show 1 ≤ 100; decide), q2 hz hs⟩⟩
    · rw [decide_eq_false hs]
      refine iteF ?_
      have hz' : z < (b.loads.length : Int) := by rw [hl]; exact hz.2
      refine ⟨_, rfl, p, A.C, dx, _, _, rfl, B.ob, T.cl_Board, T.na_loads, bf_loads _ _ _ _ _, _, rfl, _, _, _, _, rfl, rfl, SqL.of B.hL, at_ints hz.1 hz', _, rfl, _, _, rfl, rfl, aL, _, _, _, rfl, rfl, B.hL, ixN_in hz.1 (by rw [List.length_map]; exact hz'), ?_⟩
      rw [map_set_int]
      exact q3 hz (by omega)
theorem sc_turns_by : FnScope ["script", "rows"] ["script", "rows"] (defScope s_turns_by) := ⟨rfl, rfl, rfl, by decide +kernel, rfl, by decide +kernel, by decide +kernel⟩
theorem ok_turns_by (T : Txt K mg A) (G_drawn : FnOk P w K mg base CX0 1 A.f_drawn A.fd_drawn ["script", "k", "many"] (spDrawn K)) : FnOk P w K mg base CX0 2 A.f_turns_by A.fd_turns_by ["script", "rows"] (spTurns K) := by
  refine T.F_turns_by.ok sc_turns_by (fun vs H Q E h => ?_) (fun cdv A' outer s H vs Q E hr h => ?_)
  · obtain ⟨a, R, as, rows, ns, rfl, _⟩ := h
    rfl
  · obtain ⟨a, R, as, rows, ns, rfl, hS, M, W, q⟩ := h
    refine ⟨_, (pss_one (ps_ret (pe_comp (CompSc.of (N' := ["k", "script", "rows"]) (ix := [none, some 0, some 1]) rfl (by kernel_rfl)) rfl rfl rfl rfl (pi_range1 (by rfl) T.n_range (pa_cons (pe_callB (call_lenK (K := K) rfl) (by rfl) T.n_len PySem.boot_len (pa_cons (pv 1) pa_nil)) pa_nil)) (by exact fun _ _ _ _ _ => pf_nil) (by exact fun _ _ _ _ _ => (pe_call G_drawn (hr.mono (by decide)) (by rfl) T.m__law_drawn T.k__law_drawn T.b__law_drawn .nil pass0 (pa_cons (pv 1) (pa_cons (pe_op op_add pe_int (pv 0)) (pa_cons (pe_callB (call_lenK (K := K) rfl) (by rfl) T.n_len PySem.boot_len (pa_cons (pe_ix (ix_listK (K := K) rfl) (pv 2) (pv 0) (fun _ _ => rfl)) pa_nil)) pa_nil))))) (fun _ => rfl)))), ?_⟩
    obtain ⟨w1, w12, wr⟩ := id W
    have hl := M.reflen
    refine ⟨_, rfl, _, _, rfl, .inl M.sq, _, rfl, by omega, by omega, ?_⟩
    have en : (((as.map V.ref).length : Nat) : Int).toNat = rows.length := by rw [hl]; simp
    rw [en]
    refine comp_pure (ys := ((List.range rows.length).map fun (i : Nat) => drawn ns (260 + (0 + (i : Int))) ((rows.getD i []).length : Int)).map V.int) wk_range (by rw [List.length_map, List.length_range]; exact small12 (Nat.le_trans w12 (by decide))) (by simp) (fun j x y ex ey Q' q' => ?_) (fun D hD => ?_)
    · rw [List.getElem?_map] at ex ey
      rw [List.getElem?_map] at ey
      cases er : (List.range rows.length)[j]? with
      | none => rw [er] at ex; cases ex
      | some j' =>
        rw [er] at ex ey
        cases ex
        cases ey
        obtain ⟨hj1, hj2⟩ := List.getElem?_eq_some_iff.mp er
        rw [List.getElem_range] at hj2
        rw [List.length_range] at hj1
        subst hj2
        obtain ⟨c, hat, hc, _⟩ := M.at (z := 0 + (j : Int)) (by omega) (by omega)
        have e1 : (0 + (j : Int)).toNat = j := by omega
        rw [e1] at hc
        have hr1 : 1 ≤ (rows.getD j []).length := by rw [getD_get hj1]; exact (wr _ (List.getElem_mem hj1)).1
        have hlr : ((rows.getD j []).map V.int).length = (rows.getD j []).length := by simp
        refine ⟨_, rfl, _, rfl, _, _, rfl, rfl, _, rfl, _, rfl, _, _, _, _, rfl, rfl, M.sq, hat, _, _, rfl, .inl (SqL.of hc), a, ns, _, _, rfl, hS, by rw [hlr]; omega, by omega, by omega, ?_⟩
        rw [hlr]
        exact q'
    · refine q D _ hD ⟨by simp, fun i hi => ?_⟩
      have hr1 : 1 ≤ (rows.getD i []).length := by rw [getD_get hi]; exact (wr _ (List.getElem_mem hi)).1
      have eg : ((List.range rows.length).map fun (i : Nat) => drawn ns (260 + (0 + (i : Int))) ((rows.getD i []).length : Int)).getD i 0 = drawn ns (260 + (0 + (i : Int))) ((rows.getD i []).length : Int) := by
        rw [getD_get (by simpa using hi), List.getElem_map, List.getElem_range]
      rw [eg]
      exact ⟨drawn_nn _ _ (by omega), drawn_lt _ _ (by omega)⟩
theorem sc_board : FnScope ["rows", "turns", "loads", "board", "k"] ["rows", "turns", "loads"] (defScope s_board) := ⟨rfl, rfl, rfl, by decide +kernel, rfl, by decide +kernel, by decide +kernel⟩
theorem ok_board (T : Txt K mg A) (G_i_Board : FnOk P w K mg base CX0 3 A.f_Binit A.fd_Binit ["self", "rows"] (spInit A.C)) (G_turn_to : FnOk P w K mg base (CX1 P w) 2 A.f_Bturn_to A.fd_Bturn_to ["self", "at", "place"] (spTurn A.C A.c_NoSite A.c_NoPlace)) (G_load : FnOk P w K mg base (CX1 P w) 2 A.f_Bload A.fd_Bload ["self", "at", "many"] (spLoad A.C A.c_NoSite A.c_TooMany)) : FnOk P w K mg base CX0 5 A.f_board A.fd_board ["rows", "turns", "loads"] (spBoard K A.C) := by
  refine T.F_board.ok sc_board (fun vs H Q E h => ?_) (fun cdv A' outer s H vs Q E hr h => ?_)
  · obtain ⟨R, tA, lA, as, rows, ts, ls, rfl, _⟩ := h
    rfl
  · obtain ⟨R, tA, lA, as, rows, ts, ls, rfl, M, W, hT, hL, ⟨tl, tv⟩, ll, lsum, q⟩ := h
    refine ⟨_, (pss_cons (ps_set (i := 3) sc_board.nd rfl (Or.inl rfl) (pe_make T.mk_Board G_i_Board (hr.mono (by decide)) (by rfl) T.m_Board T.bi_Board .nil pass0 (pa_cons (pe_comp (CompSc.of (N' := ["row"]) (ix := [none]) rfl (by kernel_rfl)) rfl rfl rfl rfl (pi_listK (K := K) rfl (pv 0)) (by exact fun _ _ _ _ _ => pf_nil) (by exact fun _ _ _ _ _ => (pe_callTy (call_listK (K := K) rfl) (by rfl) T.n_list PyProof.Rows.Boot.«list» (pa_cons (pv 0) pa_nil))) (fun _ => rfl)) pa_nil)))
      (pss_cons (ps_for PassesOwn.never rfl (pi_range1 (by rfl) T.n_range (pa_cons (pe_callB (call_lenK (K := K) rfl) (by rfl) T.n_len PySem.boot_len (pa_cons (pv 0) pa_nil)) pa_nil)) (pg_name (i := 4) sc_board.nd rfl (Or.inl rfl))
        (pss_cons (ps_expr (pe_meth (pv 3) T.cl_Board T.mt_turn_to G_turn_to (hr.mono (by decide)) T.bm_turn_to .nil passE0 (pa_cons (pv 4) (pa_cons (pe_ix (ix_listK (K := K) rfl) (pv 1) (pv 4) (fun _ _ => rfl)) pa_nil))))
        (pss_one (ps_expr (pe_meth (pv 3) T.cl_Board T.mt_load G_load (hr.mono (by decide)) T.bm_load .nil passE0 (pa_cons (pv 4) (pa_cons (pe_ix (ix_listK (K := K) rfl) (pv 2) (pv 4) (fun _ _ => rfl)) pa_nil)))))))
      (pss_one (ps_ret (pv 3))))), ?_⟩
    obtain ⟨w1, w12, wr⟩ := id W
    have hl := M.reflen
    refine ⟨_, rfl, R, rfl, ⟨_, M.sq⟩, ?_⟩
    refine comp_news (ls := rows.map fun r => r.map V.int) (wk_list M.sq) (by rw [hl]; exact small12 (Nat.le_trans w12 (by decide))) (by rw [List.length_map, hl]) (fun i x l H3 ex el s3 Q' q' => ?_) (fun as2 H2' s2 hlen2 nd2 fr2 hrows2 D hD => ?_)
    · obtain ⟨c, hi', rfl, ec, hc, _⟩ := M.refs ex
      rw [List.getElem?_map, List.getElem?_eq_getElem hi'] at el
      cases el
      exact ⟨_, rfl, _, _, rfl, .inl (SqL.of (s3 _ _ hc)), q'⟩
    rw [List.length_map] at hlen2
    have MD := mat_of (H := H) (R := D) hlen2 nd2 s2 hrows2 hD
    have s2' : Same H (upd H2' D (.lst (as2.map V.ref))) := same_upd s2 (s2.free hD)
    generalize upd H2' D (.lst (as2.map V.ref)) = H3 at MD s2'
    intro p dx hp hdx hne
    refine ⟨p, dx, D, as2, rows, rfl, upd_same, MD.same (same_upd (same_new hdx) hp), W, fun aR asB aT aL aS H4 B kp frB => ⟨rfl, ?_⟩⟩
    have s4 : Same H H4 := s2'.trans (made_same hp hdx kp)
    have fr4 : ∀ c ∈ p :: aT :: aL :: aS :: aR :: asB, H c = none := fun c hc => by
      rcases List.mem_cons.mp hc with z | z
      · rw [z]; exact s2'.free hp
      · exact s2'.free (made_none (frB c z))
    refine ⟨_, rfl, _, _, rfl, .inl (M.same s4).sq, _, rfl, by omega, by omega, ?_⟩
    have en : (((as.map V.ref).length : Nat) : Int).toNat = rows.length := by rw [hl]; simp
    rw [en]
    refine for_range (fun i σ H2 => ∃ x4 : Option V, σ = [some (.ref R), some (.ref tA), some (.ref lA), some (.ref p), x4] ∧ BoardAt A.C H2 p dx aR asB aT aL aS ⟨rows, part ts rows.length i, part ls rows.length i, List.replicate rows.length 0, 0⟩ ∧ Same H H2) ⟨none, rfl, ?_, s4⟩ ?_ ?_
    · rw [part_zero, part_zero]
      exact B
    · rintro i σ H2 hi ⟨x4, rfl, B2, s5⟩
      have e0 : (0 + (i : Int)).toNat = i := by omega
      have tvi := tv i hi
      refine ⟨_, rfl, p, dx, _, rfl, B2.ob, (by rfl), _, rfl, _, rfl, _, rfl, _, _, _, _, rfl, rfl, s5.seq hT, at_ints (by omega) (by omega), p, dx, aR, asB, aT, aL, aS, _, _, _, rfl, B2, (by show (part ts rows.length i).length = rows.length; exact part_len tl (by omega)), by omega, by omega, ?_⟩
      rw [e0]
      have hr8 : ((rows.getD i []).length : Int) ≤ 8 := by rw [getD_get hi]; have := (wr _ (List.getElem_mem hi)).2.1; omega
      refine ⟨by omega, by omega, fun z => absurd ⟨by omega, by show _ < (rows.length : Int); omega⟩ z, fun _ z => absurd tvi z, fun _ _ => ?_⟩
      show _
      have B3 := B2.setT ((part ts rows.length i).set i (ts.getD i 0))
      rw [part_set tl hi] at B3
      dsimp only
      rw [part_set tl hi]
      have s6 : Same H (upd H2 aT (.lst ((part ts rows.length (i + 1)).map V.int))) := same_upd s5 (fr4 aT (by simp))
      refine ⟨_, rfl, p, dx, _, rfl, B3.ob, (by rfl), _, rfl, _, rfl, _, rfl, _, _, _, _, rfl, rfl, s6.seq hL, at_ints (by omega) (by omega), p, dx, aR, asB, aT, aL, aS, _, _, _, rfl, B3, (by show (part ls rows.length i).length = rows.length; exact part_len ll (by omega)), by omega, by omega, fun z => absurd ⟨by omega, by show _ < (rows.length : Int); omega⟩ z, fun _ z => ?_, fun _ _ => ?_⟩
      · exfalso
        rw [e0] at z
        have z' : 400 < (part ls rows.length i).sum + ls.getD i 0 := z
        rw [part_sum, ← take_sum_succ (by omega)] at z'
        have := lsum (i + 1) (by omega)
        omega
      · rw [e0]
        dsimp only
        rw [part_get ll hi, Int.zero_add (ls.getD i 0), part_set ll hi]
        refine ⟨_, rfl, ?_, same_upd s6 (fr4 aL (by simp))⟩
        exact B3.setL _
    · rintro σ H2 ⟨x4, rfl, B2, s5⟩
      rw [part_all tl, part_all ll] at B2
      exact ⟨_, rfl, q p dx aR asB aT aL aS H2 B2 s5 fr4⟩
theorem sc_step : FnScope ["board", "at", "row", "way"] ["board", "at"] (defScope s_step) := ⟨rfl, rfl, rfl, by decide +kernel, rfl, by decide +kernel, by decide +kernel⟩
theorem ok_step (T : Txt K mg A) (G_check_site : FnOk P w K mg base (CX1 P w) 1 A.f_check_site A.fd_check_site ["board", "at"] (spSite A.C A.c_NoSite)) : FnOk P w K mg base (CX1 P w) 2 A.f_step A.fd_step ["board", "at"] (spStep A.C A.c_NoSite A.c_NoMarble) := by
  refine T.F_step.okX sc_step (fun vs H Q E h => ?_) (fun cdv A' outer s H vs Q E hr h => ?_)
  · obtain ⟨p, dx, aR, as, aT, aL, aS, b, z, rfl, _⟩ := h
    rfl
  · obtain ⟨p, dx, aR, as, aT, aL, aS, b, z, rfl, B, O, z1, z2, q1, q2, q3⟩ := h
    refine ⟨_, (pss_cons (ps_expr (pe_call G_check_site (hr.mono (by decide)) (by rfl) T.m_check_site T.k_check_site T.b_check_site .nil passX (pa_cons (pv 0) (pa_cons (pv 1) pa_nil))))
      (pss_cons (ps_if (pt_cmpR op_lt (pe_ix (ix_listK (K := K) rfl) (pe_fldK (K := K) rfl (pv 0) rfl) (pv 1) (fun _ _ => rfl)) pe_int (nomark _))
        (pss_one (ps_raise raises_cx rfl (by rfl) T.m_NoMarble T.x_NoMarble (pa_cons (pe_fs (pj_str (by decide +kernel) (pj_int (pv 1) pj_nil)) (by decide)) pa_nil)))
        pss_nil)
      (pss_cons (ps_set (i := 2) sc_step.nd rfl (Or.inl rfl) (pe_ix (ix_listK (K := K) rfl) (pe_fldK (K := K) rfl (pv 0) rfl) (pv 1) (fun _ _ => rfl)))
      (pss_cons (ps_set (i := 3) sc_step.nd rfl (Or.inl rfl) (pe_ix (ix_listK (K := K) rfl) (pv 2) (pe_ix (ix_listK (K := K) rfl) (pe_fldK (K := K) rfl (pv 0) rfl) (pv 1) (fun _ _ => rfl)) (fun _ _ => rfl)))
      (pss_cons (ps_augS (pe_fldK (K := K) rfl (pv 0) rfl) (pv 1) (get_listK (K := K) rfl) pe_int ip_sub set_list)
      (pss_cons (ps_if (pt_cmpR op_eq (pv 3) (pe_glob (v := .int (-1)) (by rfl) T.g_PIT ⟨_, rfl⟩) (nomark _))
        (pss_one (ps_fldaug (pv 0) pe_int in_add))
        (pss_one (ps_augS (pe_fldK (K := K) rfl (pv 0) rfl) (pv 3) (get_listK (K := K) rfl) pe_int ip_add set_list)))
      (pss_cons (ps_asg (pe_op op_mod (pe_op op_add (pe_ix (ix_listK (K := K) rfl) (pe_fldK (K := K) rfl (pv 0) rfl) (pv 1) (fun _ _ => rfl)) pe_int) (pe_callB (call_lenK (K := K) rfl) (by rfl) T.n_len PySem.boot_len (pa_cons (pv 2) pa_nil))) (pg_sub (pe_fldK (K := K) rfl (pv 0) rfl) (pv 1) set_list))
      (pss_cons (ps_augS (pe_fldK (K := K) rfl (pv 0) rfl) (pv 1) (get_listK (K := K) rfl) pe_int ip_add set_list)
      (pss_one (ps_ret (pv 3))))))))))), ?_⟩
    have lg := log2_small z1 z2
    refine ⟨_, rfl, _, rfl, p, dx, aR, as, aT, aL, aS, b, z, rfl, B, z1, z2, fun hz => ?_, q1⟩
    have z0 := hz.1
    have hs : z.toNat < b.rows.length := by omega
    obtain ⟨t0, t1⟩ := O.T.2 z.toNat hs
    obtain ⟨x0, x1⟩ := exit_in O.W O.T hs
    obtain ⟨c, hat, hc, hca⟩ := B.mat.at hz.1 hz.2
    have hlr : ((b.rows.getD z.toNat []).map V.int).length = (b.rows.getD z.toNat []).length := by simp
    have hr' := row_len O.W hs
    have zl : z < (b.loads.length : Int) := by rw [O.L]; exact hz.2
    have zt : z < (b.turns.length : Int) := by rw [O.T.1]; exact hz.2
    have zs : z < (b.steps.length : Int) := by rw [O.S]; exact hz.2
    refine ⟨_, rfl, p, A.C, dx, _, _, rfl, B.ob, T.cl_Board, T.na_loads, bf_loads _ _ _ _ _, _, rfl, _, _, _, _, rfl, rfl, SqL.of B.hL, at_ints z0 zl, _, _, rfl, rfl, _, rfl, ?_⟩
    by_cases h1 : b.loads.getD z.toNat 0 < 1
    · rw [decide_eq_true h1]
      refine iteT ?_
      exact ⟨⟨_, rfl, _, rfl, lg, rfl, trivial⟩, fun x => ⟨small12 (by show 1 ≤ 100; decide), q2 hz h1⟩⟩
    rw [decide_eq_false h1]
    refine iteF ?_
    have h1' : 1 ≤ b.loads.getD z.toNat 0 := by omega
    refine ⟨_, rfl, p, A.C, dx, _, _, rfl, B.ob, T.cl_Board, T.na_rows, bf_rows _ _ _ _ _, _, rfl, _, _, _, _, rfl, rfl, B.mat.sq, hat, ?_⟩
    refine ⟨_, rfl, _, rfl, p, A.C, dx, _, _, rfl, B.ob, T.cl_Board, T.na_turns, bf_turns _ _ _ _ _, _, rfl, _, _, _, _, rfl, rfl, SqL.of B.hT, at_ints z0 zt, _, _, _, _, rfl, rfl, SqL.of hc, at_ints t0 t1, ?_⟩
    rw [show (b.rows.getD z.toNat []).getD (b.turns.getD z.toNat 0).toNat 0 = exitOf b.rows b.turns z.toNat from rfl]
    generalize hg : exitOf b.rows b.turns z.toNat = g at x0 x1 q3
    refine ⟨_, rfl, p, A.C, dx, _, _, rfl, B.ob, T.cl_Board, T.na_loads, bf_loads _ _ _ _ _, _, rfl, _, _, _, _, rfl, rfl, SqL.of B.hL, at_ints z0 zl, _, _, rfl, rfl, aL, _, _, _, rfl, rfl, B.hL, ixN_in z0 (by rw [List.length_map]; exact zl), ?_⟩
    rw [map_set_int]
    have B1 := B.setL (b.loads.set z.toNat (b.loads.getD z.toNat 0 - 1))
    have f1 : ∀ x, x ∉ p :: aT :: aL :: aS :: aR :: as → (upd H aL (.lst ((b.loads.set z.toNat (b.loads.getD z.toNat 0 - 1)).map V.int))) x = H x := fun x hx => upd_ne (fun y => hx (by rw [y]; simp))
    generalize upd H aL (.lst ((b.loads.set z.toNat (b.loads.getD z.toNat 0 - 1)).map V.int)) = H1 at B1 f1
    dsimp only [gName]
    refine seq_mk' (fun σ' H' => σ' = [some (.ref p), some (.int z), some (.ref c), some (.int g)] ∧ BoardAt A.C H' p dx aR as aT aL aS { b with loads := moveL b.loads z.toNat g, taken := moveT b.taken g } ∧ ∀ x, x ∉ p :: aT :: aL :: aS :: aR :: as → H' x = H x) ?rest (fun D1 rest => ?way)
    case way =>
      refine ⟨_, rfl, rfl, _, rfl, ?_⟩
      by_cases hp : g = -1
      · subst hp
        refine iteT ?_
        refine ⟨_, rfl, p, A.C, dx, _, _, rfl, B1.ob, T.cl_Board, T.na_taken, bf_taken _ _ _ _ _, _, _, rfl, rfl, dx, _, B1.ob, (by show 5 < 1000; decide), ?_⟩
        rw [putF_taken]
        exact rest _ _ ⟨rfl, B1.setP _, fun x hx => by rw [upd_ne (fun y => hx (by rw [y]; simp))]; exact f1 x hx⟩
      · have e : decide (V.int g = V.int (-1)) = false := decide_eq_false (fun w => hp (by injection w))
        rw [e]
        refine iteF ?_
        have gl : g < ((b.loads.set z.toNat (b.loads.getD z.toNat 0 - 1)).length : Int) := by rw [List.length_set, O.L]; exact x1
        have g0 : 0 ≤ g := by omega
        refine ⟨_, rfl, p, A.C, dx, _, _, rfl, B1.ob, T.cl_Board, T.na_loads, bf_loads _ _ _ _ _, _, rfl, _, _, _, _, rfl, rfl, SqL.of B1.hL, at_ints g0 gl, _, _, rfl, rfl, aL, _, _, _, rfl, rfl, B1.hL, ixN_in g0 (by rw [List.length_map]; exact gl), ?_⟩
        rw [map_set_int]
        have B2 := B1.setL ((b.loads.set z.toNat (b.loads.getD z.toNat 0 - 1)).set g.toNat ((b.loads.set z.toNat (b.loads.getD z.toNat 0 - 1)).getD g.toNat 0 + 1))
        refine rest _ _ ⟨rfl, ?_, fun x hx => by rw [upd_ne (fun y => hx (by rw [y]; simp))]; exact f1 x hx⟩
        have e1 : moveL b.loads z.toNat g = (b.loads.set z.toNat (b.loads.getD z.toNat 0 - 1)).set g.toNat ((b.loads.set z.toNat (b.loads.getD z.toNat 0 - 1)).getD g.toNat 0 + 1) := by unfold moveL; rw [if_neg hp]
        have e2 : moveT b.taken g = b.taken := by unfold moveT; rw [if_neg hp]
        rw [e1, e2]
        exact B2
    rintro σ' H' ⟨rfl, B2, f2⟩
    obtain ⟨c2, hat2, hc2, hca2⟩ := B2.mat.at (z := z) hz.1 hz.2
    rw [hca] at hca2
    cases hca2
    refine ⟨_, rfl, p, A.C, dx, _, _, rfl, B2.ob, T.cl_Board, T.na_turns, bf_turns _ _ _ _ _, _, rfl, _, _, _, _, rfl, rfl, SqL.of B2.hT, at_ints z0 zt, _, _, rfl, rfl, _, rfl, _, _, rfl, .inl (SqL.of hc2), _, _, rfl, rfl, by rw [hlr]; omega, _, rfl, p, A.C, dx, _, _, rfl, B2.ob, T.cl_Board, T.na_turns, bf_turns _ _ _ _ _, _, rfl, aT, _, _, _, rfl, rfl, B2.hT, ixN_in z0 (by rw [List.length_map]; exact zt), ?_⟩
    rw [hlr, map_set_int]
    have B3 := B2.setT (b.turns.set z.toNat ((b.turns.getD z.toNat 0 + 1) % ((b.rows.getD z.toNat []).length : Int)))
    refine ⟨_, rfl, p, A.C, dx, _, _, rfl, B3.ob, T.cl_Board, T.na_steps, bf_steps _ _ _ _ _, _, rfl, _, _, _, _, rfl, rfl, SqL.of B3.hS, at_ints z0 zs, _, _, rfl, rfl, aS, _, _, _, rfl, rfl, B3.hS, ixN_in z0 (by rw [List.length_map]; exact zs), ?_⟩
    rw [map_set_int]
    have B4 := B3.setS (b.steps.set z.toNat (b.steps.getD z.toNat 0 + 1))
    refine ⟨_, rfl, q3 hz h1' _ ?_ fun x hx => ?_⟩
    · have e : stepB b z.toNat = ⟨b.rows, b.turns.set z.toNat ((b.turns.getD z.toNat 0 + 1) % ((b.rows.getD z.toNat []).length : Int)), moveL b.loads z.toNat g, b.steps.set z.toNat (b.steps.getD z.toNat 0 + 1), moveT b.taken g⟩ := by rw [← hg]; rfl
      rw [e]
      exact B4
    · rw [upd_ne (fun y => hx (by rw [y]; simp)), upd_ne (fun y => hx (by rw [y]; simp))]
      exact f2 x hx
theorem sc_reached : FnScope ["rows", "known", "again", "at", "row"] ["rows"] (defScope s_reached) := ⟨rfl, rfl, rfl, by decide +kernel, rfl, by decide +kernel, by decide +kernel⟩
theorem ok_reached (T : Txt K mg A) : FnOk P w K mg base CX0 1 A.f_reached A.fd_reached ["rows"] (spReached K) := by
  refine T.F_reached.ok sc_reached (fun vs H Q E h => ?_) (fun cdv A' outer s H vs Q E hr h => ?_)
  · obtain ⟨R, as, rows, rfl, _⟩ := h
    rfl
  · obtain ⟨R, as, rows, rfl, M, w12, wi, wl, q⟩ := h
    have hu1 : _ + 1 < cLine := Nat.lt_of_le_of_lt (Nat.add_le_add_left (by decide : 1 ≤ 64) _) hr.units

    refine ⟨_, (pss_cons (ps_set (i := 1) sc_reached.nd rfl (Or.inr rfl) (pe_disp (pps_cons (pe_glob (v := .int (-1)) (by rfl) T.g_PIT ⟨_, rfl⟩) pe_bl pps_nil) rfl rfl (by simp) (by decide)))
      (pss_cons (ps_for PassesOwn.never rfl (pi_range1 (by rfl) T.n_range (pa_cons (pe_callB (call_lenK (K := K) rfl) (by rfl) T.n_len PySem.boot_len (pa_cons (pv 0) pa_nil)) pa_nil)) (pg_name (i := 2) sc_reached.nd rfl (Or.inl rfl))
        (pss_one (ps_for PassesOwn.never rfl (pi_enum (K := K) rfl (by rfl) T.n_enumerate (pa_cons (pv 0) pa_nil)) (pg_tup rfl (pgs_cons (pg_name (i := 3) sc_reached.nd rfl (Or.inl rfl)) (pgs_cons (pg_name (i := 4) sc_reached.nd rfl (Or.inl rfl)) pgs_nil)))
          (pss_one (ps_if (pt_val (pe_callB (call_anyK (K := K) rfl rfl) (by rfl) T.n_any PyProof.Rows.Boot.«any» (pa_cons (pe_comp (CompSc.of (N' := ["way", "known"]) (ix := [none, some 1]) rfl (by kernel_rfl)) rfl rfl rfl rfl (pi_listK (K := K) rfl (pv 4)) (by exact fun _ _ _ _ _ => pf_nil) (by exact fun _ _ _ _ _ => (pe_cmp (pc_din hu1 (pv 0) (pv 1)) (by with_unfolding_all rfl))) (fun _ => rfl)) pa_nil)))
            (pss_one (ps_dput hu1 (pv 1) (pv 3) pe_bl rfl))
            pss_nil)))))
      (pss_one (ps_ret (pe_comp (CompSc.of (N' := ["at", "known"]) (ix := [none, some 1]) rfl (by kernel_rfl)) rfl rfl rfl rfl (pi_range1 (by rfl) T.n_range (pa_cons (pe_callB (call_lenK (K := K) rfl) (by rfl) T.n_len PySem.boot_len (pa_cons (pv 0) pa_nil)) pa_nil)) (by exact fun _ _ _ _ _ => pf_nil) (by exact fun _ _ _ _ _ => (pe_cmp (pc_din hu1 (pv 0) (pv 1)) (by with_unfolding_all rfl))) (fun _ => rfl)))))), ?_⟩
    have hl := M.reflen
    -- known
    refine fun kA hkA => ⟨upd_same, [(.inl (-1), .bl true)], rfl, by decide, ?_⟩
    rw [upd_upd]
    have s1 : Same H (upd H kA (.dK (mergeK [] [(.inl (-1), .bl true)]))) := same_new hkA
    have e1 : upd H kA (.dK (mergeK [] [(.inl (-1), .bl true)])) kA = some (.dK [(.inl (-1), .bl true)]) := upd_same
    generalize upd H kA (.dK (mergeK [] [(.inl (-1), .bl true)])) = H1 at s1 e1
    have M1 := M.same s1
    refine ⟨_, rfl, _, _, rfl, .inl M1.sq, _, rfl, by omega, by omega, ?_⟩
    have en : (((as.map V.ref).length : Nat) : Int).toNat = rows.length := by rw [hl]; simp
    rw [en]
    refine for_rangeN (fun j σ H2 => ∃ (kvs : List (Key × V)) (x2 x3 x4 : Option V), σ = [some (.ref R), some (.ref kA), x2, x3, x4] ∧ H2 kA = some (.dK kvs) ∧ Same H H2 ∧ kvs.length ≤ 1 + 12 * j ∧ kn kvs (-1) = true ∧ (∀ z, kn kvs z = true → z = -1 ∨ 0 ≤ z ∧ rch rows z.toNat = true) ∧ ∀ i, reachN rows j i = true → kn kvs (i : Int) = true)
      ⟨_, none, none, none, rfl, e1, s1, by decide, by decide, fun z hz => .inl (by unfold kn at hz; by_cases h : z = -1; exact h; rw [valV_neg (fun w => h (by injection w with w; exact w.symm)), valV_nil] at hz; cases hz), fun i hi => by cases hi⟩ ?_ ?_
    · rintro j σ H2 hj ⟨kvs, x2, x3, x4, rfl, e2, s2, n2, k1, ks, kc⟩ DD hDD
      have M2 := M.same s2
      refine ⟨_, rfl, R, _, rfl, M2.sq, ?_⟩
      refine for_enumN (fun i σ H3 => ∃ (kvs : List (Key × V)) (x3 x4 : Option V), σ = [some (.ref R), some (.ref kA), some (.int (0 + (j : Int))), x3, x4] ∧ H3 kA = some (.dK kvs) ∧ Same H H3 ∧ kvs.length ≤ 1 + 12 * j + i ∧ kn kvs (-1) = true ∧ (∀ z, kn kvs z = true → z = -1 ∨ 0 ≤ z ∧ rch rows z.toNat = true) ∧ (∀ i, reachN rows j i = true → kn kvs (i : Int) = true) ∧ ∀ i', i' < i → reachN rows (j + 1) i' = true → kn kvs (i' : Int) = true)
        ⟨kvs, x3, x4, rfl, e2, s2, n2, k1, ks, kc, fun i' h => by omega⟩ (fun i σ H3 _ ⟨_, _, _, _, _, s3, _⟩ => (M.same s3).sq) ?_ ?_
      · rintro i x σ H3 p hx ⟨kvs, x3, x4, rfl, e3, s3, n3, k1, ks, kc, kd⟩ hp D3 hD3
        obtain ⟨c, hi', rfl, ec, hc, _⟩ := (M.same s3).refs hx
        have s4 := same_new hp (o := .tup [.int (i : Int), .ref c])
        have e4 := s4 _ _ e3
        have hc4 := s4 _ _ hc
        refine ⟨p, _, rfl, SqT.of upd_same, rfl, _, _, rfl, _, _, rfl, rfl, ?_⟩
        have s14 := s3.trans s4
        generalize upd H3 p (.tup [.int (i : Int), .ref c]) = H4 at e4 hc4 s14
        have wrl := wl _ (List.getElem_mem hi')
        -- any([way in known for way in row])
        refine ⟨_, rfl, c, rfl, ⟨_, SqL.of hc4⟩, ?_⟩
        refine comp_pure (ys := ((rows[i]).map (kn kvs)).map V.bl) (wk_list (K := K) (SqL.of hc4)) (by rw [List.length_map]; exact small12 wrl) (by simp) (fun m x y ex ey Q' q' => ?_) (fun L hL => ?_)
        · rw [List.getElem?_map] at ex ey
          rw [List.getElem?_map] at ey
          cases er : (rows[i])[m]? with
          | none => rw [er] at ex; cases ex
          | some e =>
            rw [er] at ex ey
            cases ex
            cases ey
            exact ⟨_, rfl, _, rfl, kA, _, rfl, DGet.k (k := .inl e) e4, q'⟩
        refine ⟨L, (rows[i]).map (kn kvs), rfl, SqL.of upd_same, _, rfl, ?_⟩
        have s5 : Same H (upd H4 L (.lst (((rows[i]).map (kn kvs)).map V.bl))) := same_upd s14 (s14.free hL)
        have e5 := same_new hL (o := .lst (((rows[i]).map (kn kvs)).map V.bl)) _ _ e4
        generalize upd H4 L (.lst (((rows[i]).map (kn kvs)).map V.bl)) = H5 at s5 e5
        have gi : rows.getD i [] = rows[i] := getD_get hi'
        refine ite2 (fun ha => ?_) (fun ha => ?_)
        · obtain ⟨b', hb', hb1⟩ := List.any_eq_true.mp ha
          obtain ⟨e, he, rfl⟩ := List.mem_map.mp hb'
          have hri : rch rows i = true := rch_step (by rw [gi]; exact he) (ks e hb1)
          refine ⟨_, rfl, _, rfl, kA, _, rfl, DPut.k (k := .inl (i : Int)) e5 (small1000 (by omega)), ?_⟩
          refine hD3 _ _ ⟨_, _, _, rfl, upd_same, ?_, ?_, ?_, fun z hz => ?_, fun i' h' => ?_, fun i' hi2 h' => ?_⟩
          · intro b o hb
            rw [upd_ne (ne_of_none hb hkA)]
            exact s5 b o hb
          · have := length_putK kvs (.inl (i : Int)) (.bl true)
            omega
          · rw [kn_put, k1, Bool.or_true]
          · rw [kn_put, Bool.or_eq_true] at hz
            rcases hz with hz | hz
            · rw [of_decide_eq_true hz]
              exact .inr ⟨by omega, by simpa using hri⟩
            · exact ks z hz
          · rw [kn_put, kc i' h', Bool.or_true]
          · rw [kn_put]
            by_cases hii : i' = i
            · subst hii; simp
            · rw [kd i' (by omega) h', Bool.or_true]
        · refine hD3 _ _ ⟨kvs, _, _, rfl, e5, s5, by omega, k1, ks, kc, fun i' hi2 h' => ?_⟩
          by_cases hii : i' = i
          · subst hii
            exfalso
            apply ha
            rw [reachN] at h'
            obtain ⟨e, he, q'⟩ := List.any_eq_true.mp h'
            rw [gi] at he
            refine List.any_eq_true.mpr ⟨_, List.mem_map.mpr ⟨e, he, rfl⟩, ?_⟩
            rw [Bool.or_eq_true, Bool.and_eq_true] at q'
            show kn kvs e = true
            rcases q' with q' | ⟨q1, q2⟩
            · rw [eq_of_beq q']; exact k1
            · have := kc _ q2
              rw [show ((e.toNat : Nat) : Int) = e by have := of_decide_eq_true q1; omega] at this
              exact this
          · exact kd i' (by omega) h'
      · rintro σ H3 ⟨kvs, x3, x4, rfl, e3, s3, n3, k1, ks, kc, kd⟩
        refine hDD _ _ ⟨kvs, _, _, _, rfl, e3, s3, by rw [M.reflen] at n3; omega, k1, ks, fun i h' => ?_⟩
        exact kd i (by rw [M.reflen]; exact reachN_lt h') h'
    · rintro σ H2 ⟨kvs, x2, x3, x4, rfl, e2, s2, n2, k1, ks, kc⟩
      have M2 := M.same s2
      refine ⟨_, rfl, _, _, rfl, .inl M2.sq, _, rfl, by omega, by omega, ?_⟩
      rw [en]
      refine comp_pure (ys := (reachL rows).map V.bl) wk_range (by rw [List.length_map, List.length_range]; exact small12 (by omega)) (by rw [List.length_map, List.length_map, List.length_range, reachL_len]) (fun j x y ex ey Q' q' => ?_) (fun L hL => ?_)
      · have hj : j < rows.length := by
          have := (List.getElem?_eq_some_iff.mp ey).1
          rw [List.length_map, reachL_len] at this
          exact this
        rw [bools_get (reachL_get hj)] at ey
        cases ey
        rw [List.getElem?_map, List.getElem?_range hj] at ex
        cases ex
        refine ⟨_, rfl, _, rfl, kA, _, rfl, DGet.k (k := .inl (0 + (j : Int))) e2, ?_⟩
        have ek : (valV kvs (Sum.inl (0 + (j : Int)) : Key)).isSome = rch rows j := by
          rw [show (0 + (j : Int)) = (j : Int) by omega]
          show kn kvs (j : Int) = _
          rw [Bool.eq_iff_iff]
          constructor
          · intro z
            rcases ks _ z with z | ⟨_, z⟩
            · omega
            · simpa using z
          · exact kc j
        rw [ek]
        exact q'
      · exact q L _ (same_upd s2 (s2.free hL)) (s2.free hL) upd_same
theorem sc_is_open : FnScope ["board"] ["board"] (defScope s_is_open) := ⟨rfl, rfl, rfl, by decide +kernel, rfl, by decide +kernel, by decide +kernel⟩
theorem ok_is_open (T : Txt K mg A) (G_reached : FnOk P w K mg base CX0 1 A.f_reached A.fd_reached ["rows"] (spReached K)) : FnOk P w K mg base CX0 2 A.f_is_open A.fd_is_open ["board"] (spOpen A.C) := by
  refine T.F_is_open.ok sc_is_open (fun vs H Q E h => ?_) (fun cdv A' outer s H vs Q E hr h => ?_)
  · obtain ⟨p, dx, aR, as, aT, aL, aS, b, rfl, _⟩ := h
    rfl
  · obtain ⟨p, dx, aR, as, aT, aL, aS, b, rfl, B, w12, wi, wl, q⟩ := h
    refine ⟨_, (pss_one (ps_ret (pe_callB (call_allK (K := K) rfl rfl) (by rfl) T.n_all PyProof.Rows.Boot.«all» (pa_cons (pe_call G_reached (hr.mono (by decide)) (by rfl) T.m_reached T.k_reached T.b_reached .nil pass0 (pa_cons (pe_fldK (K := K) rfl (pv 0) rfl) pa_nil)) pa_nil)))), ?_⟩
    exact ⟨_, rfl, p, A.C, dx, _, _, rfl, B.ob, T.cl_Board, T.na_rows, bf_rows _ _ _ _ _, aR, as, b.rows, rfl, B.mat, w12, wi, wl, fun l H' s' hl el => ⟨l, _, rfl, SqL.of el, q H' s'⟩⟩
theorem sc_check_open : FnScope ["board"] ["board"] (defScope s_check_open) := ⟨rfl, rfl, rfl, by decide +kernel, rfl, by decide +kernel, by decide +kernel⟩
theorem ok_check_open (T : Txt K mg A) (G_is_open : FnOk P w K mg base CX0 2 A.f_is_open A.fd_is_open ["board"] (spOpen A.C)) : FnOk P w K mg base (CX1 P w) 3 A.f_check_open A.fd_check_open ["board"] (spChkO A.C A.c_NotOpen) := by
  refine T.F_check_open.okX sc_check_open (fun vs H Q E h => ?_) (fun cdv A' outer s H vs Q E hr h => ?_)
  · obtain ⟨p, dx, aR, as, aT, aL, aS, b, rfl, _⟩ := h
    rfl
  · obtain ⟨p, dx, aR, as, aT, aL, aS, b, rfl, B, W, q1, q2⟩ := h
    refine ⟨_, (pss_one (ps_if (pt_not (pt_val (pe_call G_is_open (hr.mono (by decide)) (by rfl) T.m_is_open T.k_is_open T.b_is_open .nil pass0 (pa_cons (pv 0) pa_nil))))
        (pss_one (ps_raise raises_cx rfl (by rfl) T.m_NotOpen T.x_NotOpen (pa_cons pe_str pa_nil)))
        pss_nil)), ?_⟩
    refine ⟨_, rfl, p, dx, aR, as, aT, aL, aS, b, rfl, B, W.2.1, W.ins, fun r hr => by have := (W.2.2 r hr).2.1; omega, fun H' s' => ⟨_, rfl, ?_⟩⟩
    cases e : (reachL b.rows).all id with
    | true => exact iteF (q1 e H' s')
    | false =>
      refine iteT ?_
      exact ⟨small12 (by show 1 ≤ 100; decide), q2 e H' s'⟩
theorem sc_Bstand_like : FnScope ["self", "other"] ["self", "other"] (defScope s_Bstand_like) := ⟨rfl, rfl, rfl, by decide +kernel, rfl, by decide +kernel, by decide +kernel⟩
theorem ok_Bstand_like (T : Txt K mg A) : FnOk P w K mg base CX0 1 A.f_Bstand_like A.fd_Bstand_like ["self", "other"] (spLike A.C) := by
  refine T.F_Bstand_like.ok sc_Bstand_like (fun vs H Q E h => ?_) (fun cdv A' outer s H vs Q E hr h => ?_)
  · obtain ⟨p, dx, aR, as, aT, aL, aS, b, p2, dx2, aR2, as2, aT2, aL2, aS2, b2, rfl, _⟩ := h
    rfl
  · obtain ⟨p, dx, aR, as, aT, aL, aS, b, p2, dx2, aR2, as2, aT2, aL2, aS2, b2, rfl, B, B2, hpp, q⟩ := h
    refine ⟨_, (pss_cons (ps_fldK (K := K) rfl (pv 0) (pe_callTy (call_listK (K := K) rfl) (by rfl) T.n_list PyProof.Rows.Boot.«list» (pa_cons (pe_fldK (K := K) rfl (pv 1) rfl) pa_nil)) rfl)
      (pss_cons (ps_fldK (K := K) rfl (pv 0) (pe_callTy (call_listK (K := K) rfl) (by rfl) T.n_list PyProof.Rows.Boot.«list» (pa_cons (pe_fldK (K := K) rfl (pv 1) rfl) pa_nil)) rfl)
      (pss_cons (ps_fldK (K := K) rfl (pv 0) (pe_callTy (call_listK (K := K) rfl) (by rfl) T.n_list PyProof.Rows.Boot.«list» (pa_cons (pe_fldK (K := K) rfl (pv 1) rfl) pa_nil)) rfl)
      (pss_one (ps_fldK (K := K) rfl (pv 0) (pe_fldK (K := K) rfl (pv 1) rfl) rfl))))), ?_⟩
    have np := ins_not B.ob B2 hpp
    refine ⟨_, rfl, p2, A.C, dx2, _, _, rfl, B2.ob, T.cl_Board, T.na_turns, bf_turns _ _ _ _ _, _, _, rfl, .inl (SqL.of B2.hT), fun n1 hn1 => ⟨_, rfl, p, A.C, dx, _, rfl, (same_new hn1) _ _ B.ob, T.cl_Board, T.na_turns, (by show 5 < 1000; decide), ?_⟩⟩
    rw [putF_turns]
    have B3 := B.newT hn1 b2.turns
    have k3 := (But.refl p H).new (o := .lst (b2.turns.map V.int)) (o' := .ins A.C dx (bflds aR n1 aL aS b.taken)) hn1
    have C3 := k3.board B2 np
    generalize upd (upd H n1 (.lst (b2.turns.map V.int))) p (.ins A.C dx (bflds aR n1 aL aS b.taken)) = H3 at B3 k3 C3
    refine ⟨_, rfl, p2, A.C, dx2, _, _, rfl, C3.ob, T.cl_Board, T.na_loads, bf_loads _ _ _ _ _, _, _, rfl, .inl (SqL.of C3.hL), fun n2 hn2 => ⟨_, rfl, p, A.C, dx, _, rfl, (same_new hn2) _ _ B3.ob, T.cl_Board, T.na_loads, (by show 5 < 1000; decide), ?_⟩⟩
    rw [putF_loads]
    have n2p : n2 ≠ p := fun z => by rw [z, B3.ob] at hn2; cases hn2
    have n2H := k3.free hn2 n2p
    have B4 := B3.newL hn2 b2.loads
    have k4 := k3.new (o := .lst (b2.loads.map V.int)) (o' := .ins A.C dx (bflds aR n1 n2 aS b.taken)) hn2
    have C4 := k4.board B2 np
    dsimp only at B4 ⊢
    generalize upd (upd H3 n2 (.lst (b2.loads.map V.int))) p (.ins A.C dx (bflds aR n1 n2 aS b.taken)) = H4 at B4 k4 C4
    refine ⟨_, rfl, p2, A.C, dx2, _, _, rfl, C4.ob, T.cl_Board, T.na_steps, bf_steps _ _ _ _ _, _, _, rfl, .inl (SqL.of C4.hS), fun n3 hn3 => ⟨_, rfl, p, A.C, dx, _, rfl, (same_new hn3) _ _ B4.ob, T.cl_Board, T.na_steps, (by show 5 < 1000; decide), ?_⟩⟩
    rw [putF_steps]
    have n3p : n3 ≠ p := fun z => by rw [z, B4.ob] at hn3; cases hn3
    have n3H := k4.free hn3 n3p
    have B5 := B4.newS hn3 b2.steps
    have k5 := k4.new (o := .lst (b2.steps.map V.int)) (o' := .ins A.C dx (bflds aR n1 n2 n3 b.taken)) hn3
    have C5 := k5.board B2 np
    dsimp only at B5 ⊢
    generalize upd (upd H4 n3 (.lst (b2.steps.map V.int))) p (.ins A.C dx (bflds aR n1 n2 n3 b.taken)) = H5 at B5 k5 C5
    refine ⟨_, rfl, p2, A.C, dx2, _, _, rfl, C5.ob, T.cl_Board, T.na_taken, bf_taken _ _ _ _ _, _, rfl, p, A.C, dx, _, rfl, B5.ob, T.cl_Board, T.na_taken, (by show 5 < 1000; decide), ?_⟩
    rw [putF_taken]
    refine q n1 n2 n3 _ (B5.setP b2.taken) (fun x o hx e => ?_) hn1 n2H n3H
    rw [upd_ne hx]
    exact k5 x o hx e
theorem sc_Btwin : FnScope ["self", "other"] ["self"] (defScope s_Btwin) := ⟨rfl, rfl, rfl, by decide +kernel, rfl, by decide +kernel, by decide +kernel⟩
theorem ok_Btwin (T : Txt K mg A) (G_i_Board : FnOk P w K mg base CX0 3 A.f_Binit A.fd_Binit ["self", "rows"] (spInit A.C)) (G_stand_like : FnOk P w K mg base CX0 1 A.f_Bstand_like A.fd_Bstand_like ["self", "other"] (spLike A.C)) : FnOk P w K mg base CX0 5 A.f_Btwin A.fd_Btwin ["self"] (spTwin A.C) := by
  refine T.F_Btwin.ok sc_Btwin (fun vs H Q E h => ?_) (fun cdv A' outer s H vs Q E hr h => ?_)
  · obtain ⟨p, dx, aR, as, aT, aL, aS, b, rfl, _⟩ := h
    rfl
  · obtain ⟨p, dx, aR, as, aT, aL, aS, b, rfl, B, W, q⟩ := h
    refine ⟨_, (pss_cons (ps_set (i := 1) sc_Btwin.nd rfl (Or.inl rfl) (pe_make T.mk_Board G_i_Board (hr.mono (by decide)) (by rfl) T.m_Board T.bi_Board .nil pass0 (pa_cons (pe_fldK (K := K) rfl (pv 0) rfl) pa_nil)))
      (pss_cons (ps_expr (pe_meth (pv 1) T.cl_Board T.mt_stand_like G_stand_like (hr.mono (by decide)) T.bm_stand_like .nil pass0 (pa_cons (pv 0) pa_nil)))
      (pss_one (ps_ret (pv 1))))), ?_⟩
    refine ⟨_, rfl, p, A.C, dx, _, _, rfl, B.ob, T.cl_Board, T.na_rows, bf_rows _ _ _ _ _, ?_⟩
    intro p' dx' hp hdx hne
    refine ⟨p', dx', aR, as, b.rows, rfl, upd_same, B.mat.same (same_upd (same_new hdx) hp), W, fun aR' as' aT' aL' aS' H4 B4 kp frB => ⟨rfl, ?_⟩⟩
    have s4 : Same H H4 := made_same hp hdx kp
    have fr4 : ∀ c ∈ p' :: aT' :: aL' :: aS' :: aR' :: as', H c = none := fun c hc => by
      rcases List.mem_cons.mp hc with z | z
      · rw [z]; exact hp
      · exact made_none (frB c z)
    have hpp : p' ≠ p := fun z => by rw [z, B.ob] at hp; cases hp
    refine ⟨_, rfl, p', dx', _, rfl, B4.ob, (by rfl), _, rfl, p', dx', aR', as', aT', aL', aS', _, p, dx, aR, as, aT, aL, aS, b, rfl, B4, B.same s4, hpp, fun n1 n2 n3 H5 B5 k5 e1 e2 e3 => ?_⟩
    refine ⟨_, rfl, q p' dx' aR' as' n1 n2 n3 H5 B5 (k5.same s4 hp) fun c hc => ?_⟩
    simp only [List.mem_cons] at hc
    rcases hc with rfl | rfl | rfl | rfl | hc
    · exact hp
    · exact s4.free e1
    · exact s4.free e2
    · exact s4.free e3
    · exact fr4 c (by simp only [List.mem_cons]; exact .inr (.inr (.inr (.inr hc))))
theorem sc_loaded : FnScope ["board"] ["board"] (defScope s_loaded) := ⟨rfl, rfl, rfl, by decide +kernel, rfl, by decide +kernel, by decide +kernel⟩
theorem ok_loaded (T : Txt K mg A) : FnOk P w K mg base CX0 1 A.f_loaded A.fd_loaded ["board"] (spLaden A.C) := by
  refine T.F_loaded.ok sc_loaded (fun vs H Q E h => ?_) (fun cdv A' outer s H vs Q E hr h => ?_)
  · obtain ⟨p, dx, aR, as, aT, aL, aS, b, rfl, _⟩ := h
    rfl
  · obtain ⟨p, dx, aR, as, aT, aL, aS, b, rfl, B, h100, q⟩ := h
    refine ⟨_, (pss_one (ps_ret (pe_compT (CompSc.of (N' := ["at", "many"]) (ix := [none, none]) rfl (by kernel_rfl)) (by exact fun _ _ _ _ _ nd => pg_tupK (K := K) (n := 2) rfl rfl (pgs_cons (pg_name (i := 0) nd rfl (Or.inl (lookup_relabel_local rfl)) (.inr (lookup_relabel_local rfl))) (pgs_cons (pg_name (i := 1) nd rfl (Or.inl (lookup_relabel_local rfl)) (.inr (lookup_relabel_local rfl))) pgs_nil))) rfl (pi_enum (K := K) rfl (by rfl) T.n_enumerate (pa_cons (pe_fldK (K := K) rfl (pv 0) rfl) pa_nil)) (by exact fun _ _ _ _ _ => (pf_one (pt_cmpR op_gt (pv 1) pe_int (nomark _)))) (by exact fun _ _ _ _ _ => (pv 0)) (fun _ => rfl)))), ?_⟩
    refine ⟨_, rfl, p, A.C, dx, _, _, rfl, B.ob, T.cl_Board, T.na_loads, bf_loads _ _ _ _ _, aL, _, rfl, SqL.of B.hL, ?_⟩
    refine comp_enumT (fun i ys H3 => Same H H3 ∧ ys = ((List.range i).filter fun k => decide (0 < b.loads.getD k 0)).map fun k => V.int (k : Nat)) ⟨Same.refl _, rfl⟩ (fun i ys H3 _ ⟨s3, _⟩ => SqL.of (s3 _ _ B.hL)) (fun i x ys H3 c hx hP hc => ?_) (fun i ys H3 hi hP => ?_) (fun ys H3 hP D hD => ?_)
    · obtain ⟨s3, rfl⟩ := hP
      have hi : i < b.loads.length := by have := (List.getElem?_eq_some_iff.mp hx).1; simpa using this
      have ex : x = V.int (b.loads.getD i 0) := by
        rw [List.getElem?_map, List.getElem?_eq_getElem hi] at hx
        rw [getD_get hi]
        exact (Option.some.inj hx).symm
      subst ex
      refine ⟨c, _, rfl, SqT.of upd_same, rfl, _, _, rfl, _, _, rfl, rfl, ⟨rfl, fun k z hz => ?_⟩, _, rfl, _, _, rfl, rfl, _, rfl, ?_⟩
      · match k, hz with
        | 0, hz => cases hz
        | 1, hz => cases hz
        | n + 2, hz => simp [inSt] at hz
      have s4 := s3.trans (same_new hc (o := .tup [.int (i : Int), .int (b.loads.getD i 0)]))
      refine ite2 (fun h1 => ?_) (fun h1 => ?_)
      · have h1' := of_decide_eq_true h1
        refine ⟨_, rfl, s4, ?_⟩
        rw [laden_range, if_pos h1']
      · have h1' : ¬ 0 < b.loads.getD i 0 := fun z => h1 (decide_eq_true z)
        refine ⟨s4, ?_⟩
        rw [laden_range, if_neg h1', List.append_nil]
    · obtain ⟨s3, rfl⟩ := hP
      rw [List.length_map] at hi ⊢
      have := List.length_filter_le (fun k => decide (0 < b.loads.getD k 0)) (List.range i)
      rw [List.length_range] at this
      exact small1000 (by omega)
    · obtain ⟨s3, rfl⟩ := hP
      refine q D _ (same_upd s3 (s3.free hD)) (s3.free hD) ?_
      rw [upd_same, List.length_map]
      rfl
theorem sc_run : FnScope ["board", "most", "trial", "done", "waiting"] ["board", "most"] (defScope s_run) := ⟨rfl, rfl, rfl, by decide +kernel, rfl, by decide +kernel, by decide +kernel⟩
theorem ok_run (T : Txt K mg A) (G_check_open : FnOk P w K mg base (CX1 P w) 3 A.f_check_open A.fd_check_open ["board"] (spChkO A.C A.c_NotOpen)) (G_twin : FnOk P w K mg base CX0 5 A.f_Btwin A.fd_Btwin ["self"] (spTwin A.C)) (G_loaded : FnOk P w K mg base CX0 1 A.f_loaded A.fd_loaded ["board"] (spLaden A.C)) (G_stand_like : FnOk P w K mg base CX0 1 A.f_Bstand_like A.fd_Bstand_like ["self", "other"] (spLike A.C)) (G_step : FnOk P w K mg base (CX1 P w) 2 A.f_step A.fd_step ["board", "at"] (spStep A.C A.c_NoSite A.c_NoMarble)) : FnOk P w K mg base (CX1 P w) 6 A.f_run A.fd_run ["board", "most"] (spRun A.C A.c_NotOpen A.c_TooLong) := by
  refine T.F_run.okX sc_run (fun vs H Q E h => ?_) (fun cdv A' outer s H vs Q E hr h => ?_)
  · obtain ⟨p, dx, aR, as, aT, aL, aS, b, most, rfl, _⟩ := h
    rfl
  · obtain ⟨p, dx, aR, as, aT, aL, aS, b, most, rfl, B, O, m1, m2, q1, q2⟩ := h
    refine ⟨_, (pss_cons (ps_expr (pe_call G_check_open (hr.mono (by decide)) (by rfl) T.m_check_open T.k_check_open T.b_check_open .nil passX (pa_cons (pv 0) pa_nil)))
      (pss_cons (ps_set (i := 2) sc_run.nd rfl (Or.inl rfl) (pe_meth0 (pv 0) T.cl_Board T.mt_twin G_twin (hr.mono (by decide)) T.bm_twin .nil pass0))
      (pss_cons (ps_set (i := 3) sc_run.nd rfl (Or.inl rfl) pe_int)
      (pss_cons (ps_while PassesOwn.leaving (pt_cmpR op_le (pv 3) (pv 1) (nomark _))
        (pss_cons (ps_set (i := 4) sc_run.nd rfl (Or.inl rfl) (pe_call G_loaded (hr.mono (by decide)) (by rfl) T.m_loaded T.k_loaded T.b_loaded .nil pass0 (pa_cons (pv 2) pa_nil)))
        (pss_cons (ps_if (pt_not (pt_lst (K := K) rfl (pv 4)))
          (pss_cons (ps_expr (pe_meth (pv 0) T.cl_Board T.mt_stand_like G_stand_like (hr.mono (by decide)) T.bm_stand_like .nil pass0 (pa_cons (pv 2) pa_nil)))
          (pss_one (ps_ret (pv 3))))
          pss_nil)
        (pss_cons (ps_expr (pe_call G_step (hr.mono (by decide)) (by rfl) T.m_step T.k_step T.b_step .nil passX (pa_cons (pv 2) (pa_cons (pe_ix (ix_listK (K := K) rfl) (pv 4) pe_int (fun _ _ => rfl)) pa_nil))))
        (pss_one (ps_aug (i := 3) sc_run.nd rfl (Or.inl rfl) pe_int ip_add))))))
      (pss_one (ps_raise raises_cx rfl (by rfl) T.m_TooLong T.x_TooLong (pa_cons (pe_fs (pj_str (by decide +kernel) (pj_int (pv 1) (pj_str (by decide +kernel) pj_nil))) (by decide)) pa_nil))))))), ?_⟩
    have lg := log2_small m1 m2
    refine ⟨_, rfl, p, dx, aR, as, aT, aL, aS, b, rfl, B, O.W, fun hop H1 s1 => ?_, fun hop H1 s1 => q1 hop H1 s1⟩
    obtain ⟨N, RT, qa, qb⟩ := q2 hop
    have B1 := B.same s1
    refine ⟨_, rfl, p, dx, _, rfl, B1.ob, (by rfl), p, dx, aR, as, aT, aL, aS, b, rfl, B1, O.W, fun p' dx' aR' as' aT' aL' aS' H2 B2 s2 fr2 => ?_⟩
    have s02 := s1.trans s2
    have fr0 : ∀ c ∈ p' :: aT' :: aL' :: aS' :: aR' :: as', H c = none := fun c hc => s1.free (fr2 c hc)
    dsimp only [gName]
    refine asg_lit ?_
    have hpp : p ≠ p' := fun z => by have := fr0 p' (by simp); rw [← z, B.ob] at this; cases this
    refine ⟨fun m σ H3 => ∃ (k : Nat) (x4 : Option V), k ≤ N ∧ (k = 0 ∨ (k : Int) ≤ most + 1) ∧ m = N - k ∧ σ = [some (.ref p), some (.int most), some (.ref p'), some (.int (k : Int)), x4] ∧ BoardAt A.C H3 p' dx' aR' as' aT' aL' aS' (iterR k b) ∧ Same H H3, ⟨_, 0, none, Nat.zero_le _, .inl rfl, rfl, rfl, B2, s02⟩, ?_⟩
    rintro m σ H3 ⟨k, x4, hk, hkm, rfl, rfl, B3, s3⟩
    obtain ⟨O3, r3, _⟩ := O.iter k
    refine ⟨_, rfl, _, rfl, _, _, rfl, rfl, _, rfl, ?_⟩
    refine ite2 (fun h1 => ?_) (fun h1 => ?_)
    · have h1' : (k : Int) ≤ most := of_decide_eq_true h1
      refine ⟨fun σ' H' => ∃ m', m' < N - k ∧ ∃ (k : Nat) (x4 : Option V), k ≤ N ∧ (k = 0 ∨ (k : Int) ≤ most + 1) ∧ m' = N - k ∧ σ' = [some (.ref p), some (.int most), some (.ref p'), some (.int (k : Int)), x4] ∧ BoardAt A.C H' p' dx' aR' as' aT' aL' aS' (iterR k b) ∧ Same H H', fun _ _ h => h, ?_⟩
      refine ⟨_, rfl, p', dx', aR', as', aT', aL', aS', _, rfl, B3, by rw [O3.L, r3]; have := O.W.2.1; omega, fun l H4 s4 hl el => ?_⟩
      have B4 := B3.same s4
      have s04 := s3.trans s4
      cases hw : ladenL (iterR k b).loads with
      | nil =>
        rw [hw] at el
        have hkN : k = N := by
          by_cases e : k = N
          · exact e
          · exact absurd hw (RT.more k (by omega))
        subst hkN
        refine ⟨_, rfl, l, _, rfl, SqL.of el, ?_⟩
        refine iteT ?_
        have Bp4 := B.same s04
        refine ⟨_, rfl, p, dx, _, rfl, Bp4.ob, (by rfl), _, rfl, p, dx, aR, as, aT, aL, aS, b, p', dx', aR', as', aT', aL', aS', _, rfl, Bp4, B4, hpp, fun n1 n2 n3 H5 B5 k5 e1 e2 e3 => ?_⟩
        have eB : (⟨b.rows, (iterR k b).turns, (iterR k b).loads, (iterR k b).steps, (iterR k b).taken⟩ : Brd) = iterR k b := by rw [← r3]
        rw [eB] at B5
        exact ⟨_, rfl, qa h1' n1 n2 n3 H5 B5 (fun x o hx e => k5 x o hx (s04 x o e)) (s04.free e1) (s04.free e2) (s04.free e3)⟩
      | cons s r =>
        rw [hw] at el
        have hm : s ∈ ladenL (iterR k b).loads := by rw [hw]; exact List.mem_cons_self
        obtain ⟨g1, g2⟩ := laden_mem hm
        have hkN : k < N := by
          by_cases e : k = N
          · subst e; rw [RT.done] at hw; cases hw
          · omega
        refine ⟨_, rfl, l, _, rfl, SqL.of el, ?_⟩
        refine iteF ?_
        have hs : s < (iterR k b).rows.length := by rw [← O3.L]; exact g1
        refine ⟨_, rfl, _, rfl, _, _, _, _, rfl, rfl, SqL.of el, at_list (n := 0) rfl rfl, p', dx', aR', as', aT', aL', aS', _, (s : Int), rfl, B4, O3, by omega, by have := O3.W.2.1; omega, fun z => absurd ⟨by omega, by omega⟩ z, fun _ z => absurd z (by rw [Int.toNat_natCast]; omega), fun _ _ H5 B5 f5 => ?_⟩
        have e5 : stepB (iterR k b) (s : Int).toNat = iterR (k + 1) b := by
          show _ = nxt (iterR k b)
          rw [nxt_some (s := s) (by rw [hw]; rfl)]
          rfl
        rw [e5] at B5
        refine ⟨_, rfl, _, _, rfl, rfl, ?_⟩
        exact ⟨_, by omega, k + 1, _, by omega, .inr (by omega), rfl, rfl, B5, same_frame s04 fr0 f5⟩
    · have h1' : ¬ (k : Int) ≤ most := fun z => h1 (decide_eq_true z)
      exact ⟨⟨_, rfl, _, rfl, lg, rfl, trivial⟩, fun x => ⟨small12 (by show 1 ≤ 100; decide), qb (by omega) H3 s3⟩⟩
theorem sc_grid_row : FnScope ["board", "at", "row", "numbers"] ["board", "at"] (defScope s_grid_row) := ⟨rfl, rfl, rfl, by decide +kernel, rfl, by decide +kernel, by decide +kernel⟩
theorem ok_grid_row (T : Txt K mg A) : FnOk P w K mg base CX0 1 A.f_grid_row A.fd_grid_row ["board", "at"] (spGridRow A.C) := by
  refine T.F_grid_row.ok sc_grid_row (fun vs H Q E h => ?_) (fun cdv A' outer s H vs Q E hr h => ?_)
  · obtain ⟨p, dx, aR, as, aT, aL, aS, b, z, rfl, _⟩ := h
    rfl
  · obtain ⟨p, dx, aR, as, aT, aL, aS, b, z, rfl, B, W, z0, z1, q⟩ := h
    refine ⟨_, (pss_cons (ps_set (i := 2) sc_grid_row.nd rfl (Or.inr rfl) (pe_ix (ix_listK (K := K) rfl) (pe_fldK (K := K) rfl (pv 0) rfl) (pv 1) (fun _ _ => rfl)))
      (pss_cons (ps_setComp (i := 3) sc_grid_row.nd rfl rfl (CompSc.of (N' := ["other", "row"]) (ix := [none, some 2]) rfl (by kernel_rfl)) rfl rfl rfl rfl (pi_range1 (by rfl) T.n_range (pa_cons (pe_callB (call_lenK (K := K) rfl) (by rfl) T.n_len PySem.boot_len (pa_cons (pe_fldK (K := K) rfl (pv 0) rfl) pa_nil)) pa_nil)) (by exact fun _ _ _ _ _ => pf_nil) (by exact fun _ _ _ _ _ => (pe_neg (pe_bmC (K := K) rfl PySem.F.plainAttrs_list PySem.F.slot_list_count PySem.F.type_list_count (mt_count (K := K) rfl) (pv 1) (pa_cons (pv 0) pa_nil)))))
      (pss_cons (ps_asg (pe_op op_sub (pe_callB (call_lenK (K := K) rfl) (by rfl) T.n_len PySem.boot_len (pa_cons (pv 2) pa_nil)) (pe_bmC (K := K) rfl PySem.F.plainAttrs_list PySem.F.slot_list_count PySem.F.type_list_count (mt_count (K := K) rfl) (pv 2) (pa_cons (pv 1) pa_nil))) (pg_sub (pv 3) (pv 1) set_list))
      (pss_one (ps_ret (pv 3)))))), ?_⟩
    obtain ⟨w1, w12, wr⟩ := id W
    have hl := B.mat.reflen
    obtain ⟨c, hat, hc, _⟩ := B.mat.at z0 z1
    have hz : z.toNat < b.rows.length := by omega
    have ez : ((z.toNat : Nat) : Int) = z := by omega
    refine ⟨_, rfl, p, A.C, dx, _, _, rfl, B.ob, T.cl_Board, T.na_rows, bf_rows _ _ _ _ _, _, rfl, _, _, _, _, rfl, rfl, B.mat.sq, hat, ?_⟩
    have en : (((as.map V.ref).length : Nat) : Int).toNat = b.rows.length := by rw [hl]; simp
    refine ⟨_, rfl, p, A.C, dx, _, _, rfl, B.ob, T.cl_Board, T.na_rows, bf_rows _ _ _ _ _, _, _, rfl, .inl B.mat.sq, _, rfl, by omega, by omega, ?_⟩
    rw [en]
    refine comp_pure (ys := ((List.range b.rows.length).map fun (j : Nat) => -(((b.rows.getD z.toNat []).count (j : Int) : Nat) : Int)).map V.int) wk_range (by rw [List.length_map, List.length_range]; exact small12 (by omega)) (by simp) (fun j x y ex ey Q' q' => ?_) (fun D hD => ?_)
    · rw [List.getElem?_map] at ex ey
      rw [List.getElem?_map] at ey
      cases er : (List.range b.rows.length)[j]? with
      | none => rw [er] at ex; cases ex
      | some j' =>
        rw [er] at ex ey
        cases ex
        cases ey
        have q2 : Q' (.int (-(((b.rows.getD z.toNat []).count (0 + (j' : Int)) : Nat) : Int))) H := by rw [show (0 + (j' : Int)) = (j' : Int) by omega]; exact q'
        exact ⟨_, rfl, .inl ⟨rfl, _, SqL.of hc⟩, _, rfl, c, _, _, rfl, rfl, SqL.of hc, _, rfl, q2⟩
    have hc' : (upd H D (.lst (((List.range b.rows.length).map fun (j : Nat) => -(((b.rows.getD z.toNat []).count (j : Int) : Nat) : Int)).map V.int))) c = some (.lst ((b.rows.getD z.toNat []).map V.int)) := same_new hD _ _ hc
    refine ⟨_, rfl, _, _, rfl, .inl (SqL.of hc'), _, rfl, .inl ⟨rfl, _, SqL.of hc'⟩, _, rfl, c, _, _, rfl, rfl, SqL.of hc', _, _, rfl, rfl, _, rfl, _, rfl, D, _, _, _, rfl, rfl, upd_same, ixN_in z0 (by simp; omega), ?_⟩
    rw [map_set_int, upd_upd, List.length_map]
    have := q D hD
    unfold gridR at this
    rw [ez] at this
    exact ⟨_, rfl, this⟩
theorem sc_grid : FnScope ["board"] ["board"] (defScope s_grid) := ⟨rfl, rfl, rfl, by decide +kernel, rfl, by decide +kernel, by decide +kernel⟩
theorem ok_grid (T : Txt K mg A) (G_grid_row : FnOk P w K mg base CX0 1 A.f_grid_row A.fd_grid_row ["board", "at"] (spGridRow A.C)) : FnOk P w K mg base CX0 2 A.f_grid A.fd_grid ["board"] (spGrid A.C) := by
  refine T.F_grid.ok sc_grid (fun vs H Q E h => ?_) (fun cdv A' outer s H vs Q E hr h => ?_)
  · obtain ⟨p, dx, aR, as, aT, aL, aS, b, rfl, _⟩ := h
    rfl
  · obtain ⟨p, dx, aR, as, aT, aL, aS, b, rfl, B, W, q⟩ := h
    refine ⟨_, (pss_one (ps_ret (pe_comp (CompSc.of (N' := ["at", "board"]) (ix := [none, some 0]) rfl (by kernel_rfl)) rfl rfl rfl rfl (pi_range1 (by rfl) T.n_range (pa_cons (pe_callB (call_lenK (K := K) rfl) (by rfl) T.n_len PySem.boot_len (pa_cons (pe_fldK (K := K) rfl (pv 0) rfl) pa_nil)) pa_nil)) (by exact fun _ _ _ _ _ => pf_nil) (by exact fun _ _ _ _ _ => (pe_call G_grid_row (hr.mono (by decide)) (by rfl) T.m_grid_row T.k_grid_row T.b_grid_row .nil pass0 (pa_cons (pv 1) (pa_cons (pv 0) pa_nil)))) (fun _ => rfl)))), ?_⟩
    obtain ⟨w1, w12, wr⟩ := id W
    have hl := B.mat.reflen
    have en : (((as.map V.ref).length : Nat) : Int).toNat = b.rows.length := by rw [hl]; simp
    refine ⟨_, rfl, p, A.C, dx, _, _, rfl, B.ob, T.cl_Board, T.na_rows, bf_rows _ _ _ _ _, _, _, rfl, .inl B.mat.sq, _, rfl, by omega, by omega, ?_⟩
    rw [en]
    refine comp_news (ls := (gridL b.rows).map fun r => r.map V.int) wk_range (by rw [List.length_map, List.length_range]; exact small12 (by omega)) (by rw [List.length_map, gridL_len, List.length_map, List.length_range]) (fun i x l H3 ex el s3 Q' q' => ?_) (fun as2 H2' sz hlen nd fr hrows D hD => ?_)
    · have hi : i < b.rows.length := by
        have := (List.getElem?_eq_some_iff.mp el).1
        rw [List.length_map, gridL_len] at this
        exact this
      rw [List.getElem?_map, List.getElem?_range hi] at ex
      cases ex
      unfold gridL at el
      rw [List.getElem?_map, List.getElem?_map, List.getElem?_range hi] at el
      cases el
      have e0 : (0 + (i : Int)).toNat = i := by omega
      refine ⟨_, rfl, _, rfl, p, dx, aR, as, aT, aL, aS, b, _, rfl, B.same s3, W, by omega, by omega, fun D hD => ?_⟩
      rw [e0]
      exact q' D hD
    rw [List.length_map] at hlen
    have MD := mat_of (H := H) (R := D) hlen nd sz hrows hD
    refine q D as2 _ MD (same_upd sz (sz.free hD)) fun c hc => ?_
    rcases List.mem_cons.mp hc with y | y
    · rw [y]; exact sz.free hD
    · exact fr c y
theorem sc_cleared : FnScope ["row", "top", "lead"] ["row", "top", "lead"] (defScope s_cleared) := ⟨rfl, rfl, rfl, by decide +kernel, rfl, by decide +kernel, by decide +kernel⟩
theorem ok_cleared (T : Txt K mg A) : FnOk P w K mg base CX0 1 A.f_cleared A.fd_cleared ["row", "top", "lead"] (spCleared K) := by
  refine T.F_cleared.ok sc_cleared (fun vs H Q E h => ?_) (fun cdv A' outer s H vs Q E hr h => ?_)
  · obtain ⟨c, d, r, t, l, rfl, _⟩ := h
    rfl
  · obtain ⟨c, d, r, t, l, rfl, hc, hd, htl, h1, h12, cr, ct, l0, cl, q⟩ := h
    refine ⟨_, (pss_one (ps_ret (pe_comp (CompSc.of (N' := ["place", "top", "row", "lead"]) (ix := [none, some 1, some 0, some 2]) rfl (by kernel_rfl)) rfl rfl rfl rfl (pi_range2 (by rfl) T.n_range (pa_cons pe_int (pa_cons (pe_callB (call_lenK (K := K) rfl) (by rfl) T.n_len PySem.boot_len (pa_cons (pv 0) pa_nil)) pa_nil))) (by exact fun _ _ _ _ _ => pf_nil) (by exact fun _ _ _ _ _ => (pe_op op_fdivB (pe_op op_sub (pe_op op_mulB (pe_ix (ix_listK (K := K) rfl) (pv 1) pe_int (fun _ _ => rfl)) (pe_ix (ix_listK (K := K) rfl) (pv 2) (pv 0) (fun _ _ => rfl))) (pe_op op_mulB (pe_ix (ix_listK (K := K) rfl) (pv 2) pe_int (fun _ _ => rfl)) (pe_ix (ix_listK (K := K) rfl) (pv 1) (pv 0) (fun _ _ => rfl)))) (pv 3))) (fun _ => rfl)))), ?_⟩
    have hl : (r.map V.int).length = r.length := by simp
    refine ⟨_, rfl, _, _, rfl, .inl hc, _, _, rfl, ⟨by omega, by omega, by omega, by omega⟩, ?_⟩
    have en : (((r.map V.int).length : Nat) - 1 : Int).toNat = r.length - 1 := by rw [hl]; omega
    rw [en]
    refine comp_pure (ys := (clr r t l).map V.int) wk_range (by rw [List.length_map, List.length_range]; exact small12 (by omega)) (by simp [clr]) (fun j x y ex ey Q' q' => ?_) q
    unfold clr at ey
    rw [List.getElem?_map] at ex ey
    rw [List.getElem?_map] at ey
    cases er : (List.range (r.length - 1))[j]? with
    | none => rw [er] at ex; cases ex
    | some j' =>
      rw [er] at ex ey
      cases ex
      cases ey
      obtain ⟨hj1, hj2⟩ := List.getElem?_eq_some_iff.mp er
      rw [List.getElem_range] at hj2
      rw [List.length_range] at hj1
      subst hj2
      have e1 : (1 + (j : Int)).toNat = j + 1 := by omega
      have a1 : atI (r.map V.int) (1 + (j : Int)) = some (V.int (r.getD (j + 1) 0)) := by have := at_ints (ns := r) (i := 1 + (j : Int)) (by omega) (by omega); rw [e1] at this; exact this
      have a2 : atI (t.map V.int) (1 + (j : Int)) = some (V.int (t.getD (j + 1) 0)) := by have := at_ints (ns := t) (i := 1 + (j : Int)) (by omega) (by omega); rw [e1] at this; exact this
      have a3 : atI (r.map V.int) 0 = some (V.int (r.getD 0 0)) := at_ints (ns := r) (i := 0) (by omega) (by omega)
      have a4 : atI (t.map V.int) 0 = some (V.int (t.getD 0 0)) := at_ints (ns := t) (i := 0) (by omega) (by omega)
      exact ⟨_, rfl, _, _, _, _, rfl, rfl, hd, a4, _, rfl, _, rfl, _, _, _, _, rfl, rfl, hc, a1, _, _, rfl, rfl, ⟨ct _, cr _⟩, _, rfl, _, _, _, _, rfl, rfl, hc, a3, _, rfl, _, rfl, _, _, _, _, rfl, rfl, hd, a2, _, _, rfl, rfl, ⟨cr _, ct _⟩, _, _, rfl, rfl, _, rfl, _, _, rfl, rfl, ⟨l0, cl⟩, q'⟩
theorem sc_det : FnScope ["square", "rest", "sign", "lead", "led", "place", "top"] ["square"] (defScope s_det) := ⟨rfl, rfl, rfl, by decide +kernel, rfl, by decide +kernel, by decide +kernel⟩
theorem ok_det (T : Txt K mg A) (G_cleared : FnOk P w K mg base CX0 1 A.f_cleared A.fd_cleared ["row", "top", "lead"] (spCleared K)) : FnOk P w K mg base CX0 2 A.f_det A.fd_det ["square"] (spDet K) := by
  refine T.F_det.ok sc_det (fun vs H Q E h => ?_) (fun cdv A' outer s H vs Q E hr h => ?_)
  · obtain ⟨R, as, rows, n, rfl, _⟩ := h
    rfl
  · obtain ⟨R, as, rows, n, rfl, M, S, n12, q⟩ := h
    refine ⟨_, (pss_cons (ps_set (i := 1) sc_det.nd rfl (Or.inl rfl) (pv 0))
      (pss_cons (ps_set (i := 2) sc_det.nd rfl (Or.inl rfl) pe_int)
      (pss_cons (ps_set (i := 3) sc_det.nd rfl (Or.inr rfl) pe_int)
      (pss_cons (ps_while PassesOwn.never (pt_lst (K := K) rfl (pv 1))
        (pss_cons (ps_setCompT (i := 4) sc_det.nd rfl rfl (CompSc.of (N' := ["place", "row"]) (ix := [none, none]) rfl (by kernel_rfl)) (by exact fun _ _ _ _ _ nd => pg_tupK (K := K) (n := 2) rfl rfl (pgs_cons (pg_name (i := 0) nd rfl (Or.inl (lookup_relabel_local rfl)) (.inr (lookup_relabel_local rfl))) (pgs_cons (pg_name (i := 1) nd rfl (Or.inl (lookup_relabel_local rfl)) (.inr (lookup_relabel_local rfl))) pgs_nil))) rfl (pi_enum (K := K) rfl (by rfl) T.n_enumerate (pa_cons (pv 1) pa_nil)) (by exact fun _ _ _ _ _ => (pf_one (pt_cmpR op_ne (pe_ix (ix_listK (K := K) rfl) (pv 1) pe_int (fun _ _ => rfl)) pe_int (nomark _)))) (by exact fun _ _ _ _ _ => (pv 0)))
        (pss_cons (ps_if (pt_not (pt_lst (K := K) rfl (pv 4)))
          (pss_one (ps_ret pe_int))
          pss_nil)
        (pss_cons (ps_set (i := 5) sc_det.nd rfl (Or.inl rfl) (pe_ix (ix_listK (K := K) rfl) (pv 4) pe_int (fun _ _ => rfl)))
        (pss_cons (ps_if (pt_cmpR op_eq (pe_op op_mod (pv 5) pe_int) pe_int (nomark _))
          (pss_one (ps_set (i := 2) sc_det.nd rfl (Or.inl rfl) (pe_neg (pv 2))))
          pss_nil)
        (pss_cons (ps_set (i := 6) sc_det.nd rfl (Or.inr rfl) (pe_ix (ix_listK (K := K) rfl) (pv 1) (pv 5) (fun _ _ => rfl)))
        (pss_cons (ps_setComp (i := 1) sc_det.nd rfl rfl (CompSc.of (N' := ["row", "top", "lead"]) (ix := [none, some 6, some 3]) rfl (by kernel_rfl)) rfl rfl rfl rfl (pi_listK (K := K) rfl (pe_op op_cat (pe_slice (sl_listK (K := K) rfl) (pv 1) po_none (po_some (pv 5))) (pe_slice (sl_listK (K := K) rfl) (pv 1) (po_some (pe_op op_add (pv 5) pe_int)) po_none))) (by exact fun _ _ _ _ _ => pf_nil) (by exact fun _ _ _ _ _ => (pe_call G_cleared (hr.mono (by decide)) (by rfl) T.m_cleared T.k_cleared T.b_cleared .nil pass0 (pa_cons (pv 0) (pa_cons (pv 1) (pa_cons (pv 2) pa_nil))))))
        (pss_one (ps_set (i := 3) sc_det.nd rfl (Or.inr rfl) (pe_ix (ix_listK (K := K) rfl) (pv 6) pe_int (fun _ _ => rfl)))))))))))
      (pss_one (ps_ret (pe_op op_mulB (pv 2) (pv 3)))))))), ?_⟩
    refine ⟨_, rfl, ?_⟩
    dsimp only [gName]
    refine asg_lit ?_
    refine asg_lit ?_
    have M0 : Mat H R as ((rows.map Com.fn).map (rowAt [] (rows.map Com.fn).length)) := by
      rw [List.map_map, List.length_map, S.len]
      have : rows.map ((rowAt [] n) ∘ Com.fn) = rows := by
        conv => rhs; rw [← List.map_id rows]
        exact List.map_congr_left fun r hr' => rowAt_nil (S.row r hr')
      rw [this]
      exact M
    refine ⟨fun k σ H2 => ∃ (R' : Addr) (as' : List Addr) (P rs : List Rw) (sg : Int) (x4 x5 x6 : Option V), k = rs.length ∧ σ = [some (.ref R), some (.ref R'), some (.int sg), some (.int (dt P.length P 0)), x4, x5, x6] ∧ Mat H2 R' as' (rs.map (rowAt P rs.length)) ∧ Elim P ∧ P.length + rs.length = n ∧ (∀ r ∈ P, Bdd M30 r) ∧ (∀ r ∈ rs, Bdd M30 r) ∧ (sg = 1 ∨ sg = -1) ∧ dt n (rows.map Com.fn) 0 = sg * dt n (P ++ rs) 0 ∧ Same H H2, ⟨_, R, as, [], rows.map Com.fn, 1, none, none, none, rfl, rfl, M0, Elim.nil, by simp [S.len], (fun _ z => by cases z), (fun r hr' => by obtain ⟨r', h', rfl⟩ := List.mem_map.mp hr'; exact (S.bl r' h').fn), .inl rfl, by simp, Same.refl _⟩, ?_⟩
    rintro k σ H2 ⟨R', as', P, rs, sg, x4, x5, x6, rfl, rfl, M2, E, hPn, bP, bR, hsg, hd, s2⟩
    have hl2 : (as'.map V.ref).length = rs.length := by rw [M2.reflen, List.length_map]
    refine ⟨_, rfl, R', _, rfl, M2.sq, ?_⟩
    rcases rs with _ | ⟨r0, rt⟩
    · have e0 : as'.map V.ref = [] := List.length_eq_zero_iff.mp hl2
      rw [e0]
      refine iteF ?_
      simp only [List.length_nil, Nat.add_zero] at hPn
      have cbl : CB (dt P.length P 0) := bd_cb (dt_bd P.length 0 P (Nat.le_refl _) bP) (by omega)
      have cbs : CB sg := by rcases hsg with rfl | rfl <;> (unfold CB; decide +kernel)
      refine ⟨_, rfl, _, rfl, _, _, rfl, rfl, ⟨cbs, cbl⟩, ?_⟩
      rw [List.append_nil] at hd
      have := q _ s2
      rw [hd] at this
      rw [hPn]
      exact this
    generalize hrs : r0 :: rt = rs at *
    have hne : 1 ≤ rs.length := by rw [← hrs]; simp
    have e1 : (!(as'.map V.ref).isEmpty) = true := by
      cases h : as'.map V.ref with
      | nil => rw [h] at hl2; simp at hl2; omega
      | cons _ _ => rfl
    rw [if_pos e1]
    refine ⟨fun σ' H' => ∃ m', m' < rs.length ∧ ∃ (R' : Addr) (as' : List Addr) (P rs : List Rw) (sg : Int) (x4 x5 x6 : Option V), m' = rs.length ∧ σ' = [some (.ref R), some (.ref R'), some (.int sg), some (.int (dt P.length P 0)), x4, x5, x6] ∧ Mat H' R' as' (rs.map (rowAt P rs.length)) ∧ Elim P ∧ P.length + rs.length = n ∧ (∀ r ∈ P, Bdd M30 r) ∧ (∀ r ∈ rs, Bdd M30 r) ∧ (sg = 1 ∨ sg = -1) ∧ dt n (rows.map Com.fn) 0 = sg * dt n (P ++ rs) 0 ∧ Same H H', fun _ _ h => h, ?_⟩
    clear hrs
    have hk12 : P.length < 12 := by omega
    -- led
    refine ⟨_, rfl, R', _, rfl, M2.sq, ?_⟩
    refine comp_enumT (fun i ys H3 => Same H2 H3 ∧ ys = ((List.range i).filter fun k => decide (bor P (rs.getD k fun _ => 0) P.length ≠ 0)).map fun k => V.int (k : Nat)) ⟨Same.refl _, rfl⟩ (fun i ys H3 _ ⟨s3, _⟩ => (M2.same s3).sq) (fun i x ys H3 c hx hP hc => ?_) (fun i ys H3 hi hP => ?_) (fun ys H3 hP D hD => ?_)
    · obtain ⟨s3, rfl⟩ := hP
      obtain ⟨d, hi', rfl, ec, hdd, _⟩ := (M2.same s3).refs hx
      have hi : i < rs.length := by simpa using hi'
      have er : (rs.map (rowAt P rs.length))[i] = rowAt P rs.length (rs.getD i fun _ => 0) := by rw [List.getElem_map, getD_get hi]
      rw [er] at hdd
      have s4 := same_new hc (o := .tup [.int (i : Int), .ref d])
      have hd4 := s4 _ _ hdd
      have a0 : atI ((rowAt P rs.length (rs.getD i fun _ => 0)).map V.int) 0 = some (V.int (bor P (rs.getD i fun _ => 0) P.length)) := by
        have := at_ints (ns := rowAt P rs.length (rs.getD i fun _ => 0)) (i := 0) (by omega) (by rw [rowAt_len]; omega)
        rw [show (0 : Int).toNat = 0 from rfl, rowAt_get (by omega), Nat.add_zero] at this
        exact this
      refine ⟨c, _, rfl, SqT.of upd_same, rfl, _, _, rfl, _, _, rfl, rfl, ⟨rfl, fun k z hz => ?_⟩, _, rfl, _, _, _, _, rfl, rfl, SqL.of hd4, a0, rfl, _, rfl, ?_⟩
      · match k, hz with
        | 0, hz => cases hz
        | 1, hz => cases hz
        | n + 2, hz => simp [inSt] at hz
      by_cases h1 : bor P (rs.getD i fun _ => 0) P.length = 0
      · rw [decide_eq_true (show V.int (bor P (rs.getD i fun _ => 0) P.length) = V.int 0 by rw [h1])]
        refine iteF ?_
        refine ⟨s3.trans s4, ?_⟩
        rw [filt_snoc, if_neg (by simp only [decide_eq_true_eq]; exact fun z => z h1), List.append_nil]
      · rw [decide_eq_false (show ¬ V.int (bor P (rs.getD i fun _ => 0) P.length) = V.int 0 from fun w => h1 (by injection w))]
        refine iteT ?_
        refine ⟨_, rfl, s3.trans s4, ?_⟩
        rw [filt_snoc, if_pos (decide_eq_true h1), List.map_append]
        rfl
    · obtain ⟨s3, rfl⟩ := hP
      rw [hl2] at hi
      rw [List.length_map]
      have := List.length_filter_le (fun k => decide (bor P (rs.getD k fun _ => 0) P.length ≠ 0)) (List.range i)
      rw [List.length_range] at this
      exact small1000 (by omega)
    obtain ⟨s3, rfl⟩ := hP
    rw [hl2]
    have s4 : Same H2 (upd H3 D (.lst (((List.range rs.length).filter fun k => decide (bor P (rs.getD k fun _ => 0) P.length ≠ 0)).map fun k => V.int (k : Nat)))) := same_upd s3 (s3.free hD)
    have eD : (upd H3 D (.lst (((List.range rs.length).filter fun k => decide (bor P (rs.getD k fun _ => 0) P.length ≠ 0)).map fun k => V.int (k : Nat)))) D = some (.lst (((List.range rs.length).filter fun k => decide (bor P (rs.getD k fun _ => 0) P.length ≠ 0)).map fun k => V.int (k : Nat))) := upd_same
    generalize upd H3 D (.lst (((List.range rs.length).filter fun k => decide (bor P (rs.getD k fun _ => 0) P.length ≠ 0)).map fun k => V.int (k : Nat))) = H4 at s4 eD
    have M4 := M2.same s4
    have s04 := s2.trans s4
    refine ⟨_, rfl, D, _, rfl, SqL.of eD, ?_⟩
    cases hld : (List.range rs.length).filter fun k => decide (bor P (rs.getD k fun _ => 0) P.length ≠ 0) with
    | nil =>
      refine iteT ?_
      have z0 : ∀ r ∈ rs, bor P r P.length = 0 := fun r hr' => by
        obtain ⟨i, hi, rfl⟩ := List.getElem_of_mem hr'
        have := List.filter_eq_nil_iff.mp hld i (List.mem_range.mpr hi)
        rw [getD_get hi] at this
        simpa using this
      have z := E.none P.length rfl rs [] (by simp; omega) (fun _ y => by cases y) z0
      rw [List.length_nil, Nat.zero_add, List.nil_append, hPn] at z
      have e0 : dt n (rows.map Com.fn) 0 = 0 := by rw [hd, z]; omega
      have := q H4 s04
      rw [e0] at this
      exact this
    | cons i lt =>
    refine iteF ?_
    have him : i ∈ (List.range rs.length).filter fun k => decide (bor P (rs.getD k fun _ => 0) P.length ≠ 0) := by rw [hld]; exact List.mem_cons_self
    obtain ⟨hir, hib⟩ := List.mem_filter.mp him
    rw [List.mem_range] at hir
    have hib' := of_decide_eq_true hib
    rw [getD_get hir] at hib'
    rw [hld] at eD
    clear him hib hld
    -- place = led[0]
    refine ⟨_, rfl, _, _, _, _, rfl, rfl, SqL.of eD, at_list (n := 0) rfl rfl, ?_⟩
    -- the sign
    dsimp only [gName]
    refine seq_mk' (fun σ' H' => σ' = [some (.ref R), some (.ref R'), some (.int (sg * sgn i)), some (.int (dt P.length P 0)), some (.ref D), some (.int (i : Int)), x6] ∧ H4 = H') ?rest (fun D1 rest => ?way)
    case way =>
      refine ⟨_, rfl, _, _, rfl, rfl, (by show (0 : Int) < 2; decide), rfl, _, rfl, ?_⟩
      rw [sgn_par] at rest
      by_cases hp : i % 2 = 1
      · rw [decide_eq_true (show V.int ((i : Int) % 2) = V.int 1 by rw [show (i : Int) % 2 = 1 by omega])]
        refine iteT ?_
        refine ⟨_, rfl, _, rfl, ?_⟩
        rw [if_pos hp, show sg * -1 = -sg by omega] at rest
        exact rest _ _ ⟨rfl, rfl⟩
      · rw [decide_eq_false (show ¬ V.int ((i : Int) % 2) = V.int 1 from fun w => hp (by injection w with w; omega))]
        refine iteF ?_
        rw [if_neg hp, Int.mul_one] at rest
        exact rest _ _ ⟨rfl, rfl⟩
    rintro σ' H' ⟨rfl, rfl⟩
    -- top = rest[place]
    have hil : (i : Int) < ((rs.map (rowAt P rs.length)).length : Int) := by rw [List.length_map]; omega
    obtain ⟨t, hat, ht, hta⟩ := M4.at (z := (i : Int)) (by omega) hil
    have er : (rs.map (rowAt P rs.length)).getD i [] = rowAt P rs.length rs[i] := by rw [getD_get (by rw [List.length_map]; exact hir), List.getElem_map]
    rw [Int.toNat_natCast] at ht hta
    rw [er] at ht
    refine ⟨_, rfl, _, rfl, _, _, _, _, rfl, rfl, M4.sq, hat, ?_⟩
    -- the rows left
    have hlr : (as'.map V.ref).length = rs.length := hl2
    refine ⟨_, rfl, _, rfl, _, rfl, _, _, rfl, M4.sq, fun l1 hl1 => ?_⟩
    rw [cut_take (by rw [hlr]; omega)]
    have s5 := same_new hl1 (o := .lst ((as'.map V.ref).take i))
    refine ⟨_, rfl, _, rfl, _, _, rfl, rfl, _, rfl, _, _, rfl, (M4.same s5).sq, fun l2 hl2' => ?_⟩
    rw [show (i : Int) + 1 = ((i + 1 : Nat) : Int) by omega, cut_drop (by rw [hlr]; omega)]
    have s6 := s5.trans (same_new hl2' (o := .lst ((as'.map V.ref).drop (i + 1))))
    refine ⟨l1, l2, _, _, rfl, rfl, same_new hl2' _ _ upd_same, upd_same, small12 (by rw [List.length_take, List.length_drop, hlr]; omega), fun l3 hl3 => ?_⟩
    rw [← List.eraseIdx_eq_take_drop_succ]
    have s7 := s6.trans (same_new hl3 (o := .lst ((as'.map V.ref).eraseIdx i)))
    have e7 : (upd (upd (upd H4 l1 (.lst ((as'.map V.ref).take i))) l2 (.lst ((as'.map V.ref).drop (i + 1)))) l3 (.lst ((as'.map V.ref).eraseIdx i))) l3 = some (.lst ((as'.map V.ref).eraseIdx i)) := upd_same
    generalize upd (upd (upd H4 l1 (.lst ((as'.map V.ref).take i))) l2 (.lst ((as'.map V.ref).drop (i + 1)))) l3 (.lst ((as'.map V.ref).eraseIdx i)) = H7 at s7 e7
    have M7 := M4.same s7
    have ht7 := s7 _ _ ht
    have hel : (rs.eraseIdx i).length + 1 = rs.length := by rw [List.length_eraseIdx]; rw [if_pos hir]; omega
    have hPb : Bdd M30 rs[i] := bR _ (List.getElem_mem hir)
    refine ⟨l3, rfl, ⟨_, SqL.of e7⟩, ?_⟩
    refine comp_news (ls := ((rs.eraseIdx i).map (rowAt (P ++ [rs[i]]) (rs.eraseIdx i).length)).map fun r => r.map V.int) (wk_list (SqL.of e7)) (by rw [List.length_eraseIdx, hlr]; exact small12 (by split <;> omega)) (by rw [List.length_map, List.length_map, List.length_eraseIdx, List.length_eraseIdx, hlr]) (fun j x l H8 ex el s8 Q' q' => ?_) (fun as2 H8' sz hlen nd fr hrows D2 hD2 => ?_)
    · rw [List.getElem?_map, List.getElem?_map] at el
      obtain ⟨r, hrj, rfl⟩ : ∃ r, (rs.eraseIdx i)[j]? = some r ∧ l = (rowAt (P ++ [rs[i]]) (rs.eraseIdx i).length r).map V.int := by
        cases e : (rs.eraseIdx i)[j]? with
        | none => rw [e] at el; cases el
        | some r => rw [e] at el; exact ⟨r, rfl, (Option.some.inj el).symm⟩
      have hrm : r ∈ rs := List.mem_of_mem_eraseIdx (List.mem_of_getElem? hrj)
      rw [List.getElem?_eraseIdx] at ex hrj
      obtain ⟨c, rfl, hc⟩ : ∃ c, x = .ref c ∧ H7 c = some (.lst ((rowAt P rs.length r).map V.int)) := by
        by_cases hji : j < i
        · rw [if_pos hji] at ex hrj
          obtain ⟨c, hj', rfl, _, hc, _⟩ := M7.refs ex
          obtain ⟨hj2, e⟩ := List.getElem?_eq_some_iff.mp hrj
          rw [List.getElem_map, e] at hc
          exact ⟨c, rfl, hc⟩
        · rw [if_neg hji] at ex hrj
          obtain ⟨c, hj', rfl, _, hc, _⟩ := M7.refs ex
          obtain ⟨hj2, e⟩ := List.getElem?_eq_some_iff.mp hrj
          rw [List.getElem_map, e] at hc
          exact ⟨c, rfl, hc⟩
      refine ⟨_, rfl, _, rfl, _, rfl, c, t, _, _, _, rfl, SqL.of (s8 _ _ hc), SqL.of (s8 _ _ ht7), by rw [rowAt_len, rowAt_len], by rw [rowAt_len]; exact hne, by rw [rowAt_len]; omega, rowAt_cb bP (bR r hrm) hk12, rowAt_cb bP hPb hk12, E.ne, bd_cb (dt_bd P.length 0 P (Nat.le_refl _) bP) (by omega), fun D3 hD3 => ?_⟩
      have ec := clr_rowAt E (rs.eraseIdx i).length rs[i] r
      rw [hel] at ec
      rw [ec]
      exact q' D3 hD3
    rw [List.length_map] at hlen
    have MR := mat_of (H := H7) (R := D2) hlen nd sz hrows hD2
    have s8 : Same H7 (upd H8' D2 (.lst (as2.map V.ref))) := same_upd sz (sz.free hD2)
    generalize upd H8' D2 (.lst (as2.map V.ref)) = H8 at MR s8
    have ht8 := s8 _ _ ht7
    have a0 : atI ((rowAt P rs.length rs[i]).map V.int) 0 = some (V.int (bor P rs[i] P.length)) := by
      have := at_ints (ns := rowAt P rs.length rs[i]) (i := 0) (by omega) (by rw [rowAt_len]; omega)
      rw [show (0 : Int).toNat = 0 from rfl, rowAt_get (by omega), Nat.add_zero] at this
      exact this
    refine ⟨_, rfl, _, _, _, _, rfl, rfl, SqL.of ht8, a0, ?_⟩
    have el : bor P rs[i] P.length = dt (P ++ [rs[i]]).length (P ++ [rs[i]]) 0 := by rw [bor_self, List.length_append, List.length_singleton]
    rw [el]
    have ers : rs = rs.take i ++ rs[i] :: rs.drop (i + 1) := by rw [← List.drop_eq_getElem_cons hir, List.take_append_drop]
    refine ⟨_, by omega, D2, as2, P ++ [rs[i]], rs.eraseIdx i, sg * sgn i, _, _, _, rfl, rfl, MR, E.snoc hib', by rw [List.length_append, List.length_singleton]; omega, fun r hr' => ?_, fun r hr' => bR r (List.mem_of_mem_eraseIdx hr'), ?_, ?_, (s04.trans s7).trans s8⟩
    · rcases List.mem_append.mp hr' with z | z
      · exact bP r z
      · rw [List.mem_singleton.mp z]; exact hPb
    · rw [sgn_par]
      rcases hsg with rfl | rfl <;> split <;> simp
    · have mv := dt_move n 0 rs[i] (rs.drop (i + 1)) (rs.take i) P (by rw [List.length_take, List.length_drop]; omega)
      rw [← ers, List.length_take, Nat.min_eq_left (by omega)] at mv
      rw [hd, mv, app1, List.eraseIdx_eq_take_drop_succ, Int.mul_assoc]
theorem sc_greatest_divisor : FnScope ["one", "other", "left"] ["one", "other"] (defScope s_greatest_divisor) := ⟨rfl, rfl, rfl, by decide +kernel, rfl, by decide +kernel, by decide +kernel⟩
theorem ok_greatest_divisor (T : Txt K mg A) : FnOk P w K mg base CX0 1 A.f_greatest_divisor A.fd_greatest_divisor ["one", "other"] spGcd := by
  refine T.F_greatest_divisor.ok sc_greatest_divisor (fun vs H Q E h => ?_) (fun cdv A' outer s H vs Q E hr h => ?_)
  · obtain ⟨x, y, rfl, _⟩ := h
    rfl
  · obtain ⟨x, y, rfl, q⟩ := h
    refine ⟨_, (pss_cons (ps_while PassesOwn.never (pt_cmpR op_ne (pv 1) pe_int (nomark _))
        (pss_cons (ps_set (i := 2) sc_greatest_divisor.nd rfl (Or.inl rfl) (pe_op op_mod (pv 0) (pv 1)))
        (pss_cons (ps_set (i := 0) sc_greatest_divisor.nd rfl (Or.inl rfl) (pv 1))
        (pss_one (ps_set (i := 1) sc_greatest_divisor.nd rfl (Or.inl rfl) (pv 2))))))
      (pss_one (ps_ret (pv 0)))), ?_⟩
    refine ⟨fun m σ H3 => ∃ (u v : Nat) (x2 : Option V), m = v ∧ σ = [some (.int (u : Int)), some (.int (v : Int)), x2] ∧ H = H3 ∧ Nat.gcd u v = Nat.gcd x y, ⟨_, x, y, none, rfl, rfl, rfl, rfl⟩, ?_⟩
    rintro m σ H3 ⟨u, v, x2, rfl, rfl, rfl, hg⟩
    refine ⟨_, rfl, rfl, _, rfl, ?_⟩
    refine ite2 (fun h1 => ?_) (fun h1 => ?_)
    · have h1' : m ≠ 0 := fun z => by subst z; simp at h1
      refine ⟨fun σ' H' => ∃ m', m' < m ∧ ∃ (u v : Nat) (x2 : Option V), m' = v ∧ σ' = [some (.int (u : Int)), some (.int (v : Int)), x2] ∧ H = H' ∧ Nat.gcd u v = Nat.gcd x y, fun _ _ h => h, ?_⟩
      refine ⟨_, rfl, _, rfl, _, _, rfl, rfl, (by omega), ?_⟩
      refine ⟨_, rfl, ?_⟩
      refine ⟨_, rfl, ?_⟩
      refine ⟨u % m, Nat.mod_lt _ (by omega), m, u % m, some (.int ((u % m : Nat) : Int)), rfl, ?_, rfl, ?_⟩
      · rw [Int.natCast_emod]
        rfl
      · rw [← hg, Nat.gcd_comm u m, Nat.gcd_rec m u, Nat.gcd_comm]
    · have h1' : m = 0 := Classical.byContradiction fun z => h1 (by simp; omega)
      subst h1'
      rw [Nat.gcd_zero_right] at hg
      subst hg
      exact ⟨_, rfl, q⟩
theorem sc_with_mark : FnScope ["square", "place", "at", "mark"] ["square", "place", "at"] (defScope s_with_mark) := ⟨rfl, rfl, rfl, by decide +kernel, rfl, by decide +kernel, by decide +kernel⟩
theorem ok_with_mark (T : Txt K mg A) : FnOk P w K mg base CX0 1 A.f_with_mark A.fd_with_mark ["square", "place", "at"] (spMark K) := by
  refine T.F_with_mark.ok sc_with_mark (fun vs H Q E h => ?_) (fun cdv A' outer s H vs Q E hr h => ?_)
  · obtain ⟨R, as, rows, p, s, rfl, _⟩ := h
    rfl
  · obtain ⟨R, as, rows, p, s, rfl, M, h12, hp, hs, q⟩ := h
    refine ⟨_, (pss_cons (ps_set (i := 3) sc_with_mark.nd rfl (Or.inl rfl) (pe_op op_rep (pe_lst (pa_cons pe_int pa_nil)) (pe_callB (call_lenK (K := K) rfl) (by rfl) T.n_len PySem.boot_len (pa_cons (pv 0) pa_nil))))
      (pss_cons (ps_asg pe_int (pg_sub (pv 3) (pv 2) set_list))
      (pss_one (ps_ret (pe_op op_cat (pe_op op_cat (pe_slice (sl_listK (K := K) rfl) (pv 0) po_none (po_some (pv 1))) (pe_lst (pa_cons (pv 3) pa_nil))) (pe_slice (sl_listK (K := K) rfl) (pv 0) (po_some (pe_op op_add (pv 1) pe_int)) po_none)))))), ?_⟩
    have hl := M.reflen
    refine ⟨small12 (by show 1 ≤ 100; decide), fun l1 hl1 => ⟨_, rfl, _, _, rfl, .inl ((same_new hl1).seq M.sq), l1, _, _, rfl, rfl, upd_same, by omega, by omega, by rw [hl]; exact small12 (by simp; omega), fun mA hm => ?_⟩⟩
    rw [hl]
    have em : (List.replicate ((rows.length : Nat) : Int).toNat [V.int 0]).flatten = (List.replicate rows.length (0 : Int)).map V.int := by rw [Int.toNat_natCast]; exact reps _
    rw [em]
    have s1 : Same H (upd (upd H l1 (.lst [V.int 0])) mA (.lst ((List.replicate rows.length (0 : Int)).map V.int))) := same_upd (same_new hl1) ((same_new hl1).free hm)
    have hm0 : H mA = none := (same_new hl1).free hm
    have eM : (upd (upd H l1 (.lst [V.int 0])) mA (.lst ((List.replicate rows.length (0 : Int)).map V.int))) mA = some (.lst ((List.replicate rows.length (0 : Int)).map V.int)) := upd_same
    generalize upd (upd H l1 (.lst [V.int 0])) mA (.lst ((List.replicate rows.length (0 : Int)).map V.int)) = H1 at s1 eM
    refine ⟨_, rfl, _, rfl, mA, _, _, _, rfl, rfl, eM, ixN_in (by omega) (by simp; omega), ?_⟩
    rw [map_set_int, Int.toNat_natCast]
    have s2 : Same H (upd H1 mA (.lst ((markL rows.length s).map V.int))) := same_upd s1 hm0
    have eM2 : (upd H1 mA (.lst ((markL rows.length s).map V.int))) mA = some (.lst ((markL rows.length s).map V.int)) := upd_same
    rw [show (List.replicate rows.length (0 : Int)).set s 1 = markL rows.length s from rfl]
    generalize upd H1 mA (.lst ((markL rows.length s).map V.int)) = H2 at s2 eM2
    have M2 := M.same s2
    refine ⟨_, rfl, _, rfl, _, rfl, _, _, rfl, M2.sq, fun l2 hl2 => ?_⟩
    rw [cut_take (by rw [hl]; omega)]
    have s3 := same_new hl2 (o := .lst ((as.map V.ref).take p))
    refine ⟨_, rfl, small12 (by show 1 ≤ 100; decide), fun l3 hl3 => ?_⟩
    refine ⟨l2, l3, _, _, rfl, rfl, same_new hl3 _ _ upd_same, upd_same, small12 (by rw [List.length_take, hl]; show _ + 1 ≤ 100; omega), fun l4 hl4 => ?_⟩
    have s4 := (s3.trans (same_new hl3 (o := .lst [V.ref mA]))).trans (same_new hl4 (o := .lst ((as.map V.ref).take p ++ [V.ref mA])))
    have e4 : (upd (upd (upd H2 l2 (.lst ((as.map V.ref).take p))) l3 (.lst [V.ref mA])) l4 (.lst ((as.map V.ref).take p ++ [V.ref mA]))) l4 = some (.lst ((as.map V.ref).take p ++ [V.ref mA])) := upd_same
    generalize upd (upd (upd H2 l2 (.lst ((as.map V.ref).take p))) l3 (.lst [V.ref mA])) l4 (.lst ((as.map V.ref).take p ++ [V.ref mA])) = H4 at s4 e4
    refine ⟨_, rfl, _, rfl, _, _, rfl, rfl, _, rfl, _, _, rfl, (M2.same s4).sq, fun l5 hl5 => ?_⟩
    rw [show (p : Int) + 1 = ((p + 1 : Nat) : Int) by omega, cut_drop (by rw [hl]; omega)]
    have s5 := s4.trans (same_new hl5 (o := .lst ((as.map V.ref).drop (p + 1))))
    refine ⟨l4, l5, _, _, rfl, rfl, same_new hl5 _ _ e4, upd_same, small12 (by rw [List.length_append, List.length_take, List.length_drop, hl]; show _ + 1 + _ ≤ 100; omega), fun l6 hl6 => ?_⟩
    have ef : (as.map V.ref).take p ++ [V.ref mA] ++ (as.map V.ref).drop (p + 1) = (as.set p mA).map V.ref := by
      rw [List.map_set, List.set_eq_take_append_cons_drop, if_pos (by rw [hl]; exact hp)]
      simp
    rw [ef]
    have s6 : Same H2 (upd (upd H4 l5 (.lst ((as.map V.ref).drop (p + 1)))) l6 (.lst ((as.set p mA).map V.ref))) := same_upd s5 (s5.free hl6)
    have e6 : (upd (upd H4 l5 (.lst ((as.map V.ref).drop (p + 1)))) l6 (.lst ((as.set p mA).map V.ref))) l6 = some (.lst ((as.set p mA).map V.ref)) := upd_same
    have hl62 : H2 l6 = none := s5.free hl6
    generalize upd (upd H4 l5 (.lst ((as.map V.ref).drop (p + 1)))) l6 (.lst ((as.set p mA).map V.ref)) = H6 at s6 e6
    have nm : mA ∉ as := fun z => mat_no M hm0 (List.mem_cons_of_mem _ z)
    have nd := List.nodup_cons.mp M.nd
    refine q l6 (as.set p mA) H6 ⟨e6, by rw [List.length_set, List.length_set]; exact M.len, fun i a r e1 e2 => ?_, ?_⟩ (s2.trans s6)
    · by_cases e : p = i
      · subst e
        rw [List.getElem?_set_self (by rw [M.len]; exact hp)] at e1
        rw [List.getElem?_set_self hp] at e2
        cases e1
        cases e2
        exact s6 _ _ eM2
      · rw [List.getElem?_set_ne e] at e1 e2
        exact s6 _ _ (M2.row i a r e1 e2)
    · rw [List.nodup_cons]
      refine ⟨fun z => ?_, nodup_set nd.2 nm⟩
      rcases List.mem_or_eq_of_mem_set z with y | y
      · exact mat_no M2 hl62 (List.mem_cons_of_mem _ y)
      · rw [y, eM2] at hl62; cases hl62
theorem sc_round_of : FnScope ["board", "at", "square", "many", "divisor", "place"] ["board", "at"] (defScope s_round_of) := ⟨rfl, rfl, rfl, by decide +kernel, rfl, by decide +kernel, by decide +kernel⟩
theorem ok_round_of (T : Txt K mg A) (G_check_site : FnOk P w K mg base (CX1 P w) 1 A.f_check_site A.fd_check_site ["board", "at"] (spSite A.C A.c_NoSite)) (G_check_open : FnOk P w K mg base (CX1 P w) 3 A.f_check_open A.fd_check_open ["board"] (spChkO A.C A.c_NotOpen)) (G_grid : FnOk P w K mg base CX0 2 A.f_grid A.fd_grid ["board"] (spGrid A.C)) (G_det : FnOk P w K mg base CX0 2 A.f_det A.fd_det ["square"] (spDet K)) (G_with_mark : FnOk P w K mg base CX0 1 A.f_with_mark A.fd_with_mark ["square", "place", "at"] (spMark K)) (G_greatest_divisor : FnOk P w K mg base CX0 1 A.f_greatest_divisor A.fd_greatest_divisor ["one", "other"] spGcd) : FnOk P w K mg base (CX1 P w) 4 A.f_round_of A.fd_round_of ["board", "at"] (spRound A.C A.c_NoSite A.c_NotOpen) := by
  refine T.F_round_of.okX sc_round_of (fun vs H Q E h => ?_) (fun cdv A' outer s H vs Q E hr h => ?_)
  · obtain ⟨p, dx, aR, as, aT, aL, aS, b, z, rfl, _⟩ := h
    rfl
  · obtain ⟨p, dx, aR, as, aT, aL, aS, b, z, rfl, B, W, z1, z2, q1, q2, q3⟩ := h
    refine ⟨_, (pss_cons (ps_expr (pe_call G_check_site (hr.mono (by decide)) (by rfl) T.m_check_site T.k_check_site T.b_check_site .nil passX (pa_cons (pv 0) (pa_cons (pv 1) pa_nil))))
      (pss_cons (ps_expr (pe_call G_check_open (hr.mono (by decide)) (by rfl) T.m_check_open T.k_check_open T.b_check_open .nil passX (pa_cons (pv 0) pa_nil)))
      (pss_cons (ps_set (i := 2) sc_round_of.nd rfl (Or.inl rfl) (pe_call G_grid (hr.mono (by decide)) (by rfl) T.m_grid T.k_grid T.b_grid .nil pass0 (pa_cons (pv 0) pa_nil)))
      (pss_cons (ps_set (i := 3) sc_round_of.nd rfl (Or.inl rfl) (pe_call G_det (hr.mono (by decide)) (by rfl) T.m_det T.k_det T.b_det .nil pass0 (pa_cons (pv 2) pa_nil)))
      (pss_cons (ps_set (i := 4) sc_round_of.nd rfl (Or.inl rfl) (pv 3))
      (pss_cons (ps_for PassesOwn.leaving rfl (pi_range1 (by rfl) T.n_range (pa_cons (pe_callB (call_lenK (K := K) rfl) (by rfl) T.n_len PySem.boot_len (pa_cons (pv 2) pa_nil)) pa_nil)) (pg_name (i := 5) sc_round_of.nd rfl (Or.inl rfl))
        (pss_one (ps_set (i := 4) sc_round_of.nd rfl (Or.inl rfl) (pe_call G_greatest_divisor (hr.mono (by decide)) (by rfl) T.m_greatest_divisor T.k_greatest_divisor T.b_greatest_divisor .nil pass0 (pa_cons (pv 4) (pa_cons (pe_call G_det (hr.mono (by decide)) (by rfl) T.m_det T.k_det T.b_det .nil pass0 (pa_cons (pe_call G_with_mark (hr.mono (by decide)) (by rfl) T.m_with_mark T.k_with_mark T.b_with_mark .nil pass0 (pa_cons (pv 2) (pa_cons (pv 5) (pa_cons (pv 1) pa_nil)))) pa_nil)) pa_nil))))))
      (pss_one (ps_ret (pe_op op_fdivB (pv 3) (pv 4)))))))))), ?_⟩
    refine ⟨_, rfl, _, rfl, p, dx, aR, as, aT, aL, aS, b, z, rfl, B, z1, z2, fun hz => ?_, fun hz => q1 hz _ (Same.refl _)⟩
    refine ⟨_, rfl, p, dx, aR, as, aT, aL, aS, b, rfl, B, W, fun ho H1 s1 => ?_, fun ho H1 s1 => q2 hz ho H1 s1⟩
    obtain ⟨S, q⟩ := q3 hz ho
    obtain ⟨s, rfl⟩ : ∃ s : Nat, z = (s : Int) := ⟨z.toNat, by omega⟩
    have hs : s < b.rows.length := by omega
    rw [Int.toNat_natCast] at S q
    refine ⟨_, rfl, p, dx, aR, as, aT, aL, aS, b, rfl, B.same s1, W, fun D asD H2 M2 s2 fr2 => ?_⟩
    have s02 := s1.trans s2
    have hlD := M2.reflen
    rw [gridL_len] at hlD
    refine ⟨_, rfl, D, asD, _, b.rows.length, rfl, M2, grid_sq W, W.2.1, fun H3 s3 => ?_⟩
    rw [grid_fn]
    have s03 := s02.trans s3
    have M3 := M2.same s3
    have hD := S.D
    have eD : treesN b.rows = (((treesN b.rows).toNat : Nat) : Int) := by omega
    refine ⟨_, rfl, ?_⟩
    have en : (((asD.map V.ref).length : Nat) : Int).toNat = b.rows.length := by rw [hlD]; simp
    refine ⟨_, rfl, _, _, rfl, .inl M3.sq, _, rfl, by rw [hlD]; have := W.2.1; omega, by rw [hlD]; have := W.2.1; omega, ?_⟩
    rw [en]
    refine for_rangeN (fun i σ H' => ∃ x5 : Option V, σ = [some (.ref p), some (.int (s : Int)), some (.ref D), some (.int (treesN b.rows)), some (.int ((gcN b.rows s i : Nat) : Int)), x5] ∧ Same H H' ∧ Same H3 H') ⟨none, (by rw [gcN, ← eD]; rfl), s03, Same.refl _⟩ ?_ ?_
    · rintro i σ H4 hi ⟨x5, rfl, s4, s34⟩ DD hDD
      have M4 := M3.same s34
      have hi2 : i < (gridL b.rows).length := by rw [gridL_len]; exact hi
      refine ⟨_, rfl, _, rfl, _, rfl, _, rfl, D, asD, _, i, s, (by rw [Int.zero_add]; rfl), M4, (by rw [gridL_len]; exact W.2.1), hi2, (by rw [gridL_len]; exact hs), fun E asE H5 M5 s5 => ?_⟩
      refine ⟨E, asE, _, b.rows.length, rfl, M5, mark_sq (grid_sq W), W.2.1, fun H6 s6 => ?_⟩
      have e1 : dt b.rows.length (((gridL b.rows).set i (markL (gridL b.rows).length s)).map Com.fn) 0 = DpN b.rows s i := by rw [gridL_len]; exact det_mark hs hi
      rw [e1]
      have h0 := S.nn hi
      have eP : DpN b.rows s i = (((DpN b.rows s i).toNat : Nat) : Int) := by omega
      refine ⟨gcN b.rows s i, (DpN b.rows s i).toNat, by rw [← eP]; rfl, ?_⟩
      exact hDD _ _ ⟨_, rfl, (s4.trans s5).trans s6, (s34.trans s5).trans s6⟩
    · rintro σ H4 ⟨x5, rfl, s4, s34⟩
      have hg := gcN_pos (s := s) hD b.rows.length
      have hcb : CB (treesN b.rows) := by
        have := dt_bd (M := M30) b.rows.length 0 ((gridL b.rows).map Com.fn) (by rw [List.length_map, gridL_len]; exact Nat.le_refl _) (fun r hr => by
          obtain ⟨r', h', rfl⟩ := List.mem_map.mp hr
          exact ((grid_sq W).bl r' h').fn)
        rw [grid_fn] at this
        exact bd_cb this W.2.1
      have hgl : gcN b.rows s b.rows.length ≤ (treesN b.rows).toNat := Nat.le_of_dvd (by omega) (gcN_D b.rows s _)
      have hcg : CB ((gcN b.rows s b.rows.length : Nat) : Int) := by
        unfold CB at hcb ⊢
        omega
      refine ⟨_, rfl, _, rfl, _, _, rfl, rfl, ⟨by omega, hcg⟩, ?_⟩
      have ef : (treesN b.rows).fdiv ((gcN b.rows s b.rows.length : Nat) : Int) = ((roundN b.rows s : Nat) : Int) := by
        unfold roundN
        rw [Int.fdiv_eq_ediv_of_nonneg _ (by omega), Int.natCast_ediv, ← eD]
      dsimp only
      rw [ef]
      exact q _ s4
theorem sc_run_all : FnScope ["board", "sites", "many", "at", "found"] ["board", "sites"] (defScope s_run_all) := ⟨rfl, rfl, rfl, by decide +kernel, rfl, by decide +kernel, by decide +kernel⟩
theorem ok_run_all (T : Txt K mg A) (G_load : FnOk P w K mg base (CX1 P w) 2 A.f_Bload A.fd_Bload ["self", "at", "many"] (spLoad A.C A.c_NoSite A.c_TooMany)) (G_run : FnOk P w K mg base (CX1 P w) 6 A.f_run A.fd_run ["board", "most"] (spRun A.C A.c_NotOpen A.c_TooLong)) (G_whole : FnOk P w K mg base CX0 1 A.f_whole A.fd_whole ["found"] spWhole) : FnOk P w K mg base CX0 7 A.f_run_all A.fd_run_all ["board", "sites"] (spAll A.C) := by
  refine T.F_run_all.ok sc_run_all (fun vs H Q E h => ?_) (fun cdv A' outer s H vs Q E hr h => ?_)
  · obtain ⟨p, dx, aR, as, aT, aL, aS, b, sA, zs, rfl, _⟩ := h
    rfl
  · obtain ⟨p, dx, aR, as, aT, aL, aS, b, sA, zs, rfl, B, O, hop, tm, hsum, hz2, eS, nS, hzs, q⟩ := h
    refine ⟨_, (pss_cons (ps_set (i := 2) sc_run_all.nd rfl (Or.inl rfl) pe_int)
      (pss_cons (ps_for PassesOwn.never rfl (pi_listK (K := K) rfl (pv 1)) (pg_name (i := 3) sc_run_all.nd rfl (Or.inl rfl))
        (pss_cons (ps_expr (pe_meth (pv 0) T.cl_Board T.mt_load G_load (hr.mono (by decide)) T.bm_load .nil passE0 (pa_cons (pv 3) (pa_cons pe_int pa_nil))))
        (pss_cons (ps_set (i := 4) sc_run_all.nd rfl (Or.inl rfl) (pe_call G_run (hr.mono (by decide)) (by rfl) T.m_run T.k_run T.b_run .nil passE0 (pa_cons (pv 0) (pa_cons pe_int pa_nil))))
        (pss_cons (ps_if (pt_not (pt_val (pe_call G_whole (hr.mono (by decide)) (by rfl) T.m__law_whole T.k__law_whole T.b__law_whole .nil pass0 (pa_cons (pv 4) pa_nil))))
          (pss_one (ps_ret (pe_un un_neg pe_int)))
          pss_nil)
        (pss_one (ps_set (i := 2) sc_run_all.nd rfl (Or.inl rfl) (pe_op op_add (pv 2) (pv 4))))))))
      (pss_one (ps_ret (pv 2))))), ?_⟩
    refine asg_lit ?_
    have hzl : ((toZ zs).map V.int).length = zs.length := by unfold toZ; simp
    refine ⟨_, rfl, sA, rfl, ⟨_, SqL.of eS⟩, for_list (K := K) (a := sA) (xs := (toZ zs).map V.int) (fun i σ H2 => ∃ (m : Nat) (b' : Brd) (aT' aL' aS' : Addr) (x3 x4 : Option V), σ = [some (.ref p), some (.ref sA), some (.int (m : Int)), x3, x4] ∧ RunAll b (zs.take i) m b' ∧ BoardAt A.C H2 p dx aR as aT' aL' aS' b' ∧ BrdOk b' ∧ b'.rows = b.rows ∧ b'.loads.sum ≤ 20 ∧ (∀ x o, x ∉ ownB p aT aL aS aR as → H x = some o → H2 x = some o) ∧ ∀ x ∈ [aT', aL', aS'], x ∈ ownB p aT aL aS aR as ∨ H x = none)
      ⟨0, b, aT, aL, aS, none, none, rfl, by rw [List.take_zero]; exact .nil, B, O, rfl, hsum, fun _ _ _ e => e, fun x hx => .inl (by unfold ownB; simp only [List.mem_cons, List.not_mem_nil, or_false] at hx ⊢; rcases hx with h | h | h <;> simp [h])⟩ (fun i σ H2 _ ⟨_, _, _, _, _, _, _, _, _, _, _, _, _, kp, _⟩ => SqL.of (kp _ _ nS eS)) ?_ ?_⟩
    · rintro i x σ H2 ex ⟨m, b', aT', aL', aS', x3, x4, rfl, RA, B', O', hr', hs', kp, fr⟩
      have hi : i < zs.length := by have := (List.getElem?_eq_some_iff.mp ex).1; rw [hzl] at this; exact this
      have ez : x = V.int ((zs[i] : Nat) : Int) := by
        unfold toZ at ex
        rw [List.getElem?_map, List.getElem?_map, List.getElem?_eq_getElem hi] at ex
        exact (Option.some.inj ex).symm
      subst ez
      have hz := hzs _ (List.getElem_mem hi)
      generalize hzz : zs[i] = z at hz
      have hzr : z < b'.rows.length := by rw [hr']; exact hz
      have hzr' : (0 : Int) ≤ (z : Int) ∧ (z : Int) < (b'.rows.length : Int) := by omega
      have h12 := O'.W.2.1
      refine ⟨_, rfl, p, dx, _, rfl, B'.ob, (by rfl), _, rfl, p, dx, aR, as, aT', aL', aS', b', (z : Int), 1, rfl, B', O'.L, by omega, by omega, fun h0 => absurd hzr' h0, fun _ h0 => absurd h0 (by omega), fun _ _ => ?_⟩
      rw [Int.toNat_natCast]
      have B3 := B'.setL (b'.loads.set z (b'.loads.getD z 0 + 1))
      have naL : ∀ x o, x ∉ ownB p aT aL aS aR as → H x = some o → x ≠ aL' := fun x o hx e z => by
        rcases fr aL' (by simp) with y | y
        · exact hx (by rw [z]; exact y)
        · rw [z, y] at e; cases e
      have kp3 : ∀ x o, x ∉ ownB p aT aL aS aR as → H x = some o → (upd H2 aL' (.lst ((b'.loads.set z (b'.loads.getD z 0 + 1)).map V.int))) x = some o := fun x o hx e => by rw [upd_ne (naL x o hx e)]; exact kp x o hx e
      have fr3 : ∀ x, (upd H2 aL' (.lst ((b'.loads.set z (b'.loads.getD z 0 + 1)).map V.int))) x = none → x ∈ ownB p aT aL aS aR as ∨ H x = none := fun x hn => by
        by_cases hx : x ∈ ownB p aT aL aS aR as
        · exact .inl hx
        · right
          cases e : H x with
          | none => rfl
          | some o => rw [kp3 x o hx e] at hn; cases hn
      generalize upd H2 aL' (.lst ((b'.loads.set z (b'.loads.getD z 0 + 1)).map V.int)) = H3 at B3 kp3 fr3
      have O3 : BrdOk (ldB b' z) := withL_ok O' (by rw [List.length_set]; exact O'.L) (set_nn O'.P (by have := O'.P z; omega))
      have hls : (ldB b' z).loads.sum ≤ 30 := by
        show (b'.loads.set z (b'.loads.getD z 0 + 1)).sum ≤ 30
        rw [sum_set (by rw [O'.L]; exact hzr)]
        omega
      have tm3 : Tame (ldB b' z).rows 30 := by show Tame b'.rows 30; rw [hr']; exact tm
      obtain ⟨N, hN, RT⟩ := run_ex O3 tm3 hls
      have hop3 : (reachL (ldB b' z).rows).all id = true := by show (reachL b'.rows).all id = true; rw [hr']; exact hop
      refine ⟨_, rfl, p, dx, aR, as, aT', aL', aS', ldB b' z, 20000, rfl, B3, O3, by decide, by decide, fun h0 => absurd hop3 (by rw [h0]; decide), fun _ => ⟨N, RT, fun _ n1 n2 n3 H4 B4 k4 e1 e2 e3 => ?_, fun h0 => absurd h0 (by omega)⟩⟩
      obtain ⟨O4, r4, t4⟩ := O3.iter N
      refine ⟨_, rfl, _, rfl, _, rfl, ?_⟩
      refine iteF ?_
      refine ⟨_, rfl, _, rfl, _, _, rfl, rfl, ?_⟩
      have eT : zs.take (i + 1) = zs.take i ++ [z] := by rw [List.take_add_one, List.getElem?_eq_getElem hi, hzz]; rfl
      refine ⟨m + N, iterR N (ldB b' z), n1, n2, n3, some (.int (z : Int)), some (.int (N : Int)), ?_, by rw [eT]; exact .snoc RA RT, B4, O4, r4.trans hr', ?_, fun x o hx e => k4 x o (fun y => hx (by rw [y]; exact List.mem_cons_self)) (kp3 x o hx e), fun x hx => ?_⟩
      · rw [Int.natCast_add]
        rfl
      · have := laden_nil RT.done O4.P
        rw [this, rep_sum0]
        decide
      · simp only [List.mem_cons, List.not_mem_nil, or_false] at hx
        rcases hx with rfl | rfl | rfl
        · exact fr3 _ e1
        · exact fr3 _ e2
        · exact fr3 _ e3
    · rintro σ H2 ⟨m, b', aT', aL', aS', x3, x4, rfl, RA, B', O', hr', hs', kp, fr⟩
      rw [hzl, List.take_length] at RA
      exact ⟨_, rfl, q m b' aT' aL' aS' H2 RA B' kp fr⟩
theorem sc_chain : FnScope ["script", "many", "lengths", "rows", "k", "at", "due", "length", "board", "found"] ["script"] (defScope s_chain) := ⟨rfl, rfl, rfl, by decide +kernel, rfl, by decide +kernel, by decide +kernel⟩
theorem ok_chain (T : Txt K mg A) (G_drawn : FnOk P w K mg base CX0 1 A.f_drawn A.fd_drawn ["script", "k", "many"] (spDrawn K)) (G_other : FnOk P w K mg base CX0 1 A.f_other A.fd_other ["gone", "many"] spOther) (G_i_Board : FnOk P w K mg base CX0 3 A.f_Binit A.fd_Binit ["self", "rows"] (spInit A.C)) (G_round_of : FnOk P w K mg base (CX1 P w) 4 A.f_round_of A.fd_round_of ["board", "at"] (spRound A.C A.c_NoSite A.c_NotOpen)) (G_whole : FnOk P w K mg base CX0 1 A.f_whole A.fd_whole ["found"] spWhole) : FnOk P w K mg base CX0 6 A.f_chain A.fd_chain ["script"] (spChain K) := by
  refine T.F_chain.ok sc_chain (fun vs H Q E h => ?_) (fun cdv A' outer s H vs Q E hr h => ?_)
  · obtain ⟨a, ns, rfl, _⟩ := h
    rfl
  · obtain ⟨a, ns, rfl, hS, q⟩ := h
    refine ⟨_, (pss_cons (ps_set (i := 1) sc_chain.nd rfl (Or.inr rfl) (pe_op op_add pe_int (pe_call G_drawn (hr.mono (by decide)) (by rfl) T.m__law_drawn T.k__law_drawn T.b__law_drawn .nil pass0 (pa_cons (pv 0) (pa_cons pe_int (pa_cons pe_int pa_nil))))))
      (pss_cons (ps_setComp (i := 2) sc_chain.nd rfl rfl (CompSc.of (N' := ["k", "script"]) (ix := [none, some 0]) rfl (by kernel_rfl)) rfl rfl rfl rfl (pi_range1 (by rfl) T.n_range (pa_cons (pv 1) pa_nil)) (by exact fun _ _ _ _ _ => pf_nil) (by exact fun _ _ _ _ _ => (pe_op op_add pe_int (pe_call G_drawn (hr.mono (by decide)) (by rfl) T.m__law_drawn T.k__law_drawn T.b__law_drawn .nil pass0 (pa_cons (pv 1) (pa_cons (pe_op op_add pe_int (pv 0)) (pa_cons pe_int pa_nil)))))))
      (pss_cons (ps_setComp (i := 3) sc_chain.nd rfl rfl (CompSc.of (N' := ["length"]) (ix := [none]) rfl (by kernel_rfl)) rfl rfl rfl rfl (pi_listK (K := K) rfl (pv 2)) (by exact fun _ _ _ _ _ => pf_nil) (by exact fun _ _ _ _ _ => (pe_comp (CompSc.of (N' := ["j"]) (ix := [none]) rfl (by kernel_rfl)) rfl rfl rfl rfl (pi_range1 (by rfl) T.n_range (pa_cons (pv 0) pa_nil)) (by exact fun _ _ _ _ _ => pf_nil) (by exact fun _ _ _ _ _ => (pe_un un_neg pe_int)) (fun _ => rfl))))
      (pss_cons (ps_for PassesOwn.never rfl (pi_range2 (by rfl) T.n_range (pa_cons pe_int (pa_cons (pv 1) pa_nil))) (pg_name (i := 4) sc_chain.nd rfl (Or.inl rfl))
        (pss_one (ps_asg (pe_op op_sub (pv 4) pe_int) (pg_sub (pe_ix (ix_listK (K := K) rfl) (pv 3) (pv 4) (fun _ _ => rfl)) (pe_call G_drawn (hr.mono (by decide)) (by rfl) T.m__law_drawn T.k__law_drawn T.b__law_drawn .nil pass0 (pa_cons (pv 0) (pa_cons (pe_op op_add pe_int (pv 4)) (pa_cons (pe_ix (ix_listK (K := K) rfl) (pv 2) (pv 4) (fun _ _ => rfl)) pa_nil)))) set_list))))
      (pss_cons (ps_set (i := 5) sc_chain.nd rfl (Or.inl rfl) (pe_call G_drawn (hr.mono (by decide)) (by rfl) T.m__law_drawn T.k__law_drawn T.b__law_drawn .nil pass0 (pa_cons (pv 0) (pa_cons pe_int (pa_cons (pv 1) pa_nil)))))
      (pss_cons (ps_set (i := 6) sc_chain.nd rfl (Or.inl rfl) pe_int)
      (pss_cons (ps_for PassesOwn.never rfl (pi_listK (K := K) rfl (pe_slice (sl_listK (K := K) rfl) (pv 2) po_none (po_some (pe_op op_add (pv 5) pe_int)))) (pg_name (i := 7) sc_chain.nd rfl (Or.inl rfl))
        (pss_one (ps_set (i := 6) sc_chain.nd rfl (Or.inl rfl) (pe_op op_mul (pv 6) (pv 7)))))
      (pss_cons (ps_if (pt_cmpR op_eq (pe_call G_drawn (hr.mono (by decide)) (by rfl) T.m__law_drawn T.k__law_drawn T.b__law_drawn .nil pass0 (pa_cons (pv 0) (pa_cons pe_int (pa_cons pe_int pa_nil)))) pe_int (nomark _))
        (pss_cons (ps_setComp (i := 3) sc_chain.nd rfl rfl (CompSc.of (N' := ["row", "many"]) (ix := [none, some 1]) rfl (by kernel_rfl)) rfl rfl rfl rfl (pi_revK (K := K) rfl (by rfl) T.n_reversed (pa_cons (pv 3) pa_nil)) (by exact fun _ _ _ _ _ => pf_nil) (by exact fun _ _ _ _ _ => (pe_comp (CompSc.of (N' := ["gone", "many"]) (ix := [none, some 1]) rfl (by kernel_rfl)) rfl rfl rfl rfl (pi_listK (K := K) rfl (pv 0)) (by exact fun _ _ _ _ _ => pf_nil) (by exact fun _ _ _ _ _ => (pe_call G_other (hr.mono (by decide)) (by rfl) T.m__law_other T.k__law_other T.b__law_other .nil pass0 (pa_cons (pv 0) (pa_cons (pv 1) pa_nil)))) (fun _ => rfl))))
        (pss_one (ps_set (i := 5) sc_chain.nd rfl (Or.inl rfl) (pe_op op_sub (pe_op op_sub (pv 1) pe_int) (pv 5)))))
        pss_nil)
      (pss_cons (ps_set (i := 8) sc_chain.nd rfl (Or.inl rfl) (pe_make T.mk_Board G_i_Board (hr.mono (by decide)) (by rfl) T.m_Board T.bi_Board .nil pass0 (pa_cons (pe_comp (CompSc.of (N' := ["row"]) (ix := [none]) rfl (by kernel_rfl)) rfl rfl rfl rfl (pi_listK (K := K) rfl (pv 3)) (by exact fun _ _ _ _ _ => pf_nil) (by exact fun _ _ _ _ _ => (pe_callTy (call_listK (K := K) rfl) (by rfl) T.n_list PyProof.Rows.Boot.«list» (pa_cons (pv 0) pa_nil))) (fun _ => rfl)) pa_nil)))
      (pss_cons (ps_set (i := 9) sc_chain.nd rfl (Or.inl rfl) (pe_call G_round_of (hr.mono (by decide)) (by rfl) T.m_round_of T.k_round_of T.b_round_of .nil passE0 (pa_cons (pv 8) (pa_cons (pv 5) pa_nil))))
      (pss_one (ps_ret (pe_and (pe_call G_whole (hr.mono (by decide)) (by rfl) T.m__law_whole T.k__law_whole T.b__law_whole .nil pass0 (pa_cons (pv 9) pa_nil)) (pe_one (pe_cmpR op_eq (pv 9) (pv 6) (nomark _)))))))))))))))), ?_⟩
    have d0 := drawn_nn ns 501 (many := 12) (by decide)
    have d1 := drawn_lt ns 501 (many := 12) (by decide)
    refine ⟨_, rfl, a, ns, 501, 12, rfl, hS, by decide, by decide, by decide, _, _, rfl, rfl, ?_⟩
    dsimp only
    obtain ⟨n, hsz⟩ : ∃ n : Nat, 1 + drawn ns 501 12 = (n : Int) := ⟨(1 + drawn ns 501 12).toNat, by omega⟩
    rw [hsz]
    have hn : n ≤ 12 := by omega
    have hn1 : 1 ≤ n := by omega
    have en : ((n : Nat) : Int).toNat = n := by omega
    -- lengths
    refine ⟨_, rfl, _, rfl, by omega, by omega, ?_⟩
    rw [en]
    have hb : ∀ k : Nat, 0 ≤ drawn ns (700 + (0 + (k : Int))) 8 ∧ drawn ns (700 + (0 + (k : Int))) 8 < 8 := fun k => ⟨drawn_nn ns _ (by decide), drawn_lt ns _ (by decide)⟩
    refine comp_pure (ys := (toZ ((List.range n).map fun (k : Nat) => (1 + drawn ns (700 + (0 + (k : Int))) 8).toNat)).map V.int) wk_range (by rw [List.length_map, List.length_range]; exact small12 (by omega)) (by simp [toZ]) (fun j x y ex ey Q' q' => ?_) (fun lA hlA => ?_)
    · have hj : j < n := by have := (List.getElem?_eq_some_iff.mp ex).1; simpa using this
      rw [List.getElem?_map, List.getElem?_range hj] at ex
      unfold toZ at ey
      rw [List.getElem?_map, List.getElem?_map, List.getElem?_map, List.getElem?_range hj] at ey
      cases ex
      cases ey
      have hbj := hb j
      refine ⟨_, rfl, _, rfl, _, _, rfl, rfl, a, ns, _, _, rfl, hS, by decide, by omega, by omega, _, _, rfl, rfl, ?_⟩
      have e : (1 + drawn ns (700 + (0 + (j : Int))) 8) = Int.ofNat (1 + drawn ns (700 + (0 + (j : Int))) 8).toNat := by
        rw [Int.ofNat_eq_natCast]
        omega
      dsimp only
      rw [e]
      exact q'
    have LK : LsOk ((List.range n).map fun (k : Nat) => (1 + drawn ns (700 + (0 + (k : Int))) 8).toNat) := by
      refine ⟨by simp; exact hn1, by simp; exact hn, fun k hk => ?_⟩
      have hk' : k < n := by simpa using hk
      rw [getD_get hk, List.getElem_map, List.getElem_range]
      have := hb k
      omega
    have hnl : ((List.range n).map fun (k : Nat) => (1 + drawn ns (700 + (0 + (k : Int))) 8).toNat).length = n := by simp
    generalize ((List.range n).map fun (k : Nat) => (1 + drawn ns (700 + (0 + (k : Int))) 8).toNat) = ls at LK hnl
    have s1 : Same H (upd H lA (.lst ((toZ ls).map V.int))) := same_new hlA
    have eL : (upd H lA (.lst ((toZ ls).map V.int))) lA = some (.lst ((toZ ls).map V.int)) := upd_same
    generalize upd H lA (.lst ((toZ ls).map V.int)) = H1 at s1 eL
    have htl : ((toZ ls).map V.int).length = n := by unfold toZ; simp; exact hnl
    -- rows
    refine ⟨_, rfl, lA, rfl, ⟨_, SqL.of eL⟩, ?_⟩
    refine comp_news (ls := (ls.map fun l => List.replicate l (-1 : Int)).map fun r => r.map V.int) (wk_list (K := K) (SqL.of eL)) (by rw [htl]; exact small12 (by omega)) (by rw [htl]; simp; exact hnl) (fun k x l H3 ex el s3 Q' q' => ?_) (fun as H2' s2 hlenR nd fr hrows R hR => ?_)
    · have hk : k < ls.length := by have := (List.getElem?_eq_some_iff.mp ex).1; rw [htl, ← hnl] at this; exact this
      unfold toZ at ex
      rw [List.getElem?_map, List.getElem?_map, List.getElem?_eq_getElem hk] at ex
      rw [List.getElem?_map, List.getElem?_map, List.getElem?_eq_getElem hk] at el
      cases ex
      cases el
      have h8 := LK.l k hk
      rw [getD_get hk] at h8
      refine ⟨_, rfl, _, rfl, by rw [Int.ofNat_eq_natCast]; omega, by rw [Int.ofNat_eq_natCast]; omega, ?_⟩
      rw [Int.ofNat_eq_natCast, Int.toNat_natCast]
      refine comp_pure (ys := (List.replicate ls[k] (-1 : Int)).map V.int) wk_range (by rw [List.length_map, List.length_range]; exact small12 (by omega)) (by simp) (fun j x y ex2 ey2 Q2 q2 => ?_) q'
      rw [List.getElem?_map, List.getElem?_replicate] at ey2
      split at ey2
      · cases ey2
        exact ⟨_, rfl, q2⟩
      · cases ey2
    rw [List.length_map, List.length_map, hnl] at hlenR
    have MR := mat_of (H := H1) (R := R) (rows := ls.map fun l => List.replicate l (-1 : Int)) (by rw [hlenR, List.length_map, hnl]) nd s2 hrows hR
    have sR : Same H1 (upd H2' R (.lst (as.map V.ref))) := same_upd s2 (s2.free hR)
    have frR : ∀ c ∈ as, H1 c = none := fr
    generalize upd H2' R (.lst (as.map V.ref)) = H2 at MR sR
    have C0 : ChR ls 0 (ls.map fun l => List.replicate l (-1 : Int)) := ⟨by simp, fun k hk => by
      refine ⟨fun z => by omega, fun _ => ?_⟩
      rw [getD_get (by simp; exact hk), List.getElem_map, getD_get hk]⟩
    generalize (ls.map fun l => List.replicate l (-1 : Int)) = rows0 at MR C0
    dsimp only [gName]
    refine seq_mk' (fun σ' H' => ∃ (rows : List (List Int)) (x4 : Option V), σ' = [some (.ref a), some (.int (n : Int)), some (.ref lA), some (.ref R), x4, none, none, none, none, none] ∧ Mat H' R as rows ∧ ChR ls (ls.length - 1) rows ∧ Same H1 H') ?rest (fun D1 rest => ?way)
    case way =>
      refine ⟨_, rfl, _, _, rfl, ⟨by decide, by decide, by omega, by omega⟩, ?_⟩
      have em : ((n : Int) - 1).toNat = n - 1 := by omega
      rw [em]
      refine for_rangeN (fun i σ H3 => ∃ (rows : List (List Int)) (x4 : Option V), σ = [some (.ref a), some (.int (n : Int)), some (.ref lA), some (.ref R), x4, none, none, none, none, none] ∧ Mat H3 R as rows ∧ ChR ls i rows ∧ Same H1 H3) ⟨rows0, none, rfl, MR, C0, sR⟩ ?_ ?_
      · rintro i σ H3 hi ⟨rows, x4, rfl, M, CH, s3⟩ DD hDD
        have hi1 : i + 1 < ls.length := by omega
        have hi2 : i + 1 < rows.length := by rw [CH.n]; exact hi1
        have ei : ((1 : Int) + (i : Int)).toNat = i + 1 := by omega
        have hl8 := LK.l (i + 1) hi1
        obtain ⟨c, hat, hc, hca⟩ := M.at (z := 1 + (i : Int)) (by omega) (by omega)
        rw [ei] at hc hca
        have hrl : (rows.getD (i + 1) []).length = ls.getD (i + 1) 0 := by rw [(CH.at_ (i + 1) hi1).2 (.inr (by omega))]; simp
        have hal := at_ints (ns := toZ ls) (i := 1 + (i : Int)) (by omega) (by unfold toZ; rw [List.length_map]; omega)
        rw [ei, toZ_get] at hal
        have t0 := drawn_nn ns (720 + (1 + (i : Int))) (many := ((ls.getD (i + 1) 0 : Nat) : Int)) (by omega)
        have t1 := drawn_lt ns (720 + (1 + (i : Int))) (many := ((ls.getD (i + 1) 0 : Nat) : Int)) (by omega)
        refine ⟨_, rfl, _, _, rfl, rfl, _, rfl, _, rfl, _, _, _, _, rfl, rfl, M.sq, hat, _, rfl, _, rfl, _, _, rfl, rfl, _, rfl, _, rfl, _, _, _, _, rfl, rfl, SqL.of (s3 _ _ eL), hal, a, ns, _, _, rfl, (s1.trans s3).seq hS, by omega, by omega, by omega, c, _, _, _, rfl, rfl, hc, ixN_in t0 (by rw [List.length_map, hrl]; exact t1), ?_⟩
        generalize drawn ns (720 + (1 + (i : Int))) ((ls.getD (i + 1) 0 : Nat) : Int) = td at t0 t1
        rw [map_set_int, show (1 : Int) + (i : Int) - 1 = (i : Int) by omega]
        exact hDD _ _ ⟨_, _, rfl, M.set hca, CH.step hi1 (by omega), same_upd s3 (frR c (List.mem_of_getElem? hca))⟩
      · rintro σ H3 ⟨rows, x4, rfl, M, CH, s3⟩
        rw [← hnl] at CH
        exact rest _ _ ⟨rows, x4, rfl, M, CH, s3⟩
    rintro σ' H3 ⟨rows, x4, rfl, M, CH, s3⟩
    have s03 := s1.trans s3
    have eL3 := s3 _ _ eL
    have hrn : rows.length = n := by rw [CH.n, hnl]
    have W := CH.wf LK
    have hrow : ∀ r ∈ rows, RowOk rows.length r := W.2.2
    have v0 := drawn_nn ns 504 (many := (n : Int)) (by omega)
    have v1 := drawn_lt ns 504 (many := (n : Int)) (by omega)
    refine ⟨_, rfl, _, rfl, a, ns, 504, _, rfl, s03.seq hS, by omega, by decide, by decide, ?_⟩
    generalize drawn ns 504 (n : Int) = z at v0 v1
    obtain ⟨s, rfl⟩ : ∃ s : Nat, z = (s : Int) := ⟨z.toNat, by omega⟩
    have hs : s < rows.length := by omega
    dsimp only [gName]
    refine asg_lit ?_
    refine seq_mk' (fun σ' H' => ∃ x7 : Option V, σ' = [some (.ref a), some (.int (n : Int)), some (.ref lA), some (.ref R), x4, some (.int (s : Int)), some (.int ((prodL (ls.take (s + 1)) : Nat) : Int)), x7, none, none] ∧ Same H3 H') ?rest2 (fun D1 rest => ?way2)
    case way2 =>
      refine ⟨_, rfl, _, rfl, _, _, rfl, rfl, _, rfl, _, _, rfl, SqL.of eL3, fun l2 hl2 => ?_⟩
      rw [show (s : Int) + 1 = ((s + 1 : Nat) : Int) by omega, cut_take (by rw [htl]; omega)]
      have s4 := same_new hl2 (o := .lst (((toZ ls).map V.int).take (s + 1)))
      have eC : (upd H3 l2 (.lst (((toZ ls).map V.int).take (s + 1)))) l2 = some (.lst (((toZ ls).map V.int).take (s + 1))) := upd_same
      generalize upd H3 l2 (.lst (((toZ ls).map V.int).take (s + 1))) = H4 at s4 eC
      have hlt : (((toZ ls).map V.int).take (s + 1)).length = s + 1 := by rw [List.length_take, htl]; omega
      refine ⟨l2, rfl, ⟨_, SqL.of eC⟩, for_list (K := K) (a := l2) (xs := ((toZ ls).map V.int).take (s + 1)) (fun i σ H5 => ∃ x7 : Option V, σ = [some (.ref a), some (.int (n : Int)), some (.ref lA), some (.ref R), x4, some (.int (s : Int)), some (.int ((prodL (ls.take i) : Nat) : Int)), x7, none, none] ∧ H4 = H5) ⟨none, by rw [List.take_zero]; rfl, rfl⟩ (fun i σ H5 _ ⟨_, _, e⟩ => by rw [← e]; exact SqL.of eC) ?_ ?_⟩
      · rintro i x σ H5 ex ⟨x7, rfl, rfl⟩
        have hi : i < s + 1 := by have := (List.getElem?_eq_some_iff.mp ex).1; rw [hlt] at this; exact this
        have hil : i < ls.length := by omega
        unfold toZ at ex
        rw [List.getElem?_take, if_pos hi, List.getElem?_map, List.getElem?_map, List.getElem?_eq_getElem hil] at ex
        cases ex
        have h8 := LK.l i hil
        have hg : ls.getD i 0 = ls[i] := getD_get hil
        refine ⟨_, rfl, _, rfl, _, _, rfl, rfl, .inr ⟨by rw [Int.ofNat_eq_natCast]; omega, by rw [Int.ofNat_eq_natCast]; omega⟩, some (.int (Int.ofNat ls[i])), ?_, rfl⟩
        rw [prodL_take ls hil, hg]
        have e2 : ((prodL (ls.take i) * ls[i] : Nat) : Int) = ((prodL (ls.take i) : Nat) : Int) * Int.ofNat ls[i] := by rw [Int.natCast_mul]; rfl
        rw [e2]
        rfl
      · rintro σ H5 ⟨x7, rfl, rfl⟩
        rw [hlt]
        exact rest _ _ ⟨x7, rfl, s4⟩
    rintro σ' H4 ⟨x7, rfl, s4⟩
    have s04 := s03.trans s4
    have M4 := M.same s4
    -- turned about
    refine seq_mk' (fun σ' H' => ∃ (R : Addr) (as : List Addr) (rows : List (List Int)) (y : Nat), σ' = [some (.ref a), some (.int (n : Int)), some (.ref lA), some (.ref R), x4, some (.int (y : Int)), some (.int ((prodL (ls.take (s + 1)) : Nat) : Int)), x7, none, none] ∧ Mat H' R as rows ∧ Wf rows ∧ (∀ i, i < rows.length → rch rows i = true) ∧ y < rows.length ∧ Some rows y ∧ roundN rows y = prodL (ls.take (s + 1)) ∧ Same H H') ?rest3 (fun D1 rest => ?way3)
    case way3 =>
      refine ⟨_, rfl, a, ns, 505, 2, rfl, s04.seq hS, by decide, by decide, by decide, rfl, _, rfl, ?_⟩
      refine ite2 (fun _ => ?_) (fun _ => ?_)
      · refine ⟨_, rfl, R, _, rfl, M4.sq, ?_⟩
        refine comp_news (ls := (rows.reverse.map fun r => r.map (oth (n : Int))).map fun r => r.map V.int) (wk_rev M4.sq) (by rw [List.length_reverse, M4.reflen]; exact small12 (by omega)) (by simp [M4.len]) (fun i x l H3 ex el s3 Q' q' => ?_) (fun as' H1' s1' hlen' nd' fr' hrows' D hD => ?_)
        · have hi : i < rows.length := by
            have := (List.getElem?_eq_some_iff.mp ex).1
            rw [List.length_reverse, M4.reflen] at this
            exact this
          rw [List.getElem?_reverse (by rw [M4.reflen]; exact hi), M4.reflen] at ex
          obtain ⟨c, hi', rfl, ec, hc, _⟩ := M4.refs ex
          have el' : l = ((rows[rows.length - 1 - i]).map (oth (n : Int))).map V.int := by
            rw [List.getElem?_map, List.getElem?_map, List.getElem?_reverse hi] at el
            rw [List.getElem?_eq_getElem hi'] at el
            exact (Option.some.inj el).symm
          subst el'
          have hc3 := s3 _ _ hc
          refine ⟨_, rfl, c, rfl, ⟨_, SqL.of hc3⟩, ?_⟩
          have hz : ((rows[rows.length - 1 - i]).map V.int).length ≤ sizeLine := by
            have := (hrow _ (List.getElem_mem hi')).2.1
            rw [List.length_map]
            exact small12 (by omega)
          refine comp_pure (ys := ((rows[rows.length - 1 - i]).map (oth (n : Int))).map V.int) (wk_list (K := K) (SqL.of hc3)) hz (by simp) (fun j x y ex2 ey2 Q2 q2 => ?_) (fun D hD => q' D hD)
          rw [List.getElem?_map] at ex2 ey2
          rw [List.getElem?_map] at ey2
          cases er : (rows[rows.length - 1 - i])[j]? with
          | none => rw [er] at ex2; cases ex2
          | some z =>
            rw [er] at ex2 ey2
            cases ex2
            cases ey2
            exact ⟨_, rfl, _, rfl, _, _, rfl, q2⟩
        · have hl2 : as'.length = (rows.reverse.map fun r => r.map (oth (n : Int))).length := by rw [hlen', List.length_map]
          have hrl : (rows.reverse.map fun r => r.map (oth (n : Int))).length = rows.length := by simp
          have W2 : Wf (rows.reverse.map fun r => r.map (oth (n : Int))) := ⟨by omega, by omega, fun r hr => by
            rw [hrl]
            obtain ⟨r', hr', rfl⟩ := List.mem_map.mp hr
            exact rowok_oth (W.2.2 r' (List.mem_reverse.mp hr')) (by omega)⟩
        
          obtain ⟨CB, hD1⟩ := CH.bwd LK
          rw [hrn] at CB hD1
          obtain ⟨SB, rB⟩ := CB.round (s := s) (by simp; omega) hD1
          refine ⟨_, rfl, _, _, rfl, rfl, _, rfl, _, _, rfl, rfl, ?_⟩
          refine rest _ _ ⟨D, as', _, n - 1 - s, ?_, mat_of hl2 nd' s1' hrows' hD, W2, open_rev (CH.down LK) (fun r hr e he => by have := (W.2.2 r hr).2.2 e he; exact this) (by omega), by rw [hrl]; omega, SB, rB, same_upd (s04.trans s1') ((s04.trans s1').free hD)⟩
          have e5 : (n : Int) - 1 - (s : Int) = ((n - 1 - s : Nat) : Int) := by omega
          rw [← e5]
          rfl
      · obtain ⟨CF, hD1⟩ := CH.fwd LK
        obtain ⟨SF, rF⟩ := CF.round (s := s) hs hD1
        exact rest _ _ ⟨R, as, rows, s, rfl, M4, W, (CH.down LK).open, hs, SF, rF, s04⟩
    clear M4 M W CH hrow
    rintro σ' H5 ⟨Rn, an, rn, y, rfl, Mn, Wn, opn, hy, Sn, hrd, s05⟩
    have hln := Mn.reflen
    refine ⟨_, rfl, Rn, rfl, ⟨_, Mn.sq⟩, ?_⟩
    refine comp_news (ls := rn.map fun r => r.map V.int) (wk_list Mn.sq) (by rw [hln]; have := Wn.2.1; exact small12 (by omega)) (by rw [List.length_map, hln]) (fun i x l H6 ex el s6 Q' q' => ?_) (fun asC H6' s6 hlenC ndC frC hrowsC Cc hCc => ?_)
    · obtain ⟨c, hi', rfl, ec, hc, _⟩ := Mn.refs ex
      rw [List.getElem?_map, List.getElem?_eq_getElem hi'] at el
      cases el
      exact ⟨_, rfl, _, _, rfl, .inl (SqL.of (s6 _ _ hc)), q'⟩
    rw [List.length_map] at hlenC
    have MC := mat_of (H := H5) (R := Cc) hlenC ndC s6 hrowsC hCc
    have s6' : Same H5 (upd H6' Cc (.lst (asC.map V.ref))) := same_upd s6 (s6.free hCc)
    generalize upd H6' Cc (.lst (asC.map V.ref)) = H6 at MC s6'
    refine fun p2 dx2 hp2 hdx2 hne2 => ?_
    refine ⟨p2, dx2, Cc, asC, _, rfl, upd_same, MC.same (same_upd (same_new hdx2) hp2), Wn, fun aR2 as2 aT2 aL2 aS2 H7 B7 kp2 fr2 => ⟨rfl, ?_⟩⟩
    have s7 : Same H6 H7 := made_same hp2 hdx2 kp2
    have hyo : (0 : Int) ≤ (y : Int) ∧ (y : Int) < (rn.length : Int) := by omega
    have h12 := Wn.2.1
    refine ⟨_, rfl, _, rfl, p2, dx2, aR2, as2, aT2, aL2, aS2, _, (y : Int), rfl, B7, Wn, by omega, by omega, fun h0 => absurd hyo h0, fun _ ho => absurd (all_open opn) (by rw [show (reachL rn).all id = false from ho]; decide), fun _ _ => ⟨Sn, fun H8 s8 => ?_⟩⟩
    rw [Int.toNat_natCast]
    refine ⟨_, rfl, _, rfl, _, rfl, ?_⟩
    refine iteT ?_
    refine ⟨_, rfl, _, rfl, rfl, ?_⟩
    rw [decide_eq_true (show V.int ((roundN (newB rn).rows y : Nat) : Int) = V.int ((prodL (ls.take (s + 1)) : Nat) : Int) by show V.int ((roundN rn y : Nat) : Int) = _; rw [hrd])]
    exact q _ (((s05.trans s6').trans s7).trans s8)
theorem sc_law : FnScope ["script", "rows", "turns", "noughts", "one", "other", "boards", "first", "second", "third", "due", "counts", "board"] ["script"] (defScope s_law) := ⟨rfl, rfl, rfl, by decide +kernel, rfl, by decide +kernel, by decide +kernel⟩
theorem ok_law (T : Txt K mg A) (G_drawn : FnOk P w K mg base CX0 1 A.f_drawn A.fd_drawn ["script", "k", "many"] (spDrawn K)) (G_chain : FnOk P w K mg base CX0 6 A.f_chain A.fd_chain ["script"] (spChain K)) (G_rows_by : FnOk P w K mg base CX0 3 A.f_rows_by A.fd_rows_by ["script"] (spRowsT K)) (G_turns_by : FnOk P w K mg base CX0 2 A.f_turns_by A.fd_turns_by ["script", "rows"] (spTurns K)) (G_board : FnOk P w K mg base CX0 5 A.f_board A.fd_board ["rows", "turns", "loads"] (spBoard K A.C)) (G_run_all : FnOk P w K mg base CX0 7 A.f_run_all A.fd_run_all ["board", "sites"] (spAll A.C)) (G_load : FnOk P w K mg base (CX1 P w) 2 A.f_Bload A.fd_Bload ["self", "at", "many"] (spLoad A.C A.c_NoSite A.c_TooMany)) (G_stands : FnOk P w K mg base CX0 3 A.f_stands A.fd_stands ["board", "rows", "turns", "lying", "counts"] (spStands K A.C)) : FnOk P w K mg base CX0 10 A.f_law A.fd_law ["script"] (spLaw K) := by
  refine T.F_law.ok sc_law (fun vs H Q E h => ?_) (fun cdv A' outer s H vs Q E hr h => ?_)
  · obtain ⟨a, ns, rfl, _⟩ := h
    rfl
  · obtain ⟨a, ns, rfl, hS, hlen, q⟩ := h
    refine ⟨_, (pss_cons (ps_if (PW.pt (pw_and (pt_cmpR op_eq (pe_call G_drawn (hr.mono (by decide)) (by rfl) T.m__law_drawn T.k__law_drawn T.b__law_drawn .nil pass0 (pa_cons (pv 0) (pa_cons pe_int (pa_cons pe_int pa_nil)))) pe_int (nomark _)) (pw_and1 (pt_not (pt_val (pe_call G_chain (hr.mono (by decide)) (by rfl) T.m__law_chain T.k__law_chain T.b__law_chain .nil pass0 (pa_cons (pv 0) pa_nil)))))))
        (pss_one (ps_ret pe_bl))
        pss_nil)
      (pss_cons (ps_set (i := 1) sc_law.nd rfl (Or.inr rfl) (pe_call G_rows_by (hr.mono (by decide)) (by rfl) T.m__law_rows_by T.k__law_rows_by T.b__law_rows_by .nil pass0 (pa_cons (pv 0) pa_nil)))
      (pss_cons (ps_set (i := 2) sc_law.nd rfl (Or.inr rfl) (pe_call G_turns_by (hr.mono (by decide)) (by rfl) T.m__law_turns_by T.k__law_turns_by T.b__law_turns_by .nil pass0 (pa_cons (pv 0) (pa_cons (pv 1) pa_nil))))
      (pss_cons (ps_set (i := 3) sc_law.nd rfl (Or.inr rfl) (pe_comp (CompSc.of (N' := ["row"]) (ix := [none]) rfl (by kernel_rfl)) rfl rfl rfl rfl (pi_listK (K := K) rfl (pv 1)) (by exact fun _ _ _ _ _ => pf_nil) (by exact fun _ _ _ _ _ => pe_int) (fun _ => rfl)))
      (pss_cons (ps_set (i := 4) sc_law.nd rfl (Or.inl rfl) (pe_call G_drawn (hr.mono (by decide)) (by rfl) T.m__law_drawn T.k__law_drawn T.b__law_drawn .nil pass0 (pa_cons (pv 0) (pa_cons pe_int (pa_cons (pe_callB (call_lenK (K := K) rfl) (by rfl) T.n_len PySem.boot_len (pa_cons (pv 1) pa_nil)) pa_nil)))))
      (pss_cons (ps_set (i := 5) sc_law.nd rfl (Or.inl rfl) (pe_call G_drawn (hr.mono (by decide)) (by rfl) T.m__law_drawn T.k__law_drawn T.b__law_drawn .nil pass0 (pa_cons (pv 0) (pa_cons pe_int (pa_cons (pe_callB (call_lenK (K := K) rfl) (by rfl) T.n_len PySem.boot_len (pa_cons (pv 1) pa_nil)) pa_nil)))))
      (pss_cons (ps_setComp (i := 6) sc_law.nd rfl rfl (CompSc.of (N' := ["k", "rows", "turns", "noughts"]) (ix := [none, some 1, some 2, some 3]) rfl (by kernel_rfl)) rfl rfl rfl rfl (pi_range1 (by rfl) T.n_range (pa_cons pe_int pa_nil)) (by exact fun _ _ _ _ _ => pf_nil) (by exact fun _ _ _ _ _ => (pe_call G_board (hr.mono (by decide)) (by rfl) T.m__law_board T.k__law_board T.b__law_board .nil pass0 (pa_cons (pv 1) (pa_cons (pv 2) (pa_cons (pv 3) pa_nil))))))
      (pss_cons (ps_set (i := 7) sc_law.nd rfl (Or.inl rfl) (pe_call G_run_all (hr.mono (by decide)) (by rfl) T.m__law_run_all T.k__law_run_all T.b__law_run_all .nil pass0 (pa_cons (pe_ix (ix_listK (K := K) rfl) (pv 6) pe_int (fun _ _ => rfl)) (pa_cons (pe_lst (pa_cons (pv 4) (pa_cons (pv 5) pa_nil))) pa_nil))))
      (pss_cons (ps_set (i := 8) sc_law.nd rfl (Or.inl rfl) (pe_call G_run_all (hr.mono (by decide)) (by rfl) T.m__law_run_all T.k__law_run_all T.b__law_run_all .nil pass0 (pa_cons (pe_ix (ix_listK (K := K) rfl) (pv 6) pe_int (fun _ _ => rfl)) (pa_cons (pe_lst (pa_cons (pv 5) (pa_cons (pv 4) pa_nil))) pa_nil))))
      (pss_cons (ps_expr (pe_meth (pe_ix (ix_listK (K := K) rfl) (pv 6) pe_int (fun _ _ => rfl)) T.cl_Board T.mt_load G_load (hr.mono (by decide)) T.bm_load .nil passE0 (pa_cons (pv 4) (pa_cons pe_int pa_nil))))
      (pss_cons (ps_set (i := 9) sc_law.nd rfl (Or.inl rfl) (pe_call G_run_all (hr.mono (by decide)) (by rfl) T.m__law_run_all T.k__law_run_all T.b__law_run_all .nil pass0 (pa_cons (pe_ix (ix_listK (K := K) rfl) (pv 6) pe_int (fun _ _ => rfl)) (pa_cons (pe_lst (pa_cons (pv 5) pa_nil)) pa_nil))))
      (pss_cons (ps_if (PW.pt (pw_or (pt_cmpR op_lt (pv 7) pe_int (nomark _)) (pw_or (pt_cmpR op_ne (pv 7) (pv 8) (nomark _)) (pw_or1 (pt_cmpR op_ne (pv 7) (pv 9) (nomark _))))))
        (pss_one (ps_ret pe_bl))
        pss_nil)
      (pss_cons (ps_set (i := 10) sc_law.nd rfl (Or.inl rfl) (pe_callTy (call_listK (K := K) rfl) (by rfl) T.n_list PyProof.Rows.Boot.«list» (pa_cons (pe_fldK (K := K) rfl (pe_ix (ix_listK (K := K) rfl) (pv 6) pe_int (fun _ _ => rfl)) rfl) pa_nil)))
      (pss_cons (ps_set (i := 11) sc_law.nd rfl (Or.inl rfl) (pe_callTy (call_listK (K := K) rfl) (by rfl) T.n_list PyProof.Rows.Boot.«list» (pa_cons (pe_fldK (K := K) rfl (pe_ix (ix_listK (K := K) rfl) (pv 6) pe_int (fun _ _ => rfl)) rfl) pa_nil)))
      (pss_cons (ps_if (pt_cmpR op_ne (pe_callB (call_sumK (K := K) rfl rfl) (by rfl) T.n_sum PyProof.Rows.Boot.«sum» (pa_cons (pv 11) pa_nil)) (pv 7) (nomark _))
        (pss_one (ps_ret pe_bl))
        pss_nil)
      (pss_cons (ps_for PassesOwn.never rfl (pi_listK (K := K) rfl (pv 6)) (pg_name (i := 12) sc_law.nd rfl (Or.inl rfl))
        (pss_one (ps_if (pt_not (pt_val (pe_call G_stands (hr.mono (by decide)) (by rfl) T.m__law_stands T.k__law_stands T.b__law_stands .nil pass0 (pa_cons (pv 12) (pa_cons (pv 1) (pa_cons (pv 10) (pa_cons (pe_op op_cat (pv 3) (pe_lst (pa_cons pe_int pa_nil))) (pa_cons (pv 11) pa_nil))))))))
          (pss_one (ps_ret pe_bl))
          pss_nil)))
      (pss_one (ps_ret pe_bl)))))))))))))))))), ?_⟩
    refine seq_mk' (fun σ' H' => σ' = [some (.ref a), none, none, none, none, none, none, none, none, none, none, none, none] ∧ Same H H') ?rest (fun D1 rest => ?way)
    case way =>
      refine ⟨_, rfl, a, ns, 500, 3, rfl, hS, by decide, by decide, by decide, rfl, _, rfl, ?_⟩
      refine ite2 (fun _ => ?_) (fun _ => iteF (rest _ _ ⟨rfl, Same.refl _⟩))
      refine ⟨_, rfl, a, ns, rfl, hS, fun H1 s1 => ⟨_, rfl, ?_⟩⟩
      exact iteF (rest _ _ ⟨rfl, s1⟩)
    rintro σ' H0 ⟨rfl, s00⟩
    have hS := s00.seq hS
    refine ⟨_, rfl, a, ns, rfl, hS, fun R as rows H1 W op tm M s1 fr1 => ?_⟩
    have hl := M.reflen
    obtain ⟨w1, w12, wr⟩ := id W
    refine ⟨_, rfl, _, rfl, a, R, as, rows, ns, rfl, s1.seq hS, M, W, fun tA ts htA hts => ?_⟩
    have s2 : Same H1 (upd H1 tA (.lst (ts.map V.int))) := same_new htA
    have eT : upd H1 tA (.lst (ts.map V.int)) tA = some (.lst (ts.map V.int)) := upd_same
    generalize upd H1 tA (.lst (ts.map V.int)) = H2 at s2 eT
    have M2 := M.same s2
    have s02 := s1.trans s2
    refine ⟨_, rfl, R, rfl, ⟨_, M2.sq⟩, ?_⟩
    refine comp_pure (ys := (List.replicate rows.length (0 : Int)).map V.int) (wk_list (K := K) M2.sq) (by rw [hl]; exact small12 (le100 w12)) (by simp [M2.len]) (fun j x y ex ey Q' q' => ?_) (fun nA hnA => ?_)
    · rw [List.getElem?_map] at ey
      rw [List.getElem?_replicate] at ey
      split at ey
      · cases ey
        exact q'
      · cases ey
    have s3 : Same H2 (upd H2 nA (.lst ((List.replicate rows.length (0 : Int)).map V.int))) := same_new hnA
    have eN : upd H2 nA (.lst ((List.replicate rows.length (0 : Int)).map V.int)) nA = some (.lst ((List.replicate rows.length (0 : Int)).map V.int)) := upd_same
    generalize upd H2 nA (.lst ((List.replicate rows.length (0 : Int)).map V.int)) = H3 at s3 eN
    have M3 := M2.same s3
    have eT3 := s3 _ _ eT
    have s03 := s02.trans s3
    have d0 := drawn_nn ns 502 (many := (rows.length : Int)) (by omega)
    have d1 := drawn_lt ns 502 (many := (rows.length : Int)) (by omega)
    have f0 := drawn_nn ns 503 (many := (rows.length : Int)) (by omega)
    have f1 := drawn_lt ns 503 (many := (rows.length : Int)) (by omega)
    refine ⟨_, rfl, _, rfl, _, _, rfl, .inl M3.sq, a, ns, 502, _, rfl, s03.seq hS, by rw [hl]; omega, by decide, by decide, ?_⟩
    refine ⟨_, rfl, _, rfl, _, _, rfl, .inl M3.sq, a, ns, 503, _, rfl, s03.seq hS, by rw [hl]; omega, by decide, by decide, ?_⟩
    rw [hl]
    generalize drawn ns 502 (rows.length : Int) = z1 at d0 d1
    generalize drawn ns 503 (rows.length : Int) = z2 at f0 f1
    obtain ⟨i, rfl⟩ : ∃ i : Nat, z1 = (i : Int) := ⟨z1.toNat, by omega⟩
    obtain ⟨j, rfl⟩ : ∃ j : Nat, z2 = (j : Int) := ⟨z2.toNat, by omega⟩
    have hi : i < rows.length := by omega
    have hj : j < rows.length := by omega
    have hop : (reachL rows).all id = true := all_open op
    -- the boards
    refine ⟨_, rfl, by decide, by decide, ?_⟩
    refine comp_inv wk_range (fun k ys H4 => Same H3 H4 ∧ ∃ L : List Bo, ys = L.map (fun o => V.ref o.p) ∧ L.length = k ∧ (∀ o ∈ L, o.at A.C H4 (zB rows ts) ∧ ∀ x ∈ o.own, H3 x = none) ∧ L.Pairwise fun o u => ∀ x ∈ o.own, x ∉ u.own) ⟨Same.refl _, [], rfl, rfl, (fun _ z => by cases z), .nil⟩ (fun k ys H4 h => h.1) (fun k x ys H4 hx hP => ?_) (fun k ys H4 hk hP => ?_) (fun ys H4 hP gA hgA => ?_)
    · obtain ⟨s4, L, rfl, hL, hB, hd⟩ := hP
      unfold tYes
      dsimp only
      rw [if_pos rfl]
      refine ⟨_, rfl, _, rfl, _, rfl, R, tA, nA, as, rows, ts, List.replicate rows.length 0, rfl, M3.same s4, W, SqL.of (s4 _ _ eT3), SqL.of (s4 _ _ eN), hts, by simp, fun k hk => by rw [List.take_replicate, rep_sum0]; decide, fun p dx aR asB aT aL aS H5 B5 s5 fr5 => ?_⟩
      refine ⟨s4.trans s5, L ++ [⟨p, dx, aR, asB, aT, aL, aS⟩], by rw [List.map_append]; rfl, by rw [List.length_append, hL]; rfl, fun o ho => ?_, ?_⟩
      · rcases List.mem_append.mp ho with y | y
        · exact ⟨BoardAt.same (hB o y).1 s5, (hB o y).2⟩
        · rw [List.mem_singleton.mp y]
          exact ⟨B5, fun x hx => s4.free (fr5 x hx)⟩
      · rw [List.pairwise_append]
        refine ⟨hd, List.pairwise_singleton _ _, fun o ho u hu x hx hy => ?_⟩
        rw [List.mem_singleton.mp hu] at hy
        obtain ⟨v, e⟩ := Bo.ins (hB o ho).1 x hx
        rw [fr5 x hy] at e
        cases e
    · obtain ⟨s4, L, rfl, hL, _⟩ := hP
      have hk3 : k < 3 := by simpa using hk
      rw [List.length_map, hL]
      exact small1000 (by omega)
    obtain ⟨s4, L, rfl, hL, hB, hd⟩ := hP
    rw [List.length_map, List.length_range] at hL
    obtain ⟨o0, o1, o2, rfl⟩ : ∃ o0 o1 o2, L = [o0, o1, o2] := by
      match L, hL with
      | [a, b, c], _ => exact ⟨a, b, c, rfl⟩
    have B0 := (hB o0 (by simp)).1
    have B1 := (hB o1 (by simp)).1
    have B2 := (hB o2 (by simp)).1
    have n0 := (hB o0 (by simp)).2
    have n1 := (hB o1 (by simp)).2
    have n2 := (hB o2 (by simp)).2
    simp only [List.pairwise_cons, List.mem_cons, List.not_mem_nil, or_false] at hd
    have d01 := hd.1 o1 (.inl rfl)
    have d02 := hd.1 o2 (.inr rfl)
    have d12 := hd.2.1 o2 rfl
    clear hd hB hL
    have s5 : Same H4 (upd H4 gA (.lst ([o0, o1, o2].map fun o => V.ref o.p))) := same_new hgA
    have eG : (upd H4 gA (.lst ([o0, o1, o2].map fun o => V.ref o.p))) gA = some (.lst [V.ref o0.p, V.ref o1.p, V.ref o2.p]) := upd_same
    generalize upd H4 gA (.lst ([o0, o1, o2].map fun o => V.ref o.p)) = H5 at s5 eG
    have nG : ∀ o : Bo, o.at A.C H4 (zB rows ts) → gA ∉ o.own := fun o B z => by obtain ⟨v, e⟩ := Bo.ins B gA z; rw [hgA] at e; cases e
    have g0 := nG o0 B0
    have g1 := nG o1 B1
    have g2 := nG o2 B2
    replace B0 := BoardAt.same B0 s5
    replace B1 := BoardAt.same B1 s5
    replace B2 := BoardAt.same B2 s5
    have s35 := s4.trans s5
    have O := zB_ok W hts
    have hz20 : (zB rows ts).loads.sum ≤ 20 := by show (List.replicate rows.length (0 : Int)).sum ≤ 20; rw [rep_sum0]; decide
    -- what stood before the boards stays
    have out : ∀ o : Bo, (∀ x ∈ o.own, H3 x = none) → ∀ x v, H3 x = some v → x ∉ o.own := fun o hn x v e z => by rw [hn x z] at e; cases e
    have toZ2 : ∀ x y : Nat, (toZ [x, y]).map V.int = [V.int (x : Int), V.int (y : Int)] := fun _ _ => rfl
    dsimp only [gName]
    -- first
    refine ⟨_, rfl, _, _, _, _, rfl, rfl, SqL.of eG, at_list (n := 0) rfl rfl, _, rfl, _, rfl, small12 (by show 2 ≤ 100; decide), fun sA hsA => ?_⟩
    have s6 : Same H5 (upd H5 sA (.lst [V.int (i : Int), V.int (j : Int)])) := same_new hsA
    have eS : (upd H5 sA (.lst [V.int (i : Int), V.int (j : Int)])) sA = some (.lst ((toZ [i, j]).map V.int)) := upd_same
    generalize upd H5 sA (.lst [V.int (i : Int), V.int (j : Int)]) = H6 at s6 eS
    refine ⟨o0.p, o0.dx, o0.aR, o0.as, o0.aT, o0.aL, o0.aS, zB rows ts, sA, [i, j], rfl, BoardAt.same B0 s6, O, hop, tm, hz20, Nat.le_refl _, eS, (fun z => by obtain ⟨v, e⟩ := Bo.ins B0 sA z; rw [hsA] at e; cases e), (fun z hz => by simp only [List.mem_cons, List.not_mem_nil, or_false] at hz; rcases hz with rfl | rfl <;> assumption), fun m1 b1 u1 u2 u3 H7 RA1 B7 kp7 fr7 => ?_⟩
    have k57 : ∀ x y, x ∉ o0.own → H5 x = some y → H7 x = some y := fun x y hx e => kp7 x y hx (s6 _ _ e)
    have fr7' : ∀ x ∈ [u1, u2, u3], x ∈ o0.own ∨ H5 x = none := fun x hx => (fr7 x hx).imp id fun h => s6.free h
    have w7 := own_new fr7'
    have B1' := Bo.kept (u := o0) B1 k57 (fun x hx z => d01 x z hx)
    have B2' := Bo.kept (u := o0) B2 k57 (fun x hx z => d02 x z hx)
    have eG7 := k57 _ _ g0 eG
    clear kp7 fr7
    -- second
    refine ⟨_, rfl, _, _, _, _, rfl, rfl, SqL.of eG7, at_list (n := 1) rfl rfl, _, rfl, _, rfl, small12 (by show 2 ≤ 100; decide), fun tB htB => ?_⟩
    have s8 : Same H7 (upd H7 tB (.lst [V.int (j : Int), V.int (i : Int)])) := same_new htB
    have eS8 : (upd H7 tB (.lst [V.int (j : Int), V.int (i : Int)])) tB = some (.lst ((toZ [j, i]).map V.int)) := upd_same
    generalize upd H7 tB (.lst [V.int (j : Int), V.int (i : Int)]) = H8 at s8 eS8
    refine ⟨o1.p, o1.dx, o1.aR, o1.as, o1.aT, o1.aL, o1.aS, zB rows ts, tB, [j, i], rfl, BoardAt.same B1' s8, O, hop, tm, hz20, Nat.le_refl _, eS8, (fun z => by obtain ⟨v, e⟩ := Bo.ins B1' tB z; rw [htB] at e; cases e), (fun z hz => by simp only [List.mem_cons, List.not_mem_nil, or_false] at hz; rcases hz with rfl | rfl <;> assumption), fun m2 b2 v1 v2 v3 H9 RA2 B9 kp9 fr9 => ?_⟩
    have k79 : ∀ x y, x ∉ o1.own → H7 x = some y → H9 x = some y := fun x y hx e => kp9 x y hx (s8 _ _ e)
    have fr9' : ∀ x ∈ [v1, v2, v3], x ∈ o1.own ∨ H7 x = none := fun x hx => (fr9 x hx).imp id fun h => s8.free h
    have w9 := own_new fr9'
    have B2'' := Bo.kept (u := o1) B2' k79 (fun x hx z => d12 x z hx)
    have B0' : BoardAt A.C H9 o0.p o0.dx o0.aR o0.as u1 u2 u3 b1 := BoardAt.keep B7 fun c y hc e => k79 c y (fun z => by
      rcases w7 c hc with h | h
      · exact d01 c h z
      · obtain ⟨v, e2⟩ := Bo.ins B1 c z; rw [h] at e2; cases e2) e
    have eG9 := k79 _ _ g1 eG7
    clear kp9 fr9
    -- third
    have hii : (0 : Int) ≤ (i : Int) ∧ (i : Int) < ((zB rows ts).rows.length : Int) := ⟨by omega, by show (i : Int) < (rows.length : Int); omega⟩
    refine ⟨_, rfl, _, _, _, _, rfl, rfl, SqL.of eG9, at_list (n := 2) rfl rfl, o2.p, o2.dx, _, rfl, B2''.ob, (by rfl), _, rfl, o2.p, o2.dx, o2.aR, o2.as, o2.aT, o2.aL, o2.aS, zB rows ts, (i : Int), 1, rfl, B2'', O.L, by omega, by omega, fun h0 => absurd hii h0, fun _ h0 => absurd h0 (by omega), fun _ _ => ?_⟩
    rw [Int.toNat_natCast]
    have BA := BoardAt.setL B2'' ((zB rows ts).loads.set i ((zB rows ts).loads.getD i 0 + 1))
    have kA : ∀ x y, x ∉ o2.own → H9 x = some y → (upd H9 o2.aL (.lst (((zB rows ts).loads.set i ((zB rows ts).loads.getD i 0 + 1)).map V.int))) x = some y := fun x y hx e => by rw [upd_ne (fun z => hx (by rw [z]; unfold Bo.own ownB; simp))]; exact e
    have nA' : ∀ x, (upd H9 o2.aL (.lst (((zB rows ts).loads.set i ((zB rows ts).loads.getD i 0 + 1)).map V.int))) x = none → H9 x = none := fun x hx => by
      by_cases e : x = o2.aL
      · rw [e, upd_same] at hx; cases hx
      · rw [upd_ne e] at hx; exact hx
    generalize upd H9 o2.aL (.lst (((zB rows ts).loads.set i ((zB rows ts).loads.getD i 0 + 1)).map V.int)) = HA at BA kA nA'
    have eGA := kA _ _ g2 eG9
    refine ⟨_, rfl, _, _, _, _, rfl, rfl, SqL.of eGA, at_list (n := 2) rfl rfl, _, rfl, small12 (by show 1 ≤ 100; decide), fun rB hrB => ?_⟩
    have sB : Same HA (upd HA rB (.lst [V.int (j : Int)])) := same_new hrB
    have eSB : (upd HA rB (.lst [V.int (j : Int)])) rB = some (.lst ((toZ [j]).map V.int)) := upd_same
    generalize upd HA rB (.lst [V.int (j : Int)]) = HB at sB eSB
    have OL : BrdOk (ldB (zB rows ts) i) := withL_ok O (by rw [List.length_set]; exact O.L) (set_nn O.P (by have := O.P i; omega))
    have hl20 : (ldB (zB rows ts) i).loads.sum ≤ 20 := by
      show ((List.replicate rows.length (0 : Int)).set i ((List.replicate rows.length (0 : Int)).getD i 0 + 1)).sum ≤ 20
      rw [sum_set (by rw [List.length_replicate]; exact hi), rep_sum0, rep_get]
      decide
    refine ⟨o2.p, o2.dx, o2.aR, o2.as, o2.aT, o2.aL, o2.aS, ldB (zB rows ts) i, rB, [j], rfl, BoardAt.same BA sB, OL, hop, tm, hl20, Nat.le_succ _, eSB, (fun z => by obtain ⟨v, e⟩ := board_in BA rB z; rw [hrB] at e; cases e), (fun z hz => by rw [List.mem_singleton.mp hz]; exact hj), fun m3 b3 y1 y2 y3 HC RA3 BC kpC frC => ?_⟩
    have k9C : ∀ x y, x ∉ o2.own → H9 x = some y → HC x = some y := fun x y hx e => kpC x y hx (sB _ _ (kA x y hx e))
    obtain ⟨em1, em2, eb1, eb2, O3, r3, z3, t3, st3⟩ := exch22 W hts hi hj RA1 RA2 RA3
    subst em1 em2 eb1 eb2
    have B0C : BoardAt A.C HC o0.p o0.dx o0.aR o0.as u1 u2 u3 b2 := BoardAt.keep B0' fun c y hc e => k9C c y (fun z => by
      rcases w7 c hc with h | h
      · exact d02 c h z
      · obtain ⟨v, e2⟩ := Bo.ins B2 c z; rw [h] at e2; cases e2) e
    have B1C : BoardAt A.C HC o1.p o1.dx o1.aR o1.as v1 v2 v3 b2 := BoardAt.keep B9 fun c y hc e => k9C c y (fun z => by
      rcases w9 c hc with h | h
      · exact d12 c h z
      · obtain ⟨v, e2⟩ := Bo.ins B2' c z; rw [h] at e2; cases e2) e
    have eGC := k9C _ _ g2 eG9
    -- what was there before
    have k3C : Same H3 HC := fun x y e => k9C x y (out o2 n2 x y e) (k79 x y (out o1 n1 x y e) (k57 x y (out o0 n0 x y e) (s35 _ _ e)))
    clear kpC frC RA1 RA2 RA3 B7 B9 BA B0' B1' B2' B2''
    refine ⟨_, rfl, _, _, rfl, rfl, _, rfl, ?_⟩
    rw [decide_eq_false (show ¬ ((m2 : Nat) : Int) < 0 by omega)]
    refine iteF ?_
    refine ⟨_, rfl, _, rfl, rfl, _, rfl, ?_⟩
    refine iteNS rfl ?_
    refine ⟨_, rfl, _, rfl, rfl, _, rfl, ?_⟩
    refine iteNS rfl ?_
    -- due, counts
    refine ⟨_, rfl, _, _, _, _, rfl, rfl, SqL.of eGC, at_list (n := 0) rfl rfl, o0.p, A.C, o0.dx, _, _, rfl, B0C.ob, T.cl_Board, T.na_turns, bf_turns _ _ _ _ _, _, _, rfl, .inl (SqL.of B0C.hT), fun dA hdA => ?_⟩
    have sD : Same HC (upd HC dA (.lst (b2.turns.map V.int))) := same_new hdA
    have eD : (upd HC dA (.lst (b2.turns.map V.int))) dA = some (.lst (b2.turns.map V.int)) := upd_same
    generalize upd HC dA (.lst (b2.turns.map V.int)) = HD at sD eD
    have B0D := BoardAt.same B0C sD
    refine ⟨_, rfl, _, _, _, _, rfl, rfl, SqL.of (sD _ _ eGC), at_list (n := 0) rfl rfl, o0.p, A.C, o0.dx, _, _, rfl, B0D.ob, T.cl_Board, T.na_steps, bf_steps _ _ _ _ _, _, _, rfl, .inl (SqL.of B0D.hS), fun cA hcA => ?_⟩
    have sE : Same HD (upd HD cA (.lst (b2.steps.map V.int))) := same_new hcA
    have eC : (upd HD cA (.lst (b2.steps.map V.int))) cA = some (.lst (b2.steps.map V.int)) := upd_same
    generalize upd HD cA (.lst (b2.steps.map V.int)) = HE at sE eC
    have sCE := sD.trans sE
    have eGE := sCE _ _ eGC
    refine ⟨_, rfl, _, _, rfl, SqL.of eC, _, rfl, rfl, _, rfl, ?_⟩
    refine iteNS (by rw [st3]) ?_
    have eDE := sE _ _ eD
    have k3E := k3C.trans sCE
    have hbr : b2.rows = rows := r3
    have eY0 : (List.replicate rows.length (0 : Int)).map V.int ++ [V.int 2] = (b2.loads ++ [b2.taken]).map V.int := by rw [z3, t3, List.map_append]; rfl
    refine ⟨_, rfl, gA, rfl, ⟨_, SqL.of eGE⟩, for_list (K := K) (a := gA) (xs := [V.ref o0.p, V.ref o1.p, V.ref o2.p]) (fun _ σ HF => ∃ x12 : Option V, σ = [some (.ref a), some (.ref R), some (.ref tA), some (.ref nA), some (.int (i : Int)), some (.int (j : Int)), some (.ref gA), some (.int (m2 : Int)), some (.int (m2 : Int)), some (.int (m2 : Int)), some (.ref dA), some (.ref cA), x12] ∧ Same HE HF) ⟨none, rfl, Same.refl _⟩ (fun _ σ HF _ ⟨_, _, s⟩ => SqL.of (s _ _ eGE)) ?_ (fun σ HF _ => q HF)⟩
    rintro n x σ HF ex ⟨x12, rfl, sF⟩
    have key : ∀ (p dx aR aT aL aS : Addr) (asB : List Addr), BoardAt A.C HC p dx aR asB aT aL aS b2 → x = V.ref p → True := fun _ _ _ _ _ _ _ _ _ => trivial
    obtain ⟨p, dx, aR, aT, aL, aS, asB, BX, rfl⟩ : ∃ (p dx aR aT aL aS : Addr) (asB : List Addr), BoardAt A.C HC p dx aR asB aT aL aS b2 ∧ x = V.ref p := by
      match n, ex with
      | 0, ex => cases ex; exact ⟨_, _, _, _, _, _, _, B0C, rfl⟩
      | 1, ex => cases ex; exact ⟨_, _, _, _, _, _, _, B1C, rfl⟩
      | 2, ex => cases ex; exact ⟨_, _, _, _, _, _, _, BC, rfl⟩
      | n + 3, ex => simp at ex
    have eNF := (k3E.trans sF) _ _ eN
    refine ⟨_, rfl, _, rfl, _, rfl, _, rfl, small12 (by show 1 ≤ 100; decide), fun l3 hl3 => ⟨_, l3, _, _, rfl, rfl, same_new hl3 _ _ eNF, upd_same, small12 (by simp; omega), fun yA hyA => ⟨_, rfl, ?_⟩⟩⟩
    rw [eY0]
    have s9 := same_upd (same_new hl3 (o := .lst [V.int 2])) ((same_new hl3).free hyA) (o := .lst ((b2.loads ++ [b2.taken]).map V.int))
    have eY : (upd (upd HF l3 (.lst [V.int 2])) yA (.lst ((b2.loads ++ [b2.taken]).map V.int))) yA = some (.lst ((b2.loads ++ [b2.taken]).map V.int)) := upd_same
    generalize upd (upd HF l3 (.lst [V.int 2])) yA (.lst ((b2.loads ++ [b2.taken]).map V.int)) = HG at s9 eY
    have sG := sF.trans s9
    have MG : Mat HG R as b2.rows := by rw [hbr]; exact M3.same (k3E.trans sG)
    refine ⟨p, dx, aR, asB, aT, aL, aS, b2, R, as, dA, yA, cA, rfl, BoardAt.same BX (sCE.trans sG), MG, SqL.of (sG _ _ eDE), SqL.of eY, SqL.of (sG _ _ eC), O3.b1, O3.b2, O3.b3, O3.b4, O3.b5, fun HI sI => ⟨_, rfl, ?_⟩⟩
    refine iteF ?_
    exact ⟨_, rfl, sG.trans sI⟩
end

theorem all_mk {l : PySem.W.OpenLaw} {w : World} {K : PySem.W.Frag} {h : Heap} {mg : Str → Option Value} {fa : Addr} (X : K.In h) (G : h.Ns mainGlobals mg) (hfa : mg "law" = some (.ref fa))
    {C : Addr}
    {f_check_rows : Addr} {od_check_rows an_check_rows : Option Addr} {sl_check_rows : Array (Option Value)} {oc_check_rows kV_check_rows dc_check_rows pm_check_rows cd_check_rows ct_check_rows : Value}
    {f_check_row : Addr} {od_check_row an_check_row : Option Addr} {sl_check_row : Array (Option Value)} {oc_check_row kV_check_row dc_check_row pm_check_row cd_check_row ct_check_row : Value}
    {f_check_site : Addr} {od_check_site an_check_site : Option Addr} {sl_check_site : Array (Option Value)} {oc_check_site kV_check_site dc_check_site pm_check_site cd_check_site ct_check_site : Value}
    {f_Binit : Addr} {od_Binit an_Binit : Option Addr} {sl_Binit : Array (Option Value)} {oc_Binit kV_Binit dc_Binit pm_Binit cd_Binit ct_Binit : Value}
    {f_Bturn_to : Addr} {od_Bturn_to an_Bturn_to : Option Addr} {sl_Bturn_to : Array (Option Value)} {oc_Bturn_to kV_Bturn_to dc_Bturn_to pm_Bturn_to cd_Bturn_to ct_Bturn_to : Value}
    {f_Bload : Addr} {od_Bload an_Bload : Option Addr} {sl_Bload : Array (Option Value)} {oc_Bload kV_Bload dc_Bload pm_Bload cd_Bload ct_Bload : Value}
    {f_Btwin : Addr} {od_Btwin an_Btwin : Option Addr} {sl_Btwin : Array (Option Value)} {oc_Btwin kV_Btwin dc_Btwin pm_Btwin cd_Btwin ct_Btwin : Value}
    {f_Bstand_like : Addr} {od_Bstand_like an_Bstand_like : Option Addr} {sl_Bstand_like : Array (Option Value)} {oc_Bstand_like kV_Bstand_like dc_Bstand_like pm_Bstand_like cd_Bstand_like ct_Bstand_like : Value}
    {f_reached : Addr} {od_reached an_reached : Option Addr} {sl_reached : Array (Option Value)} {oc_reached kV_reached dc_reached pm_reached cd_reached ct_reached : Value}
    {f_is_open : Addr} {od_is_open an_is_open : Option Addr} {sl_is_open : Array (Option Value)} {oc_is_open kV_is_open dc_is_open pm_is_open cd_is_open ct_is_open : Value}
    {f_check_open : Addr} {od_check_open an_check_open : Option Addr} {sl_check_open : Array (Option Value)} {oc_check_open kV_check_open dc_check_open pm_check_open cd_check_open ct_check_open : Value}
    {f_step : Addr} {od_step an_step : Option Addr} {sl_step : Array (Option Value)} {oc_step kV_step dc_step pm_step cd_step ct_step : Value}
    {f_loaded : Addr} {od_loaded an_loaded : Option Addr} {sl_loaded : Array (Option Value)} {oc_loaded kV_loaded dc_loaded pm_loaded cd_loaded ct_loaded : Value}
    {f_run : Addr} {od_run an_run : Option Addr} {sl_run : Array (Option Value)} {oc_run kV_run dc_run pm_run cd_run ct_run : Value}
    {f_grid : Addr} {od_grid an_grid : Option Addr} {sl_grid : Array (Option Value)} {oc_grid kV_grid dc_grid pm_grid cd_grid ct_grid : Value}
    {f_grid_row : Addr} {od_grid_row an_grid_row : Option Addr} {sl_grid_row : Array (Option Value)} {oc_grid_row kV_grid_row dc_grid_row pm_grid_row cd_grid_row ct_grid_row : Value}
    {f_det : Addr} {od_det an_det : Option Addr} {sl_det : Array (Option Value)} {oc_det kV_det dc_det pm_det cd_det ct_det : Value}
    {f_cleared : Addr} {od_cleared an_cleared : Option Addr} {sl_cleared : Array (Option Value)} {oc_cleared kV_cleared dc_cleared pm_cleared cd_cleared ct_cleared : Value}
    {f_round_of : Addr} {od_round_of an_round_of : Option Addr} {sl_round_of : Array (Option Value)} {oc_round_of kV_round_of dc_round_of pm_round_of cd_round_of ct_round_of : Value}
    {f_with_mark : Addr} {od_with_mark an_with_mark : Option Addr} {sl_with_mark : Array (Option Value)} {oc_with_mark kV_with_mark dc_with_mark pm_with_mark cd_with_mark ct_with_mark : Value}
    {f_greatest_divisor : Addr} {od_greatest_divisor an_greatest_divisor : Option Addr} {sl_greatest_divisor : Array (Option Value)} {oc_greatest_divisor kV_greatest_divisor dc_greatest_divisor pm_greatest_divisor cd_greatest_divisor ct_greatest_divisor : Value}
    {f_drawn : Addr} {od_drawn an_drawn : Option Addr} {sl_drawn : Array (Option Value)} {oc_drawn kV_drawn dc_drawn pm_drawn cd_drawn ct_drawn : Value}
    {f_other : Addr} {od_other an_other : Option Addr} {sl_other : Array (Option Value)} {oc_other kV_other dc_other pm_other cd_other ct_other : Value}
    {f_rows_by : Addr} {od_rows_by an_rows_by : Option Addr} {sl_rows_by : Array (Option Value)} {oc_rows_by kV_rows_by dc_rows_by pm_rows_by cd_rows_by ct_rows_by : Value}
    {f_turns_by : Addr} {od_turns_by an_turns_by : Option Addr} {sl_turns_by : Array (Option Value)} {oc_turns_by kV_turns_by dc_turns_by pm_turns_by cd_turns_by ct_turns_by : Value}
    {f_board : Addr} {od_board an_board : Option Addr} {sl_board : Array (Option Value)} {oc_board kV_board dc_board pm_board cd_board ct_board : Value}
    {f_whole : Addr} {od_whole an_whole : Option Addr} {sl_whole : Array (Option Value)} {oc_whole kV_whole dc_whole pm_whole cd_whole ct_whole : Value}
    {f_row : Addr} {od_row an_row : Option Addr} {sl_row : Array (Option Value)} {oc_row kV_row dc_row pm_row cd_row ct_row : Value}
    {f_stands : Addr} {od_stands an_stands : Option Addr} {sl_stands : Array (Option Value)} {oc_stands kV_stands dc_stands pm_stands cd_stands ct_stands : Value}
    {f_run_all : Addr} {od_run_all an_run_all : Option Addr} {sl_run_all : Array (Option Value)} {oc_run_all kV_run_all dc_run_all pm_run_all cd_run_all ct_run_all : Value}
    {f_chain : Addr} {od_chain an_chain : Option Addr} {sl_chain : Array (Option Value)} {oc_chain kV_chain dc_chain pm_chain cd_chain ct_chain : Value}
    {f_law : Addr} {od_law an_law : Option Addr} {sl_law : Array (Option Value)} {oc_law kV_law dc_law pm_law cd_law ct_law : Value}
    {t_PIT : Tok}
    {t_MOST_SITES : Tok}
    {t_MOST_EXITS : Tok}
    {t_MOST_MARBLES : Tok}
    {c_NoSite : Addr}
    {c_NoPlace : Addr}
    {c_TooMany : Addr}
    {c_NoMarble : Addr}
    {c_NotOpen : Addr}
    {c_TooLong : Addr}
    (aC : PySem.W.nsIn K mainGlobals "Board" = some (some (.ref C)))
    (a_check_rows : PySem.W.nsIn K mainGlobals "check_rows" = some (some (.ref f_check_rows)))
    (l_check_rows : K.lookup f_check_rows = some ⟨oc_check_rows, od_check_rows, .func (PySem.W.fnOf "check_rows" "check_rows" (defArgs s_check_rows) (defBody s_check_rows) (defScope s_check_rows) .none kV_check_rows dc_check_rows pm_check_rows an_check_rows cd_check_rows ct_check_rows), sl_check_rows⟩) (c_check_rows : PySem.W.codeIn K cd_check_rows "check_rows" = true) (k_check_rows : PySem.W.keepIn K (.ref f_check_rows) = true)
    (a_check_row : PySem.W.nsIn K mainGlobals "check_row" = some (some (.ref f_check_row)))
    (l_check_row : K.lookup f_check_row = some ⟨oc_check_row, od_check_row, .func (PySem.W.fnOf "check_row" "check_row" (defArgs s_check_row) (defBody s_check_row) (defScope s_check_row) .none kV_check_row dc_check_row pm_check_row an_check_row cd_check_row ct_check_row), sl_check_row⟩) (c_check_row : PySem.W.codeIn K cd_check_row "check_row" = true) (k_check_row : PySem.W.keepIn K (.ref f_check_row) = true)
    (a_check_site : PySem.W.nsIn K mainGlobals "check_site" = some (some (.ref f_check_site)))
    (l_check_site : K.lookup f_check_site = some ⟨oc_check_site, od_check_site, .func (PySem.W.fnOf "check_site" "check_site" (defArgs s_check_site) (defBody s_check_site) (defScope s_check_site) .none kV_check_site dc_check_site pm_check_site an_check_site cd_check_site ct_check_site), sl_check_site⟩) (c_check_site : PySem.W.codeIn K cd_check_site "check_site" = true) (k_check_site : PySem.W.keepIn K (.ref f_check_site) = true)
    (a_Binit : PySem.W.findIn K (.ref C) "__init__" = some (some (.ref f_Binit))) (i_Binit : PySem.W.isFn K (.ref f_Binit) = true)
    (l_Binit : K.lookup f_Binit = some ⟨oc_Binit, od_Binit, .func (PySem.W.fnOf "__init__" "Board.__init__" (defArgs s_Binit) (defBody s_Binit) (defScope s_Binit) .none kV_Binit dc_Binit pm_Binit an_Binit cd_Binit ct_Binit), sl_Binit⟩) (c_Binit : PySem.W.codeIn K cd_Binit "Board.__init__" = true) (k_Binit : PySem.W.keepIn K (.ref f_Binit) = true)
    (a_Bturn_to : PySem.W.findIn K (.ref C) "turn_to" = some (some (.ref f_Bturn_to))) (i_Bturn_to : PySem.W.isFn K (.ref f_Bturn_to) = true)
    (l_Bturn_to : K.lookup f_Bturn_to = some ⟨oc_Bturn_to, od_Bturn_to, .func (PySem.W.fnOf "turn_to" "Board.turn_to" (defArgs s_Bturn_to) (defBody s_Bturn_to) (defScope s_Bturn_to) .none kV_Bturn_to dc_Bturn_to pm_Bturn_to an_Bturn_to cd_Bturn_to ct_Bturn_to), sl_Bturn_to⟩) (c_Bturn_to : PySem.W.codeIn K cd_Bturn_to "Board.turn_to" = true) (k_Bturn_to : PySem.W.keepIn K (.ref f_Bturn_to) = true)
    (a_Bload : PySem.W.findIn K (.ref C) "load" = some (some (.ref f_Bload))) (i_Bload : PySem.W.isFn K (.ref f_Bload) = true)
    (l_Bload : K.lookup f_Bload = some ⟨oc_Bload, od_Bload, .func (PySem.W.fnOf "load" "Board.load" (defArgs s_Bload) (defBody s_Bload) (defScope s_Bload) .none kV_Bload dc_Bload pm_Bload an_Bload cd_Bload ct_Bload), sl_Bload⟩) (c_Bload : PySem.W.codeIn K cd_Bload "Board.load" = true) (k_Bload : PySem.W.keepIn K (.ref f_Bload) = true)
    (a_Btwin : PySem.W.findIn K (.ref C) "twin" = some (some (.ref f_Btwin))) (i_Btwin : PySem.W.isFn K (.ref f_Btwin) = true)
    (l_Btwin : K.lookup f_Btwin = some ⟨oc_Btwin, od_Btwin, .func (PySem.W.fnOf "twin" "Board.twin" (defArgs s_Btwin) (defBody s_Btwin) (defScope s_Btwin) .none kV_Btwin dc_Btwin pm_Btwin an_Btwin cd_Btwin ct_Btwin), sl_Btwin⟩) (c_Btwin : PySem.W.codeIn K cd_Btwin "Board.twin" = true) (k_Btwin : PySem.W.keepIn K (.ref f_Btwin) = true)
    (a_Bstand_like : PySem.W.findIn K (.ref C) "stand_like" = some (some (.ref f_Bstand_like))) (i_Bstand_like : PySem.W.isFn K (.ref f_Bstand_like) = true)
    (l_Bstand_like : K.lookup f_Bstand_like = some ⟨oc_Bstand_like, od_Bstand_like, .func (PySem.W.fnOf "stand_like" "Board.stand_like" (defArgs s_Bstand_like) (defBody s_Bstand_like) (defScope s_Bstand_like) .none kV_Bstand_like dc_Bstand_like pm_Bstand_like an_Bstand_like cd_Bstand_like ct_Bstand_like), sl_Bstand_like⟩) (c_Bstand_like : PySem.W.codeIn K cd_Bstand_like "Board.stand_like" = true) (k_Bstand_like : PySem.W.keepIn K (.ref f_Bstand_like) = true)
    (a_reached : PySem.W.nsIn K mainGlobals "reached" = some (some (.ref f_reached)))
    (l_reached : K.lookup f_reached = some ⟨oc_reached, od_reached, .func (PySem.W.fnOf "reached" "reached" (defArgs s_reached) (defBody s_reached) (defScope s_reached) .none kV_reached dc_reached pm_reached an_reached cd_reached ct_reached), sl_reached⟩) (c_reached : PySem.W.codeIn K cd_reached "reached" = true) (k_reached : PySem.W.keepIn K (.ref f_reached) = true)
    (a_is_open : PySem.W.nsIn K mainGlobals "is_open" = some (some (.ref f_is_open)))
    (l_is_open : K.lookup f_is_open = some ⟨oc_is_open, od_is_open, .func (PySem.W.fnOf "is_open" "is_open" (defArgs s_is_open) (defBody s_is_open) (defScope s_is_open) .none kV_is_open dc_is_open pm_is_open an_is_open cd_is_open ct_is_open), sl_is_open⟩) (c_is_open : PySem.W.codeIn K cd_is_open "is_open" = true) (k_is_open : PySem.W.keepIn K (.ref f_is_open) = true)
    (a_check_open : PySem.W.nsIn K mainGlobals "check_open" = some (some (.ref f_check_open)))
    (l_check_open : K.lookup f_check_open = some ⟨oc_check_open, od_check_open, .func (PySem.W.fnOf "check_open" "check_open" (defArgs s_check_open) (defBody s_check_open) (defScope s_check_open) .none kV_check_open dc_check_open pm_check_open an_check_open cd_check_open ct_check_open), sl_check_open⟩) (c_check_open : PySem.W.codeIn K cd_check_open "check_open" = true) (k_check_open : PySem.W.keepIn K (.ref f_check_open) = true)
    (a_step : PySem.W.nsIn K mainGlobals "step" = some (some (.ref f_step)))
    (l_step : K.lookup f_step = some ⟨oc_step, od_step, .func (PySem.W.fnOf "step" "step" (defArgs s_step) (defBody s_step) (defScope s_step) .none kV_step dc_step pm_step an_step cd_step ct_step), sl_step⟩) (c_step : PySem.W.codeIn K cd_step "step" = true) (k_step : PySem.W.keepIn K (.ref f_step) = true)
    (a_loaded : PySem.W.nsIn K mainGlobals "loaded" = some (some (.ref f_loaded)))
    (l_loaded : K.lookup f_loaded = some ⟨oc_loaded, od_loaded, .func (PySem.W.fnOf "loaded" "loaded" (defArgs s_loaded) (defBody s_loaded) (defScope s_loaded) .none kV_loaded dc_loaded pm_loaded an_loaded cd_loaded ct_loaded), sl_loaded⟩) (c_loaded : PySem.W.codeIn K cd_loaded "loaded" = true) (k_loaded : PySem.W.keepIn K (.ref f_loaded) = true)
    (a_run : PySem.W.nsIn K mainGlobals "run" = some (some (.ref f_run)))
    (l_run : K.lookup f_run = some ⟨oc_run, od_run, .func (PySem.W.fnOf "run" "run" (defArgs s_run) (defBody s_run) (defScope s_run) .none kV_run dc_run pm_run an_run cd_run ct_run), sl_run⟩) (c_run : PySem.W.codeIn K cd_run "run" = true) (k_run : PySem.W.keepIn K (.ref f_run) = true)
    (a_grid : PySem.W.nsIn K mainGlobals "grid" = some (some (.ref f_grid)))
    (l_grid : K.lookup f_grid = some ⟨oc_grid, od_grid, .func (PySem.W.fnOf "grid" "grid" (defArgs s_grid) (defBody s_grid) (defScope s_grid) .none kV_grid dc_grid pm_grid an_grid cd_grid ct_grid), sl_grid⟩) (c_grid : PySem.W.codeIn K cd_grid "grid" = true) (k_grid : PySem.W.keepIn K (.ref f_grid) = true)
    (a_grid_row : PySem.W.nsIn K mainGlobals "grid_row" = some (some (.ref f_grid_row)))
    (l_grid_row : K.lookup f_grid_row = some ⟨oc_grid_row, od_grid_row, .func (PySem.W.fnOf "grid_row" "grid_row" (defArgs s_grid_row) (defBody s_grid_row) (defScope s_grid_row) .none kV_grid_row dc_grid_row pm_grid_row an_grid_row cd_grid_row ct_grid_row), sl_grid_row⟩) (c_grid_row : PySem.W.codeIn K cd_grid_row "grid_row" = true) (k_grid_row : PySem.W.keepIn K (.ref f_grid_row) = true)
    (a_det : PySem.W.nsIn K mainGlobals "det" = some (some (.ref f_det)))
    (l_det : K.lookup f_det = some ⟨oc_det, od_det, .func (PySem.W.fnOf "det" "det" (defArgs s_det) (defBody s_det) (defScope s_det) .none kV_det dc_det pm_det an_det cd_det ct_det), sl_det⟩) (c_det : PySem.W.codeIn K cd_det "det" = true) (k_det : PySem.W.keepIn K (.ref f_det) = true)
    (a_cleared : PySem.W.nsIn K mainGlobals "cleared" = some (some (.ref f_cleared)))
    (l_cleared : K.lookup f_cleared = some ⟨oc_cleared, od_cleared, .func (PySem.W.fnOf "cleared" "cleared" (defArgs s_cleared) (defBody s_cleared) (defScope s_cleared) .none kV_cleared dc_cleared pm_cleared an_cleared cd_cleared ct_cleared), sl_cleared⟩) (c_cleared : PySem.W.codeIn K cd_cleared "cleared" = true) (k_cleared : PySem.W.keepIn K (.ref f_cleared) = true)
    (a_round_of : PySem.W.nsIn K mainGlobals "round_of" = some (some (.ref f_round_of)))
    (l_round_of : K.lookup f_round_of = some ⟨oc_round_of, od_round_of, .func (PySem.W.fnOf "round_of" "round_of" (defArgs s_round_of) (defBody s_round_of) (defScope s_round_of) .none kV_round_of dc_round_of pm_round_of an_round_of cd_round_of ct_round_of), sl_round_of⟩) (c_round_of : PySem.W.codeIn K cd_round_of "round_of" = true) (k_round_of : PySem.W.keepIn K (.ref f_round_of) = true)
    (a_with_mark : PySem.W.nsIn K mainGlobals "with_mark" = some (some (.ref f_with_mark)))
    (l_with_mark : K.lookup f_with_mark = some ⟨oc_with_mark, od_with_mark, .func (PySem.W.fnOf "with_mark" "with_mark" (defArgs s_with_mark) (defBody s_with_mark) (defScope s_with_mark) .none kV_with_mark dc_with_mark pm_with_mark an_with_mark cd_with_mark ct_with_mark), sl_with_mark⟩) (c_with_mark : PySem.W.codeIn K cd_with_mark "with_mark" = true) (k_with_mark : PySem.W.keepIn K (.ref f_with_mark) = true)
    (a_greatest_divisor : PySem.W.nsIn K mainGlobals "greatest_divisor" = some (some (.ref f_greatest_divisor)))
    (l_greatest_divisor : K.lookup f_greatest_divisor = some ⟨oc_greatest_divisor, od_greatest_divisor, .func (PySem.W.fnOf "greatest_divisor" "greatest_divisor" (defArgs s_greatest_divisor) (defBody s_greatest_divisor) (defScope s_greatest_divisor) .none kV_greatest_divisor dc_greatest_divisor pm_greatest_divisor an_greatest_divisor cd_greatest_divisor ct_greatest_divisor), sl_greatest_divisor⟩) (c_greatest_divisor : PySem.W.codeIn K cd_greatest_divisor "greatest_divisor" = true) (k_greatest_divisor : PySem.W.keepIn K (.ref f_greatest_divisor) = true)
    (a_drawn : PySem.W.nsIn K mainGlobals "_law_drawn" = some (some (.ref f_drawn)))
    (l_drawn : K.lookup f_drawn = some ⟨oc_drawn, od_drawn, .func (PySem.W.fnOf "_law_drawn" "_law_drawn" (defArgs s_drawn) (defBody s_drawn) (defScope s_drawn) .none kV_drawn dc_drawn pm_drawn an_drawn cd_drawn ct_drawn), sl_drawn⟩) (c_drawn : PySem.W.codeIn K cd_drawn "_law_drawn" = true) (k_drawn : PySem.W.keepIn K (.ref f_drawn) = true)
    (a_other : PySem.W.nsIn K mainGlobals "_law_other" = some (some (.ref f_other)))
    (l_other : K.lookup f_other = some ⟨oc_other, od_other, .func (PySem.W.fnOf "_law_other" "_law_other" (defArgs s_other) (defBody s_other) (defScope s_other) .none kV_other dc_other pm_other an_other cd_other ct_other), sl_other⟩) (c_other : PySem.W.codeIn K cd_other "_law_other" = true) (k_other : PySem.W.keepIn K (.ref f_other) = true)
    (a_rows_by : PySem.W.nsIn K mainGlobals "_law_rows_by" = some (some (.ref f_rows_by)))
    (l_rows_by : K.lookup f_rows_by = some ⟨oc_rows_by, od_rows_by, .func (PySem.W.fnOf "_law_rows_by" "_law_rows_by" (defArgs s_rows_by) (defBody s_rows_by) (defScope s_rows_by) .none kV_rows_by dc_rows_by pm_rows_by an_rows_by cd_rows_by ct_rows_by), sl_rows_by⟩) (c_rows_by : PySem.W.codeIn K cd_rows_by "_law_rows_by" = true) (k_rows_by : PySem.W.keepIn K (.ref f_rows_by) = true)
    (a_turns_by : PySem.W.nsIn K mainGlobals "_law_turns_by" = some (some (.ref f_turns_by)))
    (l_turns_by : K.lookup f_turns_by = some ⟨oc_turns_by, od_turns_by, .func (PySem.W.fnOf "_law_turns_by" "_law_turns_by" (defArgs s_turns_by) (defBody s_turns_by) (defScope s_turns_by) .none kV_turns_by dc_turns_by pm_turns_by an_turns_by cd_turns_by ct_turns_by), sl_turns_by⟩) (c_turns_by : PySem.W.codeIn K cd_turns_by "_law_turns_by" = true) (k_turns_by : PySem.W.keepIn K (.ref f_turns_by) = true)
    (a_board : PySem.W.nsIn K mainGlobals "_law_board" = some (some (.ref f_board)))
    (l_board : K.lookup f_board = some ⟨oc_board, od_board, .func (PySem.W.fnOf "_law_board" "_law_board" (defArgs s_board) (defBody s_board) (defScope s_board) .none kV_board dc_board pm_board an_board cd_board ct_board), sl_board⟩) (c_board : PySem.W.codeIn K cd_board "_law_board" = true) (k_board : PySem.W.keepIn K (.ref f_board) = true)
    (a_whole : PySem.W.nsIn K mainGlobals "_law_whole" = some (some (.ref f_whole)))
    (l_whole : K.lookup f_whole = some ⟨oc_whole, od_whole, .func (PySem.W.fnOf "_law_whole" "_law_whole" (defArgs s_whole) (defBody s_whole) (defScope s_whole) .none kV_whole dc_whole pm_whole an_whole cd_whole ct_whole), sl_whole⟩) (c_whole : PySem.W.codeIn K cd_whole "_law_whole" = true) (k_whole : PySem.W.keepIn K (.ref f_whole) = true)
    (a_row : PySem.W.nsIn K mainGlobals "_law_row" = some (some (.ref f_row)))
    (l_row : K.lookup f_row = some ⟨oc_row, od_row, .func (PySem.W.fnOf "_law_row" "_law_row" (defArgs s_row) (defBody s_row) (defScope s_row) .none kV_row dc_row pm_row an_row cd_row ct_row), sl_row⟩) (c_row : PySem.W.codeIn K cd_row "_law_row" = true) (k_row : PySem.W.keepIn K (.ref f_row) = true)
    (a_stands : PySem.W.nsIn K mainGlobals "_law_stands" = some (some (.ref f_stands)))
    (l_stands : K.lookup f_stands = some ⟨oc_stands, od_stands, .func (PySem.W.fnOf "_law_stands" "_law_stands" (defArgs s_stands) (defBody s_stands) (defScope s_stands) .none kV_stands dc_stands pm_stands an_stands cd_stands ct_stands), sl_stands⟩) (c_stands : PySem.W.codeIn K cd_stands "_law_stands" = true) (k_stands : PySem.W.keepIn K (.ref f_stands) = true)
    (a_run_all : PySem.W.nsIn K mainGlobals "_law_run_all" = some (some (.ref f_run_all)))
    (l_run_all : K.lookup f_run_all = some ⟨oc_run_all, od_run_all, .func (PySem.W.fnOf "_law_run_all" "_law_run_all" (defArgs s_run_all) (defBody s_run_all) (defScope s_run_all) .none kV_run_all dc_run_all pm_run_all an_run_all cd_run_all ct_run_all), sl_run_all⟩) (c_run_all : PySem.W.codeIn K cd_run_all "_law_run_all" = true) (k_run_all : PySem.W.keepIn K (.ref f_run_all) = true)
    (a_chain : PySem.W.nsIn K mainGlobals "_law_chain" = some (some (.ref f_chain)))
    (l_chain : K.lookup f_chain = some ⟨oc_chain, od_chain, .func (PySem.W.fnOf "_law_chain" "_law_chain" (defArgs s_chain) (defBody s_chain) (defScope s_chain) .none kV_chain dc_chain pm_chain an_chain cd_chain ct_chain), sl_chain⟩) (c_chain : PySem.W.codeIn K cd_chain "_law_chain" = true) (k_chain : PySem.W.keepIn K (.ref f_chain) = true)
    (a_law : PySem.W.nsIn K mainGlobals "law" = some (some (.ref f_law)))
    (l_law : K.lookup f_law = some ⟨oc_law, od_law, .func (PySem.W.fnOf "law" "law" (defArgs s_law) (defBody s_law) (defScope s_law) .none kV_law dc_law pm_law an_law cd_law ct_law), sl_law⟩) (c_law : PySem.W.codeIn K cd_law "law" = true) (k_law : PySem.W.keepIn K (.ref f_law) = true)
    (pg : PySem.W.plainGet K C Str.empty = true) (hd : PySem.W.hasDictIn K C = true) (po : PySem.W.plainOver K C = true) (sa : PySem.W.findIn K (.ref C) "__setattr__" = some (some (.builtin "object.__setattr__"))) (mk : PySem.W.makesIn K C = true) (kc : PySem.W.keepIn K (.ref C) = true)
    (na_rows : PySem.W.findIn K (.ref C) "rows" = some none)
    (na_turns : PySem.W.findIn K (.ref C) "turns" = some none)
    (na_loads : PySem.W.findIn K (.ref C) "loads" = some none)
    (na_steps : PySem.W.findIn K (.ref C) "steps" = some none)
    (na_taken : PySem.W.findIn K (.ref C) "taken" = some none)
    (z_len : PySem.W.nsIn K mainGlobals "len" = some none)
    (z_range : PySem.W.nsIn K mainGlobals "range" = some none)
    (z_isinstance : PySem.W.nsIn K mainGlobals "isinstance" = some none)
    (z_int : PySem.W.nsIn K mainGlobals "int" = some none)
    (z_bool : PySem.W.nsIn K mainGlobals "bool" = some none)
    (z_list : PySem.W.nsIn K mainGlobals "list" = some none)
    (z_reversed : PySem.W.nsIn K mainGlobals "reversed" = some none)
    (z_sum : PySem.W.nsIn K mainGlobals "sum" = some none)
    (z_all : PySem.W.nsIn K mainGlobals "all" = some none)
    (z_any : PySem.W.nsIn K mainGlobals "any" = some none)
    (z_enumerate : PySem.W.nsIn K mainGlobals "enumerate" = some none)
    (g_PIT : PySem.W.nsIn K mainGlobals "PIT" = some (some (.int (-1) t_PIT)))
    (g_MOST_SITES : PySem.W.nsIn K mainGlobals "MOST_SITES" = some (some (.int (12) t_MOST_SITES)))
    (g_MOST_EXITS : PySem.W.nsIn K mainGlobals "MOST_EXITS" = some (some (.int (8) t_MOST_EXITS)))
    (g_MOST_MARBLES : PySem.W.nsIn K mainGlobals "MOST_MARBLES" = some (some (.int (400) t_MOST_MARBLES)))
    (ax_NoSite : PySem.W.nsIn K mainGlobals "NoSite" = some (some (.ref c_NoSite)))
    (ex_NoSite : PySem.W.excIn K c_NoSite vErr "ValueError.__new__" = true)
    (kb_NoSite : PySem.W.kitOne K (.ref c_NoSite) (.type "BaseException") = some true)
    (ax_NoPlace : PySem.W.nsIn K mainGlobals "NoPlace" = some (some (.ref c_NoPlace)))
    (ex_NoPlace : PySem.W.excIn K c_NoPlace vErr "ValueError.__new__" = true)
    (kb_NoPlace : PySem.W.kitOne K (.ref c_NoPlace) (.type "BaseException") = some true)
    (ax_TooMany : PySem.W.nsIn K mainGlobals "TooMany" = some (some (.ref c_TooMany)))
    (ex_TooMany : PySem.W.excIn K c_TooMany vErr "ValueError.__new__" = true)
    (kb_TooMany : PySem.W.kitOne K (.ref c_TooMany) (.type "BaseException") = some true)
    (ax_NoMarble : PySem.W.nsIn K mainGlobals "NoMarble" = some (some (.ref c_NoMarble)))
    (ex_NoMarble : PySem.W.excIn K c_NoMarble vErr "ValueError.__new__" = true)
    (kb_NoMarble : PySem.W.kitOne K (.ref c_NoMarble) (.type "BaseException") = some true)
    (ax_NotOpen : PySem.W.nsIn K mainGlobals "NotOpen" = some (some (.ref c_NotOpen)))
    (ex_NotOpen : PySem.W.excIn K c_NotOpen vErr "ValueError.__new__" = true)
    (kb_NotOpen : PySem.W.kitOne K (.ref c_NotOpen) (.type "BaseException") = some true)
    (ax_TooLong : PySem.W.nsIn K mainGlobals "TooLong" = some (some (.ref c_TooLong)))
    (ex_TooLong : PySem.W.excIn K c_TooLong vErr "ValueError.__new__" = true)
    (kb_TooLong : PySem.W.kitOne K (.ref c_TooLong) (.type "BaseException") = some true)
    (q_int_bool : PySem.W.kitOne K (.type "int") (.type "bool") = some false)
    : ∃ fd : FuncData, (∀ (s : Shared) (v : Value), BindsTo s fd ⟨[v], []⟩ [("script", v)]) ∧ ∀ base : Heap, K.In base → base.Ns mainGlobals mg → FnOk l.prog w K mg base CX0 10 fa fd ["script"] (spLaw K) := by
  have e := hfa.symm.trans (PySem.W.mg_of X G a_law)
  cases e
  have F_check_rows := fun_mk (st := s_check_rows) l_check_rows c_check_rows k_check_rows
  have b_check_rows := F_check_rows.binds1 (p0 := "rows") fun _ _ _ _ _ _ _ => rfl
  have F_check_row := fun_mk (st := s_check_row) l_check_row c_check_row k_check_row
  have b_check_row := F_check_row.binds2 (p0 := "row") (p1 := "sites") fun _ _ _ _ _ _ _ _ => rfl
  have F_check_site := fun_mk (st := s_check_site) l_check_site c_check_site k_check_site
  have b_check_site := F_check_site.binds2 (p0 := "board") (p1 := "at") fun _ _ _ _ _ _ _ _ => rfl
  have F_Binit := fun_mk (st := s_Binit) l_Binit c_Binit k_Binit
  have b_Binit := F_Binit.binds2 (p0 := "self") (p1 := "rows") fun _ _ _ _ _ _ _ _ => rfl
  have F_Bturn_to := fun_mk (st := s_Bturn_to) l_Bturn_to c_Bturn_to k_Bturn_to
  have b_Bturn_to := F_Bturn_to.binds3 (p0 := "self") (p1 := "at") (p2 := "place") fun _ _ _ _ _ _ _ _ _ => rfl
  have F_Bload := fun_mk (st := s_Bload) l_Bload c_Bload k_Bload
  have b_Bload := F_Bload.binds3 (p0 := "self") (p1 := "at") (p2 := "many") fun _ _ _ _ _ _ _ _ _ => rfl
  have F_Btwin := fun_mk (st := s_Btwin) l_Btwin c_Btwin k_Btwin
  have b_Btwin := F_Btwin.binds1 (p0 := "self") fun _ _ _ _ _ _ _ => rfl
  have F_Bstand_like := fun_mk (st := s_Bstand_like) l_Bstand_like c_Bstand_like k_Bstand_like
  have b_Bstand_like := F_Bstand_like.binds2 (p0 := "self") (p1 := "other") fun _ _ _ _ _ _ _ _ => rfl
  have F_reached := fun_mk (st := s_reached) l_reached c_reached k_reached
  have b_reached := F_reached.binds1 (p0 := "rows") fun _ _ _ _ _ _ _ => rfl
  have F_is_open := fun_mk (st := s_is_open) l_is_open c_is_open k_is_open
  have b_is_open := F_is_open.binds1 (p0 := "board") fun _ _ _ _ _ _ _ => rfl
  have F_check_open := fun_mk (st := s_check_open) l_check_open c_check_open k_check_open
  have b_check_open := F_check_open.binds1 (p0 := "board") fun _ _ _ _ _ _ _ => rfl
  have F_step := fun_mk (st := s_step) l_step c_step k_step
  have b_step := F_step.binds2 (p0 := "board") (p1 := "at") fun _ _ _ _ _ _ _ _ => rfl
  have F_loaded := fun_mk (st := s_loaded) l_loaded c_loaded k_loaded
  have b_loaded := F_loaded.binds1 (p0 := "board") fun _ _ _ _ _ _ _ => rfl
  have F_run := fun_mk (st := s_run) l_run c_run k_run
  have b_run := F_run.binds2 (p0 := "board") (p1 := "most") fun _ _ _ _ _ _ _ _ => rfl
  have F_grid := fun_mk (st := s_grid) l_grid c_grid k_grid
  have b_grid := F_grid.binds1 (p0 := "board") fun _ _ _ _ _ _ _ => rfl
  have F_grid_row := fun_mk (st := s_grid_row) l_grid_row c_grid_row k_grid_row
  have b_grid_row := F_grid_row.binds2 (p0 := "board") (p1 := "at") fun _ _ _ _ _ _ _ _ => rfl
  have F_det := fun_mk (st := s_det) l_det c_det k_det
  have b_det := F_det.binds1 (p0 := "square") fun _ _ _ _ _ _ _ => rfl
  have F_cleared := fun_mk (st := s_cleared) l_cleared c_cleared k_cleared
  have b_cleared := F_cleared.binds3 (p0 := "row") (p1 := "top") (p2 := "lead") fun _ _ _ _ _ _ _ _ _ => rfl
  have F_round_of := fun_mk (st := s_round_of) l_round_of c_round_of k_round_of
  have b_round_of := F_round_of.binds2 (p0 := "board") (p1 := "at") fun _ _ _ _ _ _ _ _ => rfl
  have F_with_mark := fun_mk (st := s_with_mark) l_with_mark c_with_mark k_with_mark
  have b_with_mark := F_with_mark.binds3 (p0 := "square") (p1 := "place") (p2 := "at") fun _ _ _ _ _ _ _ _ _ => rfl
  have F_greatest_divisor := fun_mk (st := s_greatest_divisor) l_greatest_divisor c_greatest_divisor k_greatest_divisor
  have b_greatest_divisor := F_greatest_divisor.binds2 (p0 := "one") (p1 := "other") fun _ _ _ _ _ _ _ _ => rfl
  have F_drawn := fun_mk (st := s_drawn) l_drawn c_drawn k_drawn
  have b_drawn := F_drawn.binds3 (p0 := "script") (p1 := "k") (p2 := "many") fun _ _ _ _ _ _ _ _ _ => rfl
  have F_other := fun_mk (st := s_other) l_other c_other k_other
  have b_other := F_other.binds2 (p0 := "gone") (p1 := "many") fun _ _ _ _ _ _ _ _ => rfl
  have F_rows_by := fun_mk (st := s_rows_by) l_rows_by c_rows_by k_rows_by
  have b_rows_by := F_rows_by.binds1 (p0 := "script") fun _ _ _ _ _ _ _ => rfl
  have F_turns_by := fun_mk (st := s_turns_by) l_turns_by c_turns_by k_turns_by
  have b_turns_by := F_turns_by.binds2 (p0 := "script") (p1 := "rows") fun _ _ _ _ _ _ _ _ => rfl
  have F_board := fun_mk (st := s_board) l_board c_board k_board
  have b_board := F_board.binds3 (p0 := "rows") (p1 := "turns") (p2 := "loads") fun _ _ _ _ _ _ _ _ _ => rfl
  have F_whole := fun_mk (st := s_whole) l_whole c_whole k_whole
  have b_whole := F_whole.binds1 (p0 := "found") fun _ _ _ _ _ _ _ => rfl
  have F_row := fun_mk (st := s_row) l_row c_row k_row
  have b_row := F_row.binds2 (p0 := "found") (p1 := "due") fun _ _ _ _ _ _ _ _ => rfl
  have F_stands := fun_mk (st := s_stands) l_stands c_stands k_stands
  have b_stands := F_stands.binds5 (p0 := "board") (p1 := "rows") (p2 := "turns") (p3 := "lying") (p4 := "counts") fun _ _ _ _ _ _ _ _ _ _ _ => rfl
  have F_run_all := fun_mk (st := s_run_all) l_run_all c_run_all k_run_all
  have b_run_all := F_run_all.binds2 (p0 := "board") (p1 := "sites") fun _ _ _ _ _ _ _ _ => rfl
  have F_chain := fun_mk (st := s_chain) l_chain c_chain k_chain
  have b_chain := F_chain.binds1 (p0 := "script") fun _ _ _ _ _ _ _ => rfl
  have F_law := fun_mk (st := s_law) l_law c_law k_law
  have b_law := F_law.binds1 (p0 := "script") fun _ _ _ _ _ _ _ => rfl
  have T : Txt K mg { C := C, f_check_rows := f_check_rows, fd_check_rows := PySem.W.fnOf "check_rows" "check_rows" (defArgs s_check_rows) (defBody s_check_rows) (defScope s_check_rows) .none kV_check_rows dc_check_rows pm_check_rows an_check_rows cd_check_rows ct_check_rows, f_check_row := f_check_row, fd_check_row := PySem.W.fnOf "check_row" "check_row" (defArgs s_check_row) (defBody s_check_row) (defScope s_check_row) .none kV_check_row dc_check_row pm_check_row an_check_row cd_check_row ct_check_row, f_check_site := f_check_site, fd_check_site := PySem.W.fnOf "check_site" "check_site" (defArgs s_check_site) (defBody s_check_site) (defScope s_check_site) .none kV_check_site dc_check_site pm_check_site an_check_site cd_check_site ct_check_site, f_Binit := f_Binit, fd_Binit := PySem.W.fnOf "__init__" "Board.__init__" (defArgs s_Binit) (defBody s_Binit) (defScope s_Binit) .none kV_Binit dc_Binit pm_Binit an_Binit cd_Binit ct_Binit, f_Bturn_to := f_Bturn_to, fd_Bturn_to := PySem.W.fnOf "turn_to" "Board.turn_to" (defArgs s_Bturn_to) (defBody s_Bturn_to) (defScope s_Bturn_to) .none kV_Bturn_to dc_Bturn_to pm_Bturn_to an_Bturn_to cd_Bturn_to ct_Bturn_to, f_Bload := f_Bload, fd_Bload := PySem.W.fnOf "load" "Board.load" (defArgs s_Bload) (defBody s_Bload) (defScope s_Bload) .none kV_Bload dc_Bload pm_Bload an_Bload cd_Bload ct_Bload, f_Btwin := f_Btwin, fd_Btwin := PySem.W.fnOf "twin" "Board.twin" (defArgs s_Btwin) (defBody s_Btwin) (defScope s_Btwin) .none kV_Btwin dc_Btwin pm_Btwin an_Btwin cd_Btwin ct_Btwin, f_Bstand_like := f_Bstand_like, fd_Bstand_like := PySem.W.fnOf "stand_like" "Board.stand_like" (defArgs s_Bstand_like) (defBody s_Bstand_like) (defScope s_Bstand_like) .none kV_Bstand_like dc_Bstand_like pm_Bstand_like an_Bstand_like cd_Bstand_like ct_Bstand_like, f_reached := f_reached, fd_reached := PySem.W.fnOf "reached" "reached" (defArgs s_reached) (defBody s_reached) (defScope s_reached) .none kV_reached dc_reached pm_reached an_reached cd_reached ct_reached, f_is_open := f_is_open, fd_is_open := PySem.W.fnOf "is_open" "is_open" (defArgs s_is_open) (defBody s_is_open) (defScope s_is_open) .none kV_is_open dc_is_open pm_is_open an_is_open cd_is_open ct_is_open, f_check_open := f_check_open, fd_check_open := PySem.W.fnOf "check_open" "check_open" (defArgs s_check_open) (defBody s_check_open) (defScope s_check_open) .none kV_check_open dc_check_open pm_check_open an_check_open cd_check_open ct_check_open, f_step := f_step, fd_step := PySem.W.fnOf "step" "step" (defArgs s_step) (defBody s_step) (defScope s_step) .none kV_step dc_step pm_step an_step cd_step ct_step, f_loaded := f_loaded, fd_loaded := PySem.W.fnOf "loaded" "loaded" (defArgs s_loaded) (defBody s_loaded) (defScope s_loaded) .none kV_loaded dc_loaded pm_loaded an_loaded cd_loaded ct_loaded, f_run := f_run, fd_run := PySem.W.fnOf "run" "run" (defArgs s_run) (defBody s_run) (defScope s_run) .none kV_run dc_run pm_run an_run cd_run ct_run, f_grid := f_grid, fd_grid := PySem.W.fnOf "grid" "grid" (defArgs s_grid) (defBody s_grid) (defScope s_grid) .none kV_grid dc_grid pm_grid an_grid cd_grid ct_grid, f_grid_row := f_grid_row, fd_grid_row := PySem.W.fnOf "grid_row" "grid_row" (defArgs s_grid_row) (defBody s_grid_row) (defScope s_grid_row) .none kV_grid_row dc_grid_row pm_grid_row an_grid_row cd_grid_row ct_grid_row, f_det := f_det, fd_det := PySem.W.fnOf "det" "det" (defArgs s_det) (defBody s_det) (defScope s_det) .none kV_det dc_det pm_det an_det cd_det ct_det, f_cleared := f_cleared, fd_cleared := PySem.W.fnOf "cleared" "cleared" (defArgs s_cleared) (defBody s_cleared) (defScope s_cleared) .none kV_cleared dc_cleared pm_cleared an_cleared cd_cleared ct_cleared, f_round_of := f_round_of, fd_round_of := PySem.W.fnOf "round_of" "round_of" (defArgs s_round_of) (defBody s_round_of) (defScope s_round_of) .none kV_round_of dc_round_of pm_round_of an_round_of cd_round_of ct_round_of, f_with_mark := f_with_mark, fd_with_mark := PySem.W.fnOf "with_mark" "with_mark" (defArgs s_with_mark) (defBody s_with_mark) (defScope s_with_mark) .none kV_with_mark dc_with_mark pm_with_mark an_with_mark cd_with_mark ct_with_mark, f_greatest_divisor := f_greatest_divisor, fd_greatest_divisor := PySem.W.fnOf "greatest_divisor" "greatest_divisor" (defArgs s_greatest_divisor) (defBody s_greatest_divisor) (defScope s_greatest_divisor) .none kV_greatest_divisor dc_greatest_divisor pm_greatest_divisor an_greatest_divisor cd_greatest_divisor ct_greatest_divisor, f_drawn := f_drawn, fd_drawn := PySem.W.fnOf "_law_drawn" "_law_drawn" (defArgs s_drawn) (defBody s_drawn) (defScope s_drawn) .none kV_drawn dc_drawn pm_drawn an_drawn cd_drawn ct_drawn, f_other := f_other, fd_other := PySem.W.fnOf "_law_other" "_law_other" (defArgs s_other) (defBody s_other) (defScope s_other) .none kV_other dc_other pm_other an_other cd_other ct_other, f_rows_by := f_rows_by, fd_rows_by := PySem.W.fnOf "_law_rows_by" "_law_rows_by" (defArgs s_rows_by) (defBody s_rows_by) (defScope s_rows_by) .none kV_rows_by dc_rows_by pm_rows_by an_rows_by cd_rows_by ct_rows_by, f_turns_by := f_turns_by, fd_turns_by := PySem.W.fnOf "_law_turns_by" "_law_turns_by" (defArgs s_turns_by) (defBody s_turns_by) (defScope s_turns_by) .none kV_turns_by dc_turns_by pm_turns_by an_turns_by cd_turns_by ct_turns_by, f_board := f_board, fd_board := PySem.W.fnOf "_law_board" "_law_board" (defArgs s_board) (defBody s_board) (defScope s_board) .none kV_board dc_board pm_board an_board cd_board ct_board, f_whole := f_whole, fd_whole := PySem.W.fnOf "_law_whole" "_law_whole" (defArgs s_whole) (defBody s_whole) (defScope s_whole) .none kV_whole dc_whole pm_whole an_whole cd_whole ct_whole, f_row := f_row, fd_row := PySem.W.fnOf "_law_row" "_law_row" (defArgs s_row) (defBody s_row) (defScope s_row) .none kV_row dc_row pm_row an_row cd_row ct_row, f_stands := f_stands, fd_stands := PySem.W.fnOf "_law_stands" "_law_stands" (defArgs s_stands) (defBody s_stands) (defScope s_stands) .none kV_stands dc_stands pm_stands an_stands cd_stands ct_stands, f_run_all := f_run_all, fd_run_all := PySem.W.fnOf "_law_run_all" "_law_run_all" (defArgs s_run_all) (defBody s_run_all) (defScope s_run_all) .none kV_run_all dc_run_all pm_run_all an_run_all cd_run_all ct_run_all, f_chain := f_chain, fd_chain := PySem.W.fnOf "_law_chain" "_law_chain" (defArgs s_chain) (defBody s_chain) (defScope s_chain) .none kV_chain dc_chain pm_chain an_chain cd_chain ct_chain, f_law := fa, fd_law := PySem.W.fnOf "law" "law" (defArgs s_law) (defBody s_law) (defScope s_law) .none kV_law dc_law pm_law an_law cd_law ct_law, t_PIT := t_PIT, t_MOST_SITES := t_MOST_SITES, t_MOST_EXITS := t_MOST_EXITS, t_MOST_MARBLES := t_MOST_MARBLES, c_NoSite := c_NoSite, c_NoPlace := c_NoPlace, c_TooMany := c_TooMany, c_NoMarble := c_NoMarble, c_NotOpen := c_NotOpen, c_TooLong := c_TooLong } := { F_check_rows := F_check_rows, m_check_rows := PySem.W.mg_of X G a_check_rows, k_check_rows := k_check_rows, b_check_rows := b_check_rows, F_check_row := F_check_row, m_check_row := PySem.W.mg_of X G a_check_row, k_check_row := k_check_row, b_check_row := b_check_row, F_check_site := F_check_site, m_check_site := PySem.W.mg_of X G a_check_site, k_check_site := k_check_site, b_check_site := b_check_site, F_Binit := F_Binit, mk_Board := ⟨mk, a_Binit, i_Binit, kc⟩, bi_Board := b_Binit, F_Bturn_to := F_Bturn_to, mt_turn_to := ⟨a_Bturn_to, i_Bturn_to, k_Bturn_to⟩, bm_turn_to := b_Bturn_to, F_Bload := F_Bload, mt_load := ⟨a_Bload, i_Bload, k_Bload⟩, bm_load := b_Bload, F_Btwin := F_Btwin, mt_twin := ⟨a_Btwin, i_Btwin, k_Btwin⟩, bm_twin := b_Btwin, F_Bstand_like := F_Bstand_like, mt_stand_like := ⟨a_Bstand_like, i_Bstand_like, k_Bstand_like⟩, bm_stand_like := b_Bstand_like, F_reached := F_reached, m_reached := PySem.W.mg_of X G a_reached, k_reached := k_reached, b_reached := b_reached, F_is_open := F_is_open, m_is_open := PySem.W.mg_of X G a_is_open, k_is_open := k_is_open, b_is_open := b_is_open, F_check_open := F_check_open, m_check_open := PySem.W.mg_of X G a_check_open, k_check_open := k_check_open, b_check_open := b_check_open, F_step := F_step, m_step := PySem.W.mg_of X G a_step, k_step := k_step, b_step := b_step, F_loaded := F_loaded, m_loaded := PySem.W.mg_of X G a_loaded, k_loaded := k_loaded, b_loaded := b_loaded, F_run := F_run, m_run := PySem.W.mg_of X G a_run, k_run := k_run, b_run := b_run, F_grid := F_grid, m_grid := PySem.W.mg_of X G a_grid, k_grid := k_grid, b_grid := b_grid, F_grid_row := F_grid_row, m_grid_row := PySem.W.mg_of X G a_grid_row, k_grid_row := k_grid_row, b_grid_row := b_grid_row, F_det := F_det, m_det := PySem.W.mg_of X G a_det, k_det := k_det, b_det := b_det, F_cleared := F_cleared, m_cleared := PySem.W.mg_of X G a_cleared, k_cleared := k_cleared, b_cleared := b_cleared, F_round_of := F_round_of, m_round_of := PySem.W.mg_of X G a_round_of, k_round_of := k_round_of, b_round_of := b_round_of, F_with_mark := F_with_mark, m_with_mark := PySem.W.mg_of X G a_with_mark, k_with_mark := k_with_mark, b_with_mark := b_with_mark, F_greatest_divisor := F_greatest_divisor, m_greatest_divisor := PySem.W.mg_of X G a_greatest_divisor, k_greatest_divisor := k_greatest_divisor, b_greatest_divisor := b_greatest_divisor, F_drawn := F_drawn, m__law_drawn := PySem.W.mg_of X G a_drawn, k__law_drawn := k_drawn, b__law_drawn := b_drawn, F_other := F_other, m__law_other := PySem.W.mg_of X G a_other, k__law_other := k_other, b__law_other := b_other, F_rows_by := F_rows_by, m__law_rows_by := PySem.W.mg_of X G a_rows_by, k__law_rows_by := k_rows_by, b__law_rows_by := b_rows_by, F_turns_by := F_turns_by, m__law_turns_by := PySem.W.mg_of X G a_turns_by, k__law_turns_by := k_turns_by, b__law_turns_by := b_turns_by, F_board := F_board, m__law_board := PySem.W.mg_of X G a_board, k__law_board := k_board, b__law_board := b_board, F_whole := F_whole, m__law_whole := PySem.W.mg_of X G a_whole, k__law_whole := k_whole, b__law_whole := b_whole, F_row := F_row, m__law_row := PySem.W.mg_of X G a_row, k__law_row := k_row, b__law_row := b_row, F_stands := F_stands, m__law_stands := PySem.W.mg_of X G a_stands, k__law_stands := k_stands, b__law_stands := b_stands, F_run_all := F_run_all, m__law_run_all := PySem.W.mg_of X G a_run_all, k__law_run_all := k_run_all, b__law_run_all := b_run_all, F_chain := F_chain, m__law_chain := PySem.W.mg_of X G a_chain, k__law_chain := k_chain, b__law_chain := b_chain, F_law := F_law, m_law := PySem.W.mg_of X G a_law, k_law := k_law, b_law := b_law, m_Board := PySem.W.mg_of X G aC, cl_Board := ⟨pg, hd, po, sa⟩, na_rows := na_rows, na_turns := na_turns, na_loads := na_loads, na_steps := na_steps, na_taken := na_taken, n_len := PySem.W.mg_none_of X G z_len, n_range := PySem.W.mg_none_of X G z_range, n_isinstance := PySem.W.mg_none_of X G z_isinstance, n_int := PySem.W.mg_none_of X G z_int, n_bool := PySem.W.mg_none_of X G z_bool, n_list := PySem.W.mg_none_of X G z_list, n_reversed := PySem.W.mg_none_of X G z_reversed, n_sum := PySem.W.mg_none_of X G z_sum, n_all := PySem.W.mg_none_of X G z_all, n_any := PySem.W.mg_none_of X G z_any, n_enumerate := PySem.W.mg_none_of X G z_enumerate, g_PIT := PySem.W.mg_of X G g_PIT, g_MOST_SITES := PySem.W.mg_of X G g_MOST_SITES, g_MOST_EXITS := PySem.W.mg_of X G g_MOST_EXITS, g_MOST_MARBLES := PySem.W.mg_of X G g_MOST_MARBLES, m_NoSite := PySem.W.mg_of X G ax_NoSite, x_NoSite := ⟨ex_NoSite⟩, m_NoPlace := PySem.W.mg_of X G ax_NoPlace, x_NoPlace := ⟨ex_NoPlace⟩, m_TooMany := PySem.W.mg_of X G ax_TooMany, x_TooMany := ⟨ex_TooMany⟩, m_NoMarble := PySem.W.mg_of X G ax_NoMarble, x_NoMarble := ⟨ex_NoMarble⟩, m_NotOpen := PySem.W.mg_of X G ax_NotOpen, x_NotOpen := ⟨ex_NotOpen⟩, m_TooLong := PySem.W.mg_of X G ax_TooLong, x_TooLong := ⟨ex_TooLong⟩, kb_NoSite := kb_NoSite, kb_NoPlace := kb_NoPlace, kb_TooMany := kb_TooMany, kb_NoMarble := kb_NoMarble, kb_NotOpen := kb_NotOpen, kb_TooLong := kb_TooLong, q_int_bool := q_int_bool }
  exact ⟨PySem.W.fnOf "law" "law" (defArgs s_law) (defBody s_law) (defScope s_law) .none kV_law dc_law pm_law an_law cd_law ct_law, fun s v => .of_eq rfl, fun base _ _ => ok_law T (ok_drawn T) (ok_chain T (ok_drawn T) (ok_other T) (ok_Binit T (ok_check_rows T (ok_check_row T))) (ok_round_of T (ok_check_site T) (ok_check_open T (ok_is_open T (ok_reached T))) (ok_grid T (ok_grid_row T)) (ok_det T (ok_cleared T)) (ok_with_mark T) (ok_greatest_divisor T)) (ok_whole T)) (ok_rows_by T (ok_drawn T) (ok_other T)) (ok_turns_by T (ok_drawn T)) (ok_board T (ok_Binit T (ok_check_rows T (ok_check_row T))) (ok_Bturn_to T (ok_check_site T)) (ok_Bload T (ok_check_site T))) (ok_run_all T (ok_Bload T (ok_check_site T)) (ok_run T (ok_check_open T (ok_is_open T (ok_reached T))) (ok_Btwin T (ok_Binit T (ok_check_rows T (ok_check_row T))) (ok_Bstand_like T)) (ok_loaded T) (ok_Bstand_like T) (ok_step T (ok_check_site T))) (ok_whole T)) (ok_Bload T (ok_check_site T)) (ok_stands T (ok_whole T) (ok_row T (ok_whole T)))⟩
theorem walk {l : PySem.W.OpenLaw} {q : Program} {loose : List Str} {XP : (Str → Option Value) → Heap → Prop} {YP : World → Heap → Prop} {d : DefRec} {K : Params → PySem.W.Frag} (hn : l.most = some 63) (hdf : d.params.defaults = [])
    (hY : ∀ (w : World) (h : Heap), YP w h → (K w.params).In h)
    (F : ∀ (w : World) (mg : Str → Option Value) (fa : Addr) (h : Heap), (K w.params).In h → h.Ns mainGlobals mg → mg d.name = some (.ref fa) →
      ∃ fd : FuncData, (∀ (s : Shared) (u : Value), BindsTo s fd ⟨[u], []⟩ [("script", u)]) ∧ ∀ base : Heap, (K w.params).In base → base.Ns mainGlobals mg → FnOk l.prog w (K w.params) mg base CX0 10 fa fd ["script"] (spLaw (K w.params))) :
    PySem.W.WalkO q loose XP YP l.row.toRowW d [] (fun f vs => PySem.call f vs) :=
  L2.walk_of (n := 63) (k := 10) (x := "script") (CX := fun _ => CX0) (sp := fun w => spLaw (K w.params)) hn (by decide) hdf ⟨rfl, by decide, by decide⟩ hY F (fun _ _ a ns hl _ hS => ⟨a, ns, rfl, hS, hl, fun _ => rfl⟩) fun _ _ _ _ _ z => z
end Law
theorem PySem.W.Fast.tw13200689884078058673 : True := trivial
theorem PySem.W.Fast.tw17381141798753612506 : True := trivial
theorem PySem.W.Fast.tw13237063238336138190 : True := trivial
theorem PySem.W.Fast.tw11412738707238416621 : True := trivial
theorem PySem.W.Fast.tw15549150775244121884 : True := trivial
theorem PySem.W.Fast.tw11547712741774460878 : True := trivial
theorem PySem.W.Fast.tw14464439816659582767 : True := trivial
theorem PySem.W.Fast.tw6153558239245328536 : True := trivial
theorem PySem.W.Fast.tw7867532980686132296 : True := trivial
theorem PySem.W.Fast.tw13970467839547433173 : True := trivial
theorem PySem.W.Fast.tw1783351396798975591 : True := trivial
theorem PySem.W.Fast.tw13892727372004966929 : True := trivial
theorem PySem.W.Fast.tw3187105733085693542 : True := trivial
theorem PySem.W.Fast.tw5308291838032053134 : True := trivial
theorem PySem.W.Fast.tw17395980228046688629 : True := trivial
open PySem PySem.W PyProof.Rows
set_option maxRecDepth 100000 in
set_option maxHeartbeats 0 in
theorem PySem.Challenge.cw_marblerun_k22_whole_marbles_exchanged_holds : PySem.Challenge.rw_marblerun_k22_whole_marbles_exchanged.Holds := by
  w_on; o_law; k_head; (case hw => w_witness2)
  k_fill
  refine Law.walk (l := PySem.Challenge.rw_marblerun_k22_whole_marbles_exchanged) rfl rfl (fun w h Y => PySem.W.kIn_of Y) ?F
  case F =>
    intro w mg fa h KX G hmg
    refine' Law.all_mk KX G hmg ?aC ?a_check_rows ?l_check_rows ?c_check_rows ?k_check_rows ?a_check_row ?l_check_row ?c_check_row ?k_check_row ?a_check_site ?l_check_site ?c_check_site ?k_check_site ?a_Binit ?i_Binit ?l_Binit ?c_Binit ?k_Binit ?a_Bturn_to ?i_Bturn_to ?l_Bturn_to ?c_Bturn_to ?k_Bturn_to ?a_Bload ?i_Bload ?l_Bload ?c_Bload ?k_Bload ?a_Btwin ?i_Btwin ?l_Btwin ?c_Btwin ?k_Btwin ?a_Bstand_like ?i_Bstand_like ?l_Bstand_like ?c_Bstand_like ?k_Bstand_like ?a_reached ?l_reached ?c_reached ?k_reached ?a_is_open ?l_is_open ?c_is_open ?k_is_open ?a_check_open ?l_check_open ?c_check_open ?k_check_open ?a_step ?l_step ?c_step ?k_step ?a_loaded ?l_loaded ?c_loaded ?k_loaded ?a_run ?l_run ?c_run ?k_run ?a_grid ?l_grid ?c_grid ?k_grid ?a_grid_row ?l_grid_row ?c_grid_row ?k_grid_row ?a_det ?l_det ?c_det ?k_det ?a_cleared ?l_cleared ?c_cleared ?k_cleared ?a_round_of ?l_round_of ?c_round_of ?k_round_of ?a_with_mark ?l_with_mark ?c_with_mark ?k_with_mark ?a_greatest_divisor ?l_greatest_divisor ?c_greatest_divisor ?k_greatest_divisor ?a_drawn ?l_drawn ?c_drawn ?k_drawn ?a_other ?l_other ?c_other ?k_other ?a_rows_by ?l_rows_by ?c_rows_by ?k_rows_by ?a_turns_by ?l_turns_by ?c_turns_by ?k_turns_by ?a_board ?l_board ?c_board ?k_board ?a_whole ?l_whole ?c_whole ?k_whole ?a_row ?l_row ?c_row ?k_row ?a_stands ?l_stands ?c_stands ?k_stands ?a_run_all ?l_run_all ?c_run_all ?k_run_all ?a_chain ?l_chain ?c_chain ?k_chain ?a_law ?l_law ?c_law ?k_law ?pg ?hd ?po ?sa ?mk ?kc ?na_rows ?na_turns ?na_loads ?na_steps ?na_taken ?z_len ?z_range ?z_isinstance ?z_int ?z_bool ?z_list ?z_reversed ?z_sum ?z_all ?z_any ?z_enumerate ?g_PIT ?g_MOST_SITES ?g_MOST_EXITS ?g_MOST_MARBLES ?ax_NoSite ?ex_NoSite ?kb_NoSite ?ax_NoPlace ?ex_NoPlace ?kb_NoPlace ?ax_TooMany ?ex_TooMany ?kb_TooMany ?ax_NoMarble ?ex_NoMarble ?kb_NoMarble ?ax_NotOpen ?ex_NotOpen ?kb_NotOpen ?ax_TooLong ?ex_TooLong ?kb_TooLong ?q_int_bool
    (case aC => k_is)
    (case a_check_rows => k_is)
    (case l_check_rows => k_is)
    (case c_check_rows => k_is)
    (case k_check_rows => k_is)
    (case a_check_row => k_is)
    (case l_check_row => k_is)
    (case c_check_row => k_is)
    (case k_check_row => k_is)
    (case a_check_site => k_is)
    (case l_check_site => k_is)
    (case c_check_site => k_is)
    (case k_check_site => k_is)
    (case a_Binit => k_is)
    (case i_Binit => k_is)
    (case l_Binit => k_is)
    (case c_Binit => k_is)
    (case k_Binit => k_is)
    (case a_Bturn_to => k_is)
    (case i_Bturn_to => k_is)
    (case l_Bturn_to => k_is)
    (case c_Bturn_to => k_is)
    (case k_Bturn_to => k_is)
    (case a_Bload => k_is)
    (case i_Bload => k_is)
    (case l_Bload => k_is)
    (case c_Bload => k_is)
    (case k_Bload => k_is)
    (case a_Btwin => k_is)
    (case i_Btwin => k_is)
    (case l_Btwin => k_is)
    (case c_Btwin => k_is)
    (case k_Btwin => k_is)
    (case a_Bstand_like => k_is)
    (case i_Bstand_like => k_is)
    (case l_Bstand_like => k_is)
    (case c_Bstand_like => k_is)
    (case k_Bstand_like => k_is)
    (case a_reached => k_is)
    (case l_reached => k_is)
    (case c_reached => k_is)
    (case k_reached => k_is)
    (case a_is_open => k_is)
    (case l_is_open => k_is)
    (case c_is_open => k_is)
    (case k_is_open => k_is)
    (case a_check_open => k_is)
    (case l_check_open => k_is)
    (case c_check_open => k_is)
    (case k_check_open => k_is)
    (case a_step => k_is)
    (case l_step => k_is)
    (case c_step => k_is)
    (case k_step => k_is)
    (case a_loaded => k_is)
    (case l_loaded => k_is)
    (case c_loaded => k_is)
    (case k_loaded => k_is)
    (case a_run => k_is)
    (case l_run => k_is)
    (case c_run => k_is)
    (case k_run => k_is)
    (case a_grid => k_is)
    (case l_grid => k_is)
    (case c_grid => k_is)
    (case k_grid => k_is)
    (case a_grid_row => k_is)
    (case l_grid_row => k_is)
    (case c_grid_row => k_is)
    (case k_grid_row => k_is)
    (case a_det => k_is)
    (case l_det => k_is)
    (case c_det => k_is)
    (case k_det => k_is)
    (case a_cleared => k_is)
    (case l_cleared => k_is)
    (case c_cleared => k_is)
    (case k_cleared => k_is)
    (case a_round_of => k_is)
    (case l_round_of => k_is)
    (case c_round_of => k_is)
    (case k_round_of => k_is)
    (case a_with_mark => k_is)
    (case l_with_mark => k_is)
    (case c_with_mark => k_is)
    (case k_with_mark => k_is)
    (case a_greatest_divisor => k_is)
    (case l_greatest_divisor => k_is)
    (case c_greatest_divisor => k_is)
    (case k_greatest_divisor => k_is)
    (case a_drawn => k_is)
    (case l_drawn => k_is)
    (case c_drawn => k_is)
    (case k_drawn => k_is)
    (case a_other => k_is)
    (case l_other => k_is)
    (case c_other => k_is)
    (case k_other => k_is)
    (case a_rows_by => k_is)
    (case l_rows_by => k_is)
    (case c_rows_by => k_is)
    (case k_rows_by => k_is)
    (case a_turns_by => k_is)
    (case l_turns_by => k_is)
    (case c_turns_by => k_is)
    (case k_turns_by => k_is)
    (case a_board => k_is)
    (case l_board => k_is)
    (case c_board => k_is)
    (case k_board => k_is)
    (case a_whole => k_is)
    (case l_whole => k_is)
    (case c_whole => k_is)
    (case k_whole => k_is)
    (case a_row => k_is)
    (case l_row => k_is)
    (case c_row => k_is)
    (case k_row => k_is)
    (case a_stands => k_is)
    (case l_stands => k_is)
    (case c_stands => k_is)
    (case k_stands => k_is)
    (case a_run_all => k_is)
    (case l_run_all => k_is)
    (case c_run_all => k_is)
    (case k_run_all => k_is)
    (case a_chain => k_is)
    (case l_chain => k_is)
    (case c_chain => k_is)
    (case k_chain => k_is)
    (case a_law => k_is)
    (case l_law => k_is)
    (case c_law => k_is)
    (case k_law => k_is)
    (case pg => k_is)
    (case hd => k_is)
    (case po => k_is)
    (case sa => k_is)
    (case mk => k_is)
    (case kc => k_is)
    (case na_rows => k_is)
    (case na_turns => k_is)
    (case na_loads => k_is)
    (case na_steps => k_is)
    (case na_taken => k_is)
    (case z_len => k_is)
    (case z_range => k_is)
    (case z_isinstance => k_is)
    (case z_int => k_is)
    (case z_bool => k_is)
    (case z_list => k_is)
    (case z_reversed => k_is)
    (case z_sum => k_is)
    (case z_all => k_is)
    (case z_any => k_is)
    (case z_enumerate => k_is)
    (case g_PIT => k_is)
    (case g_MOST_SITES => k_is)
    (case g_MOST_EXITS => k_is)
    (case g_MOST_MARBLES => k_is)
    (case ax_NoSite => k_is)
    (case ax_NoPlace => k_is)
    (case ax_TooMany => k_is)
    (case ax_NoMarble => k_is)
    (case ax_NotOpen => k_is)
    (case ax_TooLong => k_is)
    (case ex_NoSite => k_exc)
    (case ex_NoPlace => k_exc)
    (case ex_TooMany => k_exc)
    (case ex_NoMarble => k_exc)
    (case ex_NotOpen => k_exc)
    (case ex_TooLong => k_exc)
    (case kb_NoSite => kit_is)
    (case kb_NoPlace => kit_is)
    (case kb_TooMany => kit_is)
    (case kb_NoMarble => kit_is)
    (case kb_NotOpen => kit_is)
    (case kb_TooLong => kit_is)
    (case q_int_bool => kit_is)
#print axioms PySem.Challenge.cw_marblerun_k22_whole_marbles_exchanged_holds
