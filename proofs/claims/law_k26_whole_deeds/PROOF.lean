import PyProof.Rows.All
import Wide.All
import OpenK.AllK
import Wide.FinOn
import Lean
import PyProof.EqAt
import PyProof.EqKinds
import PyProof.TupleCall
import PySem.Challenge.RW_marblerun_k26_whole_deeds
local macro_rules | `(tactic| omega) => `(tactic| lia)
set_option Elab.async false
set_option linter.all false
set_option maxRecDepth 100000
namespace L2
open PySem PySem.Spec PyProof.Rows
abbrev Key := Sum Int Str
def keyIs : Key → Value → Bool
  | .inl k, v => Value.isInt k v
  | .inr x, v => Value.isStrOf x v
def keyH (w : World) : Key → Int
  | .inl k => hashInt k
  | .inr x => hashStr w x
theorem keyIs_shape : ∀ {k : Key} {v : Value}, keyIs k v = true → (∃ i t, k = Sum.inl i ∧ v = Value.int i t) ∨ (∃ x t, k = Sum.inr x ∧ v = Value.str x t)
  | .inl i, v, h => by
    obtain ⟨t, e⟩ := Value.isInt_shape (k := i) (v := v) h
    exact .inl ⟨i, t, rfl, e⟩
  | .inr x, v, h => by
    obtain ⟨t, e⟩ := Value.isStrOf_shape (x := x) (v := v) h
    exact .inr ⟨x, t, rfl, e⟩
theorem keyIs_int (i : Int) (t : Tok) : keyIs (.inl i) (.int i t) = true := by simp [keyIs, Value.isInt]
theorem keyIs_str (x : Str) (t : Tok) : keyIs (.inr x) (.str x t) = true := by simp [keyIs, Value.isStrOf]
theorem key_ll (a b : Int) : decide ((Sum.inl a : Key) = Sum.inl b) = (a == b) := by
  by_cases e : a = b
  · subst e; simp
  · have h : ¬ (Sum.inl a : Key) = Sum.inl b := fun q => e (Sum.inl.inj q)
    rw [decide_eq_false h]
    exact (beq_eq_false_iff_ne.mpr e).symm
theorem key_rr (a b : Str) : decide ((Sum.inr a : Key) = Sum.inr b) = decide (a = b) := by
  by_cases e : a = b
  · subst e; simp
  · have h : ¬ (Sum.inr a : Key) = Sum.inr b := fun q => e (Sum.inr.inj q)
    rw [decide_eq_false h, decide_eq_false e]
theorem key_lr (a : Int) (b : Str) : decide ((Sum.inl a : Key) = Sum.inr b) = false := decide_eq_false (fun q => nomatch q)
theorem key_rl (a : Str) (b : Int) : decide ((Sum.inr a : Key) = Sum.inl b) = false := decide_eq_false (fun q => nomatch q)
def mixKind (prog : Program) (w : World) : PySem.KeyKind prog w Key where
  is := keyIs
  hash := keyH w
  inj := fun v a b ha hb => by
    rcases keyIs_shape ha with ⟨i, t, rfl, rfl⟩ | ⟨x, t, rfl, rfl⟩
    · rcases keyIs_shape hb with ⟨j, u, rfl, e⟩ | ⟨y, u, rfl, e⟩
      · injection e with e1 _; rw [e1]
      · exact nomatch e
    · rcases keyIs_shape hb with ⟨j, u, rfl, e⟩ | ⟨y, u, rfl, e⟩
      · exact nomatch e
      · injection e with e1 _; rw [e1]
  byValue := fun k v h => by
    rcases keyIs_shape h with ⟨i, t, rfl, rfl⟩ | ⟨x, t, rfl, rfl⟩ <;> rfl
  pyHash := fun hv h => by
    rcases keyIs_shape hv with ⟨i, t, rfl, rfl⟩ | ⟨x, t, rfl, rfl⟩
    · exact wpAny_pyHash_int h
    · exact wpAny_pyHash_str h
  eqBool := fun hu hv h => by
    rcases keyIs_shape hu with ⟨i, t, rfl, rfl⟩ | ⟨x, t, rfl, rfl⟩
    · rcases keyIs_shape hv with ⟨j, u, rfl, rfl⟩ | ⟨y, u, rfl, rfl⟩
      · rw [key_ll] at h; exact wpAny_eqBool_int h
      · rw [key_lr] at h; exact SeqAt.EqAt.int_str i t y u _ _ _ _ h
    · rcases keyIs_shape hv with ⟨j, u, rfl, rfl⟩ | ⟨y, u, rfl, rfl⟩
      · rw [key_rl] at h; exact SeqAt.EqAt.str_int x t j u _ _ _ _ h
      · rw [key_rr] at h; exact wpAny_eqBool_str h
  «strs» := fun k x t v h => by
    rcases keyIs_shape h with ⟨i, u, rfl, e⟩ | ⟨y, u, rfl, e⟩
    · exact nomatch e
    · injection e with e1 _
      subst e1
      cases v <;> rfl
theorem mixKind_int (prog : Program) (w : World) (i : Int) (t : Tok) : (mixKind prog w).is (.inl i) (.int i t) = true := keyIs_int i t
theorem mixKind_str (prog : Program) (w : World) (x : Str) (t : Tok) : (mixKind prog w).is (.inr x) (.str x t) = true := keyIs_str x t
end L2
namespace L2
open PySem PySem.Spec PyProof.Rows
inductive V where
  | non | bl (b : Bool) | int (i : Int) | str (x : Str) | byt (b : Array UInt8) | flt (b : UInt64) | ref (a : Addr) | ty (n : String)
  deriving DecidableEq
def RelV : V → Value → Prop
  | .non, u => u = Value.none
  | .bl b, u => u = Value.bool b
  | .int i, u => ∃ t, u = Value.int i t
  | .str x, u => ∃ t, u = Value.str x t
  | .byt b, u => ∃ t, u = Value.bytes b t
  | .flt b, u => ∃ t, u = Value.float b t
  | .ref a, u => u = Value.ref a
  | .ty n, u => u = Value.type n
abbrev Vals : List V → List Value → Prop := Paired RelV
theorem Vals.length {xs : List V} {us : List Value} (r : Vals xs us) : xs.length = us.length := Paired.length r
theorem Vals.get : ∀ {xs : List V} {us : List Value} {i : Nat} {x : V}, Vals xs us → xs[i]? = some x → ∃ u, us[i]? = some u ∧ RelV x u
  | _, _, _, _, .nil, e => by simp at e
  | _, _, 0, _, .cons r _, e => by simp at e; subst e; exact ⟨_, rfl, r⟩
  | _, _, i + 1, x, .cons _ t, e => by
    obtain ⟨u, h1, h2⟩ := Vals.get (i := i) (x := x) t (by simpa using e)
    exact ⟨u, by simpa using h1, h2⟩
theorem Vals.set {x : V} {u : Value} (r : RelV x u) : ∀ {xs : List V} {us : List Value} (i : Nat), Vals xs us → Vals (xs.set i x) (us.set i u)
  | _, _, _, .nil => .nil
  | _, _, 0, .cons _ t => .cons r t
  | _, _, i + 1, .cons q t => .cons q (Vals.set r i t)
theorem Vals.append : ∀ {xs ys : List V} {us ws : List Value}, Vals xs us → Vals ys ws → Vals (xs ++ ys) (us ++ ws)
  | _, _, _, _, .nil, s => s
  | _, _, _, _, .cons r t, s => .cons r (Vals.append t s)
theorem Vals.take : ∀ {xs : List V} {us : List Value} (n : Nat), Vals xs us → Vals (xs.take n) (us.take n)
  | _, _, 0, _ => .nil
  | _, _, _ + 1, .nil => .nil
  | _, _, n + 1, .cons r t => .cons r (Vals.take n t)
theorem Vals.drop : ∀ {xs : List V} {us : List Value} (n : Nat), Vals xs us → Vals (xs.drop n) (us.drop n)
  | _, _, 0, r => r
  | _, _, _ + 1, .nil => .nil
  | _, _, n + 1, .cons _ t => Vals.drop n t
def RelO : Option V → Option Value → Prop
  | some v, some u => RelV v u
  | none, none => True
  | _, _ => False
def KV {κ : Type} : List (κ × V) → List (κ × Value) → Prop := Paired fun (p : κ × V) (q : κ × Value) => p.1 = q.1 ∧ RelV p.2 q.2
def kV : Key → V
  | .inl i => .int i
  | .inr x => .str x
inductive HO where
  | lst (xs : List V)
  | tup (xs : List V)
  | dK (kvs : List (Key × V)) | dT (kvs : List (List Key × V))
  | set (S : Int → Bool) (n : Nat)
  | ins (C dx : Addr) (fs : List (Str × V))
  | own (x : Addr)
  | xd (fs : List (Str × V))
  | met (f x : Addr)
  | rng (lo hi : Int)
  | frz (o : Obj) (u : HO)
  | tbl (ps : Array Value)
  | ext (φ : Heap → Prop)
abbrev Hp := Addr → Option HO
def upd (H : Hp) (a : Addr) (o : HO) : Hp := fun b => if b = a then some o else H b
theorem upd_same {H : Hp} {a : Addr} {o : HO} : upd H a o a = some o := by unfold upd; rw [if_pos rfl]
theorem upd_ne {H : Hp} {a b : Addr} {o : HO} (h : b ≠ a) : upd H a o b = H b := by unfold upd; rw [if_neg h]
theorem upd_upd {H : Hp} {a : Addr} {o u : HO} : upd (upd H a o) a u = upd H a u := by
  funext b; unfold upd; split <;> rfl
theorem ne_of {H : Hp} {a b : Addr} {o u : HO} (h : H a = some o) (h' : H b = some u) (d : o ≠ u) : a ≠ b := by
  intro e; subst e; rw [h] at h'; exact d (Option.some.inj h')
theorem ne_of_none {H : Hp} {a b : Addr} {o : HO} (h : H a = some o) (h' : H b = none) : a ≠ b := by
  intro e; subst e; rw [h] at h'; cases h'
section
variable (P : Program) (w : World)
def ObjOk (H : Hp) (h : Heap) (a : Addr) : HO → Prop
  | .lst xs => xs.length ≤ sizeLine ∧ ∃ (its : List Value) (n : Nat), Vals xs its ∧ h.get? a = some { cls := .type "list", data := .seq its.toArray n }
  | .tup xs => xs.length ≤ sizeLine ∧ ∃ its : List Value, Vals xs its ∧ IsTup h a its.toArray
  | .dK kvs => kvs.length ≤ sizeLine ∧ (a == sysModules) = false ∧ ∃ vs, KV kvs vs ∧ h.DictOf (mixKind P w) a vs
  | .dT kvs => kvs.length ≤ sizeLine ∧ (a == sysModules) = false ∧ ∃ xs : List (List Key × Addr × Value),
      Paired (fun (p : List Key × V) (q : List Key × Addr × Value) => p.1 = q.1 ∧ H q.2.1 = some (.tup (p.1.map kV)) ∧ RelV p.2 q.2.2) kvs xs ∧
      ∃ o es ep, h.get? a = some o ∧ o.ExactDict ∧ o.data = .dict es ep ∧ es.toList = xs.map (entryOfKey (tupleKind (mixKind P w))) ∧ (xs.map (·.1)).Nodup
  | .set S n => h.SetOf (intKind P w) a S n
  | .ins C dx fs => H dx = some (.own a) ∧ fs.length ≤ 1000 ∧ dx ≠ a ∧ h.get? a = some (PySem.W.instObj C dx) ∧
      ∃ mA, h.Ns1 dx mA ∧ (∀ f, RelO (fs.lookup f) (mA f)) ∧ PySem.Within mA (fs.map (·.1))
  | .own _ => ∃ o, h.get? a = some o
  | .xd fs => ∃ mA, h.Ns1 a mA ∧ ∀ f, RelO (fs.lookup f) (mA f)
  | .rng lo hi => ∃ t u v, h.get? a = some { cls := .type "range", data := .fields #[.int lo t, .int hi u, .int 1 v] }
  | .frz o u => h.get? a = some o ∧ ObjOk H h a u
  | .tbl ps => h.get? a = some { cls := .none, data := .fields ps }
  | .met f x => h.get? a = some (PySem.W.methodObj (.ref f) (.ref x))
  | .ext φ => φ h ∧ (∃ o, h.get? a = some o) ∧ ∀ h1 h2 : Heap, φ h1 → (∀ o, h1.get? a = some o → h2.get? a = some o) → φ h2
def HOk (H : Hp) (h : Heap) : Prop := ∀ a o, H a = some o → ObjOk P w H h a o
end
section
variable {P : Program} {w : World} {H H' : Hp} {h h' : Heap} {a : Addr} {o : HO}
theorem ObjOk.lt (x : ObjOk P w H h a o) : a < h.objs.size := by
  cases o with
  | lst xs => obtain ⟨_, _, _, _, e⟩ := x; exact Heap.lt_size e
  | tup xs => obtain ⟨_, _, _, p⟩ := x; exact p.lt
  | dK kvs => obtain ⟨_, _, _, _, o, _, _, e, _⟩ := x; exact Heap.lt_size e
  | dT kvs => obtain ⟨_, _, _, _, o, _, _, e, _⟩ := x; exact Heap.lt_size e
  | set S n => obtain ⟨o, _, _, _, e, _⟩ := x; exact Heap.lt_size e
  | ins C dx fs => obtain ⟨_, _, _, e, _⟩ := x; exact Heap.lt_size e
  | own y => obtain ⟨_, e⟩ := x; exact Heap.lt_size e
  | xd fs => obtain ⟨_, ⟨_, _, _, e, _⟩, _⟩ := x; exact Heap.lt_size e
  | rng lo hi => obtain ⟨_, _, _, e⟩ := x; exact Heap.lt_size e
  | frz ob u => obtain ⟨e, _⟩ := x; exact Heap.lt_size e
  | tbl ps => exact Heap.lt_size (show h.get? a = some _ from x)
  | met f y => exact Heap.lt_size (show h.get? a = some _ from x)
  | ext φ => obtain ⟨_, ⟨_, e⟩, _⟩ := x; exact Heap.lt_size e
theorem Paired.mapP {α β : Type} {F G : α → β → Prop} : ∀ {l₁ : List α} {l₂ : List β}, Paired F l₁ l₂ → (∀ a b, F a b → G a b) → Paired G l₁ l₂
  | _, _, .nil, _ => .nil
  | _, _, .cons r t, f => .cons (f _ _ r) (Paired.mapP t f)
theorem ObjOk.stay (x : ObjOk P w H h a o) (k : ∀ b u, (b = a ∨ H b = some (.own a)) → h.get? b = some u → h'.get? b = some u)
    (ho : ∀ b, H b = some (.own a) → H' b = some (.own a)) (ht : ∀ b xs, H b = some (.tup xs) → H' b = some (.tup xs)) : ObjOk P w H' h' a o := by
  induction o with
  | lst xs => obtain ⟨z, its, n, r, e⟩ := x; exact ⟨z, its, n, r, k _ _ (.inl rfl) e⟩
  | tup xs => obtain ⟨z, its, r, ob, e, c⟩ := x; exact ⟨z, its, r, ob, k _ _ (.inl rfl) e, c⟩
  | dK kvs => obtain ⟨z, y, vs, r, ob, es, ep, e, c⟩ := x; exact ⟨z, y, vs, r, ob, es, ep, k _ _ (.inl rfl) e, c⟩
  | dT kvs =>
    obtain ⟨z, y, xs, r, ob, es, ep, e, c⟩ := x
    exact ⟨z, y, xs, Paired.mapP r fun p q z => ⟨z.1, ht _ _ z.2.1, z.2.2⟩, ob, es, ep, k _ _ (.inl rfl) e, c⟩
  | set S n => obtain ⟨ob, es, ep, t, e, c⟩ := x; exact ⟨ob, es, ep, t, k _ _ (.inl rfl) e, c⟩
  | ins C dx fs =>
    obtain ⟨d, z, ne, e, mA, ⟨od, es, ep, e2, c⟩, r⟩ := x
    exact ⟨ho _ d, z, ne, k _ _ (.inl rfl) e, mA, ⟨od, es, ep, k _ _ (.inr d) e2, c⟩, r⟩
  | own y => obtain ⟨ob, e⟩ := x; exact ⟨ob, k _ _ (.inl rfl) e⟩
  | xd fs => obtain ⟨mA, ⟨od, es, ep, e, c⟩, r⟩ := x; exact ⟨mA, ⟨od, es, ep, k _ _ (.inl rfl) e, c⟩, r⟩
  | rng lo hi => obtain ⟨t, u, v, e⟩ := x; exact ⟨t, u, v, k _ _ (.inl rfl) e⟩
  | frz ob u ih => obtain ⟨e, q⟩ := x; exact ⟨k _ _ (.inl rfl) e, ih q⟩
  | tbl ps =>
    have e : h.get? a = some { cls := .none, data := .fields ps } := x
    show h'.get? a = some { cls := .none, data := .fields ps }
    exact k a _ (.inl rfl) e
  | met f y =>
    have e : h.get? a = some (PySem.W.methodObj (.ref f) (.ref y)) := x
    show h'.get? a = some (PySem.W.methodObj (.ref f) (.ref y))
    exact k a _ (.inl rfl) e
  | ext φ => obtain ⟨p, ⟨o, e⟩, st⟩ := x; exact ⟨st _ _ p fun o q => k _ _ (.inl rfl) q, ⟨o, k _ _ (.inl rfl) e⟩, st⟩
theorem HOk.lt (x : HOk P w H h) (e : H a = some o) : a < h.objs.size := (x a o e).lt
theorem HOk.fresh (x : HOk P w H h) (e : h.objs.size ≤ a) : H a = none := by
  cases q : H a with
  | none => rfl
  | some u => exact absurd (Nat.lt_of_lt_of_le (x.lt q) e) (Nat.lt_irrefl _)
theorem HOk.kept (x : HOk P w H h) (k : ∀ b u, h.get? b = some u → h'.get? b = some u) : HOk P w H h' := fun a o e =>
  (x a o e).stay (fun b u _ q => k b u q) (fun _ q => q) fun _ _ q => q
theorem HOk.laid (x : HOk P w H h) (k : ∀ b u, h.get? b = some u → h'.get? b = some u) (hp : h.objs.size ≤ a) (new : ObjOk P w (upd H a o) h' a o) : HOk P w (upd H a o) h' := fun b u e => by
  have hn := x.fresh hp
  by_cases hb : b = a
  · subst hb; rw [upd_same] at e; cases e; exact new
  · rw [upd_ne hb] at e
    exact (x b u e).stay (fun c v _ q => k c v q) (fun c q => by rw [upd_ne (ne_of_none q hn)]; exact q) fun c xs q => by rw [upd_ne (ne_of_none q hn)]; exact q
end
def Rd (H : Hp) (a : Addr) (u : HO) : Prop := H a = some u ∨ ∃ o, H a = some (.frz o u)
theorem Rd.ok {P : Program} {w : World} {H : Hp} {h : Heap} {a : Addr} {u : HO} (r : Rd H a u) (x : HOk P w H h) : ObjOk P w H h a u := by
  rcases r with r | ⟨o, r⟩
  · exact x a u r
  · obtain ⟨_, q⟩ := x a _ r
    exact q
def Mut : Option HO → Prop
  | some (.lst _) => True
  | some (.dK _) => True
  | some (.dT _) => True
  | some (.set _ _) => True
  | some (.ins _ _ _) => True
  | some (.ext _) => True
  | _ => False
section
variable {P : Program} {w : World} {H : Hp} {h h' : Heap} {x e : Addr} {o' : HO}
theorem HOk.write (ok : HOk P w H h) (mu : Mut (H x)) (he : e = x ∨ H e = some (.own x)) (k : ∀ b u, b ≠ e → h.get? b = some u → h'.get? b = some u) (heo : ∃ u, h'.get? e = some u)
    (new : ObjOk P w (upd H x o') h' x o') : HOk P w (upd H x o') h' := fun b u q => by
  have nown : ∀ c y, H c = some (.own y) → c ≠ x := fun c y r z => by subst z; rw [r] at mu; exact mu
  have ntup : ∀ c xs, H c = some (.tup xs) → c ≠ x := fun c xs r z => by subst z; rw [r] at mu; exact mu
  by_cases hb : b = x
  · subst hb; rw [upd_same] at q; cases q; exact new
  · rw [upd_ne hb] at q
    by_cases hbe : b = e
    · have q' : H b = some (.own x) := by
        rcases he with z | z
        · exact absurd (hbe.trans z) hb
        · rw [hbe]; exact z
      rw [q] at q'; cases q'
      obtain ⟨v, hv⟩ := heo
      exact ⟨v, by rw [hbe]; exact hv⟩
    · refine (ok b u q).stay (fun c v hc r => k c v ?_ r) (fun c r => by rw [upd_ne (nown c b r)]; exact r) fun c xs r => by rw [upd_ne (ntup c xs r)]; exact r
      rcases hc with rfl | hc
      · exact hbe
      · rintro rfl
        rcases he with z | z
        · exact nown c b hc z
        · rw [hc] at z; cases z; exact hb rfl
end
structure Un (fs ex : List Addr) (H H' : Hp) (h h' : Heap) : Prop where
  keep : ∀ b o, h.get? b = some o → H b = none → b ∉ fs → b ∉ ex → h'.get? b = some o
  slot : ∀ b o, h.get? b = some o → H b = none → b ∈ fs → b ∉ ex → ∃ sl, h'.get? b = some { o with slots := sl }
  free : ∀ b o, h.get? b = some o → H b = none → b ∉ ex → H' b = none
  there : ∀ b o, h.get? b = some o → b ∉ ex → ∃ o', h'.get? b = some o'
  tups : ∀ b xs, H b = some (.tup xs) → H' b = some (.tup xs)
  frzs : ∀ b o u, H b = some (.frz o u) → H' b = some (.frz o u)
  tbls : ∀ b ps, H b = some (.tbl ps) → ∃ more, H' b = some (.tbl (ps ++ more))
section
variable {fs fs' ex ex' : List Addr} {H H1 H2 : Hp} {h h1 h2 h' : Heap} {a x e : Addr} {o : HO}
theorem Un.any (u : Un fs ex H H1 h h1) {b : Addr} {ob : Obj} (q : h.get? b = some ob) (n : H b = none) (hx : b ∉ ex) : ∃ sl, h1.get? b = some { ob with slots := sl } := by
  by_cases hb : b ∈ fs
  · exact u.slot b ob q n hb hx
  · exact ⟨ob.slots, u.keep b ob q n hb hx⟩
theorem Un.kept (k : ∀ b u, h.get? b = some u → h'.get? b = some u) : Un fs ex H H h h' :=
  ⟨fun b ob q _ _ _ => k b ob q, fun b ob q _ _ _ => ⟨ob.slots, k b ob q⟩, fun _ _ _ n _ => n, fun b ob q _ => ⟨ob, k b ob q⟩, fun _ _ q => q, fun _ _ _ q => q, fun _ ps q => ⟨#[], by rw [q]; simp⟩⟩
theorem Un.refl : Un fs ex H H h h := Un.kept fun _ _ q => q
theorem Un.laid (k : ∀ b u, h.get? b = some u → h'.get? b = some u) (hp : h.objs.size ≤ a) (hn : H a = none) : Un fs ex H (upd H a o) h h' where
  keep := fun b u q _ _ _ => k b u q
  slot := fun b u q _ _ _ => ⟨u.slots, k b u q⟩
  free := fun b u q n _ => by rw [upd_ne (Nat.ne_of_lt (Nat.lt_of_lt_of_le (Heap.lt_size q) hp))]; exact n
  there := fun b u q _ => ⟨u, k b u q⟩
  tups := fun b xs q => by rw [upd_ne (ne_of_none q hn)]; exact q
  frzs := fun b u xs q => by rw [upd_ne (ne_of_none q hn)]; exact q
  tbls := fun b ps q => ⟨#[], by rw [upd_ne (ne_of_none q hn), q]; simp⟩
theorem Un.write (mu : Mut (H x)) (he : e = x ∨ H e = some (.own x)) (k : ∀ b u, b ≠ e → h.get? b = some u → h'.get? b = some u) (heo : ∃ u, h'.get? e = some u) : Un fs ex H (upd H x o) h h' := by
  have hx : ∀ b, H b = none → b ≠ x := fun b n z => by subst z; rw [n] at mu; exact mu
  have hb : ∀ b, H b = none → b ≠ e := fun b n z => by
    subst z
    rcases he with r | r
    · exact hx b n r
    · rw [n] at r; cases r
  have hm : ∀ b u, H b = some u → ¬ Mut (some u) → b ≠ x := fun b u q nm z => by subst z; rw [q] at mu; exact nm mu
  refine ⟨fun b u q n _ _ => k b u (hb b n) q, fun b u q n _ _ => ⟨u.slots, k b u (hb b n) q⟩, fun b u q n _ => by rw [upd_ne (hx b n)]; exact n, fun b u q _ => ?_,
    fun b xs q => by rw [upd_ne (hm b _ q fun z => z)]; exact q, fun b u xs q => by rw [upd_ne (hm b _ q fun z => z)]; exact q, fun b ps q => ⟨#[], by rw [upd_ne (hm b _ q fun z => z), q]; simp⟩⟩
  by_cases hbe : b = e
  · subst hbe; exact heo
  · exact ⟨u, k b u hbe q⟩
end
def trk (h : Heap) (H : Hp) : List Addr := (List.range h.objs.size).filter fun a => (H a).isSome
def hidT (h : Heap) (H : Hp) : Heap := PySem.W.hideAll h (trk h H)
theorem hidT_size (h : Heap) (H : Hp) : (hidT h H).objs.size = h.objs.size := PySem.W.hideAll_size _ _
theorem hidT_get {h : Heap} {H : Hp} {b : Addr} {o : Obj} (e : h.get? b = some o) (n : H b = none) : (hidT h H).get? b = some o :=
  PySem.W.hideAll_get _ e fun hm => by
    have q : (H b).isSome = true := (List.mem_filter.mp hm).2
    rw [n] at q; simp at q
theorem of_hidT {h : Heap} {H : Hp} {b : Addr} {o : Obj} (e : (hidT h H).get? b = some o) : h.get? b = some o ∧ H b = none := by
  have e' : h.get? b = some o := PySem.W.of_hideAll (trk h H) e
  refine ⟨e', ?_⟩
  cases q : H b with
  | none => rfl
  | some x =>
    have hm : b ∈ trk h H := List.mem_filter.mpr ⟨List.mem_range.mpr (Heap.lt_size e'), by simp [q]⟩
    have z : (hidT h H).get? b = none := PySem.W.hideAll_none (trk h H) hm
    rw [z] at e; cases e
end L2
namespace L2
open PySem PySem.Spec PyProof.Rows
structure Mod (K : PySem.W.Frag) (mg : Str → Option Value) (base : Heap) : Prop where
  kin : K.In base
  glob : base.Ns mainGlobals mg
  blt : ∃ mb, base.Ns builtinsNs mb ∧ ∀ x : Str, x ≠ "__name__" → mb x = bootBuiltins x
  nolimit : base.NoLimit
structure Cx where
  prog : Program
  w : World
  K : PySem.W.Frag
  mg : Str → Option Value
  base : Heap
  A : Around
  N : List Str
  s₀ : Shared
  H₀ : Hp
  env : Env
  outer : List Env
  stack : List Env
  ex : List Addr
  fn : Str → Bool
  calm : Bool
  pn : List (Addr × Obj)
  xe : Value → Shared → Prop
def frs (l : List Env) : List Addr := l.filterMap (·.frame)
abbrev Cx.fs (X : Cx) : List Addr := frs X.outer
def Vis (sc : Scope) (x : Str) : Prop := sc.names.lookup x = some .local ∨ sc.names.lookup x = some .cell ∨ sc.names.lookup x = some .free
def Loc (sc : Scope) (x : Str) : Prop := sc.names.lookup x = some .local ∨ sc.names.lookup x = some .cell
def Look (env : Env) (h : Heap) (m : Str → Option Value) (x : Str) (u : Value) : Prop :=
  (env.kindOf x = some .local ∧ m x = some u) ∨ ((env.kindOf x = some .cell ∨ env.kindOf x = some .free) ∧ ∃ c, env.cells.lookup x = some c ∧ h.IsCell c (some u))
structure Cx.Ok (X : Cx) : Prop where
  mod : Mod X.K X.mg X.base
  kind : X.env.scope.kind = .function
  glob : X.env.globals = mainGlobals
  blt : X.env.builtins = builtinsNs
  above : X.s₀.heap.objs.size ≤ X.env.locals
  inj : ∀ x y c, X.env.cells.lookup x = some c → X.env.cells.lookup y = some c → x = y
  has : ∀ x, (X.env.kindOf x = some .cell ∨ X.env.kindOf x = some .free) → ∃ c, X.env.cells.lookup x = some c
  cab : ∀ x c, X.fn x = true → X.env.cells.lookup x = some c → X.s₀.heap.objs.size ≤ c
  hd : X.calm = true → X.A.handled = none
  frames : X.A.frames = some X.stack
  stk : X.stack = X.outer ∨ (X.stack = X.env :: X.outer ∧ X.env.frame = some X.env.locals)
  exf : ∀ b ∈ X.ex, b ≠ X.env.locals ∧ ∀ x c, X.env.cells.lookup x = some c → c ≠ b
  bs : ∀ b o, X.base.get? b = some o → X.s₀.heap.get? b = some o ∧ X.H₀ b = none
  bsz : X.base.objs.size ≤ X.s₀.heap.objs.size
  noex : ∀ b o, X.base.get? b = some o → b ∉ X.ex
  exfs : ∀ b ∈ X.ex, b ∉ X.fs
  funs : X.s₀.heap.FunFrames X.base X.outer
  frf : ∀ b ∈ X.fs, X.H₀ b = none
structure Inv (X : Cx) (pins : List (Addr × Obj)) (σ : List (Option V)) (H : Hp) (s : Shared) : Prop where
  ok : X.Ok
  os : s.os = X.s₀.os
  bare : AllBare s.gens
  base : Un X.fs X.ex X.H₀ H X.s₀.heap s.heap
  loc : ∃ m, s.heap.Ns X.env.locals m ∧ ∀ (i : Nat) (x : Str) (v : V), X.N[i]? = some x → σ[i]? = some (some v) → Vis X.env.scope x → ∃ u, RelV v u ∧ Look X.env s.heap m x u
  cell : ∀ x c, X.env.cells.lookup x = some c → ∃ v, s.heap.IsCell c v
  free : H X.env.locals = none
  freeC : ∀ x c, X.env.cells.lookup x = some c → H c = none
  pin : ∀ p ∈ X.pn ++ pins, s.heap.get? p.1 = some p.2 ∧ H p.1 = none ∧ p.1 ≠ X.env.locals ∧ p.1 ∉ X.fs ∧ ∀ v, p.2.data ≠ .cell v
  hok : HOk X.prog X.w H s.heap
  len : σ.length = X.N.length
section
variable {X : Cx} {pins : List (Addr × Obj)} {σ : List (Option V)} {H H' : Hp} {s : Shared} {h' : Heap}
theorem Cx.Ok.nofr (ok : X.Ok) {b : Addr} {o : Obj} (e : X.base.get? b = some o) : b ∉ X.fs := fun hb => by
  have := (ok.funs.mem hb).1
  rw [e] at this; cases this
theorem Inv.bs (I : Inv X pins σ H s) : ∀ b o, X.base.get? b = some o → s.heap.get? b = some o ∧ H b = none := fun b o e =>
  ⟨I.base.keep b o (I.ok.bs b o e).1 (I.ok.bs b o e).2 (I.ok.nofr e) (I.ok.noex b o e), I.base.free b o (I.ok.bs b o e).1 (I.ok.bs b o e).2 (I.ok.noex b o e)⟩
theorem Inv.bk (I : Inv X pins σ H s) : ∀ b o, X.base.get? b = some o → s.heap.get? b = some o := fun b o e => (I.bs b o e).1
theorem Inv.mod (I : Inv X pins σ H s) : Mod X.K X.mg X.base := I.ok.mod
theorem Inv.kIn (I : Inv X pins σ H s) : X.K.In s.heap := I.ok.mod.kin.keeps I.bk
theorem Inv.lt (I : Inv X pins σ H s) : X.env.locals < s.heap.objs.size := let ⟨_, hn, _⟩ := I.loc; hn.lt
theorem Inv.sz (I : Inv X pins σ H s) : X.s₀.heap.objs.size ≤ s.heap.objs.size := Nat.le_trans I.ok.above (Nat.le_of_lt I.lt)
theorem Inv.nofs (I : Inv X pins σ H s) {a : Addr} (h : s.heap.objs.size ≤ a) : a ∉ X.fs := fun hb => by
  obtain ⟨_, o, ho, _⟩ := I.ok.funs.mem hb
  exact absurd (Nat.lt_of_lt_of_le (Heap.lt_size ho) (Nat.le_trans I.sz h)) (Nat.lt_irrefl _)
theorem Inv.cne (I : Inv X pins σ H s) : ∀ x c, X.env.cells.lookup x = some c → c ≠ X.env.locals := fun x c e z => by
  obtain ⟨v, o, ho, hd⟩ := I.cell x c e
  obtain ⟨m, ⟨o', es, ep, ho', hd', _⟩, _⟩ := I.loc
  rw [z, ho'] at ho; cases ho; rw [hd'] at hd; cases hd
theorem Inv.funs (I : Inv X pins σ H s) : s.heap.FunFrames X.base X.outer := by
  have all : ∀ (l : List Env), (∀ b ∈ frs l, b ∈ X.fs) → X.s₀.heap.FunFrames X.base l → s.heap.FunFrames X.base l := by
    intro l
    induction l with
    | nil => intro _ _; trivial
    | cons env r ih =>
      intro hs hl
      obtain ⟨hk, ⟨L, o, hf, hn, ho, hd⟩, hr⟩ := hl
      have hL : L ∈ X.fs := hs L (by unfold frs; rw [List.filterMap_cons, hf]; exact List.mem_cons_self)
      obtain ⟨sl, e⟩ := I.base.slot L o ho (I.ok.frf L hL) hL fun z => I.ok.exfs L z hL
      exact ⟨hk, ⟨L, _, hf, hn, e, hd⟩, ih (fun b hb => hs b (by unfold frs; rw [List.filterMap_cons, hf]; exact List.mem_cons_of_mem _ hb)) hr⟩
  exact all X.outer (fun _ hb => hb) I.ok.funs
theorem Inv.stack (I : Inv X pins σ H s) : s.heap.FunFrames X.base X.stack := by
  rcases I.ok.stk with e | ⟨e, hf⟩
  · rw [e]; exact I.funs
  · rw [e]
    obtain ⟨m, hn, _⟩ := I.loc
    refine .cons (by rw [I.ok.kind]; decide) hf hn ?_ I.funs
    exact Heap.get?_none_of_le (Nat.le_trans I.ok.bsz I.ok.above)
theorem Inv.stkSub (I : Inv X pins σ H s) : ∀ b ∈ frs X.stack, b ∈ X.env.locals :: X.fs := fun b hb => by
  rcases I.ok.stk with e | ⟨e, hf⟩
  · rw [e] at hb; exact List.mem_cons_of_mem _ hb
  · rw [e] at hb
    unfold frs at hb
    rw [List.filterMap_cons, hf] at hb
    exact hb
theorem Inv.stkFree (I : Inv X pins σ H s) : ∀ b ∈ frs X.stack, H b = none := fun b hb => by
  rcases List.mem_cons.mp (I.stkSub b hb) with e | hb
  · rw [e]; exact I.free
  · obtain ⟨_, o, ho, _⟩ := I.ok.funs.mem hb
    exact I.base.free b o ho (I.ok.frf b hb) fun z => I.ok.exfs b z hb
theorem Inv.step {g' : Array GenState} {t' : Nat} {d' : Drawn} {ch : List Addr} (I : Inv X pins σ H s)
    (hch : ∀ b ∈ ch, (b ∈ X.ex ∨ X.s₀.heap.objs.size ≤ b) ∧ b ≠ X.env.locals ∧ (∀ x c, X.env.cells.lookup x = some c → c ≠ b) ∧ ∀ p ∈ X.pn ++ pins, p.1 ≠ b)
    (keep : ∀ b o, b ≠ X.env.locals → b ∉ X.fs → b ∉ ch → s.heap.get? b = some o → H b = none → h'.get? b = some o)
    (slot : ∀ b o, b ≠ X.env.locals → b ∈ X.fs → b ∉ ch → s.heap.get? b = some o → H b = none → ∃ sl, h'.get? b = some { o with slots := sl }) (free : ∀ b o, b ∉ ch → s.heap.get? b = some o → H b = none → H' b = none)
    (there : ∀ b o, b ∉ ch → s.heap.get? b = some o → ∃ o', h'.get? b = some o')
    (tups : ∀ b xs, H b = some (.tup xs) → H' b = some (.tup xs)) (frzs : ∀ b o u, H b = some (.frz o u) → H' b = some (.frz o u)) (tbls : ∀ b ps, H b = some (.tbl ps) → ∃ more, H' b = some (.tbl (ps ++ more)))
    (ns : ∀ m, s.heap.Ns X.env.locals m → h'.Ns X.env.locals m) (hok : HOk X.prog X.w H' h') (hg : AllBare g') :
    Inv X pins σ H' { s with heap := h', gens := g', drawn := d', toks := t' } := by
  have neL : ∀ b o, X.s₀.heap.get? b = some o → b ≠ X.env.locals := fun b o e => Nat.ne_of_lt (Nat.lt_of_lt_of_le (Heap.lt_size e) I.ok.above)
  have neC : ∀ b o, X.s₀.heap.get? b = some o → b ∉ X.ex → b ∉ ch := fun b o e hx hb => by
    rcases (hch b hb).1 with z | z
    · exact hx z
    · exact absurd (Nat.lt_of_lt_of_le (Heap.lt_size e) z) (Nat.lt_irrefl _)
  have cellK : ∀ x c, X.env.cells.lookup x = some c → ∀ v, s.heap.IsCell c v → h'.IsCell c v := fun x c e v ⟨o, ho, hd⟩ => by
    have nch : c ∉ ch := fun z => (hch c z).2.2.1 x c e rfl
    by_cases hc : c ∈ X.fs
    · obtain ⟨sl, q⟩ := slot c o (I.cne x c e) hc nch ho (I.freeC x c e)
      exact ⟨_, q, hd⟩
    · exact ⟨o, keep c o (I.cne x c e) hc nch ho (I.freeC x c e), hd⟩
  refine ⟨I.ok, I.os, hg, ⟨fun b o e n hb hx => ?_, fun b o e n hb hx => ?_, fun b o e n hx => ?_, fun b o e hx => ?_, fun b xs e => tups b xs (I.base.tups b xs e), fun b o xs e => frzs b o xs (I.base.frzs b o xs e), fun b ps e => ?_⟩, ?_, fun x c e => ?_, ?_, fun x c e => ?_, fun p hp => ?_, hok, I.len⟩
  · exact keep b o (neL b o e) hb (neC b o e hx) (I.base.keep b o e n hb hx) (I.base.free b o e n hx)
  · obtain ⟨sl, e1⟩ := I.base.slot b o e n hb hx
    obtain ⟨sl', e2⟩ := slot b _ (neL b o e) hb (neC b o e hx) e1 (I.base.free b o e n hx)
    exact ⟨sl', e2⟩
  · obtain ⟨o', e1⟩ := I.base.there b o e hx
    exact free b o' (neC b o e hx) e1 (I.base.free b o e n hx)
  · obtain ⟨o', e1⟩ := I.base.there b o e hx
    exact there b o' (neC b o e hx) e1
  · obtain ⟨m1, e1⟩ := I.base.tbls b ps e
    obtain ⟨m2, e2⟩ := tbls b _ e1
    exact ⟨m1 ++ m2, by rw [e2, Array.append_assoc]⟩
  · obtain ⟨m, hn, hl⟩ := I.loc
    refine ⟨m, ns m hn, fun i x v e1 e2 e3 => ?_⟩
    obtain ⟨u, r, l⟩ := hl i x v e1 e2 e3
    refine ⟨u, r, ?_⟩
    rcases l with l | ⟨k, c, e, z⟩
    · exact .inl l
    · exact .inr ⟨k, c, e, cellK x c e _ z⟩
  · obtain ⟨v, z⟩ := I.cell x c e
    exact ⟨v, cellK x c e v z⟩
  · obtain ⟨m, ⟨o, _, _, ho, _⟩, _⟩ := I.loc
    exact free _ o (fun z => (hch _ z).2.1 rfl) ho I.free
  · obtain ⟨v, o, ho, hd⟩ := I.cell x c e
    exact free c o (fun z => (hch c z).2.2.1 x c e rfl) ho (I.freeC x c e)
  · obtain ⟨e, n, ne, nf, d⟩ := I.pin p hp
    have nch : p.1 ∉ ch := fun z => (hch p.1 z).2.2.2 p hp rfl
    exact ⟨keep p.1 p.2 ne nf nch e n, free p.1 p.2 nch e n, ne, nf, d⟩
theorem Inv.un {t' : Nat} (I : Inv X pins σ H s) (u : Un X.fs [] H H' s.heap h') (hok : HOk X.prog X.w H' h') : Inv X pins σ H' { s with heap := h', toks := t' } := by
  obtain ⟨m, ⟨o, es, ep, ho, r⟩, _⟩ := id I.loc
  obtain ⟨sl, hL⟩ := u.any ho I.free (by simp)
  exact I.step (g' := s.gens) (d' := s.drawn) (ch := []) (fun _ z => nomatch z) (fun b o _ hb _ e n => u.keep b o e n hb (by simp)) (fun b o _ hb _ e n => u.slot b o e n hb (by simp)) (fun b o _ e n => u.free b o e n (by simp)) (fun b o _ e => u.there b o e (by simp)) u.tups u.frzs u.tbls (fun m' hm => by
    obtain ⟨o', es', ep', ho', r'⟩ := hm
    rw [ho] at ho'; cases ho'
    exact ⟨_, es', ep', hL, r'⟩) hok I.bare
theorem Inv.call {g' : Array GenState} {t' : Nat} {d' : Drawn} {ch : List Addr} (I : Inv X pins σ H s) (u : Un (frs X.stack) ch H H' s.heap h') (hok : HOk X.prog X.w H' h') (hg : AllBare g')
    (hch : ∀ b ∈ ch, (b ∈ X.ex ∨ X.s₀.heap.objs.size ≤ b) ∧ b ≠ X.env.locals ∧ (∀ x c, X.env.cells.lookup x = some c → c ≠ b) ∧ ∀ p ∈ X.pn ++ pins, p.1 ≠ b) :
    Inv X pins σ H' { s with heap := h', gens := g', drawn := d', toks := t' } := by
  obtain ⟨m, ⟨o, es, ep, ho, r⟩, _⟩ := id I.loc
  obtain ⟨sl, hL⟩ := u.any ho I.free fun z => (hch _ z).2.1 rfl
  exact I.step (ch := ch) hch (fun b o hL hb hc e n => u.keep b o e n (fun z => (List.mem_cons.mp (I.stkSub b z)).elim hL hb) hc) (fun b o _ _ hc e n => u.any e n hc) (fun b o hc e n => u.free b o e n hc) (fun b o hc e => u.there b o e hc) u.tups u.frzs u.tbls (fun m' hm => by
    obtain ⟨o', es', ep', ho', r'⟩ := hm
    rw [ho] at ho'; cases ho'
    exact ⟨_, es', ep', hL, r'⟩) hok hg
theorem Inv.turned {t' : Nat} {it : Addr} (I : Inv X pins σ H s) (k : ∀ b o, b ≠ it → s.heap.get? b = some o → h'.get? b = some o) (hn : H it = none) (hL : it ≠ X.env.locals)
    (h1 : it ∈ X.ex ∨ X.s₀.heap.objs.size ≤ it) (h2 : ∀ x c, X.env.cells.lookup x = some c → c ≠ it) (h3 : ∀ p ∈ X.pn ++ pins, p.1 ≠ it) : Inv X pins σ H { s with heap := h', toks := t' } := by
  have nit : ∀ b u, H b = some u → b ≠ it := fun b u e z => by rw [z, hn] at e; cases e
  refine I.step (g' := s.gens) (d' := s.drawn) (ch := [it]) (fun b hb => ?_) (fun b o _ _ hc e _ => k b o (fun z => hc (by simp [z])) e) (fun b o _ _ hc e _ => ⟨o.slots, k b o (fun z => hc (by simp [z])) e⟩) (fun _ _ _ _ n => n)
    (fun b o hc e => ⟨o, k b o (fun z => hc (by simp [z])) e⟩) (fun _ _ e => e) (fun _ _ _ e => e) (fun b ps e => ⟨#[], by rw [e]; simp⟩) (fun m hm => ?_) (fun b u e => ?_) I.bare
  · have e : b = it := by simpa using hb
    subst e
    exact ⟨h1, hL, h2, h3⟩
  · obtain ⟨o, es, ep, ho, r⟩ := hm
    exact ⟨o, es, ep, k _ o (Ne.symm hL) ho, r⟩
  · refine (I.hok b u e).stay (fun c v hc q => k c v ?_ q) (fun _ q => q) fun _ _ q => q
    rcases hc with z | z
    · rw [z]; exact nit b u e
    · exact nit c _ z
theorem Inv.tok (I : Inv X pins σ H s) (t : Nat) : Inv X pins σ H { s with toks := t } := I.un (h' := s.heap) (t' := t) Un.refl I.hok
theorem Inv.kept {t' : Nat} (I : Inv X pins σ H s) (k : ∀ b u, s.heap.get? b = some u → h'.get? b = some u) : Inv X pins σ H { s with heap := h', toks := t' } := I.un (Un.kept k) (I.hok.kept k)
theorem Inv.laid {a : Addr} {o : HO} {t' : Nat} (I : Inv X pins σ H s) (k : ∀ b u, s.heap.get? b = some u → h'.get? b = some u) (hp : s.heap.objs.size ≤ a) (new : ObjOk X.prog X.w (upd H a o) h' a o) :
    Inv X pins σ (upd H a o) { s with heap := h', toks := t' } := I.un (Un.laid k hp (I.hok.fresh hp)) (I.hok.laid k hp new)
theorem Inv.write {x e : Addr} {o : HO} {t' : Nat} (I : Inv X pins σ H s) (mu : Mut (H x)) (he : e = x ∨ H e = some (.own x)) (k : ∀ b u, b ≠ e → s.heap.get? b = some u → h'.get? b = some u) (heo : ∃ u, h'.get? e = some u)
    (new : ObjOk X.prog X.w (upd H x o) h' x o) : Inv X pins σ (upd H x o) { s with heap := h', toks := t' } := I.un (Un.write mu he k heo) (I.hok.write mu he k heo new)
theorem Inv.weak {σ' : List (Option V)} (I : Inv X pins σ H s) (hl : σ'.length = σ.length) (w : ∀ (i : Nat) v, σ'[i]? = some (some v) → σ[i]? = some (some v)) : Inv X pins σ' H s :=
  ⟨I.ok, I.os, I.bare, I.base, let ⟨m, hn, hl'⟩ := I.loc; ⟨m, hn, fun i x v e1 e2 e3 => hl' i x v e1 (w i v e2) e3⟩, I.cell, I.free, I.freeC, I.pin, I.hok, hl.trans I.len⟩
theorem Inv.pins_of {pins' : List (Addr × Obj)} (I : Inv X pins σ H s) (h : ∀ p ∈ pins', s.heap.get? p.1 = some p.2 ∧ H p.1 = none ∧ p.1 ≠ X.env.locals ∧ p.1 ∉ X.fs ∧ ∀ v, p.2.data ≠ .cell v) : Inv X pins' σ H s :=
  ⟨I.ok, I.os, I.bare, I.base, I.loc, I.cell, I.free, I.freeC, fun p hp => (List.mem_append.mp hp).elim (fun z => I.pin p (List.mem_append_left _ z)) (h p), I.hok, I.len⟩
theorem nodup_ix {N : List Str} (hN : N.Nodup) {i j : Nat} {x : Str} (a : N[i]? = some x) (b : N[j]? = some x) : i = j := by
  obtain ⟨h1, e1⟩ := List.getElem?_eq_some_iff.mp a
  obtain ⟨h2, e2⟩ := List.getElem?_eq_some_iff.mp b
  exact (List.getElem_inj hN).mp (e1.trans e2.symm)
theorem store_ok2 {M : Model} {A : Around} {E : Value → Shared → Prop} {i : Nat} {x : Str} {v : V} {u : Value} {Q : Unit → Shared → Prop} (I : Inv X pins σ H s) (hN : X.N.Nodup) (hi : X.N[i]? = some x) (hx : Loc X.env.scope x) (r : RelV v u)
    (h : ∀ s', Inv X pins (σ.set i (some v)) H s' → (∃ a, Heap.SameBut a s.heap s'.heap ∧ (a = X.env.locals ∨ X.env.cells.lookup x = some a)) → Q () s') (hf : X.fn x = true ∨ X.env.scope.names.lookup x = some .local := by first | exact .inl rfl | exact .inr rfl | assumption) : wpAny M A (storeName X.env x u) Q E s := by
  obtain ⟨m, hn, hl⟩ := id I.loc
  have hcls : (X.env.scope.kind == .class || (X.env.scope.kind == .module && X.env.locals != X.env.globals)) = false := by rw [I.ok.kind]; rfl
  have hiσ : i < σ.length := by rw [I.len]; exact (List.getElem?_eq_some_iff.mp hi).1
  have cne := I.cne
  have tracked : ∀ {a : Addr} {h' : Heap}, (∃ o, s.heap.get? a = some o ∧ H a = none) → Heap.SameBut a s.heap h' → HOk X.prog X.w H h' := fun {a h'} ha hs b ob e => by
    obtain ⟨_, _, hfree⟩ := ha
    refine (I.hok b ob e).stay (fun c w' hc q => (hs.2 c ?_).trans q) (fun _ q => q) fun _ _ q => q
    rintro rfl
    rcases hc with rfl | hc
    · rw [hfree] at e; cases e
    · rw [hfree] at hc; cases hc
  rcases hx with hk | hk
  · refine wpAny_storeName_local hk hn (fun h' hn' hs => ?_) hcls
    obtain ⟨oL, _, _, hoL, _⟩ := id hn
    refine h _ ⟨I.ok, I.os, I.bare, ⟨fun b o e n hb hx => ?_, fun b o e n hb hx => ?_, I.base.free, fun b o e hx => ?_, I.base.tups, I.base.frzs, I.base.tbls⟩, ⟨_, hn', fun j y v' e1 e2 e3 => ?_⟩, fun y c e => ?_, I.free, I.freeC, fun p hp => ?_, tracked ⟨oL, hoL, I.free⟩ hs, by simpa using I.len⟩ ⟨_, hs, .inl rfl⟩
    · exact (hs.2 b (Nat.ne_of_lt (Nat.lt_of_lt_of_le (Heap.lt_size e) I.ok.above))).trans (I.base.keep b o e n hb hx)
    · obtain ⟨sl, e1⟩ := I.base.slot b o e n hb hx
      exact ⟨sl, (hs.2 b (Nat.ne_of_lt (Nat.lt_of_lt_of_le (Heap.lt_size e) I.ok.above))).trans e1⟩
    · obtain ⟨o', e1⟩ := I.base.there b o e hx
      exact ⟨o', (hs.2 b (Nat.ne_of_lt (Nat.lt_of_lt_of_le (Heap.lt_size e) I.ok.above))).trans e1⟩
    · by_cases hj : j = i
      · subst hj
        rw [hi] at e1; cases e1
        rw [List.getElem?_set_self hiσ] at e2
        cases e2
        exact ⟨u, r, .inl ⟨hk, by simp⟩⟩
      · rw [List.getElem?_set_ne (Ne.symm hj)] at e2
        obtain ⟨u', r', q⟩ := hl j y v' e1 e2 e3
        refine ⟨u', r', ?_⟩
        rcases q with ⟨k, e⟩ | ⟨k, c, e, z⟩
        · refine .inl ⟨k, ?_⟩
          have : y ≠ x := fun e => hj (nodup_ix hN e1 (e ▸ hi))
          simp [this, e]
        · exact .inr ⟨k, c, e, z.sameBut hs (cne y c e)⟩
    · obtain ⟨w', z⟩ := I.cell y c e
      exact ⟨w', z.sameBut hs (cne y c e)⟩
    · obtain ⟨e, n, ne, nf, d⟩ := I.pin p hp
      exact ⟨(hs.2 p.1 ne).trans e, n, ne, nf, d⟩
  · have hfn : X.fn x = true := by
      rcases hf with z | z
      · exact z
      · rw [z] at hk; cases hk
    obtain ⟨c, hc⟩ := I.ok.has x (.inl hk)
    obtain ⟨w', z⟩ := I.cell x c hc
    refine wpAny_storeName_cell I.ok.kind hk hc z (fun h' hc' hs => ?_)
    obtain ⟨oc, hoc, hocd⟩ := id z
    refine h { s with heap := h' } ⟨I.ok, I.os, I.bare, ⟨fun b o e n hb hx => ?_, fun b o e n hb hx => ?_, I.base.free, fun b o e hx => ?_, I.base.tups, I.base.frzs, I.base.tbls⟩, ⟨m, hn.sameBut hs (Ne.symm (cne x c hc)), fun j y v' e1 e2 e3 => ?_⟩, fun y c' e => ?_, I.free, I.freeC, fun p hp => ?_, tracked ⟨oc, hoc, I.freeC x c hc⟩ hs, by simpa using I.len⟩ ⟨c, hs, .inr hc⟩
    · exact (hs.2 b (Nat.ne_of_lt (Nat.lt_of_lt_of_le (Heap.lt_size e) (I.ok.cab x c hfn hc)))).trans (I.base.keep b o e n hb hx)
    · obtain ⟨sl, e1⟩ := I.base.slot b o e n hb hx
      exact ⟨sl, (hs.2 b (Nat.ne_of_lt (Nat.lt_of_lt_of_le (Heap.lt_size e) (I.ok.cab x c hfn hc)))).trans e1⟩
    · obtain ⟨o', e1⟩ := I.base.there b o e hx
      exact ⟨o', (hs.2 b (Nat.ne_of_lt (Nat.lt_of_lt_of_le (Heap.lt_size e) (I.ok.cab x c hfn hc)))).trans e1⟩
    · by_cases hj : j = i
      · subst hj
        rw [hi] at e1; cases e1
        rw [List.getElem?_set_self hiσ] at e2
        cases e2
        exact ⟨u, r, .inr ⟨.inl hk, c, hc, hc'⟩⟩
      · rw [List.getElem?_set_ne (Ne.symm hj)] at e2
        obtain ⟨u', r', q⟩ := hl j y v' e1 e2 e3
        refine ⟨u', r', ?_⟩
        rcases q with q | ⟨k, c', e, z'⟩
        · exact .inl q
        · refine .inr ⟨k, c', e, z'.sameBut hs ?_⟩
          rintro rfl
          exact hj (nodup_ix hN e1 (I.ok.inj _ _ _ e hc ▸ hi))
    · by_cases hcc : c' = c
      · subst hcc; exact ⟨_, hc'⟩
      · obtain ⟨w2, z2⟩ := I.cell y c' e
        exact ⟨w2, z2.sameBut hs hcc⟩
    · obtain ⟨e, n, ne, nf, d⟩ := I.pin p hp
      refine ⟨(hs.2 p.1 ?_).trans e, n, ne, nf, d⟩
      intro q
      rw [q, hoc] at e
      have q' : oc = p.2 := Option.some.inj e
      exact d w' (by rw [← q']; exact hocd)
theorem store_ok {M : Model} {A : Around} {E : Value → Shared → Prop} {i : Nat} {x : Str} {v : V} {u : Value} {Q : Unit → Shared → Prop} (I : Inv X pins σ H s) (hN : X.N.Nodup) (hi : X.N[i]? = some x) (hx : Loc X.env.scope x) (r : RelV v u)
    (h : ∀ s', Inv X pins (σ.set i (some v)) H s' → Q () s') (hf : X.fn x = true ∨ X.env.scope.names.lookup x = some .local := by first | exact .inl rfl | exact .inr rfl | assumption) : wpAny M A (storeName X.env x u) Q E s :=
  store_ok2 I hN hi hx r (fun s' I' _ => h s' I') hf
theorem Inv.call' {s' : Shared} {ch : List Addr} (I : Inv X pins σ H s) (ho : s'.os = s.os) (u : Un (frs X.stack) ch H H' s.heap s'.heap) (hok : HOk X.prog X.w H' s'.heap) (hg : AllBare s'.gens)
    (hch : ∀ b ∈ ch, (b ∈ X.ex ∨ X.s₀.heap.objs.size ≤ b) ∧ b ≠ X.env.locals ∧ (∀ x c, X.env.cells.lookup x = some c → c ≠ b) ∧ ∀ p ∈ X.pn ++ pins, p.1 ≠ b) : Inv X pins σ H' s' := by
  obtain ⟨h', g', d', t', o'⟩ := s'
  have e : o' = s.os := ho
  subst e
  exact I.call (g' := g') (t' := t') (d' := d') u hok hg hch
end
abbrev XK := Value → Option Addr → Hp → Prop
abbrev St := List (Option V)
abbrev VK := V → Hp → Prop
abbrev TE := St → Hp → VK → Prop
abbrev TT := St → Hp → (Bool → Hp → Prop) → Prop
abbrev TA := St → Hp → (List V → Hp → Prop) → Prop
structure Ends where
  nx : St → Hp → Prop
  rt : VK
  bk : St → Hp → Prop := fun _ _ => False
  ct : St → Hp → Prop := fun _ _ => False
abbrev TS := Ends → St → Hp → Prop
def EP (X : Cx) (pins : List (Addr × Obj)) (σ : St) (Q : VK) (u : Value) (s' : Shared) : Prop := ∃ v H', Inv X pins σ H' s' ∧ RelV v u ∧ Q v H'
def TP (X : Cx) (pins : List (Addr × Obj)) (σ : St) (Q : Bool → Hp → Prop) (b : Bool) (s' : Shared) : Prop := ∃ H', Inv X pins σ H' s' ∧ Q b H'
def AP (X : Cx) (pins : List (Addr × Obj)) (σ : St) (Q : List V → Hp → Prop) (us : List Value) (s' : Shared) : Prop := ∃ vs H', Inv X pins σ H' s' ∧ Vals vs us ∧ Q vs H'
def SP (X : Cx) (pins : List (Addr × Obj)) (D : Ends) (f : Flow) (s' : Shared) : Prop :=
  match f with
  | .next => ∃ σ' H', Inv X pins σ' H' s' ∧ D.nx σ' H'
  | .brk => ∃ σ' H', Inv X pins σ' H' s' ∧ D.bk σ' H'
  | .cont => ∃ σ' H', Inv X pins σ' H' s' ∧ D.ct σ' H'
  | .ret u => ∃ v σ' H', Inv X pins σ' H' s' ∧ RelV v u ∧ D.rt v H'
def PE (X : Cx) (e : Expr) (t : TE) : Prop :=
  ∀ (pins : List (Addr × Obj)) (s : Shared) (σ : St) (H : Hp) (Q : VK), Inv X pins σ H s → t σ H Q → wpAny (model X.prog X.w) X.A (eval e X.env) (EP X pins σ Q) X.xe s
def PT (X : Cx) (e : Expr) (t : TT) : Prop :=
  ∀ (pins : List (Addr × Obj)) (s : Shared) (σ : St) (H : Hp) (Q : Bool → Hp → Prop), Inv X pins σ H s → t σ H Q → wpAny (model X.prog X.w) X.A (isTrue e X.env (eval e X.env)) (TP X pins σ Q) X.xe s
def PW (X : Cx) (e : Expr) (t : TT) : Prop :=
  ∀ (whole : Sem Value) (pins : List (Addr × Obj)) (s : Shared) (σ : St) (H : Hp) (Q : Bool → Hp → Prop), Inv X pins σ H s → t σ H Q → wpAny (model X.prog X.w) X.A (isTrue e X.env whole) (TP X pins σ Q) X.xe s
theorem PW.pt {X : Cx} {e : Expr} {t : TT} (h : PW X e t) : PT X e t := h _
def PA (X : Cx) (es : List Expr) (t : TA) : Prop :=
  ∀ (pos : Pos) (pins : List (Addr × Obj)) (s : Shared) (σ : St) (H : Hp) (Q : List V → Hp → Prop), Inv X pins σ H s → t σ H Q → wpAny (model X.prog X.w) X.A (spliced (backTo pos (starEach es X.env))) (AP X pins σ Q) X.xe s
def PS (X : Cx) (st : Stmt) (t : TS) : Prop :=
  ∀ (pins : List (Addr × Obj)) (s : Shared) (σ : St) (H : Hp) (D : Ends), Inv X pins σ H s → t D σ H → wpAny (model X.prog X.w) X.A (exec st X.env) (SP X pins D) X.xe s
def PSs (X : Cx) (st : List Stmt) (t : TS) : Prop :=
  ∀ (pins : List (Addr × Obj)) (s : Shared) (σ : St) (H : Hp) (D : Ends), Inv X pins σ H s → t D σ H → wpAny (model X.prog X.w) X.A (execs st X.env) (SP X pins D) X.xe s
theorem thn {α : Type} {t : Sem α} {Q Q' : α → Shared → Prop} {M : Model} {A : Around} {E : Value → Shared → Prop} {s : Shared} (h : wpAny M A t Q E s) (hQ : ∀ a s, Q a s → Q' a s) : wpAny M A t Q' E s := wpAny_mono h hQ fun _ _ x => x
end L2
namespace L2
open PySem PySem.Spec PyProof.Rows
section
variable {X : Cx}
def tVar (i : Nat) : TE := fun σ H Q => ∃ v, σ[i]? = some (some v) ∧ Q v H
def tC (v : V) : TE := fun _ H Q => Q v H
theorem pe_var {i : Nat} {x : Str} {pos : Pos} (hN : X.N[i]? = some x) (hv : Vis X.env.scope x) (hd : (x == ("__debug__" : Str)) = false := by decide) (hcd : (x == ("__classdict__" : Str)) = false := by decide) : PE X (.Name x pos) (tVar i) := by
  intro pins s σ H Q I h
  obtain ⟨v, e, h⟩ := h
  obtain ⟨m, hn, hl⟩ := I.loc
  obtain ⟨u, r, l⟩ := hl i x v hN e hv
  have fin : EP X pins σ Q u s := ⟨v, H, I, r, h⟩
  rcases l with ⟨hk, hm⟩ | ⟨hk, c, hc, hcell⟩
  · exact wpAny_Name (wpAny_loadName_local I.ok.kind hk hn hm fin) hd
  · rcases hk with hk | hk
    · exact wpAny_Name (wpAny_loadName_cell I.ok.kind hk hc hcell fin) hd
    · exact wpAny_Name (wpAny_loadName_free I.ok.kind hk hc hcell fin hcd) hd
theorem pe_int {i j pos} : PE X (.Constant (.int i) j pos) (tC (.int i)) := fun _ _ _ H _ I h => wpAny_Constant_int ⟨.int i, H, I.tok _, ⟨_, rfl⟩, h⟩
theorem pe_bl {b j pos} : PE X (.Constant (.bool b) j pos) (tC (.bl b)) := fun _ _ _ H _ I h => Constant_bool ⟨.bl b, H, I, rfl, h⟩
theorem pe_non {j pos} : PE X (.Constant .none j pos) (tC .non) := fun _ _ _ H _ I h => Constant_none ⟨.non, H, I, rfl, h⟩
theorem pe_str {x j pos} : PE X (.Constant (.str x) j pos) (tC (.str x)) := fun _ _ _ H _ I h => Calls.Constant_str ⟨.str x, H, I.tok _, ⟨_, rfl⟩, h⟩
def Gl (X : Cx) (x : Str) : Prop := X.env.kindOf x = some .globalImplicit
theorem ld_glob {E : Value → Shared → Prop} {pins : List (Addr × Obj)} {s : Shared} {σ : St} {H : Hp} {x : Str} {u : Value} {pos : Pos} {Q : Value → Shared → Prop} (I : Inv X pins σ H s) (hg : Gl X x) (hm : X.mg x = some u) (h : Q u s)
    (hd : (x == ("__debug__" : Str)) = false := by decide) : wpAny (model X.prog X.w) X.A (eval (.Name x pos) X.env) Q E s :=
  Calls.Name_function_global I.ok.kind hg (Calls.loadGlobal_global (by rw [I.ok.glob]; exact I.mod.glob.keeps I.bk) hm h) hd
theorem ld_blt {E : Value → Shared → Prop} {pins : List (Addr × Obj)} {s : Shared} {σ : St} {H : Hp} {x : Str} {u : Value} {pos : Pos} {Q : Value → Shared → Prop} (I : Inv X pins σ H s) (hg : Gl X x) (hm : X.mg x = none) (hv : bootBuiltins x = some u) (h : Q u s)
    (hn : x ≠ "__name__" := by decide) (hd : (x == ("__debug__" : Str)) = false := by decide) : wpAny (model X.prog X.w) X.A (eval (.Name x pos) X.env) Q E s := by
  obtain ⟨mb, h1, h2⟩ := I.mod.blt
  exact Calls.Name_function_global I.ok.kind hg (Calls.loadGlobal_builtin (by rw [I.ok.glob]; exact I.mod.glob.keeps I.bk) hm (by rw [I.ok.blt]; exact h1.keeps I.bk) ((h2 x hn).trans hv) h) hd
theorem pe_glob {x : Str} {v : V} {u : Value} {pos : Pos} (hg : Gl X x) (hm : X.mg x = some u) (r : RelV v u) (hd : (x == ("__debug__" : Str)) = false := by decide) : PE X (.Name x pos) (tC v) :=
  fun _ _ _ H _ I h => ld_glob I hg hm ⟨v, H, I, r, h⟩ hd
theorem pe_bltn {x : Str} {v : V} {u : Value} {pos : Pos} (hg : Gl X x) (hm : X.mg x = none) (hv : bootBuiltins x = some u) (r : RelV v u) (hn : x ≠ "__name__" := by decide) (hd : (x == ("__debug__" : Str)) = false := by decide) : PE X (.Name x pos) (tC v) :=
  fun _ _ _ H _ I h => ld_blt I hg hm hv ⟨v, H, I, r, h⟩ hn hd
variable {a b : Expr} {ta tb : TE} {pos : Pos}
def PC (X : Cx) (op : CmpOp) (a b : Expr) (t : TE) : Prop :=
  ∀ (pins : List (Addr × Obj)) (s : Shared) (σ : St) (H : Hp) (Q : VK), Inv X pins σ H s → t σ H Q →
    wpAny (model X.prog X.w) X.A (eval a X.env) (fun v s₁ => wpAny (model X.prog X.w) X.A (eval b X.env) (fun u s₂ => wpAny (model X.prog X.w) X.A (compareOp op v u) (EP X pins σ Q) X.xe s₂) X.xe s₁) X.xe s
def tB (t : TE) : TT := fun σ H Q => t σ H fun x H1 => ∃ c, x = .bl c ∧ Q c H1
theorem pe_cmp {op : CmpOp} {t : TE} (h : PC X op a b t) (h1 : behindInMarks op b = false := by first | exact nobehind _ (by decide) (by decide) | rfl) : PE X (.Compare a [op] [b] pos) t := fun pins s σ H Q I hw => wpAny_Compare1 (h pins s σ H Q I hw) h1
theorem pt_val {e : Expr} {t : TE} (h : PE X e t) (he : ∀ whole, isTrue e X.env whole = (do let v ← whole; standAt e.pos; holding [v] (truthy v)) := by intro _; rfl) : PT X e (tB t) := by
  intro pins s σ H Q I hw
  refine isTrue_plain (thn (h pins s σ H _ I hw) fun v s1 ⟨x, H1, I1, r1, q1⟩ => ?_) (he _)
  obtain ⟨d, rfl, q⟩ := q1
  cases r1
  exact wpAny_truthy_bool ⟨H1, I1, q⟩
variable {tA tB' : TT} {rest : List Expr}
def tAnd (t u : TT) : TT := fun σ H Q => t σ H fun c H1 => if c = true then u σ H1 Q else Q false H1
def tOr (t u : TT) : TT := fun σ H Q => t σ H fun c H1 => if c = true then Q true H1 else u σ H1 Q
def tNot (t : TT) : TT := fun σ H Q => t σ H fun c H1 => Q (!c) H1
theorem pw_and1 (ha : PT X a tA) : PW X (.BoolOp .And [a] pos) tA := by
  intro wh pins s σ H Q I h
  refine isTrue_and (thn (ha pins s σ H Q I h) fun c s1 e => ?_)
  cases c with
  | true => exact isTrue_and_nil e
  | false => exact e
theorem pw_or1 (ha : PT X a tA) : PW X (.BoolOp .Or [a] pos) tA := by
  intro wh pins s σ H Q I h
  refine isTrue_or (thn (ha pins s σ H Q I h) fun c s1 e => ?_)
  cases c with
  | false => exact isTrue_or_nil e
  | true => exact e
theorem pw_and (ha : PT X a tA) (hb : PW X (.BoolOp .And (b :: rest) pos) tB') : PW X (.BoolOp .And (a :: b :: rest) pos) (tAnd tA tB') := by
  intro wh pins s σ H Q I h
  refine isTrue_and (thn (ha pins s σ H _ I h) fun c s1 ⟨H1, I1, q1⟩ => ?_)
  cases c with
  | true => exact hb wh pins s1 σ H1 Q I1 q1
  | false => exact ⟨H1, I1, q1⟩
theorem pw_or (ha : PT X a tA) (hb : PW X (.BoolOp .Or (b :: rest) pos) tB') : PW X (.BoolOp .Or (a :: b :: rest) pos) (tOr tA tB') := by
  intro wh pins s σ H Q I h
  refine isTrue_or (thn (ha pins s σ H _ I h) fun c s1 ⟨H1, I1, q1⟩ => ?_)
  cases c with
  | true => exact ⟨H1, I1, q1⟩
  | false => exact hb wh pins s1 σ H1 Q I1 q1
theorem pt_not (ha : PT X a tA) : PT X (.UnaryOp .Not a pos) (tNot tA) := by
  intro pins s σ H Q I h
  exact isTrue_not (ha pins s σ H (fun c H1 => Q (!c) H1) I h)
def tAndV (ta tb : TE) : TE := fun σ H Q => ta σ H fun x H1 => ∃ c, x = .bl c ∧ if c = true then tb σ H1 Q else Q (.bl false) H1
def tNotV (ta : TE) : TE := fun σ H Q => ta σ H fun x H1 => ∃ c, x = .bl c ∧ Q (.bl (!c)) H1
theorem pe_one {op} {t : TE} (h : PE X a t) : PE X (.BoolOp op [a] pos) t := fun pins s σ H Q I hw => BoolOp_one (h pins s σ H Q I hw)
theorem pe_and (ha : PE X a ta) (hb : PE X (.BoolOp .And (b :: rest) pos) tb) : PE X (.BoolOp .And (a :: b :: rest) pos) (tAndV ta tb) := by
  intro pins s σ H Q I h
  refine BoolOp_and (thn (ha pins s σ H _ I h) fun v s1 ⟨x, H1, I1, r1, q1⟩ => ?_)
  obtain ⟨c, rfl, q1⟩ := q1
  cases r1
  refine wpAny_truthy_bool ?_
  cases c with
  | true => exact hb pins s1 σ H1 Q I1 q1
  | false => exact ⟨.bl false, H1, I1, rfl, q1⟩
theorem pe_not (ha : PE X a ta) : PE X (.UnaryOp .Not a pos) (tNotV ta) := by
  intro pins s σ H Q I h
  refine UnaryOp_ (thn (ha pins s σ H _ I h) fun v s1 ⟨x, H1, I1, r1, q1⟩ => ?_)
  obtain ⟨c, rfl, q1⟩ := q1
  cases r1
  exact not_of (wpAny_truthy_bool ⟨.bl (!c), H1, I1, rfl, q1⟩)
end
end L2
namespace L2
open PySem PySem.Spec PyProof.Rows
def SqL (K : PySem.W.Frag) (H : Hp) (a : Addr) (xs : List V) : Prop :=
  Rd H a (.lst xs) ∨
    ∃ (o : Obj) (its : Array Value) (n : Nat), K.lookup a = some o ∧ o.cls = .type "list" ∧ o.dict = none ∧ o.data = .seq its n ∧ its.size ≤ sizeLine ∧ Vals xs its.toList
def SqT (K : PySem.W.Frag) (H : Hp) (a : Addr) (xs : List V) : Prop :=
  Rd H a (.tup xs) ∨
    ∃ (o : Obj) (its : Array Value) (n : Nat), K.lookup a = some o ∧ o.cls = .type "tuple" ∧ o.data = .seq its n ∧ its.size ≤ sizeLine ∧ Vals xs its.toList
def absV : Value → Option V
  | .none => some .non
  | .bool b => some (.bl b)
  | .int i _ => some (.int i)
  | .str x _ => some (.str x)
  | .bytes b _ => some (.byt b)
  | .float b _ => some (.flt b)
  | .ref a => some (.ref a)
  | .type n => some (.ty n)
  | _ => none
theorem RelV.abs {x : V} {u : Value} (r : RelV x u) : absV u = some x := by
  cases x with
  | non => cases r; rfl
  | bl _ => cases r; rfl
  | int _ => obtain ⟨t, rfl⟩ := r; rfl
  | str _ => obtain ⟨t, rfl⟩ := r; rfl
  | byt _ => obtain ⟨t, rfl⟩ := r; rfl
  | flt _ => obtain ⟨t, rfl⟩ := r; rfl
  | ref _ => cases r; rfl
  | ty _ => cases r; rfl
theorem RelV.inj {x y : V} {u : Value} (r : RelV x u) (q : RelV y u) : x = y := Option.some.inj (r.abs.symm.trans q.abs)
theorem Vals.inj : ∀ {xs ys : List V} {us : List Value}, Vals xs us → Vals ys us → xs = ys
  | _, _, _, .nil, .nil => rfl
  | _, _, _, .cons r t, .cons r' t' => by rw [r.inj r', Vals.inj t t']
section
variable {X : Cx} {pins : List (Addr × Obj)} {σ : St} {H : Hp} {s : Shared} {a : Addr} {xs ys : List V}
theorem SqL.of {K : PySem.W.Frag} (h : H a = some (.lst xs)) : SqL K H a xs := .inl (.inl h)
theorem SqT.of {K : PySem.W.Frag} (h : H a = some (.tup xs)) : SqT K H a xs := .inl (.inl h)
theorem Inv.list (I : Inv X pins σ H s) (h : SqL X.K H a xs) : ∃ its : List Value, Vals xs its ∧ PlainL s.heap a its.toArray ∧ xs.length ≤ sizeLine := by
  rcases h with h | ⟨o, its, n, hk, hc, hd, hs, hz, r⟩
  · obtain ⟨z, its, n, r, e⟩ := h.ok I.hok
    exact ⟨its, r, ⟨_, n, e, rfl, rfl, rfl⟩, z⟩
  · refine ⟨its.toList, r, ⟨o, n, I.kIn a o hk, hc, hd, by simpa using hs⟩, ?_⟩
    have e := r.length
    simp only [Array.length_toList] at e
    omega
theorem Inv.tuple (I : Inv X pins σ H s) (h : SqT X.K H a xs) : ∃ its : List Value, Vals xs its ∧ IsTup s.heap a its.toArray ∧ xs.length ≤ sizeLine := by
  rcases h with h | ⟨o, its, n, hk, hc, hs, hz, r⟩
  · obtain ⟨z, its, r, p⟩ := h.ok I.hok
    exact ⟨its, r, p, z⟩
  · refine ⟨its.toList, r, ⟨o, I.kIn a o hk, hc, n, by simpa using hs⟩, ?_⟩
    have e := r.length
    simp only [Array.length_toList] at e
    omega
theorem Inv.list_inj (I : Inv X pins σ H s) (h : SqL X.K H a xs) (h' : SqL X.K H a ys) : xs = ys := by
  obtain ⟨its, r, ⟨o, n, e, _, _, d⟩, _⟩ := I.list h
  obtain ⟨its', r', ⟨o', n', e', _, _, d'⟩, _⟩ := I.list h'
  rw [e] at e'; cases e'
  rw [d] at d'
  injection d' with d1 _
  have : its = its' := by simpa using congrArg Array.toList d1
  subst this
  exact r.inj r'
end
abbrev Cx.wish (X : Cx) (E : Value → Shared → Prop) : Cx := { X with xe := E }
abbrev Cx.nox (X : Cx) : Cx := X.wish fun _ _ => False
theorem Cx.Ok.wish {X : Cx} (ok : X.Ok) (E : Value → Shared → Prop) : (X.wish E).Ok :=
  ⟨ok.mod, ok.kind, ok.glob, ok.blt, ok.above, ok.inj, ok.has, ok.cab, ok.hd, ok.frames, ok.stk, ok.exf, ok.bs, ok.bsz, ok.noex, ok.exfs, ok.funs, ok.frf⟩
theorem Cx.Ok.unwish {X : Cx} {E : Value → Shared → Prop} (ok : (X.wish E).Ok) : X.Ok :=
  ⟨ok.mod, ok.kind, ok.glob, ok.blt, ok.above, ok.inj, ok.has, ok.cab, ok.hd, ok.frames, ok.stk, ok.exf, ok.bs, ok.bsz, ok.noex, ok.exfs, ok.funs, ok.frf⟩
section
variable {X : Cx} {pins : List (Addr × Obj)} {σ : St} {H : Hp} {s : Shared} {E : Value → Shared → Prop}
theorem Inv.wish (I : Inv X pins σ H s) (E : Value → Shared → Prop) : Inv (X.wish E) pins σ H s := ⟨I.ok.wish E, I.os, I.bare, I.base, I.loc, I.cell, I.free, I.freeC, I.pin, I.hok, I.len⟩
theorem Inv.unwish (I : Inv (X.wish E) pins σ H s) : Inv X pins σ H s := ⟨I.ok.unwish, I.os, I.bare, I.base, I.loc, I.cell, I.free, I.freeC, I.pin, I.hok, I.len⟩
theorem SP.unwish {D : Ends} {f : Flow} {s' : Shared} (h : SP (X.wish E) pins D f s') : SP X pins D f s' := by
  cases f with
  | next => obtain ⟨σ', H', I, q⟩ := h; exact ⟨σ', H', I.unwish, q⟩
  | brk => obtain ⟨σ', H', I, q⟩ := h; exact ⟨σ', H', I.unwish, q⟩
  | cont => obtain ⟨σ', H', I, q⟩ := h; exact ⟨σ', H', I.unwish, q⟩
  | ret u => obtain ⟨v, σ', H', I, r, q⟩ := h; exact ⟨v, σ', H', I.unwish, r, q⟩
theorem PSs.nox {st : List Stmt} {t : TS} (h : PSs X.nox st t) : PSs X st t := fun pins s σ H D I hw =>
  wpAny_mono (h pins s σ H D (I.wish _) hw) (fun _ _ q => q.unwish) fun _ _ z => False.elim z
end
section
variable {X : Cx} {st : Stmt} {rest : List Stmt} {t u : TS} {e : Expr} {te : TE} {pos : Pos}
def tNext : TS := fun D σ H => D.nx σ H
def tSeq (t u : TS) : TS := fun D σ H => t { D with nx := u D } σ H
theorem pss_nil : PSs X [] tNext := fun _ _ σ H _ I h => wpAny_execs_nil ⟨σ, H, I, h⟩
theorem pss_cons (h1 : PS X st t) (h2 : PSs X rest u) : PSs X (st :: rest) (tSeq t u) := by
  intro pins s σ H D I h
  refine wpAny_execs_cons (thn (h1 pins s σ H { D with nx := u D } I h) fun f s1 q => ?_)
  cases f with
  | next =>
    obtain ⟨σ', H', I', q⟩ := q
    exact h2 pins s1 σ' H' D I' q
  | ret v => exact q
  | brk => exact q
  | cont => exact q
theorem pss_one (h1 : PS X st t) : PSs X [st] t := by
  intro pins s σ H D I h
  refine wpAny_execs_cons (thn (h1 pins s σ H D I h) fun f s1 q => ?_)
  cases f with
  | next => exact wpAny_execs_nil q
  | ret v => exact q
  | brk => exact q
  | cont => exact q
theorem Inv.quiet {pins : List (Addr × Obj)} {σ : St} {H : Hp} {s : Shared} (I : Inv X pins σ H s) : interactive X.env = false := by simp [interactive, I.ok.kind]
def tDrop (te : TE) : TS := fun D σ H => te σ H fun _ H1 => D.nx σ H1
theorem ps_expr (he : PE X e te) (hs : swapsWith e none pos.line X.env = pure false := by rfl) : PS X (.Expr e pos) (tDrop te) := by
  intro pins s σ H D I h
  exact wpAny_Expr_any (thn (he pins s σ H _ I h) fun v s1 ⟨x, H1, I1, r1, q1⟩ => ⟨σ, H1, I1, q1⟩) I.quiet hs
def tRet (te : TE) : TS := fun D σ H => te σ H D.rt
theorem ps_ret (he : PE X e te) : PS X (.Return (some e) pos) (tRet te) := by
  intro pins s σ H D I h
  exact wpAny_Return_some (thn (he pins s σ H _ I h) fun v s1 ⟨x, H1, I1, r1, q1⟩ => ⟨x, σ, H1, I1, r1, q1⟩)
def tIfS (c : TT) (t u : TS) : TS := fun D σ H => c σ H fun b H1 => if b = true then t D σ H1 else u D σ H1
theorem ps_if {c : Expr} {a b : List Stmt} {tc : TT} (hc : PT X c tc) (ha : PSs X a t) (hb : PSs X b u) : PS X (.If c a b pos) (tIfS tc t u) := by
  intro pins s σ H D I h
  refine wpAny_If (thn (hc pins s σ H _ I h) fun d s1 ⟨H1, I1, q1⟩ => ?_)
  cases d with
  | true => exact ha pins s1 σ H1 D I1 q1
  | false => exact hb pins s1 σ H1 D I1 q1
def tNever : TS := fun _ _ _ => False
theorem ps_never : PS X st tNever := fun _ _ _ _ _ _ h => h.elim
end
abbrev TG := V → St → Hp → (St → Hp → Prop) → Prop
abbrev TGs := List V → St → Hp → (St → Hp → Prop) → Prop
def PG (X : Cx) (target : Expr) (t : TG) : Prop :=
  ∀ (pins : List (Addr × Obj)) (s : Shared) (σ : St) (H : Hp) (v : V) (u : Value) (Q : St → Hp → Prop), Inv X pins σ H s → RelV v u → t v σ H Q →
    wpAny (model X.prog X.w) X.A (assign target X.env u) (fun _ s' => ∃ σ' H', Inv X pins σ' H' s' ∧ Q σ' H') X.xe s
def PGs (X : Cx) (ts : List Expr) (t : TGs) : Prop :=
  ∀ (pins : List (Addr × Obj)) (s : Shared) (σ : St) (H : Hp) (vs : List V) (us : List Value) (Q : St → Hp → Prop), Inv X pins σ H s → Vals vs us → t vs σ H Q →
    wpAny (model X.prog X.w) X.A (assignInOrder ((assignEach ts X.env).map (·.2)) us) (fun _ s' => ∃ σ' H', Inv X pins σ' H' s' ∧ Q σ' H') X.xe s
abbrev TSet := V → V → V → Hp → (Hp → Prop) → Prop
def PSet (X : Cx) (t : TSet) : Prop :=
  ∀ (pins : List (Addr × Obj)) (s : Shared) (σ : St) (H : Hp) (o i v : V) (ov iv u : Value) (Q : Hp → Prop), Inv X pins σ H s → RelV o ov → RelV i iv → RelV v u → t o i v H Q →
    wpAny (model X.prog X.w) X.A (setItem ov iv u) (fun _ s' => ∃ H', Inv X pins σ H' s' ∧ Q H') X.xe s
abbrev TIp := V → V → Hp → VK → Prop
def PIp (X : Cx) (op : Operator) (t : TIp) : Prop :=
  ∀ (pins : List (Addr × Obj)) (s : Shared) (σ : St) (H : Hp) (x y : V) (v u : Value) (Q : VK), Inv X pins σ H s → RelV x v → RelV y u → t x y H Q →
    wpAny (model X.prog X.w) X.A (inplaceOp op v u) (EP X pins σ Q) X.xe s
section
variable {X : Cx} {pos : Pos}
def gName (i : Nat) : TG := fun v σ H Q => Q (σ.set i (some v)) H
theorem pg_name {i : Nat} {x : Str} (hN : X.N.Nodup) (hi : X.N[i]? = some x) (hx : Loc X.env.scope x) (hf : X.fn x = true ∨ X.env.scope.names.lookup x = some .local := by first | exact .inl rfl | exact .inr rfl | assumption) : PG X (.Name x pos) (gName i) := by
  intro pins s σ H v u Q I r h
  exact wpAny_assign_Name (store_ok I hN hi hx r (fun s' I' => ⟨_, H, I', h⟩) hf)
def gNil : TGs := fun vs σ H Q => vs = [] ∧ Q σ H
def gCons (t : TG) (u : TGs) : TGs := fun vs σ H Q => ∃ v r, vs = v :: r ∧ t v σ H fun σ' H' => u r σ' H' Q
theorem pgs_nil : PGs X [] gNil := by
  intro pins s σ H vs us Q I r h
  obtain ⟨e, h⟩ := h
  subst e
  cases r
  exact assignInOrder_nil ⟨σ, H, I, h⟩
theorem pgs_cons {e : Expr} {es : List Expr} {t : TG} {u : TGs} (h1 : PG X e t) (h2 : PGs X es u)
    (hs : (assignEach (e :: es) X.env).map (·.2) = assign e X.env :: (assignEach es X.env).map (·.2) := by rfl) : PGs X (e :: es) (gCons t u) := by
  intro pins s σ H vs us Q I r h
  obtain ⟨v, vr, e1, h⟩ := h
  subst e1
  cases r with
  | cons r rr =>
    rw [hs]
    refine assignInOrder_cons (thn (h1 pins s σ H _ _ _ I r h) fun _ s1 ⟨σ1, H1, I1, q1⟩ => ?_)
    exact h2 pins s1 σ1 H1 _ _ Q I1 rr q1
def gTup (K : PySem.W.Frag) (n : Nat) (t : TGs) : TG := fun v σ H Q => ∃ a xs, v = .ref a ∧ SqT K H a xs ∧ xs.length = n ∧ t xs σ H Q
theorem pg_tup {es : List Expr} {k : Nat} {t : TGs} {n : Nat} (hc : X.calm = true) (h : PGs X es t)
    (hn : (assignEach es X.env).length = n := by rfl) (hst : (assignEach es X.env).findIdx? (·.1) = none := by rfl) : PG X (.Tuple es k pos) (gTup X.K n t) := by
  intro pins s σ H v u Q I r hw
  obtain ⟨a, xs, e1, hq, hl, hw⟩ := hw
  subst e1
  cases r
  obtain ⟨its, rv, ht, hz⟩ := I.tuple hq
  refine assign_Tuple_tuple (I.ok.hd hc) ht (by simp [hn, ← hl, rv.length]) hst fun h' hx => ?_
  have I1 : Inv X pins σ H { s with heap := h' } := I.kept (t' := s.toks) fun b o e => hx b o (Nat.ne_of_lt (Heap.lt_size e)) e
  exact h pins _ σ H xs _ Q I1 (by simpa using rv) hw
def gSub (to ti : TE) (t : TSet) : TG := fun v σ H Q => to σ H fun o H1 => ti σ H1 fun i H2 => t o i v H2 fun H3 => Q σ H3
theorem pg_sub {o i : Expr} {to ti : TE} {t : TSet} (ho : PE X o to) (hi : PE X i ti) (hs : PSet X t)
    (ha : ∀ v, assign (.Subscript o i pos) X.env v = (do
      let ov ← holding [v] (eval o X.env)
      let iv ← holding [v, ov] (eval i X.env)
      standAt pos
      holding [v, ov, iv] (setItem ov iv v)
      release [v, ov, iv] []) := by intro _; rfl) : PG X (.Subscript o i pos) (gSub to ti t) := by
  intro pins s σ H v u Q I r h
  rw [ha]
  refine wpAny_bind (wpAny_holding (thn (ho pins s σ H _ I h) fun ov s1 ⟨x, H1, I1, r1, q1⟩ => ?_))
  refine wpAny_bind (wpAny_holding (thn (hi pins s1 σ H1 _ I1 q1) fun iv s2 ⟨y, H2, I2, r2, q2⟩ => ?_))
  refine wpAny_bind (wpAny_standAt (wpAny_bind (wpAny_holding (thn (hs pins s2 σ H2 x y v ov iv u _ I2 r1 r2 r q2) fun _ s3 ⟨H3, I3, q3⟩ => ?_))))
  exact wpAny_release ⟨σ, H3, I3, q3⟩
def tAsg (te : TE) (g : TG) : TS := fun D σ H => te σ H fun x H1 => g x σ H1 D.nx
theorem ps_asg {tg e : Expr} {te : TE} {g : TG} (he : PE X e te) (hg : PG X tg g) (hs : swapsWithSole [tg] e pos.line X.env = pure false := by rfl) (hw : swappedStores [tg] e X.env = pure none := by rfl)
    (h1 : (assignEach [tg] X.env).map (·.2) = [assign tg X.env] := by rfl) : PS X (.Assign [tg] e pos) (tAsg te g) := by
  intro pins s σ H D I h
  refine wpAny_Assign_stores (thn (he pins s σ H _ I h) fun v s1 ⟨x, H1, I1, r1, q1⟩ => ?_) hs hw
  rw [h1]
  exact thn (hg pins s1 σ H1 x v _ I1 r1 q1) fun _ s2 q => q
theorem ps_set {i : Nat} {x : Str} {e : Expr} {te : TE} {pos' : Pos} (hN : X.N.Nodup) (hi : X.N[i]? = some x) (hx : Loc X.env.scope x) (he : PE X e te) (hs : swapsWith e (some (.Name x pos')) pos.line X.env = pure false := by rfl) (hf : X.fn x = true ∨ X.env.scope.names.lookup x = some .local := by first | exact .inl rfl | exact .inr rfl | assumption) :
    PS X (.Assign [.Name x pos'] e pos) (tAsg te (gName i)) := by
  intro pins s σ H D I h
  refine wpAny_Assign_Name (thn (he pins s σ H _ I h) fun v s1 ⟨y, H1, I1, r1, q1⟩ => ?_) hs
  exact store_ok I1 hN hi hx r1 (fun s2 I2 => ⟨_, H1, I2, q1⟩) hf
def tAug (i : Nat) (te : TE) (ti : TIp) : TS := fun D σ H => ∃ x, σ[i]? = some (some x) ∧ te σ H fun y H1 => ti x y H1 fun z H2 => D.nx (σ.set i (some z)) H2
theorem ps_aug {i : Nat} {x : Str} {e : Expr} {te : TE} {op : Operator} {ti : TIp} {pos' : Pos} (hN : X.N.Nodup) (hi : X.N[i]? = some x) (hx : Loc X.env.scope x) (he : PE X e te) (ho : PIp X op ti) (hf : X.fn x = true ∨ X.env.scope.names.lookup x = some .local := by first | exact .inl rfl | exact .inr rfl | assumption) :
    PS X (.AugAssign (.Name x pos') op e pos) (tAug i te ti) := by
  intro pins s σ H D I h
  obtain ⟨v, e1, h⟩ := h
  obtain ⟨m, hn, hl⟩ := I.loc
  have vis : Vis X.env.scope x := by rcases hx with k | k; exact .inl k; exact .inr (.inl k)
  obtain ⟨u, r, l⟩ := hl i x v hi e1 vis
  refine wpAny_AugAssign_Name ?_
  have go : wpAny (model X.prog X.w) X.A (eval e X.env) (fun w s₂ => wpAny (model X.prog X.w) X.A (inplaceOp op u w) (fun r s₃ => wpAny (model X.prog X.w) X.A (storeName X.env x r) (fun _ => SP X pins D .next) X.xe s₃) X.xe s₂) X.xe s := by
    refine thn (he pins s σ H _ I h) fun w s1 ⟨y, H1, I1, r1, q1⟩ => ?_
    refine thn (ho pins s1 σ H1 v y u w _ I1 r r1 q1) fun z s2 ⟨zv, H2, I2, r2, q2⟩ => ?_
    exact store_ok I2 hN hi hx r2 (fun s3 I3 => ⟨_, H2, I3, q2⟩) hf
  rcases l with ⟨hk, hm⟩ | ⟨hk, c, hc, hcell⟩
  · exact wpAny_loadName_local I.ok.kind hk hn hm go
  · rcases hk with hk | hk
    · exact wpAny_loadName_cell I.ok.kind hk hc hcell go
    · rcases hx with k | k
      · have : X.env.scope.names.lookup x = some .free := hk
        rw [k] at this; cases this
      · have : X.env.scope.names.lookup x = some .free := hk
        rw [k] at this; cases this
def tAugS (to ti te : TE) (tget : V → V → Hp → VK → Prop) (tip : TIp) (tset : TSet) : TS := fun D σ H => to σ H fun o H1 => ti σ H1 fun i H2 => tget o i H2 fun x H3 => te σ H3 fun y H4 => tip x y H4 fun z H5 => tset o i z H5 fun H6 => D.nx σ H6
def PGet (X : Cx) (t : V → V → Hp → VK → Prop) : Prop :=
  ∀ (pins : List (Addr × Obj)) (s : Shared) (σ : St) (H : Hp) (o i : V) (ov iv : Value) (Q : VK), Inv X pins σ H s → RelV o ov → RelV i iv → t o i H Q →
    wpAny (model X.prog X.w) X.A (getItem ov iv) (EP X pins σ Q) X.xe s
theorem ps_augS {o i e : Expr} {to ti te : TE} {tget : V → V → Hp → VK → Prop} {tip : TIp} {tset : TSet} {op : Operator} {tpos : Pos} (ho : PE X o to) (hi : PE X i ti) (hg : PGet X tget) (he : PE X e te) (hp : PIp X op tip) (hs : PSet X tset)
    (ha : ∀ ov iv new, augStore i ov iv new = (do holding [new, ov, iv] (setItem ov iv new); release [new, ov, iv] []; pure .next) := by intros; rfl) : PS X (.AugAssign (.Subscript o i tpos) op e pos) (tAugS to ti te tget tip tset) := by
  intro pins s σ H D I h
  refine wpAny_AugAssign_SubscriptAny (thn (ho pins s σ H _ I h) fun ov s1 ⟨x1, H1, I1, r1, q1⟩ => ?_) ha
  refine thn (hi pins s1 σ H1 _ I1 q1) fun iv s2 ⟨x2, H2, I2, r2, q2⟩ => ?_
  refine thn (hg pins s2 σ H2 x1 x2 ov iv _ I2 r1 r2 q2) fun old s3 ⟨x3, H3, I3, r3, q3⟩ => ?_
  refine thn (he pins s3 σ H3 _ I3 q3) fun v s4 ⟨x4, H4, I4, r4, q4⟩ => ?_
  refine thn (hp pins s4 σ H4 x3 x4 old v _ I4 r3 r4 q4) fun new s5 ⟨x5, H5, I5, r5, q5⟩ => ?_
  exact thn (hs pins s5 σ H5 x1 x2 x5 ov iv new _ I5 r1 r2 r5 q5) fun _ s6 ⟨H6, I6, q6⟩ => ⟨σ, H6, I6, q6⟩
def ipI (f : Int → Int → Int) : TIp := fun x y H Q => ∃ i j, x = .int i ∧ y = .int j ∧ Q (.int (f i j)) H
theorem ip_add : PIp X .Add (ipI fun i j => i + j) := by
  intro pins s σ H x y v u Q I r1 r2 h
  obtain ⟨i, j, e1, e2, q⟩ := h
  subst e1; subst e2
  obtain ⟨t, rfl⟩ := r1
  obtain ⟨t', rfl⟩ := r2
  exact iadd_int ⟨.int _, H, I.tok _, ⟨_, rfl⟩, q⟩
theorem ip_sub : PIp X .Sub (ipI fun i j => i - j) := by
  intro pins s σ H x y v u Q I r1 r2 h
  obtain ⟨i, j, e1, e2, q⟩ := h
  subst e1; subst e2
  obtain ⟨t, rfl⟩ := r1
  obtain ⟨t', rfl⟩ := r2
  exact isub_int ⟨.int _, H, I.tok _, ⟨_, rfl⟩, q⟩
end
section
variable {X : Cx} {pos : Pos}
def tWhile (c : TT) (tb : TS) : TS := fun D σ H => ∃ W : Nat → St → Hp → Prop, (∃ m, W m σ H) ∧ ∀ m σ H, W m σ H →
  c σ H fun b H1 => if b = true then ∃ N : St → Hp → Prop, (∀ σ' H', N σ' H' → ∃ m', m' < m ∧ W m' σ' H') ∧ tb { D with nx := N, ct := N, bk := D.nx } σ H1 else D.nx σ H1
theorem ps_while {c : Expr} {body : List Stmt} {tc : TT} {tb : TS} (hp : PassesOwn (model X.prog X.w) X.A X.env X.xe) (hc : PT X c tc) (hb : PSs X body tb) : PS X (.While c body [] pos) (tWhile tc tb) := by
  intro pins s σ H D I h
  obtain ⟨W, ⟨m0, w0⟩, turn⟩ := h
  refine wpAny_While (codeAny_whileLoop (fun n s' => ∃ σ' H', Inv X pins σ' H' s' ∧ W n σ' H') ?_ m0 ⟨σ, H, I, w0⟩)
  rintro n s1 ⟨σ1, H1, I1, w1⟩
  refine wpAny_passesOwn hp (thn (hc pins s1 σ1 H1 _ I1 (turn n σ1 H1 w1)) fun b s2 ⟨H2, I2, q2⟩ => ?_)
  cases b with
  | true =>
    obtain ⟨N, hN, q2⟩ := q2
    rw [if_pos rfl]
    refine wpAny_passesOwn hp (thn (hb pins s2 σ1 H2 _ I2 q2) fun f s3 q3 => ?_)
    cases f with
    | next =>
      obtain ⟨σ3, H3, I3, n3⟩ := q3
      obtain ⟨m', hm, w3⟩ := hN σ3 H3 n3
      exact ⟨m', hm, σ3, H3, I3, w3⟩
    | cont =>
      obtain ⟨σ3, H3, I3, n3⟩ := q3
      obtain ⟨m', hm, w3⟩ := hN σ3 H3 n3
      exact ⟨m', hm, σ3, H3, I3, w3⟩
    | brk => exact q3
    | ret v => exact q3
  | false =>
    rw [if_neg Bool.false_ne_true]
    exact wpAny_execs_nil ⟨σ1, H2, I2, q2⟩
end
structure It where
  go : Nat → Hp → Prop
  yld : Nat → Hp → V → Hp → Prop
  stop : Nat → Hp → Prop
def FpOk (X : Cx) (pins : List (Addr × Obj)) (H : Hp) (b : Addr) : Prop :=
  H b = none ∧ b ≠ X.env.locals ∧ b ∉ X.fs ∧ (b ∈ X.ex ∨ X.s₀.heap.objs.size ≤ b) ∧ (∀ x c, X.env.cells.lookup x = some c → c ≠ b) ∧ ∀ p ∈ X.pn ++ pins, p.1 ≠ b
theorem Inv.fpOk {X : Cx} {pins : List (Addr × Obj)} {σ : St} {H H' : Hp} {s : Shared} {b : Addr} (I : Inv X pins σ H s) (hb : s.heap.objs.size ≤ b) (hn : H' b = none) : FpOk X pins H' b := by
  refine ⟨hn, Nat.ne_of_gt (Nat.lt_of_lt_of_le I.lt hb), I.nofs hb, .inr (Nat.le_trans I.sz hb), fun x c e z => ?_, fun p hp z => ?_⟩
  · obtain ⟨v, q⟩ := I.cell x c e
    exact absurd (Nat.lt_of_lt_of_le q.lt (by rw [z]; exact hb)) (Nat.lt_irrefl _)
  · exact absurd (Nat.lt_of_lt_of_le (Heap.lt_size (I.pin p hp).1) (by rw [z]; exact hb)) (Nat.lt_irrefl _)
structure Turn (P : Program) (w : World) (K : PySem.W.Frag) (tg : Expr) (J : It) (fp : List Addr) (it : Addr) (tn : Nat → Heap → Prop) : Prop where
  mem : it ∈ fp
  obj : ∀ i h, tn i h → ∀ b ∈ fp, ∃ o, h.get? b = some o ∧ ∀ v, o.data ≠ .cell v
  keep : ∀ i h h', tn i h → (∀ b ∈ fp, ∀ o, h.get? b = some o → h'.get? b = some o) → tn i h'
  item : ∀ (X : Cx), X.prog = P → X.w = w → X.K = K → X.calm = true → ∀ (i : Nat) (pins : List (Addr × Obj)) (s : Shared) (σ : St) (H : Hp) (E : Value → Shared → Prop), Inv X pins σ H s → (∀ b ∈ fp, FpOk X pins H b) → tn i s.heap → J.go i H →
    wpAny (model P w) X.A (pyNext (.ref it)) (fun r s1 => ∃ u, r = some u ∧
      wpAny (model P w) X.A (letOwnedTupleGo tg (.ref it) u) (fun _ s2 => ∃ x H', Inv X pins σ H' s2 ∧ RelV x u ∧ J.yld i H x H' ∧ tn (i + 1) s2.heap ∧ ∀ b ∈ fp, H' b = none) E s1) E s
  done : ∀ (X : Cx), X.prog = P → X.w = w → X.K = K → X.calm = true → ∀ (i : Nat) (pins : List (Addr × Obj)) (s : Shared) (σ : St) (H : Hp) (E : Value → Shared → Prop), Inv X pins σ H s → (∀ b ∈ fp, FpOk X pins H b) → tn i s.heap → J.stop i H →
    wpAny (model P w) X.A (pyNext (.ref it)) (fun r s1 => r = none ∧ Inv X pins σ H s1) E s
  self : ∀ (A : Around) (i : Nat) (s : Shared) (Q : Value → Shared → Prop) (E : Value → Shared → Prop), tn i s.heap → Q (.ref it) s → wpAny (model P w) A (pyIter (.ref it)) Q E s
abbrev TI := St → Hp → (It → Hp → Prop) → Prop
def PIE (X : Cx) (pins : List (Addr × Obj)) (σ : St) (tg : Expr) (R : It → Hp → Prop) (itv : Value) (s2 : Shared) : Prop :=
  ∃ (it : Addr) (fp : List Addr) (tn : Nat → Heap → Prop) (J : It) (H' : Hp), itv = .ref it ∧ Inv X pins σ H' s2 ∧ Turn X.prog X.w X.K tg J fp it tn ∧ tn 0 s2.heap ∧ (∀ b ∈ fp, FpOk X pins H' b) ∧ R J H'
def PI (X : Cx) (tg iter : Expr) (wi : TI) : Prop :=
  ∀ (pins : List (Addr × Obj)) (s : Shared) (σ : St) (H : Hp) (R : It → Hp → Prop), Inv X pins σ H s → wi σ H R →
    wpAny (model X.prog X.w) X.A (eval iter X.env) (fun v s1 => wpAny (model X.prog X.w) X.A (pyIter v) (PIE X pins σ tg R) X.xe s1) X.xe s
theorem go_of {M : Model} {A : Around} {E : Value → Shared → Prop} {s : Shared} {tg : Expr} {it : Addr} {u : Value} {o : Obj} {n : String} {vs : Array Value} {Q : Unit → Shared → Prop} (ho : s.heap.get? it = some o) (hc : o.cls = .type n) (hd : o.data = .fields vs)
    (hn : ["enumerate", "zip", "dict_itemiterator", "dict_reverseitemiterator", "odict_iterator", "itertools.zip_longest", "itertools.pairwise"].contains n = false) (hQ : Q () s) : wpAny M A (letOwnedTupleGo tg (.ref it) u) Q E s := by
  unfold letOwnedTupleGo
  cases tg <;> first
    | exact wpAny_pure hQ
    | (cases u <;> first
        | exact wpAny_pure hQ
        | (refine wpAny_bind (wpAny_load ho ?_)
           rw [hc, hd]
           show wpAny M A (if (["enumerate", "zip", "dict_itemiterator", "dict_reverseitemiterator", "odict_iterator", "itertools.zip_longest", "itertools.pairwise"].contains n && vs[0]? == some (rawInt _)) = true then _ else _) Q E s
           rw [if_neg (by intro h; rw [hn, Bool.false_and] at h; cases h)]
           exact wpAny_pure hQ))
def Itl (K : PySem.W.Frag) (a : Addr) : It :=
  ⟨fun i H => ∃ xs x, SqL K H a xs ∧ xs[i]? = some x, fun i H x H' => H' = H ∧ ∀ xs, SqL K H a xs → xs[i]? = some x, fun i H => ∃ xs, SqL K H a xs ∧ xs.length ≤ i⟩
def Itr (lo : Int) (n : Nat) : It := ⟨fun i _ => i < n, fun i H x H' => H' = H ∧ x = .int (lo + i), fun i _ => n ≤ i⟩
theorem turn_list {P : Program} {w : World} {K : PySem.W.Frag} {tg : Expr} (a it : Addr) : Turn P w K tg (Itl K a) [it] it (fun i h => h.IsListIter it a i) where
  mem := by simp
  obj := fun i h st b hb => by
    have e : b = it := by simpa using hb
    subst e
    obtain ⟨o, e, c, d⟩ := st
    exact ⟨o, e, fun v z => by rw [d] at z; cases z⟩
  keep := fun i h h' st k => st.at fun o e => k it (by simp) o e
  item := by
    intro X hP hw hK hc i pins s σ H E I hf st hg
    subst hP hw hK
    obtain ⟨xs, x, hq, hx⟩ := hg
    obtain ⟨its, rv, p, hz⟩ := I.list hq
    obtain ⟨u, hu, ru⟩ := rv.get hx
    obtain ⟨f0, f1, f2, f3, f4, f5⟩ := hf it (by simp)
    refine wpAny_pyNext_list_item st p.isList (x := u) (by simpa using hu) fun h' st' sb => ?_
    have I1 : Inv X pins σ H { s with heap := h' } := I.turned (t' := s.toks) (fun b o hb e => (sb.2 b hb).trans e) f0 f1 f3 f4 f5
    obtain ⟨o, e, c, d⟩ := id st'
    exact ⟨u, rfl, go_of (s := { s with heap := h' }) e c d (by decide) ⟨x, H, I1, ru, ⟨rfl, fun ys hy => by rw [I.list_inj hy hq]; exact hx⟩, st', fun b hb => (hf b hb).1⟩⟩
  done := by
    intro X hP hw hK hc i pins s σ H E I hf st hg
    subst hP hw hK
    obtain ⟨xs, hq, hx⟩ := hg
    obtain ⟨its, rv, p, hz⟩ := I.list hq
    obtain ⟨f0, f1, f2, f3, f4, f5⟩ := hf it (by simp)
    have hl := rv.length
    exact wpAny_pyNext_list_end (I.ok.hd hc) st p.isList (by simp; omega) fun h' eb => ⟨rfl, I.turned (t' := s.toks) (fun b o hb e => eb b o hb e) f0 f1 f3 f4 f5⟩
  self := fun _ _ _ _ _ st h => wpAny_pyIter_listiter st h
theorem turn_range {P : Program} {w : World} {K : PySem.W.Frag} {tg : Expr} (it : Addr) (lo : Int) (n : Nat) : Turn P w K tg (Itr lo n) [it] it (fun i h => IsRangeIter h it (lo + (i : Nat) * 1) ((n : Int) - (i : Nat)) 1) where
  mem := by simp
  obj := fun i h st b hb => by
    have e : b = it := by simpa using hb
    subst e
    exact ⟨_, st, fun v z => by
      have z' : Data.fields _ = Data.cell v := z
      cases z'⟩
  keep := fun i h h' st k => k it (by simp) _ st
  item := by
    intro X hP hw hK hc i pins s σ H E I hf st hg
    subst hP hw hK
    obtain ⟨f0, f1, f2, f3, f4, f5⟩ := hf it (by simp)
    have W := Walks.range (prog := X.prog) (w := X.w) (I.ok.hd hc) it lo 1 n
    refine W.item i s _ _ hg st fun v h' tk hv st' kk => ?_
    obtain ⟨t, rfl⟩ := hv
    have I1 : Inv X pins σ H { s with heap := h', toks := tk } := I.turned (fun b o hb e => kk b o (by simpa using hb) e) f0 f1 f3 f4 f5
    refine ⟨_, rfl, go_of (s := { s with heap := h', toks := tk }) (n := "range_iterator") st' rfl rfl (by decide) ⟨.int (lo + i), H, I1, ⟨t, ?_⟩, ⟨rfl, rfl⟩, st', fun b hb => (hf b hb).1⟩⟩
    rw [Int.mul_one]
  done := by
    intro X hP hw hK hc i pins s σ H E I hf st hg
    subst hP hw hK
    obtain ⟨f0, f1, f2, f3, f4, f5⟩ := hf it (by simp)
    exact wpAny_pyNext_range_end (I.ok.hd hc) st (by have : n ≤ i := hg; omega) fun h' eb => ⟨rfl, I.turned (t' := s.toks) (fun b o hb e => eb b o hb e) f0 f1 f3 f4 f5⟩
  self := fun _ _ _ _ _ st h => wpAny_pyIter_rangeiter st h
end L2
namespace L2
open PySem PySem.Spec PyProof.Rows
section
variable {X : Cx} {tg : Expr}
def iList (K : PySem.W.Frag) (tl : TE) : TI := fun σ H R => tl σ H fun x H1 => ∃ a, x = .ref a ∧ (∃ xs, SqL K H1 a xs) ∧ R (Itl K a) H1
theorem pi_list {l : Expr} {tl : TE} (hl : PE X l tl) : PI X tg l (iList X.K tl) := by
  intro pins s σ H R I h
  refine thn (hl pins s σ H _ I h) fun v s1 ⟨x, H1, I1, r1, q1⟩ => ?_
  obtain ⟨a, e, ⟨xs, hq⟩, q⟩ := q1
  subst e
  cases r1
  obtain ⟨its, rv, p, hz⟩ := I1.list hq
  refine wpAny_pyIter_list p.isList ?_
  refine ⟨s1.heap.objs.size, [s1.heap.objs.size], _, _, H1, rfl, I1.kept (t' := s1.toks) fun b o e => Heap.get?_push_of_some _ e, turn_list a _, ⟨_, Heap.get?_push_size _ rfl, rfl, rfl⟩, fun b hb => ?_, q⟩
  have e : b = s1.heap.objs.size := by simpa using hb
  subst e
  exact I1.fpOk (Nat.le_refl _) (I1.hok.fresh (Nat.le_refl _))
theorem range_it {pins : List (Addr × Obj)} {σ : St} {H : Hp} {s : Shared} {R : It → Hp → Prop} {E : Value → Shared → Prop} {lo hi : Int} {t u v : Tok} {tk : Nat} (I : Inv X pins σ H s) (h1 : -(2 ^ 62) ≤ lo) (h2 : lo < 2 ^ 62) (h3 : -(2 ^ 62) ≤ hi) (h4 : hi < 2 ^ 62)
    (q : R (Itr lo (hi - lo).toNat) H) : wpAny (model X.prog X.w) X.A (pyIter (.ref s.heap.objs.size)) (PIE X pins σ tg R) E { s with heap := s.heap.push { cls := .type "range", data := .fields #[.int lo t, .int hi u, .int 1 v] }, toks := tk } := by
  refine wpAny_pyIter_range (IsRange.new ..) (small_one h1 h2 h3 h4) ?_
  have I1 : Inv X pins σ H { s with heap := s.heap.push { cls := .type "range", data := .fields #[.int lo t, .int hi u, .int 1 v] }, toks := tk } := I.kept fun b o e => Heap.get?_push_of_some _ e
  refine ⟨(s.heap.push { cls := .type "range", data := .fields #[.int lo t, .int hi u, .int 1 v] }).objs.size, [(s.heap.push { cls := .type "range", data := .fields #[.int lo t, .int hi u, .int 1 v] }).objs.size], _, _, H, rfl,
    I1.kept (t' := tk) fun b o e => Heap.get?_push_of_some _ e, turn_range _ lo (hi - lo).toNat, ?_, fun b hb => ?_, q⟩
  · have e1 : lo + ((0 : Nat) : Int) * 1 = lo := by simp
    have e2 : (((hi - lo).toNat : Nat) : Int) - ((0 : Nat) : Int) = Builtin.Range.rangeSize lo hi 1 := by rw [rangeSize_one]; split <;> omega
    show IsRangeIter _ _ (lo + ((0 : Nat) : Int) * 1) ((((hi - lo).toNat : Nat) : Int) - ((0 : Nat) : Int)) 1
    rw [e1, e2]
    exact Heap.get?_push_size _ rfl
  · have e : b = (s.heap.push { cls := .type "range", data := .fields #[.int lo t, .int hi u, .int 1 v] }).objs.size := by simpa using hb
    subst e
    exact I1.fpOk (Nat.le_refl _) (I1.hok.fresh (Nat.le_refl _))
def iRng1 (ta : TA) : TI := fun σ H R => ta σ H fun vs H1 => ∃ j : Int, vs = [.int j] ∧ -(2 ^ 62) ≤ j ∧ j < 2 ^ 62 ∧ R (Itr 0 j.toNat) H1
theorem pi_range1 {a : Expr} {ta : TA} {p pos : Pos} (hg : Gl X "range") (hm : X.mg "range" = none) (ha : PA X [a] ta) (hs : starEach [a] X.env = [(false, eval a X.env)] := by rfl) : PI X tg (.Call (.Name "range" p) [a] [] pos) (iRng1 ta) := by
  intro pins s σ H R I h
  refine Call_ (ld_blt I hg hm boot_range (PyProof.Rows.callWith_type1 (thn (ha pos pins s σ H _ I h) fun us s1 ⟨vs, H1, I1, r1, q1⟩ => ?_) hs rfl))
  obtain ⟨j, e, q1, q2, q⟩ := q1
  subst e
  cases r1 with
  | cons r rr =>
    cases rr
    obtain ⟨t, rfl⟩ := r
    exact call_range_1 (range_it I1 (by omega) (by omega) q1 q2 (by simpa using q))
def tFor (wi : TI) (g : TG) (tb : TS) : TS := fun D σ H => wi σ H fun J H1 => ∃ W : Nat → Nat → St → Hp → Prop, (∃ m, W 0 m σ H1) ∧ ∀ i m σ H, W i m σ H →
  (J.stop i H ∧ D.nx σ H) ∨ (J.go i H ∧ ∃ N : St → Hp → Prop, (∀ σ' H', N σ' H' → ∃ m', m' < m ∧ W (i + 1) m' σ' H') ∧ ∀ x H', J.yld i H x H' → g x σ H' fun σ2 H2 => tb { D with nx := N, ct := N, bk := D.nx } σ2 H2)
def pinsAt (fp : List Addr) (h : Heap) : List (Addr × Obj) := fp.filterMap fun b => (h.get? b).map fun o => (b, o)
theorem mem_pinsAt {fp : List Addr} {h : Heap} {b : Addr} {o : Obj} (hb : b ∈ fp) (e : h.get? b = some o) : (b, o) ∈ pinsAt fp h := List.mem_filterMap.mpr ⟨b, hb, by rw [e]; rfl⟩
theorem of_pinsAt {fp : List Addr} {h : Heap} {p : Addr × Obj} (hp : p ∈ pinsAt fp h) : p.1 ∈ fp ∧ h.get? p.1 = some p.2 := by
  obtain ⟨b, hb, e⟩ := List.mem_filterMap.mp hp
  cases q : h.get? b with
  | none => rw [q] at e; cases e
  | some o =>
    rw [q] at e
    have e' : (b, o) = p := Option.some.inj e
    subst e'
    exact ⟨hb, q⟩
theorem Inv.pinned {pins : List (Addr × Obj)} {σ : St} {H : Hp} {s : Shared} {fp : List Addr} (I : Inv X pins σ H s) (hf : ∀ b ∈ fp, FpOk X pins H b) (ho : ∀ b ∈ fp, ∃ o, s.heap.get? b = some o ∧ ∀ v, o.data ≠ .cell v) : Inv X (pins ++ pinsAt fp s.heap) σ H s :=
  I.pins_of fun p hp => (List.mem_append.mp hp).elim (fun z => I.pin p (List.mem_append_right _ z)) fun z => by
    obtain ⟨hb, e⟩ := of_pinsAt z
    obtain ⟨f0, f1, f2, _⟩ := hf p.1 hb
    obtain ⟨o, e', d⟩ := ho p.1 hb
    rw [e] at e'; cases e'
    exact ⟨e, f0, f1, f2, d⟩
theorem Inv.unpinned {pins pl : List (Addr × Obj)} {σ : St} {H : Hp} {s : Shared} (I : Inv X (pins ++ pl) σ H s) : Inv X pins σ H s := I.pins_of fun p hp => I.pin p (List.mem_append_right _ (List.mem_append_left _ hp))
theorem ps_for {iter : Expr} {body : List Stmt} {wi : TI} {g : TG} {tb : TS} {pos : Pos} (hp : PassesOwn (model X.prog X.w) X.A X.env X.xe) (hc : X.calm = true) (hi : PI X tg iter wi) (hg : PG X tg g) (hb : PSs X body tb)
    (hs : ∀ x, foldedSetIterable iter X.env x = pure x := by intro _; rfl) : PS X (.For tg iter body [] pos) (tFor wi g tb) := by
  intro pins s σ H D I h
  refine wpAny_For (thn (hi pins s σ H _ I h) fun v s1 h1 => thn h1 fun itv s2 h2 => ?_) hs
  obtain ⟨it, fp, tn, J, H2, e, I2, T, st2, f2, W, ⟨m0, w0⟩, turn⟩ := h2
  subst e
  have stat : ∀ {H' : Hp}, (∀ b ∈ fp, H' b = none) → ∀ b ∈ fp, FpOk X pins H' b := fun hn b hb => ⟨hn b hb, (f2 b hb).2⟩
  refine codeAny_forLoop_any (fun n s' => ∃ i σ' H', Inv X pins σ' H' s' ∧ tn i s'.heap ∧ (∀ b ∈ fp, H' b = none) ∧ W i n σ' H') ?_ m0 ⟨0, σ, H2, I2, st2, fun b hb => (f2 b hb).1, w0⟩
  rintro n s3 ⟨i, σ3, H3, I3, st3, fr3, w3⟩
  rcases turn i n σ3 H3 w3 with ⟨stop, qn⟩ | ⟨go, N, hN, step⟩
  · refine wpAny_passesOwn hp (thn (T.done X rfl rfl rfl hc i pins s3 σ3 H3 X.xe I3 (stat fr3) st3 stop) fun r s4 ⟨hr, I4⟩ => ?_)
    subst hr
    exact wpAny_execs_nil ⟨σ3, H3, I4, qn⟩
  · refine wpAny_passesOwn hp (thn (T.item X rfl rfl rfl hc i pins s3 σ3 H3 X.xe I3 (stat fr3) st3 go) fun r s4 ⟨u, hr, h4⟩ => ?_)
    subst hr
    refine wpAny_passesOwn hp (thn h4 fun _ s5 ⟨x, H5, I5, r5, y5, st5, fr5⟩ => ?_)
    have I5' := I5.pinned (stat fr5) (T.obj _ _ st5)
    refine wpAny_passesOwn hp (thn (hg _ s5 σ3 H5 x u _ I5' r5 (step x H5 y5)) fun _ s6 ⟨σ6, H6, I6, q6⟩ => ?_)
    refine wpAny_passesOwn hp (thn (hb _ s6 σ6 H6 _ I6 q6) fun f s7 q7 => ?_)
    have again : ∀ {σ7 : St} {H7 : Hp}, Inv X (pins ++ pinsAt fp s5.heap) σ7 H7 s7 → N σ7 H7 → ∃ m, m < n ∧ ∃ i σ' H', Inv X pins σ' H' s7 ∧ tn i s7.heap ∧ (∀ b ∈ fp, H' b = none) ∧ W i m σ' H' := fun {σ7 H7} I7 n7 => by
      obtain ⟨m', hm, w7⟩ := hN σ7 H7 n7
      refine ⟨m', hm, i + 1, σ7, H7, I7.unpinned, T.keep _ _ _ st5 fun b hb o e => (I7.pin (b, o) (List.mem_append_right _ (List.mem_append_right _ (mem_pinsAt hb e)))).1, fun b hb => ?_, w7⟩
      obtain ⟨o, e, d⟩ := T.obj _ _ st5 b hb
      exact (I7.pin (b, o) (List.mem_append_right _ (List.mem_append_right _ (mem_pinsAt hb e)))).2.1
    cases f with
    | next => obtain ⟨σ7, H7, I7, n7⟩ := q7; exact again I7 n7
    | cont => obtain ⟨σ7, H7, I7, n7⟩ := q7; exact again I7 n7
    | brk => obtain ⟨σ7, H7, I7, q7⟩ := q7; exact ⟨σ7, H7, I7.unpinned, q7⟩
    | ret v => obtain ⟨x7, σ7, H7, I7, r7, q7⟩ := q7; exact ⟨x7, σ7, H7, I7.unpinned, r7, q7⟩
end
theorem for_list {K : PySem.W.Frag} {a : Addr} {xs : List V} {g : TG} {tb : TS} {D : Ends} {σ : St} {H : Hp} (Pv : Nat → St → Hp → Prop) (h0 : Pv 0 σ H) (hl : ∀ i σ H, i ≤ xs.length → Pv i σ H → SqL K H a xs)
    (hs : ∀ i x σ H, xs[i]? = some x → Pv i σ H → g x σ H fun σ2 H2 => tb { D with nx := Pv (i + 1), ct := Pv (i + 1), bk := D.nx } σ2 H2) (hd : ∀ σ H, Pv xs.length σ H → D.nx σ H) :
    ∃ W : Nat → Nat → St → Hp → Prop, (∃ m, W 0 m σ H) ∧ ∀ i m σ H, W i m σ H →
      ((Itl K a).stop i H ∧ D.nx σ H) ∨ ((Itl K a).go i H ∧ ∃ N : St → Hp → Prop, (∀ σ' H', N σ' H' → ∃ m', m' < m ∧ W (i + 1) m' σ' H') ∧ ∀ x H', (Itl K a).yld i H x H' → g x σ H' fun σ2 H2 => tb { D with nx := N, ct := N, bk := D.nx } σ2 H2) := by
  refine ⟨fun i m σ H => m = xs.length - i ∧ i ≤ xs.length ∧ Pv i σ H, ⟨xs.length, by simp, Nat.zero_le _, h0⟩, ?_⟩
  rintro i m σ H ⟨rfl, hi, p⟩
  have q := hl i σ H hi p
  by_cases hlt : i < xs.length
  · refine .inr ⟨⟨xs, xs[i], q, by simp [hlt]⟩, Pv (i + 1), fun σ' H' p' => ⟨xs.length - (i + 1), by omega, rfl, hlt, p'⟩, fun x H' y => ?_⟩
    obtain ⟨e, y⟩ := y
    subst e
    exact hs i x σ _ (y xs q) p
  · have e : i = xs.length := by omega
    subst e
    exact .inl ⟨⟨xs, q, Nat.le_refl _⟩, hd σ H p⟩
theorem for_range {lo : Int} {n : Nat} {g : TG} {tb : TS} {D : Ends} {σ : St} {H : Hp} (Pv : Nat → St → Hp → Prop) (h0 : Pv 0 σ H)
    (hs : ∀ i σ H, i < n → Pv i σ H → g (.int (lo + i)) σ H fun σ2 H2 => tb { D with nx := Pv (i + 1), ct := Pv (i + 1), bk := D.nx } σ2 H2) (hd : ∀ σ H, Pv n σ H → D.nx σ H) :
    ∃ W : Nat → Nat → St → Hp → Prop, (∃ m, W 0 m σ H) ∧ ∀ i m σ H, W i m σ H →
      ((Itr lo n).stop i H ∧ D.nx σ H) ∨ ((Itr lo n).go i H ∧ ∃ N : St → Hp → Prop, (∀ σ' H', N σ' H' → ∃ m', m' < m ∧ W (i + 1) m' σ' H') ∧ ∀ x H', (Itr lo n).yld i H x H' → g x σ H' fun σ2 H2 => tb { D with nx := N, ct := N, bk := D.nx } σ2 H2) := by
  refine ⟨fun i m σ H => m = n - i ∧ i ≤ n ∧ Pv i σ H, ⟨n, by simp, Nat.zero_le _, h0⟩, ?_⟩
  rintro i m σ H ⟨rfl, hi, p⟩
  by_cases hlt : i < n
  · refine .inr ⟨hlt, Pv (i + 1), fun σ' H' p' => ⟨n - (i + 1), by omega, rfl, hlt, p'⟩, fun x H' y => ?_⟩
    obtain ⟨e, y⟩ := y
    subst e y
    exact hs i σ _ hlt p
  · have e : i = n := by omega
    subst e
    exact .inl ⟨Nat.le_refl _, hd σ H p⟩
end L2
namespace L2
open PySem PySem.Spec PyProof.Rows
abbrev R2 := V → V → Hp → VK → Prop
def OpR (X : Cx) (f : Value → Value → Sem Value) (r : R2) : Prop :=
  ∀ (pins : List (Addr × Obj)) (s : Shared) (σ : St) (H : Hp) (x y : V) (v u : Value) (Q : VK), Inv X pins σ H s → RelV x v → RelV y u → r x y H Q →
    wpAny (model X.prog X.w) X.A (f v u) (EP X pins σ Q) X.xe s
def UnR (X : Cx) (f : Value → Sem Value) (r : V → Hp → VK → Prop) : Prop :=
  ∀ (pins : List (Addr × Obj)) (s : Shared) (σ : St) (H : Hp) (x : V) (v : Value) (Q : VK), Inv X pins σ H s → RelV x v → r x H Q →
    wpAny (model X.prog X.w) X.A (f v) (EP X pins σ Q) X.xe s
def CallR (X : Cx) (f : Value) (r : List V → Hp → VK → Prop) : Prop :=
  ∀ (pins : List (Addr × Obj)) (s : Shared) (σ : St) (H : Hp) (xs : List V) (us : List Value) (Q : VK), Inv X pins σ H s → Vals xs us → r xs H Q →
    wpAny (model X.prog X.w) X.A (call f us) (EP X pins σ Q) X.xe s
def tOp (r : R2) (ta tb : TE) : TE := fun σ H Q => ta σ H fun x H1 => tb σ H1 fun y H2 => r x y H2 Q
def tUn (r : V → Hp → VK → Prop) (ta : TE) : TE := fun σ H Q => ta σ H fun x H1 => r x H1 Q
def rI (C : Int → Int → Prop) (g : Int → Int → V) : R2 := fun x y H Q => ∃ i j, x = .int i ∧ y = .int j ∧ C i j ∧ Q (g i j) H
def rI0 (g : Int → Int → V) : R2 := fun x y H Q => ∃ i j, x = .int i ∧ y = .int j ∧ Q (g i j) H
def rU (g : Int → V) : V → Hp → VK → Prop := fun x H Q => ∃ i, x = .int i ∧ Q (g i) H
section
variable {X : Cx} {a b c : Expr} {ta tb tc : TE} {pos : Pos}
theorem binT (ha : PE X a ta) (hb : PE X b tb) {pins : List (Addr × Obj)} {s : Shared} {σ : St} {H : Hp} {R : V → V → Hp → Prop} (I : Inv X pins σ H s)
    (h : ta σ H fun x H1 => tb σ H1 fun y H2 => R x y H2) {Q : Value → Shared → Prop} {f : Value → Value → Sem Value}
    (hf : ∀ v u s2 x y H2, Inv X pins σ H2 s2 → RelV x v → RelV y u → R x y H2 → wpAny (model X.prog X.w) X.A (f v u) Q X.xe s2) :
    wpAny (model X.prog X.w) X.A (eval a X.env) (fun v s₁ => wpAny (model X.prog X.w) X.A (eval b X.env) (fun u s₂ => wpAny (model X.prog X.w) X.A (f v u) Q X.xe s₂) X.xe s₁) X.xe s := by
  refine thn (ha pins s σ H _ I h) fun v s1 ⟨x, H1, I1, r1, q1⟩ => ?_
  refine thn (hb pins s1 σ H1 _ I1 q1) fun u s2 ⟨y, H2, I2, r2, q2⟩ => ?_
  exact hf v u s2 x y H2 I2 r1 r2 q2
theorem pe_op {op : Operator} {r : R2} (ho : OpR X (binaryOp op) r) (ha : PE X a ta) (hb : PE X b tb) : PE X (.BinOp a op b pos) (tOp r ta tb) := by
  intro pins s σ H Q I h
  exact wpAny_BinOp (binT ha hb I h fun v u s2 x y H2 I2 rx ry q => ho pins s2 σ H2 x y v u Q I2 rx ry q)
theorem pe_un {op : UnaryOp} {r : V → Hp → VK → Prop} (ho : UnR X (unaryOp op) r) (ha : PE X a ta) : PE X (.UnaryOp op a pos) (tUn r ta) := by
  intro pins s σ H Q I h
  exact UnaryOp_ (thn (ha pins s σ H _ I h) fun v s1 ⟨x, H1, I1, r1, q1⟩ => ho pins s1 σ H1 x v Q I1 r1 q1)
theorem opI {f : Value → Value → Sem Value} {C : Int → Int → Prop} {g : Int → Int → Int}
    (rule : ∀ (i j : Int) (t u : Tok) (s : Shared) (Q : Value → Shared → Prop) (E : Value → Shared → Prop), C i j → Q (.int (g i j) s.toks) { s with toks := s.toks + 1 } → wpAny (model X.prog X.w) X.A (f (.int i t) (.int j u)) Q E s) :
    OpR X f (rI C fun i j => .int (g i j)) := by
  intro pins s σ H x y v u Q I rx ry h
  obtain ⟨i, j, rfl, rfl, hc, q⟩ := h
  obtain ⟨t, rfl⟩ := rx
  obtain ⟨t', rfl⟩ := ry
  exact rule i j t t' s _ _ hc ⟨.int (g i j), H, I.tok _, ⟨_, rfl⟩, q⟩
theorem opI0 {f : Value → Value → Sem Value} {g : Int → Int → Int}
    (rule : ∀ (i j : Int) (t u : Tok) (s : Shared) (Q : Value → Shared → Prop) (E : Value → Shared → Prop), Q (.int (g i j) s.toks) { s with toks := s.toks + 1 } → wpAny (model X.prog X.w) X.A (f (.int i t) (.int j u)) Q E s) :
    OpR X f (rI0 fun i j => .int (g i j)) := by
  intro pins s σ H x y v u Q I rx ry h
  obtain ⟨i, j, rfl, rfl, q⟩ := h
  obtain ⟨t, rfl⟩ := rx
  obtain ⟨t', rfl⟩ := ry
  exact rule i j t t' s _ _ ⟨.int (g i j), H, I.tok _, ⟨_, rfl⟩, q⟩
theorem opB0 {f : Value → Value → Sem Value} {g : Int → Int → Bool}
    (rule : ∀ (i j : Int) (t u : Tok) (s : Shared) (Q : Value → Shared → Prop) (E : Value → Shared → Prop), Q (.bool (g i j)) s → wpAny (model X.prog X.w) X.A (f (.int i t) (.int j u)) Q E s) :
    OpR X f (rI0 fun i j => .bl (g i j)) := by
  intro pins s σ H x y v u Q I rx ry h
  obtain ⟨i, j, rfl, rfl, q⟩ := h
  obtain ⟨t, rfl⟩ := rx
  obtain ⟨t', rfl⟩ := ry
  exact rule i j t t' s _ _ ⟨.bl (g i j), H, I, rfl, q⟩
def CDiv (i j : Int) : Prop := 0 < j ∧ j < 1073741824
def CPow (i j : Int) : Prop := 0 ≤ j ∧ j ≤ 1000000 ∧ i.natAbs < 2 ^ 64
def CMul (i j : Int) : Prop := (-(2 ^ 64) < i ∧ i < 2 ^ 64) ∨ (-(2 ^ 64) < j ∧ j < 2 ^ 64)
theorem CMul.ok {i j : Int} (h : CMul i j) : IntMulOk i j := by
  rcases h with ⟨h1, h2⟩ | ⟨h1, h2⟩
  · exact .of_left (intBits_le_64 h1 h2)
  · exact .of_right (intBits_le_64 h1 h2)
theorem op_add : OpR X (binaryOp .Add) (rI0 fun i j => .int (i + j)) := opI0 fun _ _ _ _ _ _ _ q => add_int q
theorem op_sub : OpR X (binaryOp .Sub) (rI0 fun i j => .int (i - j)) := opI0 fun _ _ _ _ _ _ _ q => sub_int q
theorem op_mul : OpR X (binaryOp .Mult) (rI CMul fun i j => .int (i * j)) := opI fun _ _ _ _ _ _ _ hc q => mul_int q hc.ok
theorem op_fdiv : OpR X (binaryOp .FloorDiv) (rI CDiv fun i j => .int (i / j)) := opI fun i j _ _ _ _ _ hc q => by
  have h1 : (0 : Int) < j := hc.1
  have h2 : j < 1073741824 := hc.2
  exact floordiv_int (by omega) (by rw [Int.fdiv_eq_ediv_of_nonneg i (by omega)]; exact q) (.inl (PyProof.noPylong_small (by omega)))
theorem op_mod : OpR X (binaryOp .Mod) (rI (fun _ j => 0 < j) fun i j => .int (i % j)) := opI fun i j _ _ _ _ _ hc q => by
  have h1 : (0 : Int) < j := hc
  exact mod_int' (by omega) (by rw [Int.fmod_eq_emod_of_nonneg i (by omega)]; exact q)
theorem op_pow : OpR X (binaryOp .Pow) (rI CPow fun i j => .int (i ^ j.toNat)) := opI fun _ _ _ _ _ _ _ hc q => pow_int_small hc.1 hc.2.1 hc.2.2 q
theorem unI {f : Value → Sem Value} {g : Int → Int}
    (rule : ∀ (i : Int) (t : Tok) (s : Shared) (Q : Value → Shared → Prop) (E : Value → Shared → Prop), Q (.int (g i) s.toks) { s with toks := s.toks + 1 } → wpAny (model X.prog X.w) X.A (f (.int i t)) Q E s) :
    UnR X f (rU fun i => .int (g i)) := by
  intro pins s σ H x v Q I rx h
  obtain ⟨i, rfl, q⟩ := h
  obtain ⟨t, rfl⟩ := rx
  exact rule i t s _ _ ⟨.int (g i), H, I.tok _, ⟨_, rfl⟩, q⟩
theorem un_neg : UnR X (unaryOp .USub) (rU fun i => .int (-i)) := unI fun _ _ _ _ _ q => neg_int q
end
def scal : V → V → Bool
  | .non, .non => true | .non, .int _ => true | .int _, .non => true | .non, .bl _ => true | .bl _, .non => true | .non, .str _ => true | .str _, .non => true
  | .int _, .int _ => true | .bl _, .bl _ => true | .str _, .str _ => true | .byt _, .byt _ => true
  | .int _, .str _ => true | .str _, .int _ => true | .bl _, .str _ => true | .str _, .bl _ => true
  | _, _ => false
def rEq : R2 := fun x y H Q => scal x y = true ∧ Q (.bl (decide (x = y))) H
def rNe : R2 := fun x y H Q => scal x y = true ∧ Q (.bl (!decide (x = y))) H
theorem dec_int {i j : Int} : decide (V.int i = V.int j) = (i == j) := by
  rw [Bool.eq_iff_iff]
  simp
theorem dec_bl {i j : Bool} : decide (V.bl i = V.bl j) = (i == j) := by
  rw [Bool.eq_iff_iff]
  simp
theorem dec_str {i j : Str} : decide (V.str i = V.str j) = (i == j) := by
  rw [Bool.eq_iff_iff]
  simp
theorem dec_byt {i j : Array UInt8} : decide (V.byt i = V.byt j) = (i.toList == j.toList) := by
  rw [Bool.eq_iff_iff]
  cases i
  cases j
  simp
section
variable {X : Cx} {a b c : Expr} {ta tb tc : TE} {pos : Pos}
theorem fin_bl {pins : List (Addr × Obj)} {σ : St} {H : Hp} {s : Shared} {Q : VK} {k k' : Bool} (I : Inv X pins σ H s) (q : Q (.bl k) H) (e : k = k') : EP X pins σ Q (.bool k') s := by
  subst e
  exact ⟨.bl k, H, I, rfl, q⟩
theorem op_eq : OpR X (compareOp .Eq) rEq := by
  intro pins s σ H x y v u Q I rx ry h
  obtain ⟨hs, q⟩ := h
  cases x with
  | non =>
    cases rx
    cases y with
    | non => cases ry; exact PySem.EqNone.eq_none_none (fin_bl I q (by simp))
    | bl j => cases ry; exact PySem.EqNone.eq_none_bool (fin_bl I q (by simp))
    | int j => obtain ⟨t', rfl⟩ := ry; exact PySem.EqNone.eq_none_int (fin_bl I q (by simp))
    | str j => obtain ⟨t', rfl⟩ := ry; exact PySem.EqNone.eq_none_str (fin_bl I q (by simp))
    | _ => exact absurd (show false = true from hs) Bool.false_ne_true
  | bl i =>
    cases rx
    cases y with
    | non => cases ry; exact PySem.EqNone.eq_bool_none (fin_bl I q (by simp))
    | bl j => cases ry; exact eq_bool (fin_bl I q dec_bl)
    | str j => obtain ⟨t', rfl⟩ := ry; exact PySem.EqMixed.eq_bool_str (fin_bl I q (by simp))
    | _ => exact absurd (show false = true from hs) Bool.false_ne_true
  | int i =>
    obtain ⟨t, rfl⟩ := rx
    cases y with
    | non => cases ry; exact PySem.EqNone.eq_int_none (fin_bl I q (by simp))
    | int j => obtain ⟨t', rfl⟩ := ry; exact eq_int (fin_bl I q dec_int)
    | str j => obtain ⟨t', rfl⟩ := ry; exact PySem.EqMixed.eq_int_str (fin_bl I q (by simp))
    | _ => exact absurd (show false = true from hs) Bool.false_ne_true
  | str i =>
    obtain ⟨t, rfl⟩ := rx
    cases y with
    | non => cases ry; exact PySem.EqNone.eq_str_none (fin_bl I q (by simp))
    | bl j => cases ry; exact PySem.EqMixed.eq_str_bool (fin_bl I q (by simp))
    | int j => obtain ⟨t', rfl⟩ := ry; exact PySem.EqMixed.eq_str_int (fin_bl I q (by simp))
    | str j => obtain ⟨t', rfl⟩ := ry; exact eq_str (fin_bl I q dec_str)
    | _ => exact absurd (show false = true from hs) Bool.false_ne_true
  | byt i =>
    obtain ⟨t, rfl⟩ := rx
    cases y with
    | byt j => obtain ⟨t', rfl⟩ := ry; exact PySem.W.eq_bytes (fin_bl I q dec_byt)
    | _ => exact absurd (show false = true from hs) Bool.false_ne_true
  | _ => cases y <;> exact absurd (show false = true from hs) Bool.false_ne_true
theorem op_ne : OpR X (compareOp .NotEq) rNe := by
  intro pins s σ H x y v u Q I rx ry h
  obtain ⟨hs, q⟩ := h
  cases x with
  | non =>
    cases rx
    cases y with
    | non => cases ry; exact PySem.EqNone.ne_none_none (fin_bl I q (by simp))
    | bl j => cases ry; exact PySem.EqNone.ne_none_bool (fin_bl I q (by simp))
    | int j => obtain ⟨t', rfl⟩ := ry; exact PySem.EqNone.ne_none_int (fin_bl I q (by simp))
    | str j => obtain ⟨t', rfl⟩ := ry; exact PySem.EqNone.ne_none_str (fin_bl I q (by simp))
    | _ => exact absurd (show false = true from hs) Bool.false_ne_true
  | bl i =>
    cases rx
    cases y with
    | non => cases ry; exact PySem.EqNone.ne_bool_none (fin_bl I q (by simp))
    | bl j => cases ry; exact ne_bool (fin_bl I q (congrArg not dec_bl))
    | str j => obtain ⟨t', rfl⟩ := ry; exact PySem.EqMixed.ne_bool_str (fin_bl I q (by simp))
    | _ => exact absurd (show false = true from hs) Bool.false_ne_true
  | int i =>
    obtain ⟨t, rfl⟩ := rx
    cases y with
    | non => cases ry; exact PySem.EqNone.ne_int_none (fin_bl I q (by simp))
    | int j => obtain ⟨t', rfl⟩ := ry; exact ne_int (fin_bl I q (congrArg not dec_int))
    | str j => obtain ⟨t', rfl⟩ := ry; exact PySem.EqMixed.ne_int_str (fin_bl I q (by simp))
    | _ => exact absurd (show false = true from hs) Bool.false_ne_true
  | str i =>
    obtain ⟨t, rfl⟩ := rx
    cases y with
    | non => cases ry; exact PySem.EqNone.ne_str_none (fin_bl I q (by simp))
    | bl j => cases ry; exact PySem.EqMixed.ne_str_bool (fin_bl I q (by simp))
    | int j => obtain ⟨t', rfl⟩ := ry; exact PySem.EqMixed.ne_str_int (fin_bl I q (by simp))
    | str j => obtain ⟨t', rfl⟩ := ry; exact ne_str (fin_bl I q (congrArg not dec_str))
    | _ => exact absurd (show false = true from hs) Bool.false_ne_true
  | byt i =>
    obtain ⟨t, rfl⟩ := rx
    cases y with
    | byt j => obtain ⟨t', rfl⟩ := ry; exact PySem.W.ne_bytes (fin_bl I q (congrArg not dec_byt))
    | _ => exact absurd (show false = true from hs) Bool.false_ne_true
  | _ => cases y <;> exact absurd (show false = true from hs) Bool.false_ne_true
theorem op_lt : OpR X (compareOp .Lt) (rI0 fun i j => .bl (decide (i < j))) := opB0 fun _ _ _ _ _ _ _ q => lt_int q
theorem op_le : OpR X (compareOp .LtE) (rI0 fun i j => .bl (decide (i ≤ j))) := opB0 fun _ _ _ _ _ _ _ q => le_int q
theorem op_gt : OpR X (compareOp .Gt) (rI0 fun i j => .bl (decide (j < i))) := opB0 fun _ _ _ _ _ _ _ q => gt_int q
theorem op_ge : OpR X (compareOp .GtE) (rI0 fun i j => .bl (decide (j ≤ i))) := opB0 fun _ _ _ _ _ _ _ q => ge_int q
theorem op_isN : OpR X (compareOp .Is) (fun x y H Q => y = .non ∧ Q (.bl (decide (x = .non))) H) := by
  intro pins s σ H x y v u Q I rx ry h
  obtain ⟨rfl, q⟩ := h
  cases ry
  refine is_none_gen (fin_bl I q ?_)
  cases x <;> first
    | (cases rx; rfl)
    | (obtain ⟨t, rfl⟩ := rx; rfl)
theorem nomark (b : Expr) {op : CmpOp} (h : op ≠ .In := by decide) (h2 : op ≠ .NotIn := by decide) : behindInMarks op b = false := by
  have e1 : (op == CmpOp.In) = false := by cases op <;> first | rfl | exact absurd rfl h
  have e2 : (op == CmpOp.NotIn) = false := by cases op <;> first | rfl | exact absurd rfl h2
  cases b <;> simp [behindInMarks, e1, e2]
theorem pe_cmpR {op : CmpOp} {r : R2} (ho : OpR X (compareOp op) r) (ha : PE X a ta) (hb : PE X b tb) (hm : behindInMarks op b = false) : PE X (.Compare a [op] [b] pos) (tOp r ta tb) := by
  intro pins s σ H Q I h
  exact wpAny_Compare1 (binT ha hb I h fun v u s2 x y H2 I2 rx ry q => ho pins s2 σ H2 x y v u Q I2 rx ry q) hm
def tTest (t : TE) : TT := fun σ H Q => t σ H fun x H' => ∃ k, x = .bl k ∧ Q k H'
theorem pt_cmpR {op : CmpOp} {r : R2} (ho : OpR X (compareOp op) r) (ha : PE X a ta) (hb : PE X b tb) (hm : behindInMarks op b = false) : PT X (.Compare a [op] [b] pos) (tTest (tOp r ta tb)) := by
  intro pins s σ H Q I h
  refine wpAny_isTrue_Compare1 (thn (ha pins s σ H _ I h) fun v s1 ⟨x, H1, I1, r1, q1⟩ => thn (hb pins s1 σ H1 _ I1 q1) fun u s2 ⟨y, H2, I2, r2, q2⟩ =>
    thn (ho pins s2 σ H2 x y v u _ I2 r1 r2 q2) fun c s3 ⟨z, H3, I3, r3, k, e, q3⟩ => ?_) hm
  subst e
  cases r3
  exact wpAny_truthy_bool ⟨H3, I3, q3⟩
def tChain (r r' : R2) (ta tb tc : TE) : TE := fun σ H Q => ta σ H fun x H1 => tb σ H1 fun y H2 => r x y H2 fun z H3 => ∃ k, z = .bl k ∧
  (if k = true then tc σ H3 fun w' H4 => r' y w' H4 Q else Q (.bl false) H3)
theorem pt_chain {op op' : CmpOp} {r r' : R2} (ho : OpR X (compareOp op) r) (ho' : OpR X (compareOp op') r') (ha : PE X a ta) (hb : PE X b tb) (hc : PE X c tc)
    (hm : lastMarks [op, op'] [b, c] = false := by with_unfolding_all rfl) : PT X (.Compare a [op, op'] [b, c] pos) (tTest (tChain r r' ta tb tc)) := by
  intro pins s σ H Q I h
  refine isTrue_chain (thn (ha pins s σ H _ I h) fun v s1 ⟨x, H1, I1, r1, q1⟩ => test_link (thn (hb pins s1 σ H1 _ I1 q1) fun u s2 ⟨y, H2, I2, r2, q2⟩ =>
    thn (ho pins s2 σ H2 x y v u _ I2 r1 r2 q2) fun d s3 ⟨z, H3, I3, r3, k, e, q3⟩ => ?_)) hm
  subst e
  cases r3
  refine wpAny_truthy_bool ?_
  cases k with
  | false =>
    obtain ⟨k', e', q'⟩ := q3
    cases e'
    exact ite_ff ⟨H3, I3, q'⟩
  | true =>
    refine ite_tt (test_last (thn (hc pins s3 σ H3 _ I3 q3) fun w' s4 ⟨z', H4, I4, r4, q4⟩ => thn (ho' pins s4 σ H4 y z' u w' _ I4 r2 r4 q4) fun d' s5 ⟨z2, H5, I5, r5, k2, e2, q5⟩ => ?_))
    subst e2
    cases r5
    exact wpAny_truthy_bool ⟨H5, I5, q5⟩
theorem line63 : (sizeLine : Nat) < 2 ^ 63 := by rw [sizeLine_eq]; decide
theorem vals1 {x : V} {us : List Value} (r : Vals [x] us) : ∃ u, us = [u] ∧ RelV x u := by
  cases r with
  | cons r1 r2 => cases r2; exact ⟨_, rfl, r1⟩
theorem vals2 {x y : V} {us : List Value} (r : Vals [x, y] us) : ∃ u w', us = [u, w'] ∧ RelV x u ∧ RelV y w' := by
  cases r with
  | cons r1 r2 =>
    cases r2 with
    | cons r3 r4 => cases r4; exact ⟨_, _, rfl, r1, r3⟩
end
end L2
namespace L2
open PySem PySem.Spec PyProof.Rows
structure ObjM (h : Heap) (x dx C : Addr) (mA : Str → Option Value) : Prop where
  obj : h.get? x = some (PySem.W.instObj C dx)
  ns : h.Ns1 dx mA
  ne : dx ≠ x
theorem lookIn_ns {h : Heap} {dx : Addr} {mA : Str → Option Value} (n : h.Ns1 dx mA) : ∃ od, h.get? dx = some od ∧ ∀ name, PySem.W.lookIn name od = some (mA name) := by
  obtain ⟨o, es, ep, ho, hd, hk, _, hm⟩ := n
  refine ⟨o, ho, fun name => ?_⟩
  have e := hm name
  unfold nsFind findBy at e
  rw [← Array.find?_toList] at e
  unfold PySem.W.lookIn
  rw [hd]
  dsimp only
  split
  · rename_i y q
    rw [q] at e
    exact congrArg some e
  · rename_i q
    rw [q] at e
    have a : es.toList.any (·.refKey) = false := by
      rw [List.any_eq_false]
      intro y hy
      obtain ⟨z, t, hkey⟩ := hk y (Array.mem_toList_iff.mp hy)
      simp [DictEntry.refKey, hkey]
    have a' : ¬ es.toList.any (·.refKey) = true := by rw [a]; exact Bool.false_ne_true
    rw [if_neg a']
    exact congrArg some e
theorem ObjM.look {h : Heap} {x dx C : Addr} {mA : Str → Option Value} (I : ObjM h x dx C mA) : ∃ od, PySem.W.InstAt h x (PySem.W.instObj C dx) C (some od) ∧ ∀ name, PySem.W.lookIn name od = some (mA name) :=
  let ⟨od, ho, hl⟩ := lookIn_ns I.ns
  ⟨od, ⟨I.obj, rfl, rfl, ho⟩, hl⟩
section
variable {prog : Program} {w : World} {A : Around} {E : Value → Shared → Prop} {s : Shared} {K : PySem.W.Frag} {x dx C f : Addr} {mA : Str → Option Value} {name : Str} {v : Value}
theorem get_map {expr : Bool} {Q : Value → Shared → Prop} (X : K.In s.heap) (I : ObjM s.heap x dx C mA) (hg : PySem.W.plainGet K C name = true) (hh : PySem.W.hasDictIn K C = true)
    (ha : PySem.W.findIn K (.ref C) name = some none) (hv : mA name = some v) (hv' : PySem.W.handedIn v = true) (h : Q v { s with toks := s.toks + 1 }) :
    wpAny (model prog w) A (getAttr (.ref x) name expr) Q E s := by
  obtain ⟨od, J, hl⟩ := I.look
  exact PySem.W.get_value X J (PySem.W.plainGet_of hg).1 (PySem.W.findObj_own hh ha rfl (by rw [hl, hv])) hv' h
theorem get_meth {pl : Sem Bool} {Q : Value × List Value → Shared → Prop} (X : K.In s.heap) (I : ObjM s.heap x dx C mA) (hg : PySem.W.plainGet K C name = true)
    (hf : PySem.W.findIn K (.ref C) name = some (some (.ref f))) (ht : PySem.W.isFn K (.ref f) = true) (hv : mA name = none) (h : Q (.ref f, [.ref x]) s) :
    wpAny (model prog w) A (getMethod (.ref x) name pl) Q E s := by
  obtain ⟨od, J, hl⟩ := I.look
  exact PySem.W.method_fn X J (PySem.W.plainGet_of hg).1 (PySem.W.plainGet_of hg).2 hf (beq_iff_eq.mp ht) (by show (PySem.W.lookIn name od).map (·.isSome) = some false; rw [hl, hv]; rfl) h
theorem set_map {ns : List Str} {Q : Unit → Shared → Prop} (X : K.In s.heap) (I : ObjM s.heap x dx C mA)
    (hs : PySem.W.findIn K (.ref C) "__setattr__" = some (some (.builtin "object.__setattr__"))) (hp : PySem.W.plainOver K C = true) (ht : PySem.W.takerIn K C name = some none) (hh : PySem.W.hasDictIn K C = true)
    (hw : PySem.Within mA ns) (hsz : ns.length ≤ sizeLine)
    (h : ∀ h', ObjM h' x dx C (fun y => if y = name then some v else mA y) → Heap.SameBut dx s.heap h' → Q () { s with heap := h', toks := s.toks + 2 }) :
    wpAny (model prog w) A (setAttr (.ref x) name v) Q E s := by
  obtain ⟨od, J, hl⟩ := I.look
  refine PySem.W.set_plain X J hs (PySem.W.osa_open (s := { s with toks := s.toks + 1 }) (r := none) X J hp ht fun b => ?_)
  obtain ⟨cd, hc, hd'⟩ := PySem.W.any_some hh
  have hx : s.heap.get? x = some ⟨.ref C, some dx, .plain, #[]⟩ := I.obj
  refine wpAny_bind (wpAny_pure (wpAny_bind (wpAny_bind (wpAny_loadPart hx (wpAny_bind (PySem.W.Looks.here (s := { s with toks := s.toks + 1 }) (PySem.W.looks_clsIn X hc) ?_))))))
  rw [hd']
  refine wpAny_pure (a := some dx) (wpAny_bind (wpAny_pure (wpAny_bind ?_)))
  refine wpAny_nsSet1 (s := { s with toks := s.toks + 1 }) I.ns fun h' hn2 hs2 => ?_
  obtain ⟨oD, esD, epD, hoD, hdD, hcD⟩ := hn2.count (PySem.Within.cons name v hw)
  refine wpAny_bind (wpAny_lookBehind hoD (by rw [hdD]; exact pastItsLine_dict (Nat.le_trans hcD (by rw [List.length_cons]; omega))) ?_)
  exact wpAny_pure (h _ ⟨(hs2.2 _ (Ne.symm I.ne)).trans I.obj, hn2, I.ne⟩ hs2)
theorem make_map {R : Result → Shared → Prop} {vs : List Value} {kw : List (Str × Value)} (X : K.In s.heap) (hm : PySem.W.makesIn K C = true)
    (hi : PySem.W.findIn K (.ref C) "__init__" = some (some (.ref f))) (hf : PySem.W.typeIn K (.ref f) = some (.type "function"))
    (h : codeAny (model prog w) (A.under (.builtin "type.__call__" ⟨.ref C :: vs, kw⟩)) (.call (.ref f) ⟨.ref (s.heap.objs.size + 1) :: vs, kw⟩) (PySem.W.InitBack (s.heap.objs.size + 1) R)
      { s with heap := (s.heap.push PySem.W.emptyDict).push (PySem.W.instObj C s.heap.objs.size) }) :
    codeAny (model prog w) A (.call (.ref C) ⟨vs, kw⟩) R s := by
  obtain ⟨hh, g, d, t, os⟩ := s
  exact PySem.W.make_core (PySem.W.makes_of X hm) (PySem.W.looks_findIn X hi) (fun self => PySem.W.bind_fn X self hf) (.inl rfl) h
end
def putF (f : Str) (v : V) : List (Str × V) → List (Str × V)
  | [] => [(f, v)]
  | (g, x) :: r => if g = f then (g, v) :: r else (g, x) :: putF f v r
theorem lookup_putF (f g : Str) (v : V) : ∀ fs : List (Str × V), (putF f v fs).lookup g = if g = f then some v else fs.lookup g
  | [] => by
    show List.lookup g [(f, v)] = _
    by_cases h : g = f
    · have hb : (g == f) = true := beq_iff_eq.mpr h
      simp only [List.lookup, hb, if_pos h]
    · have hb : (g == f) = false := beq_eq_false_iff_ne.mpr h
      simp only [List.lookup, hb, if_neg h]
  | (k, x) :: r => by
    have ih := lookup_putF f g v r
    rw [show putF f v ((k, x) :: r) = (if k = f then (k, v) :: r else (k, x) :: putF f v r) from rfl]
    by_cases hk : k = f
    · rw [if_pos hk]
      by_cases h : g = k
      · have hb : (g == k) = true := beq_iff_eq.mpr h
        simp only [List.lookup, hb, if_pos (h.trans hk)]
      · have hb : (g == k) = false := beq_eq_false_iff_ne.mpr h
        simp only [List.lookup, hb, if_neg (fun e : g = f => h (e.trans hk.symm))]
    · rw [if_neg hk]
      by_cases h : g = k
      · have hb : (g == k) = true := beq_iff_eq.mpr h
        simp only [List.lookup, hb, if_neg (fun e : g = f => hk (h.symm.trans e))]
      · have hb : (g == k) = false := beq_eq_false_iff_ne.mpr h
        simp only [List.lookup, hb]
        exact ih
theorem keys_putF (f : Str) (v : V) : ∀ fs : List (Str × V), f ∈ (putF f v fs).map (·.1) ∧ ∀ g, g ∈ fs.map (·.1) → g ∈ (putF f v fs).map (·.1)
  | [] => ⟨by simp [putF], fun g h => by simp at h⟩
  | (k, x) :: r => by
    obtain ⟨i1, i2⟩ := keys_putF f v r
    rw [show putF f v ((k, x) :: r) = (if k = f then (k, v) :: r else (k, x) :: putF f v r) from rfl]
    by_cases hk : k = f
    · rw [if_pos hk]
      subst hk
      exact ⟨by simp, fun g h => by simpa using h⟩
    · rw [if_neg hk]
      refine ⟨?_, fun g h => ?_⟩
      · rw [List.map_cons]
        exact List.mem_cons_of_mem _ i1
      · rw [List.map_cons] at h ⊢
        rcases List.mem_cons.mp h with e | e
        · exact List.mem_cons.mpr (.inl e)
        · exact List.mem_cons_of_mem _ (i2 g e)
theorem length_putF (f : Str) (v : V) : ∀ fs : List (Str × V), (putF f v fs).length ≤ fs.length + 1
  | [] => by simp [putF]
  | (k, x) :: r => by
    have ih := length_putF f v r
    rw [show putF f v ((k, x) :: r) = (if k = f then (k, v) :: r else (k, x) :: putF f v r) from rfl]
    by_cases hk : k = f
    · rw [if_pos hk, List.length_cons, List.length_cons]; omega
    · rw [if_neg hk, List.length_cons, List.length_cons]; omega
theorem RelO.some_of {v : V} {o : Option Value} (r : RelO (some v) o) : ∃ u, o = some u ∧ RelV v u := by
  cases o with
  | none => exact (show False from r).elim
  | some u => exact ⟨u, rfl, r⟩
theorem RelO.none_of {o : Option Value} (r : RelO none o) : o = none := by
  cases o with
  | none => rfl
  | some u => exact (show False from r).elim
theorem handed_of {v : V} {u : Value} (r : RelV v u) : PySem.W.handedIn u = true := by
  cases v with
  | non => cases (show u = Value.none from r); rfl
  | bl b => cases (show u = Value.bool b from r); rfl
  | int i => obtain ⟨t, e⟩ := (show ∃ t, u = Value.int i t from r); cases e; rfl
  | str x => obtain ⟨t, e⟩ := (show ∃ t, u = Value.str x t from r); cases e; rfl
  | byt b => obtain ⟨t, e⟩ := (show ∃ t, u = Value.bytes b t from r); cases e; rfl
  | flt b => obtain ⟨t, e⟩ := (show ∃ t, u = Value.float b t from r); cases e; rfl
  | ref a => cases (show u = Value.ref a from r); rfl
  | ty n => cases (show u = Value.type n from r); rfl
section
variable {P : Program} {w : World} {H H' : Hp} {h h' : Heap} {a C dx : Addr} {fs fs' : List (Str × V)}
theorem ins_get (hok : HOk P w H h) (e : H a = some (.ins C dx fs)) : ∃ mA, ObjM h a dx C mA ∧ (∀ f, RelO (fs.lookup f) (mA f)) ∧ PySem.Within mA (fs.map (·.1)) ∧ fs.length ≤ 1000 ∧ H dx = some (.own a) := by
  obtain ⟨d, z, ne, ob, mA, n, r, q⟩ := (show ObjOk P w H h a (.ins C dx fs) from hok a _ e)
  exact ⟨mA, ⟨ob, n, ne⟩, r, q, z, d⟩
end
structure Cls (K : PySem.W.Frag) (C : Addr) : Prop where
  pg : PySem.W.plainGet K C Str.empty = true
  hd : PySem.W.hasDictIn K C = true
  po : PySem.W.plainOver K C = true
  sa : PySem.W.findIn K (.ref C) "__setattr__" = some (some (.builtin "object.__setattr__"))
theorem Cls.get {K : PySem.W.Frag} {C : Addr} (c : Cls K C) (f : Str) : PySem.W.plainGet K C f = true := c.pg
def NoAttr (K : PySem.W.Frag) (C : Addr) (f : Str) : Prop := PySem.W.findIn K (.ref C) f = some none
theorem NoAttr.taker {K : PySem.W.Frag} {C : Addr} {f : Str} (n : NoAttr K C f) : PySem.W.takerIn K C f = some none := by
  unfold PySem.W.takerIn
  rw [show PySem.W.findIn K (.ref C) f = some none from n]
  rfl
structure Meth (K : PySem.W.Frag) (C : Addr) (m : Str) (f : Addr) : Prop where
  at_ : PySem.W.findIn K (.ref C) m = some (some (.ref f))
  fn : PySem.W.isFn K (.ref f) = true
  kp : PySem.W.keepIn K (.ref f) = true
section
variable {X : Cx} {pins : List (Addr × Obj)} {σ : St} {H : Hp} {s : Shared} {a C dx : Addr} {fs : List (Str × V)} {f : Str} {v : V} {A : Around} {E : Value → Shared → Prop}
theorem getattr_ok {b : Bool} {Q : Value → Shared → Prop} (I : Inv X pins σ H s) (e : H a = some (.ins C dx fs)) (c : Cls X.K C) (n : NoAttr X.K C f) (l : fs.lookup f = some v)
    (h : ∀ u s', Inv X pins σ H s' → RelV v u → Q u s') : wpAny (model X.prog X.w) A (getAttr (.ref a) f b) Q E s := by
  obtain ⟨mA, O, r, _, _, _⟩ := ins_get I.hok e
  obtain ⟨u, hu, ru⟩ := RelO.some_of (v := v) (o := mA f) (by rw [← l]; exact r f)
  exact get_map I.kIn O (c.get f) c.hd n hu (handed_of ru) (h u _ (I.tok _) ru)
theorem getmeth_ok {m : Str} {g : Addr} {pl : Sem Bool} {Q : Value × List Value → Shared → Prop} (I : Inv X pins σ H s) (e : H a = some (.ins C dx fs)) (c : Cls X.K C) (k : Meth X.K C m g) (l : fs.lookup m = none)
    (h : Q (.ref g, [.ref a]) s) : wpAny (model X.prog X.w) A (getMethod (.ref a) m pl) Q E s := by
  obtain ⟨mA, O, r, _, _, _⟩ := ins_get I.hok e
  have hn : mA m = none := RelO.none_of (by rw [← l]; exact r m)
  exact get_meth I.kIn O (c.get m) k.at_ k.fn hn h
theorem setattr_ok {y : V} {u : Value} {Q : Unit → Shared → Prop} (I : Inv X pins σ H s) (e : H a = some (.ins C dx fs)) (c : Cls X.K C) (n : NoAttr X.K C f) (hl : fs.length < 1000) (ry : RelV y u)
    (h : ∀ s', Inv X pins σ (upd H a (.ins C dx (putF f y fs))) s' → Q () s') : wpAny (model X.prog X.w) A (setAttr (.ref a) f u) Q E s := by
  obtain ⟨mA, O, r, wi, _, ho⟩ := ins_get I.hok e
  have hz : (fs.map (·.1)).length ≤ sizeLine := by rw [List.length_map, sizeLine_eq]; omega
  refine set_map I.kIn O c.sa c.po n.taker c.hd wi hz fun h' O' sb => h _ ?_
  have hd : ∃ o, h'.get? dx = some o := let ⟨o, _, _, e', _⟩ := O'.ns; ⟨o, e'⟩
  refine I.write (x := a) (e := dx) (by rw [e]; exact True.intro) (.inr ho) (fun b q hb z => (sb.2 b hb).trans z) hd ?_
  refine ⟨by rw [upd_ne O.ne]; exact ho, ?_, O.ne, O'.obj, _, O'.ns, fun g => ?_, fun g hg => ?_⟩
  · have := length_putF f y fs; omega
  · show RelO ((putF f y fs).lookup g) (if g = f then some u else mA g)
    rw [lookup_putF]
    by_cases q : g = f
    · rw [if_pos q, if_pos q]; exact ry
    · rw [if_neg q, if_neg q]; exact r g
  · by_cases q : g = f
    · rw [q]; exact (keys_putF f y fs).1
    · refine (keys_putF f y fs).2 g (wi g fun z => hg ?_)
      show (if g = f then some u else mA g) = none
      rw [if_neg q]; exact z
theorem Inv.made (I : Inv X pins σ H s) : Inv X pins σ (upd (upd H s.heap.objs.size (.own (s.heap.objs.size + 1))) (s.heap.objs.size + 1) (.ins C s.heap.objs.size []))
    { s with heap := (s.heap.push PySem.W.emptyDict).push (PySem.W.instObj C s.heap.objs.size) } := by
  have e1 : (s.heap.push PySem.W.emptyDict).get? s.heap.objs.size = some PySem.W.emptyDict := Heap.get?_push_size s.heap rfl
  have e2 : ((s.heap.push PySem.W.emptyDict).push (PySem.W.instObj C s.heap.objs.size)).get? (s.heap.objs.size + 1) = some (PySem.W.instObj C s.heap.objs.size) := by
    have := Heap.get?_push_size (s.heap.push PySem.W.emptyDict) (o := PySem.W.instObj C s.heap.objs.size) rfl
    rwa [Heap.size_push] at this
  have e3 : (s.heap.push PySem.W.emptyDict).Ns s.heap.objs.size (fun _ => none) := ⟨PySem.W.emptyDict, #[], _, e1, rfl, (fun e he => absurd he (by simp)), fun _ => rfl⟩
  have I1 := I.laid (a := s.heap.objs.size) (o := .own (s.heap.objs.size + 1)) (h' := s.heap.push PySem.W.emptyDict) (t' := s.toks) (fun b u q => Heap.get?_push_of_some _ q) (Nat.le_refl _) ⟨_, e1⟩
  refine I1.laid (a := s.heap.objs.size + 1) (o := .ins C s.heap.objs.size []) (t' := s.toks) (fun b u q => Heap.get?_push_of_some _ q) (Nat.le_of_eq (Heap.size_push _ _)) ?_
  have ne : s.heap.objs.size ≠ s.heap.objs.size + 1 := Nat.ne_of_lt (Nat.lt_succ_self _)
  refine ⟨by rw [upd_ne ne, upd_same], Nat.zero_le _, ne, e2, fun _ => none, (Heap.Ns1.of_empty e3).at fun o q => Heap.get?_push_of_some _ q, fun _ => True.intro, fun y hy => absurd rfl hy⟩
theorem attr_of {prog : Program} {w : World} {env : Env} {e : Expr} {f : Str} {pos : Pos} {s : Shared} {Q : Value → Shared → Prop} (hb : attributeBase e f env (eval e env) = eval e env)
    (h : wpAny (model prog w) A (eval e env) (fun o s₁ => wpAny (model prog w) A (getAttr o f true) Q E s₁) E s) : wpAny (model prog w) A (eval (.Attribute e f pos) env) Q E s :=
  Attribute_any_ h (by rw [arm_eval_Attribute, hb])
end
def tFld (K : PySem.W.Frag) (ta : TE) (f : Str) : TE := fun σ H Q => ta σ H fun x H1 => ∃ a C dx fs v, x = .ref a ∧ H1 a = some (.ins C dx fs) ∧ Cls K C ∧ NoAttr K C f ∧ fs.lookup f = some v ∧ Q v H1
def sFld (K : PySem.W.Frag) (ta tv : TE) (f : Str) : TS := fun D σ H => tv σ H fun y H1 => ta σ H1 fun x H2 => ∃ a C dx fs, x = .ref a ∧ H2 a = some (.ins C dx fs) ∧ Cls K C ∧ NoAttr K C f ∧ fs.length < 1000 ∧
  D.nx σ (upd H2 a (.ins C dx (putF f y fs)))
def InOp (X : Cx) (op : Operator) (rd : V → V → Hp → VK → Prop) : Prop :=
  ∀ (pins : List (Addr × Obj)) (s : Shared) (σ : St) (H : Hp) (x y : V) (u v : Value) (Q : VK), Inv X pins σ H s → RelV x u → RelV y v → rd x y H Q → wpAny (model X.prog X.w) X.A (inplaceOp op u v) (EP X pins σ Q) X.xe s
def sFldAug (K : PySem.W.Frag) (ta tv : TE) (rd : V → V → Hp → VK → Prop) (f : Str) : TS := fun D σ H => ta σ H fun x H1 => ∃ a C dx fs v, x = .ref a ∧ H1 a = some (.ins C dx fs) ∧ Cls K C ∧ NoAttr K C f ∧ fs.lookup f = some v ∧
  tv σ H1 fun y H2 => rd v y H2 fun z H3 => ∃ dx' fs', H3 a = some (.ins C dx' fs') ∧ fs'.length < 1000 ∧ D.nx σ (upd H3 a (.ins C dx' (putF f z fs')))
section
variable {X : Cx} {o e value : Expr} {f : Str} {pos pos' tpos : Pos} {ta tv : TE}
theorem pe_fld (he : PE X e ta) (hb : attributeBase e f X.env (eval e X.env) = eval e X.env) : PE X (.Attribute e f pos) (tFld X.K ta f) := by
  intro pins s σ H Q I h
  refine attr_of hb (thn (he pins s σ H _ I h) fun u s1 ⟨x, H1, I1, rx, a, C, dx, fs, v, ex, ea, c, n, l, q⟩ => ?_)
  subst ex
  obtain rfl : u = Value.ref a := rx
  exact getattr_ok I1 ea c n l fun u' s2 I2 ru => ⟨v, H1, I2, ru, q⟩
theorem ps_fld (ha : PE X o ta) (hv : PE X value tv) (hs : swapsWith value (some (.Attribute o f pos')) pos.line X.env = pure false) : PS X (.Assign [.Attribute o f pos'] value pos) (sFld X.K ta tv f) := by
  intro pins s σ H D I h
  refine plainObj_wpAny_Assign_Attribute (thn (hv pins s σ H _ I h) fun u s1 ⟨y, H1, I1, ry, q⟩ => thn (ha pins s1 σ H1 _ I1 q) fun ov s2 ⟨x, H2, I2, rx, a, C, dx, fs, ex, ea, c, n, l, q2⟩ => ?_) hs
  subst ex
  obtain rfl : ov = Value.ref a := rx
  exact setattr_ok I2 ea c n l ry fun s3 I3 => ⟨σ, _, I3, q2⟩
theorem ps_fldaug {op : Operator} {rd : V → V → Hp → VK → Prop} (ha : PE X o ta) (hv : PE X value tv) (hop : InOp X op rd) : PS X (.AugAssign (.Attribute o f tpos) op value pos) (sFldAug X.K ta tv rd f) := by
  intro pins s σ H D I h
  refine wpAny_AugAssign_AttributeAny (thn (ha pins s σ H _ I h) fun ov s1 ⟨x, H1, I1, rx, a, C, dx, fs, v, ex, ea, c, n, l, q⟩ => ?_)
  subst ex
  obtain rfl : ov = Value.ref a := rx
  refine getattr_ok I1 ea c n l fun u s2 I2 ru => thn (hv pins s2 σ H1 _ I2 q) fun w3 s3 ⟨y, H2, I3, ry, q3⟩ => thn (hop pins s3 σ H2 v y u w3 _ I3 ru ry q3) fun w4 s4 ⟨z, H3, I4, rz, dx', fs', ea', l', q4⟩ => ?_
  exact setattr_ok I4 ea' c n l' rz fun s5 I5 => ⟨σ, _, I5, q4⟩
def rAdd : V → V → Hp → VK → Prop := fun x y H Q => ∃ i j, x = .int i ∧ y = .int j ∧ Q (.int (i + j)) H
theorem in_add : InOp X .Add rAdd := by
  rintro pins s σ H x y u v Q I rx ry ⟨i, j, rfl, rfl, q⟩
  obtain ⟨t, rfl⟩ := (show ∃ t, u = Value.int i t from rx)
  obtain ⟨t', rfl⟩ := (show ∃ t', v = Value.int j t' from ry)
  exact PyProof.Rows.iadd_int ⟨.int (i + j), H, I.tok _, ⟨_, rfl⟩, q⟩
end
section
variable {X : Cx} {pins : List (Addr × Obj)} {σ : St} {H : Hp} {s : Shared} {A : Around} {E : Value → Shared → Prop} {Q : Value → Shared → Prop} {c : Value} {b : Bool}
inductive TyOf (K : PySem.W.Frag) (H : Hp) : V → Value → Prop where
  | non : TyOf K H .non (.type "NoneType")
  | bl (x : Bool) : TyOf K H (.bl x) (.type "bool")
  | int (i : Int) : TyOf K H (.int i) (.type "int")
  | str (x : Str) : TyOf K H (.str x) (.type "str")
  | flt (x : UInt64) : TyOf K H (.flt x) (.type "float")
  | lst {a : Addr} {xs : List V} (e : H a = some (.lst xs)) : TyOf K H (.ref a) (.type "list")
  | frz {a : Addr} {o : Obj} {xs : List V} (e : H a = some (.frz o (.lst xs))) : TyOf K H (.ref a) (.type "list")
  | tup {a : Addr} {xs : List V} (e : H a = some (.tup xs)) : TyOf K H (.ref a) (.type "tuple")
  | dK {a : Addr} {kvs : List (Key × V)} (e : H a = some (.dK kvs)) : TyOf K H (.ref a) (.type "dict")
  | dT {a : Addr} {kvs : List (List Key × V)} (e : H a = some (.dT kvs)) : TyOf K H (.ref a) (.type "dict")
  | ins {a C dx : Addr} {fs : List (Str × V)} (e : H a = some (.ins C dx fs)) (cl : Cls K C) (ha : PySem.W.findIn K (.ref C) "__class__" = some (some (.builtin "object.__class__")))
      (hn : PySem.W.specialIn K (.builtin "object.__class__") "__get__" = some (some (.builtin "getset_descriptor.__get__"))) (htk : PySem.W.takesIn K (.builtin "object.__class__") = some true)
      (hm : PySem.W.mroIn K C (.type "object") = some true) : TyOf K H (.ref a) (.ref C)
theorem isinst_ok {x : V} {u t : Value} (I : Inv X pins σ H s) (rx : RelV x u) (ty : TyOf X.K H x t) (e : PySem.W.kitOne X.K t c = some b) (h : ∀ tk, Q (.bool b) { s with toks := tk }) :
    wpAny (model X.prog X.w) A (call (.builtin "isinstance") [u, c]) Q E s := by
  cases ty with
  | non => cases (show u = Value.none from rx); exact PySem.W.kia_one PySem.W.kitx_none I.kIn True.intro e (fun z => nomatch z) h
  | bl y => cases (show u = Value.bool y from rx); exact PySem.W.kia_one PySem.W.kitx_bool I.kIn True.intro e (fun z => nomatch z) h
  | int i => obtain ⟨t, q⟩ := (show ∃ t, u = Value.int i t from rx); cases q; exact PySem.W.kia_one PySem.W.kitx_int I.kIn True.intro e (fun z => nomatch z) h
  | str y => obtain ⟨t, q⟩ := (show ∃ t, u = Value.str y t from rx); cases q; exact PySem.W.kia_one PySem.W.kitx_str I.kIn True.intro e (fun z => nomatch z) h
  | flt y => obtain ⟨t, q⟩ := (show ∃ t, u = Value.float y t from rx); cases q; exact PySem.W.kia_one PySem.W.kitx_float I.kIn True.intro e (fun z => nomatch z) h
  | @lst a xs ea =>
    cases (show u = Value.ref a from rx)
    obtain ⟨_, _, n, _, h1⟩ := (show ObjOk X.prog X.w H s.heap a (.lst xs) from I.hok a _ ea)
    exact PySem.W.kia_one PySem.W.kitx_list I.kIn ⟨_, h1, rfl⟩ e (fun z => nomatch z) h
  | @frz a ob xs ea =>
    cases (show u = Value.ref a from rx)
    obtain ⟨_, _, _, n, _, h1⟩ := (show ObjOk X.prog X.w H s.heap a (.frz ob (.lst xs)) from I.hok a _ ea)
    exact PySem.W.kia_one PySem.W.kitx_list I.kIn ⟨_, h1, rfl⟩ e (fun z => nomatch z) h
  | @tup a xs ea =>
    cases (show u = Value.ref a from rx)
    obtain ⟨_, _, _, p⟩ := (show ObjOk X.prog X.w H s.heap a (.tup xs) from I.hok a _ ea)
    obtain ⟨o, h1, h2, _⟩ := p
    exact PySem.W.kia_one PySem.W.kitx_tuple I.kIn ⟨o, h1, h2⟩ e (fun z => nomatch z) h
  | @dK a kvs ea =>
    cases (show u = Value.ref a from rx)
    obtain ⟨_, _, vs, _, p⟩ := (show ObjOk X.prog X.w H s.heap a (.dK kvs) from I.hok a _ ea)
    obtain ⟨o, es, ep, h1, h2, _⟩ := p
    exact PySem.W.kia_one PySem.W.kitx_dict I.kIn ⟨o, h1, h2.1⟩ e (fun z => nomatch z) h
  | @dT a kvs ea =>
    cases (show u = Value.ref a from rx)
    obtain ⟨_, _, xs, _, o, es, ep, h1, h2, _⟩ := (show ObjOk X.prog X.w H s.heap a (.dT kvs) from I.hok a _ ea)
    exact PySem.W.kia_one PySem.W.kitx_dict I.kIn ⟨o, h1, h2.1⟩ e (fun z => nomatch z) h
  | @ins a C dx fs ea cl ha hn htk hm =>
    cases (show u = Value.ref a from rx)
    obtain ⟨mA, O, _⟩ := ins_get I.hok ea
    obtain ⟨od, J, _⟩ := O.look
    exact PySem.W.kia_one (PySem.W.kitx_own (cl.get _) cl.hd ha hn htk hm) I.kIn J e (fun z => nomatch z) h
end
end L2
namespace L2
open PySem PySem.Spec PyProof.Rows
structure Room (k : Nat) (A : Around) : Prop where
  hd : A.handled = none
  dp : A.depth + 3 * k + 5 < recursionLimit
  un : A.units + 16 * k + 200 < cLine
theorem Room.mono {j k : Nat} {A : Around} (r : Room k A) (h : j ≤ k) : Room j A := ⟨r.hd, by have := r.dp; omega, by have := r.un; omega⟩
theorem Room.deeper {k : Nat} {A : Around} (r : Room (k + 1) A) (env : Env) : Room k (A.deeper env) :=
  ⟨r.hd, by have := r.dp; show A.depth + 1 + 3 * k + 5 < _; omega, by have := r.un; show A.units + 3 + 16 * k + 200 < _; omega⟩
theorem make_depth {A : Around} {C : Addr} {us : List Value} {kw : List (Str × Value)} : (A.under (.builtin "type.__call__" ⟨.ref C :: us, kw⟩)).depth = A.depth + 1 := by
  first | rfl | simp [Around.under, Code.weight, Code.isCreation, Code.isGuard, Code.isCaller, Code.frames, Code.isFrame, guardIds]
theorem make_units {A : Around} {C : Addr} {us : List Value} {kw : List (Str × Value)} : (A.under (.builtin "type.__call__" ⟨.ref C :: us, kw⟩)).units = A.units + 1 := by
  first | rfl | simp [Around.under, Code.cUnits, Code.frames, Code.isFrame]
theorem Room.make {k : Nat} {A : Around} (r : Room (k + 1) A) (C : Addr) (us : List Value) (kw : List (Str × Value)) : Room k (A.under (.builtin "type.__call__" ⟨.ref C :: us, kw⟩)) :=
  ⟨r.hd, by have := r.dp; rw [make_depth]; omega, by have := r.un; rw [make_units]; omega⟩
theorem Room.depth {k : Nat} {A : Around} (r : Room k A) : A.depth < recursionLimit := by have := r.dp; omega
theorem Room.units {k : Nat} {A : Around} (r : Room k A) : A.units + 64 < cLine := by have := r.un; omega
def tNil : TA := fun _ H Q => Q [] H
def tCons (ta : TE) (tr : TA) : TA := fun σ H Q => ta σ H fun x H1 => tr σ H1 fun xs H2 => Q (x :: xs) H2
section
variable {X : Cx} {e : Expr} {es : List Expr} {te : TE} {t : TA} {pos : Pos}
theorem pa_nil : PA X [] tNil := fun _ _ _ _ H Q I h => Calls.spliced_nil ⟨[], H, I, .nil, h⟩
theorem pa_cons (ha : PE X e te) (hr : PA X es t) (hs : starEach (e :: es) X.env = (false, eval e X.env) :: starEach es X.env := by rfl) : PA X (e :: es) (tCons te t) := by
  intro pos pins s σ H Q I h
  rw [hs]
  show wpAny _ _ (spliced ((false, eval e X.env) :: backTo pos (starEach es X.env))) _ _ s
  refine Calls.spliced_cons (thn (ha pins s σ H _ I h) fun u s1 ⟨x, H1, I1, r1, q1⟩ => ?_)
  exact thn (hr pos pins s1 σ H1 _ I1 q1) fun us s2 ⟨xs, H2, I2, r2, q2⟩ => ⟨x :: xs, H2, I2, .cons r1 r2, q2⟩
def tTup (t : TA) : TE := fun σ H Q => t σ H fun xs H1 => xs.length ≤ sizeLine ∧ ∀ p, H1 p = none → Q (.ref p) (upd H1 p (.tup xs))
def tLst (t : TA) : TE := fun σ H Q => t σ H fun xs H1 => xs.length ≤ sizeLine ∧ ∀ p, H1 p = none → Q (.ref p) (upd H1 p (.lst xs))
theorem pe_tup {x1} (h : PA X es t) : PE X (.Tuple es x1 pos) (tTup t) := by
  intro pins s σ H Q I hq
  refine wpAny_Tuple_spliced (thn (h pos pins s σ H _ I hq) fun us s1 ⟨xs, H1, I1, r, z, q⟩ => ⟨by rw [← r.length]; exact z, ?_⟩)
  have hf : H1 s1.heap.objs.size = none := I1.hok.fresh (Nat.le_refl _)
  refine ⟨.ref s1.heap.objs.size, upd H1 s1.heap.objs.size (.tup xs), I1.laid (t' := s1.toks) (fun b u e => Heap.get?_push_of_some _ e) (Nat.le_refl _) ?_, rfl, q _ hf⟩
  exact ⟨z, us, r, ⟨_, Heap.get?_push_size _ rfl, rfl, _, rfl⟩⟩
theorem pe_lst (h : PA X es t) : PE X (.List es pos) (tLst t) := by
  intro pins s σ H Q I hq
  refine wpAny_List_spliced (thn (h pos pins s σ H _ I hq) fun us s1 ⟨xs, H1, I1, r, z, q⟩ => ⟨by rw [← r.length]; exact z, ?_⟩)
  have hf : H1 s1.heap.objs.size = none := I1.hok.fresh (Nat.le_refl _)
  refine ⟨.ref s1.heap.objs.size, upd H1 s1.heap.objs.size (.lst xs), I1.laid (t' := s1.toks) (fun b u e => Heap.get?_push_of_some _ e) (Nat.le_refl _) ?_, rfl, q _ hf⟩
  exact ⟨z, us, 0, r, Heap.get?_push_size _ rfl⟩
end
abbrev Sp := List V → Hp → VK → XK → Prop
abbrev CXT := List Env → Hp → Shared → XK → Value → Shared → Prop
structure Env0 (P : Program) (w : World) (K : PySem.W.Frag) (mg : Str → Option Value) (base : Heap) (A : Around) (outer : List Env) (s : Shared) (H : Hp) : Prop where
  frames : A.frames = some outer
  mod : Mod K mg base
  bs : ∀ b o, base.get? b = some o → s.heap.get? b = some o ∧ H b = none
  bsz : base.objs.size ≤ s.heap.objs.size
  funs : s.heap.FunFrames base outer
  frf : ∀ b ∈ frs outer, H b = none
  hok : HOk P w H s.heap
  bare : AllBare s.gens
def CE (outer : List Env) (P : Program) (w : World) (H : Hp) (s : Shared) (Q : VK) (u : Value) (s' : Shared) : Prop :=
  ∃ v H', s'.os = s.os ∧ AllBare s'.gens ∧ Un (frs outer) [] H H' s.heap s'.heap ∧ HOk P w H' s'.heap ∧ RelV v u ∧ Q v H'
def CR (CX : CXT) (outer : List Env) (P : Program) (w : World) (H : Hp) (s : Shared) (Q : VK) (E : XK) (r : Result) (s' : Shared) : Prop :=
  match r with
  | .ok (.ret u) => CE outer P w H s Q u s'
  | .ok _ => False
  | .error e => CX outer H s E e s'
structure FnOk (P : Program) (w : World) (K : PySem.W.Frag) (mg : Str → Option Value) (base : Heap) (CX : CXT) (k : Nat) (f : Addr) (fd : FuncData) (ps : List Str) (sp : Sp) : Prop where
  len : ∀ vs H Q E, sp vs H Q E → vs.length = ps.length
  run : ∀ (A : Around) (outer : List Env) (s : Shared) (H : Hp) (args : Args) (us : List Value) (vs : List V) (Q : VK) (E : XK), Room k A → Env0 P w K mg base A outer s H → BindsTo s fd args (ps.zip us) → Vals vs us → sp vs H Q E →
    codeAny (model P w) A (.call (.ref f) args) (CR CX outer P w H s Q E) s
theorem Env0.make {P : Program} {w : World} {K : PySem.W.Frag} {mg : Str → Option Value} {base : Heap} {A : Around} {outer : List Env} {s : Shared} {H : Hp} (e : Env0 P w K mg base A outer s H) (C : Addr) (us : List Value) (kw : List (Str × Value)) :
    Env0 P w K mg base (A.under (.builtin "type.__call__" ⟨.ref C :: us, kw⟩)) outer s H := ⟨by first | exact e.frames | (simpa [Around.under, Code.envs, Code.isFrame, pushEnvs] using e.frames), e.mod, e.bs, e.bsz, e.funs, e.frf, e.hok, e.bare⟩
section
variable {X : Cx} {pins : List (Addr × Obj)} {σ : St} {H : Hp} {s s' : Shared}
theorem Inv.env0 (I : Inv X pins σ H s) : Env0 X.prog X.w X.K X.mg X.base X.A X.stack s H :=
  ⟨I.ok.frames, I.ok.mod, I.bs, Nat.le_trans I.ok.bsz I.sz, I.stack, I.stkFree, I.hok, I.bare⟩
theorem Inv.after {Q : VK} {u : Value} (I : Inv X pins σ H s) (h : CE X.stack X.prog X.w H s Q u s') : EP X pins σ Q u s' := by
  obtain ⟨v, H', os, bare, un, hok, r, q⟩ := h
  obtain ⟨hh, g, d, t, os'⟩ := s'
  obtain rfl : os' = s.os := os
  exact ⟨v, H', I.call (h' := hh) (g' := g) (d' := d) (t' := t) (ch := []) un hok bare (fun b z => absurd z (by simp)), r, q⟩
end
def tCall (sp : Sp) (dvs : List V) (E : XK) (t : TA) : TE := fun σ H Q => t σ H fun vs H1 => sp (vs ++ dvs) H1 Q E
def tMeth (C : Addr) (m : Str) (sp : Sp) (dvs : List V) (E : XK) (ta : TE) (t : TA) : TE := fun σ H Q => ta σ H fun x H1 => ∃ a dx fs, x = .ref a ∧ H1 a = some (.ins C dx fs) ∧ fs.lookup m = none ∧
  t σ H1 fun vs H2 => sp (x :: (vs ++ dvs)) H2 Q E
def tMake (C : Addr) (sp : Sp) (dvs : List V) (E : XK) (t : TA) : TE := fun σ H Q => t σ H fun vs H1 => ∀ x dx, H1 x = none → H1 dx = none → dx ≠ x →
  sp (.ref x :: (vs ++ dvs)) (upd (upd H1 dx (.own x)) x (.ins C dx [])) (fun v H2 => v = .non ∧ Q (.ref x) H2) E
def Binds (K : PySem.W.Frag) (fd : FuncData) (ps : List Str) (ds : List Value) : Prop :=
  ∀ (s : Shared) (us : List Value), K.In s.heap → (us ++ ds).length = ps.length → BindsTo s fd ⟨us, []⟩ (ps.zip (us ++ ds))
theorem Binds.all {K : PySem.W.Frag} {fd : FuncData} {ps : List Str} (h : ∀ us : List Value, us.length = ps.length → bindArgs fd ⟨us, []⟩ = pure (ps.zip us)) : Binds K fd ps [] := fun s us _ hl => by
  rw [List.append_nil] at hl ⊢
  exact .of_eq (h us hl)
def Passes (CX : CXT) (X : Cx) (E : XK) : Prop := ∀ (pins : List (Addr × Obj)) (σ : St) (H : Hp) (s : Shared) (e : Value) (s' : Shared), Inv X pins σ H s → CX X.stack H s E e s' → X.xe e s'
section
variable {X : Cx} {CX : CXT} {k : Nat} {f C : Addr} {fd : FuncData} {ps : List Str} {sp : Sp} {dvs : List V} {ds : List Value} {E : XK} {x m : Str} {p pos apos : Pos} {e o : Expr} {es : List Expr} {ta : TE} {t : TA}
theorem run_fn {pins : List (Addr × Obj)} {σ : St} {H : Hp} {s : Shared} {Q : VK} {us : List Value} {vs : List V} (F : FnOk X.prog X.w X.K X.mg X.base CX k f fd ps sp) (hr : Room k X.A) (hb : Binds X.K fd ps ds) (hd : Vals dvs ds) (hx : Passes CX X E)
    (I : Inv X pins σ H s) (r : Vals vs us) (h : sp (vs ++ dvs) H Q E) : wpAny (model X.prog X.w) X.A (call (.ref f) us) (EP X pins σ Q) X.xe s := by
  have r2 : Vals (vs ++ dvs) (us ++ ds) := r.append hd
  have hl : (us ++ ds).length = ps.length := by rw [← r2.length]; exact F.len _ _ _ _ h
  refine wpAny_call (codeAny_mono (F.run X.A X.stack s H ⟨us, []⟩ (us ++ ds) (vs ++ dvs) Q E hr I.env0 (hb s us I.kIn hl) r2 h) fun r s' hq => ?_)
  cases r with
  | error e => exact hx pins σ H s e s' I hq
  | ok fl =>
    cases fl with
    | ret u => exact I.after hq
    | next => exact False.elim hq
    | brk => exact False.elim hq
    | cont => exact False.elim hq
theorem pe_call (F : FnOk X.prog X.w X.K X.mg X.base CX k f fd ps sp) (hr : Room k X.A) (hg : Gl X x) (hm : X.mg x = some (.ref f)) (hk : PySem.W.keepIn X.K (.ref f) = true) (hb : Binds X.K fd ps ds) (hd : Vals dvs ds) (hx : Passes CX X E)
    (ha : PA X (e :: es) t) (hdb : (x == ("__debug__" : Str)) = false := by decide) (he : starEach (e :: es) X.env = (false, eval e X.env) :: starEach es X.env := by rfl) (hpl : (backTo pos (starEach es X.env)).any (·.1) = false := by rfl) :
    PE X (.Call (.Name x p) (e :: es) [] pos) (tCall sp dvs E t) := by
  intro pins s σ H Q I h
  refine wpAny_Call_Name_kw (ld_glob I hg hm ?_ hdb)
  refine PySem.W.callWith_K (h₀ := X.base) I.ok.mod.kin hk (thn (ha pos pins s σ H _ I h) fun us s1 ⟨vs, H1, I1, r, q⟩ => ⟨I1.kIn, ?_⟩) he hpl
  exact run_fn F hr hb hd hx I1 r q
theorem pe_meth {pl : Sem Bool} (he : PE X o ta) (c : Cls X.K C) (hm : Meth X.K C m f) (F : FnOk X.prog X.w X.K X.mg X.base CX k f fd ps sp) (hr : Room k X.A) (hb : Binds X.K fd ps ds) (hd : Vals dvs ds) (hx : Passes CX X E) (ha : PA X (e :: es) t)
    (hst : starEach (e :: es) X.env = (false, eval e X.env) :: starEach es X.env := by rfl) (hpl : (backTo pos (starEach es X.env)).any (·.1) = false := by rfl)
    (ht : eval (.Call (.Attribute o m apos) (e :: es) [] pos) X.env = (do
      let ov ← eval o X.env
      standAt apos.atName
      let (f, first) ← holding [ov] (getMethod ov m pl)
      callWith pos f first (backTo pos (starEach (e :: es) X.env)) (backToKw pos (keywordEach [] X.env))) := by rfl) :
    PE X (.Call (.Attribute o m apos) (e :: es) [] pos) (tMeth C m sp dvs E ta t) := by
  intro pins s σ H Q I h
  refine PySem.W.methodCall_KW (pl := pl) (thn (he pins s σ H _ I h) fun u s1 ⟨x, H1, I1, rx, a, dx, fs, ex, ea, l, q⟩ => ?_) ht
  subst ex
  obtain rfl : u = Value.ref a := rx
  refine getmeth_ok I1 ea c hm l ?_
  refine PySem.W.callWith_K (first := [.ref a]) (h₀ := X.base) I.ok.mod.kin hm.kp (thn (ha pos pins s1 σ H1 _ I1 q) fun us s2 ⟨vs, H2, I2, r, q2⟩ => ⟨I2.kIn, ?_⟩) hst hpl
  exact run_fn (us := .ref a :: us) (vs := .ref a :: vs) F hr hb hd hx I2 (.cons rfl r) q2
theorem pe_meth0 {pl : Sem Bool} (he : PE X o ta) (c : Cls X.K C) (hm : Meth X.K C m f) (F : FnOk X.prog X.w X.K X.mg X.base CX k f fd ps sp) (hr : Room k X.A) (hb : Binds X.K fd ps ds) (hd : Vals dvs ds) (hx : Passes CX X E)
    (ht : eval (.Call (.Attribute o m apos) [] [] pos) X.env = (do
      let ov ← eval o X.env
      standAt apos.atName
      let (f, first) ← holding [ov] (getMethod ov m pl)
      callWith pos f first (backTo pos (starEach [] X.env)) (backToKw pos (keywordEach [] X.env))) := by rfl) :
    PE X (.Call (.Attribute o m apos) [] [] pos) (tMeth C m sp dvs E ta tNil) := by
  intro pins s σ H Q I h
  refine PySem.W.methodCall_KW (pl := pl) (thn (he pins s σ H _ I h) fun u s1 ⟨x, H1, I1, rx, a, dx, fs, ex, ea, l, q⟩ => ?_) ht
  subst ex
  obtain rfl : u = Value.ref a := rx
  refine getmeth_ok I1 ea c hm l ?_
  exact PySem.W.callWith_K0 (first := [.ref a]) I1.kIn hm.kp (run_fn (us := [.ref a]) (vs := [.ref a]) F hr hb hd hx I1 (.cons rfl .nil) q)
structure Mk (K : PySem.W.Frag) (C f : Addr) : Prop where
  makes : PySem.W.makesIn K C = true
  init : PySem.W.findIn K (.ref C) "__init__" = some (some (.ref f))
  fn : PySem.W.isFn K (.ref f) = true
  kp : PySem.W.keepIn K (.ref C) = true
theorem run_make {pins : List (Addr × Obj)} {σ : St} {H : Hp} {s : Shared} {Q : VK} {us : List Value} {vs : List V} (M : Mk X.K C f) (F : FnOk X.prog X.w X.K X.mg X.base CX k f fd ps sp) (hr : Room (k + 1) X.A) (hb : Binds X.K fd ps ds) (hd : Vals dvs ds)
    (hx : Passes CX X E) (I : Inv X pins σ H s) (r : Vals vs us)
    (h : ∀ x dx, H x = none → H dx = none → dx ≠ x → sp (.ref x :: (vs ++ dvs)) (upd (upd H dx (.own x)) x (.ins C dx [])) (fun v H2 => v = .non ∧ Q (.ref x) H2) E) :
    wpAny (model X.prog X.w) X.A (call (.ref C) us) (EP X pins σ Q) X.xe s := by
  have hq := h (s.heap.objs.size + 1) s.heap.objs.size (I.hok.fresh (Nat.le_succ _)) (I.hok.fresh (Nat.le_refl _)) (Nat.ne_of_lt (Nat.lt_succ_self _))
  have I2 := Inv.made (C := C) I
  have r2 : Vals (V.ref (s.heap.objs.size + 1) :: (vs ++ dvs)) (Value.ref (s.heap.objs.size + 1) :: (us ++ ds)) := .cons rfl (r.append hd)
  have hl : (Value.ref (s.heap.objs.size + 1) :: us ++ ds).length = ps.length := by
    have e := r2.length
    rw [F.len _ _ _ _ hq] at e
    exact e.symm
  refine wpAny_call (make_map (f := f) I.kIn M.makes M.init (beq_iff_eq.mp M.fn) (codeAny_mono (F.run _ X.stack _ _ ⟨Value.ref (s.heap.objs.size + 1) :: us, []⟩ (Value.ref (s.heap.objs.size + 1) :: (us ++ ds)) _ _ E (hr.make C us [])
    (I2.env0.make C us []) (hb _ (Value.ref (s.heap.objs.size + 1) :: us) I2.kIn hl) r2 hq) fun r s' hq' => ?_))
  cases r with
  | error e => exact hx pins σ _ _ e s' I2 hq'
  | ok fl =>
    cases fl with
    | ret u =>
      obtain ⟨v, H', I3, rv, ev, q3⟩ := I2.after hq'
      subst ev
      exact ⟨rv, ⟨V.ref (s.heap.objs.size + 1), H', I3, rfl, q3⟩⟩
    | next => exact False.elim hq'
    | brk => exact False.elim hq'
    | cont => exact False.elim hq'
theorem pe_make (M : Mk X.K C f) (F : FnOk X.prog X.w X.K X.mg X.base CX k f fd ps sp) (hr : Room (k + 1) X.A) (hg : Gl X x) (hm : X.mg x = some (.ref C)) (hb : Binds X.K fd ps ds) (hd : Vals dvs ds) (hx : Passes CX X E)
    (ha : PA X (e :: es) t) (hdb : (x == ("__debug__" : Str)) = false := by decide) (he : starEach (e :: es) X.env = (false, eval e X.env) :: starEach es X.env := by rfl) (hpl : (backTo pos (starEach es X.env)).any (·.1) = false := by rfl) :
    PE X (.Call (.Name x p) (e :: es) [] pos) (tMake C sp dvs E t) := by
  intro pins s σ H Q I h
  refine wpAny_Call_Name_kw (ld_glob I hg hm ?_ hdb)
  refine PySem.W.callWith_K (h₀ := X.base) I.ok.mod.kin M.kp (thn (ha pos pins s σ H _ I h) fun us s1 ⟨vs, H1, I1, r, q⟩ => ⟨I1.kIn, ?_⟩) he hpl
  exact run_make M F hr hb hd hx I1 r q
end
section
variable {X : Cx} {CX : CXT} {k : Nat} {f C : Addr} {fd : FuncData} {ps ks : List Str} {sp : Sp} {E : XK} {x m : Str} {p pos apos kpos : Pos} {e o : Expr} {es : List Expr} {kws : List Keyword} {te ta : TE} {t tk : TA} {nm : Option Str}
variable {g : List Value → List Value → List Value} {gV : List V → List V → List V}
end
structure FnScope (N P : List Str) (sc : Scope) : Prop where
  kind : sc.kind = .function
  co : sc.isCoroutine = false
  gen : sc.isGenerator = false
  nd : N.Nodup
  pre : N.take P.length = P
  par : ∀ x ∈ P, sc.names.lookup x = some .local ∨ sc.names.lookup x = some .cell
  nofree : ∀ y ∈ sc.names, y.2 ≠ .free
theorem bindL_out {kindOf : Str → Option NameKind} {x : Str} : ∀ {binds : List (Str × Value)} {m : Str → Option Value}, (∀ v, (x, v) ∉ binds) → bindL kindOf binds m x = m x
  | [], _, _ => rfl
  | (n, v) :: r, m, h => by
    unfold bindL
    rw [bindL_out fun w hw => h w (List.mem_cons_of_mem _ hw)]
    split
    · have : x ≠ n := by rintro rfl; exact h v List.mem_cons_self
      simp [this]
    · rfl
theorem bindC_out {kindOf : Str → Option NameKind} {x : Str} : ∀ {binds : List (Str × Value)} {m : Str → Option Value}, (∀ v, (x, v) ∉ binds) → bindC kindOf binds m x = m x
  | [], _, _ => rfl
  | (n, v) :: r, m, h => by
    unfold bindC
    rw [bindC_out fun w hw => h w (List.mem_cons_of_mem _ hw)]
    split
    · rfl
    · have : x ≠ n := by rintro rfl; exact h v List.mem_cons_self
      simp [this]
theorem bindL_get {kindOf : Str → Option NameKind} {x : Str} {v : Value} : ∀ {P : List Str} {vs : List Value} {i : Nat} {m : Str → Option Value}, P.Nodup → P[i]? = some x → vs[i]? = some v → kindOf x = some .local →
    bindL kindOf (P.zip vs) m x = some v
  | [], _, _, _, _, h, _, _ => by simp at h
  | _ :: _, [], _, _, _, _, h, _ => by simp at h
  | p :: P, w :: vs, 0, m, nd, h1, h2, hk => by
    simp at h1 h2; subst h1; subst h2
    show bindL kindOf ((p, w) :: P.zip vs) m p = _
    unfold bindL
    rw [bindL_out fun v hv => (List.nodup_cons.mp nd).1 (List.of_mem_zip hv).1, if_pos hk]
    simp
  | p :: P, w :: vs, i + 1, m, nd, h1, h2, hk => by
    show bindL kindOf ((p, w) :: P.zip vs) m x = _
    unfold bindL
    exact bindL_get (i := i) (List.nodup_cons.mp nd).2 (by simpa using h1) (by simpa using h2) hk
theorem bindC_get {kindOf : Str → Option NameKind} {x : Str} {v : Value} : ∀ {P : List Str} {vs : List Value} {i : Nat} {m : Str → Option Value}, P.Nodup → P[i]? = some x → vs[i]? = some v → kindOf x ≠ some .local →
    bindC kindOf (P.zip vs) m x = some v
  | [], _, _, _, _, h, _, _ => by simp at h
  | _ :: _, [], _, _, _, _, h, _ => by simp at h
  | p :: P, w :: vs, 0, m, nd, h1, h2, hk => by
    simp at h1 h2; subst h1; subst h2
    show bindC kindOf ((p, w) :: P.zip vs) m p = _
    unfold bindC
    rw [bindC_out fun v hv => (List.nodup_cons.mp nd).1 (List.of_mem_zip hv).1, if_neg hk]
    simp
  | p :: P, w :: vs, i + 1, m, nd, h1, h2, hk => by
    show bindC kindOf ((p, w) :: P.zip vs) m x = _
    unfold bindC
    exact bindC_get (i := i) (List.nodup_cons.mp nd).2 (by simpa using h1) (by simpa using h2) hk
def start (N : List Str) (vs : List V) : St := vs.map some ++ List.replicate (N.length - vs.length) none
def cxOf (CX : CXT) (P : Program) (w : World) (K : PySem.W.Frag) (mg : Str → Option Value) (base : Heap) (N : List Str) (qual : Str) (scope : Scope) (f : Addr) (cd : Value) (A : Around) (outer : List Env) (s : Shared) (H : Hp) (E : XK) : Cx where
  prog := P
  w := w
  K := K
  mg := mg
  base := base
  A := A.deeper (envOfC qual scope s.heap.objs.size f cd)
  N := N
  s₀ := s
  H₀ := H
  env := envOfC qual scope s.heap.objs.size f cd
  outer := outer
  stack := envOfC qual scope s.heap.objs.size f cd :: outer
  ex := []
  calm := true
  fn := fun _ => true
  pn := []
  xe := fun e s' => wpAny (model P w) (A.deeper (envOfC qual scope s.heap.objs.size f cd)) (leaving (envOfC qual scope s.heap.objs.size f cd) e) (fun _ s'' => CX outer H s E e s'') (fun e' s'' => CX outer H s E e' s'') s'
theorem cell_has {sc : Scope} {n : Nat} {x : Str} (h : sc.names.lookup x = some .cell) : ∃ c, (cellsFrom n sc.names []).lookup x = some c := by
  have q := PySem.W.cellsFrom_some sc.names n [] (.inl h)
  exact Option.isSome_iff_exists.mp q
theorem inv_start {CX : CXT} {P : Program} {w : World} {K : PySem.W.Frag} {mg : Str → Option Value} {base : Heap} {N ps : List Str} {qual : Str} {scope : Scope} {f : Addr} {cd : Value} {A : Around} {outer : List Env} {s s1 : Shared} {H : Hp} {E : XK} {us : List Value} {vs : List V}
    (S : FnScope N ps scope) (hd : A.handled = none) (e0 : Env0 P w K mg base A outer s H) (hl : vs.length = ps.length) (r : Vals vs us)
    (x : InCallC s s.heap.objs.size (bindL (envOfC qual scope s.heap.objs.size f cd).kindOf (ps.zip us) fun _ => none) (cellsFrom (s.heap.objs.size + 1) scope.names []) (bindC (envOfC qual scope s.heap.objs.size f cd).kindOf (ps.zip us) fun _ => none) s1) :
    Inv (cxOf CX P w K mg base N qual scope f cd A outer s H E) [] (start N vs) H s1 := by
  have hpl : ps.length ≤ N.length := by have := congrArg List.length S.pre; rw [List.length_take] at this; omega
  obtain ⟨h1, tk, rfl, hk⟩ := x.done
  have noA : ∀ b : Addr, b ∉ (cxOf CX P w K mg base N qual scope f cd A outer s H E).ex := fun b z => absurd (show b ∈ ([] : List Addr) from z) (by simp)
  refine ⟨⟨e0.mod, S.kind, rfl, rfl, Nat.le_refl _, fun y z c h1 h2 => ?_, fun y hy => ?_, fun y c _ h => ?_, fun _ => hd, Around.frames_deeper e0.frames, .inr ⟨rfl, rfl⟩, fun b z => absurd z (noA b), e0.bs, e0.bsz, fun b _ _ => noA b, fun b z => absurd z (noA b), e0.funs, e0.frf⟩,
    rfl, e0.bare, Un.kept hk, ⟨_, x.toInCall.ns, fun i y v h1 h2 h3 => ?_⟩, fun y c h => ⟨_, x.cell y c h⟩, e0.hok.fresh (Nat.le_refl _), fun y c h => ?_, fun p hp => absurd (show p ∈ ([] : List (Addr × Obj)) from hp) (by simp), e0.hok.kept hk, ?_⟩
  · exact name_of_addr x.apart (PySem.mem_of_lookup h1) (PySem.mem_of_lookup h2)
  · have hy : scope.names.lookup y = some .cell ∨ scope.names.lookup y = some .free := hy
    rcases hy with hy | hy
    · exact cell_has hy
    · exact absurd rfl (S.nofree _ (PySem.mem_of_lookup hy))
  · exact Nat.le_of_lt (x.above y c (PySem.mem_of_lookup h))
  · have hi : i < vs.length := by
      unfold start at h2
      by_cases hi : i < vs.length
      · exact hi
      · rw [List.getElem?_append_right (by simpa using hi)] at h2
        rw [List.getElem?_replicate] at h2
        split at h2 <;> cases h2
    have ha : vs[i]? = some v := by
      unfold start at h2
      rw [List.getElem?_append_left (by simpa using hi), List.getElem?_map] at h2
      cases e : vs[i]? with
      | none => rw [e] at h2; cases h2
      | some a => rw [e] at h2; cases h2; rfl
    obtain ⟨u, hu, rv⟩ := r.get ha
    have hp : ps[i]? = some y := by
      rw [← S.pre, List.getElem?_take_of_lt (by omega)]; exact h1
    have ndP : ps.Nodup := by rw [← S.pre]; exact S.nd.sublist (List.take_sublist _ _)
    refine ⟨u, rv, ?_⟩
    rcases S.par y (List.mem_of_getElem? hp) with k | k
    · exact .inl ⟨k, bindL_get ndP hp hu k⟩
    · obtain ⟨c, e⟩ := cell_has (n := s.heap.objs.size + 1) k
      refine .inr ⟨.inl k, c, e, ?_⟩
      have q := x.cell y c e
      rw [bindC_get ndP hp hu (by show scope.names.lookup y ≠ _; rw [k]; decide)] at q
      exact q
  · exact e0.hok.fresh (Nat.le_of_lt (x.above y c (PySem.mem_of_lookup h)))
  · unfold start
    show _ = N.length
    rw [List.length_append, List.length_map, List.length_replicate]
    omega
theorem fn_of {CX : CXT} {P : Program} {w : World} {K : PySem.W.Frag} {mg : Str → Option Value} {base : Heap} {k : Nat} {f : Addr} {name qual : Str} {params : Arguments} {body : List Stmt} {scope : Scope} {dV kV doc pm cdv ct oc : Value} {an od : Option Addr}
    {osl : Array (Option Value)} {N ps : List Str} {sp : Sp} (lk : K.lookup f = some ⟨oc, od, .func (PySem.W.fnOf name qual params body scope dV kV doc pm an cdv ct), osl⟩) (hcd : PySem.W.codeIn K cdv qual = true) (S : FnScope N ps scope)
    (len : ∀ vs H Q E, sp vs H Q E → vs.length = ps.length)
    (hbody : ∀ (A : Around) (outer : List Env) (s : Shared) (H : Hp) (vs : List V) (Q : VK) (E : XK), Room k (A.deeper (envOfC qual scope s.heap.objs.size f cdv)) → sp vs H Q E →
      ∃ t, PSs (cxOf CX P w K mg base N qual scope f cdv A outer s H E) body t ∧ t { nx := fun _ H' => Q .non H', rt := Q } (start N vs) H) :
    FnOk P w K mg base CX (k + 1) f (PySem.W.fnOf name qual params body scope dV kV doc pm an cdv ct) ps sp := by
  refine ⟨len, fun A outer s H args us vs Q E hr e0 hb r hsp => ?_⟩
  have hl := len _ _ _ _ hsp
  have KX : K.In s.heap := e0.mod.kin.keeps fun b o e => (e0.bs b o e).1
  have lim : s.heap.NoLimit := e0.mod.nolimit.keeps fun b o e => (e0.bs b o e).1
  have hkind : ∀ y ∈ ps.zip us, scope.names.lookup y.1 = some .local ∨ (scope.names.lookup y.1 = some .cell ∧ ((cellsFrom (s.heap.objs.size + 1) scope.names []).lookup y.1).isSome = true) := fun ⟨n, v⟩ hy => by
    rcases S.par n (List.of_mem_zip hy).1 with q | q
    · exact .inl q
    · exact .inr ⟨q, PySem.W.cellsFrom_some _ _ _ (.inl q)⟩
  refine codeAny_call_function hr.depth (KX _ _ lk) rfl S.co S.gen rfl (PySem.W.codeRec_of KX hcd) (hb _ _ _ _ ?_)
  refine wpAny_newFunctionEnv_cells S.kind hkind fun env he s1 x => ?_
  subst he
  refine ⟨lim.keeps x.toInCall.keep, codeAny_func ?_⟩
  obtain ⟨t, ht, hq⟩ := hbody A outer s H vs Q E (hr.deeper _) hsp
  have I : Inv (cxOf CX P w K mg base N qual scope f cdv A outer s H E) [] (start N vs) H s1 := inv_start S hr.hd e0 hl r x
  refine wpAny_mono (ht [] s1 (start N vs) H _ I hq) (fun fl s' hs => ?_) fun e s' hs => hs
  have fin : ∀ {σ' : St} {H' : Hp} {v : V} {u : Value}, Inv (cxOf CX P w K mg base N qual scope f cdv A outer s H E) [] σ' H' s' → RelV v u → Q v H' → CE outer P w H s Q u s' :=
    fun {σ' H' v u} J rv q => ⟨v, H', J.os, J.bare, J.base, J.hok, rv, q⟩
  cases fl with
  | ret u =>
    obtain ⟨v, σ', H', J, rv, q⟩ := hs
    exact fin J rv q
  | next =>
    obtain ⟨σ', H', J, q⟩ := hs
    exact fin (v := V.non) (u := Value.none) J rfl q
  | brk =>
    obtain ⟨_, _, _, q⟩ := hs
    exact False.elim q
  | cont =>
    obtain ⟨_, _, _, q⟩ := hs
    exact False.elim q
end L2
namespace L2
open PySem PySem.Spec PyProof.Rows
section
variable {X : Cx} {x : Str} {p pos : Pos} {e : Expr} {es : List Expr} {t : TA} {id T : String} {r : List V → Hp → VK → Prop}
def tCB (r : List V → Hp → VK → Prop) (t : TA) : TE := fun σ H Q => t σ H fun vs H1 => r vs H1 Q
theorem pe_callB (hc : CallR X (.builtin id) r) (hg : Gl X x) (hm : X.mg x = none) (hv : bootBuiltins x = some (.builtin id)) (ha : PA X (e :: es) t) (hn : x ≠ "__name__" := by decide) (hdb : (x == ("__debug__" : Str)) = false := by decide)
    (he : starEach (e :: es) X.env = (false, eval e X.env) :: starEach es X.env := by rfl) (hpl : (backTo pos (starEach es X.env)).any (·.1) = false := by rfl) : PE X (.Call (.Name x p) (e :: es) [] pos) (tCB r t) := by
  intro pins s σ H Q I h
  refine wpAny_Call_Name_kw (ld_blt I hg hm hv ?_ hn hdb)
  exact PyProof.Rows.callWith_builtin1 (thn (ha pos pins s σ H _ I h) fun us s1 ⟨vs, H1, I1, r1, q1⟩ => hc pins s1 σ H1 vs us Q I1 r1 q1) he hpl
theorem pe_callTy (hc : CallR X (.type T) r) (hg : Gl X x) (hm : X.mg x = none) (hv : bootBuiltins x = some (.type T)) (ha : PA X (e :: es) t) (hn : x ≠ "__name__" := by decide) (hdb : (x == ("__debug__" : Str)) = false := by decide)
    (he : starEach (e :: es) X.env = (false, eval e X.env) :: starEach es X.env := by rfl) (hpl : (backTo pos (starEach es X.env)).any (·.1) = false := by rfl) : PE X (.Call (.Name x p) (e :: es) [] pos) (tCB r t) := by
  intro pins s σ H Q I h
  refine wpAny_Call_Name_kw (ld_blt I hg hm hv ?_ hn hdb)
  exact PyProof.Rows.callWith_type1 (thn (ha pos pins s σ H _ I h) fun us s1 ⟨vs, H1, I1, r1, q1⟩ => hc pins s1 σ H1 vs us Q I1 r1 q1) he hpl
end
end L2
namespace HT
open PySem PyProof.Rows
section
open PySem.SeqAt
open PySem.AutoSeq1 (wpAny_loadPart')
open PySem.MeetsSeq PySem.MeetsSeq2 PySem.MeetsSeq3
end
section
variable {prog : Program} {w : World} {A : Around} {E : Value → Shared → Prop} {s : Shared}
def sIx (n d : Nat) : Option Int → Nat
  | none => d
  | some v => if v < 0 then (v + (n : Int)).toNat else min v.toNat n
theorem sIx_none (n d : Nat) : sIx n d none = d := rfl
end
end HT
namespace L2
open PySem PySem.Spec PyProof.Rows
abbrev TO := St → Hp → (Option Int → Hp → Prop) → Prop
def PO (X : Cx) (e : Option Expr) (t : TO) : Prop :=
  ∀ (pins : List (Addr × Obj)) (s : Shared) (σ : St) (H : Hp) (Q : Option Int → Hp → Prop), Inv X pins σ H s → t σ H Q →
    wpAny (model X.prog X.w) X.A (evalPart e X.env) (fun u s' => ∃ o H', Inv X pins σ H' s' ∧ IsPart u o ∧ Q o H') X.xe s
def tNoPart : TO := fun _ H Q => Q none H
def tPart (t : TE) : TO := fun σ H Q => t σ H fun x H1 => ∃ i, x = .int i ∧ Q (some i) H1
theorem intsAre_of {ns : List Int} : ∀ {us : List Value}, Vals (ns.map V.int) us → IntsAre us ns := by
  induction ns with
  | nil => intro us r; rw [List.map_nil] at r; cases r; exact .nil
  | cons n ns ih =>
    intro us r
    rw [List.map_cons] at r
    cases r with
    | cons r1 r2 =>
      obtain ⟨t, e⟩ := r1
      subst e
      exact .cons n t (ih r2)
section
variable {X : Cx} {e : Expr} {te : TE} {lo hi : Option Expr} {tl th : TO} {pos p2 : Pos}
theorem po_none : PO X none tNoPart := by
  intro pins s σ H Q I h
  rw [evalPart_none]
  exact wpAny_pure ⟨none, H, I, .none, h⟩
theorem po_some (h : PE X e te) : PO X (some e) (tPart te) := by
  intro pins s σ H Q I hw
  rw [evalPart_some]
  refine thn (h pins s σ H _ I hw) fun u s1 ⟨x, H1, I1, r1, q1⟩ => ?_
  obtain ⟨i, rfl, q⟩ := q1
  obtain ⟨t, rfl⟩ := r1
  exact ⟨some i, H1, I1, .int i t, q⟩
def SlR (X : Cx) (r : V → Option Int → Option Int → Hp → VK → Prop) : Prop :=
  ∀ (pins : List (Addr × Obj)) (s : Shared) (σ : St) (H : Hp) (x : V) (v vl vu : Value) (lo hi : Option Int) (sl : Addr) (Q : VK), Inv X pins σ H s → RelV x v → s.heap.IsSliceOf sl vl vu .none → IsPart vl lo → IsPart vu hi → r x lo hi H Q →
    ∃ T id, typeLookup (.type T) "__getitem__" = pure (some (.builtin id)) ∧ s.TypeIs v T ∧ wpAny (model X.prog X.w) X.A (getItem v (.ref sl)) (EP X pins σ Q) X.xe s
def tSl (r : V → Option Int → Option Int → Hp → VK → Prop) (te : TE) (tl th : TO) : TE := fun σ H Q => te σ H fun x H1 => tl σ H1 fun l H2 => th σ H2 fun u H3 => r x l u H3 Q
theorem pe_slice {r : V → Option Int → Option Int → Hp → VK → Prop} (hr : SlR X r) (he : PE X e te) (hl : PO X lo tl) (hu : PO X hi th) : PE X (.Subscript e (.Slice lo hi none p2) pos) (tSl r te tl th) := by
  intro pins s σ H Q I h
  refine Subscript_ (thn (he pins s σ H _ I h) fun v s1 ⟨x, H1, I1, r1, q1⟩ => ?_)
  refine wpAny_Slice (thn (hl pins s1 σ H1 _ I1 q1) fun vl s2 ⟨l, H2, I2, pl, q2⟩ => thn (hu pins s2 σ H2 _ I2 q2) fun vu s3 ⟨u, H3, I3, pu, q3⟩ => ?_)
  rw [evalPart_none]
  refine wpAny_pure ?_
  have I4 : Inv X pins σ H3 { s3 with heap := s3.heap.push { cls := .type "slice", data := .fields #[vl, vu, .none] } } := I3.kept (t' := s3.toks) fun b ob q => Heap.get?_push_of_some _ q
  obtain ⟨T, id, hT, ht, hg⟩ := hr pins { s3 with heap := s3.heap.push { cls := .type "slice", data := .fields #[vl, vu, .none] } } σ H3 x v vl vu l u s3.heap.objs.size Q I4 r1 (Heap.IsSliceOf.new ..) pl pu q3
  show wpAny (model X.prog X.w) X.A (subscriptTail e (.Slice lo hi none p2) v (.ref s3.heap.objs.size)) (EP X pins σ Q) X.xe { s3 with heap := s3.heap.push { cls := .type "slice", data := .fields #[vl, vu, .none] } }
  exact tail_any (ops := [.ref s3.heap.objs.size, v]) ht hT hg (by with_unfolding_all rfl)
def cutV (xs : List V) (lo hi : Option Int) : List V := (xs.drop (HT.sIx xs.length 0 lo)).take (HT.sIx xs.length xs.length hi - HT.sIx xs.length 0 lo)
theorem cutV_length (xs : List V) (lo hi : Option Int) : (cutV xs lo hi).length ≤ xs.length := by
  unfold cutV
  rw [List.length_take, List.length_drop]
  omega
end
end L2
namespace L2
open PySem PySem.Spec PyProof.Rows
def ixN (n : Nat) (i : Int) : Option Nat := if 0 ≤ i then (if i < n then some i.toNat else none) else if -(n : Int) ≤ i then some (i + n).toNat else none
def atI {α : Type} (xs : List α) (i : Int) : Option α := (ixN xs.length i).bind fun j => xs[j]?
theorem ixN_seq {n : Nat} {i : Int} {j : Nat} (h : ixN n i = some j) : seqIndex? i n = some j ∧ j < n ∧ -(n : Int) ≤ i ∧ i < n := by
  unfold ixN at h
  by_cases h0 : 0 ≤ i
  · rw [if_pos h0] at h
    by_cases h1 : i < n
    · rw [if_pos h1] at h
      have e : i.toNat = j := Option.some.inj h
      exact ⟨by rw [seqIndex_of h0 h1, e], by omega, by omega, h1⟩
    · rw [if_neg h1] at h; cases h
  · rw [if_neg h0] at h
    by_cases h1 : -(n : Int) ≤ i
    · rw [if_pos h1] at h
      have e : (i + n).toNat = j := Option.some.inj h
      exact ⟨by rw [seqIndex_neg (by omega) h1, e], by omega, h1, by omega⟩
    · rw [if_neg h1] at h; cases h
theorem atI_get {α : Type} {xs : List α} {i : Int} {v : α} (h : atI xs i = some v) : ∃ j, seqIndex? i xs.length = some j ∧ xs[j]? = some v ∧ j < xs.length ∧ -(xs.length : Int) ≤ i ∧ i < xs.length := by
  unfold atI at h
  cases e : ixN xs.length i with
  | none => rw [e] at h; cases h
  | some j =>
    rw [e] at h
    obtain ⟨h1, h2, h3, h4⟩ := ixN_seq e
    exact ⟨j, h1, h, h2, h3, h4⟩
theorem atI_nat {α : Type} {xs : List α} {j : Nat} {v : α} (h : xs[j]? = some v) : atI xs (j : Int) = some v := by
  have hj : j < xs.length := (List.getElem?_eq_some_iff.mp h).1
  have e : ixN xs.length (j : Int) = some j := by
    unfold ixN
    rw [if_pos (by omega), if_pos (by omega)]; simp
  unfold atI; rw [e]; exact h
theorem atI_last {α : Type} (xs : List α) (v : α) : atI (xs ++ [v]) (-1) = some v := by
  have hl : (xs ++ [v]).length = xs.length + 1 := by simp
  have e : ixN (xs ++ [v]).length (-1) = some xs.length := by
    unfold ixN
    rw [hl, if_neg (by decide), if_pos (by omega)]
    congr 1
    omega
  unfold atI
  rw [e]
  show (xs ++ [v])[xs.length]? = some v
  simp
def PlainIx (b : Expr) : Prop := ∀ o i, subscripted b false o i = operate [o, i] (getItem o i)
def IxR (X : Cx) (r : R2) : Prop :=
  ∀ (value slice : Expr) (pins : List (Addr × Obj)) (s : Shared) (σ : St) (H : Hp) (x y : V) (v u : Value) (Q : VK), Inv X pins σ H s → RelV x v → RelV y u → r x y H Q →
    subscripted slice false v u = operate [v, u] (getItem v u) → wpAny (model X.prog X.w) X.A (subscriptTail value slice v u) (EP X pins σ Q) X.xe s
def MtR (X : Cx) (id : String) (r : V → List V → Hp → VK → Prop) : Prop :=
  ∀ (pins : List (Addr × Obj)) (s : Shared) (σ : St) (H : Hp) (x : V) (xs : List V) (v : Value) (us : List Value) (Q : VK), Inv X pins σ H s → RelV x v → Vals xs us → r x xs H Q →
    wpAny (model X.prog X.w) X.A (call (.builtin id) (v :: us)) (EP X pins σ Q) X.xe s
section
variable {X : Cx} {a b : Expr} {ta tb : TE} {pos : Pos}
theorem pe_ix {r : R2} (hr : IxR X r) (ha : PE X a ta) (hb : PE X b tb) (hs : PlainIx b) : PE X (.Subscript a b pos) (tOp r ta tb) := by
  intro pins s σ H Q I h
  exact Subscript_ (binT ha hb I h fun v u s2 x y H2 I2 rx ry q => hr a b pins s2 σ H2 x y v u Q I2 rx ry q (hs _ _))
def rIxL (K : PySem.W.Frag) : R2 := fun x y H Q => ∃ p xs i v, x = .ref p ∧ y = .int i ∧ SqL K H p xs ∧ atI xs i = some v ∧ Q v H
def rIxT (K : PySem.W.Frag) : R2 := fun x y H Q => ∃ p xs i v, x = .ref p ∧ y = .int i ∧ SqT K H p xs ∧ atI xs i = some v ∧ Q v H
theorem ix_list : IxR X (rIxL X.K) := by
  intro value slice pins s σ H x y v u Q I rx ry h hs
  obtain ⟨p, xs, i, z, rfl, rfl, hq, he, q⟩ := h
  cases rx
  obtain ⟨t, rfl⟩ := ry
  obtain ⟨its, r, pl, hz⟩ := I.list hq
  obtain ⟨j, h1, h2, h3, h4, h5⟩ := atI_get he
  obtain ⟨w, ew, rw'⟩ := r.get h2
  have hl := r.length
  have hn := line63
  have fin : EP X pins σ Q w s := ⟨z, H, I, rw', q⟩
  by_cases h0 : 0 ≤ i
  · have hj : i.toNat = j := by
      rw [seqIndex_of h0 h5] at h1
      exact Option.some.inj h1
    exact item_listR pl.isList h0 (by omega) (by rw [hj]; simpa using ew) fin hs
  · have hj : (i + (its.toArray.size : Int)).toNat = j := by
      rw [seqIndex_neg (by omega) h4] at h1
      rw [List.size_toArray, ← hl]
      exact Option.some.inj h1
    exact subscriptTail_builtinR (x := w) pl.isList.typeIs slot_list_getitem.lookup
      (wpAny_getItem_list_neg (Q := fun r s' => r = w ∧ EP X pins σ Q r s') pl.isList (by omega) (by rw [List.size_toArray] <;> omega) (by omega) (by rw [hj]; simpa using ew) ⟨rfl, fin⟩) hs
theorem ix_tup : IxR X (rIxT X.K) := by
  intro value slice pins s σ H x y v u Q I rx ry h hs
  obtain ⟨p, xs, i, z, rfl, rfl, hq, he, q⟩ := h
  cases rx
  obtain ⟨t, rfl⟩ := ry
  obtain ⟨its, r, pl, hz⟩ := I.tuple hq
  obtain ⟨j, h1, h2, h3, h4, h5⟩ := atI_get he
  obtain ⟨w, ew, rw'⟩ := r.get h2
  have hl := r.length
  have hn := line63
  have fin : EP X pins σ Q w s := ⟨z, H, I, rw', q⟩
  exact subscriptTail_builtinR (x := w) pl.typeIs slot_tuple_getitem.lookup
    (getItem_tuple (j := j) (Q := fun r s' => r = w ∧ EP X pins σ Q r s') pl (by omega) (by omega) (by rw [List.size_toArray, ← hl]; exact h1) (by simpa using ew) ⟨rfl, fin⟩) hs
theorem mapSeq_set (its : List Value) (n j : Nat) (u : Value) : Obj.mapSeq (·.setIfInBounds j u) { cls := .type "list", data := .seq its.toArray n } = { cls := .type "list", data := .seq (its.set j u).toArray n } := by
  simp [Obj.mapSeq]
theorem Inv.lst {pins : List (Addr × Obj)} {σ : St} {H : Hp} {s : Shared} {p : Addr} {xs : List V} (I : Inv X pins σ H s) (h : H p = some (.lst xs)) :
    ∃ (its : List Value) (n : Nat), Vals xs its ∧ s.heap.get? p = some { cls := .type "list", data := .seq its.toArray n } ∧ xs.length ≤ sizeLine := by
  obtain ⟨z, its, n, r, e⟩ := I.hok p _ h
  exact ⟨its, n, r, e, z⟩
theorem Inv.lstUpd {pins : List (Addr × Obj)} {σ : St} {H : Hp} {s : Shared} {p : Addr} {xs ys : List V} {its its' : List Value} {n n' : Nat} {f : Obj → Obj} (I : Inv X pins σ H s) (h : H p = some (.lst xs))
    (ho : s.heap.get? p = some { cls := .type "list", data := .seq its.toArray n }) (hf : f { cls := .type "list", data := .seq its.toArray n } = { cls := .type "list", data := .seq its'.toArray n' }) (r : Vals ys its') (hz : ys.length ≤ sizeLine) (t : Nat) :
    Inv X pins σ (upd H p (.lst ys)) { s with heap := s.heap.update p f, toks := t } := by
  have e : (s.heap.update p f).get? p = some { cls := .type "list", data := .seq its'.toArray n' } := by
    rw [Heap.get?_update_self f ho (by rw [hf] <;> rfl), hf]
  refine I.write (x := p) (e := p) (by rw [h]; trivial) (.inl rfl) (fun b u hb q => (Heap.get?_update_other _ _ (Ne.symm hb)).trans q) ⟨_, e⟩ ?_
  exact ⟨hz, its', n', r, e⟩
def rSetL : V → V → V → Hp → (Hp → Prop) → Prop := fun o i v H Q => ∃ p xs k j, o = .ref p ∧ i = .int k ∧ H p = some (.lst xs) ∧ ixN xs.length k = some j ∧ Q (upd H p (.lst (xs.set j v)))
theorem set_list : PSet X rSetL := by
  intro pins s σ H o i v ov iv u Q I ro ri rv h
  obtain ⟨p, xs, k, j, rfl, rfl, hp, hj, q⟩ := h
  cases ro
  obtain ⟨t, rfl⟩ := ri
  obtain ⟨its, n, r, ho, hz⟩ := I.lst hp
  obtain ⟨h1, h2, h3, h4⟩ := ixN_seq hj
  have hl := r.length
  have hn := line63
  have I' : Inv X pins σ (upd H p (.lst (xs.set j v))) { s with heap := s.heap.update p (Obj.mapSeq (·.setIfInBounds j u)) } :=
    I.lstUpd hp ho (mapSeq_set its n j u) (r.set rv j) (by rw [List.length_set]; exact hz) s.toks
  by_cases h0 : 0 ≤ k
  · have hk : k.toNat = j := by
      rw [seqIndex_of h0 h4] at h1
      exact Option.some.inj h1
    exact PySem.W.ki_setAt ho h0 (by omega) (by rw [List.size_toArray, ← hl]; exact h4) (by rw [hk]; exact ⟨_, I', q⟩)
  · have hk : (k + (its.toArray.size : Int)).toNat = j := by
      rw [seqIndex_neg (by omega) h3] at h1
      rw [List.size_toArray, ← hl]
      exact Option.some.inj h1
    exact PySem.W.ki_setBack ho (by omega) (by rw [List.size_toArray, ← hl]; exact h3) (by omega) (by rw [hk]; exact ⟨_, I', q⟩)
theorem slice_bounds (lo hi : Option Int) (n : Nat) : (sliceBounds lo hi none n).1 = ((HT.sIx n 0 lo : Nat) : Int) ∧ (sliceBounds lo hi none n).2.1 = ((HT.sIx n n hi : Nat) : Int) ∧ (sliceBounds lo hi none n).2.2 = 1 := by
  refine ⟨?_, ?_, rfl⟩
  · cases lo with
    | none => simp [sliceBounds, HT.sIx]
    | some i =>
      simp only [sliceBounds, HT.sIx, Option.getD_none, show (1 : Int) > 0 by decide, if_true]
      by_cases h : i < 0
      · simp only [h, if_true] <;> omega
      · simp only [h, if_false] <;> omega
  · cases hi with
    | none => simp [sliceBounds, HT.sIx]
    | some i =>
      simp only [sliceBounds, HT.sIx, Option.getD_none, show (1 : Int) > 0 by decide, if_true]
      by_cases h : i < 0
      · simp only [h, if_true] <;> omega
      · simp only [h, if_false] <;> omega
theorem slicePick_cut (its : List Value) (lo hi : Option Int) : slicePick its.toArray lo hi none = ((its.drop (HT.sIx its.length 0 lo)).take (HT.sIx its.length its.length hi - HT.sIx its.length 0 lo)).toArray := by
  obtain ⟨h1, h2, h3⟩ := slice_bounds lo hi its.toArray.size
  unfold slicePick
  rw [h1, h2, h3]
  simp only [sliceRange_one, pick_run, List.size_toArray] <;> rfl
def rSlL (K : PySem.W.Frag) : V → Option Int → Option Int → Hp → VK → Prop := fun x lo hi H Q => ∃ a xs, x = .ref a ∧ SqL K H a xs ∧ ∀ p, H p = none → Q (.ref p) (upd H p (.lst (cutV xs lo hi)))
theorem sl_list : SlR X (rSlL X.K) := by
  intro pins s σ H x v vl vu lo hi sl Q I rx hs pl pu h
  obtain ⟨a, xs, rfl, hx, q⟩ := h
  cases rx
  obtain ⟨its, r, ht, hz⟩ := I.list hx
  have hlen := r.length
  refine ⟨"list", _, slot_list_getitem.lookup, ht.isList.typeIs, ?_⟩
  refine wpAny_getItem_list_slice ht.isList hs pl pu .none (by simp) ?_ (by rw [List.size_toArray] <;> omega)
  rw [slicePick_cut, ← hlen]
  refine ⟨.ref s.heap.objs.size, _, I.laid (t' := s.toks) (o := .lst (cutV xs lo hi)) (fun b ob q => Heap.get?_push_of_some _ q) (Nat.le_refl _) ?_, rfl, q _ (I.hok.fresh (Nat.le_refl _))⟩
  exact ⟨Nat.le_trans (cutV_length xs lo hi) hz, _, 0, (r.drop (HT.sIx xs.length 0 lo)).take (HT.sIx xs.length xs.length hi - HT.sIx xs.length 0 lo), Heap.get?_push_size _ rfl⟩
def flatV : V → Bool
  | .non => true
  | .bl _ => true
  | .int _ => true
  | .str _ => true
  | _ => false
def eqV : V → V → Bool
  | .non, .non => true
  | .bl a, .bl b => a == b
  | .bl a, .int b => (if a then 1 else 0) == b
  | .int a, .bl b => a == (if b then 1 else 0)
  | .int a, .int b => a == b
  | .str a, .str b => a == b
  | _, _ => false
theorem eqAt_V {A : Around} {s : Shared} {y x : V} {u v : Value} (ry : RelV y u) (rx : RelV x v) (fy : flatV y = true) (fx : flatV x = true) : SeqAt.EqAt A s u v (eqV y x) := by
  cases y with
  | non =>
    cases ry
    cases x with
    | non => cases rx; exact SeqAt.EqAt.same _
    | bl b => cases rx; exact SeqAt.EqAt.none_bool b
    | int b => obtain ⟨t, rfl⟩ := rx; exact SeqAt.EqAt.none_int b t
    | str b => obtain ⟨t, rfl⟩ := rx; exact SeqAt.EqAt.none_str b t
    | _ => exact absurd (show false = true from fx) Bool.false_ne_true
  | bl a =>
    cases ry
    cases x with
    | non => cases rx; exact SeqAt.EqAt.bool_none a
    | bl b => cases rx; exact SeqAt.EqAt.bool_bool a b
    | int b => obtain ⟨t, rfl⟩ := rx; exact SeqAt.EqAt.bool_int a b t
    | str b => obtain ⟨t, rfl⟩ := rx; exact SeqAt.EqAt.bool_str a b t
    | _ => exact absurd (show false = true from fx) Bool.false_ne_true
  | int a =>
    obtain ⟨t', rfl⟩ := ry
    cases x with
    | non => cases rx; exact SeqAt.EqAt.int_none a t'
    | bl b => cases rx; exact SeqAt.EqAt.int_bool a t' b
    | int b => obtain ⟨t, rfl⟩ := rx; exact SeqAt.EqAt.int_int a t' b t
    | str b => obtain ⟨t, rfl⟩ := rx; exact SeqAt.EqAt.int_str a t' b t
    | _ => exact absurd (show false = true from fx) Bool.false_ne_true
  | str a =>
    obtain ⟨t', rfl⟩ := ry
    cases x with
    | non => cases rx; exact SeqAt.EqAt.str_none a t'
    | bl b => cases rx; exact SeqAt.EqAt.str_bool a t' b
    | int b => obtain ⟨t, rfl⟩ := rx; exact SeqAt.EqAt.str_int a t' b t
    | str b => obtain ⟨t, rfl⟩ := rx; exact SeqAt.EqAt.str_str a t' b t
    | _ => exact absurd (show false = true from fx) Bool.false_ne_true
  | _ => exact absurd (show false = true from fy) Bool.false_ne_true
def eqU (x : V) (u : Value) : Bool := match u with
  | .none => eqV .non x
  | .bool b => eqV (.bl b) x
  | .int i _ => eqV (.int i) x
  | .str z _ => eqV (.str z) x
  | _ => false
theorem eqU_of {x y : V} {u : Value} (r : RelV y u) (f : flatV y = true) : eqU x u = eqV y x := by
  cases y with
  | non => cases r; rfl
  | bl b => cases r; rfl
  | int i => obtain ⟨t, rfl⟩ := r; rfl
  | str z => obtain ⟨t, rfl⟩ := r; rfl
  | _ => exact absurd (show false = true from f) Bool.false_ne_true
theorem any_eqU {x : V} : ∀ {xs : List V} {us : List Value}, Vals xs us → xs.all flatV = true → us.any (eqU x) = xs.any fun y => eqV y x
  | _, _, .nil, _ => rfl
  | y :: xs, u :: us, .cons r t, f => by
    rw [List.all_cons, Bool.and_eq_true] at f
    rw [List.any_cons, List.any_cons, eqU_of r f.1, any_eqU t f.2]
theorem mem_eqAt {A : Around} {s : Shared} {x : V} {v : Value} (rx : RelV x v) (fx : flatV x = true) : ∀ {xs : List V} {us : List Value}, Vals xs us → xs.all flatV = true → ∀ u ∈ us, SeqAt.EqAt A s u v (eqU x u)
  | _, _, .nil, _ => fun u hu => by cases hu
  | y :: xs, u :: us, .cons r t, f => fun u' hu => by
    rw [List.all_cons, Bool.and_eq_true] at f
    rcases List.mem_cons.mp hu with rfl | hu
    · rw [eqU_of r f.1]; exact eqAt_V r rx f.1 fx
    · exact mem_eqAt rx fx t f.2 u' hu
def inV (x : V) (xs : List V) : Bool := xs.any fun y => eqV y x
def rIn (K : PySem.W.Frag) (neg : Bool) : R2 := fun x y H Q => ∃ p xs, y = .ref p ∧ (SqL K H p xs ∨ SqT K H p xs) ∧ flatV x = true ∧ xs.all flatV = true ∧ Q (.bl (if neg then !inV x xs else inV x xs)) H
theorem op_notIn_seq : OpR X (compareOp .NotIn) (rIn X.K true) := by
  intro pins s σ H x y v u Q I rx ry h
  obtain ⟨p, xs, rfl, hq, fx, fs, q⟩ := h
  cases ry
  rcases hq with hq | hq
  · obtain ⟨its, r, pl, hz⟩ := I.list hq
    refine SeqAt.notIn_listAt (eqU x) pl.isList (fun w hw => mem_eqAt rx fx r fs w (by simpa using hw)) ⟨.bl _, H, I, rfl, ?_⟩
    rw [show its.toArray.any (eqU x) = its.any (eqU x) by simp, any_eqU r fs]
    exact q
  · obtain ⟨its, r, pl, hz⟩ := I.tuple hq
    refine SeqAt.notIn_tupleAt (eqU x) pl (fun w hw => mem_eqAt rx fx r fs w (by simpa using hw)) ⟨.bl _, H, I, rfl, ?_⟩
    rw [show its.toArray.any (eqU x) = its.any (eqU x) by simp, any_eqU r fs]
    exact q
theorem call_len_seq : CallR X (.builtin "len") (fun xs H Q => ∃ p ys, xs = [.ref p] ∧ (SqL X.K H p ys ∨ SqT X.K H p ys) ∧ Q (.int ys.length) H) := by
  intro pins s σ H xs us Q I r h
  obtain ⟨p, ys, rfl, hq, q⟩ := h
  obtain ⟨u, rfl, rx⟩ := vals1 r
  cases rx
  have hn := line63
  rcases hq with hq | hq
  · obtain ⟨its, r', pl, hz⟩ := I.list hq
    have hlen := r'.length
    exact Calls.call_len_list pl.isList (by simp only [List.size_toArray] <;> omega) ⟨.int ys.length, H, I.tok _, ⟨s.toks + 1, by rw [List.size_toArray, hlen]⟩, q⟩
  · obtain ⟨its, r', pl, hz⟩ := I.tuple hq
    have hlen := r'.length
    exact len_tuple pl (by simp only [List.size_toArray] <;> omega) ⟨.int ys.length, H, I.tok _, ⟨s.toks + 1, by rw [List.size_toArray, hlen]⟩, q⟩
theorem call_list_of : CallR X (.type "list") (fun xs H Q => ∃ p ys, xs = [.ref p] ∧ (SqL X.K H p ys ∨ SqT X.K H p ys) ∧ ∀ l, H l = none → Q (.ref l) (upd H l (.lst ys))) := by
  intro pins s σ H xs us Q I r h
  obtain ⟨p, ys, rfl, hq, q⟩ := h
  obtain ⟨u, rfl, rx⟩ := vals1 r
  cases rx
  have fin : ∀ (its : List Value), Vals ys its → ys.length ≤ sizeLine → ∀ (h' : Heap) (c' : Nat), (∀ b o', s.heap.get? b = some o' → h'.get? b = some o') →
      h'.get? s.heap.objs.size = some { cls := .type "list", dict := none, data := .seq its.toArray c', slots := #[] } → EP X pins σ Q (.ref s.heap.objs.size) { s with heap := h' } := fun its r' hz h' c' kp e =>
    ⟨.ref s.heap.objs.size, _, I.laid (t' := s.toks) kp (Nat.le_refl _) (show ObjOk X.prog X.w _ h' _ (.lst ys) from ⟨hz, its, c', r', e⟩), rfl, q _ (I.hok.fresh (Nat.le_refl _))⟩
  rcases hq with hq | hq
  · obtain ⟨its, r', pl, hz⟩ := I.list hq
    have hlen := r'.length
    obtain ⟨o, ho, hc, n, hd⟩ := pl.isList
    exact call_list_seq p (.inl rfl) ho hc hd (fun h' c' kp e => fin its r' hz h' c' kp e) (by simp only [List.size_toArray] <;> omega)
  · obtain ⟨its, r', pl, hz⟩ := I.tuple hq
    have hlen := r'.length
    obtain ⟨o, ho, hc, n, hd⟩ := pl
    exact call_list_seq p (.inr rfl) ho hc hd (fun h' c' kp e => fin its r' hz h' c' kp e) (by simp only [List.size_toArray] <;> omega)
def tyV (K : PySem.W.Frag) (T : String) (x : V) (H : Hp) : Prop := match x with
  | .str _ => T = "str"
  | .int _ => T = "int"
  | .ref p => (T = "list" ∧ ∃ xs, SqL K H p xs) ∨ (T = "tuple" ∧ ∃ o, K.lookup p = some o ∧ o.cls = .type "tuple" ∧ o.dict = none) ∨
      (T = "dict" ∧ ((∃ kvs, H p = some (.dK kvs)) ∨ ∃ kvs, H p = some (.dT kvs))) ∨ (T = "set" ∧ ∃ S n, H p = some (.set S n))
  | _ => False
theorem tyV_is {pins : List (Addr × Obj)} {σ : St} {H : Hp} {s : Shared} {T : String} {x : V} {v : Value} (I : Inv X pins σ H s) (r : RelV x v) (ty : tyV X.K T x H) :
    s.TypeIs v T ∧ ∀ a, v = .ref a → ∃ ob, s.heap.get? a = some ob ∧ ob.dict = none := by
  cases x with
  | str z =>
    obtain ⟨t, rfl⟩ := r
    cases (show T = "str" from ty)
    exact ⟨typeIs_str s z t, fun _ e => nomatch e⟩
  | int i =>
    obtain ⟨t, rfl⟩ := r
    cases (show T = "int" from ty)
    exact ⟨typeIs_int s i t, fun _ e => nomatch e⟩
  | ref p =>
    cases r
    rcases ty with ⟨rfl, xs, hq⟩ | ⟨rfl, o, hk, hc, hd⟩ | ⟨rfl, hk⟩ | ⟨rfl, S, n, hk⟩
    · obtain ⟨its, _, pl, _⟩ := I.list hq
      refine ⟨pl.isList.typeIs, fun a e => ?_⟩
      cases e
      obtain ⟨o, n, e, c, hd, _⟩ := pl
      exact ⟨o, e, hd⟩
    · refine ⟨⟨o, I.kIn p o hk, hc⟩, fun a e => ?_⟩
      cases e
      exact ⟨o, I.kIn _ o hk, hd⟩
    · have z : ∃ o, s.heap.get? p = some o ∧ o.ExactDict := by
        rcases hk with ⟨kvs, hk⟩ | ⟨kvs, hk⟩
        · obtain ⟨_, _, _, _, o, _, _, e, ex, _⟩ := I.hok p _ hk
          exact ⟨o, e, ex⟩
        · obtain ⟨_, _, _, _, o, _, _, e, ex, _⟩ := I.hok p _ hk
          exact ⟨o, e, ex⟩
      obtain ⟨o, e, ex⟩ := z
      refine ⟨⟨o, e, ex.1⟩, fun a e2 => ?_⟩
      cases e2
      exact ⟨o, e, ex.2.1⟩
    · obtain ⟨o, _, _, _, e, ex, _⟩ := I.hok p _ hk
      refine ⟨⟨o, e, ex.1⟩, fun a e2 => ?_⟩
      cases e2
      exact ⟨o, e, ex.2.1⟩
  | _ => exact False.elim ty
def tBM (K : PySem.W.Frag) (T : String) (r : V → List V → Hp → VK → Prop) (to : TE) (t : TA) : TE := fun σ H Q => to σ H fun x H1 => tyV K T x H1 ∧ t σ H1 fun xs H2 => r x xs H2 Q
variable {o e : Expr} {es : List Expr} {to : TE} {t : TA} {name : Str} {apos cpos : Pos} {T id : String} {r : V → List V → Hp → VK → Prop}
theorem pe_bm (pa : PlainAttrs T) (slot : Slot T name id) (hty : typeOf (.builtin id) = pure (.type "method_descriptor")) (hm : MtR X id r) (ho : PE X o to) (ha : PA X (e :: es) t)
    (hbase : attributeBase o name X.env (eval o X.env) = eval o X.env := by rfl)
    (hfew : ((backTo cpos (starEach (e :: es) X.env)).all (fun x => !x.1) && (backToKw cpos (keywordEach [] X.env)).all (fun x => x.1.isSome)
      && decide ((e :: es).length + ([] : List Keyword).length + (if ([] : List Keyword).isEmpty then 0 else 1) < 30)) = true := by rfl)
    (hline : (apos.endLine == cpos.line) = true := by rfl) (hs : starEach (e :: es) X.env = (false, eval e X.env) :: starEach es X.env := by rfl) (hplain : (backTo cpos (starEach es X.env)).any (·.1) = false := by rfl) :
    PE X (.Call (.Attribute o name apos) (e :: es) [] cpos) (tBM X.K T r to t) := by
  intro pins s σ H Q I h
  refine wpAny_Call_method_late hbase hfew hline rfl (thn (ho pins s σ H _ I h) fun v s1 ⟨x, H1, I1, r1, ty, q1⟩ => ?_)
  obtain ⟨h1, h2⟩ := tyV_is I1 r1 ty
  refine ⟨T, id, pa, slot, hty, h1, h2, ?_⟩
  have hA := ha cpos pins s1 σ H1 _ I1 q1
  rw [hs] at hA ⊢
  refine Calls.callWith_builtin (by show (false || (backTo cpos (starEach es X.env)).any (·.1)) = false; rw [hplain] <;> rfl) (Calls.evalArgs_plain ?_)
  exact thn hA fun us s2 ⟨vs, H2, I2, r2, q2⟩ => hm pins s2 σ H2 x vs v us Q I2 r1 r2 q2
/- xs.append(e), list.index on a module's tuple .. are MtR facts of 06m -/
end
end L2
namespace L2
open PySem PySem.Spec PyProof.Rows
def MtM (X : Cx) (id : String) (r : V → List V → Hp → VK → Prop) : Prop :=
  ∀ (pins : List (Addr × Obj)) (s : Shared) (σ : St) (H : Hp) (x : V) (xs : List V) (v : Value) (us : List Value) (Q : VK), Inv X pins σ H s → RelV x v → Vals xs us → r x xs H Q →
    wpAny (model X.prog X.w) X.A (call (.builtin id) (v :: us)) (EP X pins σ Q) X.xe s
theorem Vals.one : ∀ {x : V} {us : List Value}, Vals [x] us → ∃ u, us = [u] ∧ RelV x u
  | _, _, .cons r .nil => ⟨_, rfl, r⟩
theorem Vals.two : ∀ {x y : V} {us : List Value}, Vals [x, y] us → ∃ u v, us = [u, v] ∧ RelV x u ∧ RelV y v
  | _, _, _, .cons r (.cons q .nil) => ⟨_, _, rfl, r, q⟩
theorem Vals.rep {xs : List V} {us : List Value} (h : Vals xs us) : ∀ k : Nat, Vals (List.replicate k xs).flatten (List.replicate k us).flatten
  | 0 => .nil
  | k + 1 => by
    rw [List.replicate_succ, List.replicate_succ, List.flatten_cons, List.flatten_cons]
    exact Vals.append h (Vals.rep h k)
theorem foldl_rep (its : List Value) : ∀ (k : Nat) (acc : List Value),
    List.foldl (fun x1 x2 => x1 ++ x2) acc.toArray (List.replicate k its.toArray) = (acc ++ (List.replicate k its).flatten).toArray
  | 0, acc => by simp
  | k + 1, acc => by
    have e : acc.toArray ++ its.toArray = (acc ++ its).toArray := by simp
    have e2 : (acc ++ its) ++ (List.replicate k its).flatten = acc ++ (List.replicate (k + 1) its).flatten := by
      rw [List.replicate_succ, List.flatten_cons, List.append_assoc]
    rw [← e2, ← foldl_rep its k (acc ++ its), ← e, List.replicate_succ, List.foldl_cons]
section
variable {X : Cx} {pins : List (Addr × Obj)} {σ : St} {H : Hp} {s : Shared} {l b : Addr} {xs ys zs : List V}
theorem Inv.lset {its its' : List Value} {n : Nat} {f : Array Value → Array Value} {t' : Nat} (I : Inv X pins σ H s) (hH : H l = some (.lst xs))
    (e : s.heap.get? l = some { cls := .type "list", data := .seq its.toArray n }) (hf : f its.toArray = its'.toArray) (hv : Vals ys its') (hz : ys.length ≤ sizeLine) :
    Inv X pins σ (upd H l (.lst ys)) { s with heap := s.heap.update l (Obj.mapSeq f), toks := t' } := by
  have q := PySem.IsL.update e f
  rw [hf] at q
  refine I.write (x := l) (e := l) (by rw [hH]; exact trivial) (.inl rfl) (fun b' u hb hu => (Heap.get?_update_other s.heap (Obj.mapSeq f) (Ne.symm hb)).trans hu) ⟨_, q⟩ ?_
  exact ⟨hz, its', _, hv, q⟩
theorem Inv.lnew {its : List Value} {t' : Nat} (I : Inv X pins σ H s) (hv : Vals ys its) (hz : ys.length ≤ sizeLine) :
    Inv X pins σ (upd H s.heap.objs.size (.lst ys)) { s with heap := s.heap.push { cls := .type "list", data := .seq its.toArray }, toks := t' } :=
  I.laid (fun _ _ q => Heap.get?_push_of_some _ q) (Nat.le_refl _) ⟨hz, its, 0, hv, Heap.get?_push_size _ rfl⟩
theorem Inv.fresh (I : Inv X pins σ H s) : H s.heap.objs.size = none := I.hok.fresh (Nat.le_refl _)
theorem Inv.lstM (I : Inv X pins σ H s) (hH : H l = some (.lst xs)) : xs.length ≤ sizeLine ∧ ∃ (its : List Value) (n : Nat), Vals xs its ∧ xs.length = its.length ∧ s.heap.get? l = some { cls := .type "list", data := .seq its.toArray n } := by
  obtain ⟨z, its, n, r, e⟩ := I.hok l _ hH
  exact ⟨z, its, n, r, r.length, e⟩
theorem notLongL {n : Nat} (h : n ≤ sizeLine) : Builtin.List.listTooLong n = false := by
  unfold Builtin.List.listTooLong
  exact decide_eq_false (by omega)
end
section
variable {X : Cx}
def rAppend : V → List V → Hp → VK → Prop := fun x vs H Q => ∃ l xs y, x = .ref l ∧ vs = [y] ∧ H l = some (.lst xs) ∧ xs.length < sizeLine ∧ Q .non (upd H l (.lst (xs ++ [y])))
theorem mt_append : MtM X "list.append" rAppend := by
  intro pins s σ H x vs v us Q I rx rv h
  obtain ⟨l, xs, y, rfl, rfl, hH, hz, q⟩ := h
  cases rx
  obtain ⟨u, rfl, ru⟩ := rv.one
  obtain ⟨z, its, n, r, hl, e⟩ := I.lstM hH
  refine call_meets F.slot_list_append ⟨_, e, rfl⟩ F.entry_list_append (F.args_list_append_2 _ _) (PySem.list_append l its.toArray n u (by rw [List.size_toArray]; omega)) ⟨e, ?_⟩
  refine ⟨.non, _, I.lset (its' := its ++ [u]) hH e (by simp) (r.append (.cons ru .nil)) ?_, rfl, q⟩
  rw [List.length_append, List.length_singleton]
  omega
def rCat : R2 := fun x y H Q => ∃ l b xs zs, x = .ref l ∧ y = .ref b ∧ H l = some (.lst xs) ∧ H b = some (.lst zs) ∧ xs.length + zs.length ≤ sizeLine ∧ ∀ p, H p = none → Q (.ref p) (upd H p (.lst (xs ++ zs)))
theorem op_cat : OpR X (binaryOp .Add) rCat := by
  intro pins s σ H x y v u Q I rx ry h
  obtain ⟨l, b, xs, zs, rfl, rfl, hH, hB, hz, q⟩ := h
  cases rx
  cases ry
  obtain ⟨z, its, n, r, hl, e⟩ := I.lstM hH
  obtain ⟨z2, its2, n2, r2, hl2, e2⟩ := I.lstM hB
  refine PySem.P.add_list e e2 ?_ (by rw [List.size_toArray, List.size_toArray]; omega)
  have ea : its.toArray ++ its2.toArray = (its ++ its2).toArray := by simp
  rw [ea]
  exact ⟨.ref _, _, I.lnew (t' := s.toks) (r.append r2) (by rw [List.length_append]; omega), rfl, q _ I.fresh⟩
def rRep : R2 := fun x y H Q => ∃ l k xs, x = .ref l ∧ y = .int k ∧ H l = some (.lst xs) ∧ -(2 ^ 63) ≤ k ∧ k < 2 ^ 63 ∧ xs.length * k.toNat ≤ sizeLine ∧
  ∀ p, H p = none → Q (.ref p) (upd H p (.lst (List.replicate k.toNat xs).flatten))
theorem len_rep {α : Type} (xs : List α) (k : Nat) : (List.replicate k xs).flatten.length = k * xs.length := by
  induction k with
  | zero => simp
  | succ k ih => rw [List.replicate_succ, List.flatten_cons, List.length_append, ih, Nat.succ_mul, Nat.add_comm]
theorem op_rep : OpR X (binaryOp .Mult) rRep := by
  intro pins s σ H x y v u Q I rx ry h
  obtain ⟨l, k, xs, rfl, rfl, hH, h1, h2, hz, q⟩ := h
  cases rx
  obtain ⟨t, rfl⟩ := ry
  obtain ⟨z, its, n, r, hl, e⟩ := I.lstM hH
  have hlen : its.toArray.size * k.toNat ≤ sizeLine := by rw [List.size_toArray, ← hl]; exact hz
  have hcap : ¬ its.toArray.size * k.toNat > (2 ^ 63 - 1) / 8 := by
    have : (sizeLine : Nat) ≤ (2 ^ 63 - 1) / 8 := by decide
    omega
  have hfit : ¬ (!Builtin.List.listFitsIndex k) = true := by
    rw [fitsIndex_both h1 h2]
    exact Bool.false_ne_true
  have hlong : ¬ Builtin.List.listTooLong (its.toArray.size * k.toNat) = true := by
    rw [notLongL hlen]
    exact Bool.false_ne_true
  have hnew : List.foldl (fun x1 x2 => x1 ++ x2) #[] (List.replicate (if its.toArray.isEmpty = true then 0 else k.toNat) its.toArray) = (List.replicate k.toNat its).flatten.toArray := by
    have f0 : ∀ m : Nat, List.foldl (fun x1 x2 => x1 ++ x2) #[] (List.replicate m its.toArray) = (List.replicate m its).flatten.toArray := fun m => by
      have := foldl_rep its m []
      rw [List.nil_append] at this
      exact this
    rw [f0]
    cases its with
    | nil => simp
    | cons a r' => rw [if_neg (by simp)]
  refine wpAny_binaryOp_repeat_ref (T := "list") (U := "int") (by decide) ⟨_, e, rfl⟩ (fun s' => typeIs_int s' k t) noFill_list_mul F.fills_int_mul F.slot_int_rmul repeat_list F.slot_int_index.lookup
    (call_meets F.slot_int_rmul (typeIs_int s k t) F.entry_int_rmul (F.args_int_rmul_2 _ _) (int___rmul___int_list k t l its.toArray n)
      ⟨e, rfl, ⟨_, e, rfl⟩, call_meets F.slot_list_mul ⟨_, e, rfl⟩ F.entry_list_mul (F.args_list_mul_2 _ _) (AutoListH.list___mul___list_int_3 l its.toArray n k t hfit hcap hlong) ⟨e, ?_⟩⟩)
  rw [hnew]
  exact ⟨.ref _, _, I.lnew (t' := s.toks) (r.rep k.toNat) (by rw [len_rep, Nat.mul_comm]; exact hz), rfl, q _ I.fresh⟩
end
section
variable {prog : Program} {w : World} {A : Around} {E : Value → Shared → Prop} {s : Shared}
end
section
variable {X : Cx}
end
end L2
namespace Att
open PySem PySem.W PySem.Calls PyProof.Rows
theorem ints_of_wellAll {P : Params} {h : Heap} : ∀ (ns : List Int) (vs : List Value), WellAll P h vs (ns.map WData.int) → IntsAre vs ns := by
  intro ns
  induction ns with
  | nil =>
    intro vs w
    rw [List.map_nil] at w
    cases w
    exact .nil
  | cons n ns ih =>
    intro vs w
    rw [List.map_cons] at w
    cases w with
    | cons a b =>
      cases a
      exact .cons _ _ (ih _ b)
theorem script_of {l : OpenLaw} {n : Nat} (hn : l.most = some n) {P : Params} {h : Heap} {args : List WData} {vals : List Value}
    (hpre : l.row.toRowW.claim.pre args = true) (hwl : WellAll P h vals args) :
    ∃ a vs ns, vals = [Value.ref a] ∧ args = [WData.list (ns.map WData.int)] ∧ h.get? a = some { cls := .type "list", data := .seq vs.toArray } ∧ IntsAre vs ns ∧ ns.length ≤ n := by
  have hsh : WShape.hasAll [] args [.list .int] = true := (pre_splitW hpre).1
  have hc : l.pre.holds [] { args := args } = true := (pre_splitW hpre).2
  obtain ⟨d, r, rfl, h1, h2⟩ := hasAllW_cons hsh
  obtain rfl := hasAllW_nil h2
  obtain ⟨xs, rfl, h3⟩ := hasW_list h1
  obtain ⟨ns, rfl⟩ := items_int h3
  have hlen : ns.length ≤ n := by
    unfold OpenLaw.pre at hc
    have h4 : (WTm.not (.lt (.lit (.int (n : Int))) (.len (.arg 0)))).holds [] { args := [.list (ns.map .int)] } = true := by
      have h4 := (holds_andW hc).1
      rw [hn] at h4
      exact h4
    have h5 := condW_of h4 (w_not (w_lt w_lit (w_len_list (w_arg rfl))))
    rw [List.length_map] at h5
    refine Nat.le_of_not_lt fun q => ?_
    have q' : (n : Int) < ((ns.length : Nat) : Int) := by omega
    first
      | (rw [decide_eq_true q'] at h5; exact absurd h5 (by decide))
      | (simp at h5; omega)
  cases hwl with
  | cons w1 w2 =>
    cases w2
    cases w1 with
    | list ho hall => exact ⟨_, _, ns, rfl, rfl, ho, ints_of_wellAll ns _ hall, hlen⟩
theorem post_true (l : OpenLaw) (args : List WData) : l.row.toRowW.claim.post args (.bool true) args = true :=
  postW_of (r := l.row.toRowW) (X := (true == true))
    (show WShape.has [] (.bool true) .bool = true by first | rfl | decide | simp [WShape.has, WShape.arms, WShape.armsAll])
    (show (WTm.eq .res (.lit (.bool true))).value [] { args := args, res := some (.bool true), after := args } = some (.bool (true == true)) from w_eq_bool (w_res rfl) w_lit) rfl
theorem attach_call {l : OpenLaw} {n : Nat} {q : Program} {loose : List Str} {XP : (Str → Option Value) → Heap → Prop} {YP : World → Heap → Prop} {d : DefRec}
    (hn : l.most = some n) (hdf : d.params.defaults = [])
    (call : ∀ (w : World) (s₀ s₁ : Shared) (mg mb : Str → Option Value) (fa : Addr) (o : Obj) (pm cd doc : Value) (a : Addr) (vs : List Value) (ns : List Int),
      Ground q loose [] XP w s₀ mg mb s₁.heap → YP w s₁.heap →
      s₁.heap.get? fa = some o → o.data = .func (docDef d.name d.params d.body d.scope pm cd doc) → s₁.heap.CodeRec cd d.name → mg d.name = some (.ref fa) →
      s₁.heap.get? a = some { cls := .type "list", data := .seq vs.toArray } → IntsAre vs ns → ns.length ≤ n → s₁.gens = #[] →
      codeAny (model l.prog w) callerA (.call (.ref fa) ⟨[.ref a], []⟩) (fun r s' => r = .ok (.ret (.bool true)) ∧ OldK s₁.heap s'.heap ∧ s'.os = s₁.os ∧ AllBare s'.gens) s₁) :
    WalkO q loose XP YP l.row.toRowW d [] (fun f vs => PySem.call f vs) := by
  intro w s₀ s₁ mg mb G Y fa o pm cd doc dV kV ho hd hcd hD hmg hg args vals as hpre hlay hrd hwl hlo
  obtain rfl : dV = .none := Dflts.none hD hdf
  obtain rfl : kV = .none := Dflts.noKw hD
  obtain ⟨a, vs, ns, rfl, rfl, hobj, hints, hlen⟩ := script_of hn hpre hwl
  refine enter_call (codeAny_mono (call w s₀ s₁ mg mb fa o pm cd doc a vs ns G Y ho (fd_plain hd) hcd hmg hobj hints hlen hg) fun r s' hq => ?_)
  obtain ⟨rfl, h2, h3, h4⟩ := hq
  exact ⟨.inl ⟨.bool true, .bool true, [], rfl, fun _ => rfl, .bool true, post_true l _, fun _ => ⟨List.Pairwise.nil, fun _ hm => (nomatch hm)⟩⟩, h2, h3, h4⟩
section
variable {prog : Program} {w : World} {A : Around} {E : Value → Shared → Prop} {s : Shared} {K : Frag}
end
end Att
namespace L2
open PySem PySem.Spec PyProof.Rows
theorem vals_ints : ∀ {vs : List Value} {ns : List Int}, IntsAre vs ns → Vals (ns.map V.int) vs
  | _, _, .nil => .nil
  | _, _, .cons n t h => .cons ⟨t, rfl⟩ (vals_ints h)
def Only (H : Hp) : Prop := ∀ b, H b = none ∨ ∃ o xs, H b = some (.frz o (.lst xs))
theorem law_call {P : Program} {w : World} {K : PySem.W.Frag} {mg mb : Str → Option Value} {CX : CXT} {k : Nat} {fa a : Addr} {fd : FuncData} {x : Str} {sp : Sp} {s₁ : Shared} {vs : List Value} {ns : List Int}
    (KX : K.In s₁.heap) (hns : s₁.heap.Ns mainGlobals mg) (hb : s₁.heap.Ns builtinsNs mb) (hbb : ∀ x : Str, x ≠ "__name__" → mb x = bootBuiltins x) (hlim : s₁.heap.NoLimit) (hg : s₁.gens = #[])
    (ha : s₁.heap.get? a = some { cls := .type "list", data := .seq vs.toArray }) (hi : IntsAre vs ns) (hl : ns.length ≤ sizeLine) (hr : Room k callerA)
    (F : ∀ base : Heap, K.In base → base.Ns mainGlobals mg → FnOk P w K mg base CX k fa fd [x] sp) (hbind : ∀ (s : Shared) (u : Value), BindsTo s fd ⟨[u], []⟩ [(x, u)])
    (hsp : ∀ H : Hp, Only H → SqL K H a (ns.map V.int) → sp [.ref a] H (fun v _ => v = .bl true) fun _ _ _ => False)
    (hCX : ∀ H e s', CX [] H s₁ (fun _ _ _ => False) e s' → False) :
    codeAny (model P w) callerA (.call (.ref fa) ⟨[.ref a], []⟩) (fun r s' => r = .ok (.ret (.bool true)) ∧ OldK s₁.heap s'.heap ∧ s'.os = s₁.os ∧ AllBare s'.gens) s₁ := by
  have rv := vals_ints hi
  have lenV := hi.length
  have core : ∀ H : Hp, Only H → SqL K H a (ns.map V.int) → HOk P w H s₁.heap → (∀ b, H b ≠ none → b = a) → (H a ≠ none → K.lookup a = none) →
      codeAny (model P w) callerA (.call (.ref fa) ⟨[.ref a], []⟩) (fun r s' => r = .ok (.ret (.bool true)) ∧ OldK s₁.heap s'.heap ∧ s'.os = s₁.os ∧ AllBare s'.gens) s₁ := by
    intro H hO hS hok hA hK
    have base_of : ∀ {b : Addr} {o : Obj}, s₁.heap.get? b = some o → H b = none → (hidT s₁.heap H).get? b = some o := fun e n => hidT_get e n
    have noA : ∀ {b : Addr} {o : Obj} {es : Array DictEntry} {ep : Nat}, s₁.heap.get? b = some o → o.data = .dict es ep → H b = none := fun {b o es ep} e d => by
      cases q : H b with
      | none => rfl
      | some u =>
        have e' : b = a := hA b (by rw [q]; simp)
        subst e'
        rw [ha] at e; cases e
        have d' : Data.seq vs.toArray _ = Data.dict es ep := d
        cases d'
    have nsK : ∀ {b : Addr} {m : Str → Option Value}, s₁.heap.Ns b m → (hidT s₁.heap H).Ns b m := fun {b m} ⟨o, es, ep, e, d, r⟩ => ⟨o, es, ep, base_of e (noA e d), d, r⟩
    have hKb : K.In (hidT s₁.heap H) := fun b o e => base_of (KX b o e) (by
      cases q : H b with
      | none => rfl
      | some u =>
        have e' : b = a := hA b (by rw [q]; simp)
        subst e'
        rw [hK (by rw [q]; simp)] at e; cases e)
    have hM : Mod K mg (hidT s₁.heap H) := ⟨hKb, nsK hns, ⟨mb, nsK hb, hbb⟩, let ⟨mc, h1, h2⟩ := hlim; ⟨mc, nsK h1, h2⟩⟩
    have e0 : Env0 P w K mg (hidT s₁.heap H) callerA [] s₁ H := ⟨rfl, hM, fun b o e => of_hidT e, Nat.le_of_eq (hidT_size _ _), trivial, fun b hb => absurd (show b ∈ ([] : List Addr) from hb) (by simp), hok, .of_eq hg⟩
    refine codeAny_mono ((F _ hKb (nsK hns)).run callerA [] s₁ H ⟨[.ref a], []⟩ [.ref a] [.ref a] _ _ hr e0 (hbind s₁ (.ref a)) (.cons rfl .nil) (hsp H hO hS)) fun r s' h => ?_
    cases r with
    | error e => exact (hCX H e s' h).elim
    | ok fl =>
      cases fl with
      | next => exact False.elim h
      | brk => exact False.elim h
      | cont => exact False.elim h
      | ret u =>
        obtain ⟨v, H', os, bare, un, hok', r', q⟩ := h
        have q' : v = .bl true := q
        subst q'
        obtain rfl : u = Value.bool true := r'
        refine ⟨rfl, OldK.of_keep fun b o e => ?_, os, bare⟩
        cases q : H b with
        | none => exact un.keep b o e q (by intro z; exact absurd (show b ∈ ([] : List Addr) from z) (by simp)) (by simp)
        | some u =>
          rcases hO b with z | ⟨ob, xs, z⟩
          · rw [q] at z; cases z
          · have z2 := un.frzs b ob _ z
            obtain ⟨e1, _⟩ := hok b _ z
            obtain ⟨e2, _⟩ := hok' b _ z2
            rw [e] at e1; cases e1
            exact e2
  cases hk : K.lookup a with
  | some o =>
    have e := KX a o hk
    rw [ha] at e
    cases e
    refine core (fun _ => none) (fun _ => .inl rfl) (.inr ⟨_, vs.toArray, _, hk, rfl, rfl, rfl, by rw [List.size_toArray, lenV]; exact hl, by simpa using rv⟩) (fun b u z => by have z' : (none : Option HO) = some u := z; cases z') (fun b z => absurd rfl z) fun z => absurd rfl z
  | none =>
    refine core (fun b => if b = a then some (.frz { cls := .type "list", data := .seq vs.toArray } (.lst (ns.map V.int))) else none) (fun b => ?_) (.inl (.inr ⟨{ cls := .type "list", data := .seq vs.toArray }, if_pos rfl⟩)) (fun b u z => ?_) (fun b z => ?_) fun _ => hk
    · by_cases hb : b = a
      · exact .inr ⟨_, _, if_pos hb⟩
      · exact .inl (if_neg hb)
    · by_cases hb : b = a
      · have z' := (if_pos hb).symm.trans z
        cases z'
        subst hb
        exact ⟨ha, by rw [List.length_map]; exact hl, vs, _, rv, ha⟩
      · have z' := (if_neg hb).symm.trans z
        cases z'
    · by_cases hb : b = a
      · exact hb
      · exact absurd (if_neg hb) z
end L2
namespace L2
open PySem PySem.Spec PyProof.Rows
theorem walk_of {l : PySem.W.OpenLaw} {n k : Nat} {q : Program} {loose : List Str} {XP : (Str → Option Value) → Heap → Prop} {YP : World → Heap → Prop} {d : DefRec} {K : Params → PySem.W.Frag} {CX : World → CXT} {sp : World → Sp} {x : Str}
    (hn : l.most = some n) (hn2 : n ≤ sizeLine) (hdf : d.params.defaults = []) (hr : Room k callerA)
    (hY : ∀ (w : World) (h : Heap), YP w h → (K w.params).In h)
    (F : ∀ (w : World) (mg : Str → Option Value) (fa : Addr) (h : Heap), (K w.params).In h → h.Ns mainGlobals mg → mg d.name = some (.ref fa) →
      ∃ fd : FuncData, (∀ (s : Shared) (u : Value), BindsTo s fd ⟨[u], []⟩ [(x, u)]) ∧
        ∀ base : Heap, (K w.params).In base → base.Ns mainGlobals mg → FnOk l.prog w (K w.params) mg base (CX w) k fa fd [x] (sp w))
    (hsp : ∀ (w : World) (H : Hp) (a : Addr) (ns : List Int), ns.length ≤ n → Only H → SqL (K w.params) H a (ns.map V.int) → sp w [.ref a] H (fun v _ => v = .bl true) fun _ _ _ => False)
    (hCX : ∀ (w : World) (H : Hp) (s : Shared) (e : Value) (s' : Shared), CX w [] H s (fun _ _ _ => False) e s' → False) :
    PySem.W.WalkO q loose XP YP l.row.toRowW d [] (fun f vs => PySem.call f vs) := by
  refine Att.attach_call hn hdf fun w s₀ s₁ mg mb fa o pm cd doc a vs ns G Y ho hd hcd hmg hobj hints hlen hg => ?_
  have KX := hY w _ Y
  obtain ⟨fd, hb, hF⟩ := F w mg fa _ KX G.T.g hmg
  exact law_call KX G.T.g G.T.b G.T.builtins G.T.nolimit hg hobj hints (Nat.le_trans hlen hn2) hr hF hb (fun H hO hS => hsp w H a ns hlen hO hS) fun H e s' => hCX w H s₁ e s'
end L2
/- THE LAST THEOREM (shape; LID, My.* are yours):
   My.Adr: a structure of the addresses that your layer names (classes, functions); My.Txt K t: a structure (Prop) of the equations over K;
   My.txt_mk : {K} {implicit addresses ..} (e1 : nsIn K mainGlobals "law" = some (some (.ref f))) (e2 : K.lookup f = some ⟨oc, od, .func (fnOf "law" "law" params body scope dV kV doc pm an cdv ct), sl⟩) (e3 : codeIn K cdv "law" = true) .. : ∃ t, My.Txt K t
set_option maxRecDepth 100000 in
set_option maxHeartbeats 0 in
theorem PySem.Challenge.cw_LID_holds : PySem.Challenge.rw_LID.Holds := by
  w_on; o_law; k_head; (case hw => w_witness2)
  k_fill
  refine L2.walk_of (l := PySem.Challenge.rw_LID) (n := 63) (k := 40) (x := "script") (CX := fun w => ..) (sp := fun _ => My.sp_law) rfl (by decide) rfl ⟨rfl, by decide, by decide⟩ (fun w h Y => PySem.W.kIn_of Y) ?F ?S ?C
  case F =>
    intro w mg fa h KX G hmg
    have T : ∃ t, My.Txt (L2.KOf KX) t := by
      dsimp only [L2.KOf]                          -- K must stand as «<heap const> w.params» for k_is
      refine' My.txt_mk ?e1 ?e2 ?e3 ..
      (case e1 => PySem.W.k_is)                    -- in the order: a name -> its address -> its object -> its parts
      (case e2 => PySem.W.k_is)
      ..
    obtain ⟨t, T⟩ := T
    have e0 := hmg.symm.trans (PySem.W.mg_of KX G T.law)
    cases e0                                       -- fa is the law's own address
    exact ⟨_, fun s u => .of_eq rfl, fun base kb nb => My.law_fn T kb nb⟩     -- if «.of_eq rfl» comes too early: refine' ⟨_, ?b, fun base kb nb => My.law_fn T kb nb⟩; exact fun s u => .of_eq rfl
  case S => exact fun w H a ns hl hO hS => ..
  case C => exact ..
(the tactic k_is has no namespace: write k_is) -/
namespace L2
open PySem PySem.Spec PyProof.Rows
def inClass (s : Stmt) (j : Nat) : Stmt := match s with
  | .ClassDef _ _ _ body _ _ _ _ _ _ _ => body.getD j (.Pass ⟨0, 0, 0, 0⟩)
  | _ => .Pass ⟨0, 0, 0, 0⟩
def defArgs (s : Stmt) : Arguments := match s with
  | .FunctionDef _ a _ _ _ _ _ _ _ _ => a
  | _ => { posonlyargs := [], args := [], vararg := none, kwonlyargs := [], kw_defaults := [], kwarg := none, defaults := [] }
def defBody (s : Stmt) : List Stmt := match s with
  | .FunctionDef _ _ b _ _ _ _ _ _ _ => b
  | _ => []
def defScope (s : Stmt) : Scope := match s with
  | .FunctionDef _ _ _ _ _ _ sc _ _ _ => sc
  | _ => { kind := .function, names := [], isGenerator := false, isCoroutine := false }
abbrev CX0 : CXT := fun _ _ _ _ _ _ => False
abbrev E0 : XK := fun _ _ _ => False
theorem pass0 {X : Cx} : Passes CX0 X E0 := fun _ _ _ _ _ _ _ h => h.elim
structure Fun (K : PySem.W.Frag) (x qual : Str) (st : Stmt) (f : Addr) (fd : FuncData) : Prop where
  ex : ∃ (oc : Value) (od : Option Addr) (kV doc pm : Value) (an : Option Addr) (cdv ct : Value) (osl : Array (Option Value)),
    fd = PySem.W.fnOf x qual (defArgs st) (defBody st) (defScope st) .none kV doc pm an cdv ct ∧ K.lookup f = some ⟨oc, od, .func fd, osl⟩ ∧ PySem.W.codeIn K cdv qual = true
  kp : PySem.W.keepIn K (.ref f) = true
section
variable {P : Program} {w : World} {K : PySem.W.Frag} {mg : Str → Option Value} {base : Heap}
theorem Fun.ok {x qual : Str} {st : Stmt} {f : Addr} {fd : FuncData} {N ps : List Str} {k : Nat} {sp : Sp} (F : Fun K x qual st f fd) (S : FnScope N ps (defScope st)) (len : ∀ vs H Q E, sp vs H Q E → vs.length = ps.length)
    (hbody : ∀ (cdv : Value) (A : Around) (outer : List Env) (s : Shared) (H : Hp) (vs : List V) (Q : VK) (E : XK), Room k (A.deeper (envOfC qual (defScope st) s.heap.objs.size f cdv)) → sp vs H Q E →
      ∃ t, PSs (cxOf CX0 P w K mg base N qual (defScope st) f cdv A outer s H E).nox (defBody st) t ∧ t { nx := fun _ H' => Q .non H', rt := Q } (start N vs) H) : FnOk P w K mg base CX0 (k + 1) f fd ps sp := by
  obtain ⟨oc, od, kV, doc, pm, an, cdv, ct, osl, rfl, lk, hcd⟩ := F.ex
  refine fn_of lk hcd S len fun A outer s H vs Q E hr hsp => ?_
  obtain ⟨t, h, q⟩ := hbody cdv A outer s H vs Q E hr hsp
  exact ⟨t, h.nox, q⟩
theorem Fun.binds {x qual : Str} {st : Stmt} {f : Addr} {fd : FuncData} {ps : List Str} (F : Fun K x qual st f fd)
    (h : ∀ (kV doc pm : Value) (an : Option Addr) (cdv ct : Value) (us : List Value), us.length = ps.length → bindArgs (PySem.W.fnOf x qual (defArgs st) (defBody st) (defScope st) .none kV doc pm an cdv ct) ⟨us, []⟩ = pure (ps.zip us)) : Binds K fd ps [] := by
  obtain ⟨oc, od, kV, doc, pm, an, cdv, ct, osl, rfl, lk, hcd⟩ := F.ex
  exact .all (h kV doc pm an cdv ct)
theorem fun_mk {x qual : Str} {st : Stmt} {f : Addr} {oc : Value} {od an : Option Addr} {osl : Array (Option Value)} {kV doc pm cdv ct : Value} (l : K.lookup f = some ⟨oc, od, .func (PySem.W.fnOf x qual (defArgs st) (defBody st) (defScope st) .none kV doc pm an cdv ct), osl⟩)
    (c : PySem.W.codeIn K cdv qual = true) (k : PySem.W.keepIn K (.ref f) = true) : Fun K x qual st f (PySem.W.fnOf x qual (defArgs st) (defBody st) (defScope st) .none kV doc pm an cdv ct) := ⟨⟨oc, od, kV, doc, pm, an, cdv, ct, osl, rfl, l, c⟩, k⟩
end
theorem small1000 {n : Nat} (h : n ≤ 1000) : n < sizeLine := Nat.lt_of_le_of_lt h (by decide)
section
variable {X : Cx}
theorem pv (i : Nat) {x : Str} {pos : Pos} (hN : X.N[i]? = some x := by rfl) (hv : Vis X.env.scope x := by first | exact Or.inl rfl | exact Or.inr (Or.inl rfl) | exact Or.inr (Or.inr rfl)) (hd : (x == ("__debug__" : Str)) = false := by decide)
    (hcd : (x == ("__classdict__" : Str)) = false := by decide) : PE X (.Name x pos) (tVar i) := pe_var hN hv hd hcd
end
theorem iteF {A B : Prop} (h : B) : if false = true then A else B := by
  rw [if_neg Bool.false_ne_true]
  exact h
theorem iteT {A B : Prop} (h : A) : if true = true then A else B := by
  rw [if_pos rfl]
  exact h
theorem ite2 {c A B : Prop} [Decidable c] (h1 : c → A) (h2 : ¬ c → B) : if c then A else B := by
  by_cases h : c
  · rw [if_pos h]
    exact h1 h
  · rw [if_neg h]
    exact h2 h
theorem iteNS {c A B : Prop} [Decidable c] (hc : c) (h : B) : if (!decide c) = true then A else B := by
  rw [decide_eq_true hc]
  exact iteF h
def Same (H H' : Hp) : Prop := ∀ b o, H b = some o → H' b = some o
theorem Same.refl (H : Hp) : Same H H := fun _ _ h => h
theorem Same.trans {H H1 H2 : Hp} (a : Same H H1) (b : Same H1 H2) : Same H H2 := fun c o h => b c o (a c o h)
theorem Same.free {H H' : Hp} (e : Same H H') {l : Addr} (h : H' l = Option.none) : H l = Option.none := by
  cases q : H l with
  | none => rfl
  | some o =>
    rw [e l o q] at h
    cases h
theorem Same.seq {K : PySem.W.Frag} {H H' : Hp} {a : Addr} {xs : List V} (e : Same H H') (h : SqL K H a xs) : SqL K H' a xs := by
  rcases h with (h | ⟨o, h⟩) | h
  · exact .inl (.inl (e _ _ h))
  · exact .inl (.inr ⟨o, e _ _ h⟩)
  · exact .inr h
end L2
set_option Elab.async false
set_option linter.all false
set_option maxRecDepth 100000
set_option maxHeartbeats 4000000
namespace L2
open PySem PySem.Spec PyProof.Rows
section
variable {κ : Type} [DecidableEq κ]
def valV (kvs : List (κ × V)) (k : κ) : Option V := (kvs.find? fun kv => decide (kv.1 = k)).map (·.2)
def putK (kvs : List (κ × V)) (k : κ) (v : V) : List (κ × V) :=
  if (kvs.any fun kv => decide (kv.1 = k)) = true then kvs.map (fun kv => if kv.1 = k then (kv.1, v) else kv) else kvs ++ [(k, v)]
theorem valV_nil {k : κ} : valV ([] : List (κ × V)) k = none := rfl
theorem valV_pos {p : κ × V} {r : List (κ × V)} {k : κ} (e : p.1 = k) : valV (p :: r) k = some p.2 := by simp [valV, List.find?_cons, e]
theorem valV_neg {p : κ × V} {r : List (κ × V)} {k : κ} (e : ¬ p.1 = k) : valV (p :: r) k = valV r k := by simp [valV, List.find?_cons, e]
theorem valV_any (k : κ) : ∀ kvs : List (κ × V), (kvs.any fun kv => decide (kv.1 = k)) = (valV kvs k).isSome
  | [] => rfl
  | p :: r => by
    rw [List.any_cons]
    by_cases e : p.1 = k
    · simp only [valV_pos e, decide_eq_true e, Bool.true_or, Option.isSome_some]
    · rw [valV_neg e, decide_eq_false e, Bool.false_or]; exact valV_any k r
theorem valV_map (k j : κ) (y : V) : ∀ kvs : List (κ × V), valV (kvs.map fun kv => if kv.1 = k then (kv.1, y) else kv) j = (valV kvs j).map fun x => if j = k then y else x
  | [] => rfl
  | p :: r => by
    have ih := valV_map k j y r
    rw [List.map_cons]
    by_cases h : p.1 = k
    · rw [if_pos h]
      by_cases e : p.1 = j
      · rw [valV_pos (p := (p.1, y)) e, valV_pos e, Option.map_some, if_pos (e.symm.trans h)]
      · rw [valV_neg (p := (p.1, y)) e, valV_neg e, ih]
    · rw [if_neg h]
      by_cases e : p.1 = j
      · rw [valV_pos (p := p) e, valV_pos e, Option.map_some, if_neg (fun z => h (e.trans z))]
      · rw [valV_neg (p := p) e, valV_neg e, ih]
theorem valV_snoc (k j : κ) (y : V) : ∀ kvs : List (κ × V), valV kvs k = none → valV (kvs ++ [(k, y)]) j = if j = k then some y else valV kvs j
  | [], _ => by
    by_cases e : k = j
    · rw [if_pos e.symm]; exact valV_pos (p := (k, y)) e
    · rw [if_neg (fun z => e z.symm)]; exact valV_neg (p := (k, y)) e
  | p :: r, hn => by
    rw [List.cons_append]
    have hk : ¬ p.1 = k := fun z => by rw [valV_pos z] at hn; cases hn
    rw [valV_neg hk] at hn
    have ih := valV_snoc k j y r hn
    by_cases e : p.1 = j
    · rw [valV_pos e, valV_pos e, if_neg (fun z => hk (e.trans z))]
    · rw [valV_neg e, valV_neg e, ih]
theorem valV_put (kvs : List (κ × V)) (k j : κ) (y : V) : valV (putK kvs k y) j = if j = k then some y else valV kvs j := by
  unfold putK
  by_cases a : (kvs.any fun kv => decide (kv.1 = k)) = true
  · rw [if_pos a, valV_map]
    rw [valV_any] at a
    by_cases e : j = k
    · obtain ⟨x, hx⟩ := Option.isSome_iff_exists.mp a
      rw [if_pos e, e, hx, Option.map_some, if_pos rfl]
    · rw [if_neg e]
      cases valV kvs j with
      | none => rfl
      | some x => rw [Option.map_some, if_neg e]
  · rw [if_neg a]
    refine valV_snoc k j y kvs ?_
    rw [valV_any] at a
    cases q : valV kvs k with
    | none => rfl
    | some x => rw [q] at a; exact (a rfl).elim
theorem length_putK (kvs : List (κ × V)) (k : κ) (v : V) : (putK kvs k v).length ≤ kvs.length + 1 := by
  unfold putK
  split
  · rw [List.length_map]; omega
  · rw [List.length_append, List.length_cons, List.length_nil]; omega
theorem RelO.isSome_eq {o : Option V} {u : Option Value} (r : RelO o u) : o.isSome = u.isSome := by
  cases o with
  | none => cases u with
    | none => rfl
    | some _ => exact (show False from r).elim
  | some _ => cases u with
    | none => exact (show False from r).elim
    | some _ => rfl
theorem KV.val {kvs : List (κ × V)} {vs : List (κ × Value)} (r : KV kvs vs) (k : κ) : RelO (valV kvs k) (valueAt vs k) := by
  unfold KV at r
  induction r with
  | nil => exact True.intro
  | @cons p q ps qs h t ih =>
    obtain ⟨h1, h2⟩ := h
    by_cases e : p.1 = k
    · have e' : q.1 = k := h1.symm.trans e
      have b : valueAt (q :: qs) k = some q.2 := by simp [valueAt, List.find?_cons, e']
      rw [valV_pos e, b]; exact h2
    · have e' : ¬ q.1 = k := fun z => e (h1.trans z)
      have b : valueAt (q :: qs) k = valueAt qs k := by simp [valueAt, List.find?_cons, e']
      rw [valV_neg e, b]; exact ih
theorem KV.any {kvs : List (κ × V)} {vs : List (κ × Value)} (r : KV kvs vs) (k : κ) : (kvs.any fun kv => decide (kv.1 = k)) = vs.any fun kv => decide (kv.1 = k) := by
  unfold KV at r
  induction r with
  | nil => rfl
  | cons h t ih => rw [List.any_cons, List.any_cons, ih, h.1]
theorem KV.repl {kvs : List (κ × V)} {vs : List (κ × Value)} (r : KV kvs vs) (k : κ) {y : V} {u : Value} (ry : RelV y u) :
    KV (kvs.map fun kv => if kv.1 = k then (kv.1, y) else kv) (vs.map fun kv => if kv.1 = k then (kv.1, u) else kv) := by
  unfold KV at r ⊢
  induction r with
  | nil => exact .nil
  | @cons p q ps qs h t ih =>
    rw [List.map_cons, List.map_cons]
    refine .cons ?_ ih
    obtain ⟨h1, h2⟩ := h
    by_cases e : p.1 = k
    · rw [if_pos e, if_pos (h1.symm.trans e)]; exact ⟨h1, ry⟩
    · rw [if_neg e, if_neg (fun z => e (h1.trans z))]; exact ⟨h1, h2⟩
theorem KV.put {kvs : List (κ × V)} {vs : List (κ × Value)} (r : KV kvs vs) (k : κ) {y : V} {u : Value} (ry : RelV y u) : KV (putK kvs k y) (stored vs k u) := by
  unfold putK stored
  rw [r.any k]
  by_cases e : (vs.any fun kv => decide (kv.1 = k)) = true
  · rw [if_pos e, if_pos e]; exact r.repl k ry
  · rw [if_neg e, if_neg e]; exact Paired.snoc r ⟨rfl, ry⟩
theorem KV.length {kvs : List (κ × V)} {vs : List (κ × Value)} (r : KV kvs vs) : kvs.length = vs.length := Paired.length r
end
theorem kV_is {P : Program} {w : World} {k : Key} {u : Value} (r : RelV (kV k) u) : (mixKind P w).is k u = true := by
  cases k with
  | inl i => obtain ⟨t, e⟩ := (show ∃ t, u = Value.int i t from r); subst e; exact mixKind_int P w i t
  | inr x => obtain ⟨t, e⟩ := (show ∃ t, u = Value.str x t from r); subst e; exact mixKind_str P w x t
theorem items_are {P : Program} {w : World} : ∀ {ks : List Key} {us : List Value}, Vals (ks.map kV) us → ItemsAre (mixKind P w) ks us
  | [], _, r => by rw [List.map_nil] at r; cases r; exact .nil
  | k :: ks, _, r => by
    rw [List.map_cons] at r
    cases r with
    | cons h t => exact .cons (kV_is h) (items_are t)
abbrev KT (H : Hp) : List (List Key × V) → List (List Key × Addr × Value) → Prop := Paired fun p q => p.1 = q.1 ∧ H q.2.1 = some (.tup (p.1.map kV)) ∧ RelV p.2 q.2.2
theorem KT.val {H : Hp} {kvs : List (List Key × V)} {xs : List (List Key × Addr × Value)} (r : KT H kvs xs) (k : List Key) : RelO (valV kvs k) ((atKey xs k).map (·.2)) := by
  induction r with
  | nil => exact True.intro
  | @cons p q ps qs h t ih =>
    obtain ⟨h1, _, h2⟩ := h
    by_cases e : p.1 = k
    · have e' : q.1 = k := h1.symm.trans e
      have b : atKey (q :: qs) k = some q.2 := by simp [atKey, List.find?_cons, e']
      rw [valV_pos e, b]; exact h2
    · have e' : ¬ q.1 = k := fun z => e (h1.trans z)
      have b : atKey (q :: qs) k = atKey qs k := by simp [atKey, List.find?_cons, e']
      rw [valV_neg e, b]; exact ih
theorem KT.repl {H : Hp} {kvs : List (List Key × V)} {xs : List (List Key × Addr × Value)} (r : KT H kvs xs) (k : List Key) {y : V} {u : Value} (ry : RelV y u) :
    KT H (kvs.map fun kv => if kv.1 = k then (kv.1, y) else kv) (xs.map (putAt k u)) := by
  induction r with
  | nil => exact .nil
  | @cons p q ps qs h t ih =>
    rw [List.map_cons, List.map_cons]
    refine .cons ?_ ih
    obtain ⟨h1, h2, h3⟩ := h
    unfold putAt
    by_cases e : p.1 = k
    · rw [if_pos e, if_pos (h1.symm.trans e)]; exact ⟨h1, h2, ry⟩
    · rw [if_neg e, if_neg (fun z => e (h1.trans z))]; exact ⟨h1, h2, h3⟩
theorem KT.put {H : Hp} {kvs : List (List Key × V)} {xs : List (List Key × Addr × Value)} (r : KT H kvs xs) (k : List Key) {b : Addr} {y : V} {u : Value} (hb : H b = some (.tup (k.map kV))) (ry : RelV y u) :
    KT H (putK kvs k y) (storedH xs k b u) := by
  have e : (kvs.any fun kv => decide (kv.1 = k)) = (atKey xs k).isSome := by
    rw [valV_any, (r.val k).isSome_eq, Option.isSome_map]
  unfold putK storedH
  rw [e]
  by_cases q : (atKey xs k).isSome = true
  · rw [if_pos q, if_pos q]; exact r.repl k ry
  · rw [if_neg q, if_neg q]; exact Paired.snoc r ⟨rfl, hb, ry⟩
theorem KT.keeps {H H' : Hp} {kvs : List (List Key × V)} {xs : List (List Key × Addr × Value)} (r : KT H kvs xs) (ht : ∀ b ys, H b = some (.tup ys) → H' b = some (.tup ys)) : KT H' kvs xs :=
  Paired.mapP r fun _ _ z => ⟨z.1, ht _ _ z.2.1, z.2.2⟩
section
variable {P : Program} {w : World} {H : Hp} {h : Heap} {a : Addr}
theorem rd_of {u : HO} (ok : HOk P w H h) (e : Rd H a u) : ObjOk P w H h a u := e.ok ok
theorem dk_rd {kvs : List (Key × V)} (ok : HOk P w H h) (e : Rd H a (.dK kvs)) : kvs.length ≤ sizeLine ∧ (a == sysModules) = false ∧ ∃ vs, KV kvs vs ∧ h.DictOf (mixKind P w) a vs :=
  show ObjOk P w H h a (.dK kvs) from rd_of ok e
theorem dk_of {kvs : List (Key × V)} (ok : HOk P w H h) (e : H a = some (.dK kvs)) : kvs.length ≤ sizeLine ∧ (a == sysModules) = false ∧ ∃ vs, KV kvs vs ∧ h.DictOf (mixKind P w) a vs := dk_rd ok (.inl e)
theorem key_of {ks : List Key} (ok : HOk P w H h) (e : H a = some (.tup (ks.map kV))) : (tupleKind (mixKind P w)).is h ks a := by
  obtain ⟨_, its, r, o, h1, h2, n, h3⟩ := (show ObjOk P w H h a (.tup (ks.map kV)) from ok a _ e)
  exact ⟨o, its.toArray, n, h1, h2, h3, by simpa using items_are r⟩
theorem dt_rd {kvs : List (List Key × V)} (ok : HOk P w H h) (e : Rd H a (.dT kvs)) : kvs.length ≤ sizeLine ∧ (a == sysModules) = false ∧
    ∃ xs, KT H kvs xs ∧ h.DictOfH (tupleKind (mixKind P w)) a xs := by
  obtain ⟨z, y, xs, r, o, es, ep, h1, h2, h3, h4, h5⟩ := (show ObjOk P w H h a (.dT kvs) from rd_of ok e)
  refine ⟨z, y, xs, r, o, es, ep, h1, h2, h3, h4, fun x hx => ?_, h5⟩
  have all : ∀ {l : List (List Key × V)} {m : List (List Key × Addr × Value)}, KT H l m → ∀ x ∈ m, (tupleKind (mixKind P w)).is h x.1 x.2.1 := by
    intro l m q
    induction q with
    | nil => intro x hx; exact nomatch hx
    | @cons p q ps qs hq t ih =>
      intro x hx
      rcases List.mem_cons.mp hx with e | hx
      · subst e
        exact key_of ok (by rw [← hq.1]; exact hq.2.1)
      · exact ih x hx
  exact all r x hx
theorem dt_of {kvs : List (List Key × V)} (ok : HOk P w H h) (e : H a = some (.dT kvs)) : kvs.length ≤ sizeLine ∧ (a == sysModules) = false ∧
    ∃ xs, KT H kvs xs ∧ h.DictOfH (tupleKind (mixKind P w)) a xs := dt_rd ok (.inl e)
end
def DGet (H : Hp) (a : Addr) (y : V) (r : Option V) : Prop :=
  (∃ kvs k, Rd H a (.dK kvs) ∧ y = kV k ∧ r = valV kvs k) ∨ ∃ kvs k b, Rd H a (.dT kvs) ∧ y = .ref b ∧ H b = some (.tup (k.map kV)) ∧ r = valV kvs k
def DPut (H : Hp) (a : Addr) (y v : V) (H' : Hp) : Prop :=
  (∃ kvs k, H a = some (.dK kvs) ∧ y = kV k ∧ kvs.length < sizeLine ∧ H' = upd H a (.dK (putK kvs k v))) ∨
  ∃ kvs k b, H a = some (.dT kvs) ∧ y = .ref b ∧ H b = some (.tup (k.map kV)) ∧ kvs.length < sizeLine ∧ H' = upd H a (.dT (putK kvs k v))
theorem DGet.k {H : Hp} {a : Addr} {kvs : List (Key × V)} {k : Key} (e : H a = some (.dK kvs)) : DGet H a (kV k) (valV kvs k) := .inl ⟨kvs, k, .inl e, rfl, rfl⟩
theorem DPut.k {H : Hp} {a : Addr} {kvs : List (Key × V)} {k : Key} {v : V} (e : H a = some (.dK kvs)) (hl : kvs.length < sizeLine) : DPut H a (kV k) v (upd H a (.dK (putK kvs k v))) := .inl ⟨kvs, k, e, rfl, hl, rfl⟩
section
variable {X : Cx} {pins : List (Addr × Obj)} {σ : St} {H : Hp} {s : Shared} {a : Addr} {y v : V} {u r : Value} {o : Option V} {A : Around} {E : Value → Shared → Prop}
theorem Inv.big (I : Inv X pins σ H s) : sysModules < s.heap.objs.size := by
  have h : mainGlobals < s.heap.objs.size := (I.mod.glob.keeps I.bk).lt
  exact Nat.lt_trans (by decide) h
theorem d_in {Q : Value → Shared → Prop} (hu : A.units + 1 < cLine) (I : Inv X pins σ H s) (g : DGet H a y o) (ry : RelV y u) (h : ∀ s', Inv X pins σ H s' → Q (.bool o.isSome) s') :
    wpAny (model X.prog X.w) A (compareOp .In u (.ref a)) Q E s := by
  rcases g with ⟨kvs, k, e, ey, l⟩ | ⟨kvs, k, b, e, ey, eb, l⟩
  · subst ey
    obtain ⟨z, hd, vs, rel, dd⟩ := dk_rd I.hok e
    refine wpAny_in_of (kV_is ry) hd dd.mapOf ?_
    rw [← (rel.val k).isSome_eq, ← l]
    exact h _ (I.tok _)
  · subst ey
    cases (show u = Value.ref b from ry)
    obtain ⟨z, hd, xs, rel, dd⟩ := dt_rd I.hok e
    refine wpAny_in_heap (tupleKind_room_in1 hu) (key_of I.hok eb) hd dd ?_
    have q := (rel.val k).isSome_eq
    rw [Option.isSome_map] at q
    rw [← q, ← l]
    exact h _ (I.tok _)
theorem d_write {h' : Heap} {t' : Nat} {ob : HO} (I : Inv X pins σ H s) (mu : Mut (H a)) (hs : Heap.SameBut a s.heap h') (he : ∃ q, h'.get? a = some q) (new : ObjOk X.prog X.w (upd H a ob) h' a ob) :
    Inv X pins σ (upd H a ob) { s with heap := h', toks := t' } :=
  I.write (x := a) (e := a) mu (.inl rfl) (fun b q hb z => (hs.2 b hb).trans z) he new
theorem dk_new {P : Program} {w : World} {H' : Hp} {h' : Heap} {kvs : List (Key × V)} {vs : List (Key × Value)} (z : kvs.length ≤ sizeLine) (hd : (a == sysModules) = false) (rel : KV kvs vs) (dd : h'.DictOf (mixKind P w) a vs) :
    ObjOk P w H' h' a (.dK kvs) := ⟨z, hd, vs, rel, dd⟩
theorem d_setItem {H' : Hp} {Q : Unit → Shared → Prop} (hu : A.units + 1 < cLine) (I : Inv X pins σ H s) (g : DPut H a y v H') (ry : RelV y u) (rv : RelV v r) (h : ∀ s', Inv X pins σ H' s' → Q () s') :
    wpAny (model X.prog X.w) A (setItem (.ref a) u r) Q E s := by
  rcases g with ⟨kvs, k, e, ey, l, eH⟩ | ⟨kvs, k, b, e, ey, eb, l, eH⟩
  · subst ey eH
    obtain ⟨z, hd, vs, rel, dd⟩ := dk_of I.hok e
    have hz : vs.length ≤ sizeLine := by rw [← rel.length]; exact z
    have hl : (putK kvs k v).length ≤ sizeLine := by have := length_putK kvs k v; omega
    refine wpAny_setItem_pairs (hsz := hz) (kV_is ry) dd fun h' dd' hs => h _ ?_
    have he : ∃ q, h'.get? a = some q := let ⟨q, _, _, hq, _⟩ := dd'; ⟨q, hq⟩
    exact d_write I (by rw [e]; exact True.intro) hs he (dk_new hl hd (rel.put k rv) dd')
  · subst ey eH
    cases (show u = Value.ref b from ry)
    obtain ⟨z, hd, xs, rel, dd⟩ := dt_of I.hok e
    have hz : xs.length ≤ sizeLine := by rw [← Paired.length rel]; exact z
    have hl : (putK kvs k v).length ≤ sizeLine := by have := length_putK kvs k v; omega
    refine wpAny_setItem_heap (hsz := hz) (tupleKind_room_in1 hu) (key_of I.hok eb) dd fun h' dd' hs => h _ ?_
    obtain ⟨q, es, ep, hq, h2, h3, h4, _, h5⟩ := dd'
    refine d_write I (by rw [e]; exact True.intro) hs ⟨q, hq⟩ ⟨hl, hd, _, (rel.put k eb rv).keeps fun c ys ec => ?_, q, es, ep, hq, h2, h3, h4, h5⟩
    rw [upd_ne (ne_of ec e (fun z => nomatch z))]
    exact ec
end
section
variable {X : Cx} {pins : List (Addr × Obj)} {σ : St} {H : Hp} {s : Shared} {a : Addr} {kvs : List (Key × V)} {k : Key} {u : Value} {A : Around} {E : Value → Shared → Prop}
end
def tDIn (ty td : TE) : TE := fun σ H Q => ty σ H fun y H1 => td σ H1 fun x H2 => ∃ a o, x = .ref a ∧ DGet H2 a y o ∧ Q (.bl o.isSome) H2
def sDPut (td ty tv : TE) : TS := fun D σ H => tv σ H fun v H1 => td σ H1 fun x H2 => ty σ H2 fun y H3 => ∃ a H4, x = .ref a ∧ DPut H3 a y v H4 ∧ D.nx σ H4
section
variable {X : Cx} {o i e value : Expr} {pos pos' tpos : Pos} {td ty tv : TE}
theorem pc_din (hu : X.A.units + 1 < cLine) (hi : PE X i ty) (ho : PE X o td) : PC X .In i o (tDIn ty td) := by
  intro pins s σ H Q I h
  refine thn (hi pins s σ H _ I h) fun iv s1 ⟨y, H1, I1, ry, q1⟩ => thn (ho pins s1 σ H1 _ I1 q1) fun u s2 ⟨x, H2, I2, rx, a, ov, ex, g, q2⟩ => ?_
  subst ex
  obtain rfl : u = Value.ref a := rx
  exact d_in hu I2 g ry fun s3 I3 => ⟨.bl ov.isSome, H2, I3, rfl, q2⟩
theorem ps_dput (hu : X.A.units + 1 < cLine) (ho : PE X o td) (hi : PE X i ty) (hv : PE X value tv) (hs : swapsWith value (some (.Subscript o i pos')) pos.line X.env = pure false) :
    PS X (.Assign [.Subscript o i pos'] value pos) (sDPut td ty tv) := by
  intro pins s σ H D I h
  refine wpAny_Assign_Subscript (thn (hv pins s σ H _ I h) fun r s1 ⟨v, H1, I1, rv, q1⟩ => thn (ho pins s1 σ H1 _ I1 q1) fun u s2 ⟨x, H2, I2, rx, q2⟩ => thn (hi pins s2 σ H2 _ I2 q2) fun iv s3 ⟨y, H3, I3, ry, a, H4, ex, g, q3⟩ => ?_) hs
  subst ex
  obtain rfl : u = Value.ref a := rx
  exact d_setItem hu I3 g ry rv fun s4 I4 => ⟨σ, H4, I4, q3⟩
end
theorem dk_empty {P : Program} {w : World} {H : Hp} (h : Heap) (hb : sysModules < h.objs.size) : ObjOk P w H (h.push { cls := .type "dict", data := .dict #[] }) h.objs.size (.dK []) :=
  ⟨Nat.zero_le _, beq_eq_false_iff_ne.mpr (Ne.symm (Nat.ne_of_lt hb)), [], .nil, Heap.DictOf.new h⟩
section
variable {X : Cx} {pos : Pos}
end
def tPairs : List (TE × TE) → St → Hp → (List (V × V) → Hp → Prop) → Prop
  | [], _, H, Q => Q [] H
  | (tk, tv) :: r, σ, H, Q => tk σ H fun x H1 => tv σ H1 fun y H2 => tPairs r σ H2 fun ps H3 => Q ((x, y) :: ps) H3
abbrev VV : List (V × V) → List (Value × Value) → Prop := Paired fun p q => RelV p.1 q.1 ∧ RelV p.2 q.2
def PPs (X : Cx) (pos : Pos) (keys : List (Option Expr)) (values : List Expr) (trs : List (TE × TE)) : Prop :=
  ∀ (pins : List (Addr × Obj)) (s : Shared) (σ : St) (H : Hp) (Q : List (V × V) → Hp → Prop), Inv X pins σ H s → tPairs trs σ H Q →
    wpAny (model X.prog X.w) X.A (evalPairs (pairTrees keys values X.env pos)) (fun vs s' => ∃ ps H', Inv X pins σ H' s' ∧ VV ps vs ∧ Q ps H') X.xe s
theorem pps_nil {X : Cx} {pos : Pos} : PPs X pos [] [] [] := fun pins s σ H Q I h => pairTrees_nil_walk ⟨[], H, I, .nil, h⟩
theorem pps_cons {X : Cx} {pos : Pos} {k v : Expr} {ks : List (Option Expr)} {vs : List Expr} {tk tv : TE} {trs : List (TE × TE)} (hk : PE X k tk) (hv : PE X v tv) (hr : PPs X pos ks vs trs) :
    PPs X pos (some k :: ks) (v :: vs) ((tk, tv) :: trs) := fun pins s σ H Q I h =>
  pairTrees_cons_walk (thn (hk pins s σ H _ I h) fun u s1 ⟨x, H1, I1, rx, q1⟩ => thn (hv pins s1 σ H1 _ I1 q1) fun w2 s2 ⟨y, H2, I2, ry, q2⟩ =>
    thn (hr pins s2 σ H2 _ I2 q2) fun ws s3 ⟨ps, H3, I3, rel, q3⟩ => ⟨(x, y) :: ps, H3, I3, .cons ⟨rx, ry⟩ rel, q3⟩)
def mergeK (kvs more : List (Key × V)) : List (Key × V) := more.foldl (fun acc kv => putK acc kv.1 kv.2) kvs
theorem KV.merge : ∀ {more : List (Key × V)} {rs : List (Key × Value)} {kvs : List (Key × V)} {vs : List (Key × Value)}, KV more rs → KV kvs vs → KV (mergeK kvs more) (merged vs rs) := by
  intro more rs kvs vs r
  unfold KV at r
  induction r generalizing kvs vs with
  | nil => intro q; exact q
  | @cons p q ps qs h t ih =>
    intro r0
    have e : KV (putK kvs p.1 p.2) (stored vs q.1 q.2) := by
      have := r0.put p.1 h.2
      rw [← h.1]; exact this
    exact ih e
theorem length_mergeK : ∀ (more kvs : List (Key × V)), (mergeK kvs more).length ≤ kvs.length + more.length
  | [], kvs => by show kvs.length ≤ kvs.length + 0; omega
  | p :: r, kvs => by
    have h1 := length_mergeK r (putK kvs p.1 p.2)
    have h2 := length_putK kvs p.1 p.2
    show (mergeK (putK kvs p.1 p.2) r).length ≤ _
    rw [List.length_cons]; omega
theorem carries_of {P : Program} {w : World} : ∀ {kvs : List (Key × V)} {ws : List (Value × Value)}, VV (kvs.map fun kv => (kV kv.1, kv.2)) ws → ∃ rs, Carries (mixKind P w) ws rs ∧ KV kvs rs
  | [], _, r => by rw [List.map_nil] at r; cases r; exact ⟨[], True.intro, .nil⟩
  | p :: kvs, _, r => by
    rw [List.map_cons] at r
    cases r with
    | @cons a b as bs h t =>
      obtain ⟨rs, c, q⟩ := carries_of (P := P) (w := w) t
      obtain ⟨b1, b2⟩ := b
      exact ⟨(p.1, b2) :: rs, ⟨kV_is h.1, rfl, c⟩, .cons ⟨rfl, h.2⟩ q⟩
def tDisp (trs : List (TE × TE)) : TE := fun σ H Q => ∀ p, H p = none → tPairs trs σ (upd H p (.dK [])) fun ps H2 => H2 p = some (.dK []) ∧ ∃ kvs : List (Key × V), ps = kvs.map (fun kv => (kV kv.1, kv.2)) ∧ kvs.length ≤ 15 ∧ Q (.ref p) (upd H2 p (.dK (mergeK [] kvs)))
theorem pe_disp {X : Cx} {pos : Pos} {keys : List (Option Expr)} {values : List Expr} {trs : List (TE × TE)} (h : PPs X pos keys values trs) (hall : keys.all (·.isSome) = true) (hl : keys.length = values.length) (h0 : keys ≠ [])
    (h15 : keys.length ≤ 15) : PE X (.Dict keys values pos) (tDisp trs) := by
  intro pins s σ H Q I q
  have hn := I.hok.fresh (Nat.le_refl s.heap.objs.size)
  have I1 := I.laid (a := s.heap.objs.size) (o := .dK []) (h' := s.heap.push { cls := .type "dict", data := .dict #[] }) (t' := s.toks) (fun _ _ q => Heap.get?_push_of_some _ q) (Nat.le_refl _) (dk_empty s.heap I.big)
  refine wpAny_Dict_walk (knd := mixKind X.prog X.w) hall hl h0 h15 (thn (h pins _ σ _ _ I1 (q _ hn)) fun ws s2 ⟨ps, H2, I2, rel, e, kvs, ep, lk, q2⟩ => ?_)
  subst ep
  obtain ⟨rs, c, rk⟩ := carries_of (P := X.prog) (w := X.w) rel
  obtain ⟨z, hd, vs0, r0, dd⟩ := dk_of I2.hok e
  cases r0
  refine ⟨rs, c, dd, fun h' dd' hs => ⟨.ref s.heap.objs.size, _, ?_, rfl, q2⟩⟩
  have hz : (mergeK [] kvs).length ≤ sizeLine := by
    have h1 := length_mergeK kvs []
    rw [List.length_nil] at h1
    rw [sizeLine_eq]; omega
  have he : ∃ q, h'.get? s.heap.objs.size = some q := let ⟨q, _, _, hq, _⟩ := dd'; ⟨q, hq⟩
  exact d_write I2 (by rw [e]; exact True.intro) hs he (dk_new hz hd (rk.merge .nil) dd')
section
variable {X : Cx} {pins : List (Addr × Obj)} {σ : St} {H : Hp} {s : Shared} {a : Addr} {y d : V} {u r : Value} {o : Option V} {A : Around} {E : Value → Shared → Prop}
end
section
variable {X : Cx} {o e f : Expr} {apos cpos : Pos} {td ty tx : TE}
end
section
variable {X : Cx} {pins : List (Addr × Obj)} {σ : St} {H : Hp} {s : Shared} {a : Addr} {kvs : List (Key × V)} {A : Around} {E : Value → Shared → Prop}
end
section
variable {X : Cx} {pins : List (Addr × Obj)} {σ : St} {H : Hp} {s : Shared} {a : Addr} {y : V} {u : Value} {A : Around} {E : Value → Shared → Prop}
end
end L2
namespace L2
section
variable {κ : Type} [DecidableEq κ]
end
end L2
set_option Elab.async false
set_option linter.all false
set_option maxRecDepth 100000
set_option maxHeartbeats 4000000
namespace L2
open PySem PySem.Spec PyProof.Rows
theorem closure_go {env : Env} (f : Str × NameKind → List (Str × Addr) → Sem (ForInStep (List (Str × Addr))))
    (hf : ∀ n k r, f (n, k) r = if (k == NameKind.free) = true then (cellOf env n >>= fun a => pure (.yield ((n, a) :: r))) else pure (.yield r)) :
    ∀ (l : List (Str × NameKind)) (acc : List (Str × Addr)), (∀ x ∈ l, x.2 = .free → ∃ c, env.cells.lookup x.1 = some c) → (∀ y c, acc.lookup y = some c → env.cells.lookup y = some c) →
      ∃ cl, (forIn l acc f : Sem (List (Str × Addr))) = pure cl ∧ (∀ y c, cl.lookup y = some c → env.cells.lookup y = some c) ∧ (∀ y, (∃ c, acc.lookup y = some c) → ∃ c, cl.lookup y = some c) ∧ ∀ y, (y, NameKind.free) ∈ l → ∃ c, cl.lookup y = some c
  | [], acc, _, ha => ⟨acc, by rw [List.forIn_nil], ha, fun _ h => h, fun _ h => by cases h⟩
  | (n, k) :: r, acc, h, ha => by
    rw [List.forIn_cons, hf]
    have hr : ∀ x ∈ r, x.2 = .free → ∃ c, env.cells.lookup x.1 = some c := fun x hx => h x (List.mem_cons_of_mem _ hx)
    by_cases hk : k = .free
    · subst hk
      obtain ⟨c, hc⟩ := h (n, .free) List.mem_cons_self rfl
      have hcell : cellOf env n = pure c := by unfold cellOf; rw [hc]
      have look : ∀ y, ((n, c) :: acc).lookup y = if (y == n) = true then some c else acc.lookup y := fun y => by
        rw [List.lookup_cons]; cases y == n <;> rfl
      obtain ⟨cl, e, r1, r2, r3⟩ := closure_go f hf r ((n, c) :: acc) hr (fun y c' q => by
        rw [look] at q
        split at q
        · rename_i hy
          have e := eq_of_beq hy
          subst e
          rw [← q]; exact hc
        · exact ha y c' q)
      rw [if_pos (by rfl), hcell]
      refine ⟨cl, e, r1, fun y ⟨c', q⟩ => r2 y ?_, fun y hy => ?_⟩
      · rw [look]
        split
        · exact ⟨_, rfl⟩
        · exact ⟨_, q⟩
      · rcases List.mem_cons.mp hy with q | q
        · injection q with q1 _
          exact r2 y ⟨c, by rw [look, q1, if_pos (by simp)]⟩
        · exact r3 y q
    · have hb : (k == NameKind.free) = false := by simpa using hk
      obtain ⟨cl, e, r1, r2, r3⟩ := closure_go f hf r acc hr ha
      rw [if_neg (by rw [hb]; decide)]
      refine ⟨cl, e, r1, r2, fun y hy => ?_⟩
      rcases List.mem_cons.mp hy with q | q
      · injection q with _ q2
        exact absurd q2.symm hk
      · exact r3 y q
theorem closureFor_ok {scope : Scope} {env : Env} (h : ∀ x ∈ scope.names, x.2 = .free → ∃ c, env.cells.lookup x.1 = some c) :
    ∃ cl, closureFor scope env = pure cl ∧ (∀ y c, cl.lookup y = some c → env.cells.lookup y = some c) ∧ ∀ y, (y, NameKind.free) ∈ scope.names → ∃ c, cl.lookup y = some c := by
  have g := closure_go (env := env) (fun x r => match x with | (name, kind) => if (kind == NameKind.free) = true then (do let a ← cellOf env name; pure (ForInStep.yield ((name, a) :: r))) else pure (ForInStep.yield r)) (fun _ _ _ => rfl) scope.names [] h (fun _ _ q => by cases q)
  obtain ⟨cl, e, r1, _, r3⟩ := g
  refine ⟨cl, ?_, r1, r3⟩
  have e2 : closureFor scope env = (forIn scope.names ([] : List (Str × Addr)) (fun x r => match x with | (name, kind) => if (kind == NameKind.free) = true then (do let a ← cellOf env name; pure (ForInStep.yield ((name, a) :: r))) else pure (ForInStep.yield r)) >>= fun r => pure r) := rfl
  rw [e2, e]
  rfl
def compOk (N : List Str) (sc scope : Scope) (N' : List Str) (ix : List (Option Nat)) : Bool :=
  (scope.names.all fun p => decide (p.2 ≠ .cell) && (decide (p.2 ≠ .local) || decide (scope.names.lookup p.1 = some .local)) && (decide (p.2 ≠ .free) || (decide (sc.names.lookup p.1 = some .cell) && decide (scope.names.lookup p.1 = some .free)))) &&
  decide N'.Nodup && decide (ix.length = N'.length) &&
  ((List.range ix.length).all fun j => match ix[j]? with
    | some (some i) => (match N'[j]? with | some y => decide (N[i]? = some y) && (scope.names.any fun p => decide (p.1 = y) && decide (p.2 = .free)) | none => false)
    | _ => true)
structure CompSc (N : List Str) (sc scope : Scope) (N' : List Str) (ix : List (Option Nat)) : Prop where
  kind : scope.kind = .function
  nocell : ∀ y ∈ scope.names, y.2 ≠ .cell
  names : ∀ y ∈ scope.names, y.2 = .local → scope.names.lookup y.1 = some .local
  nd : N'.Nodup
  len : ix.length = N'.length
  cap : ∀ (j i : Nat), ix[j]? = some (some i) → ∃ y, N'[j]? = some y ∧ N[i]? = some y ∧ (y, NameKind.free) ∈ scope.names
  free : ∀ y, (y, NameKind.free) ∈ scope.names → sc.names.lookup y = some .cell
  frees : ∀ y, (y, NameKind.free) ∈ scope.names → scope.names.lookup y = some .free
theorem CompSc.of {N : List Str} {sc scope : Scope} {N' : List Str} {ix : List (Option Nat)} (kind : scope.kind = .function) (h : compOk N sc scope N' ix = true) : CompSc N sc scope N' ix := by
  unfold compOk at h
  simp only [Bool.and_eq_true, List.all_eq_true, Bool.or_eq_true, decide_eq_true_eq] at h
  obtain ⟨⟨⟨h1, h2⟩, h3⟩, h4⟩ := h
  refine ⟨kind, fun y hy => (h1 y hy).1.1, fun y hy hl => ?_, h2, h3, fun j i e => ?_, fun y hy => ?_, fun y hy => ?_⟩
  · rcases (h1 y hy).1.2 with z | z
    · exact absurd hl z
    · exact z
  · have hj : j < ix.length := (List.getElem?_eq_some_iff.mp e).1
    have q := h4 j (List.mem_range.mpr hj)
    rw [e] at q
    dsimp only at q
    cases e2 : N'[j]? with
    | none => rw [e2] at q; cases q
    | some y =>
      rw [e2] at q
      simp only [Bool.and_eq_true, decide_eq_true_eq, List.any_eq_true] at q
      obtain ⟨q1, ⟨n, k⟩, q2, q3, q4⟩ := q
      dsimp only at q3 q4
      subst q3 q4
      exact ⟨_, rfl, q1, q2⟩
  · rcases (h1 _ hy).2 with z | z
    · exact absurd rfl z
    · exact z.1
  · rcases (h1 _ hy).2 with z | z
    · exact absurd rfl z
    · exact z.2
def inSt (ix : List (Option Nat)) (σ : St) : St := ix.map fun o => o.bind fun i => (σ[i]?).join
theorem inSt_get {ix : List (Option Nat)} {σ : St} {j : Nat} {v : V} (h : (inSt ix σ)[j]? = some (some v)) : ∃ i, ix[j]? = some (some i) ∧ σ[i]? = some (some v) := by
  unfold inSt at h
  rw [List.getElem?_map] at h
  cases e : ix[j]? with
  | none => rw [e] at h; cases h
  | some o =>
    rw [e] at h
    cases o with
    | none => cases h
    | some i =>
      refine ⟨i, rfl, ?_⟩
      have h' : (σ[i]?).join = some v := Option.some.inj h
      cases e2 : σ[i]? with
      | none => rw [e2] at h'; cases h'
      | some o2 => rw [e2] at h'; exact congrArg some h'
def cxIn (X : Cx) (scope : Scope) (N' : List Str) (C : Addr) (cl : List (Str × Addr)) (s : Shared) (H : Hp) (fp : List Addr) : Cx where
  prog := X.prog
  w := X.w
  K := X.K
  mg := X.mg
  base := X.base
  A := X.A
  N := N'
  s₀ := s
  H₀ := H
  env := compEnvC scope cl C X.env
  outer := X.stack
  stack := X.stack
  ex := fp
  fn := fun _ => false
  calm := X.calm
  pn := []
  xe := fun _ _ => False
theorem lookup_relabel {env : Env} : ∀ {names : List (Str × NameKind)} {x : Str} {k : NameKind}, (∀ y ∈ names, y.2 ≠ .cell) →
    (names.map fun (n, k) => if (k == NameKind.free && env.scope.kind == .function && env.kindOf n == some .cell) then (n, NameKind.cell) else (n, k)).lookup x = some k → k = .cell ∨ k = .free → (x, NameKind.free) ∈ names
  | [], _, _, _, h, _ => by simp at h
  | (n, k') :: r, x, k, hc, h, hk => by
    have ih := @lookup_relabel env r x k fun y hy => hc y (List.mem_cons_of_mem _ hy)
    change List.lookup x ((if (k' == NameKind.free && env.scope.kind == .function && env.kindOf n == some .cell) = true then (n, NameKind.cell) else (n, k')) :: _) = _ at h
    by_cases hx : x = n
    · subst hx
      by_cases hq : (k' == NameKind.free && env.scope.kind == .function && env.kindOf x == some .cell) = true
      · have hf : k' = .free := by
          simp only [Bool.and_eq_true] at hq
          exact eq_of_beq hq.1.1
        subst hf
        exact List.mem_cons_self
      · rw [if_neg hq] at h
        simp only [List.lookup_cons, beq_self_eq_true] at h
        have e : k' = k := Option.some.inj h
        subst e
        rcases hk with z | z
        · exact absurd z (hc (x, k') List.mem_cons_self)
        · subst z; exact List.mem_cons_self
    · have hb : (x == n) = false := beq_eq_false_iff_ne.mpr hx
      refine List.mem_cons_of_mem _ (ih ?_ hk)
      by_cases hq : (k' == NameKind.free && env.scope.kind == .function && env.kindOf n == some .cell) = true
      · rw [if_pos hq] at h
        simp only [List.lookup_cons, hb] at h
        exact h
      · rw [if_neg hq] at h
        simp only [List.lookup_cons, hb] at h
        exact h
theorem lookup_relabel_free {env : Env} : ∀ {names : List (Str × NameKind)} {x : Str}, names.lookup x = some .free →
    (names.map fun (n, k) => if (k == NameKind.free && env.scope.kind == .function && env.kindOf n == some .cell) then (n, NameKind.cell) else (n, k)).lookup x = some .cell ∨
    (names.map fun (n, k) => if (k == NameKind.free && env.scope.kind == .function && env.kindOf n == some .cell) then (n, NameKind.cell) else (n, k)).lookup x = some .free
  | [], _, h => by simp at h
  | (n, k') :: r, x, h => by
    have ih := @lookup_relabel_free env r x
    show List.lookup x ((if (k' == NameKind.free && env.scope.kind == .function && env.kindOf n == some .cell) = true then (n, NameKind.cell) else (n, k')) :: _) = _ ∨ List.lookup x ((if (k' == NameKind.free && env.scope.kind == .function && env.kindOf n == some .cell) = true then (n, NameKind.cell) else (n, k')) :: _) = _
    by_cases hx : x = n
    · subst hx
      simp only [List.lookup_cons, beq_self_eq_true] at h
      cases h
      by_cases hq : (NameKind.free == NameKind.free && env.scope.kind == .function && env.kindOf x == some .cell) = true
      · rw [if_pos hq]; left; simp [List.lookup_cons]
      · rw [if_neg hq]; right; simp [List.lookup_cons]
    · have hb : (x == n) = false := beq_eq_false_iff_ne.mpr hx
      simp only [List.lookup_cons, hb] at h
      by_cases hq : (k' == NameKind.free && env.scope.kind == .function && env.kindOf n == some .cell) = true
      · rw [if_pos hq]; simp only [List.lookup_cons, hb]; exact ih h
      · rw [if_neg hq]; simp only [List.lookup_cons, hb]; exact ih h
section
variable {X : Cx} {pins : List (Addr × Obj)} {σ : St} {H H' : Hp} {s : Shared}
theorem Inv.adopt {a : Addr} {o : HO} (I : Inv X pins σ H s) (hn : H a = none) (h1 : X.s₀.heap.objs.size ≤ a) (hL : a ≠ X.env.locals) (hC : ∀ x c, X.env.cells.lookup x = some c → c ≠ a) (hp : ∀ p ∈ X.pn ++ pins, p.1 ≠ a)
    (new : ObjOk X.prog X.w (upd H a o) s.heap a o) : Inv X pins σ (upd H a o) s := by
  have u : ∀ b ob, X.s₀.heap.get? b = some ob → b ≠ a := fun b ob e => Nat.ne_of_lt (Nat.lt_of_lt_of_le (Heap.lt_size e) h1)
  refine ⟨I.ok, I.os, I.bare, ⟨I.base.keep, I.base.slot, fun b ob e n hx => by rw [upd_ne (u b ob e)]; exact I.base.free b ob e n hx, I.base.there, fun b xs e => ?_, fun b ob xs e => ?_, fun b ps e => ?_⟩, I.loc, I.cell, ?_, fun x c e => ?_, fun p hq => ?_, fun b ob e => ?_, I.len⟩
  · have q := I.base.tups b xs e
    rw [upd_ne (ne_of_none q hn)]; exact q
  · have q := I.base.frzs b ob xs e
    rw [upd_ne (ne_of_none q hn)]; exact q
  · obtain ⟨more, q⟩ := I.base.tbls b ps e
    exact ⟨more, by rw [upd_ne (ne_of_none q hn)]; exact q⟩
  · rw [upd_ne (Ne.symm hL)]; exact I.free
  · rw [upd_ne (hC x c e)]; exact I.freeC x c e
  · obtain ⟨e, n, r⟩ := I.pin p hq
    exact ⟨e, by rw [upd_ne (hp p hq)]; exact n, r⟩
  · by_cases hb : b = a
    · subst hb
      rw [upd_same] at e
      cases e
      exact new
    · rw [upd_ne hb] at e
      exact (I.hok b ob e).stay (fun _ _ _ q => q) (fun c q => by rw [upd_ne (ne_of_none q hn)]; exact q) fun c xs q => by rw [upd_ne (ne_of_none q hn)]; exact q
structure Loose (X : Cx) (pins : List (Addr × Obj)) (H : Hp) (C : Addr) : Prop where
  no : H C = none
  nl : C ≠ X.env.locals
  ab : X.s₀.heap.objs.size ≤ C
  nc : ∀ x c, X.env.cells.lookup x = some c → c ≠ C
  np : ∀ p ∈ X.pn ++ pins, p.1 ≠ C
theorem Inv.loose {C : Addr} (I : Inv X pins σ H s) (hC : s.heap.objs.size ≤ C) (hn : H' C = none) : Loose X pins H' C :=
  let ⟨a, b, _, d, e, f⟩ := I.fpOk (H' := H') hC hn
  ⟨a, b, Nat.le_trans I.sz hC, e, f⟩
theorem Inv.same {C : Addr} {h' : Heap} {s' : Shared} (I : Inv X pins σ H s) (l : Loose X pins H C) (sb : Heap.SameBut C s.heap h') (e : s' = { s with heap := h' }) : Inv X pins σ H s' := by
  subst e
  exact I.turned (t' := s.toks) (fun b o hb q => (sb.2 b hb).trans q) l.no (l.nl) (.inr l.ab) l.nc l.np
theorem Inv.cxIn_ok {scope : Scope} {N' : List Str} {ix : List (Option Nat)} {C : Addr} {cl : List (Str × Addr)} {fp : List Addr} (I : Inv X pins σ H s) (S : CompSc X.N X.env.scope scope N' ix) (hC : s.heap.objs.size ≤ C)
    (c1 : ∀ y c, cl.lookup y = some c → X.env.cells.lookup y = some c) (c2 : ∀ y, (y, NameKind.free) ∈ scope.names → ∃ c, cl.lookup y = some c)
    (hf : ∀ b ∈ fp, FpOk X pins H b) (hlt : ∀ b ∈ fp, b < s.heap.objs.size) : (cxIn X scope N' C cl s H fp).Ok where
  mod := I.ok.mod
  kind := S.kind
  glob := I.ok.glob
  blt := I.ok.blt
  above := hC
  inj := fun x y c h1 h2 => I.ok.inj x y c (c1 x c h1) (c1 y c h2)
  has := fun x h => by
    rcases h with h | h
    · exact c2 x (lookup_relabel S.nocell h (.inl rfl))
    · exact c2 x (lookup_relabel S.nocell h (.inr rfl))
  cab := fun _ _ h => by cases h
  hd := I.ok.hd
  frames := I.ok.frames
  stk := .inl rfl
  exf := fun b hb => ⟨Nat.ne_of_lt (Nat.lt_of_lt_of_le (hlt b hb) hC), fun x c e => (hf b hb).2.2.2.2.1 x c (c1 x c e)⟩
  bs := I.bs
  bsz := Nat.le_trans I.ok.bsz I.sz
  noex := fun b o e hb => by
    rcases (hf b hb).2.2.2.1 with z | z
    · exact I.ok.noex b o e z
    · exact absurd (Nat.lt_of_lt_of_le (Heap.lt_size e) (Nat.le_trans I.ok.bsz z)) (Nat.lt_irrefl _)
  exfs := fun b hb z => by
    rcases List.mem_cons.mp (I.stkSub b z) with q | q
    · exact (hf b hb).2.1 q
    · exact (hf b hb).2.2.1 q
  funs := I.stack
  frf := I.stkFree
theorem Inv.cxIn {scope : Scope} {N' : List Str} {ix : List (Option Nat)} {C D : Addr} {oD : Obj} {cl : List (Str × Addr)} {fp : List Addr} {h' : Heap} {tk : Nat} {m : Str → Option Value} (I : Inv X pins σ H s) (S : CompSc X.N X.env.scope scope N' ix)
    (hC : s.heap.objs.size ≤ C) (hD : s.heap.objs.size ≤ D) (hDC : D ≠ C) (eD : h'.get? D = some oD) (dD : ∀ v, oD.data ≠ .cell v)
    (c1 : ∀ y c, cl.lookup y = some c → X.env.cells.lookup y = some c) (c2 : ∀ y, (y, NameKind.free) ∈ scope.names → ∃ c, cl.lookup y = some c)
    (hf : ∀ b ∈ fp, FpOk X pins H b) (hlt : ∀ b ∈ fp, b < s.heap.objs.size) (k : ∀ b o, s.heap.get? b = some o → h'.get? b = some o) (hn : h'.Ns C m) :
    Inv (cxIn X scope N' C cl s H fp) [(D, oD)] (inSt ix σ) H { s with heap := h', toks := tk } where
  ok := I.cxIn_ok S hC c1 c2 hf hlt
  os := rfl
  bare := I.bare
  base := Un.kept k
  loc := by
    refine ⟨m, hn, fun j y v e1 e2 e3 => ?_⟩
    obtain ⟨i, h1, h2⟩ := inSt_get e2
    obtain ⟨z, hz1, hz2, hz3⟩ := S.cap j i h1
    change N'[j]? = some y at e1
    rw [e1] at hz1
    cases hz1
    have hk := S.free y hz3
    obtain ⟨m0, hn0, hl⟩ := I.loc
    obtain ⟨u, ru, lk⟩ := hl i y v hz2 h2 (.inr (.inl hk))
    refine ⟨u, ru, .inr ⟨?_, ?_⟩⟩
    · exact lookup_relabel_free (env := X.env) (S.frees y hz3)
    · rcases lk with ⟨k1, _⟩ | ⟨_, c, hc, ic⟩
      · rw [show X.env.kindOf y = some .cell from hk] at k1; cases k1
      · obtain ⟨c', hc'⟩ := c2 y hz3
        have := c1 y c' hc'
        rw [hc] at this
        cases this
        obtain ⟨o, ho, hd⟩ := ic
        exact ⟨c, hc', o, k _ _ ho, hd⟩
  cell := fun y c e => by
    obtain ⟨v, o, ho, hd⟩ := I.cell y c (c1 y c e)
    exact ⟨v, o, k _ _ ho, hd⟩
  free := I.hok.fresh hC
  freeC := fun y c e => I.freeC y c (c1 y c e)
  pin := fun p hp => by
    have e : p = (D, oD) := by
      rcases List.mem_append.mp hp with z | z
      · cases z
      · exact List.mem_singleton.mp z
    subst e
    refine ⟨eD, I.hok.fresh hD, hDC, fun z => ?_, dD⟩
    rcases List.mem_cons.mp (I.stkSub D z) with q | q
    · exact absurd (Nat.lt_of_lt_of_le I.lt hD) (by rw [show D = X.env.locals from q]; exact Nat.lt_irrefl _)
    · exact I.nofs hD q
  hok := I.hok.kept k
  len := by
    show (inSt ix σ).length = N'.length
    unfold inSt
    rw [List.length_map]
    exact S.len
end
section
variable {prog : Program} {w : World} {A : Around} {R : Result → Shared → Prop} {s : Shared}
theorem compLoop_any {elt target iter : Expr} {ifs : List Expr} {scope : Scope} {pos : Pos} {it acc : Value} {env : Env} (I : Nat → Shared → Prop)
    (turn : ∀ n s, I n s → wpAny (model prog w) A (pyNext it) (fun r s₁ => match r with
      | none => R (.ok .next) s₁
      | some v => wpAny (model prog w) A (letOwnedTupleGo target it v) (fun _ s₁' => wpAny (model prog w) A (assign target env v) (fun _ s₂ =>
          wpAny (model prog w) A (forIn ifs true fun c r => if r = true then do let ok ← isTrue c env (eval c env); pure (ForInStep.yield ok) else pure (ForInStep.yield r)) (fun ok s₃ =>
            if ok = true then wpAny (model prog w) A (eval elt env) (fun x s₄ =>
              wpAny (model prog w) A (call (.builtin "list.append") [acc, x]) (fun _ s₅ => ∃ m, m < n ∧ I m s₅) (fun _ _ => False) s₄) (fun _ _ => False) s₃
            else ∃ m, m < n ∧ I m s₃) (fun _ _ => False) s₂) (fun _ _ => False) s₁') (fun _ _ => False) s₁) (fun _ _ => False) s)
    (n : Nat) (h : I n s) :
    codeAny (model prog w) A (.compLoop (.ListComp elt [⟨target, iter, ifs, 0⟩] scope pos) 0 it acc env) R s := by
  refine codeAny_loop rfl I (fun n s hI => ?_) n h
  show wpAny _ A ((compTurn (.ListComp elt [⟨target, iter, ifs, 0⟩] scope pos) 0 it acc env).onRaise (fun x => do noteFrame x env; theTreesLotGoes x)) _ _ s
  refine wpAny_noted ?_
  rw [compTurn_list]
  refine wpAny_bind (wpAny_standAt (wpAny_bind (wpAny_mono (turn n s hI) (fun r s₁ h₁ => ?_) fun _ _ h' => h'.elim)))
  cases r with
  | none => exact wpAny_pure h₁
  | some v =>
    refine wpAny_bind (wpAny_mono h₁ (fun _ s₁' h₁' => ?_) fun _ _ h' => h'.elim)
    refine wpAny_bind (wpAny_mono h₁' (fun _ s₂ h₂ => wpAny_bind (wpAny_mono h₂ (fun ok s₃ h₃ => ?_) fun _ _ h' => h'.elim)) fun _ _ h' => h'.elim)
    cases ok with
    | false => exact wpAny_pure ⟨rfl, h₃⟩
    | true =>
      exact wpAny_bind (wpAny_bind (wpAny_mono h₃ (fun x s₄ h₄ => wpAny_bind (wpAny_mono h₄ (fun _ s₅ h₅ => wpAny_pure (wpAny_pure ⟨rfl, h₅⟩)) fun _ _ h' => h'.elim)) fun _ _ h' => h'.elim))
end
def PIfs (X : Cx) (ifs : List Expr) (t : TT) : Prop :=
  ∀ (pins : List (Addr × Obj)) (s : Shared) (σ : St) (H : Hp) (Q : Bool → Hp → Prop), Inv X pins σ H s → t σ H Q →
    wpAny (model X.prog X.w) X.A (forIn ifs true fun c r => if r = true then do let ok ← isTrue c X.env (eval c X.env); pure (ForInStep.yield ok) else pure (ForInStep.yield r)) (TP X pins σ Q) X.xe s
def tYes : TT := fun _ H Q => Q true H
theorem pf_nil {X : Cx} : PIfs X [] tYes := fun _ _ _ H _ I h => wpAny_tests_nil ⟨H, I, h⟩
theorem pf_one {X : Cx} {c : Expr} {t : TT} (h : PT X c t) : PIfs X [c] t := fun pins s σ H Q I q => wpAny_tests_one (h pins s σ H Q I q)
def CompW (σ' : St) (j : Nat) (ti : TT) (te : TE) (Q : VK) (J : It) (H : Hp) : Prop :=
  ∃ W : Nat → Nat → List V → Hp → Prop, (∃ m, W 0 m [] H) ∧ ∀ i m ys H, W i m ys H →
    (J.stop i H ∧ ∀ D, H D = none → Q (.ref D) (upd H D (.lst ys))) ∨
    (J.go i H ∧ ys.length < sizeLine ∧ ∃ N : List V → Hp → Prop, (∀ ys' H', N ys' H' → ∃ m', m' < m ∧ W (i + 1) m' ys' H') ∧
      ∀ x H', J.yld i H x H' → ti (σ'.set j (some x)) H' fun b H2 => if b = true then te (σ'.set j (some x)) H2 fun y H3 => N (ys ++ [y]) H3 else N ys H2)
def tComp (ix : List (Option Nat)) (wi : TI) (j : Nat) (ti : TT) (te : TE) : TE := fun σ H Q => wi σ H fun J H1 => CompW (inSt ix σ) j ti te Q J H1
def CompT (σ' : St) (g : TG) (ti : TT) (te : TE) (Q : VK) (J : It) (H : Hp) : Prop :=
  ∃ W : Nat → Nat → List V → Hp → Prop, (∃ m, W 0 m [] H) ∧ ∀ i m ys H, W i m ys H →
    (J.stop i H ∧ ∀ D, H D = none → Q (.ref D) (upd H D (.lst ys))) ∨
    (J.go i H ∧ ys.length < sizeLine ∧ ∃ N : List V → Hp → Prop, (∀ ys' H', N ys' H' → ∃ m', m' < m ∧ W (i + 1) m' ys' H') ∧
      ∀ x H', J.yld i H x H' → g x σ' H' fun σ2 H1 => (σ2.length = σ'.length ∧ ∀ (k : Nat) z, σ'[k]? = some (some z) → σ2[k]? = some (some z)) ∧ ti σ2 H1 fun b H2 => if b = true then te σ2 H2 fun y H3 => N (ys ++ [y]) H3 else N ys H2)
def tCompT (ix : List (Option Nat)) (wi : TI) (g : TG) (ti : TT) (te : TE) : TE := fun σ H Q => wi σ H fun J H1 => CompT (inSt ix σ) g ti te Q J H1
section
variable {X : Cx} {pins : List (Addr × Obj)} {σ : St} {H : Hp} {s : Shared} {tg elt iter : Expr} {g : TG} {ifs : List Expr} {scope : Scope} {pos : Pos} {N' : List Str} {ix : List (Option Nat)} {wi : TI} {ti : TT} {te : TE}
theorem comp_runT {it : Addr} {fp : List Addr} {tn : Nat → Heap → Prop} {J : It} {cl : List (Str × Addr)} {E : Value → Shared → Prop} {RR : Value → Addr → Result → Shared → Prop} {Q : VK}
    (S : CompSc X.N X.env.scope scope N' ix) (hg : ∀ C cl s H fp, N'.Nodup → PG (cxIn X scope N' C cl s H fp) tg g) (hc : X.calm = true)
    (ht : ∀ C cl s H fp, PIfs (cxIn X scope N' C cl s H fp) ifs ti) (he : ∀ C cl s H fp, PE (cxIn X scope N' C cl s H fp) elt te)
    (c1 : ∀ y c, cl.lookup y = some c → X.env.cells.lookup y = some c) (c2 : ∀ y, (y, NameKind.free) ∈ scope.names → ∃ c, cl.lookup y = some c)
    (I : Inv X pins σ H s) (T : Turn X.prog X.w X.K tg J fp it tn) (st : tn 0 s.heap) (hf : ∀ b ∈ fp, FpOk X pins H b) (hW : CompT (inSt ix σ) g ti te Q J H)
    (hRR : ∀ D C H' s' m', Inv X pins σ H' s' → s'.heap.Ns C m' → Loose X pins H' C → s.heap.objs.size ≤ C → Q (.ref D) H' → RR (.ref D) C (.ok .next) s') :
    wpAny (model X.prog X.w) X.A (newList []) (fun acc s₃ => wpAny (model X.prog X.w) X.A (newFunctionEnv scope X.env.globals cl [] X.env.qual none .none (some X.env)) (fun cenv s₄ =>
      codeAny (model X.prog X.w) X.A (.compStart (.ListComp elt [⟨tg, iter, ifs, 0⟩] scope pos) 0 (.ref it) acc { cenv with scope := relabel scope X.env }) (RR acc cenv.locals) s₄) E s₃) E s := by
  obtain ⟨W, ⟨m0, w0⟩, turn⟩ := hW
  have hlt : ∀ b ∈ fp, b < s.heap.objs.size := fun b hb => let ⟨_, e, _⟩ := T.obj _ _ st b hb; Heap.lt_size e
  refine wpAny_newObj_type (wpAny_newFunctionEnv S.nocell (by intro y hy; simp at hy) (fun h₁ hns₁ hsb₁ => ?_) S.kind)
  dsimp only at hns₁ hsb₁ ⊢
  generalize hH2 : s.heap.push { cls := .type "list", dict := none, data := .seq ([] : List Value).toArray } = H2 at hns₁ hsb₁ ⊢
  have hC : H2.objs.size = s.heap.objs.size + 1 := by rw [← hH2, Heap.size_push]
  have hDC : s.heap.objs.size ≠ H2.objs.size := by rw [hC]; exact Nat.ne_of_lt (Nat.lt_succ_self _)
  have hCle : s.heap.objs.size ≤ H2.objs.size := by rw [hC]; exact Nat.le_succ _
  have old : ∀ b o, s.heap.get? b = some o → h₁.get? b = some o := fun b o e => hsb₁.extBut b o (by rw [hC]; exact Nat.ne_of_lt (Nat.lt_succ_of_lt (Heap.lt_size e))) (Heap.get?_push_of_some _ (hH2 ▸ Heap.get?_push_of_some _ e))
  have hacc : h₁.get? s.heap.objs.size = some { cls := .type "list", data := .seq ([] : List Value).toArray 0 } := hsb₁.extBut _ _ hDC (Heap.get?_push_of_some _ (hH2 ▸ Heap.get?_push_size _ rfl))
  have st1 : tn 0 h₁ := T.keep _ _ _ st fun b hb o e => old b o e
  have loop : ∀ s₃ : Shared, s₃ = { s with heap := h₁, toks := s.toks + ([] : List (Str × Value)).length } →
      codeAny (model X.prog X.w) X.A (.compLoop (.ListComp elt [⟨tg, iter, ifs, 0⟩] scope pos) 0 (.ref it) (.ref s.heap.objs.size) (compEnvC scope cl H2.objs.size X.env))
        (RR (.ref s.heap.objs.size) H2.objs.size) s₃ := by
    rintro s₃ rfl
    generalize hX' : cxIn X scope N' H2.objs.size cl s H fp = X'
    have I0 : Inv X' [(s.heap.objs.size, { cls := .type "list", data := .seq ([] : List Value).toArray 0 })] (inSt ix σ) H { s with heap := h₁, toks := s.toks + ([] : List (Str × Value)).length } := by
      rw [← hX']
      exact I.cxIn S hCle (Nat.le_refl _) hDC hacc (fun v z => by cases z) c1 c2 hf hlt old hns₁
    have stat : ∀ {H' : Hp} {o : Obj}, (∀ b ∈ fp, H' b = none) → ∀ b ∈ fp, FpOk X' [(s.heap.objs.size, o)] H' b := fun {H' o} hn b hb => by
      rw [← hX']
      refine ⟨hn b hb, Nat.ne_of_lt (Nat.lt_of_lt_of_le (hlt b hb) hCle), fun z => ?_, .inl hb, fun y c e => (hf b hb).2.2.2.2.1 y c (c1 y c e), fun p hp z => ?_⟩
      · rcases List.mem_cons.mp (I.stkSub b z) with q | q
        · exact (hf b hb).2.1 q
        · exact (hf b hb).2.2.1 q
      · have e : p = (s.heap.objs.size, o) := by
          rcases List.mem_append.mp hp with q | q
          · cases q
          · exact List.mem_singleton.mp q
        subst e
        exact absurd (hlt b hb) (by rw [← z]; exact Nat.lt_irrefl _)
    have xP : X'.prog = X.prog := by rw [← hX']; rfl
    have xw : X'.w = X.w := by rw [← hX']; rfl
    have xK : X'.K = X.K := by rw [← hX']; rfl
    have xc : X'.calm = true := by rw [← hX']; exact hc
    have xA : X'.A = X.A := by rw [← hX']; rfl
    have xe : X'.env = compEnvC scope cl H2.objs.size X.env := by rw [← hX']; rfl
    have xx : X'.xe = fun _ _ => False := by rw [← hX']; rfl
    have xN : X'.N = N' := by rw [← hX']; rfl
    have ht' : PIfs X' ifs ti := by rw [← hX']; exact ht _ _ _ _ _
    have he' : PE X' elt te := by rw [← hX']; exact he _ _ _ _ _
    have hg' : PG X' tg g := by rw [← hX']; exact hg _ _ _ _ _ S.nd
    rw [← xA, ← xP, ← xw, ← xe]
    refine compLoop_any (fun k s' => ∃ i ys us n H', Inv X' [(s.heap.objs.size, { cls := .type "list", data := .seq (us : List Value).toArray n })] (inSt ix σ) H' s' ∧ Vals ys us ∧ ys.length ≤ sizeLine ∧ tn i s'.heap ∧ (∀ b ∈ fp, H' b = none) ∧ W i k ys H') ?_ m0
      ⟨0, [], [], 0, H, I0, .nil, Nat.zero_le _, st1, fun b hb => (hf b hb).1, w0⟩
    rintro k s3 ⟨i, ys, us, n, H3, I3, rv, hz, st3, fr3, w3⟩
    rcases turn i k ys H3 w3 with ⟨stop, qn⟩ | ⟨go, hz', N, hN, step⟩
    · rw [← xP, ← xw, ← xK] at T
      refine thn (T.done X' rfl rfl rfl xc i _ s3 (inSt ix σ) H3 _ I3 (stat fr3) st3 stop) fun r s4 ⟨hr, I4⟩ => ?_
      subst hr
      obtain ⟨m', hn', _⟩ := id I4.loc
      rw [xe] at hn'
      obtain ⟨eD, nD, _⟩ := I4.pin _ (List.mem_append_right _ List.mem_cons_self)
      have un : Un (frs X.stack) fp H H3 s.heap s4.heap := by have := I4.base; rw [← hX'] at this; exact this
      have os : s4.os = s.os := by have := I4.os; rw [← hX'] at this; exact this
      have hok : HOk X.prog X.w H3 s4.heap := by have := I4.hok; rw [xP, xw] at this; exact this
      have hCn : H3 H2.objs.size = none := by have := I4.free; rw [xe] at this; exact this
      have I5 : Inv X pins σ H3 s4 := I.call' os un hok I4.bare fun b hb => let ⟨_, a, _, c, d, e⟩ := hf b hb; ⟨c, a, d, e⟩
      have lD : Loose X pins H3 s.heap.objs.size := I.loose (Nat.le_refl _) nD
      have I6 := I5.adopt (o := .lst ys) lD.no lD.ab lD.nl lD.nc lD.np ⟨hz, us, n, rv, eD⟩
      exact hRR _ _ _ _ m' I6 hn' (I.loose hCle (by rw [upd_ne (Ne.symm hDC)]; exact hCn)) hCle (qn _ nD)
    · have T' := T
      rw [← xP, ← xw, ← xK] at T'
      refine thn (T'.item X' rfl rfl rfl xc i _ s3 (inSt ix σ) H3 _ I3 (stat fr3) st3 go) fun r s4 ⟨u, hr, h4⟩ => ?_
      subst hr
      refine thn h4 fun _ s5 ⟨v, H5, I5, r5, y5, st5, fr5⟩ => ?_
      have I5' := I5.pinned (stat fr5) (T.obj _ _ st5)
      have t5 := hg' _ s5 _ H5 v u _ I5' r5 (step v H5 y5)
      rw [xx] at t5
      refine thn t5 fun _ s6 ⟨σ6, H6, I6, ⟨kl, kw⟩, q6⟩ => ?_
      have t6 := ht' _ s6 _ H6 _ I6 q6
      rw [xx] at t6
      refine thn t6 fun ok s7 ⟨H7, I7, q7⟩ => ?_
      have weak : ∀ {H8 : Hp} {s8 : Shared}, Inv X' ([(s.heap.objs.size, { cls := .type "list", data := .seq us.toArray n })] ++ pinsAt fp s5.heap) σ6 H8 s8 →
          Inv X' ([(s.heap.objs.size, { cls := .type "list", data := .seq us.toArray n })] ++ pinsAt fp s5.heap) (inSt ix σ) H8 s8 ∧ tn (i + 1) s8.heap ∧ ∀ b ∈ fp, H8 b = none := fun {H8 s8} I8 => by
        refine ⟨I8.weak kl.symm kw, T.keep _ _ _ st5 fun b hb o e => (I8.pin (b, o) (List.mem_append_right _ (List.mem_append_right _ (mem_pinsAt hb e)))).1, fun b hb => ?_⟩
        · obtain ⟨o, e, d⟩ := T.obj _ _ st5 b hb
          exact (I8.pin (b, o) (List.mem_append_right _ (List.mem_append_right _ (mem_pinsAt hb e)))).2.1
      cases ok with
      | false =>
        have q7' : N ys H7 := q7
        obtain ⟨m', hm, w7⟩ := hN ys H7 q7'
        obtain ⟨J7, st7, fr7⟩ := weak I7
        exact ⟨m', hm, i + 1, ys, us, n, H7, J7.unpinned, rv, hz, st7, fr7, w7⟩
      | true =>
        have q7' : te σ6 H7 fun y H3 => N (ys ++ [y]) H3 := q7
        have t8 := he' _ s7 _ H7 _ I7 q7'
        rw [xx] at t8
        show wpAny _ _ _ _ _ _
        refine thn t8 fun uy s8 ⟨y, H8, I8, r8, n8⟩ => ?_
        obtain ⟨m', hm, w8⟩ := hN _ _ n8
        obtain ⟨J8, st8, fr8⟩ := weak I8
        have K8 := J8.unpinned
        obtain ⟨eD, nD, neL, nfs, _⟩ := K8.pin _ (List.mem_append_right _ List.mem_cons_self)
        have hl := rv.length
        refine call_meets F.slot_list_append ⟨_, eD, rfl⟩ F.entry_list_append (F.args_list_append_2 _ _) (PySem.list_append s.heap.objs.size us.toArray n uy (by rw [List.size_toArray]; omega)) ⟨eD, ?_⟩
        have eD2 := PySem.IsL.update eD (·.push uy)
        have dD : ∀ p ∈ X'.pn ++ [], p.1 ≠ s.heap.objs.size := fun p hp => by
          rw [← hX'] at hp
          rcases List.mem_append.mp hp with q | q <;> cases q
        have K0 : Inv X' [] (inSt ix σ) H8 s8 := K8.pins_of fun p hp => by cases hp
        have K9 := K0.turned (t' := s8.toks) (h' := s8.heap.update s.heap.objs.size (Obj.mapSeq (·.push uy))) (it := s.heap.objs.size) (fun b o hb q => (Heap.get?_update_other s8.heap _ (Ne.symm hb)).trans q) nD neL (.inr (by rw [← hX']; exact Nat.le_refl _)) (fun y' c e z => by
          rw [xe] at e
          obtain ⟨v', q⟩ := I.cell y' c (c1 y' c e)
          exact absurd q.lt (by rw [z]; exact Nat.lt_irrefl _)) dD
        refine ⟨m', hm, i + 1, ys ++ [y], us ++ [uy], (if ((us.toArray.push uy).size == us.toArray.size) = true then n else n + 1), H8, K9.pins_of fun p hp => ?_, rv.append (.cons r8 .nil), by rw [List.length_append, List.length_singleton]; omega, ?_, fr8, w8⟩
        · have e := List.mem_singleton.mp hp
          subst e
          exact ⟨by rw [show (us ++ [uy]).toArray = us.toArray.push uy by simp]; exact eD2, nD, neL, nfs, fun v z => by cases z⟩
        · exact T.keep _ _ _ st8 fun b hb o e => (Heap.get?_update_other s8.heap _ (Nat.ne_of_gt (hlt b hb))).trans e
  exact codeAny_compStart_list (loop _ rfl) (T.self X.A 0 _ _ _ st1 (loop _ rfl))
end
section
variable {X : Cx} {pins : List (Addr × Obj)} {σ : St} {H : Hp} {s : Shared} {x : Str} {px : Pos} {elt iter : Expr} {ifs : List Expr} {scope : Scope} {pos : Pos} {N' : List Str} {ix : List (Option Nat)} {j : Nat} {wi : TI} {ti : TT} {te : TE}
theorem compW_T {Q : VK} {J : It} {H : Hp} (hij : ix[j]? = some none) (h : CompW (inSt ix σ) j ti te Q J H) : CompT (inSt ix σ) (gName j) ti te Q J H := by
  obtain ⟨W, w0, turn⟩ := h
  refine ⟨W, w0, fun i m ys H w => ?_⟩
  rcases turn i m ys H w with z | ⟨go, hz, N, hN, step⟩
  · exact .inl z
  · refine .inr ⟨go, hz, N, hN, fun x H' y => ⟨⟨by simp, fun k z e => ?_⟩, step x H' y⟩⟩
    by_cases hk : j = k
    · subst hk
      exfalso
      obtain ⟨i', q1, _⟩ := inSt_get e
      rw [hij] at q1
      cases q1
    · rw [List.getElem?_set_ne hk]; exact e
theorem pg_own {C : Addr} {cl : List (Str × Addr)} {s : Shared} {H : Hp} {fp : List Addr} (nd : N'.Nodup) (hj : N'[j]? = some x) (hx : scope.names.lookup x = some .local) : PG (cxIn X scope N' C cl s H fp) (.Name x px) (gName j) :=
  pg_name nd hj (.inl (lookup_relabel_local hx)) (.inr (lookup_relabel_local hx))
theorem comp_clos (I : Inv X pins σ H s) (S : CompSc X.N X.env.scope scope N' ix) : ∃ cl, closureFor scope X.env = pure cl ∧ (∀ y c, cl.lookup y = some c → X.env.cells.lookup y = some c) ∧ ∀ y, (y, NameKind.free) ∈ scope.names → ∃ c, cl.lookup y = some c :=
  closureFor_ok fun ⟨n, k⟩ hy hk => by
    dsimp only at hk
    subst hk
    exact I.ok.has n (.inl (S.free n hy))
theorem pe_comp {N' : List Str} {ix : List (Option Nat)} (S : CompSc X.N X.env.scope scope N' ix) (hj : N'[0]? = some x) (hij : ix[0]? = some none) (hx : scope.names.lookup x = some .local) (hc : X.calm = true) (hi : PI X (.Name x px) iter wi)
    (ht : ∀ C cl s H fp, PIfs (cxIn X scope N' C cl s H fp) ifs ti) (he : ∀ C cl s H fp, PE (cxIn X scope N' C cl s H fp) elt te) (hs : ∀ x, foldedSetIterable iter X.env x = pure x) :
    PE X (.ListComp elt [⟨.Name x px, iter, ifs, 0⟩] scope pos) (tComp ix wi 0 ti te) := by
  intro pins s σ H Q I h
  rw [eval_ListComp]
  obtain ⟨cl, hcl, c1, c2⟩ := comp_clos I S
  refine wpAny_comprehension_free (use := none) rfl hs hcl S.kind S.names (thn (hi pins s σ H _ I h) fun v s1 h1 => thn h1 fun itv s2 h2 => ?_)
  obtain ⟨it, fp, tn, J, H2, e, I2, T, st2, f2, hW⟩ := h2
  subst e
  refine comp_runT (RR := fun acc C => compPost (model X.prog X.w) X.A X.xe none (EP X pins σ Q) acc C) S (fun _ _ _ _ _ nd => pg_own nd hj hx) hc ht he c1 c2 I2 T st2 f2 (compW_T hij hW) fun D C H' s' m' I' hn lo _ q => ?_
  exact ⟨m', hn, fun h' hs' => ⟨.ref D, H', I'.same lo hs' rfl, rfl, q⟩⟩
theorem ps_setComp {y : Str} {py spos : Pos} {i : Nat} {N' : List Str} {ix : List (Option Nat)} (hN : X.N.Nodup) (hi' : X.N[i]? = some y) (hy : X.env.scope.names.lookup y = some .local)
    (S : CompSc X.N X.env.scope scope N' ix) (hj : N'[0]? = some x) (hij : ix[0]? = some none) (hx : scope.names.lookup x = some .local) (hc : X.calm = true) (hi : PI X (.Name x px) iter wi)
    (ht : ∀ C cl s H fp, PIfs (cxIn X scope N' C cl s H fp) ifs ti) (he : ∀ C cl s H fp, PE (cxIn X scope N' C cl s H fp) elt te)
    (hsw : swapsWith (.ListComp elt [⟨.Name x px, iter, ifs, 0⟩] scope pos) (some (.Name y py)) spos.line X.env = pure true := by rfl) (hs : ∀ x, foldedSetIterable iter X.env x = pure x := by intro _; rfl) :
    PS X (.Assign [.Name y py] (.ListComp elt [⟨.Name x px, iter, ifs, 0⟩] scope pos) spos) (tAsg (tComp ix wi 0 ti te) (gName i)) := by
  intro pins s σ H D I h
  obtain ⟨cl, hcl, c1, c2⟩ := comp_clos I S
  rw [exec_Assign_Name_used _ _ _ _ hsw]
  refine wpAny_bind (wpAny_standAt (wpAny_bind ?_))
  show wpAny _ X.A (do let _ ← comprehension (.ListComp elt [⟨.Name x px, iter, ifs, 0⟩] scope pos) scope X.env _ (newList []) false (eval iter X.env) (some (assign (.Name y py) X.env))) _ _ s
  refine wpAny_bind (wpAny_mono (wpAny_comprehension_free (use := some (assign (.Name y py) X.env)) (Q := fun _ s' => SP X pins D .next s') rfl hs hcl S.kind S.names
    (thn (hi pins s σ H _ I h) fun v s1 h1 => thn h1 fun itv s2 h2 => ?_)) (fun _ s' hq => wpAny_pure (wpAny_pure hq)) fun _ _ e => e)
  obtain ⟨it, fp, tn, J, H2, e, I2, T, st2, f2, hW⟩ := h2
  subst e
  refine comp_runT (RR := fun acc C => compPost (model X.prog X.w) X.A X.xe (some (assign (.Name y py) X.env)) (fun _ s' => SP X pins D .next s') acc C) S (fun _ _ _ _ _ nd => pg_own nd hj hx) hc ht he c1 c2 I2 T st2 f2 (compW_T hij hW) fun D' C H' s' m' I' hn lo hC q => ?_
  show wpAny _ X.A (assign (.Name y py) X.env (.ref D')) _ _ _
  refine wpAny_assign_Name (store_ok2 (i := i) (v := .ref D') I' hN hi' (.inl hy) rfl (fun s3 I3 ⟨a, sb, ha⟩ => ?_) (.inr hy))
  have hCa : C ≠ a := by
    rcases ha with z | z
    · rw [z]; exact lo.nl
    · exact Ne.symm (lo.nc _ _ z)
  refine ⟨m', hn.sameBut sb hCa, fun h' hs' => ?_⟩
  exact ⟨_, H', I3.same lo hs' rfl, q⟩
end
theorem comp_list {K : PySem.W.Frag} {a : Addr} {xs : List V} {σ' : St} {j : Nat} {ti : TT} {te : TE} {Q : VK} {H : Hp} (Pv : Nat → List V → Hp → Prop) (h0 : Pv 0 [] H) (hl : ∀ i ys H, i ≤ xs.length → Pv i ys H → SqL K H a xs)
    (hs : ∀ i x ys H, xs[i]? = some x → Pv i ys H → ys.length < sizeLine ∧ ti (σ'.set j (some x)) H fun b H2 => if b = true then te (σ'.set j (some x)) H2 fun y H3 => Pv (i + 1) (ys ++ [y]) H3 else Pv (i + 1) ys H2)
    (hd : ∀ ys H, Pv xs.length ys H → ∀ D, H D = none → Q (.ref D) (upd H D (.lst ys))) : CompW σ' j ti te Q (Itl K a) H := by
  refine ⟨fun i m ys H => m = xs.length - i ∧ i ≤ xs.length ∧ Pv i ys H, ⟨xs.length, by simp, Nat.zero_le _, h0⟩, ?_⟩
  rintro i m ys H ⟨rfl, hi, p⟩
  have q := hl i ys H hi p
  by_cases hlt : i < xs.length
  · obtain ⟨hz, hs'⟩ := hs i xs[i] ys H (by simp [hlt]) p
    refine .inr ⟨⟨xs, xs[i], q, by simp [hlt]⟩, hz, Pv (i + 1), fun ys' H' p' => ⟨xs.length - (i + 1), by omega, rfl, hlt, p'⟩, fun x H' y => ?_⟩
    obtain ⟨e, y⟩ := y
    subst e
    have ex : x = xs[i] := by
      have := y xs q
      rw [List.getElem?_eq_getElem hlt] at this
      exact (Option.some.inj this).symm
    subst ex
    exact hs'
  · have e : i = xs.length := by omega
    subst e
    exact .inl ⟨⟨xs, q, Nat.le_refl _⟩, hd ys H p⟩
end L2
set_option Elab.async false
set_option linter.all false
set_option maxRecDepth 100000
set_option maxHeartbeats 4000000
namespace L2
open PySem PySem.Spec PyProof.Rows
section
variable {X : Cx}
def clsV : V → Option Value
  | .ty n => some (.type n)
  | .ref a => some (.ref a)
  | _ => none
theorem clsV_rel {x : V} {c u : Value} (h : clsV x = some c) (r : RelV x u) : u = c := by
  cases x <;> first | (cases h; exact r) | cases h
def rIsi (K : PySem.W.Frag) : List V → Hp → VK → Prop := fun xs H Q => ∃ x t cv c b, xs = [x, cv] ∧ clsV cv = some c ∧ TyOf K H x t ∧ PySem.W.kitOne K t c = some b ∧ Q (.bl b) H
theorem call_isi : CallR X (.builtin "isinstance") (rIsi X.K) := by
  intro pins s σ H xs us Q I r h
  obtain ⟨x, t, cv, c, b, rfl, hc, ty, e, q⟩ := h
  obtain ⟨u, w', rfl, ru, rc⟩ := vals2 r
  have ec := clsV_rel hc rc
  subst ec
  exact isinst_ok I ru ty e fun tk => ⟨.bl b, H, I.tok tk, rfl, q⟩
def rInsert : V → List V → Hp → VK → Prop := fun x vs H Q => ∃ l xs i y, x = .ref l ∧ vs = [.int i, y] ∧ H l = some (.lst xs) ∧ 0 ≤ i ∧ i ≤ (xs.length : Int) ∧ xs.length < sizeLine ∧ Q .non (upd H l (.lst (xs.take i.toNat ++ y :: xs.drop i.toNat)))
theorem mt_insert : MtM X "list.insert" rInsert := by
  intro pins s σ H x vs v us Q I rx rv h
  obtain ⟨l, xs, i, y, rfl, rfl, hH, h0, h1, hz, q⟩ := h
  cases rx
  obtain ⟨ui, u, rfl, ri, ru⟩ := rv.two
  obtain ⟨t, rfl⟩ := ri
  obtain ⟨z, its, n, r, hl, e⟩ := I.lstM hH
  have hsz : sizeLine = 16777216 := sizeLine_eq
  have hf : Builtin.List.listFitsIndex i = true := by
    unfold Builtin.List.listFitsIndex
    simp only [Bool.and_eq_true, decide_eq_true_eq]
    omega
  refine call_meets PySem.F.slot_list_insert ⟨_, e, rfl⟩ PySem.F.entry_list_insert (PySem.F.args_list_insert_3 _ _ _) (PySem.AutoSeq1.list_insert_list_int_val_1 l its.toArray n i t u (by simp [hf]) (by rw [List.size_toArray]; omega)) ⟨e, ?_⟩
  refine ⟨.non, _, I.lset (its' := its.take i.toNat ++ u :: its.drop i.toNat) hH e ?_ ((r.take _).append (.cons ru (r.drop _))) ?_, rfl, q⟩
  · have hk : (if i < 0 then (i + ((its.toArray.size : Nat) : Int)).toNat else min i.toNat its.toArray.size) = i.toNat := by
      rw [if_neg (by omega), List.size_toArray]
      omega
    dsimp only
    rw [hk]
    apply Array.ext'
    simp
    exact List.take_of_length_le (by simp)
  · simp only [List.length_append, List.length_cons, List.length_take, List.length_drop]
    omega
theorem call_sum (hc : X.calm = true) : CallR X (.builtin "sum") (fun xs H Q => ∃ (p : Addr) (ns : List Int), xs = [.ref p] ∧ SqL X.K H p (ns.map V.int) ∧ Q (.int ns.sum) H) := by
  intro pins s σ H xs us Q I r h
  obtain ⟨p, ns, rfl, hq, q⟩ := h
  obtain ⟨u, rfl, rx⟩ := vals1 r
  cases rx
  obtain ⟨its, rv, pl, hz⟩ := I.list hq
  have hi := intsAre_of rv
  obtain ⟨xs', hx⟩ := hi.allInts.items
  have hl' : s.heap.IsList p (intItems xs') := hx ▸ pl.isList
  refine sum_intListG (I.ok.hd hc) hl' fun h' tk t' hk => ?_
  have e1 : ns = xs'.toList.map (·.1) := by
    rw [← nums_intItems, ← hx]
    exact (show numsOf its.toArray.toList = ns from hi.numsOf).symm
  have e2 : preSum (numAt xs') xs'.size = ns.sum := by
    rw [preSum_eq, List.take_of_length_le (by simp), e1]
  rw [e2]
  exact ⟨.int ns.sum, H, I.kept hk, ⟨_, rfl⟩, q⟩
theorem bools_of {bs : List Bool} : ∀ {us : List Value}, Vals (bs.map V.bl) us → ∀ (i : Nat) v, us[i]? = some v → ∃ b, bs[i]? = some b ∧ v = .bool b := by
  intro us r i v e
  have hl := r.length
  have hi : i < us.length := (List.getElem?_eq_some_iff.mp e).1
  rw [List.length_map] at hl
  have hb : bs[i]? = some bs[i] := List.getElem?_eq_getElem (by omega)
  obtain ⟨u, e2, ru⟩ := r.get (i := i) (x := V.bl bs[i]) (by rw [List.getElem?_map, hb]; rfl)
  rw [e] at e2
  cases e2
  exact ⟨_, hb, ru⟩
theorem range_all_bs (bs : List Bool) : ((List.range bs.length).all fun i => (bs[i]?).getD true) = bs.all id := by
  rw [Bool.eq_iff_iff, List.all_eq_true, List.all_eq_true]
  constructor
  · intro h b hb
    obtain ⟨i, hi, rfl⟩ := List.getElem_of_mem hb
    have := h i (List.mem_range.mpr hi)
    simpa [List.getElem?_eq_getElem hi] using this
  · intro h i hi
    have hi' := List.mem_range.mp hi
    simpa [List.getElem?_eq_getElem hi'] using h _ (List.getElem_mem hi')
theorem range_any_bs (bs : List Bool) : ((List.range bs.length).any fun i => (bs[i]?).getD false) = bs.any id := by
  rw [Bool.eq_iff_iff, List.any_eq_true, List.any_eq_true]
  constructor
  · rintro ⟨i, hi, e⟩
    have hi' := List.mem_range.mp hi
    simp only [List.getElem?_eq_getElem hi', Option.getD_some] at e
    exact ⟨_, List.getElem_mem hi', e⟩
  · rintro ⟨b, hb, e⟩
    obtain ⟨i, hi, rfl⟩ := List.getElem_of_mem hb
    exact ⟨i, List.mem_range.mpr hi, by simp only [List.getElem?_eq_getElem hi, Option.getD_some]; exact e⟩
theorem iter_kept {s : Shared} {h' : Heap} {o : Obj} (hk : ∀ b x, b ∉ [s.heap.objs.size] → (s.heap.push o).get? b = some x → h'.get? b = some x) : ∀ b x, s.heap.get? b = some x → h'.get? b = some x :=
  fun b x e => hk b x (fun hm => by rw [List.mem_singleton.mp hm] at e; exact Nat.lt_irrefl _ (Heap.lt_size e)) (Heap.get?_push_of_some _ e)
theorem call_all (hc : X.calm = true) : CallR X (.builtin "all") (fun xs H Q => ∃ (p : Addr) (bs : List Bool), xs = [.ref p] ∧ SqL X.K H p (bs.map V.bl) ∧ Q (.bl (bs.all id)) H) := by
  intro pins s σ H xs us Q I r h
  obtain ⟨p, bs, rfl, hq, q⟩ := h
  obtain ⟨u, rfl, rx⟩ := vals1 r
  cases rx
  obtain ⟨its, rv, pl, hz⟩ := I.list hq
  have hl := pl.isList
  have hlt : p < s.heap.objs.size := by obtain ⟨_, e, _⟩ := hl; exact Heap.lt_size e
  have hlen : bs.length = its.length := by have := rv.length; rw [List.length_map] at this; exact this
  refine call_all_walk (wpAny_pyIter_list hl ?_)
  refine ⟨s.heap.objs.size, [s.heap.objs.size, p], [s.heap.objs.size], its.toArray.size, _, _, fun i => (bs[i]?).getD true, rfl, Walks.list (A := X.A.in1) (I.ok.hd hc) _ p (Nat.ne_of_lt hlt) its.toArray,
    ⟨⟨_, Heap.get?_push_size _ rfl, rfl, rfl⟩, hl.push _⟩, fun i v s' Q' E' hP hQ => ?_, fun h' tk hk => ?_⟩
  · obtain ⟨b, e, rfl⟩ := bools_of rv i v (by simpa using hP)
    simp only [e, Option.getD_some] at hQ
    exact wpAny_truthy_bool hQ
  · have e : ((List.range its.toArray.size).all fun i => (bs[i]?).getD true) = bs.all id := by
      rw [List.size_toArray, ← hlen]; exact range_all_bs bs
    rw [e]
    exact ⟨.bl _, H, I.kept (iter_kept hk), rfl, q⟩
theorem call_any (hc : X.calm = true) : CallR X (.builtin "any") (fun xs H Q => ∃ (p : Addr) (bs : List Bool), xs = [.ref p] ∧ SqL X.K H p (bs.map V.bl) ∧ Q (.bl (bs.any id)) H) := by
  intro pins s σ H xs us Q I r h
  obtain ⟨p, bs, rfl, hq, q⟩ := h
  obtain ⟨u, rfl, rx⟩ := vals1 r
  cases rx
  obtain ⟨its, rv, pl, hz⟩ := I.list hq
  have hl := pl.isList
  have hlt : p < s.heap.objs.size := by obtain ⟨_, e, _⟩ := hl; exact Heap.lt_size e
  have hlen : bs.length = its.length := by have := rv.length; rw [List.length_map] at this; exact this
  refine call_any_walk (wpAny_pyIter_list hl ?_)
  refine ⟨s.heap.objs.size, [s.heap.objs.size, p], [s.heap.objs.size], its.toArray.size, _, _, fun i => (bs[i]?).getD false, rfl, Walks.list (A := X.A.in1) (I.ok.hd hc) _ p (Nat.ne_of_lt hlt) its.toArray,
    ⟨⟨_, Heap.get?_push_size _ rfl, rfl, rfl⟩, hl.push _⟩, fun i v s' Q' E' hP hQ => ?_, fun h' tk hk => ?_⟩
  · obtain ⟨b, e, rfl⟩ := bools_of rv i v (by simpa using hP)
    simp only [e, Option.getD_some] at hQ
    exact wpAny_truthy_bool hQ
  · have e : ((List.range its.toArray.size).any fun i => (bs[i]?).getD false) = bs.any id := by
      rw [List.size_toArray, ← hlen]; exact range_any_bs bs
    rw [e]
    exact ⟨.bl _, H, I.kept (iter_kept hk), rfl, q⟩
def DEq (K : PySem.W.Frag) (H : Hp) : Nat → V → V → Prop
  | 0, x, y => flatV x = true ∧ flatV y = true ∧ eqV x y = true
  | n + 1, x, y => ∃ a b xs ys, x = .ref a ∧ y = .ref b ∧ SqL K H a xs ∧ SqL K H b ys ∧ xs.length = ys.length ∧ ∀ (i : Nat) u v, xs[i]? = some u → ys[i]? = some v → DEq K H n u v
theorem all_true (n : Nat) : ((List.range n).all fun _ => true) = true := by simp
theorem deq_at {pins : List (Addr × Obj)} {σ : St} {H : Hp} {s : Shared} (I : Inv X pins σ H s) : ∀ (n : Nat) (A : Around) {x y : V} {u v : Value}, A.units + n < cLine → RelV x u → RelV y v → DEq X.K H n x y → SeqAt.EqAt A s u v true
  | 0, A, x, y, u, v, _, rx, ry, ⟨h1, h2, h3⟩ => by
    have := eqAt_V (A := A) (s := s) rx ry h1 h2
    rw [h3] at this
    exact this
  | n + 1, A, x, y, u, v, hu, rx, ry, ⟨a, b, xs, ys, ex, ey, ha, hb, hl, he⟩ => by
    subst ex ey
    cases rx
    cases ry
    by_cases hab : a = b
    · subst hab
      exact SeqAt.EqAt.same _
    · obtain ⟨its, rv, pl, hz⟩ := I.list ha
      obtain ⟨its2, rv2, pl2, hz2⟩ := I.list hb
      have l1 := rv.length
      have l2 := rv2.length
      have q := SeqAt.RcAt.lists (A := A) (s := s) (e := fun _ => true) pl.isList pl2.isList (by simp only [List.size_toArray]; omega) (by omega) (fun j h1 h2 => by
        simp only [List.size_toArray] at h1 h2
        obtain ⟨w1, e1, r1⟩ := rv.get (List.getElem?_eq_getElem (l := xs) (i := j) (by omega))
        obtain ⟨w2, e2, r2⟩ := rv2.get (List.getElem?_eq_getElem (l := ys) (i := j) (by omega))
        have f1 : its.toArray[j] = w1 := by
          rw [List.getElem?_eq_getElem h1] at e1
          simpa using Option.some.inj e1
        have f2 : its2.toArray[j] = w2 := by
          rw [List.getElem?_eq_getElem h2] at e2
          simpa using Option.some.inj e2
        rw [f1, f2]
        exact deq_at I n A.in1 (by show A.units + 1 + n < cLine; omega) r1 r2 (he j _ _ (List.getElem?_eq_getElem (by omega)) (List.getElem?_eq_getElem (by omega))))
      rw [all_true] at q
      exact SeqAt.EqAt.of_refs hab q
theorem alike_items {pins : List (Addr × Obj)} {σ : St} {H : Hp} {s : Shared} (I : Inv X pins σ H s) {n : Nat} {A : Around} (hu : A.units + (n + 1) < cLine) {xs ys : List V} {its its2 : List Value} (rv : Vals xs its) (rv2 : Vals ys its2) (hl : xs.length = ys.length)
    (he : ∀ (i : Nat) u v, xs[i]? = some u → ys[i]? = some v → DEq X.K H n u v) : ∀ j (h1 : j < its.toArray.size) (h2 : j < its2.toArray.size), SeqAt.EqAt A.in1 s its.toArray[j] its2.toArray[j] true := fun j h1 h2 => by
  have l1 := rv.length
  have l2 := rv2.length
  simp only [List.size_toArray] at h1 h2
  obtain ⟨w1, e1, r1⟩ := rv.get (List.getElem?_eq_getElem (l := xs) (i := j) (by omega))
  obtain ⟨w2, e2, r2⟩ := rv2.get (List.getElem?_eq_getElem (l := ys) (i := j) (by omega))
  have f1 : its.toArray[j] = w1 := by
    rw [List.getElem?_eq_getElem h1] at e1
    simpa using Option.some.inj e1
  have f2 : its2.toArray[j] = w2 := by
    rw [List.getElem?_eq_getElem h2] at e2
    simpa using Option.some.inj e2
  rw [f1, f2]
  exact deq_at I n A.in1 (by show A.units + 1 + n < cLine; omega) r1 r2 (he j _ _ (List.getElem?_eq_getElem (by omega)) (List.getElem?_eq_getElem (by omega)))
def Itv (K : PySem.W.Frag) (a : Addr) (xs : List V) : It :=
  ⟨fun i H => i < xs.length ∧ SqL K H a xs, fun i H x H' => H' = H ∧ xs.reverse[i]? = some x, fun i _ => i = xs.length⟩
theorem turn_rev {P : Program} {w : World} {K : PySem.W.Frag} {tg : Expr} (a it : Addr) (xs : List V) : Turn P w K tg (Itv K a xs) [it] it (fun i h => h.IsRevIter it a ((xs.length : Int) - 1 - (i : Int))) where
  mem := by simp
  obj := fun i h st b hb => by
    have e : b = it := by simpa using hb
    subst e
    obtain ⟨o, e, c, d⟩ := st
    exact ⟨o, e, fun v z => by rw [d] at z; cases z⟩
  keep := fun i h h' st k => st.at fun o e => k it (by simp) o e
  item := by
    intro X hP hw hK hc i pins s σ H E I hf st hg
    subst hP hw hK
    obtain ⟨hi, hq⟩ := hg
    obtain ⟨its, rv, p, hz⟩ := I.list hq
    have hl := rv.length
    obtain ⟨u, hu, ru⟩ := rv.get (List.getElem?_eq_getElem (l := xs) (i := xs.length - 1 - i) (by omega))
    obtain ⟨f0, f1, f2, f3, f4, f5⟩ := hf it (by simp)
    have e : (xs.length : Int) - 1 - (i : Int) = ((xs.length - 1 - i : Nat) : Int) := by omega
    have st0 := st
    rw [e] at st0
    refine wpAny_pyNext_rev_item st0 p.isList (x := u) (by simpa using hu) fun h' st' sb => ?_
    have I1 : Inv X pins σ H { s with heap := h' } := I.turned (t' := s.toks) (fun b o hb e => (sb.2 b hb).trans e) f0 f1 f3 f4 f5
    have e2 : ((xs.length - 1 - i : Nat) : Int) - 1 = (xs.length : Int) - 1 - ((i + 1 : Nat) : Int) := by omega
    rw [e2] at st'
    obtain ⟨o, e, c, d⟩ := id st'
    refine ⟨u, rfl, go_of (s := { s with heap := h' }) e c d (by decide) ⟨_, H, I1, ru, ⟨rfl, ?_⟩, st', fun b hb => (hf b hb).1⟩⟩
    rw [List.getElem?_reverse hi, List.getElem?_eq_getElem (by omega)]
  done := by
    intro X hP hw hK hc i pins s σ H E I hf st hg
    subst hP hw hK
    have hg' : i = xs.length := hg
    subst hg'
    obtain ⟨f0, f1, f2, f3, f4, f5⟩ := hf it (by simp)
    have e : (xs.length : Int) - 1 - (xs.length : Int) = -1 := by omega
    have st0 := st
    rw [e] at st0
    exact wpAny_pyNext_rev_end (I.ok.hd hc) st0 fun h' eb => ⟨rfl, I.turned (t' := s.toks) (fun b o hb e => eb b o hb e) f0 f1 f3 f4 f5⟩
  self := fun _ _ _ _ _ st h => wpAny_pyIter_revIter st h
def iRev (K : PySem.W.Frag) (ta : TA) : TI := fun σ H R => ta σ H fun vs H1 => ∃ a xs, vs = [.ref a] ∧ SqL K H1 a xs ∧ R (Itv K a xs) H1
theorem pi_rev {tg a : Expr} {ta : TA} {p pos : Pos} (hg : Gl X "reversed") (hm : X.mg "reversed" = none) (ha : PA X [a] ta) (hs : starEach [a] X.env = [(false, eval a X.env)] := by rfl) : PI X tg (.Call (.Name "reversed" p) [a] [] pos) (iRev X.K ta) := by
  intro pins s σ H R I h
  refine Call_ (ld_blt I hg hm boot_reversed (PyProof.Rows.callWith_type1 (thn (ha pos pins s σ H _ I h) fun us s1 ⟨vs, H1, I1, r1, q1⟩ => ?_) hs rfl))
  obtain ⟨l, xs, e, hq, q⟩ := q1
  subst e
  obtain ⟨u, rfl, ru⟩ := vals1 r1
  cases ru
  obtain ⟨its, rv, pl, hz⟩ := I1.list hq
  have hl := rv.length
  refine call_reversed_list pl.isList ?_
  have st : (s1.heap.push (revObj l ((its.toArray.size : Int) - 1))).IsRevIter s1.heap.objs.size l ((xs.length : Int) - 1 - ((0 : Nat) : Int)) := by
    have e : (xs.length : Int) - 1 - ((0 : Nat) : Int) = (its.toArray.size : Int) - 1 := by simp only [List.size_toArray]; omega
    rw [e]
    exact ⟨_, Heap.get?_push_size _ rfl, rfl, rfl⟩
  refine wpAny_pyIter_revIter (s := { s1 with heap := s1.heap.push (revObj l ((its.toArray.size : Int) - 1)) }) st ?_
  refine ⟨s1.heap.objs.size, [s1.heap.objs.size], _, _, H1, rfl, I1.kept (t' := s1.toks) fun b o e => Heap.get?_push_of_some _ e, turn_rev l _ xs, st, fun b hb => ?_, q⟩
  have e : b = s1.heap.objs.size := by simpa using hb
  subst e
  exact I1.fpOk (Nat.le_refl _) (I1.hok.fresh (Nat.le_refl _))
end
structure Wk (J : It) (xs : List V) (H : Hp) : Prop where
  go : ∀ i H3, Same H H3 → i < xs.length → J.go i H3
  yl : ∀ i H3 x H', Same H H3 → i < xs.length → J.yld i H3 x H' → H' = H3 ∧ xs[i]? = some x
  st : ∀ H3, Same H H3 → J.stop xs.length H3
theorem wk_list {K : PySem.W.Frag} {a : Addr} {xs : List V} {H : Hp} (h : SqL K H a xs) : Wk (Itl K a) xs H where
  go := fun i H3 s hi => ⟨xs, xs[i], s.seq h, List.getElem?_eq_getElem hi⟩
  yl := fun i H3 x H' s hi y => ⟨y.1, y.2 xs (s.seq h)⟩
  st := fun H3 s => ⟨xs, s.seq h, Nat.le_refl _⟩
theorem wk_rev {K : PySem.W.Frag} {a : Addr} {xs : List V} {H : Hp} (h : SqL K H a xs) : Wk (Itv K a xs) xs.reverse H where
  go := fun i H3 s hi => ⟨by simpa using hi, s.seq h⟩
  yl := fun i H3 x H' s hi y => y
  st := fun H3 s => by show xs.reverse.length = xs.length; simp
theorem wk_range {lo : Int} {n : Nat} {H : Hp} : Wk (Itr lo n) ((List.range n).map fun (i : Nat) => V.int (lo + (i : Int))) H where
  go := fun i H3 s hi => by show i < n; simpa using hi
  yl := fun i H3 x H' s hi y => ⟨y.1, by
    have hi' : i < n := by simpa using hi
    rw [y.2, List.getElem?_map, List.getElem?_range hi']
    rfl⟩
  st := fun H3 s => by show n ≤ _; simp
theorem comp_pure {J : It} {xs ys : List V} {σ' : St} {j : Nat} {te : TE} {Q : VK} {H : Hp} (W : Wk J xs H) (hz : xs.length ≤ sizeLine) (hl : ys.length = xs.length)
    (hs : ∀ (i : Nat) x y, xs[i]? = some x → ys[i]? = some y → ∀ Q' : VK, Q' y H → te (σ'.set j (some x)) H Q') (hd : ∀ D, H D = none → Q (.ref D) (upd H D (.lst ys))) : CompW σ' j tYes te Q J H := by
  refine ⟨fun i m zs H3 => m = xs.length - i ∧ i ≤ xs.length ∧ H3 = H ∧ zs = ys.take i, ⟨xs.length, by simp, Nat.zero_le _, rfl, by simp⟩, ?_⟩
  rintro i m zs H3 ⟨rfl, hi, rfl, rfl⟩
  by_cases hlt : i < xs.length
  · refine .inr ⟨W.go i _ (Same.refl _) hlt, by rw [List.length_take]; omega, fun zs' H' => H' = H3 ∧ zs' = ys.take (i + 1), fun zs' H' p => ⟨xs.length - (i + 1), by omega, rfl, hlt, p.1, p.2⟩, fun x H' y => ?_⟩
    obtain ⟨e, ex⟩ := W.yl i _ x H' (Same.refl _) hlt y
    subst e
    unfold tYes
    dsimp only
    rw [if_pos rfl]
    have hy : ys[i]? = some (ys[i]'(by omega)) := List.getElem?_eq_getElem _
    refine hs i x _ ex hy _ ⟨rfl, ?_⟩
    rw [List.take_add_one, hy]
    rfl
  · have e : i = xs.length := by omega
    subst e
    refine .inl ⟨W.st _ (Same.refl _), ?_⟩
    rw [List.take_of_length_le (by omega)]
    exact hd
theorem comp_news {J : It} {xs : List V} {ls : List (List V)} {σ' : St} {j : Nat} {te : TE} {Q : VK} {H : Hp} (W : Wk J xs H) (hz : xs.length ≤ sizeLine) (hl : ls.length = xs.length)
    (hs : ∀ (i : Nat) x l H3, xs[i]? = some x → ls[i]? = some l → Same H H3 → ∀ Q' : VK, (∀ D, H3 D = none → Q' (.ref D) (upd H3 D (.lst l))) → te (σ'.set j (some x)) H3 Q')
    (hd : ∀ (as : List Addr) H', Same H H' → as.length = ls.length → as.Nodup → (∀ b ∈ as, H b = none) → (∀ (i : Nat) a l, as[i]? = some a → ls[i]? = some l → H' a = some (.lst l)) → ∀ D, H' D = none → Q (.ref D) (upd H' D (.lst (as.map V.ref)))) : CompW σ' j tYes te Q J H := by
  refine ⟨fun i m zs H3 => m = xs.length - i ∧ i ≤ xs.length ∧ ∃ as : List Addr, zs = as.map V.ref ∧ as.length = i ∧ Same H H3 ∧ as.Nodup ∧ (∀ b ∈ as, H b = none) ∧ (∀ b ∈ as, ∃ o, H3 b = some o) ∧ ∀ (k : Nat) a l, as[k]? = some a → ls[k]? = some l → H3 a = some (.lst l),
    ⟨xs.length, by simp, Nat.zero_le _, [], rfl, rfl, Same.refl _, List.nodup_nil, (fun _ h => by cases h), (fun _ h => by cases h), fun k a l e => by simp at e⟩, ?_⟩
  rintro i m zs H3 ⟨rfl, hi, as, rfl, hlen, sm, nd, fr, there, hrow⟩
  by_cases hlt : i < xs.length
  · refine .inr ⟨W.go i _ sm hlt, by rw [List.length_map]; omega, _, fun zs' H' p => ⟨xs.length - (i + 1), by omega, rfl, hlt, p⟩, fun x H' y => ?_⟩
    obtain ⟨e, ex⟩ := W.yl i _ x H' sm hlt y
    subst e
    unfold tYes
    dsimp only
    rw [if_pos rfl]
    have hy : ls[i]? = some (ls[i]'(by omega)) := List.getElem?_eq_getElem _
    refine hs i x _ H' ex hy sm _ fun D hD => ?_
    have nD : D ∉ as := fun z => by
      obtain ⟨o, e⟩ := there D z
      rw [hD] at e
      cases e
    refine ⟨as ++ [D], by rw [List.map_append]; rfl, by rw [List.length_append, List.length_singleton]; omega, fun b o e => ?_, ?_, fun b hb => ?_, fun b hb => ?_, fun k a l e1 e2 => ?_⟩
    · have q := sm b o e
      rw [upd_ne (ne_of_none q hD)]
      exact q
    · rw [List.nodup_append]
      refine ⟨nd, by simp, fun x hx y hy => ?_⟩
      rw [List.mem_singleton.mp hy]
      intro z
      exact nD (by rw [← z]; exact hx)
    · rcases List.mem_append.mp hb with z | z
      · exact fr b z
      · rw [List.mem_singleton.mp z]
        exact sm.free hD
    · rcases List.mem_append.mp hb with z | z
      · obtain ⟨o, e⟩ := there b z
        exact ⟨o, by rw [upd_ne (ne_of_none e hD)]; exact e⟩
      · rw [List.mem_singleton.mp z]
        exact ⟨_, upd_same⟩
    · by_cases hk : k < as.length
      · rw [List.getElem?_append_left hk] at e1
        have q := hrow k a l e1 e2
        rw [upd_ne (ne_of_none q hD)]
        exact q
      · rw [List.getElem?_append_right (by omega)] at e1
        cases q : k - as.length with
        | zero =>
          rw [q] at e1
          have ea : D = a := by simpa using e1
          subst ea
          have ek : k = i := by omega
          subst ek
          rw [hy] at e2
          cases e2
          exact upd_same
        | succ n =>
          rw [q] at e1
          simp at e1
  · have e : i = xs.length := by omega
    subst e
    exact .inl ⟨W.st _ sm, hd as H3 sm (by omega) nd fr hrow⟩
section
variable {X : Cx} {K : PySem.W.Frag}
theorem ix_listK (hK : X.K = K) : IxR X (rIxL K) := hK ▸ ix_list
theorem ix_tupK (hK : X.K = K) : IxR X (rIxT K) := hK ▸ ix_tup
theorem sl_listK (hK : X.K = K) : SlR X (rSlL K) := hK ▸ sl_list
theorem call_lenK (hK : X.K = K) : CallR X (.builtin "len") (fun xs H Q => ∃ p ys, xs = [.ref p] ∧ (SqL K H p ys ∨ SqT K H p ys) ∧ Q (.int ys.length) H) := hK ▸ call_len_seq
theorem call_listK (hK : X.K = K) : CallR X (.type "list") (fun xs H Q => ∃ p ys, xs = [.ref p] ∧ (SqL K H p ys ∨ SqT K H p ys) ∧ ∀ l, H l = none → Q (.ref l) (upd H l (.lst ys))) := hK ▸ call_list_of
theorem call_isiK (hK : X.K = K) : CallR X (.builtin "isinstance") (rIsi K) := hK ▸ call_isi
theorem call_sumK (hK : X.K = K) (hc : X.calm = true) : CallR X (.builtin "sum") (fun xs H Q => ∃ (p : Addr) (ns : List Int), xs = [.ref p] ∧ SqL K H p (ns.map V.int) ∧ Q (.int ns.sum) H) := hK ▸ call_sum hc
theorem call_allK (hK : X.K = K) (hc : X.calm = true) : CallR X (.builtin "all") (fun xs H Q => ∃ (p : Addr) (bs : List Bool), xs = [.ref p] ∧ SqL K H p (bs.map V.bl) ∧ Q (.bl (bs.all id)) H) := hK ▸ call_all hc
theorem call_anyK (hK : X.K = K) (hc : X.calm = true) : CallR X (.builtin "any") (fun xs H Q => ∃ (p : Addr) (bs : List Bool), xs = [.ref p] ∧ SqL K H p (bs.map V.bl) ∧ Q (.bl (bs.any id)) H) := hK ▸ call_any hc
theorem op_notInK (hK : X.K = K) : OpR X (compareOp .NotIn) (rIn K true) := hK ▸ op_notIn_seq
theorem pi_listK {tg l : Expr} {tl : TE} (hK : X.K = K) (hl : PE X l tl) : PI X tg l (iList K tl) := hK ▸ pi_list hl
theorem pi_revK {tg a : Expr} {ta : TA} {p pos : Pos} (hK : X.K = K) (hg : Gl X "reversed") (hm : X.mg "reversed" = none) (ha : PA X [a] ta) (hs : starEach [a] X.env = [(false, eval a X.env)] := by rfl) : PI X tg (.Call (.Name "reversed" p) [a] [] pos) (iRev K ta) := hK ▸ pi_rev hg hm ha hs
theorem pe_fldK {e : Expr} {ta : TE} {f : Str} {pos : Pos} (hK : X.K = K) (he : PE X e ta) (hb : attributeBase e f X.env (eval e X.env) = eval e X.env) : PE X (.Attribute e f pos) (tFld K ta f) := hK ▸ pe_fld he hb
theorem ps_fldK {o value : Expr} {f : Str} {pos pos' : Pos} {ta tv : TE} (hK : X.K = K) (ha : PE X o ta) (hv : PE X value tv) (hs : swapsWith value (some (.Attribute o f pos')) pos.line X.env = pure false) : PS X (.Assign [.Attribute o f pos'] value pos) (sFld K ta tv f) := hK ▸ ps_fld ha hv hs
end
end L2
set_option Elab.async false
set_option linter.all false
set_option maxRecDepth 100000
set_option maxHeartbeats 4000000
namespace L2
open PySem PySem.Spec PyProof.Rows
structure XB (P : Program) (w : World) (outer : List Env) (H : Hp) (s : Shared) (B : Heap) (H' : Hp) : Prop where
  hok : HOk P w H' B
  keep : ∀ b o, s.heap.get? b = some o → H b = none → b ∉ frs outer → B.get? b = some o
  free : ∀ b o, s.heap.get? b = some o → H b = none → H' b = none
  there : ∀ b o, s.heap.get? b = some o → b ∉ frs outer → ∃ o', B.get? b = some o'
  tups : ∀ b xs, H b = some (.tup xs) → H' b = some (.tup xs)
  frzs : ∀ b o u, H b = some (.frz o u) → H' b = some (.frz o u)
  tbls : ∀ b ps, H b = some (.tbl ps) → ∃ more, H' b = some (.tbl (ps ++ more))
def SlotsUp (outer : List Env) (H : Hp) (h h' : Heap) : Prop := ∀ b o, h.get? b = some o → H b = none → b ∈ frs outer → ∃ sl, h'.get? b = some { o with slots := sl }
theorem XB.un {P : Program} {w : World} {outer : List Env} {H H' : Hp} {s : Shared} {B h : Heap} (x : XB P w outer H s B H') (hB : B.StaysIn h) (hs : SlotsUp outer H s.heap h) (hf : ∀ b ∈ frs outer, H b = none) : Un (frs outer) [] H H' s.heap h where
  keep := fun b o e n hb _ => hB b o (x.keep b o e n hb)
  slot := fun b o e n hb _ => hs b o e n hb
  free := fun b o e n _ => x.free b o e n
  there := fun b o e _ => by
    by_cases hb : b ∈ frs outer
    · obtain ⟨sl, q⟩ := hs b o e (hf b hb) hb
      exact ⟨_, q⟩
    · obtain ⟨o', q⟩ := x.there b o e hb
      exact ⟨o', hB b o' q⟩
  tups := x.tups
  frzs := x.frzs
  tbls := x.tbls
def CX1 (P : Program) (w : World) : CXT := fun outer H s E ev s' => ∃ (e : Addr) (cls a0 : Value) (B : Heap) (H' : Hp), ev = .ref e ∧ s'.os = s.os ∧ AllBare s'.gens ∧ XB P w outer H s B H' ∧ SlotsUp outer H s.heap s'.heap ∧ Heap.FlyingW B outer e cls a0 s'.heap ∧ E cls none H'
theorem passE0 {P : Program} {w : World} {X : Cx} : Passes (CX1 P w) X E0 := fun _ _ _ _ _ _ _ ⟨_, _, _, _, _, _, _, _, _, _, _, h⟩ => h.elim
section
variable {P : Program} {w : World} {K : PySem.W.Frag} {mg : Str → Option Value} {base : Heap} {N : List Str} {qual : Str} {scope : Scope} {f : Addr} {cd : Value} {A : Around} {outer : List Env} {s₀ : Shared} {H₀ : Hp} {E : XK}
theorem passX : Passes (CX1 P w) (cxOf (CX1 P w) P w K mg base N qual scope f cd A outer s₀ H₀ E) E := by
  intro pins σ H s ev s' I h
  obtain ⟨e, cls, a0, B, H', rfl, os, bare, xb, sl, fl, q⟩ := h
  have ne : ∀ b o, s₀.heap.get? b = some o → b ≠ s₀.heap.objs.size := fun b o e => Nat.ne_of_lt (Heap.lt_size e)
  have nf : ∀ b, b ∉ frs outer → b ≠ s₀.heap.objs.size → b ∉ frs (envOfC qual scope s₀.heap.objs.size f cd :: outer) := fun b h1 h2 z => by
    rcases List.mem_cons.mp (I.stkSub b z) with y | y
    · exact h2 y
    · exact h1 y
  refine wpAny_leaves_onW I.ok.frames rfl fl fun h'' fl' up => ?_
  refine ⟨e, cls, a0, B, H', rfl, os.trans I.os, bare, ⟨xb.hok, fun b o q n hb => ?_, fun b o q n => ?_, fun b o q hb => ?_, fun b xs q => xb.tups b xs (I.base.tups b xs q), fun b o u q => xb.frzs b o u (I.base.frzs b o u q), fun b ps q => ?_⟩, fun b o q n hb => ?_, fl', q⟩
  · exact xb.keep b o (I.base.keep b o q n hb (by intro z; cases z)) (I.base.free b o q n (by intro z; cases z)) (nf b hb (ne b o q))
  · obtain ⟨o', q'⟩ := I.base.there b o q (by intro z; cases z)
    exact xb.free b o' q' (I.base.free b o q n (by intro z; cases z))
  · obtain ⟨o', q'⟩ := I.base.there b o q (by intro z; cases z)
    exact xb.there b o' q' (nf b hb (ne b o q))
  · obtain ⟨m1, q1⟩ := I.base.tbls b ps q
    obtain ⟨m2, q2⟩ := xb.tbls b _ q1
    exact ⟨m1 ++ m2, by rw [q2, Array.append_assoc]⟩
  · obtain ⟨s1, q1⟩ := I.base.slot b o q n hb (by intro z; cases z)
    obtain ⟨s2, q2⟩ := sl b _ q1 (I.base.free b o q n (by intro z; cases z)) (by
      show b ∈ frs (envOfC qual scope s₀.heap.objs.size f cd :: outer)
      exact List.mem_cons_of_mem _ hb)
    obtain ⟨_, o2, ho2, hd2⟩ := I.ok.funs.mem hb
    change s₀.heap.get? b = some o2 at ho2
    rw [q] at ho2
    cases ho2
    obtain ⟨s3, q3⟩ := up b _ q2 hd2
    exact ⟨s3, q3⟩
theorem raisesX {pins : List (Addr × Obj)} {σ : St} {H : Hp} {s : Shared} {h' : Heap} {e : Addr} {cls : Value} {vs : List Value} (I : Inv (cxOf (CX1 P w) P w K mg base N qual scope f cd A outer s₀ H₀ E) pins σ H s)
    (hx : Heap.MadeExcOf s.heap h' e cls vs) (q : E cls none H) : (cxOf (CX1 P w) P w K mg base N qual scope f cd A outer s₀ H₀ E).xe (.ref e) { s with heap := h' } := by
  have ne : ∀ b o, s₀.heap.get? b = some o → b ≠ s₀.heap.objs.size := fun b o e => Nat.ne_of_lt (Heap.lt_size e)
  have nf : ∀ b, b ∉ frs outer → b ≠ s₀.heap.objs.size → b ∉ frs (envOfC qual scope s₀.heap.objs.size f cd :: outer) := fun b h1 h2 z => by
    rcases List.mem_cons.mp (I.stkSub b z) with y | y
    · exact h2 y
    · exact h1 y
  have tk : ∀ b o, H b = some o → b ∉ frs (envOfC qual scope s₀.heap.objs.size f cd :: outer) := fun b o e z => by
    rw [I.stkFree b z] at e
    cases e
  have hin : ∀ env ∈ (envOfC qual scope s₀.heap.objs.size f cd :: outer), ∀ b, env.frame = some b → b ∈ frs (envOfC qual scope s₀.heap.objs.size f cd :: outer) := fun env he b hb => List.mem_filterMap.mpr ⟨env, he, hb⟩
  show wpAny (model P w) (A.deeper (envOfC qual scope s₀.heap.objs.size f cd)) (leaving (envOfC qual scope s₀.heap.objs.size f cd) (.ref e)) (fun _ s'' => CX1 P w outer H₀ s₀ E (.ref e) s'') (fun e' s'' => CX1 P w outer H₀ s₀ E e' s'') { s with heap := h' }
  refine wpAny_leaves_madeW (base := PySem.W.hideAll s.heap (frs (envOfC qual scope s₀.heap.objs.size f cd :: outer))) (s := { s with heap := h' }) I.ok.frames rfl (fun b o z => PySem.W.of_hideAll _ z) (PySem.W.funFrames_hide I.stack hin) hx fun h'' t fl _ _ up => ?_
  have Bget : ∀ b o, s.heap.get? b = some o → b ∉ frs (envOfC qual scope s₀.heap.objs.size f cd :: outer) → (PySem.W.hideAll s.heap (frs (envOfC qual scope s₀.heap.objs.size f cd :: outer))).get? b = some o := fun b o z hb => PySem.W.hideAll_get _ z hb
  refine ⟨e, cls, _, _, H, rfl, I.os, I.bare, ⟨fun a o z => ?_, fun b o z n hb => ?_, fun b o z n => I.base.free b o z n (by intro y; cases y), fun b o z hb => ?_, I.base.tups, I.base.frzs, I.base.tbls⟩, fun b o z n hb => ?_, fl, q⟩
  · refine (I.hok a o z).stay (fun c v hc y => Bget c v y ?_) (fun _ y => y) fun _ _ y => y
    rcases hc with y' | y'
    · rw [y']; exact tk a o z
    · exact tk c _ y'
  · exact Bget b o (I.base.keep b o z n hb (by intro y; cases y)) (nf b hb (ne b o z))
  · obtain ⟨o', z'⟩ := I.base.there b o z (by intro y; cases y)
    exact ⟨o', Bget b o' z' (nf b hb (ne b o z))⟩
  · obtain ⟨s1, q1⟩ := I.base.slot b o z n hb (by intro y; cases y)
    obtain ⟨_, o2, ho2, hd2⟩ := I.ok.funs.mem hb
    change s₀.heap.get? b = some o2 at ho2
    rw [z] at ho2
    cases ho2
    obtain ⟨s3, q3⟩ := up b _ (hx.keeps b _ q1) hd2
    exact ⟨s3, q3⟩
end
theorem own_obj {K : PySem.W.Frag} {h : Heap} {C : Addr} {bmB : List Value} {newId : String} (X : K.In h) (q : PySem.W.excIn K C bmB newId = true) :
    ∃ bm N nm qn bs hdct sn sub ab col dd k0 k1 k2 k3 k5 mN, h.get? C = some (excClassObj nm qn C N bs bm hdct sn sub ab col dd k0 k1 k2 k3 k5 newId) ∧ h.Ns N mN ∧ mN "__init__" = none ∧ OwnTail h bmB bm := by
  unfold PySem.W.excIn at q
  split at q
  · rename_i dd cd sl ho
    split at q
    · rename_i C' bm k0 k1 k2 k3 n k5 hm hs
      simp only [Bool.and_eq_true, beq_iff_eq, Bool.not_eq_true'] at q
      obtain ⟨⟨⟨⟨⟨e1, e2⟩, hdel⟩, ht⟩, hok⟩, hni⟩ := q
      subst e1 e2
      obtain ⟨nm, bs, mro, ns, qn, hd, sn, sub, ab, col, del⟩ := cd
      dsimp only at hm hdel hok hni
      subst hm hdel
      have es : sl = #[k0, k1, k2, k3, some (.builtin n), k5] := by
        obtain ⟨l⟩ := sl
        simp only at hs
        rw [hs]
      subst es
      exact ⟨bm, ns, nm, qn, bs, hd, sn, sub, ab, col, dd, k0, k1, k2, k3, k5, _, X _ _ ho, .of_isNs (PySem.W.isNs_of_in X hok), PySem.W.nsMap_none_of_in X hok hni, PySem.W.tail_of_in X ht⟩
    · cases q
  · cases q
abbrev vErr : List Value := [.type "ValueError", .type "Exception", .type "BaseException", .type "object"]
structure XCls (K : PySem.W.Frag) (C : Addr) : Prop where
  ex : PySem.W.excIn K C vErr "ValueError.__new__" = true
def Raises (X : Cx) (E : XK) : Prop := ∀ (pins : List (Addr × Obj)) (σ : St) (H : Hp) (s : Shared) (h' : Heap) (e : Addr) (cls : Value) (vs : List Value), Inv X pins σ H s → Heap.MadeExcOf s.heap h' e cls vs → E cls none H → X.xe (.ref e) { s with heap := h' }
def tRaise (C : Addr) (E : XK) (t : TA) : TS := fun _ σ H => t σ H fun vs H1 => vs.length ≤ sizeLine ∧ E (.ref C) none H1
theorem ps_raise {X : Cx} {E : XK} {x : Str} {C : Addr} {e₀ : Expr} {rest : List Expr} {t : TA} {np cpos pos : Pos} (hR : Raises X E) (hc : X.calm = true) (hg : Gl X x) (hm : X.mg x = some (.ref C)) (hC : XCls X.K C) (ha : PA X (e₀ :: rest) t)
    (hd : (x == ("__debug__" : Str)) = false := by decide) (he : starEach (e₀ :: rest) X.env = (false, eval e₀ X.env) :: starEach rest X.env := by rfl) (hpl : (backTo cpos (starEach rest X.env)).any (·.1) = false := by rfl) :
    PS X (.Raise (some (.Call (.Name x np) (e₀ :: rest) [] cpos)) none pos) (tRaise C E t) := by
  intro pins s σ H D I h
  obtain ⟨tl, N, nm, q, bs, hdct, sn, sub, ab, col, dd, k0, k1, k2, k3, k5, mN, hCo, hN, hni, T⟩ := own_obj I.mod.kin hC.ex
  refine wpAny_Raise_call_subT (C := C) (nm := nm) (q := q) (N := N) (bs := bs) (bm := tl) (hdct := hdct) (sn := sn) (sub := sub) (ab := ab) (col := col) (dd := dd) (k0 := k0) (k1 := k1) (k2 := k2) (k3 := k3) (k5 := k5)
    PySem.F.excBase_ValueError (mN := mN) (T.hasType PySem.F.excBase_ValueError.hasBase) (I.ok.hd hc) (by rw [he]; show (false || (backTo cpos (starEach rest X.env)).any (·.1)) = false; rw [hpl]; rfl) hni (ld_glob I hg hm ⟨rfl, ?_⟩ hd)
  have hA := ha cpos pins s σ H _ I h
  rw [he] at hA ⊢
  refine Calls.evalArgs_plain (thn hA fun us s2 ⟨vs, H1, I1, rv, hz, q⟩ => ?_)
  exact ⟨rfl, by rw [← rv.length]; exact hz, I1.bk _ _ hCo, hN.keeps I1.bk, T.keeps I1.bk, fun h' e hx => hR pins σ H1 s2 h' e _ _ I1 hx q⟩
def PJ (X : Cx) (parts : List Expr) (c : St → Hp → Prop) : Prop :=
  ∀ (pins : List (Addr × Obj)) (s : Shared) (σ : St) (H : Hp) (acc : Str) (Q : Str → Shared → Prop), Inv X pins σ H s → c σ H → acc.length + 20000 * parts.length ≤ 1000000 → (∀ x s', x.length ≤ 1000000 → Inv X pins σ H s' → Q x s') → Joins (model X.prog X.w) X.A X.xe (evalEach parts X.env) acc Q s
section
variable {X : Cx}
theorem pj_nil : PJ X [] (fun _ _ => True) := fun _ _ _ _ acc _ I _ hz h => h acc _ (by simp at hz; omega) I
theorem pj_str {x : Str} {j : Nat} {pos : Pos} {es : List Expr} {c : St → Hp → Prop} (hx : x.length ≤ 20000) (hr : PJ X es c) : PJ X (.Constant (.str x) j pos :: es) c := by
  intro pins s σ H acc Q I hc hz h
  simp only [List.length_cons] at hz
  show wpAny _ _ (eval (.Constant (.str x) j pos) X.env) _ _ s
  refine Calls.Constant_str ⟨x, _, rfl, ?_, hr pins _ σ H _ Q (I.tok _) hc ?_ h⟩
  · rw [strLen_append]
    have := sizeLine_eq
    omega
  · rw [strLen_append]
    omega
theorem pj_int {e : Expr} {pos : Pos} {es : List Expr} {te : TE} {c : St → Hp → Prop} (he : PE X e te) (hr : PJ X es c) : PJ X (.FormattedValue e (-1) none pos :: es) (fun σ H => te σ H fun v H1 => ∃ i : Int, v = .int i ∧ i.natAbs.log2 < 1920 ∧ H1 = H ∧ c σ H) := by
  intro pins s σ H acc Q I hc hz h
  simp only [List.length_cons] at hz
  show wpAny _ _ (eval (.FormattedValue e (-1) none pos) X.env) _ _ s
  refine wpAny_FormattedValue_plain (thn (he pins s σ H _ I hc) fun v s1 ⟨x, H1, I1, r1, i, ex, hl, eH, q⟩ => ?_)
  subst ex eH
  obtain ⟨t, rfl⟩ := r1
  have hlen : (Str.ofString (toString i)).length ≤ 20000 := by
    have e := int_text_length_le (k := 1920) (by decide) hl
    rw [PySem.ofString_length]
    omega
  refine wpAny_formatField_int hl ⟨_, _, rfl, ?_, hr pins _ σ H1 _ Q ((I1.tok _).tok _) q ?_ h⟩
  · rw [strLen_append]
    have := sizeLine_eq
    omega
  · rw [strLen_append]
    omega
def tFs (c : St → Hp → Prop) : TE := fun σ H Q => c σ H ∧ ∀ x : Str, Q (.str x) H
theorem pe_fs {v₁ v₂ : Expr} {rest : List Expr} {pos : Pos} {c : St → Hp → Prop} (h : PJ X (v₁ :: v₂ :: rest) c) (hn : (v₁ :: v₂ :: rest).length ≤ 40) : PE X (.JoinedStr (v₁ :: v₂ :: rest) pos) (tFs c) := by
  intro pins s σ H Q I ⟨hc, q⟩
  refine wpAny_JoinedStr (h pins s σ H _ _ I hc ?_ fun x s' hx I' => ⟨?_, .str x, H, I'.tok _, ⟨_, rfl⟩, q x⟩)
  · show 0 + _ ≤ _
    omega
  · have := sizeLine_eq
    omega
end
def Fl (X : Cx) (pins : List (Addr × Obj)) (σ : St) (e : Addr) (cls : Value) (H : Hp) (s : Shared) : Prop :=
  ∃ (s0 : Shared) (H0 : Hp) (B : Heap) (a0 : Value), Inv X pins σ H0 s0 ∧ s.os = s0.os ∧ AllBare s.gens ∧ XB X.prog X.w X.stack H0 s0 B H ∧ SlotsUp X.stack H0 s0.heap s.heap ∧ Heap.FlyingW B X.stack e cls a0 s.heap
section
variable {X : Cx} {pins : List (Addr × Obj)} {σ : St} {H : Hp} {s : Shared} {e : Addr} {cls : Value}
theorem Fl.inv (F : Fl X pins σ e cls H s) : Inv X pins σ H s := by
  obtain ⟨s0, H0, B, a0, I, os, bare, xb, sl, fl⟩ := F
  exact I.call' (ch := []) os (xb.un fl.1 sl I.stkFree) (xb.hok.kept fl.1) bare fun b z => by cases z
theorem Fl.there (F : Fl X pins σ e cls H s) : ∃ o, s.heap.get? e = some o ∧ o.cls = cls := by
  obtain ⟨s0, H0, B, a0, I, os, bare, xb, sl, fl⟩ := F
  exact fl.there
theorem SlotsUp.trans {outer : List Env} {H : Hp} {h h1 h2 b : Heap} (x : SlotsUp outer H h h1) (hf : h.FunFrames b outer) (up : h1.UpToSlots h2) : SlotsUp outer H h h2 := fun c o q n hc => by
  obtain ⟨s1, q1⟩ := x c o q n hc
  obtain ⟨_, o2, ho2, hd2⟩ := hf.mem hc
  rw [q] at ho2
  cases ho2
  obtain ⟨s2, q2⟩ := up c _ q1 hd2
  exact ⟨s2, q2⟩
theorem Fl.land {M : Model} {A : Around} {E : Value → Shared → Prop} {Q : Shared → Prop} (F : Fl X pins σ e cls H s) (hA : A.frames = some X.stack) (hst : X.stack = X.env :: X.outer) (hfr : X.env.frame = some X.env.locals) (h : ∀ s', Fl X pins σ e cls H s' → Q s') :
    wpAny M A (noteFrame (.ref e) X.env) (fun _ s2 => wpAny M A (setFlight (.ref e) none) (fun _ s3 => Q s3) E s2) E s := by
  obtain ⟨s0, H0, B, a0, I, os, bare, xb, sl, fl⟩ := F
  rw [hst] at fl hA
  refine wpAny_looks_onW hA hfr fl fun h4 held up4 => ?_
  refine wpAny_landsW (s := { s with heap := h4 }) held fun h5 fl5 up5 => ?_
  refine h _ ⟨s0, H0, B, a0, I, os, bare, xb, (sl.trans I.stack up4).trans I.stack up5, ?_⟩
  rw [hst]
  exact fl5
theorem Fl.again {M : Model} {A : Around} {E : Value → Shared → Prop} {Q : Unit → Shared → Prop} (F : Fl X pins σ e cls H s) (h : ∀ s', Fl X pins σ e cls H s' → Q () s') : wpAny M A (setFlight (.ref e) none) Q E s := by
  obtain ⟨s0, H0, B, a0, I, os, bare, xb, sl, fl⟩ := F
  refine lands_againW fl fun h6 fl6 up6 => ?_
  exact h _ ⟨s0, H0, B, a0, I, os, bare, xb, sl.trans I.stack up6, fl6⟩
end
def PX (X : Cx) (ex : Expr) (t : XK → TE) : Prop :=
  ∀ (xe : Value → Shared → Prop) (E : XK) (pins : List (Addr × Obj)) (s : Shared) (σ : St) (H : Hp) (Q : VK), Inv X pins σ H s → t E σ H Q → (∀ e cls H' s', Fl X pins σ e cls H' s' → E cls none H' → xe (.ref e) s') →
    wpAny (model X.prog X.w) X.A (eval ex X.env) (EP X pins σ Q) xe s
theorem PA.any {X : Cx} {es : List Expr} {t : TA} (h : PA X.nox es t) {pos : Pos} {pins : List (Addr × Obj)} {s : Shared} {σ : St} {H : Hp} {Q : List V → Hp → Prop} (I : Inv X pins σ H s) (q : t σ H Q) (xe : Value → Shared → Prop) :
    wpAny (model X.prog X.w) X.A (spliced (backTo pos (starEach es X.env))) (AP X pins σ Q) xe s :=
  wpAny_mono (h pos pins s σ H Q (I.wish _) q) (fun us s' ⟨vs, H', I', r⟩ => ⟨vs, H', I'.unwish, r⟩) fun _ _ z => z.elim
section
variable {X : Cx} {k : Nat} {f C : Addr} {fd : FuncData} {ps : List Str} {sp : Sp} {x m : Str} {p pos apos : Pos} {e o : Expr} {es : List Expr} {ta : TE} {t : TA}
theorem runX {pins : List (Addr × Obj)} {σ : St} {H : Hp} {s : Shared} {Q : VK} {us : List Value} {vs : List V} {E : XK} {xe : Value → Shared → Prop} (F : FnOk X.prog X.w X.K X.mg X.base (CX1 X.prog X.w) k f fd ps sp) (hr : Room k X.A) (hb : Binds X.K fd ps [])
    (I : Inv X pins σ H s) (r : Vals vs us) (h : sp vs H Q E) (hx : ∀ e cls H' s', Fl X pins σ e cls H' s' → E cls none H' → xe (.ref e) s') : wpAny (model X.prog X.w) X.A (call (.ref f) us) (EP X pins σ Q) xe s := by
  have hl : (us ++ []).length = ps.length := by rw [List.append_nil, ← r.length]; exact F.len _ _ _ _ h
  have hb' := hb s us I.kIn hl
  rw [List.append_nil] at hb'
  refine wpAny_call (codeAny_mono (F.run X.A X.stack s H ⟨us, []⟩ us vs Q E hr I.env0 hb' r h) fun r s' hq => ?_)
  cases r with
  | error e =>
    obtain ⟨e', cls, a0, B, H', rfl, os, bare, xb, sl, fl, q⟩ := hq
    exact hx e' cls H' s' ⟨s, H, B, a0, I, os, bare, xb, sl, fl⟩ q
  | ok fl =>
    cases fl with
    | ret u => exact I.after hq
    | next => exact False.elim hq
    | brk => exact False.elim hq
    | cont => exact False.elim hq
theorem px_call (F : FnOk X.prog X.w X.K X.mg X.base (CX1 X.prog X.w) k f fd ps sp) (hr : Room k X.A) (hg : Gl X x) (hm : X.mg x = some (.ref f)) (hk : PySem.W.keepIn X.K (.ref f) = true) (hb : Binds X.K fd ps [])
    (ha : PA X.nox (e :: es) t) (hdb : (x == ("__debug__" : Str)) = false := by decide) (he : starEach (e :: es) X.env = (false, eval e X.env) :: starEach es X.env := by rfl) (hpl : (backTo pos (starEach es X.env)).any (·.1) = false := by rfl) :
    PX X (.Call (.Name x p) (e :: es) [] pos) (fun E σ H Q => t σ H fun vs H1 => sp vs H1 Q E) := by
  intro xe E pins s σ H Q I h hx
  refine wpAny_Call_Name_kw (ld_glob I hg hm ?_ hdb)
  refine PySem.W.callWith_K (h₀ := X.base) I.ok.mod.kin hk (thn (ha.any I h xe) fun us s1 ⟨vs, H1, I1, r, q⟩ => ⟨I1.kIn, ?_⟩) he hpl
  exact runX F hr hb I1 r q hx
end
theorem match_self {M : Model} {A : Around} {E : Value → Shared → Prop} {K : PySem.W.Frag} {s : Shared} {e C : Addr} {o : Obj} {Q : Bool → Shared → Prop} (X : K.In s.heap) (hC : XCls K C) (he : s.heap.get? e = some o) (hc : o.cls = .ref C) (hq : Q true s) :
    wpAny M A (excMatches (.ref e) (.ref C)) Q E s := by
  obtain ⟨bm, N, nm, qn, bs, hdct, sn, sub, ab, col, dd, k0, k1, k2, k3, k5, mN, hCo, hN, hni, TL⟩ := own_obj X hC.ex
  obtain ⟨hp, g, d, tk, os⟩ := s
  exact wpAny_excMatches_sub_self hCo he hc (TL.hasType (by decide)) hq
theorem match_other {M : Model} {A : Around} {E : Value → Shared → Prop} {K : PySem.W.Frag} {s : Shared} {e C D : Addr} {o : Obj} {b : Bool} {Q : Bool → Shared → Prop} (X : K.In s.heap) (hD : D ≠ C) (q1 : PySem.W.kitOne K (.ref D) (.ref C) = some b)
    (q2 : PySem.W.kitOne K (.ref C) (.type "BaseException") = some true) (he : s.heap.get? e = some o) (hc : o.cls = .ref D) (hq : Q b s) : wpAny M A (excMatches (.ref e) (.ref C)) Q E s := by
  have n1 : ((Value.ref D == Value.ref C) = true) = False := by
    simp only [eq_iff_iff, iff_false]
    intro z
    exact hD (by have := eq_of_beq z; injection this)
  have n2 : ((Value.ref C == Value.type "BaseException") = true) = False := by
    simp only [eq_iff_iff, iff_false]
    intro z
    have := eq_of_beq z
    cases this
  unfold PySem.W.kitOne at q1 q2
  rw [if_neg (by rw [n1]; exact not_false)] at q1
  rw [if_neg (by rw [n2]; exact not_false)] at q2
  obtain ⟨l1, l2, l3⟩ := PySem.W.kit_cls (M := M) X q1
  obtain ⟨_, _, l4⟩ := PySem.W.kit_cls (M := M) X q2
  have kk : ∀ b o, s.heap.get? b = some o → s.heap.get? b = some o := fun _ _ z => z
  unfold excMatches isInstance isExcClass
  refine wpAny_bind (wpAny_bind (l1 _ _ _ _ kk ?_))
  refine wpAny_of_eq tc_notTuple ?_
  try simp only [Bool.false_eq_true, if_false]
  refine wpAny_bind (wpAny_pure ?_)
  simp only [List.forIn_cons, List.forIn_nil]
  refine wpAny_bind (wpAny_bind (wpAny_bind (wpAny_bind (l2 _ _ _ _ kk ?_))))
  simp only [if_true]
  refine l4 _ _ _ _ kk ?_
  simp only [Bool.not_true, Bool.false_eq_true, if_false]
  refine wpAny_pure (wpAny_pure ?_)
  refine wpAny_bind (wpAny_typeOf_ref he ?_)
  rw [hc]
  refine wpAny_bind (wpAny_bind (wpAny_bind (l3 _ _ _ _ kk ?_)))
  cases b with
  | true => exact wpAny_pure (wpAny_pure (wpAny_pure hq))
  | false => exact wpAny_pure (wpAny_pure (wpAny_pure hq))
section
variable {X : Cx} {k : Nat} {f C : Addr} {fd : FuncData} {ps : List Str} {sp : Sp} {x m : Str} {p pos apos : Pos} {e o : Expr} {es : List Expr} {ta : TE} {t : TA}
end
def XA (X : Cx) (e : Addr) : Cx := { X with A := X.A.mark (some (.ref e)), calm := false, xe := fun _ _ => False }
section
variable {X : Cx} {pins : List (Addr × Obj)} {σ : St} {H : Hp} {s : Shared}
theorem Cx.Ok.caught (ok : X.Ok) (e : Addr) : (XA X e).Ok :=
  ⟨ok.mod, ok.kind, ok.glob, ok.blt, ok.above, ok.inj, ok.has, ok.cab, (fun z => by cases z), ok.frames, ok.stk, ok.exf, ok.bs, ok.bsz, ok.noex, ok.exfs, ok.funs, ok.frf⟩
theorem Inv.caught (I : Inv X pins σ H s) (e : Addr) : Inv (XA X e) pins σ H s := ⟨I.ok.caught e, I.os, I.bare, I.base, I.loc, I.cell, I.free, I.freeC, I.pin, I.hok, I.len⟩
theorem Inv.uncaught {e : Addr} (ok : X.Ok) (I : Inv (XA X e) pins σ H s) : Inv X pins σ H s := ⟨ok, I.os, I.bare, I.base, I.loc, I.cell, I.free, I.freeC, I.pin, I.hok, I.len⟩
theorem SP.uncaught {e : Addr} {D : Ends} {f : Flow} (ok : X.Ok) (h : SP (XA X e) pins D f s) : SP X pins D f s := by
  cases f with
  | next => obtain ⟨σ', H', I, q⟩ := h; exact ⟨σ', H', I.uncaught ok, q⟩
  | brk => obtain ⟨σ', H', I, q⟩ := h; exact ⟨σ', H', I.uncaught ok, q⟩
  | cont => obtain ⟨σ', H', I, q⟩ := h; exact ⟨σ', H', I.uncaught ok, q⟩
  | ret u => obtain ⟨v, σ', H', I, r, q⟩ := h; exact ⟨v, σ', H', I.uncaught ok, r, q⟩
end
def PH (X : Cx) (hs : List ExceptHandler) (t : Value → TS) : Prop :=
  ∀ (e : Addr) (cls : Value) (pins : List (Addr × Obj)) (s : Shared) (σ : St) (H : Hp) (D : Ends), Fl X pins σ e cls H s → t cls D σ H → wpAny (model X.prog X.w) X.A (handleBy (.ref e) X.env hs) (SP X pins D) X.xe s
def tHs (K : PySem.W.Frag) (C : Addr) (tb : TS) (tr : Value → TS) : Value → TS := fun cls D σ H =>
  (cls = .ref C ∧ tb D σ H) ∨ ∃ (B : Addr) (b : Bool), cls = .ref B ∧ B ≠ C ∧ PySem.W.kitOne K (.ref B) (.ref C) = some b ∧ if b = true then tb D σ H else tr cls D σ H
section
variable {X : Cx} {x : Str} {C : Addr} {np pos : Pos} {b₀ : Stmt} {suite : List Stmt} {rest : List ExceptHandler} {tb : TS} {tr : Value → TS}
theorem ph_nil : PH X [] (fun _ _ _ _ => False) := fun _ _ _ _ _ _ _ _ h => h.elim
theorem ph_cons (hg : Gl X x) (hm : X.mg x = some (.ref C)) (hC : XCls X.K C) (hB : PySem.W.kitOne X.K (.ref C) (.type "BaseException") = some true) (hs : ∀ e, PSs (XA X e) (b₀ :: suite) tb) (hr : PH X rest tr) (hd : (x == ("__debug__" : Str)) = false := by decide) :
    PH X (.ExceptHandler (some (.Name x np)) none (b₀ :: suite) pos :: rest) (tHs X.K C tb tr) := by
  intro e cls pins s σ H D F h
  have I := F.inv
  obtain ⟨o, he, hc⟩ := F.there
  have hsuite : ∀ (R : Result → Shared → Prop), tb D σ H → (∀ f s', SP X pins D f s' → R (.ok f) s') → codeAny (model X.prog X.w) (X.A.mark (some (.ref e))) (.handlers (.ref e) [.ExceptHandler none none (b₀ :: suite) pos] X.env) R s := fun R q hR => by
    refine codeAny_handlers_suite (F.again fun s' F' => ?_)
    exact wpAny_mono (hs e pins s' σ H D (F'.inv.caught e) q) (fun f s2 z => hR f s2 (SP.uncaught I.ok z)) fun _ _ z => z.elim
  refine wpAny_handleBy_cons (codeAny_handlers_test (ld_glob (X := XA X e) (I.caught e) hg hm ?_ hd)) (by intro z; cases z)
  rcases h with ⟨ec, q⟩ | ⟨B, b, ec, nB, kB, q⟩
  · subst ec
    refine match_self I.kIn hC he hc ?_
    exact hsuite _ q fun f s' z => z
  · subst ec
    refine match_other I.kIn nB kB hB he hc ?_
    cases b with
    | true => exact hsuite _ q fun f s' z => z
    | false => exact hr e (.ref B) pins s σ H D F q
end
section
variable {X : Cx} {ex : Expr} {t : XK → TE} {th : Value → TS} {h₀ : ExceptHandler} {hs : List ExceptHandler} {p1 pos : Pos}
end
section
variable {P : Program} {w : World} {K : PySem.W.Frag} {mg : Str → Option Value} {base : Heap}
theorem Fun.okX {x qual : Str} {st : Stmt} {f : Addr} {fd : FuncData} {N ps : List Str} {k : Nat} {sp : Sp} (F : Fun K x qual st f fd) (S : FnScope N ps (defScope st)) (len : ∀ vs H Q E, sp vs H Q E → vs.length = ps.length)
    (hbody : ∀ (cdv : Value) (A : Around) (outer : List Env) (s : Shared) (H : Hp) (vs : List V) (Q : VK) (E : XK), Room k (A.deeper (envOfC qual (defScope st) s.heap.objs.size f cdv)) → sp vs H Q E →
      ∃ t, PSs (cxOf (CX1 P w) P w K mg base N qual (defScope st) f cdv A outer s H E) (defBody st) t ∧ t { nx := fun _ H' => Q .non H', rt := Q } (start N vs) H) : FnOk P w K mg base (CX1 P w) (k + 1) f fd ps sp := by
  obtain ⟨oc, od, kV, doc, pm, an, cdv, ct, osl, rfl, lk, hcd⟩ := F.ex
  exact fn_of lk hcd S len fun A outer s H vs Q E hr hsp => hbody cdv A outer s H vs Q E hr hsp
theorem raises_cx {N : List Str} {qual : Str} {scope : Scope} {f : Addr} {cd : Value} {A : Around} {outer : List Env} {s : Shared} {H : Hp} {E : XK} : Raises (cxOf (CX1 P w) P w K mg base N qual scope f cd A outer s H E) E :=
  fun _ _ _ _ _ _ _ _ I hx q => raisesX I hx q
end
theorem get_listK {X : Cx} {K : PySem.W.Frag} (hK : X.K = K) : PGet X (rIxL K) := by
  subst hK
  intro pins s σ H o i ov iv Q I ro ri h
  obtain ⟨p, xs, k, z, rfl, rfl, hq, he, q⟩ := h
  cases ro
  obtain ⟨t, rfl⟩ := ri
  obtain ⟨its, r, pl, hz⟩ := I.list hq
  obtain ⟨j, h1, h2, h3, h4, h5⟩ := atI_get he
  obtain ⟨w, ew, rw'⟩ := r.get h2
  have hl := r.length
  have hn := line63
  have fin : EP X pins σ Q w s := ⟨z, H, I, rw', q⟩
  by_cases h0 : 0 ≤ k
  · have hj : k.toNat = j := by
      rw [seqIndex_of h0 h5] at h1
      exact Option.some.inj h1
    exact wpAny_getItem_list pl.isList h0 (by omega) (by rw [hj]; simpa using ew) fin
  · have hj : (k + (its.toArray.size : Int)).toNat = j := by
      rw [seqIndex_neg (by omega) h4] at h1
      rw [List.size_toArray, ← hl]
      exact Option.some.inj h1
    exact wpAny_getItem_list_neg pl.isList (by omega) (by rw [List.size_toArray] <;> omega) (by omega) (by rw [hj]; simpa using ew) fin
section
variable {X : Cx} {K : PySem.W.Frag}
def rAlikeT (K : PySem.W.Frag) (b : Bool) : R2 := fun x y H Q => (∃ a c xs ys, x = .ref a ∧ y = .ref c ∧ SqT K H a xs ∧ SqT K H c ys ∧ xs.length = ys.length ∧ ∀ (i : Nat) u v, xs[i]? = some u → ys[i]? = some v → DEq K H 0 u v) ∧ Q (.bl b) H
end
end L2
set_option Elab.async false
set_option linter.all false
set_option maxRecDepth 100000
set_option maxHeartbeats 4000000
namespace L2
open PySem PySem.Spec PyProof.Rows
section
variable {K : PySem.W.Frag} {x qual : Str} {st : Stmt} {f : Addr} {fd : FuncData}
theorem Fun.binds1 {p0 : Str} (F : Fun K x qual st f fd) (h : ∀ (kV doc pm : Value) (an : Option Addr) (cdv ct : Value) (a0 : Value), bindArgs (PySem.W.fnOf x qual (defArgs st) (defBody st) (defScope st) .none kV doc pm an cdv ct) ⟨[a0], []⟩ = pure (List.zip [p0] [a0])) : Binds K fd [p0] [] :=
  F.binds fun kV doc pm an cdv ct us hl => match us, hl with | [a0], _ => h kV doc pm an cdv ct _
theorem Fun.binds2 {p0 p1 : Str} (F : Fun K x qual st f fd) (h : ∀ (kV doc pm : Value) (an : Option Addr) (cdv ct : Value) (a0 a1 : Value), bindArgs (PySem.W.fnOf x qual (defArgs st) (defBody st) (defScope st) .none kV doc pm an cdv ct) ⟨[a0, a1], []⟩ = pure (List.zip [p0, p1] [a0, a1])) : Binds K fd [p0, p1] [] :=
  F.binds fun kV doc pm an cdv ct us hl => match us, hl with | [a0, a1], _ => h kV doc pm an cdv ct _ _
theorem Fun.binds3 {p0 p1 p2 : Str} (F : Fun K x qual st f fd) (h : ∀ (kV doc pm : Value) (an : Option Addr) (cdv ct : Value) (a0 a1 a2 : Value), bindArgs (PySem.W.fnOf x qual (defArgs st) (defBody st) (defScope st) .none kV doc pm an cdv ct) ⟨[a0, a1, a2], []⟩ = pure (List.zip [p0, p1, p2] [a0, a1, a2])) : Binds K fd [p0, p1, p2] [] :=
  F.binds fun kV doc pm an cdv ct us hl => match us, hl with | [a0, a1, a2], _ => h kV doc pm an cdv ct _ _ _
theorem Fun.binds4 {p0 p1 p2 p3 : Str} (F : Fun K x qual st f fd) (h : ∀ (kV doc pm : Value) (an : Option Addr) (cdv ct : Value) (a0 a1 a2 a3 : Value), bindArgs (PySem.W.fnOf x qual (defArgs st) (defBody st) (defScope st) .none kV doc pm an cdv ct) ⟨[a0, a1, a2, a3], []⟩ = pure (List.zip [p0, p1, p2, p3] [a0, a1, a2, a3])) : Binds K fd [p0, p1, p2, p3] [] :=
  F.binds fun kV doc pm an cdv ct us hl => match us, hl with | [a0, a1, a2, a3], _ => h kV doc pm an cdv ct _ _ _ _
theorem Fun.binds5 {p0 p1 p2 p3 p4 : Str} (F : Fun K x qual st f fd) (h : ∀ (kV doc pm : Value) (an : Option Addr) (cdv ct : Value) (a0 a1 a2 a3 a4 : Value), bindArgs (PySem.W.fnOf x qual (defArgs st) (defBody st) (defScope st) .none kV doc pm an cdv ct) ⟨[a0, a1, a2, a3, a4], []⟩ = pure (List.zip [p0, p1, p2, p3, p4] [a0, a1, a2, a3, a4])) : Binds K fd [p0, p1, p2, p3, p4] [] :=
  F.binds fun kV doc pm an cdv ct us hl => match us, hl with | [a0, a1, a2, a3, a4], _ => h kV doc pm an cdv ct _ _ _ _ _
end
end L2
namespace Com
open PySem L2
theorem same_upd {H H1 : Hp} {b : Addr} {o : HO} (s : Same H H1) (hb : H b = none) : Same H (upd H1 b o) := fun c u e => by
  rw [upd_ne (ne_of_none e hb)]
  exact s c u e
theorem same_new {H : Hp} {b : Addr} {o : HO} (hb : H b = none) : Same H (upd H b o) := same_upd (Same.refl H) hb
theorem seq_mk {t u : TS} {D : Ends} {σ : St} {H : Hp} (R : St → Hp → Prop) (h1 : ∀ σ' H', R σ' H' → u D σ' H') (h2 : (∀ σ' H', R σ' H' → u D σ' H') → t { D with nx := u D } σ H) : tSeq t u D σ H := h2 h1
theorem seq_mk' {t u : TS} {D : Ends} {σ : St} {H : Hp} (R : St → Hp → Prop) (h1 : ∀ σ' H', R σ' H' → u D σ' H') (h2 : ∀ D' : Ends, (∀ σ' H', R σ' H' → D'.nx σ' H') → t D' σ H) : tSeq t u D σ H := h2 _ h1
theorem for_rangeN {lo : Int} {n : Nat} {g : TG} {tb : TS} {D : Ends} {σ : St} {H : Hp} (Pv : Nat → St → Hp → Prop) (h0 : Pv 0 σ H)
    (hs : ∀ i σ H, i < n → Pv i σ H → ∀ D' : Ends, (∀ σ' H', Pv (i + 1) σ' H' → D'.nx σ' H') → g (.int (lo + i)) σ H fun σ2 H2 => tb D' σ2 H2) (hd : ∀ σ H, Pv n σ H → D.nx σ H) :
    ∃ W : Nat → Nat → St → Hp → Prop, (∃ m, W 0 m σ H) ∧ ∀ i m σ H, W i m σ H →
      ((Itr lo n).stop i H ∧ D.nx σ H) ∨ ((Itr lo n).go i H ∧ ∃ N : St → Hp → Prop, (∀ σ' H', N σ' H' → ∃ m', m' < m ∧ W (i + 1) m' σ' H') ∧ ∀ x H', (Itr lo n).yld i H x H' → g x σ H' fun σ2 H2 => tb { D with nx := N, ct := N, bk := D.nx } σ2 H2) :=
  for_range Pv h0 (fun i σ H hi hp => hs i σ H hi hp _ fun _ _ z => z) hd
theorem asg_lit {v : V} {u : TS} {i : Nat} {D : Ends} {σ : St} {H : Hp} (h : u D (σ.set i (some v)) H) : tSeq (tAsg (tC v) (gName i)) u D σ H := h
def drawn (ns : List Int) (k many : Int) : Int :=
  ((if 0 < (ns.length : Int) then ns.getD (k % (ns.length : Int)).toNat 0 else 7) * (48271 + 9973 * (k % 97)) + (k + 1) * (k + 3) * 16807 + (ns.length : Int)) % 2147483647 / 16 % many
theorem drawn_nn (ns : List Int) (k : Int) {many : Int} (h : 0 < many) : 0 ≤ drawn ns k many := Int.emod_nonneg _ (by omega)
theorem drawn_lt (ns : List Int) (k : Int) {many : Int} (h : 0 < many) : drawn ns k many < many := Int.emod_lt_of_pos _ h
def RowOk (n : Nat) (r : List Int) : Prop := 1 ≤ r.length ∧ r.length ≤ 8 ∧ ∀ e ∈ r, -1 ≤ e ∧ e < (n : Int)
def Wf (rows : List (List Int)) : Prop := 1 ≤ rows.length ∧ rows.length ≤ 12 ∧ ∀ r ∈ rows, RowOk rows.length r
structure Mat (H : Hp) (R : Addr) (as : List Addr) (rows : List (List Int)) : Prop where
  hd : H R = some (.lst (as.map V.ref))
  len : as.length = rows.length
  row : ∀ (i : Nat) a r, as[i]? = some a → rows[i]? = some r → H a = some (.lst (r.map V.int))
  nd : (R :: as).Nodup
theorem Mat.same {H H' : Hp} {R : Addr} {as : List Addr} {rows : List (List Int)} (m : Mat H R as rows) (s : Same H H') : Mat H' R as rows :=
  ⟨s _ _ m.hd, m.len, fun i a r e1 e2 => s _ _ (m.row i a r e1 e2), m.nd⟩
theorem Mat.keep {H H' : Hp} {R : Addr} {as : List Addr} {rows : List (List Int)} (m : Mat H R as rows) (k : ∀ b o, b ∈ R :: as → H b = some o → H' b = some o) : Mat H' R as rows :=
  ⟨k _ _ List.mem_cons_self m.hd, m.len, fun i a r e1 e2 => k _ _ (List.mem_cons_of_mem _ (List.mem_of_getElem? e1)) (m.row i a r e1 e2), m.nd⟩
theorem Mat.upd {H : Hp} {R : Addr} {as : List Addr} {rows : List (List Int)} {b : Addr} {o : HO} (m : Mat H R as rows) (hb : b ∉ R :: as) : Mat (upd H b o) R as rows :=
  m.keep fun c u hc e => by
    rw [upd_ne (fun z => hb (by rw [← z]; exact hc))]
    exact e
theorem Mat.new {H : Hp} {R : Addr} (hR : H R = some (.lst [])) : Mat H R [] [] := ⟨hR, rfl, fun i a r e => by simp at e, by simp⟩
theorem Mat.snoc {H : Hp} {R D : Addr} {as : List Addr} {rows : List (List Int)} {r : List Int} (m : Mat H R as rows) (hD : H D = some (.lst (r.map V.int))) (nD : D ∉ R :: as) :
    Mat (L2.upd H R (.lst (as.map V.ref ++ [V.ref D]))) R (as ++ [D]) (rows ++ [r]) := by
  have hR : ∀ a ∈ as, a ≠ R := fun a ha z => by have := (List.nodup_cons.mp m.nd).1; rw [← z] at this; exact this ha
  have hDR : D ≠ R := fun z => nD (by rw [z]; exact List.mem_cons_self)
  refine ⟨by rw [upd_same, List.map_append]; rfl, by simp [m.len], fun i a r' e1 e2 => ?_, ?_⟩
  · by_cases hi : i < as.length
    · rw [List.getElem?_append_left hi] at e1
      rw [List.getElem?_append_left (by rw [← m.len]; exact hi)] at e2
      rw [upd_ne (hR a (List.mem_of_getElem? e1))]
      exact m.row i a r' e1 e2
    · rw [List.getElem?_append_right (by omega)] at e1
      rw [List.getElem?_append_right (by rw [← m.len]; omega)] at e2
      rw [m.len] at e1
      cases q : i - rows.length with
      | zero =>
        rw [q] at e1 e2
        simp at e1 e2
        subst e1 e2
        rw [upd_ne hDR]
        exact hD
      | succ n =>
        rw [q] at e1
        simp at e1
  · have h1 := m.nd
    rw [List.nodup_cons] at h1 ⊢
    refine ⟨fun z => ?_, ?_⟩
    · rcases List.mem_append.mp z with z | z
      · exact h1.1 z
      · exact hDR (List.mem_singleton.mp z).symm
    · rw [List.nodup_append]
      refine ⟨h1.2, by simp, fun x hx y hy => ?_⟩
      rw [List.mem_singleton.mp hy]
      intro z
      exact nD (by rw [← z]; exact List.mem_cons_of_mem _ hx)
theorem Mat.get {H : Hp} {R : Addr} {as : List Addr} {rows : List (List Int)} (m : Mat H R as rows) {i : Nat} (hi : i < rows.length) : ∃ a, as[i]? = some a ∧ H a = some (.lst ((rows[i]).map V.int)) ∧ a ∈ as := by
  have h : i < as.length := by rw [m.len]; exact hi
  exact ⟨as[i], List.getElem?_eq_getElem h, m.row i _ _ (List.getElem?_eq_getElem h) (List.getElem?_eq_getElem hi), List.getElem_mem h⟩
theorem Mat.refs {H : Hp} {R : Addr} {as : List Addr} {rows : List (List Int)} (m : Mat H R as rows) {i : Nat} {x : V} (e : (as.map V.ref)[i]? = some x) : ∃ a, ∃ hi : i < rows.length, x = .ref a ∧ as[i]? = some a ∧ H a = some (.lst ((rows[i]).map V.int)) ∧ a ∈ as := by
  rw [List.getElem?_map] at e
  cases q : as[i]? with
  | none => rw [q] at e; cases e
  | some a =>
    rw [q] at e
    have hi : i < rows.length := by rw [← m.len]; exact (List.getElem?_eq_some_iff.mp q).1
    refine ⟨a, hi, (Option.some.inj e).symm, rfl, m.row i a _ q (List.getElem?_eq_getElem hi), List.mem_of_getElem? q⟩
theorem Mat.set {H : Hp} {R a : Addr} {as : List Addr} {rows : List (List Int)} {i : Nat} {r : List Int} (m : Mat H R as rows) (ea : as[i]? = some a) : Mat (L2.upd H a (.lst (r.map V.int))) R as (rows.set i r) := by
  have ha := List.mem_of_getElem? ea
  have h1 := List.nodup_cons.mp m.nd
  have hR : R ≠ a := fun z => h1.1 (by rw [z]; exact ha)
  refine ⟨by rw [upd_ne hR]; exact m.hd, by simp [m.len], fun j b r' e1 e2 => ?_, m.nd⟩
  by_cases hj : i = j
  · subst hj
    rw [ea] at e1
    cases e1
    have hi : i < rows.length := by rw [← m.len]; exact (List.getElem?_eq_some_iff.mp ea).1
    rw [List.getElem?_set_self hi] at e2
    cases e2
    exact upd_same
  · have hb : b ≠ a := fun z => hj (by
      subst z
      obtain ⟨x1, y1⟩ := List.getElem?_eq_some_iff.mp ea
      obtain ⟨x2, y2⟩ := List.getElem?_eq_some_iff.mp e1
      exact (List.getElem_inj h1.2).mp (y1.trans y2.symm))
    rw [List.getElem?_set_ne hj] at e2
    rw [upd_ne hb]
    exact m.row j b r' e1 e2
theorem Mat.sq {K : PySem.W.Frag} {H : Hp} {R : Addr} {as : List Addr} {rows : List (List Int)} (m : Mat H R as rows) : SqL K H R (as.map V.ref) := SqL.of m.hd
theorem Mat.reflen {H : Hp} {R : Addr} {as : List Addr} {rows : List (List Int)} (m : Mat H R as rows) : (as.map V.ref).length = rows.length := by rw [List.length_map, m.len]
structure Brd where
  rows : List (List Int)
  turns : List Int
  loads : List Int
  steps : List Int
  taken : Int
def bflds (aR aT aL aS : Addr) (z : Int) : List (Str × V) := [("rows", .ref aR), ("turns", .ref aT), ("loads", .ref aL), ("steps", .ref aS), ("taken", .int z)]
structure BoardAt (C : Addr) (H : Hp) (p dx aR : Addr) (as : List Addr) (aT aL aS : Addr) (b : Brd) : Prop where
  ob : H p = some (.ins C dx (bflds aR aT aL aS b.taken))
  mat : Mat H aR as b.rows
  hT : H aT = some (.lst (b.turns.map V.int))
  hL : H aL = some (.lst (b.loads.map V.int))
  hS : H aS = some (.lst (b.steps.map V.int))
  nd : (p :: aT :: aL :: aS :: aR :: as).Nodup
theorem BoardAt.keep {C : Addr} {H H' : Hp} {p dx aR : Addr} {as : List Addr} {aT aL aS : Addr} {b : Brd} (B : BoardAt C H p dx aR as aT aL aS b) (k : ∀ c o, c ∈ p :: aT :: aL :: aS :: aR :: as → H c = some o → H' c = some o) : BoardAt C H' p dx aR as aT aL aS b :=
  ⟨k _ _ (by simp) B.ob, B.mat.keep fun c o hc => k c o (by simp at hc ⊢; rcases hc with h | h <;> simp [h]), k _ _ (by simp) B.hT, k _ _ (by simp) B.hL, k _ _ (by simp) B.hS, B.nd⟩
theorem BoardAt.same {C : Addr} {H H' : Hp} {p dx aR : Addr} {as : List Addr} {aT aL aS : Addr} {b : Brd} (B : BoardAt C H p dx aR as aT aL aS b) (s : Same H H') : BoardAt C H' p dx aR as aT aL aS b := B.keep fun c o _ => s c o
theorem BoardAt.upd {C : Addr} {H : Hp} {p dx aR : Addr} {as : List Addr} {aT aL aS : Addr} {b : Brd} {c : Addr} {o : HO} (B : BoardAt C H p dx aR as aT aL aS b) (hc : c ∉ p :: aT :: aL :: aS :: aR :: as) : BoardAt C (L2.upd H c o) p dx aR as aT aL aS b :=
  B.keep fun d u hd e => by
    rw [upd_ne (fun z => hc (by rw [← z]; exact hd))]
    exact e
theorem bf_rows (aR aT aL aS : Addr) (z : Int) : (bflds aR aT aL aS z).lookup ("rows" : Str) = some (.ref aR) := by rfl
theorem bf_turns (aR aT aL aS : Addr) (z : Int) : (bflds aR aT aL aS z).lookup ("turns" : Str) = some (.ref aT) := by rfl
theorem bf_loads (aR aT aL aS : Addr) (z : Int) : (bflds aR aT aL aS z).lookup ("loads" : Str) = some (.ref aL) := by rfl
theorem bf_steps (aR aT aL aS : Addr) (z : Int) : (bflds aR aT aL aS z).lookup ("steps" : Str) = some (.ref aS) := by rfl
theorem bf_taken (aR aT aL aS : Addr) (z : Int) : (bflds aR aT aL aS z).lookup ("taken" : Str) = some (.int z) := by rfl
theorem putF_new (f : Str) (v : V) : ∀ fs : List (Str × V), (∀ p ∈ fs, p.1 ≠ f) → putF f v fs = fs ++ [(f, v)]
  | [], _ => rfl
  | (g, u) :: r, h => by
    have hg : ¬ g = f := h (g, u) List.mem_cons_self
    show (if g = f then (g, v) :: r else (g, u) :: putF f v r) = _
    rw [if_neg hg, putF_new f v r fun p hp => h p (List.mem_cons_of_mem _ hp)]
    rfl
theorem bflds_mk (aR aT aL aS : Addr) : putF "taken" (.int 0) (putF "steps" (.ref aS) (putF "loads" (.ref aL) (putF "turns" (.ref aT) (putF "rows" (.ref aR) [])))) = bflds aR aT aL aS 0 := by
  have n1 : ∀ p ∈ ([("rows", .ref aR)] : List (Str × V)), p.1 ≠ ("turns" : Str) := fun p hp => by
    rw [List.mem_singleton.mp hp]; show ("rows" : Str) ≠ "turns"; decide +kernel
  have k (ks : List Str) (f : Str) (h : f ∉ ks) (fs : List (Str × V)) (e : fs.map (·.1) = ks) : ∀ p ∈ fs, p.1 ≠ f := fun p hp z => h (by rw [← e, ← z]; exact List.mem_map.mpr ⟨p, hp, rfl⟩)
  rw [show putF "rows" (.ref aR) [] = ([("rows", .ref aR)] : List (Str × V)) from rfl, putF_new "turns" _ _ n1, putF_new "loads" _ _ (k ["rows", "turns"] _ (by decide +kernel) _ rfl), putF_new "steps" _ _ (k ["rows", "turns", "loads"] _ (by decide +kernel) _ rfl), putF_new "taken" _ _ (k ["rows", "turns", "loads", "steps"] _ (by decide +kernel) _ rfl)]
  rfl
end Com
set_option Elab.async false
set_option linter.all false
set_option maxRecDepth 100000
set_option maxHeartbeats 4000000
namespace L2
open PySem PySem.Spec PyProof.Rows
section
open PySem.W PySem.Calls PySem.Builtin PySem.Builtin.ObjectAttr PySem.Builtin.Getset_descriptor
variable {prog : Program} {w : World} {A : Around} {E : Value → Shared → Prop} {s : Shared} {K : Frag} {x D : Addr} {ox : Obj}
end
section
variable {X : Cx}
end
section
variable {X : Cx} {pins : List (Addr × Obj)} {σ : St} {H : Hp} {s : Shared}
end
section
variable {X : Cx} {pins : List (Addr × Obj)} {σ : St} {H : Hp} {s : Shared} {e : Addr}
end
section
variable {X : Cx} {i : Nat} {n x : Str} {C : Addr} {np pos : Pos} {b₀ : Stmt} {suite : List Stmt} {rest : List ExceptHandler} {tb : TS} {tr : Value → TS}
end
end L2
set_option Elab.async false
set_option linter.all false
set_option maxRecDepth 100000
set_option maxHeartbeats 4000000
namespace L2
open PySem PySem.Spec PyProof.Rows
section
variable {X : Cx} {pins : List (Addr × Obj)} {σ : List (Option V)} {H : Hp} {s : Shared} {h' : Heap}
theorem Inv.turnedL {t' : Nat} {fp : List Addr} (I : Inv X pins σ H s) (k : ∀ b o, b ∉ fp → s.heap.get? b = some o → h'.get? b = some o) (hf : ∀ b ∈ fp, FpOk X pins H b) : Inv X pins σ H { s with heap := h', toks := t' } := by
  have nit : ∀ b u, H b = some u → b ∉ fp := fun b u e z => by rw [(hf b z).1] at e; cases e
  refine I.step (g' := s.gens) (d' := s.drawn) (ch := fp) (fun b hb => ?_) (fun b o _ _ hc e _ => k b o hc e) (fun b o _ _ hc e _ => ⟨o.slots, k b o hc e⟩) (fun _ _ _ _ n => n)
    (fun b o hc e => ⟨o, k b o hc e⟩) (fun _ _ e => e) (fun _ _ _ e => e) (fun b ps e => ⟨#[], by rw [e]; simp⟩) (fun m hm => ?_) (fun b u e => ?_) I.bare
  · obtain ⟨_, f1, _, f3, f4, f5⟩ := hf b hb
    exact ⟨f3, f1, f4, f5⟩
  · obtain ⟨o, es, ep, ho, r⟩ := hm
    exact ⟨o, es, ep, k _ o (fun z => (hf _ z).2.1 rfl) ho, r⟩
  · refine (I.hok b u e).stay (fun c v hc q => k c v ?_ q) (fun _ q => q) fun _ _ q => q
    rcases hc with z | z
    · rw [z]; exact nit b u e
    · exact nit c _ z
theorem Inv.track {a : Addr} {o : HO} (I : Inv X pins σ H s) (f : FpOk X pins H a) (hsz : X.s₀.heap.objs.size ≤ a) (new : ObjOk X.prog X.w (upd H a o) s.heap a o) : Inv X pins σ (upd H a o) s := by
  obtain ⟨f0, f1, f2, f3, f4, f5⟩ := f
  have ne0 : ∀ b ob, X.s₀.heap.get? b = some ob → b ≠ a := fun b ob e => Nat.ne_of_lt (Nat.lt_of_lt_of_le (Heap.lt_size e) hsz)
  refine ⟨I.ok, I.os, I.bare, ⟨I.base.keep, I.base.slot, fun b ob e n hx => by rw [upd_ne (ne0 b ob e)]; exact I.base.free b ob e n hx, I.base.there, fun b xs e => ?_, fun b ob u e => ?_, fun b ps e => ?_⟩, I.loc, I.cell, by rw [upd_ne (Ne.symm f1)]; exact I.free, fun x c e => by rw [upd_ne (f4 x c e)]; exact I.freeC x c e, fun p hp => ?_, fun b ob e => ?_, I.len⟩
  · have z := I.base.tups b xs e
    rw [upd_ne (ne_of_none z f0)]; exact z
  · have z := I.base.frzs b ob u e
    rw [upd_ne (ne_of_none z f0)]; exact z
  · obtain ⟨m, z⟩ := I.base.tbls b ps e
    exact ⟨m, by rw [upd_ne (ne_of_none z f0)]; exact z⟩
  · obtain ⟨e, n, r⟩ := I.pin p hp
    exact ⟨e, by rw [upd_ne (f5 p hp)]; exact n, r⟩
  · by_cases hb : b = a
    · subst hb
      rw [upd_same] at e
      cases e
      exact new
    · rw [upd_ne hb] at e
      exact (I.hok b ob e).stay (fun _ _ _ z => z) (fun c z => by rw [upd_ne (ne_of_none z f0)]; exact z) fun c xs z => by rw [upd_ne (ne_of_none z f0)]; exact z
end
def Ite (K : PySem.W.Frag) (a : Addr) (xs : List V) : It :=
  ⟨fun i H => i < xs.length ∧ SqL K H a xs, fun i H x H' => ∃ p y, H p = none ∧ xs[i]? = some y ∧ x = .ref p ∧ H' = upd H p (.tup [.int (i : Int), y]), fun i H => i = xs.length ∧ SqL K H a xs⟩
theorem turn_enum {P : Program} {w : World} {K : PySem.W.Frag} {elts : List Expr} {x1 : Nat} {tpos : Pos} (a e it : Addr) (xs : List V) (hei : e ≠ it) :
    Turn P w K (.Tuple elts x1 tpos) (Ite K a xs) [e, it] e (fun i h => (∃ old, IsEnum h e it ((i : Nat) : Int) old) ∧ h.IsListIter it a i) where
  mem := by simp
  obj := fun i h st b hb => by
    obtain ⟨⟨old, he⟩, o, e2, c, d⟩ := st
    simp only [List.mem_cons, List.not_mem_nil, or_false] at hb
    rcases hb with rfl | rfl
    · exact ⟨_, he, fun v z => by cases z⟩
    · exact ⟨o, e2, fun v z => by rw [d] at z; cases z⟩
  keep := fun i h h' st k => ⟨by obtain ⟨old, he⟩ := st.1; exact ⟨old, k e (by simp) _ he⟩, st.2.at fun o e2 => k it (by simp) o e2⟩
  item := by
    intro X hP hw hK hc i pins s σ H E I hf st hg
    subst hP hw hK
    obtain ⟨hi, hq⟩ := hg
    obtain ⟨⟨old, he⟩, hit⟩ := st
    obtain ⟨its, rv, p, hz⟩ := I.list hq
    have hl := rv.length
    obtain ⟨u, hu, ru⟩ := rv.get (List.getElem?_eq_getElem (l := xs) (i := i) hi)
    refine wpAny_pyNext_enum_item he hit p.isList (x := u) (by simpa using hu) hei fun h1 heo hit1 ht1 hz1 hk1 => ?_
    refine ⟨.ref s.heap.objs.size, rfl, ?_⟩
    refine wpAny_letOwnedTupleGo_enum heo fun h2 he2 hs2 => ?_
    have hes : e < s.heap.objs.size := Heap.lt_size he
    have k2 : ∀ b o, b ∉ [e, it] → s.heap.get? b = some o → h2.get? b = some o := fun b o hb q => by
      simp only [List.mem_cons, List.not_mem_nil, or_false, not_or] at hb
      exact (hs2.2 b hb.1).trans (hk1 b o hb.1 hb.2 q)
    have I1 : Inv X pins σ H { s with heap := h2, toks := s.toks + 1 } := I.turnedL (t' := s.toks + 1) k2 hf
    have fn : H s.heap.objs.size = none := I.hok.fresh (Nat.le_refl _)
    have htup : h2.get? s.heap.objs.size = some { cls := .type "tuple", data := .seq #[.int i s.toks, u] } := (hs2.2 _ (Nat.ne_of_gt hes)).trans ht1
    have I2 := I1.track (a := s.heap.objs.size) (o := .tup [.int (i : Int), xs[i]]) (I.fpOk (Nat.le_refl _) fn) I.sz (by
      refine ⟨by rw [sizeLine_eq]; show 2 ≤ _; decide, [.int i s.toks, u], .cons ⟨_, rfl⟩ (.cons ru .nil), ?_⟩
      exact ⟨_, htup, rfl, _, rfl⟩)
    refine ⟨.ref s.heap.objs.size, _, I2, rfl, ⟨s.heap.objs.size, xs[i], fn, List.getElem?_eq_getElem hi, rfl, rfl⟩, ⟨⟨u, ?_⟩, ?_⟩, fun b hb => ?_⟩
    · have : ((i + 1 : Nat) : Int) = (i : Int) + 1 := by omega
      rw [this]; exact he2
    · exact hit1.extBut hs2.extBut (Ne.symm hei)
    · have hb' := (hf b hb).1
      have : b < s.heap.objs.size := by
        simp only [List.mem_cons, List.not_mem_nil, or_false] at hb
        rcases hb with rfl | rfl
        · exact hes
        · obtain ⟨o, e2, _⟩ := hit; exact Heap.lt_size e2
      rw [upd_ne (Nat.ne_of_lt this)]; exact hb'
  done := by
    intro X hP hw hK hc i pins s σ H E I hf st hg
    subst hP hw hK
    obtain ⟨hi, hq⟩ := hg
    subst hi
    obtain ⟨⟨old, he⟩, hit⟩ := st
    obtain ⟨its, rv, p, hz⟩ := I.list hq
    have hl := rv.length
    refine wpAny_pyNext_enum_end (I.ok.hd hc) he hit p.isList (by simp; omega) fun h1 he1 => ⟨rfl, ?_⟩
    exact I.turnedL (t' := s.toks) (fp := [e, it]) (fun b o hb q => he1 b o (fun z => hb (by simp [z])) q) hf
  self := fun _ _ _ _ _ st h => by obtain ⟨⟨old, he⟩, _⟩ := st; exact wpAny_pyIter_enum he h
def iEnum (K : PySem.W.Frag) (ta : TA) : TI := fun σ H R => ta σ H fun vs H1 => ∃ a xs, vs = [.ref a] ∧ SqL K H1 a xs ∧ R (Ite K a xs) H1
section
variable {X : Cx}
theorem pi_enum {elts : List Expr} {x1 : Nat} {tpos : Pos} {a : Expr} {ta : TA} {p pos : Pos} {K : PySem.W.Frag} (hK : X.K = K) (hg : Gl X "enumerate") (hm : X.mg "enumerate" = none) (ha : PA X [a] ta) (hs : starEach [a] X.env = [(false, eval a X.env)] := by rfl) :
    PI X (.Tuple elts x1 tpos) (.Call (.Name "enumerate" p) [a] [] pos) (iEnum K ta) := by
  subst hK
  intro pins s σ H R I h
  refine Call_ (ld_blt I hg hm boot_enumerate (PyProof.Rows.callWith_type1 (thn (ha pos pins s σ H _ I h) fun us s1 ⟨vs, H1, I1, r1, q1⟩ => ?_) hs rfl))
  obtain ⟨l, xs, e, hq, q⟩ := q1
  subst e
  obtain ⟨u, rfl, ru⟩ := vals1 r1
  cases ru
  obtain ⟨its, rv, pl, hz⟩ := I1.list hq
  refine call_enumerate_list pl.isList fun h1 he hit hsz hk => ?_
  refine wpAny_pyIter_enum (s := { s1 with heap := h1 }) he ?_
  refine ⟨s1.heap.objs.size + 1, [s1.heap.objs.size + 1, s1.heap.objs.size], _, _, H1, rfl, I1.kept (t' := s1.toks) hk, turn_enum l (s1.heap.objs.size + 1) s1.heap.objs.size xs (Nat.succ_ne_self _), ⟨⟨_, he⟩, hit⟩, fun b hb => ?_, q⟩
  simp only [List.mem_cons, List.not_mem_nil, or_false] at hb
  rcases hb with rfl | rfl
  · exact I1.fpOk (Nat.le_succ _) (I1.hok.fresh (Nat.le_succ _))
  · exact I1.fpOk (Nat.le_refl _) (I1.hok.fresh (Nat.le_refl _))
end
theorem for_enumN {K : PySem.W.Frag} {a : Addr} {xs : List V} {g : TG} {tb : TS} {D : Ends} {σ : St} {H : Hp} (Pv : Nat → St → Hp → Prop) (h0 : Pv 0 σ H) (hl : ∀ i σ H, i ≤ xs.length → Pv i σ H → SqL K H a xs)
    (hs : ∀ i x σ H p, xs[i]? = some x → Pv i σ H → H p = none → ∀ D' : Ends, (∀ σ' H', Pv (i + 1) σ' H' → D'.nx σ' H') → g (.ref p) σ (upd H p (.tup [.int (i : Int), x])) fun σ2 H2 => tb D' σ2 H2) (hd : ∀ σ H, Pv xs.length σ H → D.nx σ H) :
    ∃ W : Nat → Nat → St → Hp → Prop, (∃ m, W 0 m σ H) ∧ ∀ i m σ H, W i m σ H →
      ((Ite K a xs).stop i H ∧ D.nx σ H) ∨ ((Ite K a xs).go i H ∧ ∃ N : St → Hp → Prop, (∀ σ' H', N σ' H' → ∃ m', m' < m ∧ W (i + 1) m' σ' H') ∧ ∀ x H', (Ite K a xs).yld i H x H' → g x σ H' fun σ2 H2 => tb { D with nx := N, ct := N, bk := D.nx } σ2 H2) := by
  refine ⟨fun i m σ H => m = xs.length - i ∧ i ≤ xs.length ∧ Pv i σ H, ⟨xs.length, by simp, Nat.zero_le _, h0⟩, ?_⟩
  rintro i m σ H ⟨rfl, hi, p⟩
  have q := hl i σ H hi p
  by_cases hlt : i < xs.length
  · refine .inr ⟨⟨hlt, q⟩, Pv (i + 1), fun σ' H' p' => ⟨xs.length - (i + 1), by omega, rfl, hlt, p'⟩, fun x H' y => ?_⟩
    obtain ⟨c, y, hc, ey, rfl, rfl⟩ := y
    exact hs i y σ H c ey p hc _ fun _ _ z => z
  · have e : i = xs.length := by omega
    subst e
    exact .inl ⟨⟨rfl, q⟩, hd σ H p⟩
end L2
namespace L2
open PySem PySem.Spec PyProof.Rows
section
variable {X : Cx}
end
end L2
namespace L2
open PySem PySem.Spec PyProof.Rows
end L2
set_option Elab.async false
set_option linter.all false
set_option maxRecDepth 100000
set_option maxHeartbeats 4000000
namespace Com
open PySem L2
def reachN (rows : List (List Int)) : Nat → Nat → Bool
  | 0, _ => false
  | k + 1, i => (rows.getD i []).any fun e => e == -1 || (decide (0 ≤ e) && reachN rows k e.toNat)
theorem reachN_mono (rows : List (List Int)) : ∀ (k : Nat) (i : Nat), reachN rows k i = true → reachN rows (k + 1) i = true
  | 0, i, h => by cases h
  | k + 1, i, h => by
    unfold reachN at h ⊢
    obtain ⟨e, he, q⟩ := List.any_eq_true.mp h
    refine List.any_eq_true.mpr ⟨e, he, ?_⟩
    rw [Bool.or_eq_true, Bool.and_eq_true] at q ⊢
    rcases q with q | ⟨q1, q2⟩
    · exact .inl q
    · exact .inr ⟨q1, reachN_mono rows k _ q2⟩
theorem reachN_le (rows : List (List Int)) {j k : Nat} (h : j ≤ k) {i : Nat} (q : reachN rows j i = true) : reachN rows k i = true := by
  induction h with
  | refl => exact q
  | step _ ih => exact reachN_mono rows _ i ih
def Ins (rows : List (List Int)) : Prop := ∀ r ∈ rows, ∀ e ∈ r, -1 ≤ e ∧ e < (rows.length : Int)
theorem Wf.ins {rows : List (List Int)} (W : Wf rows) : Ins rows := fun r hr => (W.2.2 r hr).2.2
theorem reachN_lt {rows : List (List Int)} {k i : Nat} (h : reachN rows k i = true) : i < rows.length := by
  cases k with
  | zero => cases h
  | succ k =>
    unfold reachN at h
    obtain ⟨e, he, _⟩ := List.any_eq_true.mp h
    by_cases hi : i < rows.length
    · exact hi
    · have e0 : rows.getD i [] = [] := by simp [List.getElem?_eq_none (by omega : rows.length ≤ i)]
      rw [e0] at he
      cases he
def Still (rows : List (List Int)) (k : Nat) : Prop := ∀ i, reachN rows (k + 1) i = true → reachN rows k i = true
theorem Still.next {rows : List (List Int)} {k : Nat} (h : Still rows k) : Still rows (k + 1) := fun i q => by
  rw [reachN] at q
  obtain ⟨e, he, q⟩ := List.any_eq_true.mp q
  rw [reachN]
  refine List.any_eq_true.mpr ⟨e, he, ?_⟩
  rw [Bool.or_eq_true, Bool.and_eq_true] at q ⊢
  rcases q with q | ⟨q1, q2⟩
  · exact .inl q
  · exact .inr ⟨q1, h _ q2⟩
theorem Still.all {rows : List (List Int)} {k : Nat} (h : Still rows k) : ∀ m, k ≤ m → ∀ i, reachN rows m i = true → reachN rows k i = true := fun m hm => by
  have hs : ∀ d, Still rows (k + d) := fun d => by
    induction d with
    | zero => exact h
    | succ d ih => exact ih.next
  induction hm with
  | refl => exact fun i q => q
  | @step m hm ih =>
    intro i q
    have e : m = k + (m - k) := by have : k ≤ m := hm; omega
    have hs' := hs (m - k)
    rw [← e] at hs'
    exact ih i (hs' i q)
def cnt (rows : List (List Int)) (k : Nat) : Nat := ((List.range rows.length).filter (reachN rows k)).length
theorem cnt_le (rows : List (List Int)) (k : Nat) : cnt rows k ≤ rows.length := by
  unfold cnt
  exact Nat.le_trans (List.length_filter_le _ _) (by simp)
theorem filter_le {p q : Nat → Bool} (h : ∀ i, p i = true → q i = true) : ∀ l : List Nat, (l.filter p).length ≤ (l.filter q).length
  | [] => Nat.le_refl _
  | a :: l => by
    have ih := filter_le h l
    rw [List.filter_cons, List.filter_cons]
    cases hp : p a with
    | true =>
      rw [h a hp, if_pos rfl, if_pos rfl, List.length_cons, List.length_cons]
      omega
    | false =>
      rw [if_neg Bool.false_ne_true]
      split
      · rw [List.length_cons]; omega
      · exact ih
theorem filter_lt {p q : Nat → Bool} (h : ∀ i, p i = true → q i = true) : ∀ (l : List Nat) (x : Nat), x ∈ l → p x = false → q x = true → (l.filter p).length < (l.filter q).length
  | a :: l, x, hx, hp, hq => by
    rw [List.filter_cons, List.filter_cons]
    rcases List.mem_cons.mp hx with rfl | hx
    · rw [hp, hq, if_neg Bool.false_ne_true, if_pos rfl, List.length_cons]
      have := filter_le h l
      omega
    · have ih := filter_lt h l x hx hp hq
      cases hpa : p a with
      | true =>
        rw [h a hpa, if_pos rfl, if_pos rfl, List.length_cons, List.length_cons]
        omega
      | false =>
        rw [if_neg Bool.false_ne_true]
        split
        · rw [List.length_cons]; omega
        · exact ih
theorem cnt_lt {rows : List (List Int)} {k i : Nat} (h1 : reachN rows (k + 1) i = true) (h0 : reachN rows k i = false) : cnt rows k < cnt rows (k + 1) :=
  filter_lt (fun j => reachN_mono rows k j) _ i (List.mem_range.mpr (reachN_lt h1)) h0 h1
theorem still_or {rows : List (List Int)} (k : Nat) : Still rows k ∨ cnt rows k < cnt rows (k + 1) := by
  by_cases h : Still rows k
  · exact .inl h
  · right
    unfold Still at h
    have : ∃ i, reachN rows (k + 1) i = true ∧ ¬ reachN rows k i = true := Classical.byContradiction fun hn => h fun i q => Classical.byContradiction fun hk => hn ⟨i, q, hk⟩
    obtain ⟨i, h1, h0⟩ := this
    exact cnt_lt h1 (by simpa using h0)
theorem still_by {rows : List (List Int)} : ∀ k, (∃ j, j ≤ k ∧ Still rows j) ∨ k < cnt rows (k + 1)
  | 0 => by
    rcases still_or (rows := rows) 0 with h | h
    · exact .inl ⟨0, Nat.le_refl _, h⟩
    · exact .inr (by omega)
  | k + 1 => by
    rcases still_by (rows := rows) k with ⟨j, hj, h⟩ | h
    · exact .inl ⟨j, by omega, h⟩
    · rcases still_or (rows := rows) (k + 1) with h' | h'
      · exact .inl ⟨k + 1, Nat.le_refl _, h'⟩
      · exact .inr (by omega)
theorem still_len (rows : List (List Int)) : Still rows rows.length := by
  rcases still_by (rows := rows) rows.length with ⟨j, hj, h⟩ | h
  · intro i q
    exact reachN_le rows hj (h.all _ (by omega) i q)
  · have := cnt_le rows (rows.length + 1)
    omega
def rch (rows : List (List Int)) (i : Nat) : Bool := reachN rows rows.length i
theorem rch_of {rows : List (List Int)} {k i : Nat} (h : reachN rows k i = true) : rch rows i = true := by
  unfold rch
  by_cases hk : k ≤ rows.length
  · exact reachN_le rows hk h
  · exact (still_len rows).all k (by omega) i h
theorem rch_step {rows : List (List Int)} {i : Nat} {e : Int} (he : e ∈ rows.getD i []) (h : e = -1 ∨ 0 ≤ e ∧ rch rows e.toNat = true) : rch rows i = true := by
  refine rch_of (k := rows.length + 1) ?_
  rw [reachN]
  refine List.any_eq_true.mpr ⟨e, he, ?_⟩
  rw [Bool.or_eq_true, Bool.and_eq_true]
  rcases h with h | ⟨h1, h2⟩
  · exact .inl (by rw [h]; rfl)
  · exact .inr ⟨decide_eq_true h1, h2⟩
def reachL (rows : List (List Int)) : List Bool := (List.range rows.length).map (rch rows)
theorem reachL_len (rows : List (List Int)) : (reachL rows).length = rows.length := by unfold reachL; simp
theorem reachL_get {rows : List (List Int)} {i : Nat} (h : i < rows.length) : (reachL rows)[i]? = some (rch rows i) := by
  unfold reachL
  rw [List.getElem?_map, List.getElem?_range h]
  rfl
end Com
set_option Elab.async false
set_option linter.all false
set_option maxRecDepth 100000
set_option maxHeartbeats 4000000
namespace Com
open PySem L2
def lastx (r : List Int) (t : Int) : Int := (atI r (t - 1)).getD 0
def lastRows (rows : List (List Int)) (ts : List Int) : List (List Int) := (List.range rows.length).map fun i => [lastx (rows.getD i []) (ts.getD i 0)]
def TurnsOk (rows : List (List Int)) (ts : List Int) : Prop := ts.length = rows.length ∧ ∀ i, i < rows.length → 0 ≤ ts.getD i 0 ∧ ts.getD i 0 < ((rows.getD i []).length : Int)
theorem lastx_mem {r : List Int} {t : Int} (h0 : 0 ≤ t) (h1 : t < (r.length : Int)) : lastx r t ∈ r := by
  unfold lastx atI ixN
  by_cases h : 0 ≤ t - 1
  · rw [if_pos h, if_pos (by omega)]
    have : (t - 1).toNat < r.length := by omega
    show (r[(t - 1).toNat]?).getD 0 ∈ r
    rw [List.getElem?_eq_getElem this]
    exact List.getElem_mem this
  · rw [if_neg h, if_pos (by omega)]
    have : (t - 1 + (r.length : Int)).toNat < r.length := by omega
    show (r[(t - 1 + (r.length : Int)).toNat]?).getD 0 ∈ r
    rw [List.getElem?_eq_getElem this]
    exact List.getElem_mem this
theorem lastRows_len (rows : List (List Int)) (ts : List Int) : (lastRows rows ts).length = rows.length := by unfold lastRows; simp
theorem lastRows_get {rows : List (List Int)} {ts : List Int} {i : Nat} (h : i < rows.length) : (lastRows rows ts).getD i [] = [lastx (rows.getD i []) (ts.getD i 0)] := by
  unfold lastRows
  rw [List.getD_eq_getElem?_getD, List.getElem?_map, List.getElem?_range h]
  rfl
theorem last_in {rows : List (List Int)} {ts : List Int} (W : Wf rows) (hT : TurnsOk rows ts) {i : Nat} (h : i < rows.length) : -1 ≤ lastx (rows.getD i []) (ts.getD i 0) ∧ lastx (rows.getD i []) (ts.getD i 0) < (rows.length : Int) := by
  obtain ⟨t0, t1⟩ := hT.2 i h
  have hm := lastx_mem t0 t1
  have e : rows.getD i [] = rows[i] := by simp [List.getElem?_eq_getElem h]
  rw [e] at hm ⊢
  exact (W.2.2 _ (List.getElem_mem h)).2.2 _ hm
theorem lastRows_ins {rows : List (List Int)} {ts : List Int} (W : Wf rows) (hT : TurnsOk rows ts) : Ins (lastRows rows ts) := fun r hr e he => by
  obtain ⟨i, hi, rfl⟩ := List.mem_map.mp hr
  rw [List.mem_singleton.mp he, lastRows_len]
  exact last_in W hT (List.mem_range.mp hi)
def goOn (rows : List (List Int)) (ts : List Int) (z : Int) : Int := if 0 ≤ z then lastx (rows.getD z.toNat []) (ts.getD z.toNat 0) else z
def walkN (rows : List (List Int)) (ts : List Int) : Nat → Int → Int
  | 0, z => z
  | k + 1, z => goOn rows ts (walkN rows ts k z)
theorem walk_in {rows : List (List Int)} {ts : List Int} : ∀ (k : Nat) (z : Int), walkN rows ts (k + 1) z = walkN rows ts k (goOn rows ts z)
  | 0, z => rfl
  | k + 1, z => by
    show goOn rows ts (walkN rows ts (k + 1) z) = goOn rows ts (walkN rows ts k (goOn rows ts z))
    rw [walk_in k z]
theorem walk_bd {rows : List (List Int)} {ts : List Int} (W : Wf rows) (hT : TurnsOk rows ts) : ∀ (k : Nat) (z : Int), -1 ≤ z → z < (rows.length : Int) → -1 ≤ walkN rows ts k z ∧ walkN rows ts k z < (rows.length : Int)
  | 0, z, h0, h1 => ⟨h0, h1⟩
  | k + 1, z, h0, h1 => by
    obtain ⟨a, b⟩ := walk_bd W hT k z h0 h1
    show -1 ≤ goOn rows ts (walkN rows ts k z) ∧ goOn rows ts (walkN rows ts k z) < (rows.length : Int)
    unfold goOn
    split
    · exact last_in W hT (by omega)
    · exact ⟨a, b⟩
theorem walk_rch {rows : List (List Int)} {ts : List Int} (W : Wf rows) (hT : TurnsOk rows ts) : ∀ (k : Nat) (z : Int), -1 ≤ z → z < (rows.length : Int) → (walkN rows ts k z < 0 ↔ z = -1 ∨ 0 ≤ z ∧ reachN (lastRows rows ts) k z.toNat = true)
  | 0, z, h0, h1 => by
    show z < 0 ↔ _
    constructor
    · intro h; exact .inl (by omega)
    · rintro (h | ⟨_, h⟩)
      · omega
      · cases h
  | k + 1, z, h0, h1 => by
    rw [walk_in]
    by_cases hz : 0 ≤ z
    · have hi : z.toNat < rows.length := by omega
      have hb := last_in W hT hi
      have eg : goOn rows ts z = lastx (rows.getD z.toNat []) (ts.getD z.toNat 0) := by unfold goOn; rw [if_pos hz]
      rw [eg, walk_rch W hT k _ hb.1 hb.2]
      constructor
      · intro h
        refine .inr ⟨hz, ?_⟩
        rw [reachN, lastRows_get hi]
        generalize lastx (rows.getD z.toNat []) (ts.getD z.toNat 0) = e at h
        rcases h with h | ⟨ha, h⟩
        · simp [h]
        · simp [ha, h]
      · rintro (h | ⟨_, h⟩)
        · omega
        · rw [reachN, lastRows_get hi] at h
          simp only [List.any_cons, List.any_nil, Bool.or_false, Bool.or_eq_true, Bool.and_eq_true, beq_iff_eq, decide_eq_true_eq] at h
          rcases h with h | ⟨ha, h⟩
          · exact .inl h
          · exact .inr ⟨ha, h⟩
    · have e : z = -1 := by omega
      subst e
      have eg : goOn rows ts (-1) = -1 := by unfold goOn; rw [if_neg (by decide)]
      rw [eg, walk_rch W hT k _ h0 h1]
      exact ⟨fun _ => .inl rfl, fun _ => .inl rfl⟩
def treeB (rows : List (List Int)) (ts : List Int) : Bool := (reachL (lastRows rows ts)).all id
theorem tree_walk {rows : List (List Int)} {ts : List Int} (W : Wf rows) (hT : TurnsOk rows ts) {i : Nat} (h : i < rows.length) : walkN rows ts rows.length (i : Int) < 0 ↔ rch (lastRows rows ts) i = true := by
  rw [walk_rch W hT _ _ (by omega) (by omega)]
  unfold rch
  rw [lastRows_len, Int.toNat_natCast]
  exact ⟨fun z => by rcases z with z | z; omega; exact z.2, fun z => .inr ⟨by omega, z⟩⟩
theorem tree_all {rows : List (List Int)} {ts : List Int} (W : Wf rows) (hT : TurnsOk rows ts) : treeB rows ts = true ↔ ∀ i, i < rows.length → walkN rows ts rows.length (i : Int) < 0 := by
  unfold treeB reachL
  rw [List.all_eq_true]
  constructor
  · intro h i hi
    rw [tree_walk W hT hi]
    exact h _ (List.mem_map.mpr ⟨i, List.mem_range.mpr (by rw [lastRows_len]; exact hi), rfl⟩)
  · intro h b hb
    obtain ⟨i, hi, rfl⟩ := List.mem_map.mp hb
    have hi' := List.mem_range.mp hi
    rw [lastRows_len] at hi'
    exact (tree_walk W hT hi').mp (h i hi')
end Com
set_option Elab.async false
set_option linter.all false
set_option maxRecDepth 100000
set_option maxHeartbeats 4000000
namespace L2
open PySem PySem.Spec PyProof.Rows
section
variable {X : Cx} {pins : List (Addr × Obj)} {σ : St} {H : Hp} {s : Shared} {tg elt iter : Expr} {g : TG} {ifs : List Expr} {scope : Scope} {pos : Pos} {N' : List Str} {ix : List (Option Nat)} {wi : TI} {ti : TT} {te : TE}
theorem pe_compT {N' : List Str} {ix : List (Option Nat)} (S : CompSc X.N X.env.scope scope N' ix) (hg : ∀ C cl s H fp, N'.Nodup → PG (cxIn X scope N' C cl s H fp) tg g) (hc : X.calm = true) (hi : PI X tg iter wi)
    (ht : ∀ C cl s H fp, PIfs (cxIn X scope N' C cl s H fp) ifs ti) (he : ∀ C cl s H fp, PE (cxIn X scope N' C cl s H fp) elt te) (hs : ∀ x, foldedSetIterable iter X.env x = pure x) :
    PE X (.ListComp elt [⟨tg, iter, ifs, 0⟩] scope pos) (tCompT ix wi g ti te) := by
  intro pins s σ H Q I h
  rw [eval_ListComp]
  obtain ⟨cl, hcl, c1, c2⟩ := comp_clos I S
  refine wpAny_comprehension_free (use := none) rfl hs hcl S.kind S.names (thn (hi pins s σ H _ I h) fun v s1 h1 => thn h1 fun itv s2 h2 => ?_)
  obtain ⟨it, fp, tn, J, H2, e, I2, T, st2, f2, hW⟩ := h2
  subst e
  refine comp_runT (RR := fun acc C => compPost (model X.prog X.w) X.A X.xe none (EP X pins σ Q) acc C) S hg hc ht he c1 c2 I2 T st2 f2 hW fun D C H' s' m' I' hn lo _ q => ?_
  exact ⟨m', hn, fun h' hs' => ⟨.ref D, H', I'.same lo hs' rfl, rfl, q⟩⟩
theorem pg_tupK {K : PySem.W.Frag} {es : List Expr} {k : Nat} {t : TGs} {n : Nat} {pos : Pos} (hK : X.K = K) (hc : X.calm = true) (h : PGs X es t)
    (hn : (assignEach es X.env).length = n := by rfl) (hst : (assignEach es X.env).findIdx? (·.1) = none := by rfl) : PG X (.Tuple es k pos) (gTup K n t) := hK ▸ pg_tup hc h hn hst
def tL (K : PySem.W.Frag) (t : TE) : TT := fun σ H Q => t σ H fun x H1 => ∃ a xs, x = .ref a ∧ SqL K H1 a xs ∧ Q (!xs.isEmpty) H1
theorem pt_lst {K : PySem.W.Frag} {e : Expr} {t : TE} (hK : X.K = K) (h : PE X e t) (he : ∀ whole, isTrue e X.env whole = (do let v ← whole; standAt e.pos; holding [v] (truthy v)) := by intro _; rfl) : PT X e (tL K t) := by
  subst hK
  intro pins s σ H Q I hw
  refine isTrue_plain (thn (h pins s σ H _ I hw) fun v s1 ⟨x, H1, I1, r1, q1⟩ => ?_) (he _)
  obtain ⟨a, xs, rfl, hq, q⟩ := q1
  cases r1
  obtain ⟨its, rv, p, hz⟩ := I1.list hq
  have hl := rv.length
  rw [sizeLine_eq] at hz
  refine wpAny_truthy_list p.isList (by simp; omega) ⟨H1, I1.kept (t' := s1.toks + 1 + 1) fun b o e => e, ?_⟩
  have e : (!its.toArray.isEmpty) = !xs.isEmpty := by
    cases xs with
    | nil =>
      have : its = [] := List.length_eq_zero_iff.mp (by simpa using hl.symm)
      rw [this]; rfl
    | cons y r =>
      cases its with
      | nil => simp at hl
      | cons z r' => simp
  rw [e]
  exact q
end
theorem comp_enumT {K : PySem.W.Frag} {a : Addr} {xs : List V} {σ' : St} {g : TG} {ti : TT} {te : TE} {Q : VK} {H : Hp} (Pv : Nat → List V → Hp → Prop) (h0 : Pv 0 [] H) (hl : ∀ i ys H, i ≤ xs.length → Pv i ys H → SqL K H a xs)
    (hs : ∀ i x ys H p, xs[i]? = some x → Pv i ys H → H p = none → g (.ref p) σ' (upd H p (.tup [.int (i : Int), x])) fun σ2 H1 => (σ2.length = σ'.length ∧ ∀ (k : Nat) z, σ'[k]? = some (some z) → σ2[k]? = some (some z)) ∧ ti σ2 H1 fun b H2 => if b = true then te σ2 H2 fun y H3 => Pv (i + 1) (ys ++ [y]) H3 else Pv (i + 1) ys H2)
    (hz : ∀ i ys H, i < xs.length → Pv i ys H → ys.length < sizeLine)
    (hd : ∀ ys H, Pv xs.length ys H → ∀ D, H D = none → Q (.ref D) (upd H D (.lst ys))) : CompT σ' g ti te Q (Ite K a xs) H := by
  refine ⟨fun i m ys H => m = xs.length - i ∧ i ≤ xs.length ∧ Pv i ys H, ⟨xs.length, by simp, Nat.zero_le _, h0⟩, ?_⟩
  rintro i m ys H ⟨rfl, hi, p⟩
  have q := hl i ys H hi p
  by_cases hlt : i < xs.length
  · refine .inr ⟨⟨hlt, q⟩, ?_⟩
    have hx : xs[i]? = some xs[i] := List.getElem?_eq_getElem hlt
    refine ⟨hz i ys H hlt p, Pv (i + 1), fun ys' H' p' => ⟨xs.length - (i + 1), by omega, rfl, hlt, p'⟩, fun x H' y => ?_⟩
    obtain ⟨c, y, hc, ey, rfl, rfl⟩ := y
    exact hs i y ys H c ey p hc
  · have e : i = xs.length := by omega
    subst e
    exact .inl ⟨⟨rfl, q⟩, hd ys H p⟩
end L2
set_option Elab.async false
set_option linter.all false
set_option maxRecDepth 100000
set_option maxHeartbeats 4000000
namespace L2
open PySem PySem.Spec PyProof.Rows
section
variable {X : Cx}
end
end L2
set_option Elab.async false
set_option linter.all false
set_option maxRecDepth 100000
set_option maxHeartbeats 4000000
namespace L2
open PySem PySem.Spec PyProof.Rows
section
variable {X : Cx}
end
section
variable {X : Cx} {tg elt iter : Expr} {g : TG} {ifs : List Expr} {scope : Scope} {pos : Pos} {wi : TI} {ti : TT} {te : TE}
end
theorem comp_inv {J : It} {xs : List V} {σ' : St} {j : Nat} {ti : TT} {te : TE} {Q : VK} {H : Hp} (W : Wk J xs H) (Pv : Nat → List V → Hp → Prop) (h0 : Pv 0 [] H) (hm : ∀ i ys H3, Pv i ys H3 → Same H H3)
    (hs : ∀ i x ys H3, xs[i]? = some x → Pv i ys H3 → ti (σ'.set j (some x)) H3 fun b H4 => if b = true then te (σ'.set j (some x)) H4 fun y H5 => Pv (i + 1) (ys ++ [y]) H5 else Pv (i + 1) ys H4)
    (hz : ∀ i ys H3, i < xs.length → Pv i ys H3 → ys.length < sizeLine)
    (hd : ∀ ys H3, Pv xs.length ys H3 → ∀ D, H3 D = none → Q (.ref D) (upd H3 D (.lst ys))) : CompW σ' j ti te Q J H := by
  refine ⟨fun i m zs H3 => m = xs.length - i ∧ i ≤ xs.length ∧ Pv i zs H3, ⟨xs.length, by simp, Nat.zero_le _, h0⟩, ?_⟩
  rintro i m zs H3 ⟨rfl, hi, p⟩
  have s3 := hm i zs H3 p
  by_cases hlt : i < xs.length
  · refine .inr ⟨W.go i _ s3 hlt, hz i zs H3 hlt p, Pv (i + 1), fun zs' H' p' => ⟨xs.length - (i + 1), by omega, rfl, hlt, p'⟩, fun x H' y => ?_⟩
    obtain ⟨e, ex⟩ := W.yl i _ x H' s3 hlt y
    subst e
    exact hs i x zs H' ex p
  · have e : i = xs.length := by omega
    subst e
    exact .inl ⟨W.st _ s3, fun D hD => hd zs H3 p D hD⟩
end L2
set_option Elab.async false
set_option linter.all false
set_option maxRecDepth 100000
set_option maxHeartbeats 4000000
namespace L2
open PySem PySem.Spec PyProof.Rows
section
variable {X : Cx} {pins : List (Addr × Obj)} {σ : St} {H H' : Hp} {s : Shared}
end
section
variable {X : Cx} {pins : List (Addr × Obj)} {σ : St} {H : Hp} {s : Shared} {tg elt iter : Expr} {g : TG} {ifs : List Expr} {scope : Scope} {pos : Pos} {N' : List Str} {ix : List (Option Nat)} {wi : TI} {ti : TT} {te : TE}
end
end L2
set_option Elab.async false
set_option linter.all false
set_option maxRecDepth 100000
set_option maxHeartbeats 4000000
namespace L2
open PySem PySem.Spec PyProof.Rows
section
variable {X : Cx} {K : PySem.W.Frag}
end
end L2
set_option Elab.async false
set_option linter.all false
set_option maxRecDepth 100000
set_option maxHeartbeats 4000000
namespace Com
theorem gD_set_self {α : Type} {l : List α} {i : Nat} {v d : α} (h : i < l.length) : (l.set i v).getD i d = v := by
  simp [List.getD_eq_getElem?_getD, List.getElem?_set, h]
theorem gD_set_ne {α : Type} {l : List α} {i j : Nat} {v d : α} (h : i ≠ j) : (l.set i v).getD j d = l.getD j d := by
  simp [List.getD_eq_getElem?_getD, List.getElem?_set_ne h]
theorem gD_mem {α : Type} {l : List α} {i : Nat} {d : α} (h : i < l.length) : l.getD i d ∈ l := by
  rw [List.getD_eq_getElem?_getD, List.getElem?_eq_getElem h]
  exact List.getElem_mem h
theorem sum_set : ∀ {l : List Int} {i : Nat} {v : Int}, i < l.length → (l.set i v).sum = l.sum - l.getD i 0 + v
  | [], _, _, h => absurd h (by simp)
  | x :: r, 0, v, _ => by
    simp only [List.set_cons_zero, List.sum_cons, List.getD_cons_zero]
    omega
  | x :: r, i + 1, v, h => by
    have ih := sum_set (l := r) (i := i) (v := v) (by simpa using h)
    simp only [List.set_cons_succ, List.sum_cons, List.getD_cons_succ]
    omega
def sumTo : Nat → (Nat → Int) → Int
  | 0, _ => 0
  | n + 1, g => sumTo n g + g n
theorem sumTo_congr : ∀ {n : Nat} {g g' : Nat → Int}, (∀ i, i < n → g i = g' i) → sumTo n g = sumTo n g'
  | 0, _, _, _ => rfl
  | n + 1, g, g', h => by
    show sumTo n g + g n = sumTo n g' + g' n
    rw [sumTo_congr (n := n) fun i hi => h i (by omega), h n (by omega)]
theorem sumTo_one : ∀ {n s : Nat} {g g' : Nat → Int}, s < n → (∀ i, i < n → i ≠ s → g' i = g i) → sumTo n g' = sumTo n g - g s + g' s
  | 0, _, _, _, h, _ => absurd h (by omega)
  | n + 1, s, g, g', hs, h => by
    show sumTo n g' + g' n = sumTo n g + g n - g s + g' s
    by_cases e : s = n
    · subst e
      rw [sumTo_congr (n := s) (g := g') (g' := g) fun i hi => h i (by omega) (by omega)]
      omega
    · rw [sumTo_one (n := n) (s := s) (g := g) (g' := g') (by omega) fun i hi => h i (by omega), h n (by omega) (by omega)]
      omega
theorem sumTo_le : ∀ {n : Nat} {g g' : Nat → Int}, (∀ i, i < n → g i ≤ g' i) → sumTo n g ≤ sumTo n g'
  | 0, _, _, _ => Int.le_refl _
  | n + 1, g, g', h => by
    show sumTo n g + g n ≤ sumTo n g' + g' n
    have := sumTo_le (n := n) (g := g) (g' := g') fun i hi => h i (by omega)
    have := h n (by omega)
    omega
theorem sumTo_const (c : Int) : ∀ n : Nat, sumTo n (fun _ => c) = n * c
  | 0 => by simp [sumTo]
  | n + 1 => by
    show sumTo n (fun _ => c) + c = _
    rw [sumTo_const c n, show ((n + 1 : Nat) : Int) = (n : Int) + 1 by omega, Int.add_mul]
    omega
theorem sumTo_list : ∀ (l : List Int), sumTo l.length (fun i => l.getD i 0) = l.sum := by
  have key : ∀ (l : List Int) (k : Nat), k ≤ l.length → sumTo k (fun i => l.getD i 0) = (l.take k).sum := by
    intro l k
    induction k with
    | zero => intro _; simp [sumTo]
    | succ k ih =>
      intro h
      show sumTo k (fun i => l.getD i 0) + l.getD k 0 = _
      rw [ih (by omega), List.take_add_one, List.sum_append, List.getElem?_eq_getElem (show k < l.length by omega), List.getD_eq_getElem?_getD, List.getElem?_eq_getElem (show k < l.length by omega)]
      simp
  intro l
  rw [key l l.length (Nat.le_refl _), List.take_length]
def exitOf (rows : List (List Int)) (ts : List Int) (s : Nat) : Int := (rows.getD s []).getD (ts.getD s 0).toNat 0
def moveL (ls : List Int) (s : Nat) (g : Int) : List Int :=
  if g = -1 then ls.set s (ls.getD s 0 - 1) else (ls.set s (ls.getD s 0 - 1)).set g.toNat ((ls.set s (ls.getD s 0 - 1)).getD g.toNat 0 + 1)
def moveT (z g : Int) : Int := if g = -1 then z + 1 else z
def nextT (rows : List (List Int)) (ts : List Int) (s : Nat) : List Int := ts.set s ((ts.getD s 0 + 1) % ((rows.getD s []).length : Int))
def stepB (b : Brd) (s : Nat) : Brd := ⟨b.rows, nextT b.rows b.turns s, moveL b.loads s (exitOf b.rows b.turns s), b.steps.set s (b.steps.getD s 0 + 1), moveT b.taken (exitOf b.rows b.turns s)⟩
structure BrdOk (b : Brd) : Prop where
  W : Wf b.rows
  T : TurnsOk b.rows b.turns
  L : b.loads.length = b.rows.length
  S : b.steps.length = b.rows.length
  P : ∀ i, 0 ≤ b.loads.getD i 0
theorem le100 {n : Nat} (h : n ≤ 12) : n ≤ 100 := Nat.le_trans h (by decide)
theorem BrdOk.b1 {b : Brd} (O : BrdOk b) : b.rows.length ≤ 100 := le100 O.W.2.1
theorem BrdOk.b2 {b : Brd} (O : BrdOk b) : ∀ r ∈ b.rows, r.length ≤ 100 := fun r hr => Nat.le_trans (O.W.2.2 r hr).2.1 (by decide)
theorem BrdOk.b3 {b : Brd} (O : BrdOk b) : b.turns.length ≤ 100 := by rw [O.T.1]; exact O.b1
theorem BrdOk.b4 {b : Brd} (O : BrdOk b) : b.loads.length ≤ 100 := by rw [O.L]; exact O.b1
theorem BrdOk.b5 {b : Brd} (O : BrdOk b) : b.steps.length ≤ 100 := by rw [O.S]; exact O.b1
theorem exit_in {rows : List (List Int)} {ts : List Int} (W : Wf rows) (T : TurnsOk rows ts) {s : Nat} (h : s < rows.length) : -1 ≤ exitOf rows ts s ∧ exitOf rows ts s < (rows.length : Int) := by
  obtain ⟨t0, t1⟩ := T.2 s h
  have hm : exitOf rows ts s ∈ rows.getD s [] := gD_mem (by omega)
  exact (W.2.2 _ (gD_mem h)).2.2 _ hm
theorem row_len {rows : List (List Int)} (W : Wf rows) {s : Nat} (h : s < rows.length) : 1 ≤ (rows.getD s []).length ∧ (rows.getD s []).length ≤ 8 := ⟨(W.2.2 _ (gD_mem h)).1, (W.2.2 _ (gD_mem h)).2.1⟩
theorem moveL_len (ls : List Int) (s : Nat) (g : Int) : (moveL ls s g).length = ls.length := by
  unfold moveL
  split <;> simp
theorem moveL_nn {ls : List Int} {s : Nat} {g : Int} (h : ∀ i, 0 ≤ ls.getD i 0) (hs : 1 ≤ ls.getD s 0) : ∀ i, 0 ≤ (moveL ls s g).getD i 0 := by
  have h1 : ∀ i, 0 ≤ (ls.set s (ls.getD s 0 - 1)).getD i 0 := fun i => by
    by_cases e : s = i
    · subst e
      by_cases hl : s < ls.length
      · rw [gD_set_self hl]; omega
      · rw [List.set_eq_of_length_le (by omega)]; exact h s
    · rw [gD_set_ne e]; exact h i
  intro i
  unfold moveL
  split
  · exact h1 i
  · by_cases e : g.toNat = i
    · subst e
      by_cases hl : g.toNat < (ls.set s (ls.getD s 0 - 1)).length
      · rw [gD_set_self hl]; have := h1 g.toNat; omega
      · rw [List.set_eq_of_length_le (by omega)]; exact h1 _
    · rw [gD_set_ne e]; exact h1 i
theorem nextT_ok {rows : List (List Int)} {ts : List Int} (W : Wf rows) (T : TurnsOk rows ts) {s : Nat} (h : s < rows.length) : TurnsOk rows (nextT rows ts s) := by
  refine ⟨by unfold nextT; rw [List.length_set]; exact T.1, fun i hi => ?_⟩
  unfold nextT
  by_cases e : s = i
  · subst e
    rw [gD_set_self (by rw [T.1]; exact h)]
    have := (row_len W h).1
    exact ⟨Int.emod_nonneg _ (by omega), Int.emod_lt_of_pos _ (by omega)⟩
  · rw [gD_set_ne e]
    exact T.2 i hi
theorem BrdOk.step {b : Brd} (O : BrdOk b) {s : Nat} (h : s < b.rows.length) (hs : 1 ≤ b.loads.getD s 0) : BrdOk (stepB b s) :=
  ⟨O.W, nextT_ok O.W O.T h, by show (moveL _ _ _).length = _; rw [moveL_len]; exact O.L, by show (List.set _ _ _).length = _; rw [List.length_set]; exact O.S, moveL_nn O.P hs⟩
theorem moveL_sum {ls : List Int} {n s : Nat} {g : Int} (f : Int → Int) (hf : f (-1) = 0) (hl : ls.length = n) (h : s < n) (h0 : -1 ≤ g) (h1 : g < (n : Int)) :
    sumTo n (fun i => (moveL ls s g).getD i 0 * f i) = sumTo n (fun i => ls.getD i 0 * f i) - f s + f g := by
  have k1 : sumTo n (fun i => (ls.set s (ls.getD s 0 - 1)).getD i 0 * f i) = sumTo n (fun i => ls.getD i 0 * f i) - f s := by
    rw [sumTo_one (s := s) (g := fun i => ls.getD i 0 * f i) h fun i hi e => by
      show (ls.set s (ls.getD s 0 - 1)).getD i 0 * f i = ls.getD i 0 * f i
      rw [gD_set_ne (Ne.symm e)]]
    show sumTo n (fun i => ls.getD i 0 * f i) - ls.getD s 0 * f s + (ls.set s (ls.getD s 0 - 1)).getD s 0 * f s = _
    rw [gD_set_self (by omega), Int.sub_mul]
    omega
  unfold moveL
  split
  · rename_i e
    rw [k1, e, hf]
    omega
  · rename_i e
    have hg : g.toNat < n := by omega
    rw [sumTo_one (s := g.toNat) (g := fun i => (ls.set s (ls.getD s 0 - 1)).getD i 0 * f i) hg fun i hi e => by
      show ((ls.set s (ls.getD s 0 - 1)).set g.toNat _).getD i 0 * f i = (ls.set s (ls.getD s 0 - 1)).getD i 0 * f i
      rw [gD_set_ne (Ne.symm e)], k1]
    show sumTo n (fun i => ls.getD i 0 * f i) - f s - (ls.set s (ls.getD s 0 - 1)).getD g.toNat 0 * f g.toNat + ((ls.set s (ls.getD s 0 - 1)).set g.toNat ((ls.set s (ls.getD s 0 - 1)).getD g.toNat 0 + 1)).getD g.toNat 0 * f g.toNat = _
    rw [gD_set_self (by rw [List.length_set]; omega), Int.add_mul, show ((g.toNat : Nat) : Int) = g by omega]
    omega
theorem move_sum {ls : List Int} {s : Nat} {g z : Int} (h : s < ls.length) (h0 : -1 ≤ g) (h1 : g < (ls.length : Int)) : (moveL ls s g).sum + moveT z g = ls.sum + z := by
  unfold moveL moveT
  split
  · rw [sum_set h]; omega
  · rw [sum_set (by rw [List.length_set]; omega), sum_set h]
    omega
theorem step_sum {b : Brd} (O : BrdOk b) {s : Nat} (h : s < b.rows.length) : (stepB b s).loads.sum ≤ b.loads.sum := by
  obtain ⟨x0, x1⟩ := exit_in O.W O.T h
  have := move_sum (z := b.taken) (show s < b.loads.length by rw [O.L]; exact h) x0 (by rw [O.L]; exact x1)
  have h2 : b.taken ≤ moveT b.taken (exitOf b.rows b.turns s) := by unfold moveT; split <;> omega
  show (moveL b.loads s (exitOf b.rows b.turns s)).sum ≤ _
  omega
def dropW (c : Int) (f : Int → Int) (r : List Int) (t : Nat) : Int := ((r.take t).map fun e => c - f e - 1).sum
theorem dropW_succ {c : Int} {f : Int → Int} {r : List Int} {t : Nat} (h : t < r.length) : dropW c f r (t + 1) = dropW c f r t + (c - f (r.getD t 0) - 1) := by
  unfold dropW
  rw [List.take_add_one, List.getElem?_eq_getElem h, List.map_append, List.sum_append, List.getD_eq_getElem?_getD, List.getElem?_eq_getElem h]
  simp
def pot (f : Int → Int) (b : Brd) : Int := sumTo b.rows.length (fun i => b.loads.getD i 0 * f i) + sumTo b.rows.length (fun i => dropW (f i) f (b.rows.getD i []) (b.turns.getD i 0).toNat)
theorem pot_step {f : Int → Int} {b : Brd} (hf : f (-1) = 0) (O : BrdOk b) {s : Nat} (h : s < b.rows.length) (hw : 0 ≤ dropW (f s) f (b.rows.getD s []) (b.rows.getD s []).length) : pot f (stepB b s) ≤ pot f b - 1 := by
  obtain ⟨x0, x1⟩ := exit_in O.W O.T h
  obtain ⟨t0, t1⟩ := O.T.2 s h
  have hl := (row_len O.W h).1
  unfold pot
  show sumTo b.rows.length (fun i => (moveL b.loads s (exitOf b.rows b.turns s)).getD i 0 * f i) + sumTo b.rows.length (fun i => dropW (f i) f (b.rows.getD i []) ((nextT b.rows b.turns s).getD i 0).toNat) ≤ _
  rw [moveL_sum f hf O.L h x0 x1]
  have e4 := sumTo_one (n := b.rows.length) (s := s) (g := fun i => dropW (f i) f (b.rows.getD i []) (b.turns.getD i 0).toNat) (g' := fun i => dropW (f i) f (b.rows.getD i []) ((nextT b.rows b.turns s).getD i 0).toNat) h fun i hi e => by
    show dropW (f i) f (b.rows.getD i []) ((nextT b.rows b.turns s).getD i 0).toNat = _
    unfold nextT
    rw [gD_set_ne (Ne.symm e)]
  rw [e4]
  have e1 : (nextT b.rows b.turns s).getD s 0 = (b.turns.getD s 0 + 1) % ((b.rows.getD s []).length : Int) := by
    unfold nextT
    rw [gD_set_self (by rw [O.T.1]; exact h)]
  have e2 : dropW (f s) f (b.rows.getD s []) ((b.turns.getD s 0).toNat + 1) = dropW (f s) f (b.rows.getD s []) (b.turns.getD s 0).toNat + (f s - f (exitOf b.rows b.turns s) - 1) := dropW_succ (by omega)
  have e3 : dropW (f s) f (b.rows.getD s []) ((nextT b.rows b.turns s).getD s 0).toNat ≤ dropW (f s) f (b.rows.getD s []) ((b.turns.getD s 0).toNat + 1) := by
    rw [e1]
    by_cases e : b.turns.getD s 0 + 1 = ((b.rows.getD s []).length : Int)
    · rw [e, Int.emod_self, show (b.turns.getD s 0).toNat + 1 = (b.rows.getD s []).length by omega]
      show dropW _ _ _ 0 ≤ _
      have z : dropW (f s) f (b.rows.getD s []) 0 = 0 := by unfold dropW; simp
      rw [z]
      exact hw
    · rw [Int.emod_eq_of_lt (by omega) (by omega), show (b.turns.getD s 0 + 1).toNat = (b.turns.getD s 0).toNat + 1 by omega]
      exact Int.le_refl _
  show _ + (_ - dropW (f s) f (b.rows.getD s []) (b.turns.getD s 0).toNat + dropW (f s) f (b.rows.getD s []) ((nextT b.rows b.turns s).getD s 0).toNat) ≤ _
  omega
structure Weigh (rows : List (List Int)) (M : Int) (f : Int → Int) (G D1 D2 : Int) : Prop where
  pit : f (-1) = 0
  low : ∀ i, i < rows.length → 0 ≤ f (i : Nat)
  top : ∀ i, i < rows.length → f (i : Nat) ≤ G
  full : ∀ i, i < rows.length → 0 ≤ dropW (f (i : Nat)) f (rows.getD i []) (rows.getD i []).length
  dLow : ∀ i, i < rows.length → ∀ t, t < (rows.getD i []).length → -D1 ≤ dropW (f (i : Nat)) f (rows.getD i []) t
  dTop : ∀ i, i < rows.length → ∀ t, t < (rows.getD i []).length → dropW (f (i : Nat)) f (rows.getD i []) t ≤ D2
  g0 : 0 ≤ G
  all : M * G + (rows.length : Int) * (D1 + D2) ≤ 20000
def Tame (rows : List (List Int)) (M : Int) : Prop := ∃ f G D1 D2, Weigh rows M f G D1 D2
theorem tame_mu {rows : List (List Int)} {M : Int} (T : Tame rows M) : ∃ μ : Brd → Nat, (∀ b, BrdOk b → b.rows = rows → b.loads.sum ≤ M → μ b ≤ 20000) ∧ ∀ b s, BrdOk b → b.rows = rows → s < rows.length → 1 ≤ b.loads.getD s 0 → μ (stepB b s) + 1 ≤ μ b := by
  obtain ⟨f, G, D1, D2, w⟩ := T
  have lo : ∀ b, BrdOk b → b.rows = rows → -((rows.length : Int) * D1) ≤ pot f b := fun b O e => by
    unfold pot
    rw [e]
    have z1 : (0 : Int) ≤ sumTo rows.length (fun i => b.loads.getD i 0 * f i) := by
      have := sumTo_le (n := rows.length) (g := fun _ => 0) (g' := fun i => b.loads.getD i 0 * f i) fun i hi => Int.mul_nonneg (O.P i) (w.low i hi)
      rw [sumTo_const] at this
      omega
    have z2 := sumTo_le (n := rows.length) (g := fun _ => -D1) (g' := fun i => dropW (f i) f (rows.getD i []) (b.turns.getD i 0).toNat) fun i hi => by
      have := O.T.2 i (by rw [e]; exact hi)
      rw [e] at this
      exact w.dLow i hi _ (by omega)
    rw [sumTo_const, Int.mul_neg] at z2
    omega
  refine ⟨fun b => (pot f b + (rows.length : Int) * D1).toNat, fun b O e hs => ?_, fun b s O e h h1 => ?_⟩
  · have z1 := sumTo_le (n := rows.length) (g := fun i => b.loads.getD i 0 * f i) (g' := fun i => b.loads.getD i 0 * G) fun i hi => Int.mul_le_mul_of_nonneg_left (w.top i hi) (O.P i)
    have z2 : sumTo rows.length (fun i => b.loads.getD i 0 * G) = b.loads.sum * G := by
      have key : ∀ n, sumTo n (fun i => b.loads.getD i 0 * G) = sumTo n (fun i => b.loads.getD i 0) * G := by
        intro n
        induction n with
        | zero => simp [sumTo]
        | succ n ih =>
          show sumTo n (fun i => b.loads.getD i 0 * G) + b.loads.getD n 0 * G = (sumTo n (fun i => b.loads.getD i 0) + b.loads.getD n 0) * G
          rw [ih, Int.add_mul]
      rw [key, ← sumTo_list b.loads, O.L, e]
    have z3 : b.loads.sum * G ≤ M * G := Int.mul_le_mul_of_nonneg_right hs w.g0
    have z4 := sumTo_le (n := rows.length) (g := fun i => dropW (f i) f (rows.getD i []) (b.turns.getD i 0).toNat) (g' := fun _ => D2) fun i hi => by
      have := O.T.2 i (by rw [e]; exact hi)
      rw [e] at this
      exact w.dTop i hi _ (by omega)
    rw [sumTo_const] at z4
    have := w.all
    rw [Int.mul_add] at this
    have e5 : pot f b = sumTo rows.length (fun i => b.loads.getD i 0 * f i) + sumTo rows.length (fun i => dropW (f i) f (rows.getD i []) (b.turns.getD i 0).toNat) := by unfold pot; rw [e]
    show (pot f b + (rows.length : Int) * D1).toNat ≤ 20000
    omega
  · have z1 := pot_step (s := s) w.pit O (by rw [e]; exact h) (by rw [e]; exact w.full s h)
    have z2 := lo (stepB b s) (O.step (by rw [e]; exact h) h1) e
    show (pot f (stepB b s) + (rows.length : Int) * D1).toNat + 1 ≤ (pot f b + (rows.length : Int) * D1).toNat
    omega
def ladenL (ls : List Int) : List Nat := (List.range ls.length).filter fun i => decide (0 < ls.getD i 0)
theorem laden_mem {ls : List Int} {s : Nat} (h : s ∈ ladenL ls) : s < ls.length ∧ 1 ≤ ls.getD s 0 := by
  unfold ladenL at h
  rw [List.mem_filter, List.mem_range, decide_eq_true_eq] at h
  omega
theorem head_laden {ls : List Int} {z : Nat} (h : z < ls.length) (h1 : 0 < ls.getD z 0) (h2 : ∀ i, i < z → ls.getD i 0 ≤ 0) : (ladenL ls).head? = some z := by
  unfold ladenL
  rw [List.head?_filter, List.find?_range_eq_some]
  refine ⟨decide_eq_true h1, List.mem_range.mpr h, fun j hj => ?_⟩
  have := h2 j hj
  simpa using this
theorem laden_none {ls : List Int} (h : ∀ i, i < ls.length → ls.getD i 0 ≤ 0) : ladenL ls = [] := by
  unfold ladenL
  rw [List.filter_eq_nil_iff]
  intro i hi
  have := h i (List.mem_range.mp hi)
  simpa using this
def nxt (b : Brd) : Brd := match (ladenL b.loads).head? with
  | none => b
  | some s => stepB b s
def iterR : Nat → Brd → Brd
  | 0, b => b
  | k + 1, b => nxt (iterR k b)
theorem nxt_some {b : Brd} {s : Nat} (h : (ladenL b.loads).head? = some s) : nxt b = stepB b s := by unfold nxt; rw [h]
theorem nxt_none {b : Brd} (h : ladenL b.loads = []) : nxt b = b := by unfold nxt; rw [h]; rfl
theorem BrdOk.nxt {b : Brd} (O : BrdOk b) : BrdOk (nxt b) ∧ (Com.nxt b).rows = b.rows ∧ (Com.nxt b).loads.sum + (Com.nxt b).taken = b.loads.sum + b.taken := by
  cases h : (ladenL b.loads).head? with
  | none =>
    have : Com.nxt b = b := by unfold Com.nxt; rw [h]
    rw [this]
    exact ⟨O, rfl, rfl⟩
  | some s =>
    obtain ⟨h1, h2⟩ := laden_mem (List.mem_of_head? h)
    rw [nxt_some h]
    have hs : s < b.rows.length := by rw [← O.L]; exact h1
    have hx := exit_in O.W O.T hs
    exact ⟨O.step hs h2, rfl, move_sum h1 hx.1 (by rw [O.L]; exact hx.2)⟩
theorem BrdOk.iter {b : Brd} (O : BrdOk b) : ∀ k, BrdOk (iterR k b) ∧ (iterR k b).rows = b.rows ∧ (iterR k b).loads.sum + (iterR k b).taken = b.loads.sum + b.taken
  | 0 => ⟨O, rfl, rfl⟩
  | k + 1 => by
    obtain ⟨h1, h2, h3⟩ := O.iter k
    obtain ⟨g1, g2, g3⟩ := h1.nxt
    exact ⟨g1, g2.trans h2, g3.trans h3⟩
structure RunTo (b : Brd) (N : Nat) : Prop where
  done : ladenL (iterR N b).loads = []
  more : ∀ i, i < N → ladenL (iterR i b).loads ≠ []
theorem run_ex {b : Brd} (O : BrdOk b) {M : Int} (T : Tame b.rows M) (h : b.loads.sum ≤ M) : ∃ N, N ≤ 20000 ∧ RunTo b N := by
  obtain ⟨μ, m1, m2⟩ := tame_mu T
  have key : ∀ k, (∃ N, N ≤ k ∧ RunTo b N) ∨ ((∀ i, i < k → ladenL (iterR i b).loads ≠ []) ∧ μ (iterR k b) + k ≤ μ b) := by
    intro k
    induction k with
    | zero => exact .inr ⟨fun i hi => by omega, Nat.le_refl _⟩
    | succ k ih =>
      rcases ih with ⟨N, h1, h2⟩ | ⟨h1, h2⟩
      · exact .inl ⟨N, by omega, h2⟩
      · by_cases e : ladenL (iterR k b).loads = []
        · exact .inl ⟨k, by omega, e, h1⟩
        · refine .inr ⟨fun i hi => ?_, ?_⟩
          · by_cases e' : i = k
            · rw [e']; exact e
            · exact h1 i (by omega)
          · obtain ⟨O1, r1, _⟩ := O.iter k
            cases q : (ladenL (iterR k b).loads).head? with
            | none => exact absurd (List.head?_eq_none_iff.mp q) e
            | some s =>
              obtain ⟨g1, g2⟩ := laden_mem (List.mem_of_head? q)
              have := m2 (iterR k b) s O1 r1 (by rw [← r1, ← O1.L]; exact g1) g2
              show μ (nxt (iterR k b)) + (k + 1) ≤ μ b
              rw [nxt_some q]
              omega
  have hb := m1 b O rfl h
  rcases key 20001 with ⟨N, h1, h2⟩ | ⟨h1, h2⟩
  · by_cases e : N = 20001
    · rcases key 20000 with ⟨N', g1, g2⟩ | ⟨g1, g2⟩
      · exact ⟨N', g1, g2⟩
      · subst e
        have z := h2.more 20000 (by omega)
        obtain ⟨O1, r1, _⟩ := O.iter 20000
        cases q : (ladenL (iterR 20000 b).loads).head? with
        | none => exact absurd (List.head?_eq_none_iff.mp q) z
        | some s =>
          obtain ⟨k1, k2⟩ := laden_mem (List.mem_of_head? q)
          have := m2 (iterR 20000 b) s O1 r1 (by rw [← r1, ← O1.L]; exact k1) k2
          omega
    · exact ⟨N, by omega, h2⟩
  · omega
theorem iter_steps {b : Brd} (O : BrdOk b) {N : Nat} (R : RunTo b N) : ∀ k, k ≤ N → (iterR k b).steps.sum = b.steps.sum + k
  | 0, _ => by simp [iterR]
  | k + 1, h => by
    have ih := iter_steps O R k (by omega)
    obtain ⟨O1, r1, _⟩ := O.iter k
    cases q : (ladenL (iterR k b).loads).head? with
    | none => exact absurd (List.head?_eq_none_iff.mp q) (R.more k (by omega))
    | some s =>
      obtain ⟨g1, g2⟩ := laden_mem (List.mem_of_head? q)
      show (nxt (iterR k b)).steps.sum = _
      rw [nxt_some q]
      show ((iterR k b).steps.set s ((iterR k b).steps.getD s 0 + 1)).sum = _
      rw [sum_set (by rw [O1.S, ← O1.L]; exact g1)]
      omega
end Com
set_option Elab.async false
set_option linter.all false
set_option maxRecDepth 100000
set_option maxHeartbeats 4000000
namespace Com
def qn (u : Nat → Nat) (n : Nat) : Nat → Nat
  | 0 => 1
  | i + 1 => (1 + u (n - 1 - i)) * qn u n i + 1
theorem qn_pos (u : Nat → Nat) (n : Nat) : ∀ i, 1 ≤ qn u n i
  | 0 => Nat.le_refl _
  | i + 1 => by unfold qn; omega
theorem qn_succ (u : Nat → Nat) (n i : Nat) : qn u n i + 1 ≤ qn u n (i + 1) := by
  show _ ≤ (1 + u (n - 1 - i)) * qn u n i + 1
  rw [Nat.add_mul]
  omega
theorem qn_mono (u : Nat → Nat) (n : Nat) {i j : Nat} (h : i ≤ j) : qn u n i ≤ qn u n j := by
  induction j with
  | zero => rw [show i = 0 by omega]; exact Nat.le_refl _
  | succ j ih =>
    by_cases e : i = j + 1
    · rw [e]; exact Nat.le_refl _
    · have := ih (by omega)
      have := qn_succ u n j
      omega
def ups (k : Int) (r : List Int) : Nat := (r.filter fun e => decide (k ≤ e)).length
def sumU (u : Nat → Nat) : Nat → Nat
  | 0 => 0
  | n + 1 => sumU u n + u n
theorem qn_small {u : Nat → Nat} {n : Nat} (h : ∀ i, i < n → u i ≤ 2) : ∀ i, i ≤ n → 2 * qn u n i + 1 ≤ 3 ^ (i + 1)
  | 0, _ => by show 2 * 1 + 1 ≤ 3 ^ 1; decide
  | i + 1, hi => by
    have ih := qn_small h i (by omega)
    have hu := h (n - 1 - i) (by omega)
    show 2 * ((1 + u (n - 1 - i)) * qn u n i + 1) + 1 ≤ 3 ^ (i + 1 + 1)
    have := Nat.mul_le_mul_right (qn u n i) (show 1 + u (n - 1 - i) ≤ 3 by omega)
    rw [Nat.pow_succ]
    omega
theorem qn_big {u : Nat → Nat} {n : Nat} : ∀ i s, i ≤ n → sumU u (n - i) + s = sumU u n → qn u n i ≤ (i + 1) * 2 ^ s
  | 0, s, _, _ => by show 1 ≤ 1 * 2 ^ s; have := Nat.one_le_two_pow (n := s); omega
  | i + 1, s, hi, hs => by
    have e : n - i = (n - (i + 1)) + 1 := by omega
    have e2 : sumU u (n - i) = sumU u (n - (i + 1)) + u (n - (i + 1)) := by rw [e]; rfl
    have e3 : sumU u (n - i) ≤ sumU u n := by
      have key : ∀ a b, a ≤ b → sumU u a ≤ sumU u b := by
        intro a b h
        induction b with
        | zero => rw [show a = 0 by omega]; exact Nat.le_refl _
        | succ b ih =>
          by_cases z : a = b + 1
          · rw [z]; exact Nat.le_refl _
          · have := ih (by omega)
            show sumU u a ≤ sumU u b + u b
            omega
      exact key _ _ (by omega)
    have ih := qn_big (u := u) (n := n) i (sumU u n - sumU u (n - i)) (by omega) (by omega)
    have e4 : s = u (n - 1 - i) + (sumU u n - sumU u (n - i)) := by
      rw [show n - 1 - i = n - (i + 1) by omega]; omega
    show (1 + u (n - 1 - i)) * qn u n i + 1 ≤ (i + 1 + 1) * 2 ^ s
    rw [e4, Nat.pow_add]
    generalize sumU u n - sumU u (n - i) = s' at ih
    generalize u (n - 1 - i) = v
    have hv : 1 + v ≤ 2 ^ v := by have := Nat.lt_two_pow_self (n := v); omega
    have g1 : (1 + v) * qn u n i ≤ 2 ^ v * ((i + 1) * 2 ^ s') := Nat.mul_le_mul hv ih
    have g2 : 2 ^ v * ((i + 1) * 2 ^ s') = (i + 1) * (2 ^ v * 2 ^ s') := by rw [Nat.mul_left_comm]
    have g3 : 1 ≤ 2 ^ v * 2 ^ s' := Nat.mul_pos Nat.one_le_two_pow Nat.one_le_two_pow
    rw [Nat.add_mul (i + 1) 1]
    omega
theorem drop_lo (g : Int → Int) (k X : Int) : ∀ r : List Int, (∀ e ∈ r, e < k → 0 ≤ g e) → (∀ e ∈ r, k ≤ e → -X ≤ g e) → -((ups k r : Int) * X) ≤ (r.map g).sum
  | [], _, _ => by simp [ups]
  | e :: r, h1, h2 => by
    have ih := drop_lo g k X r (fun x hx => h1 x (List.mem_cons_of_mem _ hx)) (fun x hx => h2 x (List.mem_cons_of_mem _ hx))
    rw [List.map_cons, List.sum_cons]
    by_cases z : k ≤ e
    · have : ups k (e :: r) = ups k r + 1 := by simp [ups, z]
      rw [this, show ((ups k r + 1 : Nat) : Int) = (ups k r : Int) + 1 by omega, Int.add_mul]
      have := h2 e List.mem_cons_self z
      omega
    · have : ups k (e :: r) = ups k r := by unfold ups; rw [List.filter_cons_of_neg (by simpa using z)]
      rw [this]
      have := h1 e List.mem_cons_self (by omega)
      omega
theorem drop_one (g : Int → Int) (k X Y : Int) (hY : 0 ≤ Y) : ∀ r : List Int, (∃ e ∈ r, e < k) → (∀ e ∈ r, e < k → Y ≤ g e) → (∀ e ∈ r, k ≤ e → -X ≤ g e) → Y - (ups k r : Int) * X ≤ (r.map g).sum
  | [], ⟨e, he, _⟩, _, _ => by cases he
  | e :: r, hx, h1, h2 => by
    rw [List.map_cons, List.sum_cons]
    by_cases z : k ≤ e
    · have : ups k (e :: r) = ups k r + 1 := by simp [ups, z]
      rw [this, show ((ups k r + 1 : Nat) : Int) = (ups k r : Int) + 1 by omega, Int.add_mul]
      have ih := drop_one g k X Y hY r (by
        obtain ⟨x, hx, hl⟩ := hx
        rcases List.mem_cons.mp hx with y | y
        · omega
        · exact ⟨x, y, hl⟩) (fun x hx => h1 x (List.mem_cons_of_mem _ hx)) (fun x hx => h2 x (List.mem_cons_of_mem _ hx))
      have := h2 e List.mem_cons_self z
      omega
    · have : ups k (e :: r) = ups k r := by unfold ups; rw [List.filter_cons_of_neg (by simpa using z)]
      rw [this]
      have ih := drop_lo g k X r (fun x hx hl => Int.le_trans hY (h1 x (List.mem_cons_of_mem _ hx) hl)) (fun x hx => h2 x (List.mem_cons_of_mem _ hx))
      have := h1 e List.mem_cons_self (by omega)
      omega
theorem drop_hi (g : Int → Int) (G : Int) (hG : 0 ≤ G) : ∀ r : List Int, (∀ e ∈ r, g e ≤ G) → (r.map g).sum ≤ (r.length : Int) * G
  | [], _ => by simp
  | e :: r, h => by
    have ih := drop_hi g G hG r fun x hx => h x (List.mem_cons_of_mem _ hx)
    have := h e List.mem_cons_self
    rw [List.map_cons, List.sum_cons, List.length_cons, show ((r.length + 1 : Nat) : Int) = (r.length : Int) + 1 by omega, Int.add_mul]
    omega
theorem ups_take (k : Int) (r : List Int) (t : Nat) : ups k (r.take t) ≤ ups k r := ((List.take_sublist t r).filter _).length_le
def Shape (rows : List (List Int)) (u : Nat → Nat) : Prop := ∀ k, k < rows.length → ups (k : Nat) (rows.getD k []) ≤ u k ∧ u k ≤ 3 ∧ ∃ e ∈ rows.getD k [], e < (k : Int)
theorem term_of {n e i : Int} {qn0 qe qi u : Int} (k4 : e < i → (1 + u) * qi + 1 ≤ qe) (k1 : 1 ≤ qe) (k3 : qe ≤ qn0) (k2 : 1 ≤ qi) : (e < i → u * qi ≤ (qn0 - qi) - (qn0 - qe) - 1) ∧ (i ≤ e → -qi ≤ (qn0 - qi) - (qn0 - qe) - 1) ∧ (qn0 - qi) - (qn0 - qe) - 1 ≤ qn0 - 1 := by
  refine ⟨fun h => ?_, fun _ => by omega, by omega⟩
  have := k4 h
  rw [Int.add_mul] at this
  omega
theorem shape_tame {rows : List (List Int)} {u : Nat → Nat} {M : Int} (W : Wf rows) (S : Shape rows u) (hb : (M + 10 * (rows.length : Int)) * ((qn u rows.length rows.length : Int) - 1) ≤ 20000) : Tame rows M := by
  generalize hn : rows.length = n at hb
  have q1 : ∀ i, 1 ≤ qn u n i := qn_pos u n
  have qm : ∀ {i j : Nat}, i ≤ j → qn u n i ≤ qn u n j := fun {i j} h => qn_mono u n h
  have qs : ∀ i, i < n → qn u n (n - 1 - i + 1) = (1 + u i) * qn u n (n - 1 - i) + 1 := fun i hi => by
    show (1 + u (n - 1 - (n - 1 - i))) * qn u n (n - 1 - i) + 1 = _
    rw [show n - 1 - (n - 1 - i) = i by omega]
  have qt : ∀ i, i < n → qn u n (n - 1 - i) + 1 ≤ qn u n n := fun i hi => Nat.le_trans (qn_succ u n (n - 1 - i)) (qm (by omega))
  generalize qn u n = q at q1 qm qs qt hb
  have gn : (1 : Int) ≤ q n := by have := q1 n; omega
  have fk : ∀ i : Nat, (q n : Int) - (q ((n : Int) - 1 - (i : Nat)).toNat : Int) = (q n : Int) - (q (n - 1 - i) : Int) := fun i => by
    rw [show ((n : Int) - 1 - (i : Nat)).toNat = n - 1 - i by omega]
  have hex : ∀ i, i < n → ∀ e ∈ rows.getD i [], -1 ≤ e ∧ e < (n : Int) := fun i hi e he => by
    have := (W.2.2 _ (gD_mem (show i < rows.length by rw [hn]; exact hi))).2.2 e he
    rw [hn] at this
    exact this
  have hlen : ∀ i, i < n → (rows.getD i []).length ≤ 8 := fun i hi => (row_len W (by rw [hn]; exact hi)).2
  have hsh : ∀ i, i < n → ups (i : Nat) (rows.getD i []) ≤ u i ∧ u i ≤ 3 ∧ ∃ e ∈ rows.getD i [], e < (i : Int) := fun i hi => S i (by rw [hn]; exact hi)
  clear S W
  have term : ∀ i, i < n → ∀ e ∈ rows.getD i [], (e < (i : Int) → (u i : Int) * (q (n - 1 - i) : Int) ≤ ((q n : Int) - (q (n - 1 - i) : Int)) - ((q n : Int) - (q ((n : Int) - 1 - e).toNat : Int)) - 1) ∧ (((i : Nat) : Int) ≤ e → -(q (n - 1 - i) : Int) ≤ ((q n : Int) - (q (n - 1 - i) : Int)) - ((q n : Int) - (q ((n : Int) - 1 - e).toNat : Int)) - 1) ∧ ((q n : Int) - (q (n - 1 - i) : Int)) - ((q n : Int) - (q ((n : Int) - 1 - e).toNat : Int)) - 1 ≤ (q n : Int) - 1 := fun i hi e he => by
    obtain ⟨e0, e1⟩ := hex i hi e he
    have k1 := q1 ((n : Int) - 1 - e).toNat
    have k2 := q1 (n - 1 - i)
    have k3 : q ((n : Int) - 1 - e).toNat ≤ q n := qm (by omega)
    refine term_of (n := n) (fun h => ?_) (by omega) (by omega) (by omega)
    have k4 : q (n - 1 - i + 1) ≤ q ((n : Int) - 1 - e).toNat := qm (by omega)
    rw [qs i hi] at k4
    have k5 : (((1 + u i) * q (n - 1 - i) + 1 : Nat) : Int) ≤ (q ((n : Int) - 1 - e).toNat : Int) := Int.ofNat_le.mpr k4
    simpa using k5
  refine ⟨fun e => (q n : Int) - (q ((n : Int) - 1 - e).toNat : Int), (q n : Int) - 1, 3 * ((q n : Int) - 1), 7 * ((q n : Int) - 1), ?_⟩
  refine ⟨?_, fun i hi => ?_, fun i hi => ?_, fun i hi => ?_, fun i hi t ht => ?_, fun i hi t ht => ?_, by omega, ?_⟩
  · show (q n : Int) - (q ((n : Int) - 1 - -1).toNat : Int) = 0
    rw [show ((n : Int) - 1 - -1).toNat = n by omega]
    omega
  · rw [hn] at hi
    rw [fk]
    have := qt i hi
    omega
  · rw [hn] at hi
    rw [fk]
    have := q1 (n - 1 - i)
    omega
  · rw [hn] at hi
    obtain ⟨s1, s2, s3⟩ := hsh i hi
    have z := drop_one (fun e => ((q n : Int) - (q (n - 1 - i) : Int)) - ((q n : Int) - (q ((n : Int) - 1 - e).toNat : Int)) - 1) (i : Nat) (q (n - 1 - i) : Int) ((u i : Int) * (q (n - 1 - i) : Int)) (Int.mul_nonneg (Int.natCast_nonneg _) (Int.natCast_nonneg _)) (rows.getD i []) s3 (fun e he => (term i hi e he).1) (fun e he => (term i hi e he).2.1)
    unfold dropW
    dsimp only
    rw [List.take_length, fk]
    have m : (ups (i : Nat) (rows.getD i []) : Int) * (q (n - 1 - i) : Int) ≤ (u i : Int) * (q (n - 1 - i) : Int) := Int.mul_le_mul_of_nonneg_right (Int.ofNat_le.mpr s1) (Int.natCast_nonneg _)
    exact Int.le_trans (Int.sub_nonneg.mpr m) z
  · rw [hn] at hi
    obtain ⟨s1, s2, s3⟩ := hsh i hi
    have z := drop_lo (fun e => ((q n : Int) - (q (n - 1 - i) : Int)) - ((q n : Int) - (q ((n : Int) - 1 - e).toNat : Int)) - 1) (i : Nat) (q (n - 1 - i) : Int) ((rows.getD i []).take t) (fun e he h => Int.le_trans (Int.mul_nonneg (Int.natCast_nonneg _) (Int.natCast_nonneg _)) ((term i hi e (List.mem_of_mem_take he)).1 h)) (fun e he => (term i hi e (List.mem_of_mem_take he)).2.1)
    have z2 : ups (i : Nat) ((rows.getD i []).take t) ≤ 3 := Nat.le_trans (ups_take (i : Nat) (rows.getD i []) t) (Nat.le_trans s1 s2)
    have z3 := qt i hi
    have m : (ups (i : Nat) ((rows.getD i []).take t) : Int) * (q (n - 1 - i) : Int) ≤ 3 * ((q n : Int) - 1) := Int.mul_le_mul (Int.ofNat_le.mpr z2) (by omega) (Int.natCast_nonneg _) (by decide)
    unfold dropW
    dsimp only
    rw [fk]
    exact Int.le_trans (Int.neg_le_neg m) z
  · rw [hn] at hi
    have hl := hlen i hi
    have z := drop_hi (fun e => ((q n : Int) - (q (n - 1 - i) : Int)) - ((q n : Int) - (q ((n : Int) - 1 - e).toNat : Int)) - 1) ((q n : Int) - 1) (by omega) ((rows.getD i []).take t) (fun e he => (term i hi e (List.mem_of_mem_take he)).2.2)
    rw [List.length_take] at z
    have m : ((min t (rows.getD i []).length : Nat) : Int) * ((q n : Int) - 1) ≤ 7 * ((q n : Int) - 1) := Int.mul_le_mul_of_nonneg_right (by omega) (by omega)
    unfold dropW
    dsimp only
    rw [fk]
    exact Int.le_trans z m
  · rw [hn]
    have e : M * ((q n : Int) - 1) + (n : Int) * (3 * ((q n : Int) - 1) + 7 * ((q n : Int) - 1)) = (M + 10 * (n : Int)) * ((q n : Int) - 1) := by
      rw [← Int.add_mul, Int.add_mul M, ← Int.mul_assoc, Int.mul_comm (n : Int) (3 + 7)]
      rfl
    rw [e]
    exact hb
theorem tame_small {rows : List (List Int)} {u : Nat → Nat} (W : Wf rows) (S : Shape rows u) (hn : rows.length ≤ 4) (hu : ∀ i, i < rows.length → u i ≤ 2) : Tame rows 30 := by
  refine shape_tame W S ?_
  have h := qn_small hu rows.length (Nat.le_refl _)
  have h3 : (3 : Nat) ^ (rows.length + 1) ≤ 3 ^ 5 := Nat.pow_le_pow_right (by decide) (by omega)
  have h4 : (3 : Nat) ^ 5 = 243 := by decide
  have hp := qn_pos u rows.length rows.length
  exact Int.le_trans (Int.mul_le_mul (show (30 : Int) + 10 * (rows.length : Int) ≤ 70 by omega) (show (qn u rows.length rows.length : Int) - 1 ≤ 120 by omega) (by omega) (by decide)) (by decide)
theorem tame_big {rows : List (List Int)} {u : Nat → Nat} (W : Wf rows) (S : Shape rows u) (hu : sumU u rows.length ≤ 3) : Tame rows 30 := by
  refine shape_tame W S ?_
  have h := qn_big (u := u) (n := rows.length) rows.length (sumU u rows.length) (Nat.le_refl _) (by simp [sumU])
  have hn := W.2.1
  have hp := qn_pos u rows.length rows.length
  have h2 : (2 : Nat) ^ sumU u rows.length ≤ 2 ^ 3 := Nat.pow_le_pow_right (by decide) hu
  have h3 : (rows.length + 1) * 2 ^ sumU u rows.length ≤ 13 * 8 := Nat.mul_le_mul (by omega) h2
  exact Int.le_trans (Int.mul_le_mul (show (30 : Int) + 10 * (rows.length : Int) ≤ 150 by omega) (show (qn u rows.length rows.length : Int) - 1 ≤ 103 by omega) (by omega) (by decide)) (by decide)
theorem sumU_zero : ∀ n, sumU (fun _ => 0) n = 0
  | 0 => rfl
  | n + 1 => by show sumU (fun _ => 0) n + 0 = 0; rw [sumU_zero n]
def othC (n g : Int) : Int := if g < 0 then g else n - 1 - g
def revRows (rows : List (List Int)) : List (List Int) := rows.reverse.map fun r => r.map (othC rows.length)
theorem revRows_len (rows : List (List Int)) : (revRows rows).length = rows.length := by unfold revRows; simp
theorem revRows_get {rows : List (List Int)} {i : Nat} (h : i < rows.length) : (revRows rows).getD i [] = (rows.getD (rows.length - 1 - i) []).map (othC rows.length) := by
  unfold revRows
  rw [List.getD_eq_getElem?_getD, List.getElem?_map, List.getElem?_reverse h, List.getElem?_eq_getElem (by omega), List.getD_eq_getElem?_getD, List.getElem?_eq_getElem (by omega)]
  rfl
theorem tame_rev {rows : List (List Int)} {M : Int} (W : Wf rows) (T : Tame rows M) : Tame (revRows rows) M := by
  obtain ⟨f, G, D1, D2, w⟩ := T
  have ff : ∀ i, i < rows.length → f (othC rows.length (i : Nat)) = f ((rows.length - 1 - i : Nat) : Int) := fun i hi => by
    unfold othC
    rw [if_neg (by omega), show (rows.length : Int) - 1 - (i : Nat) = ((rows.length - 1 - i : Nat) : Int) by omega]
  have dd : ∀ i, i < rows.length → ∀ t, dropW (f (othC rows.length (i : Nat))) (fun e => f (othC rows.length e)) ((revRows rows).getD i []) t = dropW (f ((rows.length - 1 - i : Nat) : Int)) f (rows.getD (rows.length - 1 - i) []) t := fun i hi t => by
    unfold dropW
    rw [revRows_get hi, ff i hi, ← List.map_take, List.map_map]
    refine congrArg List.sum (List.map_congr_left fun e he => ?_)
    obtain ⟨e0, e1⟩ := (W.2.2 _ (gD_mem (show rows.length - 1 - i < rows.length by omega))).2.2 e (List.mem_of_mem_take he)
    show _ - f (othC rows.length (othC rows.length e)) - 1 = _
    have : othC rows.length (othC rows.length e) = e := by
      unfold othC
      by_cases h : e < 0
      · rw [if_pos h, if_pos h]
      · rw [if_neg h, if_neg (by omega)]
        omega
    rw [this]
  have ll : ∀ i, i < rows.length → ((revRows rows).getD i []).length = (rows.getD (rows.length - 1 - i) []).length := fun i hi => by rw [revRows_get hi, List.length_map]
  refine ⟨fun e => f (othC rows.length e), G, D1, D2, ?_⟩
  refine ⟨w.pit, fun i hi => ?_, fun i hi => ?_, fun i hi => ?_, fun i hi t ht => ?_, fun i hi t ht => ?_, w.g0, by rw [revRows_len]; exact w.all⟩
  all_goals rw [revRows_len] at hi
  · show 0 ≤ f (othC rows.length (i : Nat)); rw [ff i hi]; exact w.low _ (by omega)
  · show f (othC rows.length (i : Nat)) ≤ G; rw [ff i hi]; exact w.top _ (by omega)
  · show 0 ≤ dropW (f (othC rows.length (i : Nat))) (fun e => f (othC rows.length e)) _ _; rw [dd i hi, ll i hi]; exact w.full _ (by omega)
  · show _ ≤ dropW (f (othC rows.length (i : Nat))) (fun e => f (othC rows.length e)) _ _; rw [dd i hi]; exact w.dLow _ (by omega) t (by rw [ll i hi] at ht; exact ht)
  · show dropW (f (othC rows.length (i : Nat))) (fun e => f (othC rows.length e)) _ _ ≤ _; rw [dd i hi]; exact w.dTop _ (by omega) t (by rw [ll i hi] at ht; exact ht)
theorem ups_zero {k : Int} {r : List Int} (h : ∀ e ∈ r, e < k) : ups k r = 0 := by
  unfold ups
  rw [List.length_eq_zero_iff, List.filter_eq_nil_iff]
  intro e he
  have := h e he
  simpa using by omega
theorem ups_small {k : Int} {r : List Int} (hl : r.length ≤ 3) (h : ∃ e ∈ r, e < k) : ups k r ≤ 2 := by
  have : ups k r < r.length := by
    unfold ups
    rw [List.length_filter_lt_length_iff_exists]
    obtain ⟨e, he, hlt⟩ := h
    exact ⟨e, he, by simpa using hlt⟩
  omega
theorem ups_ins (k : Int) (r : List Int) (i : Nat) (x : Int) : ups k (r.take i ++ x :: r.drop i) ≤ ups k r + 1 := by
  have e : ups k r = ups k (r.take i) + ups k (r.drop i) := by
    unfold ups
    rw [← List.length_append, ← List.filter_append, List.take_append_drop]
  have e2 : ups k (r.take i ++ x :: r.drop i) ≤ ups k (r.take i) + (ups k (r.drop i) + 1) := by
    unfold ups
    rw [List.filter_append, List.length_append]
    refine Nat.add_le_add_left ?_ _
    by_cases z : k ≤ x
    · simp [z]
    · simp [z]
  omega
theorem shape_nil (u : Nat → Nat) : Shape [] u := fun k h => by simp at h
theorem shape_snoc {rows : List (List Int)} {r : List Int} {u : Nat → Nat} (h : Shape rows u) (h1 : ups (rows.length : Nat) r ≤ u rows.length) (h2 : u rows.length ≤ 3) (h3 : ∃ e ∈ r, e < (rows.length : Int)) : Shape (rows ++ [r]) u := fun i hi => by
  rw [List.length_append, List.length_singleton] at hi
  by_cases hlt : i < rows.length
  · rw [List.getD_eq_getElem?_getD, List.getElem?_append_left hlt, ← List.getD_eq_getElem?_getD]
    exact h i hlt
  · have e2 : i = rows.length := by omega
    subst e2
    rw [List.getD_eq_getElem?_getD, List.getElem?_append_right (Nat.le_refl _), Nat.sub_self]
    exact ⟨h1, h2, h3⟩
theorem sumU_upd {u : Nat → Nat} {c : Nat} : ∀ n, sumU (fun k => if k = c then u k + 1 else u k) n = sumU u n + (if c < n then 1 else 0)
  | 0 => by simp [sumU]
  | n + 1 => by
    show sumU (fun k => if k = c then u k + 1 else u k) n + (if n = c then u n + 1 else u n) = sumU u n + u n + _
    rw [sumU_upd n]
    by_cases e : n = c
    · subst e; simp; omega
    · rw [if_neg e]
      by_cases z : c < n
      · rw [if_pos z, if_pos (by omega)]; omega
      · rw [if_neg z, if_neg (by omega)]; omega
theorem le_sumU {u : Nat → Nat} {c : Nat} : ∀ n, c < n → u c ≤ sumU u n
  | 0, h => by omega
  | n + 1, h => by
    show u c ≤ sumU u n + u n
    by_cases e : c = n
    · subst e; omega
    · have := le_sumU (u := u) n (show c < n by omega); omega
theorem shape_ins {rows : List (List Int)} {u : Nat → Nat} {c i j : Nat} {x : Int} (h : Shape rows u) (hc : c < rows.length) (hs : sumU u rows.length ≤ j) (hj : j ≤ 2) : ∃ u', Shape (rows.set c ((rows[c]).take i ++ x :: (rows[c]).drop i)) u' ∧ sumU u' rows.length ≤ j + 1 := by
  refine ⟨fun k => if k = c then u k + 1 else u k, fun k hk => ?_, by rw [sumU_upd, if_pos hc]; omega⟩
  rw [List.length_set] at hk
  obtain ⟨h1, h2, e, h3, h4⟩ := h k hk
  by_cases z : c = k
  · subst z
    have eg : rows.getD c [] = rows[c] := by rw [List.getD_eq_getElem?_getD, List.getElem?_eq_getElem hk]; rfl
    rw [gD_set_self hk]
    dsimp only
    rw [if_pos rfl]
    rw [eg] at h1 h3
    refine ⟨Nat.le_trans (ups_ins _ _ _ _) (by omega), ?_, e, ?_, h4⟩
    · have := le_sumU (u := u) (c := c) rows.length hk; omega
    · have : e ∈ (rows[c]).take i ++ (rows[c]).drop i := by rw [List.take_append_drop]; exact h3
      rcases List.mem_append.mp this with y | y
      · exact List.mem_append.mpr (.inl y)
      · exact List.mem_append.mpr (.inr (List.mem_cons_of_mem _ y))
  · rw [gD_set_ne z]
    dsimp only
    rw [if_neg (Ne.symm z)]
    exact ⟨h1, h2, e, h3, h4⟩
theorem Shape.step {rows : List (List Int)} {u : Nat → Nat} (h : Shape rows u) (W : ∀ r ∈ rows, ∀ e ∈ r, -1 ≤ e) : ∀ i, i < rows.length → ∃ e ∈ rows.getD i [], -1 ≤ e ∧ e < (i : Int) := fun i hi => by
  obtain ⟨_, _, e, h3, h4⟩ := h i hi
  exact ⟨e, h3, W _ (gD_mem hi) e h3, h4⟩
end Com
set_option Elab.async false
set_option linter.all false
set_option maxRecDepth 100000
set_option maxHeartbeats 4000000
namespace Com
theorem list_ext {l l' : List Int} (h : l.length = l'.length) (g : ∀ i, i < l.length → l.getD i 0 = l'.getD i 0) : l = l' := by
  refine List.ext_getElem h fun i h1 h2 => ?_
  have := g i h1
  rw [List.getD_eq_getElem?_getD, List.getD_eq_getElem?_getD, List.getElem?_eq_getElem h1, List.getElem?_eq_getElem h2] at this
  exact this
theorem brd_ext {b b' : Brd} (h1 : b.rows = b'.rows) (h2 : b.turns = b'.turns) (h3 : b.loads = b'.loads) (h4 : b.steps = b'.steps) (h5 : b.taken = b'.taken) : b = b' := by
  cases b; cases b'
  simp only at h1 h2 h3 h4 h5
  subst h1 h2 h3 h4 h5
  rfl
end Com
set_option Elab.async false
set_option linter.all false
set_option maxRecDepth 100000
set_option maxHeartbeats 4000000
namespace Com
end Com
set_option Elab.async false
set_option linter.all false
set_option maxRecDepth 100000
set_option maxHeartbeats 4000000
namespace Com
open PySem L2
section
variable (rows : List (List Int)) (st : Int)
def ring (ts : List Int) (z : Int) : Int := if z = -1 then st else lastx (rows.getD z.toNat []) (ts.getD z.toNat 0)
def goR (ts : List Int) : Nat → Int → Int
  | 0, z => z
  | k + 1, z => ring rows st ts (goR ts k z)
def Uni (ts : List Int) (x : Int) : Prop := ∀ z : Int, -1 ≤ z → z < (rows.length : Int) → ∃ k, goR rows st ts k z = x
end
section
variable {rows : List (List Int)} {st : Int}
theorem goR_add {ts : List Int} (j : Nat) : ∀ (k : Nat) (z : Int), goR rows st ts (j + k) z = goR rows st ts k (goR rows st ts j z)
  | 0, z => rfl
  | k + 1, z => by
    show ring rows st ts (goR rows st ts (j + k) z) = ring rows st ts (goR rows st ts k (goR rows st ts j z))
    rw [goR_add j k z]
theorem goR_in {ts : List Int} (k : Nat) (z : Int) : goR rows st ts (k + 1) z = goR rows st ts k (ring rows st ts z) := by
  rw [show k + 1 = 1 + k by omega, goR_add 1 k z]
  rfl
theorem ring_in {ts : List Int} (W : Wf rows) (hT : TurnsOk rows ts) (h0 : 0 ≤ st) (h1 : st < (rows.length : Int)) {z : Int} (z0 : -1 ≤ z) (z1 : z < (rows.length : Int)) : -1 ≤ ring rows st ts z ∧ ring rows st ts z < (rows.length : Int) := by
  unfold ring
  split
  · exact ⟨by omega, h1⟩
  · exact last_in W hT (by omega)
theorem goR_bd {ts : List Int} (W : Wf rows) (hT : TurnsOk rows ts) (h0 : 0 ≤ st) (h1 : st < (rows.length : Int)) : ∀ (k : Nat) {z : Int}, -1 ≤ z → z < (rows.length : Int) → -1 ≤ goR rows st ts k z ∧ goR rows st ts k z < (rows.length : Int)
  | 0, z, a, b => ⟨a, b⟩
  | k + 1, z, a, b => by
    obtain ⟨c, d⟩ := goR_bd W hT h0 h1 k a b
    exact ring_in W hT h0 h1 c d
theorem least_ex {P : Nat → Prop} (h : ∃ k, P k) : ∃ k, P k ∧ ∀ j, j < k → ¬ P j := by
  obtain ⟨k, hk⟩ := h
  induction k using Nat.strongRecOn with
  | _ k ih =>
    by_cases h : ∃ j, j < k ∧ P j
    · obtain ⟨j, hj, pj⟩ := h
      exact ih j hj pj
    · exact ⟨k, hk, fun j hj pj => h ⟨j, hj, pj⟩⟩
theorem goR_same {ts us : List Int} {p : Int} (h : ∀ z, -1 ≤ z → z ≠ p → ring rows st us z = ring rows st ts z) : ∀ (K : Nat) {z : Int}, (∀ j, -1 ≤ goR rows st ts j z) → (∀ j, j < K → goR rows st ts j z ≠ p) → goR rows st us K z = goR rows st ts K z
  | 0, z, _, _ => rfl
  | K + 1, z, hb, hj => by
    show ring rows st us (goR rows st us K z) = ring rows st ts (goR rows st ts K z)
    rw [goR_same h K hb fun j hk => hj j (by omega)]
    exact h _ (hb K) (hj K (by omega))
theorem uni_move {ts us : List Int} {p : Int} (h : ∀ z, -1 ≤ z → z ≠ p → ring rows st us z = ring rows st ts z) {z : Int} (hb : ∀ j, -1 ≤ goR rows st ts j z) (hz : ∃ k, goR rows st ts k z = p) : ∃ k, goR rows st us k z = p := by
  obtain ⟨k, e, l⟩ := least_ex hz
  exact ⟨k, by rw [goR_same h k hb l]; exact e⟩
structure Ahead (rows : List (List Int)) (st : Int) (ts : List Int) (x : Int) (m : Nat) : Prop where
  back : goR rows st ts (m + 1) x = x
  first : ∀ j, j < m → goR rows st ts (j + 1) x ≠ x
theorem ahead_ex {ts : List Int} {x : Int} (U : Uni rows st ts x) (h0 : -1 ≤ ring rows st ts x) (h1 : ring rows st ts x < (rows.length : Int)) : ∃ m, Ahead rows st ts x m := by
  obtain ⟨k, e⟩ := U _ h0 h1
  obtain ⟨m, a, b⟩ := least_ex (P := fun m => goR rows st ts (m + 1) x = x) ⟨k, by rw [goR_in]; exact e⟩
  exact ⟨m, a, b⟩
end
def prevT (rows : List (List Int)) (ts : List Int) (s : Nat) : List Int := ts.set s ((ts.getD s 0 - 1) % ((rows.getD s []).length : Int))
theorem prevT_ok {rows : List (List Int)} {ts : List Int} (W : Wf rows) (T : TurnsOk rows ts) {s : Nat} (h : s < rows.length) : TurnsOk rows (prevT rows ts s) := by
  refine ⟨by unfold prevT; rw [List.length_set]; exact T.1, fun i hi => ?_⟩
  unfold prevT
  by_cases e : s = i
  · subst e
    rw [gD_set_self (by rw [T.1]; exact h)]
    have := (row_len W h).1
    exact ⟨Int.emod_nonneg _ (by omega), Int.emod_lt_of_pos _ (by omega)⟩
  · rw [gD_set_ne e]
    exact T.2 i hi
theorem lastx_eq {r : List Int} {t : Int} (h0 : 0 ≤ t) (h1 : t < (r.length : Int)) : lastx r t = r.getD ((t - 1) % (r.length : Int)).toNat 0 := by
  unfold lastx atI ixN
  by_cases h : 0 ≤ t - 1
  · rw [if_pos h, if_pos (by omega), Int.emod_eq_of_lt h (by omega), List.getD_eq_getElem?_getD]
    rfl
  · have e : t = 0 := by omega
    subst e
    rw [if_neg (by omega), if_pos (by omega)]
    have e2 : ((0 : Int) - 1) % (r.length : Int) = (0 - 1 + (r.length : Int)) := by
      rw [← Int.add_emod_right]
      exact Int.emod_eq_of_lt (by omega) (by omega)
    rw [e2, List.getD_eq_getElem?_getD]
    rfl
theorem exit_prev {rows : List (List Int)} {ts : List Int} (T : TurnsOk rows ts) {s : Nat} (h : s < rows.length) : exitOf rows (prevT rows ts s) s = lastx (rows.getD s []) (ts.getD s 0) := by
  obtain ⟨t0, t1⟩ := T.2 s h
  unfold exitOf prevT
  rw [gD_set_self (by rw [T.1]; exact h), lastx_eq t0 t1]
theorem next_prev {rows : List (List Int)} {ts : List Int} (W : Wf rows) (T : TurnsOk rows ts) {s : Nat} (h : s < rows.length) : nextT rows (prevT rows ts s) s = ts := by
  obtain ⟨t0, t1⟩ := T.2 s h
  have hl := (row_len W h).1
  unfold nextT prevT
  rw [gD_set_self (by rw [T.1]; exact h), List.set_set]
  have e : ((ts.getD s 0 - 1) % ((rows.getD s []).length : Int) + 1) % ((rows.getD s []).length : Int) = ts.getD s 0 := by
    rw [Int.emod_add_emod, show ts.getD s 0 - 1 + 1 = ts.getD s 0 by omega]
    exact Int.emod_eq_of_lt t0 t1
  rw [e]
  refine list_ext (by simp) fun i hi => ?_
  by_cases z : s = i
  · subst z; rw [gD_set_self (by rw [T.1]; exact h)]
  · rw [gD_set_ne z]
theorem ring_set {rows : List (List Int)} {st : Int} {ts : List Int} {s : Nat} {v : Int} {z : Int} (hz : z ≠ (s : Int)) (hz0 : -1 ≤ z) : ring rows st (ts.set s v) z = ring rows st ts z := by
  unfold ring
  by_cases h : z = -1
  · rw [if_pos h, if_pos h]
  · rw [if_neg h, if_neg h, gD_set_ne (by omega)]
section
variable {rows : List (List Int)} {st : Int} {ts : List Int} {x : Int}
theorem ahead_m {m m' : Nat} (A : Ahead rows st ts x m) (B : Ahead rows st ts x m') : m = m' := by
  by_cases h : m < m'
  · exact absurd A.back (B.first m h)
  · by_cases h' : m' < m
    · exact absurd B.back (A.first m' h')
    · omega
theorem back_step (W : Wf rows) (T : TurnsOk rows ts) (h0 : 0 ≤ st) (h1 : st < (rows.length : Int)) (U : Uni rows st ts x) {m : Nat} {s : Nat} (hs : s < rows.length) (e : goR rows st ts m x = (s : Int)) : Uni rows st (prevT rows ts s) (s : Int) := fun z z0 z1 => by
  obtain ⟨k, ek⟩ := U z z0 z1
  refine uni_move (ts := ts) (fun y y0 hy => ring_set hy y0) (fun j => (goR_bd W T h0 h1 j z0 z1).1) ⟨k + m, ?_⟩
  rw [goR_add, ek, e]
theorem walk_goR : ∀ (k : Nat) {z : Int}, (∀ j, j ≤ k → -1 ≤ goR rows st ts j z) → (∀ j, j < k → goR rows st ts j z ≠ -1) → walkN rows ts k z = goR rows st ts k z
  | 0, z, _, _ => rfl
  | k + 1, z, hb, hj => by
    show goOn rows ts (walkN rows ts k z) = ring rows st ts (goR rows st ts k z)
    rw [walk_goR k (fun j h => hb j (by omega)) fun j h => hj j (by omega)]
    have h1 := hj k (by omega)
    have h2 := hb k (by omega)
    unfold goOn ring
    rw [if_pos (by omega), if_neg h1]
theorem uni_tree (W : Wf rows) (T : TurnsOk rows ts) (h0 : 0 ≤ st) (h1 : st < (rows.length : Int)) (U : Uni rows st ts (-1)) : treeB rows ts = true := by
  rw [tree_all W T]
  intro i hi
  rw [tree_walk W T hi]
  obtain ⟨k, e, l⟩ := least_ex (U (i : Int) (by omega) (by omega))
  have hw := walk_goR (rows := rows) (st := st) (ts := ts) k (z := (i : Int)) (fun j _ => (goR_bd W T h0 h1 j (by omega) (by omega)).1) l
  have hlt : walkN rows ts k (i : Int) < 0 := by rw [hw, e]; decide
  rw [walk_rch W T k _ (by omega) (by omega)] at hlt
  rcases hlt with z | ⟨_, z⟩
  · omega
  · rw [Int.toNat_natCast] at z
    exact rch_of z
theorem tree_uni (W : Wf rows) (T : TurnsOk rows ts) (h0 : 0 ≤ st) (h1 : st < (rows.length : Int)) (h : treeB rows ts = true) : Uni rows st ts (-1) := fun z z0 z1 => by
  by_cases hz : z = -1
  · exact ⟨0, hz⟩
  · have hw := (tree_all W T).mp h z.toNat (by omega)
    rw [show ((z.toNat : Nat) : Int) = z by omega] at hw
    obtain ⟨k, e, l⟩ := least_ex (P := fun k => walkN rows ts k z < 0) ⟨_, hw⟩
    have key : ∀ j, j ≤ k → goR rows st ts j z = walkN rows ts j z := by
      intro j
      induction j with
      | zero => intro _; rfl
      | succ j ih =>
        intro hj
        have hn := l j (by omega)
        show ring rows st ts (goR rows st ts j z) = goOn rows ts (walkN rows ts j z)
        rw [ih (by omega)]
        unfold ring goOn
        rw [if_neg (by omega), if_pos (by omega)]
    refine ⟨k, ?_⟩
    rw [key k (Nat.le_refl _)]
    have := (walk_bd W T k z z0 z1).1
    omega
theorem start_tree (W : Wf rows) (T : TurnsOk rows ts) (h0 : 0 ≤ st) (h1 : st < (rows.length : Int)) (U : Uni rows st ts x) {m : Nat} (e : goR rows st ts m x = -1) : treeB rows ts = true :=
  uni_tree W T h0 h1 fun z z0 z1 => by
    obtain ⟨k, ek⟩ := U z z0 z1
    exact ⟨k + m, by rw [goR_add, ek, e]⟩
end
inductive Bk (rows : List (List Int)) (st : Int) (t0 : List Int) : Nat → List Int → Int → Prop
  | zero : Bk rows st t0 0 t0 (-1)
  | step {k : Nat} {T : List Int} {x : Int} {m s : Nat} : Bk rows st t0 k T x → Ahead rows st T x m → goR rows st T m x = (s : Int) → s < rows.length → Bk rows st t0 (k + 1) (prevT rows T s) (s : Int)
theorem Bk.ok {rows : List (List Int)} {st : Int} {t0 : List Int} (W : Wf rows) (T0 : TurnsOk rows t0) (h0 : 0 ≤ st) (h1 : st < (rows.length : Int)) (ht : treeB rows t0 = true) {k : Nat} {T : List Int} {x : Int} (B : Bk rows st t0 k T x) : TurnsOk rows T ∧ Uni rows st T x ∧ -1 ≤ x ∧ x < (rows.length : Int) := by
  induction B with
  | zero => exact ⟨T0, tree_uni W T0 h0 h1 ht, by omega, by omega⟩
  | step _ A e hs ih =>
    obtain ⟨T1, U1, _, _⟩ := ih
    exact ⟨prevT_ok W T1 hs, back_step W T1 h0 h1 U1 hs e, by omega, by omega⟩
theorem Bk.uniq {rows : List (List Int)} {st : Int} {t0 : List Int} : ∀ {k : Nat} {T T' : List Int} {x x' : Int}, Bk rows st t0 k T x → Bk rows st t0 k T' x' → T = T' ∧ x = x' := by
  intro k
  induction k with
  | zero =>
    intro T T' x x' A B
    cases A
    cases B
    exact ⟨rfl, rfl⟩
  | succ k ih =>
    intro T T' x x' A B
    cases A with
    | step A1 A2 A3 _ =>
      cases B with
      | step B1 B2 B3 _ =>
        obtain ⟨rfl, rfl⟩ := ih A1 B1
        have := ahead_m A2 B2
        subst this
        rw [A3] at B3
        have : _ = _ := Int.ofNat.inj B3
        subst this
        exact ⟨rfl, rfl⟩
def oneB (rows : List (List Int)) (T : List Int) (x : Int) (s : List Int) (w : Int) : Brd := ⟨rows, T, (if x = -1 then List.replicate rows.length 0 else (List.replicate rows.length 0).set x.toNat 1), s, (if x = -1 then w + 1 else w)⟩
theorem rep_get (n i : Nat) : (List.replicate n (0 : Int)).getD i 0 = 0 := by
  rw [List.getD_eq_getElem?_getD, List.getElem?_replicate]
  split <;> rfl
theorem one_ok {rows : List (List Int)} {T : List Int} {x : Int} {s : List Int} {w : Int} (W : Wf rows) (hT : TurnsOk rows T) (hs : s.length = rows.length) : BrdOk (oneB rows T x s w) := by
  refine ⟨W, hT, ?_, hs, fun i => ?_⟩
  · show (if x = -1 then _ else _ : List Int).length = rows.length
    split <;> simp
  · show 0 ≤ (if x = -1 then List.replicate rows.length 0 else (List.replicate rows.length 0).set x.toNat 1 : List Int).getD i 0
    split
    · rw [rep_get]; exact Int.le_refl _
    · by_cases e : x.toNat = i
      · subst e
        by_cases h : x.toNat < (List.replicate rows.length (0 : Int)).length
        · rw [gD_set_self h]; decide
        · rw [List.set_eq_of_length_le (by omega), rep_get]; exact Int.le_refl _
      · rw [gD_set_ne e, rep_get]; exact Int.le_refl _
theorem one_pit {rows : List (List Int)} {T s : List Int} {w : Int} : ladenL (oneB rows T (-1) s w).loads = [] := laden_none fun i _ => by
  show (if (-1 : Int) = -1 then List.replicate rows.length 0 else (List.replicate rows.length 0).set (-1 : Int).toNat 1 : List Int).getD i 0 ≤ 0
  rw [if_pos rfl, rep_get]
  exact Int.le_refl _
theorem one_head {rows : List (List Int)} {T s : List Int} {w : Int} {p : Nat} (hp : p < rows.length) : (ladenL (oneB rows T (p : Int) s w).loads).head? = some p := by
  have e : (oneB rows T (p : Int) s w).loads = (List.replicate rows.length 0).set p 1 := by
    unfold oneB
    dsimp only
    rw [if_neg (by omega), Int.toNat_natCast]
  rw [e]
  refine head_laden (by simpa using hp) (by rw [gD_set_self (by simpa using hp)]; decide) fun i hi => ?_
  rw [gD_set_ne (by omega), rep_get]
  exact Int.le_refl _
theorem one_step {rows : List (List Int)} {T s : List Int} {w : Int} {p : Nat} (W : Wf rows) (hT : TurnsOk rows T) (hp : p < rows.length) : stepB (oneB rows T (p : Int) s w) p = oneB rows (nextT rows T p) (exitOf rows T p) (s.set p (s.getD p 0 + 1)) w := by
  have e : (oneB rows T (p : Int) s w).loads = (List.replicate rows.length 0).set p 1 := by
    unfold oneB
    dsimp only
    rw [if_neg (by omega), Int.toNat_natCast]
  have ew : (oneB rows T (p : Int) s w).taken = w := by
    unfold oneB
    dsimp only
    rw [if_neg (by omega)]
  have hl : p < (List.replicate rows.length (0 : Int)).length := by simpa using hp
  have e1 : ((List.replicate rows.length (0 : Int)).set p 1).set p (((List.replicate rows.length (0 : Int)).set p 1).getD p 0 - 1) = List.replicate rows.length 0 := by
    rw [gD_set_self hl, List.set_set]
    refine list_ext (by simp) fun i hi => ?_
    by_cases z : p = i
    · subst z; rw [gD_set_self hl, rep_get]; rfl
    · rw [gD_set_ne z]
  refine brd_ext rfl rfl ?_ rfl ?_
  · show moveL (oneB rows T (p : Int) s w).loads p (exitOf rows T p) = (if exitOf rows T p = -1 then List.replicate rows.length 0 else (List.replicate rows.length 0).set (exitOf rows T p).toNat 1)
    rw [e]
    unfold moveL
    rw [e1, rep_get]
    rfl
  · show moveT (oneB rows T (p : Int) s w).taken (exitOf rows T p) = (if exitOf rows T p = -1 then w + 1 else w)
    rw [ew]
    rfl
theorem iter_in : ∀ (k : Nat) (b : Brd), iterR (k + 1) b = iterR k (nxt b)
  | 0, b => rfl
  | k + 1, b => by
    show nxt (iterR (k + 1) b) = nxt (iterR k (nxt b))
    rw [iter_in k b]
theorem run_uniq {b : Brd} {N N' : Nat} (A : RunTo b N) (B : RunTo b N') : N = N' := by
  by_cases h : N < N'
  · exact absurd A.done (B.more N h)
  · by_cases h' : N' < N
    · exact absurd B.done (A.more N' h')
    · omega
theorem bk_run {rows : List (List Int)} {st : Int} {t0 : List Int} (W : Wf rows) (T0 : TurnsOk rows t0) (h0 : 0 ≤ st) (h1 : st < (rows.length : Int)) (ht : treeB rows t0 = true) {k : Nat} {T : List Int} {x : Int} (B : Bk rows st t0 k T x) : ∀ (s : List Int) (w : Int), s.length = rows.length → RunTo (oneB rows T x s w) k ∧ ∃ s', s'.length = rows.length ∧ iterR k (oneB rows T x s w) = oneB rows t0 (-1) s' w := by
  induction B with
  | zero => exact fun s w hs => ⟨⟨one_pit, fun i hi => by omega⟩, s, hs, rfl⟩
  | @step k T x m p Bp A e hp ih =>
    intro s w hs
    obtain ⟨T1, U1, _, _⟩ := Bp.ok W T0 h0 h1 ht
    have hx : exitOf rows (prevT rows T p) p = x := by
      rw [exit_prev T1 hp]
      have := A.back
      have e2 : ring rows st T (goR rows st T m x) = x := this
      rw [e] at e2
      unfold ring at e2
      rw [if_neg (by omega), Int.toNat_natCast] at e2
      exact e2
    have hn : nxt (oneB rows (prevT rows T p) (p : Int) s w) = oneB rows T x (s.set p (s.getD p 0 + 1)) w := by
      rw [nxt_some (one_head hp), one_step W (prevT_ok W T1 hp) hp, next_prev W T1 hp, hx]
    obtain ⟨RT, s', hs', e'⟩ := ih (s.set p (s.getD p 0 + 1)) w (by rw [List.length_set]; exact hs)
    refine ⟨⟨by rw [iter_in, hn]; exact RT.done, fun i hi => ?_⟩, s', hs', by rw [iter_in, hn]; exact e'⟩
    cases i with
    | zero =>
      intro z
      have := one_head (T := prevT rows T p) (s := s) (w := w) hp
      rw [show ladenL (oneB rows (prevT rows T p) (p : Int) s w).loads = [] from z] at this
      cases this
    | succ i =>
      rw [iter_in, hn]
      exact RT.more i (by omega)
theorem bk_le {rows : List (List Int)} {st : Int} {t0 : List Int} {M : Int} (W : Wf rows) (T0 : TurnsOk rows t0) (h0 : 0 ≤ st) (h1 : st < (rows.length : Int)) (ht : treeB rows t0 = true) (tm : Tame rows M) (hM : 1 ≤ M) {k : Nat} {T : List Int} {x : Int} (B : Bk rows st t0 k T x) : k ≤ 20000 := by
  obtain ⟨T1, U1, _, hx1⟩ := B.ok W T0 h0 h1 ht
  have O := one_ok (x := x) (s := List.replicate rows.length 0) (w := 0) W T1 (by simp)
  obtain ⟨RT, _⟩ := bk_run W T0 h0 h1 ht B (List.replicate rows.length 0) 0 (by simp)
  have hrs : ∀ n : Nat, (List.replicate n (0 : Int)).sum = 0 := fun n => by
    induction n with
    | zero => rfl
    | succ m ih => rw [List.replicate_succ, List.sum_cons, ih]; rfl
  obtain ⟨N, hN, RT'⟩ := run_ex O tm (by
    show (if x = -1 then List.replicate rows.length 0 else (List.replicate rows.length 0).set x.toNat 1 : List Int).sum ≤ M
    split
    · rw [hrs]; omega
    · by_cases h : x.toNat < (List.replicate rows.length (0 : Int)).length
      · rw [sum_set h, hrs, rep_get]; omega
      · rw [List.set_eq_of_length_le (by omega), hrs]; omega)
  rw [run_uniq RT RT']
  exact hN
theorem bk_end {rows : List (List Int)} {st : Int} {t0 : List Int} (W : Wf rows) (T0 : TurnsOk rows t0) (h0 : 0 ≤ st) (h1 : st < (rows.length : Int)) (ht : treeB rows t0 = true) {k : Nat} {T : List Int} {x : Int} (B : Bk rows st t0 k T x) {m : Nat} (A : Ahead rows st T x m) (e : goR rows st T m x = -1) : x = st ∧ treeB rows T = true := by
  obtain ⟨T1, U1, _, _⟩ := B.ok W T0 h0 h1 ht
  refine ⟨?_, start_tree W T1 h0 h1 U1 e⟩
  have e2 : ring rows st T (goR rows st T m x) = x := A.back
  rw [e] at e2
  unfold ring at e2
  rw [if_pos rfl] at e2
  exact e2.symm
theorem bk_mid {rows : List (List Int)} {st : Int} {t0 : List Int} : ∀ {N : Nat} {T : List Int} {x : Int}, Bk rows st t0 N T x → ∀ k, k < N → ∃ T' x' m s, Bk rows st t0 k T' x' ∧ Ahead rows st T' x' m ∧ goR rows st T' m x' = ((s : Nat) : Int) := by
  intro N
  induction N with
  | zero => intro T x _ k hk; omega
  | succ N ih =>
    intro T x B k hk
    cases B with
    | @step _ T1 x1 m s B1 A e hs =>
      by_cases h : k = N
      · subst h; exact ⟨T1, x1, m, s, B1, A, e⟩
      · exact ih B1 k (by omega)
theorem bk_just {rows : List (List Int)} {st : Int} {t0 T T' : List Int} {N N' m : Nat} {x x' : Int} {m' : Nat} (B : Bk rows st t0 N T x) (A : Ahead rows st T x m) (e : goR rows st T m x = -1) (B' : Bk rows st t0 N' T' x') (A' : Ahead rows st T' x' m') (e' : goR rows st T' m' x' = -1) : N = N' ∧ T = T' := by
  have key : ∀ {N N' m : Nat} {T T' : List Int} {x x' : Int}, Bk rows st t0 N T x → Ahead rows st T x m → goR rows st T m x = -1 → Bk rows st t0 N' T' x' → ¬ N < N' := fun {N N' m T T' x x'} B A e B' h => by
    obtain ⟨T2, x2, m2, s, B2, A2, e2⟩ := bk_mid B' N h
    obtain ⟨rfl, rfl⟩ := B.uniq B2
    have := ahead_m A A2
    subst this
    rw [e] at e2
    omega
  have h1 := key B A e B'
  have h2 := key B' A' e' B
  have : N = N' := by omega
  subst this
  exact ⟨rfl, (B.uniq B').1⟩
theorem bk_not {rows : List (List Int)} {st : Int} {t0 T T' : List Int} {N k m : Nat} {x x' : Int} (B : Bk rows st t0 N T x) (A : Ahead rows st T x m) (e : goR rows st T m x = -1) (B' : Bk rows st t0 k T' x') : ¬ N < k := fun h => by
  obtain ⟨T2, x2, m2, s, B2, A2, e2⟩ := bk_mid B' N h
  obtain ⟨rfl, rfl⟩ := B.uniq B2
  have := ahead_m A A2
  subst this
  rw [e] at e2
  omega
end Com
set_option Elab.async false
set_option linter.all false
namespace Com
section
variable {f g : List Rw → Int} {n : Nat} {x y : Rw} {c : Nat}
end
section
variable {f : List Rw → Int} {n : Nat} {x y : Rw} {a b : Int} {c : Nat}
end
end Com
set_option Elab.async false
set_option linter.all false
namespace Com
theorem pigeon : ∀ (n : Nat) (f : Nat → Nat), (∀ k, k ≤ n → f k < n) → ∃ a b, a < b ∧ b ≤ n ∧ f a = f b
  | 0, f, h => absurd (h 0 (Nat.le_refl _)) (Nat.not_lt_zero _)
  | n + 1, f, h => by
    by_cases hx : ∃ a, a ≤ n ∧ f a = f (n + 1)
    · obtain ⟨a, h1, h2⟩ := hx
      exact ⟨a, n + 1, by omega, Nat.le_refl _, h2⟩
    · have hne : ∀ a, a ≤ n → f a ≠ f (n + 1) := fun a ha e => hx ⟨a, ha, e⟩
      have hv := h (n + 1) (Nat.le_refl _)
      obtain ⟨a, b, h1, h2, h3⟩ := pigeon n (fun k => if f (n + 1) < f k then f k - 1 else f k) fun k hk => by
        have := h k (by omega)
        have := hne k hk
        split <;> omega
      refine ⟨a, b, h1, by omega, ?_⟩
      have := hne a (by omega)
      have := hne b (by omega)
      split at h3 <;> split at h3 <;> omega
end Com
set_option Elab.async false
set_option linter.all false
set_option maxRecDepth 100000
set_option maxHeartbeats 4000000
namespace Com
def rnk (rows : List (List Int)) (e : Int) : Nat := if e < 0 then 0 else 1 + (if reachN rows 1 e.toNat = true then 0 else 1) + (if reachN rows 2 e.toNat = true then 0 else 1) + (if reachN rows 3 e.toNat = true then 0 else 1)
def wgt : Nat → Int
  | 0 => 0
  | 1 => 81
  | 2 => 108
  | 3 => 117
  | _ => 120
theorem wgt_le (k : Nat) : 0 ≤ wgt k ∧ wgt k ≤ 120 := by
  match k with
  | 0 | 1 | 2 | 3 => decide
  | k + 4 => exact ⟨(by decide : (0 : Int) ≤ 120), (by decide : (120 : Int) ≤ 120)⟩
theorem rnk_le (rows : List (List Int)) (e : Int) : rnk rows e ≤ 4 := by
  unfold rnk
  split
  · omega
  · split <;> split <;> split <;> omega
theorem rnk_site {rows : List (List Int)} {i : Nat} : rnk rows (i : Int) = 1 + (if reachN rows 1 i = true then 0 else 1) + (if reachN rows 2 i = true then 0 else 1) + (if reachN rows 3 i = true then 0 else 1) := by
  unfold rnk
  rw [if_neg (by omega), Int.toNat_natCast]
theorem rnk_of {rows : List (List Int)} {e : Int} {k : Nat} (h : e = -1 ∨ 0 ≤ e ∧ reachN rows k e.toNat = true) (hk : k ≤ 3) : rnk rows e ≤ k := by
  unfold rnk
  rcases h with h | ⟨h0, h⟩
  · rw [if_pos (by omega)]; omega
  · rw [if_neg (by omega)]
    match k, hk, h with
    | 0, _, h => cases h
    | 1, _, h => rw [if_pos h, if_pos (reachN_le rows (by decide : 1 ≤ 2) h), if_pos (reachN_le rows (by decide : 1 ≤ 3) h)]; omega
    | 2, _, h => rw [if_pos h, if_pos (reachN_le rows (by decide : 2 ≤ 3) h)]; split <;> omega
    | 3, _, h => rw [if_pos h]; split <;> split <;> omega
theorem reach_exit {rows : List (List Int)} {k i : Nat} (h : reachN rows (k + 1) i = true) : ∃ e ∈ rows.getD i [], e = -1 ∨ 0 ≤ e ∧ reachN rows k e.toNat = true := by
  unfold reachN at h
  obtain ⟨e, he, q⟩ := List.any_eq_true.mp h
  refine ⟨e, he, ?_⟩
  rw [Bool.or_eq_true, Bool.and_eq_true] at q
  rcases q with q | ⟨q1, q2⟩
  · exact .inl (by simpa using q)
  · exact .inr ⟨of_decide_eq_true q1, q2⟩
theorem rnk_down {rows : List (List Int)} {i : Nat} (h4 : reachN rows 4 i = true) : ∃ e ∈ rows.getD i [], rnk rows e + 1 ≤ rnk rows (i : Int) := by
  rw [rnk_site]
  by_cases h1 : reachN rows 1 i = true
  · obtain ⟨e, he, q⟩ := reach_exit h1
    have := rnk_of q (by decide)
    exact ⟨e, he, by omega⟩
  rw [if_neg h1]
  by_cases h2 : reachN rows 2 i = true
  · obtain ⟨e, he, q⟩ := reach_exit h2
    have := rnk_of q (by decide)
    exact ⟨e, he, by omega⟩
  rw [if_neg h2]
  by_cases h3 : reachN rows 3 i = true
  · obtain ⟨e, he, q⟩ := reach_exit h3
    have := rnk_of q (by decide)
    exact ⟨e, he, by omega⟩
  rw [if_neg h3]
  obtain ⟨e, he, q⟩ := reach_exit h4
  have := rnk_of q (by decide)
  exact ⟨e, he, by omega⟩
theorem wgt_step {j k : Nat} (h : j + 1 ≤ k) (hk : k ≤ 4) : (120 - wgt k + 1) * 2 ≤ wgt k - wgt j - 1 := by
  match k, hk, j, h with
  | 1, _, 0, _ => decide
  | 2, _, 0, _ | 2, _, 1, _ => decide
  | 3, _, 0, _ | 3, _, 1, _ | 3, _, 2, _ => decide
  | 4, _, 0, _ | 4, _, 1, _ | 4, _, 2, _ | 4, _, 3, _ => decide
theorem sum_box {g : Int → Int} {lo hi : Int} (hl : lo ≤ 0) (hh : 0 ≤ hi) : ∀ {r : List Int}, r.length ≤ 3 → (∀ e ∈ r, lo ≤ g e ∧ g e ≤ hi) → 3 * lo ≤ (r.map g).sum ∧ (r.map g).sum ≤ 3 * hi
  | [], _, _ => by simp; omega
  | [a], _, h => by
    have := h a (by simp)
    simp; omega
  | [a, b], _, h => by
    have := h a (by simp)
    have := h b (by simp)
    simp; omega
  | [a, b, c], _, h => by
    have := h a (by simp)
    have := h b (by simp)
    have := h c (by simp)
    simp; omega
  | a :: b :: c :: d :: r, h, _ => by simp at h
theorem sum_good {g : Int → Int} {lo : Int} (hl : lo ≤ 0) : ∀ {r : List Int}, r.length ≤ 3 → (∀ e ∈ r, lo ≤ g e) → (∃ e ∈ r, -lo * 2 ≤ g e) → 0 ≤ (r.map g).sum
  | [], _, _, ⟨e, he, _⟩ => by cases he
  | [a], _, h, ⟨e, he, q⟩ => by
    have := h a (by simp)
    simp only [List.mem_cons, List.not_mem_nil, or_false] at he
    subst he
    simp; omega
  | [a, b], _, h, ⟨e, he, q⟩ => by
    have := h a (by simp)
    have := h b (by simp)
    simp only [List.mem_cons, List.not_mem_nil, or_false] at he
    rcases he with rfl | rfl <;> (simp; omega)
  | [a, b, c], _, h, ⟨e, he, q⟩ => by
    have := h a (by simp)
    have := h b (by simp)
    have := h c (by simp)
    simp only [List.mem_cons, List.not_mem_nil, or_false] at he
    rcases he with rfl | rfl | rfl <;> (simp; omega)
  | a :: b :: c :: d :: r, h, _, _ => by simp at h
theorem tame_open {rows : List (List Int)} (W : Wf rows) (hn : rows.length ≤ 4) (h3 : ∀ r ∈ rows, r.length ≤ 3) (op : ∀ i, i < rows.length → rch rows i = true) : Tame rows 30 := by
  have hi1 : ∀ i, i < rows.length → 81 ≤ wgt (rnk rows (i : Int)) := fun i hi => by
    have h1 : 1 ≤ rnk rows (i : Int) := by rw [rnk_site]; omega
    have h2 := rnk_le rows (i : Int)
    match rnk rows (i : Int), h1, h2 with
    | 1, _, _ | 2, _, _ | 3, _, _ | 4, _, _ => decide
  have len3 : ∀ i, i < rows.length → (rows.getD i []).length ≤ 3 := fun i hi => h3 _ (gD_mem hi)
  have box : ∀ i, i < rows.length → ∀ e : Int, -40 ≤ wgt (rnk rows (i : Int)) - wgt (rnk rows e) - 1 ∧ wgt (rnk rows (i : Int)) - wgt (rnk rows e) - 1 ≤ 119 := fun i hi e => by
    have := hi1 i hi
    have := wgt_le (rnk rows e)
    have := wgt_le (rnk rows (i : Int))
    omega
  refine ⟨fun e => wgt (rnk rows e), 120, 120, 357, ?_, fun i hi => (wgt_le _).1, fun i hi => (wgt_le _).2, fun i hi => ?_, fun i hi t ht => ?_, fun i hi t ht => ?_, by decide, by omega⟩
  · show wgt (rnk rows (-1)) = 0
    unfold rnk
    rw [if_pos (by decide)]
    rfl
  · unfold dropW
    dsimp only
    rw [List.take_length]
    have h4 : reachN rows 4 i = true := reachN_le rows hn (op i hi)
    obtain ⟨e, he, q⟩ := rnk_down h4
    have w0 := wgt_le (rnk rows (i : Int))
    refine sum_good (lo := -(120 - wgt (rnk rows (i : Int)) + 1)) (by omega) (len3 i hi) (fun e' _ => ?_) ⟨e, he, ?_⟩
    · have := wgt_le (rnk rows e')
      omega
    · have := wgt_step q (rnk_le rows _)
      omega
  · unfold dropW
    dsimp only
    have := (sum_box (g := fun e => wgt (rnk rows (i : Int)) - wgt (rnk rows e) - 1) (lo := -40) (hi := 119) (by decide) (by decide) (r := (rows.getD i []).take t) (by rw [List.length_take]; have := len3 i hi; omega) fun e _ => box i hi e).1
    omega
  · unfold dropW
    dsimp only
    have := (sum_box (g := fun e => wgt (rnk rows (i : Int)) - wgt (rnk rows e) - 1) (lo := -40) (hi := 119) (by decide) (by decide) (r := (rows.getD i []).take t) (by rw [List.length_take]; have := len3 i hi; omega) fun e _ => box i hi e).2
    omega
end Com
set_option Elab.async false
set_option linter.all false
set_option maxRecDepth 100000
set_option maxHeartbeats 4000000
namespace L2
open PySem PySem.Spec PyProof.Rows
def tTryR (t : XK → TE) (th : Value → TS) : TS := fun D σ H => ∃ E : XK, (t E σ H fun v H1 => D.rt v H1) ∧ ∀ cls H', E cls none H' → th cls D σ H'
section
variable {X : Cx} {ex : Expr} {t : XK → TE} {th : Value → TS} {h₀ : ExceptHandler} {hs : List ExceptHandler} {p1 pos : Pos}
theorem ps_tryR (hst : X.stack = X.env :: X.outer) (hfr : X.env.frame = some X.env.locals) (hx : PX X ex t) (hh : PH X (h₀ :: hs) th) : PS X (.Try [.Return (some ex) p1] (h₀ :: hs) [] [] pos) (tTryR t th) := by
  intro pins s σ H D I ⟨E, h, hE⟩
  refine wpAny_Try_except (wpAny_execs_cons (wpAny_Return_some (thn (hx _ E pins s σ H _ I h fun e cls H' s' F q => ?_) fun v s1 ⟨x, H1, I1, r1, q1⟩ => ?_)))
  · exact F.land I.ok.frames hst hfr fun s2 F2 => hh e cls pins s2 σ H' D F2 (hE cls H' q)
  · exact ⟨x, σ, H1, I1, r1, q1⟩
end
end L2
set_option Elab.async false
set_option linter.all false
set_option maxRecDepth 100000
set_option maxHeartbeats 4000000
namespace L2
open PySem PySem.Spec PyProof.Rows
def cxH (P : Program) (w : World) (K : PySem.W.Frag) (mg : Str → Option Value) (base : Heap) (N : List Str) (qual : Str) (scope : Scope) (f : Addr) (cd : Value) (A : Around) (outer : List Env) (s : Shared) (H : Hp) : Cx :=
  { cxOf CX0 P w K mg base N qual scope f cd A outer s H E0 with calm := false }
theorem env_unmark {P : Program} {w : World} {K : PySem.W.Frag} {mg : Str → Option Value} {base : Heap} {A : Around} {outer : List Env} {s : Shared} {H : Hp} (e : Env0 P w K mg base A outer s H) : Env0 P w K mg base { A with handled := none } outer s H :=
  ⟨e.frames, e.mod, e.bs, e.bsz, e.funs, e.frf, e.hok, e.bare⟩
theorem inv_startH {P : Program} {w : World} {K : PySem.W.Frag} {mg : Str → Option Value} {base : Heap} {N ps : List Str} {qual : Str} {scope : Scope} {f : Addr} {cd : Value} {A : Around} {outer : List Env} {s s1 : Shared} {H : Hp} {us : List Value} {vs : List V}
    (S : FnScope N ps scope) (e0 : Env0 P w K mg base A outer s H) (hl : vs.length = ps.length) (r : Vals vs us)
    (x : InCallC s s.heap.objs.size (bindL (envOfC qual scope s.heap.objs.size f cd).kindOf (ps.zip us) fun _ => none) (cellsFrom (s.heap.objs.size + 1) scope.names []) (bindC (envOfC qual scope s.heap.objs.size f cd).kindOf (ps.zip us) fun _ => none) s1) :
    Inv (cxH P w K mg base N qual scope f cd A outer s H) [] (start N vs) H s1 := by
  have I := inv_start (CX := CX0) (E := E0) (A := { A with handled := none }) S rfl (env_unmark e0) hl r x
  have ok := I.ok
  exact ⟨⟨ok.mod, ok.kind, ok.glob, ok.blt, ok.above, ok.inj, ok.has, ok.cab, (fun z => by cases z), Around.frames_deeper e0.frames, ok.stk, ok.exf, ok.bs, ok.bsz, ok.noex, ok.exfs, ok.funs, ok.frf⟩, I.os, I.bare, I.base, I.loc, I.cell, I.free, I.freeC, I.pin, I.hok, I.len⟩
structure FnH (P : Program) (w : World) (K : PySem.W.Frag) (mg : Str → Option Value) (base : Heap) (f : Addr) (fd : FuncData) (ps : List Str) (sp : Sp) : Prop where
  len : ∀ vs H Q E, sp vs H Q E → vs.length = ps.length
  run : ∀ (A : Around) (outer : List Env) (s : Shared) (H : Hp) (args : Args) (us : List Value) (vs : List V) (Q : VK), A.depth < recursionLimit → Env0 P w K mg base A outer s H → BindsTo s fd args (ps.zip us) → Vals vs us → sp vs H Q E0 →
    codeAny (model P w) A (.call (.ref f) args) (CR CX0 outer P w H s Q E0) s
theorem Fun.okH {P : Program} {w : World} {K : PySem.W.Frag} {mg : Str → Option Value} {base : Heap} {x qual : Str} {st : Stmt} {f : Addr} {fd : FuncData} {N ps : List Str} {sp : Sp} (F : Fun K x qual st f fd) (S : FnScope N ps (defScope st)) (len : ∀ vs H Q E, sp vs H Q E → vs.length = ps.length)
    (hbody : ∀ (cdv : Value) (A : Around) (outer : List Env) (s : Shared) (H : Hp) (vs : List V) (Q : VK), sp vs H Q E0 →
      ∃ t, PSs (cxH P w K mg base N qual (defScope st) f cdv A outer s H) (defBody st) t ∧ t { nx := fun _ H' => Q .non H', rt := Q } (start N vs) H) : FnH P w K mg base f fd ps sp := by
  obtain ⟨oc, od, kV, doc, pm, an, cdv, ct, osl, rfl, lk, hcd⟩ := F.ex
  refine ⟨len, fun A outer s H args us vs Q hdp e0 hb r hsp => ?_⟩
  have KX : K.In s.heap := e0.mod.kin.keeps fun b o e => (e0.bs b o e).1
  have hkind : ∀ y ∈ ps.zip us, (defScope st).names.lookup y.1 = some .local ∨ ((defScope st).names.lookup y.1 = some .cell ∧ ((cellsFrom (s.heap.objs.size + 1) (defScope st).names []).lookup y.1).isSome = true) := fun y hy =>
    (S.par y.1 (List.of_mem_zip (a := y.1) (b := y.2) hy).1).elim .inl fun q => .inr ⟨q, PySem.W.cellsFrom_some _ _ _ (.inl q)⟩
  refine codeAny_call_function hdp (KX _ _ lk) rfl S.co S.gen rfl (PySem.W.codeRec_of KX hcd) (hb _ _ _ _ (wpAny_newFunctionEnv_cells S.kind hkind fun env he s1 x => ?_))
  subst he
  refine ⟨(e0.mod.nolimit.keeps fun b o e => (e0.bs b o e).1).keeps x.toInCall.keep, codeAny_func ?_⟩
  obtain ⟨t, ht, hq⟩ := hbody cdv A outer s H vs Q hsp
  have I := inv_startH (K := K) (mg := mg) (qual := qual) (f := f) (cd := cdv) S e0 (len _ _ _ _ hsp) r x
  refine wpAny_mono (ht [] s1 (start N vs) H _ I hq) (fun fl s' hs => ?_) fun e s' hs => hs
  cases fl with
  | ret u => obtain ⟨v, σ', H', J, rv, q⟩ := hs; exact ⟨v, H', J.os, J.bare, J.base, J.hok, rv, q⟩
  | next => obtain ⟨σ', H', J, q⟩ := hs; exact ⟨V.non, H', J.os, J.bare, J.base, J.hok, rfl, q⟩
  | brk => obtain ⟨_, _, _, q⟩ := hs; exact False.elim q
  | cont => obtain ⟨_, _, _, q⟩ := hs; exact False.elim q
section
variable {X : Cx} {f : Addr} {fd : FuncData} {ps : List Str} {sp : Sp} {x : Str} {p pos : Pos} {e : Expr} {es : List Expr} {t : TA}
theorem pe_callH (F : FnH X.prog X.w X.K X.mg X.base f fd ps sp) (hdp : X.A.depth < recursionLimit) (hg : Gl X x) (hm : X.mg x = some (.ref f)) (hk : PySem.W.keepIn X.K (.ref f) = true) (hb : Binds X.K fd ps [])
    (ha : PA X (e :: es) t) (hdb : (x == ("__debug__" : Str)) = false := by decide) (he : starEach (e :: es) X.env = (false, eval e X.env) :: starEach es X.env := by rfl) (hpl : (backTo pos (starEach es X.env)).any (·.1) = false := by rfl) :
    PE X (.Call (.Name x p) (e :: es) [] pos) (tCall sp [] E0 t) := by
  intro pins s σ H Q I h
  refine wpAny_Call_Name_kw (ld_glob I hg hm ?_ hdb)
  refine PySem.W.callWith_K (h₀ := X.base) I.ok.mod.kin hk (thn (ha pos pins s σ H _ I h) fun us s1 ⟨vs, H1, I1, r, q⟩ => ⟨I1.kIn, ?_⟩) he hpl
  have q' : sp (vs ++ []) H1 Q E0 := q
  rw [List.append_nil] at q'
  have hb' := hb s1 us I1.kIn (by rw [List.append_nil, ← r.length]; exact F.len _ _ _ _ q')
  rw [List.append_nil] at hb'
  refine wpAny_call (codeAny_mono (F.run X.A X.stack s1 H1 ⟨us, []⟩ us vs Q hdp I1.env0 hb' r q') fun r s' hq => ?_)
  cases r with
  | error e => exact False.elim hq
  | ok fl => cases fl with
    | ret u => exact I1.after hq
    | next => exact False.elim hq
    | brk => exact False.elim hq
    | cont => exact False.elim hq
end
end L2
set_option Elab.async false
set_option linter.all false
set_option maxRecDepth 100000
set_option maxHeartbeats 4000000
namespace L2
open PySem PySem.Spec PyProof.Rows
section
variable {X : Cx} {K : PySem.W.Frag}
theorem op_eqT (hu : X.A.units + (0 + 1) < cLine) : OpR X (compareOp .Eq) (rAlikeT X.K true) := by
  intro pins s σ H x y v u Q I rx ry h
  obtain ⟨⟨a, b, xs, ys, ex, ey, ha, hb, hl, he⟩, q⟩ := h
  subst ex ey
  cases rx
  cases ry
  obtain ⟨its, rv, pl, hz⟩ := I.tuple ha
  obtain ⟨its2, rv2, pl2, hz2⟩ := I.tuple hb
  have l1 := rv.length
  have l2 := rv2.length
  have r := SeqAt.RcAt.tuples (A := X.A) (s := s) (e := fun _ => true) (show s.heap.IsTuple a its.toArray from pl) (show s.heap.IsTuple b its2.toArray from pl2) (by omega) (alike_items I hu rv rv2 hl he)
  rw [all_true, show (its.toArray.size == its2.toArray.size) = true by simp only [List.size_toArray, beq_iff_eq]; omega] at r
  exact r X.prog X.w X.xe _ ⟨.bl true, H, I, rfl, q⟩
theorem op_eqTV (hu : X.A.units + (0 + 1) < cLine) : OpR X (compareOp .Eq) (fun x y H Q => rAlikeT X.K true x y H Q ∨ rEq x y H Q) := by
  intro pins s σ H x y v u Q I rx ry h
  rcases h with h | h
  · exact op_eqT hu pins s σ H x y v u Q I rx ry h
  · exact op_eq pins s σ H x y v u Q I rx ry h
theorem op_eqTVK (hK : X.K = K) (hu : X.A.units + (0 + 1) < cLine) : OpR X (compareOp .Eq) (fun x y H Q => rAlikeT K true x y H Q ∨ rEq x y H Q) := hK ▸ op_eqTV hu
def rSameL (K : PySem.W.Frag) : R2 := fun x y H Q => ∃ (a b : Addr) (rs : List Addr), x = .ref a ∧ y = .ref b ∧ SqL K H a (rs.map V.ref) ∧ SqL K H b (rs.map V.ref) ∧ Q (.bl false) H
theorem op_neSame (hu : X.A.units + (0 + 1) < cLine) : OpR X (compareOp .NotEq) (rSameL X.K) := by
  intro pins s σ H x y v u Q I rx ry h
  obtain ⟨a, b, rs, ex, ey, ha, hb, q⟩ := h
  subst ex ey
  cases rx
  cases ry
  obtain ⟨its, rv, pl, hz⟩ := I.list ha
  obtain ⟨its2, rv2, pl2, hz2⟩ := I.list hb
  have l1 := rv.length
  have l2 := rv2.length
  rw [List.length_map] at l1 l2
  have r := SeqAt.RcNeAt.lists (A := X.A) (s := s) (e := fun _ => true) pl.isList pl2.isList (by simp only [List.size_toArray]; omega) (by omega) (fun j h1 h2 => by
    simp only [List.size_toArray] at h1 h2
    have g : (rs.map V.ref)[j]? = some (V.ref (rs.getD j 0)) := by rw [List.getElem?_map, List.getElem?_eq_getElem (by omega), List.getD_eq_getElem?_getD, List.getElem?_eq_getElem (by omega)]; rfl
    obtain ⟨w1, e1, r1⟩ := rv.get g
    obtain ⟨w2, e2, r2⟩ := rv2.get g
    have f1 : its.toArray[j] = w1 := by
      rw [List.getElem?_eq_getElem h1] at e1
      simpa using Option.some.inj e1
    have f2 : its2.toArray[j] = w2 := by
      rw [List.getElem?_eq_getElem h2] at e2
      simpa using Option.some.inj e2
    rw [f1, f2]
    cases r1
    cases r2
    exact SeqAt.EqAt.same _)
  rw [all_true] at r
  exact r X.prog X.w X.xe _ ⟨.bl false, H, I, rfl, q⟩
theorem op_neSameK (hK : X.K = K) (hu : X.A.units + (0 + 1) < cLine) : OpR X (compareOp .NotEq) (rSameL K) := hK ▸ op_neSame hu
end
end L2
namespace Com
open PySem L2
inductive Deed where
  | load (z y : Int)
  | turn (z y : Int)
  | step (z : Int)
  | run (m : Int)
  | back (z m : Int)
inductive Ans where
  | non
  | int (i : Int)
  | ref (s : String)
def Deed.vs : Deed → List V
  | .load z y => [.str (Str.ofString "load"), .int z, .int y]
  | .turn z y => [.str (Str.ofString "turn"), .int z, .int y]
  | .step z => [.str (Str.ofString "step"), .int z]
  | .run m => [.str (Str.ofString "run"), .int m]
  | .back z m => [.str (Str.ofString "back"), .int z, .int m]
def Ins1 (b : Brd) (z : Int) : Prop := 0 ≤ z ∧ z < (b.rows.length : Int)
def Does (b : Brd) : Deed → Brd → Ans → Prop
  | .load z y, b', a => (¬ Ins1 b z ∧ a = .ref "NoSite" ∧ b' = b) ∨ (Ins1 b z ∧ 400 < b.loads.sum + y ∧ a = .ref "TooMany" ∧ b' = b) ∨ (Ins1 b z ∧ b.loads.sum + y ≤ 400 ∧ a = .non ∧ b' = { b with loads := b.loads.set z.toNat (b.loads.getD z.toNat 0 + y) })
  | .turn z y, b', a => (¬ Ins1 b z ∧ a = .ref "NoSite" ∧ b' = b) ∨ (Ins1 b z ∧ ¬ (0 ≤ y ∧ y < ((b.rows.getD z.toNat []).length : Int)) ∧ a = .ref "NoPlace" ∧ b' = b) ∨ (Ins1 b z ∧ (0 ≤ y ∧ y < ((b.rows.getD z.toNat []).length : Int)) ∧ a = .non ∧ b' = { b with turns := b.turns.set z.toNat y })
  | .step z, b', a => (¬ Ins1 b z ∧ a = .ref "NoSite" ∧ b' = b) ∨ (Ins1 b z ∧ b.loads.getD z.toNat 0 < 1 ∧ a = .ref "NoMarble" ∧ b' = b) ∨ (Ins1 b z ∧ 1 ≤ b.loads.getD z.toNat 0 ∧ a = .int (exitOf b.rows b.turns z.toNat) ∧ b' = stepB b z.toNat)
  | .run m, b', a => ((reachL b.rows).all id = false ∧ a = .ref "NotOpen" ∧ b' = b) ∨ ((reachL b.rows).all id = true ∧ ∃ N : Nat, RunTo b N ∧ ((m < (N : Int) ∧ a = .ref "TooLong" ∧ b' = b) ∨ ((N : Int) ≤ m ∧ a = .int N ∧ b' = iterR N b)))
  | .back z m, b', a => (¬ Ins1 b z ∧ a = .ref "NoSite" ∧ b' = b) ∨ (Ins1 b z ∧ (((reachL b.rows).all id = false ∧ a = .ref "NotOpen" ∧ b' = b) ∨ ((reachL b.rows).all id = true ∧ ((ladenL b.loads ≠ [] ∧ a = .ref "NotBare" ∧ b' = b) ∨ (ladenL b.loads = [] ∧ ((treeB b.rows b.turns = false ∧ a = .ref "NotTree" ∧ b' = b) ∨ (treeB b.rows b.turns = true ∧
      ((∃ (k : Nat) (T : List Int) (x : Int), Bk b.rows z b.turns k T x ∧ m < (k : Int) ∧ a = .ref "TooLong" ∧ b' = b) ∨ (∃ (N j : Nat) (T : List Int), Bk b.rows z b.turns N T z ∧ Ahead b.rows z T z j ∧ goR b.rows z T j z = -1 ∧ TurnsOk b.rows T ∧ (N : Int) ≤ m ∧ a = .int N ∧ b' = { b with turns := T })))))))))
theorem does_uniq {b : Brd} {d : Deed} {b1 b2 : Brd} {a1 a2 : Ans} (h1 : Does b d b1 a1) (h2 : Does b d b2 a2) : b1 = b2 ∧ a1 = a2 := by
  cases d with
  | load z y =>
    rcases h1 with ⟨p, rfl, rfl⟩ | ⟨p, q, rfl, rfl⟩ | ⟨p, q, rfl, rfl⟩ <;> rcases h2 with ⟨p', rfl, rfl⟩ | ⟨p', q', rfl, rfl⟩ | ⟨p', q', rfl, rfl⟩ <;> first | exact ⟨rfl, rfl⟩ | exact absurd p' p | exact absurd p p' | (exfalso; omega)
  | turn z y =>
    rcases h1 with ⟨p, rfl, rfl⟩ | ⟨p, q, rfl, rfl⟩ | ⟨p, q, rfl, rfl⟩ <;> rcases h2 with ⟨p', rfl, rfl⟩ | ⟨p', q', rfl, rfl⟩ | ⟨p', q', rfl, rfl⟩ <;> first | exact ⟨rfl, rfl⟩ | exact absurd p' p | exact absurd p p' | exact absurd q q' | exact absurd q' q
  | step z =>
    rcases h1 with ⟨p, rfl, rfl⟩ | ⟨p, q, rfl, rfl⟩ | ⟨p, q, rfl, rfl⟩ <;> rcases h2 with ⟨p', rfl, rfl⟩ | ⟨p', q', rfl, rfl⟩ | ⟨p', q', rfl, rfl⟩ <;> first | exact ⟨rfl, rfl⟩ | exact absurd p' p | exact absurd p p' | (exfalso; omega)
  | run m =>
    rcases h1 with ⟨p, rfl, rfl⟩ | ⟨p, N, R, h1⟩ <;> rcases h2 with ⟨p', rfl, rfl⟩ | ⟨p', N', R', h2⟩
    · exact ⟨rfl, rfl⟩
    · rw [p] at p'; cases p'
    · rw [p] at p'; cases p'
    · have := run_uniq R R'
      subst this
      rcases h1 with ⟨q, rfl, rfl⟩ | ⟨q, rfl, rfl⟩ <;> rcases h2 with ⟨q', rfl, rfl⟩ | ⟨q', rfl, rfl⟩ <;> first | exact ⟨rfl, rfl⟩ | (exfalso; omega)
  | back z m =>
    rcases h1 with ⟨p, rfl, rfl⟩ | ⟨p, h1⟩ <;> rcases h2 with ⟨p', rfl, rfl⟩ | ⟨p', h2⟩
    · exact ⟨rfl, rfl⟩
    · exact absurd p' p
    · exact absurd p p'
    rcases h1 with ⟨o, rfl, rfl⟩ | ⟨o, h1⟩ <;> rcases h2 with ⟨o', rfl, rfl⟩ | ⟨o', h2⟩
    · exact ⟨rfl, rfl⟩
    · rw [o] at o'; cases o'
    · rw [o] at o'; cases o'
    rcases h1 with ⟨l, rfl, rfl⟩ | ⟨l, h1⟩ <;> rcases h2 with ⟨l', rfl, rfl⟩ | ⟨l', h2⟩
    · exact ⟨rfl, rfl⟩
    · exact absurd l' l
    · exact absurd l l'
    rcases h1 with ⟨t, rfl, rfl⟩ | ⟨t, h1⟩ <;> rcases h2 with ⟨t', rfl, rfl⟩ | ⟨t', h2⟩
    · exact ⟨rfl, rfl⟩
    · rw [t] at t'; cases t'
    · rw [t] at t'; cases t'
    rcases h1 with ⟨k, T, x, B, hk, rfl, rfl⟩ | ⟨N, j, T, B, A, e, tk, hN, rfl, rfl⟩ <;> rcases h2 with ⟨k', T', x', B', hk', rfl, rfl⟩ | ⟨N', j', T', B', A', e', tk', hN', rfl, rfl⟩
    · exact ⟨rfl, rfl⟩
    · exact absurd (by omega) (bk_not B' A' e' B)
    · exact absurd (by omega) (bk_not B A e B')
    · obtain ⟨rfl, rfl⟩ := bk_just B A e B' A' e'
      exact ⟨rfl, rfl⟩
inductive Plays : Brd → List Deed → Brd → List Ans → Prop
  | nil {b : Brd} : Plays b [] b []
  | snoc {b b1 b2 : Brd} {ds : List Deed} {d : Deed} {as : List Ans} {a : Ans} : Plays b ds b1 as → Does b1 d b2 a → Plays b (ds ++ [d]) b2 (as ++ [a])
theorem plays_uniq {b : Brd} {ds : List Deed} {b1 : Brd} {as1 : List Ans} (h : Plays b ds b1 as1) : ∀ {b2 : Brd} {as2 : List Ans}, Plays b ds b2 as2 → b1 = b2 ∧ as1 = as2 := by
  induction h with
  | nil =>
    intro b2 as2 h2
    generalize hd : ([] : List Deed) = ds at h2
    cases h2 with
    | nil => exact ⟨rfl, rfl⟩
    | snoc _ _ => simp at hd
  | @snoc b1 b2 ds d as a p q ih =>
    intro b3 as3 h3
    generalize hd : ds ++ [d] = ds' at h3
    cases h3 with
    | nil => simp at hd
    | @snoc b1' _ ds2 d2 as2 a2 p2 q2 =>
      have e := List.append_inj' hd rfl
      obtain ⟨rfl, e2⟩ := e
      have e3 : d = d2 := by simpa using e2
      subst e3
      obtain ⟨rfl, rfl⟩ := ih p2
      obtain ⟨rfl, rfl⟩ := does_uniq q q2
      exact ⟨rfl, rfl⟩
theorem ahead_le {rows : List (List Int)} {st : Int} {ts : List Int} {x : Int} {m : Nat} (W : Wf rows) (tk : TurnsOk rows ts) (s0 : 0 ≤ st) (s1 : st < (rows.length : Int)) (x0 : -1 ≤ x) (x1 : x < (rows.length : Int)) (A : Ahead rows st ts x m) : m ≤ rows.length := by
  by_cases h : m ≤ rows.length
  · exact h
  exfalso
  have bd : ∀ k, -1 ≤ goR rows st ts k x ∧ goR rows st ts k x < (rows.length : Int) := fun k => goR_bd W tk s0 s1 k x0 x1
  obtain ⟨a, b, hab, hb, e⟩ := pigeon (rows.length + 1) (fun k => (goR rows st ts k x + 1).toNat) fun k _ => by
    have := bd k
    show (goR rows st ts k x + 1).toNat < _
    omega
  have ea := bd a
  have eb := bd b
  have e' : goR rows st ts a x = goR rows st ts b x := by
    have e2 : (goR rows st ts a x + 1).toNat = (goR rows st ts b x + 1).toNat := e
    omega
  have h1 := goR_add (rows := rows) (st := st) (ts := ts) a (m + 1 - b) x
  have h2 := goR_add (rows := rows) (st := st) (ts := ts) b (m + 1 - b) x
  rw [e', ← h2, show b + (m + 1 - b) = m + 1 by omega, A.back, show a + (m + 1 - b) = (a + m - b) + 1 by omega] at h1
  exact A.first (a + m - b) (by omega) h1
end Com
set_option Elab.async false
set_option linter.all false
set_option maxRecDepth 100000
set_option maxHeartbeats 4000000
namespace Law
open PySem L2 Com
def top (i : Nat) : Stmt := PySem.Challenge.pw_marblerun_k26_whole_deeds.main.body.getD i (.Pass ⟨0, 0, 0, 0⟩)
abbrev s_check_rows : Stmt := top 16
abbrev s_check_row : Stmt := top 17
abbrev s_check_site : Stmt := top 18
abbrev s_Binit : Stmt := inClass (top 19) 0
abbrev s_Bturn_to : Stmt := inClass (top 19) 1
abbrev s_Bload : Stmt := inClass (top 19) 2
abbrev s_Btwin : Stmt := inClass (top 19) 3
abbrev s_Bstand_like : Stmt := inClass (top 19) 4
abbrev s_reached : Stmt := top 21
abbrev s_is_open : Stmt := top 22
abbrev s_check_open : Stmt := top 23
abbrev s_last_exit : Stmt := top 24
abbrev s_is_tree : Stmt := top 25
abbrev s_step : Stmt := top 27
abbrev s_loaded : Stmt := top 28
abbrev s_run : Stmt := top 29
abbrev s_check_back : Stmt := top 31
abbrev s_run_back : Stmt := top 32
abbrev s_turn_back : Stmt := top 33
abbrev s_place_ahead : Stmt := top 34
abbrev s_leads_to : Stmt := top 35
abbrev s_play : Stmt := top 37
abbrev s_answer_to : Stmt := top 38
abbrev s_refused : Stmt := top 39
abbrev s_do : Stmt := top 40
abbrev s_drawn : Stmt := top 42
abbrev s_other : Stmt := top 43
abbrev s_rows_by : Stmt := top 44
abbrev s_any_by : Stmt := top 45
abbrev s_turns_by : Stmt := top 46
abbrev s_board : Stmt := top 47
abbrev s_step_by : Stmt := top 48
abbrev s_run_by : Stmt := top 49
abbrev s_whole : Stmt := top 50
abbrev s_row : Stmt := top 51
abbrev s_stands : Stmt := top 52
abbrev s_opened : Stmt := top 53
abbrev s_treed : Stmt := top 54
abbrev s_ahead : Stmt := top 55
abbrev s_back : Stmt := top 56
abbrev s_runL : Stmt := top 57
abbrev s_done : Stmt := top 58
abbrev s_deed_by : Stmt := top 59
abbrev s_alike : Stmt := top 60
abbrev s_law : Stmt := top 61
set_option genInjectivity false in
set_option genSizeOfSpec false in
structure Adr where
  C : Addr
  f_check_rows : Addr
  fd_check_rows : FuncData
  f_check_row : Addr
  fd_check_row : FuncData
  f_check_site : Addr
  fd_check_site : FuncData
  f_Binit : Addr
  fd_Binit : FuncData
  f_Bturn_to : Addr
  fd_Bturn_to : FuncData
  f_Bload : Addr
  fd_Bload : FuncData
  f_Btwin : Addr
  fd_Btwin : FuncData
  f_Bstand_like : Addr
  fd_Bstand_like : FuncData
  f_reached : Addr
  fd_reached : FuncData
  f_is_open : Addr
  fd_is_open : FuncData
  f_check_open : Addr
  fd_check_open : FuncData
  f_last_exit : Addr
  fd_last_exit : FuncData
  f_is_tree : Addr
  fd_is_tree : FuncData
  f_step : Addr
  fd_step : FuncData
  f_loaded : Addr
  fd_loaded : FuncData
  f_run : Addr
  fd_run : FuncData
  f_check_back : Addr
  fd_check_back : FuncData
  f_run_back : Addr
  fd_run_back : FuncData
  f_turn_back : Addr
  fd_turn_back : FuncData
  f_place_ahead : Addr
  fd_place_ahead : FuncData
  f_leads_to : Addr
  fd_leads_to : FuncData
  f_play : Addr
  fd_play : FuncData
  f_answer_to : Addr
  fd_answer_to : FuncData
  f_refused : Addr
  fd_refused : FuncData
  f_do : Addr
  fd_do : FuncData
  f_drawn : Addr
  fd_drawn : FuncData
  f_other : Addr
  fd_other : FuncData
  f_rows_by : Addr
  fd_rows_by : FuncData
  f_any_by : Addr
  fd_any_by : FuncData
  f_turns_by : Addr
  fd_turns_by : FuncData
  f_board : Addr
  fd_board : FuncData
  f_step_by : Addr
  fd_step_by : FuncData
  f_run_by : Addr
  fd_run_by : FuncData
  f_whole : Addr
  fd_whole : FuncData
  f_row : Addr
  fd_row : FuncData
  f_stands : Addr
  fd_stands : FuncData
  f_opened : Addr
  fd_opened : FuncData
  f_treed : Addr
  fd_treed : FuncData
  f_ahead : Addr
  fd_ahead : FuncData
  f_back : Addr
  fd_back : FuncData
  f_runL : Addr
  fd_runL : FuncData
  f_done : Addr
  fd_done : FuncData
  f_deed_by : Addr
  fd_deed_by : FuncData
  f_alike : Addr
  fd_alike : FuncData
  f_law : Addr
  fd_law : FuncData
  t_PIT : Tok
  t_MOST_SITES : Tok
  t_MOST_EXITS : Tok
  t_MOST_MARBLES : Tok
  c_NoSite : Addr
  c_NoPlace : Addr
  c_NoMarble : Addr
  c_TooMany : Addr
  c_NotOpen : Addr
  c_NotBare : Addr
  c_NotTree : Addr
  c_TooLong : Addr
structure Txt (K : PySem.W.Frag) (mg : Str → Option Value) (A : Adr) : Prop where
  F_check_rows : Fun K "check_rows" "check_rows" s_check_rows A.f_check_rows A.fd_check_rows
  m_check_rows : mg "check_rows" = some (.ref A.f_check_rows)
  k_check_rows : PySem.W.keepIn K (.ref A.f_check_rows) = true
  b_check_rows : Binds K A.fd_check_rows ["rows"] []
  F_check_row : Fun K "check_row" "check_row" s_check_row A.f_check_row A.fd_check_row
  m_check_row : mg "check_row" = some (.ref A.f_check_row)
  k_check_row : PySem.W.keepIn K (.ref A.f_check_row) = true
  b_check_row : Binds K A.fd_check_row ["row", "sites"] []
  F_check_site : Fun K "check_site" "check_site" s_check_site A.f_check_site A.fd_check_site
  m_check_site : mg "check_site" = some (.ref A.f_check_site)
  k_check_site : PySem.W.keepIn K (.ref A.f_check_site) = true
  b_check_site : Binds K A.fd_check_site ["board", "at"] []
  F_Binit : Fun K "__init__" "Board.__init__" s_Binit A.f_Binit A.fd_Binit
  mk_Board : Mk K A.C A.f_Binit
  bi_Board : Binds K A.fd_Binit ["self", "rows"] []
  F_Bturn_to : Fun K "turn_to" "Board.turn_to" s_Bturn_to A.f_Bturn_to A.fd_Bturn_to
  mt_turn_to : Meth K A.C "turn_to" A.f_Bturn_to
  bm_turn_to : Binds K A.fd_Bturn_to ["self", "at", "place"] []
  F_Bload : Fun K "load" "Board.load" s_Bload A.f_Bload A.fd_Bload
  mt_load : Meth K A.C "load" A.f_Bload
  bm_load : Binds K A.fd_Bload ["self", "at", "many"] []
  F_Btwin : Fun K "twin" "Board.twin" s_Btwin A.f_Btwin A.fd_Btwin
  mt_twin : Meth K A.C "twin" A.f_Btwin
  bm_twin : Binds K A.fd_Btwin ["self"] []
  F_Bstand_like : Fun K "stand_like" "Board.stand_like" s_Bstand_like A.f_Bstand_like A.fd_Bstand_like
  mt_stand_like : Meth K A.C "stand_like" A.f_Bstand_like
  bm_stand_like : Binds K A.fd_Bstand_like ["self", "other"] []
  F_reached : Fun K "reached" "reached" s_reached A.f_reached A.fd_reached
  m_reached : mg "reached" = some (.ref A.f_reached)
  k_reached : PySem.W.keepIn K (.ref A.f_reached) = true
  b_reached : Binds K A.fd_reached ["rows"] []
  F_is_open : Fun K "is_open" "is_open" s_is_open A.f_is_open A.fd_is_open
  m_is_open : mg "is_open" = some (.ref A.f_is_open)
  k_is_open : PySem.W.keepIn K (.ref A.f_is_open) = true
  b_is_open : Binds K A.fd_is_open ["board"] []
  F_check_open : Fun K "check_open" "check_open" s_check_open A.f_check_open A.fd_check_open
  m_check_open : mg "check_open" = some (.ref A.f_check_open)
  k_check_open : PySem.W.keepIn K (.ref A.f_check_open) = true
  b_check_open : Binds K A.fd_check_open ["board"] []
  F_last_exit : Fun K "last_exit" "last_exit" s_last_exit A.f_last_exit A.fd_last_exit
  m_last_exit : mg "last_exit" = some (.ref A.f_last_exit)
  k_last_exit : PySem.W.keepIn K (.ref A.f_last_exit) = true
  b_last_exit : Binds K A.fd_last_exit ["board", "at"] []
  F_is_tree : Fun K "is_tree" "is_tree" s_is_tree A.f_is_tree A.fd_is_tree
  m_is_tree : mg "is_tree" = some (.ref A.f_is_tree)
  k_is_tree : PySem.W.keepIn K (.ref A.f_is_tree) = true
  b_is_tree : Binds K A.fd_is_tree ["board"] []
  F_step : Fun K "step" "step" s_step A.f_step A.fd_step
  m_step : mg "step" = some (.ref A.f_step)
  k_step : PySem.W.keepIn K (.ref A.f_step) = true
  b_step : Binds K A.fd_step ["board", "at"] []
  F_loaded : Fun K "loaded" "loaded" s_loaded A.f_loaded A.fd_loaded
  m_loaded : mg "loaded" = some (.ref A.f_loaded)
  k_loaded : PySem.W.keepIn K (.ref A.f_loaded) = true
  b_loaded : Binds K A.fd_loaded ["board"] []
  F_run : Fun K "run" "run" s_run A.f_run A.fd_run
  m_run : mg "run" = some (.ref A.f_run)
  k_run : PySem.W.keepIn K (.ref A.f_run) = true
  b_run : Binds K A.fd_run ["board", "most"] []
  F_check_back : Fun K "check_back" "check_back" s_check_back A.f_check_back A.fd_check_back
  m_check_back : mg "check_back" = some (.ref A.f_check_back)
  k_check_back : PySem.W.keepIn K (.ref A.f_check_back) = true
  b_check_back : Binds K A.fd_check_back ["board", "at"] []
  F_run_back : Fun K "run_back" "run_back" s_run_back A.f_run_back A.fd_run_back
  m_run_back : mg "run_back" = some (.ref A.f_run_back)
  k_run_back : PySem.W.keepIn K (.ref A.f_run_back) = true
  b_run_back : Binds K A.fd_run_back ["board", "at", "most"] []
  F_turn_back : Fun K "turn_back" "turn_back" s_turn_back A.f_turn_back A.fd_turn_back
  m_turn_back : mg "turn_back" = some (.ref A.f_turn_back)
  k_turn_back : PySem.W.keepIn K (.ref A.f_turn_back) = true
  b_turn_back : Binds K A.fd_turn_back ["board", "start", "most"] []
  F_place_ahead : Fun K "place_ahead" "place_ahead" s_place_ahead A.f_place_ahead A.fd_place_ahead
  m_place_ahead : mg "place_ahead" = some (.ref A.f_place_ahead)
  k_place_ahead : PySem.W.keepIn K (.ref A.f_place_ahead) = true
  b_place_ahead : Binds K A.fd_place_ahead ["board", "start", "goal"] []
  F_leads_to : Fun K "leads_to" "leads_to" s_leads_to A.f_leads_to A.fd_leads_to
  m_leads_to : mg "leads_to" = some (.ref A.f_leads_to)
  k_leads_to : PySem.W.keepIn K (.ref A.f_leads_to) = true
  b_leads_to : Binds K A.fd_leads_to ["board", "start", "here"] []
  F_play : Fun K "play" "play" s_play A.f_play A.fd_play
  m_play : mg "play" = some (.ref A.f_play)
  k_play : PySem.W.keepIn K (.ref A.f_play) = true
  b_play : Binds K A.fd_play ["board", "deeds"] []
  F_answer_to : Fun K "answer_to" "answer_to" s_answer_to A.f_answer_to A.fd_answer_to
  m_answer_to : mg "answer_to" = some (.ref A.f_answer_to)
  k_answer_to : PySem.W.keepIn K (.ref A.f_answer_to) = true
  b_answer_to : Binds K A.fd_answer_to ["board", "deed"] []
  F_refused : Fun K "refused" "refused" s_refused A.f_refused A.fd_refused
  m_refused : mg "refused" = some (.ref A.f_refused)
  k_refused : PySem.W.keepIn K (.ref A.f_refused) = true
  b_refused : Binds K A.fd_refused ["name"] []
  F_do : Fun K "do" "do" s_do A.f_do A.fd_do
  m_do : mg "do" = some (.ref A.f_do)
  k_do : PySem.W.keepIn K (.ref A.f_do) = true
  b_do : Binds K A.fd_do ["board", "deed"] []
  F_drawn : Fun K "_law_drawn" "_law_drawn" s_drawn A.f_drawn A.fd_drawn
  m__law_drawn : mg "_law_drawn" = some (.ref A.f_drawn)
  k__law_drawn : PySem.W.keepIn K (.ref A.f_drawn) = true
  b__law_drawn : Binds K A.fd_drawn ["script", "k", "many"] []
  F_other : Fun K "_law_other" "_law_other" s_other A.f_other A.fd_other
  m__law_other : mg "_law_other" = some (.ref A.f_other)
  k__law_other : PySem.W.keepIn K (.ref A.f_other) = true
  b__law_other : Binds K A.fd_other ["gone", "many"] []
  F_rows_by : Fun K "_law_rows_by" "_law_rows_by" s_rows_by A.f_rows_by A.fd_rows_by
  m__law_rows_by : mg "_law_rows_by" = some (.ref A.f_rows_by)
  k__law_rows_by : PySem.W.keepIn K (.ref A.f_rows_by) = true
  b__law_rows_by : Binds K A.fd_rows_by ["script"] []
  F_any_by : Fun K "_law_any_by" "_law_any_by" s_any_by A.f_any_by A.fd_any_by
  m__law_any_by : mg "_law_any_by" = some (.ref A.f_any_by)
  k__law_any_by : PySem.W.keepIn K (.ref A.f_any_by) = true
  b__law_any_by : Binds K A.fd_any_by ["script", "most", "wide"] []
  F_turns_by : Fun K "_law_turns_by" "_law_turns_by" s_turns_by A.f_turns_by A.fd_turns_by
  m__law_turns_by : mg "_law_turns_by" = some (.ref A.f_turns_by)
  k__law_turns_by : PySem.W.keepIn K (.ref A.f_turns_by) = true
  b__law_turns_by : Binds K A.fd_turns_by ["script", "rows"] []
  F_board : Fun K "_law_board" "_law_board" s_board A.f_board A.fd_board
  m__law_board : mg "_law_board" = some (.ref A.f_board)
  k__law_board : PySem.W.keepIn K (.ref A.f_board) = true
  b__law_board : Binds K A.fd_board ["rows", "turns", "loads"] []
  F_step_by : Fun K "_law_step_by" "_law_step_by" s_step_by A.f_step_by A.fd_step_by
  m__law_step_by : mg "_law_step_by" = some (.ref A.f_step_by)
  k__law_step_by : PySem.W.keepIn K (.ref A.f_step_by) = true
  b__law_step_by : Binds K A.fd_step_by ["rows", "turns", "lying", "counts", "at"] []
  F_run_by : Fun K "_law_run_by" "_law_run_by" s_run_by A.f_run_by A.fd_run_by
  m__law_run_by : mg "_law_run_by" = some (.ref A.f_run_by)
  k__law_run_by : PySem.W.keepIn K (.ref A.f_run_by) = true
  b__law_run_by : Binds K A.fd_run_by ["rows", "turns", "lying", "counts"] []
  F_whole : Fun K "_law_whole" "_law_whole" s_whole A.f_whole A.fd_whole
  m__law_whole : mg "_law_whole" = some (.ref A.f_whole)
  k__law_whole : PySem.W.keepIn K (.ref A.f_whole) = true
  b__law_whole : Binds K A.fd_whole ["found"] []
  F_row : Fun K "_law_row" "_law_row" s_row A.f_row A.fd_row
  m__law_row : mg "_law_row" = some (.ref A.f_row)
  k__law_row : PySem.W.keepIn K (.ref A.f_row) = true
  b__law_row : Binds K A.fd_row ["found", "due"] []
  F_stands : Fun K "_law_stands" "_law_stands" s_stands A.f_stands A.fd_stands
  m__law_stands : mg "_law_stands" = some (.ref A.f_stands)
  k__law_stands : PySem.W.keepIn K (.ref A.f_stands) = true
  b__law_stands : Binds K A.fd_stands ["board", "rows", "turns", "lying", "counts"] []
  F_opened : Fun K "_law_opened" "_law_opened" s_opened A.f_opened A.fd_opened
  m__law_opened : mg "_law_opened" = some (.ref A.f_opened)
  k__law_opened : PySem.W.keepIn K (.ref A.f_opened) = true
  b__law_opened : Binds K A.fd_opened ["rows"] []
  F_treed : Fun K "_law_treed" "_law_treed" s_treed A.f_treed A.fd_treed
  m__law_treed : mg "_law_treed" = some (.ref A.f_treed)
  k__law_treed : PySem.W.keepIn K (.ref A.f_treed) = true
  b__law_treed : Binds K A.fd_treed ["rows", "turns"] []
  F_ahead : Fun K "_law_ahead" "_law_ahead" s_ahead A.f_ahead A.fd_ahead
  m__law_ahead : mg "_law_ahead" = some (.ref A.f_ahead)
  k__law_ahead : PySem.W.keepIn K (.ref A.f_ahead) = true
  b__law_ahead : Binds K A.fd_ahead ["rows", "turns", "start", "spot"] []
  F_back : Fun K "_law_back" "_law_back" s_back A.f_back A.fd_back
  m__law_back : mg "_law_back" = some (.ref A.f_back)
  k__law_back : PySem.W.keepIn K (.ref A.f_back) = true
  b__law_back : Binds K A.fd_back ["rows", "now", "at", "most"] []
  F_runL : Fun K "_law_run" "_law_run" s_runL A.f_runL A.fd_runL
  m__law_run : mg "_law_run" = some (.ref A.f_runL)
  k__law_run : PySem.W.keepIn K (.ref A.f_runL) = true
  b__law_run : Binds K A.fd_runL ["rows", "now", "most"] []
  F_done : Fun K "_law_done" "_law_done" s_done A.f_done A.fd_done
  m__law_done : mg "_law_done" = some (.ref A.f_done)
  k__law_done : PySem.W.keepIn K (.ref A.f_done) = true
  b__law_done : Binds K A.fd_done ["rows", "now", "deed"] []
  F_deed_by : Fun K "_law_deed_by" "_law_deed_by" s_deed_by A.f_deed_by A.fd_deed_by
  m__law_deed_by : mg "_law_deed_by" = some (.ref A.f_deed_by)
  k__law_deed_by : PySem.W.keepIn K (.ref A.f_deed_by) = true
  b__law_deed_by : Binds K A.fd_deed_by ["script", "k", "rows"] []
  F_alike : Fun K "_law_alike" "_law_alike" s_alike A.f_alike A.fd_alike
  m__law_alike : mg "_law_alike" = some (.ref A.f_alike)
  k__law_alike : PySem.W.keepIn K (.ref A.f_alike) = true
  b__law_alike : Binds K A.fd_alike ["found", "due"] []
  F_law : Fun K "law" "law" s_law A.f_law A.fd_law
  m_law : mg "law" = some (.ref A.f_law)
  k_law : PySem.W.keepIn K (.ref A.f_law) = true
  b_law : Binds K A.fd_law ["script"] []
  m_Board : mg "Board" = some (.ref A.C)
  cl_Board : Cls K A.C
  na_rows : NoAttr K A.C "rows"
  na_turns : NoAttr K A.C "turns"
  na_loads : NoAttr K A.C "loads"
  na_steps : NoAttr K A.C "steps"
  na_taken : NoAttr K A.C "taken"
  n_len : mg "len" = none
  n_range : mg "range" = none
  n_isinstance : mg "isinstance" = none
  n_int : mg "int" = none
  n_bool : mg "bool" = none
  n_list : mg "list" = none
  n_reversed : mg "reversed" = none
  n_sum : mg "sum" = none
  n_all : mg "all" = none
  n_any : mg "any" = none
  n_enumerate : mg "enumerate" = none
  n_str : mg "str" = none
  n_tuple : mg "tuple" = none
  g_PIT : mg "PIT" = some (.int (-1) A.t_PIT)
  g_MOST_SITES : mg "MOST_SITES" = some (.int (12) A.t_MOST_SITES)
  g_MOST_EXITS : mg "MOST_EXITS" = some (.int (8) A.t_MOST_EXITS)
  g_MOST_MARBLES : mg "MOST_MARBLES" = some (.int (400) A.t_MOST_MARBLES)
  m_NoSite : mg "NoSite" = some (.ref A.c_NoSite)
  x_NoSite : XCls K A.c_NoSite
  kb_NoSite : PySem.W.kitOne K (.ref A.c_NoSite) (.type "BaseException") = some true
  m_NoPlace : mg "NoPlace" = some (.ref A.c_NoPlace)
  x_NoPlace : XCls K A.c_NoPlace
  kb_NoPlace : PySem.W.kitOne K (.ref A.c_NoPlace) (.type "BaseException") = some true
  m_NoMarble : mg "NoMarble" = some (.ref A.c_NoMarble)
  x_NoMarble : XCls K A.c_NoMarble
  kb_NoMarble : PySem.W.kitOne K (.ref A.c_NoMarble) (.type "BaseException") = some true
  m_TooMany : mg "TooMany" = some (.ref A.c_TooMany)
  x_TooMany : XCls K A.c_TooMany
  kb_TooMany : PySem.W.kitOne K (.ref A.c_TooMany) (.type "BaseException") = some true
  m_NotOpen : mg "NotOpen" = some (.ref A.c_NotOpen)
  x_NotOpen : XCls K A.c_NotOpen
  kb_NotOpen : PySem.W.kitOne K (.ref A.c_NotOpen) (.type "BaseException") = some true
  m_NotBare : mg "NotBare" = some (.ref A.c_NotBare)
  x_NotBare : XCls K A.c_NotBare
  kb_NotBare : PySem.W.kitOne K (.ref A.c_NotBare) (.type "BaseException") = some true
  m_NotTree : mg "NotTree" = some (.ref A.c_NotTree)
  x_NotTree : XCls K A.c_NotTree
  kb_NotTree : PySem.W.kitOne K (.ref A.c_NotTree) (.type "BaseException") = some true
  m_TooLong : mg "TooLong" = some (.ref A.c_TooLong)
  x_TooLong : XCls K A.c_TooLong
  kb_TooLong : PySem.W.kitOne K (.ref A.c_TooLong) (.type "BaseException") = some true
  p_NoPlace_NoSite : PySem.W.kitOne K (.ref A.c_NoPlace) (.ref A.c_NoSite) = some false
  ne_NoPlace_NoSite : A.c_NoPlace ≠ A.c_NoSite
  p_NoMarble_NoSite : PySem.W.kitOne K (.ref A.c_NoMarble) (.ref A.c_NoSite) = some false
  ne_NoMarble_NoSite : A.c_NoMarble ≠ A.c_NoSite
  p_NoMarble_NoPlace : PySem.W.kitOne K (.ref A.c_NoMarble) (.ref A.c_NoPlace) = some false
  ne_NoMarble_NoPlace : A.c_NoMarble ≠ A.c_NoPlace
  p_TooMany_NoSite : PySem.W.kitOne K (.ref A.c_TooMany) (.ref A.c_NoSite) = some false
  ne_TooMany_NoSite : A.c_TooMany ≠ A.c_NoSite
  p_TooMany_NoPlace : PySem.W.kitOne K (.ref A.c_TooMany) (.ref A.c_NoPlace) = some false
  ne_TooMany_NoPlace : A.c_TooMany ≠ A.c_NoPlace
  p_TooMany_NoMarble : PySem.W.kitOne K (.ref A.c_TooMany) (.ref A.c_NoMarble) = some false
  ne_TooMany_NoMarble : A.c_TooMany ≠ A.c_NoMarble
  p_NotOpen_NoSite : PySem.W.kitOne K (.ref A.c_NotOpen) (.ref A.c_NoSite) = some false
  ne_NotOpen_NoSite : A.c_NotOpen ≠ A.c_NoSite
  p_NotOpen_NoPlace : PySem.W.kitOne K (.ref A.c_NotOpen) (.ref A.c_NoPlace) = some false
  ne_NotOpen_NoPlace : A.c_NotOpen ≠ A.c_NoPlace
  p_NotOpen_NoMarble : PySem.W.kitOne K (.ref A.c_NotOpen) (.ref A.c_NoMarble) = some false
  ne_NotOpen_NoMarble : A.c_NotOpen ≠ A.c_NoMarble
  p_NotOpen_TooMany : PySem.W.kitOne K (.ref A.c_NotOpen) (.ref A.c_TooMany) = some false
  ne_NotOpen_TooMany : A.c_NotOpen ≠ A.c_TooMany
  p_NotBare_NoSite : PySem.W.kitOne K (.ref A.c_NotBare) (.ref A.c_NoSite) = some false
  ne_NotBare_NoSite : A.c_NotBare ≠ A.c_NoSite
  p_NotBare_NoPlace : PySem.W.kitOne K (.ref A.c_NotBare) (.ref A.c_NoPlace) = some false
  ne_NotBare_NoPlace : A.c_NotBare ≠ A.c_NoPlace
  p_NotBare_NoMarble : PySem.W.kitOne K (.ref A.c_NotBare) (.ref A.c_NoMarble) = some false
  ne_NotBare_NoMarble : A.c_NotBare ≠ A.c_NoMarble
  p_NotBare_TooMany : PySem.W.kitOne K (.ref A.c_NotBare) (.ref A.c_TooMany) = some false
  ne_NotBare_TooMany : A.c_NotBare ≠ A.c_TooMany
  p_NotBare_NotOpen : PySem.W.kitOne K (.ref A.c_NotBare) (.ref A.c_NotOpen) = some false
  ne_NotBare_NotOpen : A.c_NotBare ≠ A.c_NotOpen
  p_NotTree_NoSite : PySem.W.kitOne K (.ref A.c_NotTree) (.ref A.c_NoSite) = some false
  ne_NotTree_NoSite : A.c_NotTree ≠ A.c_NoSite
  p_NotTree_NoPlace : PySem.W.kitOne K (.ref A.c_NotTree) (.ref A.c_NoPlace) = some false
  ne_NotTree_NoPlace : A.c_NotTree ≠ A.c_NoPlace
  p_NotTree_NoMarble : PySem.W.kitOne K (.ref A.c_NotTree) (.ref A.c_NoMarble) = some false
  ne_NotTree_NoMarble : A.c_NotTree ≠ A.c_NoMarble
  p_NotTree_TooMany : PySem.W.kitOne K (.ref A.c_NotTree) (.ref A.c_TooMany) = some false
  ne_NotTree_TooMany : A.c_NotTree ≠ A.c_TooMany
  p_NotTree_NotOpen : PySem.W.kitOne K (.ref A.c_NotTree) (.ref A.c_NotOpen) = some false
  ne_NotTree_NotOpen : A.c_NotTree ≠ A.c_NotOpen
  p_NotTree_NotBare : PySem.W.kitOne K (.ref A.c_NotTree) (.ref A.c_NotBare) = some false
  ne_NotTree_NotBare : A.c_NotTree ≠ A.c_NotBare
  p_TooLong_NoSite : PySem.W.kitOne K (.ref A.c_TooLong) (.ref A.c_NoSite) = some false
  ne_TooLong_NoSite : A.c_TooLong ≠ A.c_NoSite
  p_TooLong_NoPlace : PySem.W.kitOne K (.ref A.c_TooLong) (.ref A.c_NoPlace) = some false
  ne_TooLong_NoPlace : A.c_TooLong ≠ A.c_NoPlace
  p_TooLong_NoMarble : PySem.W.kitOne K (.ref A.c_TooLong) (.ref A.c_NoMarble) = some false
  ne_TooLong_NoMarble : A.c_TooLong ≠ A.c_NoMarble
  p_TooLong_TooMany : PySem.W.kitOne K (.ref A.c_TooLong) (.ref A.c_TooMany) = some false
  ne_TooLong_TooMany : A.c_TooLong ≠ A.c_TooMany
  p_TooLong_NotOpen : PySem.W.kitOne K (.ref A.c_TooLong) (.ref A.c_NotOpen) = some false
  ne_TooLong_NotOpen : A.c_TooLong ≠ A.c_NotOpen
  p_TooLong_NotBare : PySem.W.kitOne K (.ref A.c_TooLong) (.ref A.c_NotBare) = some false
  ne_TooLong_NotBare : A.c_TooLong ≠ A.c_NotBare
  p_TooLong_NotTree : PySem.W.kitOne K (.ref A.c_TooLong) (.ref A.c_NotTree) = some false
  ne_TooLong_NotTree : A.c_TooLong ≠ A.c_NotTree
  q_int_bool : PySem.W.kitOne K (.type "int") (.type "bool") = some false
  q_int_tuple : PySem.W.kitOne K (.type "int") (.type "tuple") = some false
def spDrawn (K : PySem.W.Frag) : Sp := fun vs H Q _ => ∃ (a : Addr) (ns : List Int) (k many : Int), vs = [.ref a, .int k, .int many] ∧ SqL K H a (ns.map V.int) ∧ 0 < many ∧ -(2 ^ 62) < k ∧ k < 2 ^ 62 ∧ Q (.int (drawn ns k many)) H
def oth (many g : Int) : Int := if g < 0 then g else many - 1 - g
def spOther : Sp := fun vs H Q _ => ∃ (g many : Int), vs = [.int g, .int many] ∧ Q (.int (oth many g)) H
theorem at_ints {ns : List Int} {i : Int} (h0 : 0 ≤ i) (h1 : i < (ns.length : Int)) : atI (ns.map V.int) i = some (V.int (ns.getD i.toNat 0)) := by
  obtain ⟨n, rfl⟩ : ∃ n : Nat, i = (n : Int) := ⟨i.toNat, by omega⟩
  have hl : n < ns.length := by omega
  refine atI_nat ?_
  rw [List.getElem?_map, List.getElem?_eq_getElem hl]
  simp [List.getElem?_eq_getElem hl]
theorem at_list {α : Type} {xs : List α} {i : Int} {n : Nat} {x : α} (h0 : i = (n : Int)) (h1 : xs[n]? = some x) : atI xs i = some x := by rw [h0]; exact atI_nat h1
theorem ixN_in {n : Nat} {i : Int} (h0 : 0 ≤ i) (h1 : i < (n : Int)) : ixN n i = some i.toNat := by
  unfold ixN
  rw [if_pos h0, if_pos h1]
theorem kb10 {i : Nat} (h : i < 100) : -(2 ^ 62 : Int) < 10 + 20 * (0 + (i : Int)) ∧ 10 + 20 * (0 + (i : Int)) < 2 ^ 62 := by omega
theorem kb11 {i : Nat} (h : i < 100) : -(2 ^ 62 : Int) < 10 + 20 * (0 + (i : Int)) + 1 ∧ 10 + 20 * (0 + (i : Int)) + 1 < 2 ^ 62 := by omega
theorem kb12 {i : Nat} (h : i < 100) : -(2 ^ 62 : Int) < 10 + 20 * (0 + (i : Int)) + 2 ∧ 10 + 20 * (0 + (i : Int)) + 2 < 2 ^ 62 := by omega
theorem kb13 {i j : Nat} (h : i < 100) (h2 : j < 100) : -(2 ^ 62 : Int) < 10 + 20 * (0 + (i : Int)) + 3 + (0 + (j : Int)) ∧ 10 + 20 * (0 + (i : Int)) + 3 + (0 + (j : Int)) < 2 ^ 62 := by omega
theorem kbc {c : Int} {i : Nat} (h : i < 100) (hc : 0 ≤ c ∧ c ≤ 10000) : -(2 ^ 62 : Int) < c + (0 + (i : Int)) ∧ c + (0 + (i : Int)) < 2 ^ 62 := by omega
theorem ps1 {m : Int} (h : 1 ≤ m) : 0 < m := Int.lt_of_lt_of_le Int.zero_lt_one h
theorem psi {i : Nat} : (0 : Int) < 0 + (i : Int) + 1 := by omega
theorem psl {n : Nat} : (0 : Int) < (n : Int) + 1 := by omega
theorem small12 {n : Nat} (h : n ≤ 100) : n ≤ sizeLine := Nat.le_of_lt (small1000 (by omega))
def spCheckRow (K : PySem.W.Frag) : Sp := fun vs H Q _ => ∃ (a : Addr) (r : List Int) (n : Nat), vs = [.ref a, .int (n : Int)] ∧ SqL K H a (r.map V.int) ∧ RowOk n r ∧ Q .non H
def spCheckRows : Sp := fun vs H Q _ => ∃ (a : Addr) (as : List Addr) (rows : List (List Int)), vs = [.ref a] ∧ Mat H a as rows ∧ Wf rows ∧ Q .non H
def newB (rows : List (List Int)) : Brd := ⟨rows, List.replicate rows.length 0, List.replicate rows.length 0, List.replicate rows.length 0, 0⟩
def spInit (C : Addr) : Sp := fun vs H Q _ => ∃ (p dx aH : Addr) (asH : List Addr) (rows : List (List Int)), vs = [.ref p, .ref aH] ∧ H p = some (.ins C dx []) ∧ Mat H aH asH rows ∧ Wf rows ∧
  ∀ (aR : Addr) (as : List Addr) (aT aL aS : Addr) (H' : Hp), BoardAt C H' p dx aR as aT aL aS (newB rows) → (∀ b o, H b = some o → b ≠ p → H' b = some o) → (∀ b ∈ aT :: aL :: aS :: aR :: as, H b = none) → Q .non H'
def spWhole : Sp := fun vs H Q _ => ∃ i : Int, vs = [.int i] ∧ Q (.bl true) H
def spRow (K : PySem.W.Frag) : Sp := fun vs H Q _ => ∃ (a b : Addr) (xs : List Int), vs = [.ref a, .ref b] ∧ H a = some (.lst (xs.map V.int)) ∧ SqL K H b (xs.map V.int) ∧ xs.length ≤ 1000 ∧ Q (.bl true) H
def spStands (K : PySem.W.Frag) (C : Addr) : Sp := fun vs H Q _ => ∃ (p dx aR : Addr) (as : List Addr) (aT aL aS : Addr) (b : Brd) (R : Addr) (asR : List Addr) (tA lA cA : Addr), vs = [.ref p, .ref R, .ref tA, .ref lA, .ref cA] ∧ BoardAt C H p dx aR as aT aL aS b ∧ Mat H R asR b.rows ∧
  SqL K H tA (b.turns.map V.int) ∧ SqL K H lA ((b.loads ++ [b.taken]).map V.int) ∧ SqL K H cA (b.steps.map V.int) ∧ b.rows.length ≤ 100 ∧ (∀ r ∈ b.rows, r.length ≤ 100) ∧ b.turns.length ≤ 100 ∧ b.loads.length ≤ 100 ∧ b.steps.length ≤ 100 ∧ ∀ H', Same H H' → Q (.bl true) H'
theorem cut_last (xs : List Int) (z : Int) : cutV ((xs ++ [z]).map V.int) none (some (-1)) = xs.map V.int := by
  have e : HT.sIx ((xs ++ [z]).map V.int).length ((xs ++ [z]).map V.int).length (some (-1)) = xs.length := by
    simp only [List.length_map, List.length_append, List.length_singleton]
    unfold HT.sIx
    simp
    try omega
  unfold cutV
  rw [e, HT.sIx_none]
  simp
theorem at_last_int (xs : List Int) (z : Int) : atI ((xs ++ [z]).map V.int) (-1) = some (V.int z) := by
  rw [List.map_append]
  exact atI_last _ _
theorem rowok_new {n : Nat} {ns : List Int} {sz : Int} {top many : Int} (h1 : 1 ≤ sz) (h8 : sz ≤ 8) (ht : 1 ≤ top) (htm : top ≤ many + 1) (hn : (n : Int) = many) (c : Int → Int) {e : Int} {i : Nat} (he : -1 ≤ e ∧ e < many) :
    RowOk n (((List.range sz.toNat).map fun (j : Nat) => drawn ns (c j) top - 1).set i e) := by
  refine ⟨by simp; omega, by simp; omega, fun x hx => ?_⟩
  rcases List.mem_or_eq_of_mem_set hx with h | h
  · obtain ⟨j, _, rfl⟩ := List.mem_map.mp h
    have a1 := drawn_nn ns (c j) (many := top) (by omega)
    have a2 := drawn_lt ns (c j) (many := top) (by omega)
    omega
  · rw [h, hn]
    exact he
theorem rowok_ins {n : Nat} {r : List Int} {k : Nat} {e : Int} (h : RowOk n r) (h8 : r.length < 8) (he : -1 ≤ e ∧ e < (n : Int)) : RowOk n (r.take k ++ e :: r.drop k) := by
  obtain ⟨h1, h2, h3⟩ := h
  have hl : (r.take k ++ e :: r.drop k).length = r.length + 1 := by
    simp only [List.length_append, List.length_take, List.length_cons, List.length_drop]
    omega
  refine ⟨by omega, by omega, fun x hx => ?_⟩
  rcases List.mem_append.mp hx with z | z
  · exact h3 x (List.mem_of_mem_take z)
  · rcases List.mem_cons.mp z with z | z
    · rw [z]; exact he
    · exact h3 x (List.mem_of_mem_drop z)
theorem rowok_oth {n : Nat} {r : List Int} {many : Int} (h : RowOk n r) (hn : (n : Int) = many) : RowOk n (r.map (oth many)) := by
  obtain ⟨h1, h2, h3⟩ := h
  refine ⟨by simpa using h1, by simpa using h2, fun x hx => ?_⟩
  obtain ⟨y, hy, rfl⟩ := List.mem_map.mp hx
  have := h3 y hy
  unfold oth
  split <;> omega
theorem map_set_int {r : List Int} {i : Nat} {e : Int} : (r.map V.int).set i (.int e) = (r.set i e).map V.int := by rw [List.map_set]
theorem map_ins_int {r : List Int} {k : Nat} {e : Int} : (r.map V.int).take k ++ V.int e :: (r.map V.int).drop k = (r.take k ++ e :: r.drop k).map V.int := by
  rw [List.map_append, List.map_cons, List.map_take, List.map_drop]
theorem mat_of {H H' : Hp} {R : Addr} {as : List Addr} {rows : List (List Int)} (hlen : as.length = rows.length) (nd : as.Nodup) (sm : Same H H') (hrow : ∀ (i : Nat) a l, as[i]? = some a → (rows.map fun r => r.map V.int)[i]? = some l → H' a = some (.lst l)) (hR : H' R = none) : Mat (upd H' R (.lst (as.map V.ref))) R as rows := by
  have look : ∀ (i : Nat) a r, as[i]? = some a → rows[i]? = some r → H' a = some (.lst (r.map V.int)) := fun i a r e1 e2 => hrow i a _ e1 (by rw [List.getElem?_map, e2]; rfl)
  have nR : R ∉ as := fun z => by
    obtain ⟨i, hi, e⟩ := List.getElem_of_mem z
    have hi2 : i < rows.length := by omega
    have := look i R rows[i] (by rw [List.getElem?_eq_getElem hi, e]) (List.getElem?_eq_getElem hi2)
    rw [hR] at this
    cases this
  refine ⟨upd_same, hlen, fun i a r e1 e2 => ?_, List.nodup_cons.mpr ⟨nR, nd⟩⟩
  rw [upd_ne (fun z => nR (by rw [← z]; exact List.mem_of_getElem? e1))]
  exact look i a r e1 e2
def spLaw (K : PySem.W.Frag) : Sp := fun vs H Q _ => ∃ (a : Addr) (ns : List Int), vs = [.ref a] ∧ SqL K H a (ns.map V.int) ∧ ns.length ≤ 63 ∧ ∀ H', Q (.bl true) H'
theorem made_same {H H' : Hp} {p dx C : Addr} (hp : H p = none) (hdx : H dx = none) (k : ∀ b o, (upd (upd H dx (.own p)) p (.ins C dx [])) b = some o → b ≠ p → H' b = some o) : Same H H' := fun b o e =>
  k b o (by rw [upd_ne (ne_of_none e hp), upd_ne (ne_of_none e hdx)]; exact e) (ne_of_none e hp)
theorem made_none {H : Hp} {p dx C b : Addr} (h : (upd (upd H dx (.own p)) p (.ins C dx [])) b = none) : H b = none := by
  by_cases h1 : b = p
  · rw [h1, upd_same] at h; cases h
  · rw [upd_ne h1] at h
    by_cases h2 : b = dx
    · rw [h2, upd_same] at h; cases h
    · rw [upd_ne h2] at h; exact h
theorem log2_small {z : Int} (h1 : -(2 ^ 62) < z) (h2 : z < 2 ^ 62) : z.natAbs.log2 < 1920 := by
  by_cases h0 : z.natAbs = 0
  · rw [h0]; decide
  · have h3 : z.natAbs < 2 ^ 62 := by omega
    have h4 := (Nat.log2_lt h0).mpr h3
    omega
def spSite (C Cn : Addr) : Sp := fun vs H Q E => ∃ (p dx aR : Addr) (as : List Addr) (aT aL aS : Addr) (b : Brd) (z : Int), vs = [.ref p, .int z] ∧ BoardAt C H p dx aR as aT aL aS b ∧ -(2 ^ 62) < z ∧ z < 2 ^ 62 ∧
  (0 ≤ z ∧ z < (b.rows.length : Int) → Q .non H) ∧ (¬ (0 ≤ z ∧ z < (b.rows.length : Int)) → E (.ref Cn) none H)
def spTurn (C Cn Cp : Addr) : Sp := fun vs H Q E => ∃ (p dx aR : Addr) (as : List Addr) (aT aL aS : Addr) (b : Brd) (z y : Int), vs = [.ref p, .int z, .int y] ∧ BoardAt C H p dx aR as aT aL aS b ∧ b.turns.length = b.rows.length ∧ -(2 ^ 62) < z ∧ z < 2 ^ 62 ∧ -(2 ^ 62) < y ∧ y < 2 ^ 62 ∧
  (¬ (0 ≤ z ∧ z < (b.rows.length : Int)) → E (.ref Cn) none H) ∧
  (0 ≤ z ∧ z < (b.rows.length : Int) → ¬ (0 ≤ y ∧ y < ((b.rows.getD z.toNat []).length : Int)) → E (.ref Cp) none H) ∧
  (0 ≤ z ∧ z < (b.rows.length : Int) → 0 ≤ y ∧ y < ((b.rows.getD z.toNat []).length : Int) → Q .non (upd H aT (.lst ((b.turns.set z.toNat y).map V.int))))
def spLoad (C Cn Cm : Addr) : Sp := fun vs H Q E => ∃ (p dx aR : Addr) (as : List Addr) (aT aL aS : Addr) (b : Brd) (z y : Int), vs = [.ref p, .int z, .int y] ∧ BoardAt C H p dx aR as aT aL aS b ∧ b.loads.length = b.rows.length ∧ -(2 ^ 62) < z ∧ z < 2 ^ 62 ∧
  (¬ (0 ≤ z ∧ z < (b.rows.length : Int)) → E (.ref Cn) none H) ∧
  (0 ≤ z ∧ z < (b.rows.length : Int) → 400 < b.loads.sum + y → E (.ref Cm) none H) ∧
  (0 ≤ z ∧ z < (b.rows.length : Int) → b.loads.sum + y ≤ 400 → Q .non (upd H aL (.lst ((b.loads.set z.toNat (b.loads.getD z.toNat 0 + y)).map V.int))))
theorem _root_.Com.BoardAt.setT {C : Addr} {H : Hp} {p dx aR : Addr} {as : List Addr} {aT aL aS : Addr} {b : Brd} (B : BoardAt C H p dx aR as aT aL aS b) (ts : List Int) : BoardAt C (upd H aT (.lst (ts.map V.int))) p dx aR as aT aL aS { b with turns := ts } := by
  have n := B.nd
  simp only [List.nodup_cons, List.mem_cons, not_or] at n
  obtain ⟨⟨n1, n2, n3, n4, n5⟩, ⟨n6, n7, n8, n9⟩, _⟩ := n
  exact ⟨by rw [upd_ne n1]; exact B.ob, B.mat.upd (by simp only [List.mem_cons, not_or]; exact ⟨n8, n9⟩), upd_same, by rw [upd_ne (Ne.symm n6)]; exact B.hL, by rw [upd_ne (Ne.symm n7)]; exact B.hS, B.nd⟩
theorem _root_.Com.BoardAt.setL {C : Addr} {H : Hp} {p dx aR : Addr} {as : List Addr} {aT aL aS : Addr} {b : Brd} (B : BoardAt C H p dx aR as aT aL aS b) (ls : List Int) : BoardAt C (upd H aL (.lst (ls.map V.int))) p dx aR as aT aL aS { b with loads := ls } := by
  have n := B.nd
  simp only [List.nodup_cons, List.mem_cons, not_or] at n
  obtain ⟨⟨n1, n2, n3, n4, n5⟩, ⟨n6, n7, n8, n9⟩, ⟨n10, n11, n12⟩, _⟩ := n
  exact ⟨by rw [upd_ne n2]; exact B.ob, B.mat.upd (by simp only [List.mem_cons, not_or]; exact ⟨n11, n12⟩), by rw [upd_ne n6]; exact B.hT, upd_same, by rw [upd_ne (Ne.symm n10)]; exact B.hS, B.nd⟩
theorem getD_get {α : Type} {l : List α} {i : Nat} {d : α} (h : i < l.length) : l.getD i d = l[i] := by simp [List.getElem?_eq_getElem h]
theorem _root_.Com.Mat.at {H : Hp} {R : Addr} {as : List Addr} {rows : List (List Int)} (M : Mat H R as rows) {z : Int} (h0 : 0 ≤ z) (h1 : z < (rows.length : Int)) : ∃ c, atI (as.map V.ref) z = some (.ref c) ∧ H c = some (.lst ((rows.getD z.toNat []).map V.int)) ∧ as[z.toNat]? = some c := by
  have h : z.toNat < rows.length := by omega
  obtain ⟨c, ec, hc, _⟩ := M.get h
  refine ⟨c, at_list (n := z.toNat) (by omega) (by rw [List.getElem?_map, ec]; rfl), ?_, ec⟩
  rw [getD_get h]
  exact hc
theorem atI_map (r : List Int) (i : Int) {v : Int} (h : atI r i = some v) : atI (r.map V.int) i = some (V.int v) := by
  unfold atI at h ⊢
  rw [List.length_map]
  cases q : ixN r.length i with
  | none => rw [q] at h; cases h
  | some j =>
    rw [q] at h
    have h' : r[j]? = some v := h
    show (r.map V.int)[j]? = some (V.int v)
    rw [List.getElem?_map, h']
    rfl
theorem lastx_at {r : List Int} {t : Int} (h0 : 0 ≤ t) (h1 : t < (r.length : Int)) : atI (r.map V.int) (t - 1) = some (V.int (lastx r t)) := by
  have hs : ∃ v, atI r (t - 1) = some v := by
    unfold atI ixN
    by_cases h : 0 ≤ t - 1
    · rw [if_pos h, if_pos (by omega)]
      have : (t - 1).toNat < r.length := by omega
      exact ⟨r[(t - 1).toNat], List.getElem?_eq_getElem this⟩
    · rw [if_neg h, if_pos (by omega)]
      have : (t - 1 + (r.length : Int)).toNat < r.length := by omega
      exact ⟨r[(t - 1 + (r.length : Int)).toNat], List.getElem?_eq_getElem this⟩
  obtain ⟨v, hv⟩ := hs
  have e : lastx r t = v := by unfold lastx; rw [hv]; rfl
  rw [e]
  exact atI_map r _ hv
def spLast (C Cn : Addr) : Sp := fun vs H Q E => ∃ (p dx aR : Addr) (as : List Addr) (aT aL aS : Addr) (b : Brd) (z : Int), vs = [.ref p, .int z] ∧ BoardAt C H p dx aR as aT aL aS b ∧ b.turns.length = b.rows.length ∧ -(2 ^ 62) < z ∧ z < 2 ^ 62 ∧
  (0 ≤ z ∧ z < (b.rows.length : Int) → 0 ≤ b.turns.getD z.toNat 0 ∧ b.turns.getD z.toNat 0 < ((b.rows.getD z.toNat []).length : Int) ∧ Q (.int (lastx (b.rows.getD z.toNat []) (b.turns.getD z.toNat 0))) H) ∧
  (¬ (0 ≤ z ∧ z < (b.rows.length : Int)) → E (.ref Cn) none H)
def spTurns (K : PySem.W.Frag) : Sp := fun vs H Q _ => ∃ (a R : Addr) (as : List Addr) (rows : List (List Int)) (ns : List Int), vs = [.ref a, .ref R] ∧ SqL K H a (ns.map V.int) ∧ Mat H R as rows ∧ Wf rows ∧
  ∀ (l : Addr) (ts : List Int), H l = none → TurnsOk rows ts → Q (.ref l) (upd H l (.lst (ts.map V.int)))
def spBoard (K : PySem.W.Frag) (C : Addr) : Sp := fun vs H Q _ => ∃ (R tA lA : Addr) (as : List Addr) (rows : List (List Int)) (ts ls : List Int), vs = [.ref R, .ref tA, .ref lA] ∧ Mat H R as rows ∧ Wf rows ∧ SqL K H tA (ts.map V.int) ∧ SqL K H lA (ls.map V.int) ∧ TurnsOk rows ts ∧
  ls.length = rows.length ∧ (∀ k, k ≤ rows.length → (ls.take k).sum ≤ 400) ∧ ∀ (p dx aR : Addr) (asB : List Addr) (aT aL aS : Addr) (H' : Hp), BoardAt C H' p dx aR asB aT aL aS ⟨rows, ts, ls, List.replicate rows.length 0, 0⟩ → Same H H' →
    (∀ c ∈ p :: aT :: aL :: aS :: aR :: asB, H c = none) → Q (.ref p) H'
def part (xs : List Int) (n k : Nat) : List Int := xs.take k ++ List.replicate (n - k) 0
theorem part_len {xs : List Int} {n k : Nat} (h : xs.length = n) (hk : k ≤ n) : (part xs n k).length = n := by
  unfold part
  rw [List.length_append, List.length_take, List.length_replicate]
  omega
theorem part_zero (xs : List Int) (n : Nat) : part xs n 0 = List.replicate n 0 := by unfold part; simp
theorem part_all {xs : List Int} {n : Nat} (h : xs.length = n) : part xs n n = xs := by unfold part; rw [← h]; simp
theorem part_get {xs : List Int} {n k : Nat} (h : xs.length = n) (hk : k < n) : (part xs n k).getD k 0 = 0 := by
  unfold part
  have hl : (xs.take k).length = k := by rw [List.length_take]; omega
  have e : (xs.take k ++ List.replicate (n - k) (0 : Int))[k]? = some 0 := by
    rw [List.getElem?_append_right (by omega), hl, Nat.sub_self, List.getElem?_replicate, if_pos (by omega)]
  simp [e]
theorem part_set {xs : List Int} {n k : Nat} (h : xs.length = n) (hk : k < n) : (part xs n k).set k (xs.getD k 0) = part xs n (k + 1) := by
  unfold part
  have hl : (xs.take k).length = k := by rw [List.length_take]; omega
  have hx : xs[k]? = some (xs.getD k 0) := by simp [List.getElem?_eq_getElem (show k < xs.length by omega)]
  rw [List.set_append_right _ _ (by omega), hl, Nat.sub_self, List.take_add_one, hx, show n - k = (n - (k + 1)) + 1 by omega, List.replicate_succ, List.set_cons_zero]
  simp
theorem part_sum {xs : List Int} {n k : Nat} : (part xs n k).sum = (xs.take k).sum := by
  unfold part
  rw [List.sum_append]
  have : (List.replicate (n - k) (0 : Int)).sum = 0 := by
    induction (n - k) with
    | zero => rfl
    | succ m ih => rw [List.replicate_succ, List.sum_cons, ih]; rfl
  omega
theorem take_sum_succ {xs : List Int} {k : Nat} (h : k < xs.length) : (xs.take (k + 1)).sum = (xs.take k).sum + xs.getD k 0 := by
  rw [getD_get h, List.take_add_one, List.sum_append, List.getElem?_eq_getElem h]
  simp
def spReached (K : PySem.W.Frag) : Sp := fun vs H Q _ => ∃ (R : Addr) (as : List Addr) (rows : List (List Int)), vs = [.ref R] ∧ Mat H R as rows ∧ rows.length ≤ 12 ∧ Ins rows ∧ (∀ r ∈ rows, r.length ≤ 100) ∧
  ∀ (l : Addr) (H' : Hp), Same H H' → H l = none → H' l = some (.lst ((reachL rows).map V.bl)) → Q (.ref l) H'
def spOpen (C : Addr) : Sp := fun vs H Q _ => ∃ (p dx aR : Addr) (as : List Addr) (aT aL aS : Addr) (b : Brd), vs = [.ref p] ∧ BoardAt C H p dx aR as aT aL aS b ∧ b.rows.length ≤ 12 ∧ Ins b.rows ∧ (∀ r ∈ b.rows, r.length ≤ 100) ∧
  ∀ H', Same H H' → Q (.bl ((reachL b.rows).all id)) H'
def kn (kvs : List (Key × V)) (i : Int) : Bool := (valV kvs (.inl i)).isSome
theorem kn_put (kvs : List (Key × V)) (i j : Int) (v : V) : kn (putK kvs (.inl i) v) j = (decide (j = i) || kn kvs j) := by
  unfold kn
  rw [valV_put]
  by_cases h : j = i
  · subst h; simp
  · have : ¬ (Sum.inl j : Key) = Sum.inl i := fun z => h (by injection z)
    rw [if_neg this, decide_eq_false h]
    rfl
theorem bools_get {bs : List Bool} {i : Nat} {b : Bool} (h : bs[i]? = some b) : (bs.map V.bl)[i]? = some (V.bl b) := by rw [List.getElem?_map, h]; rfl
def spTree (C : Addr) : Sp := fun vs H Q _ => ∃ (p dx aR : Addr) (as : List Addr) (aT aL aS : Addr) (b : Brd), vs = [.ref p] ∧ BoardAt C H p dx aR as aT aL aS b ∧ TurnsOk b.rows b.turns ∧ Wf b.rows ∧ ∀ H', Same H H' → Q (.bl (treeB b.rows b.turns)) H'
def spTreed (K : PySem.W.Frag) : Sp := fun vs H Q _ => ∃ (R tA : Addr) (as : List Addr) (rows : List (List Int)) (ts : List Int), vs = [.ref R, .ref tA] ∧ Mat H R as rows ∧ SqL K H tA (ts.map V.int) ∧ TurnsOk rows ts ∧ Wf rows ∧ Q (.bl (treeB rows ts)) H
def Down (rows : List (List Int)) : Prop := ∀ i, i < rows.length → ∃ e ∈ rows.getD i [], -1 ≤ e ∧ e < (i : Int)
theorem Down.open {rows : List (List Int)} (h : Down rows) : ∀ i, i < rows.length → rch rows i = true := by
  intro i
  induction i using Nat.strongRecOn with
  | _ i ih =>
    intro hi
    obtain ⟨e, q1, q2, q3⟩ := h i hi
    refine rch_step q1 ?_
    by_cases he : e = -1
    · exact .inl he
    · exact .inr ⟨by omega, ih e.toNat (by omega) (by omega)⟩
theorem open_rev {rows : List (List Int)} {many : Int} (h : Down rows) (hb : ∀ r ∈ rows, ∀ e ∈ r, -1 ≤ e ∧ e < (rows.length : Int)) (hm : (rows.length : Int) = many) : ∀ i, i < (rows.reverse.map fun r => r.map (oth many)).length → rch (rows.reverse.map fun r => r.map (oth many)) i = true := by
  have hl : (rows.reverse.map fun r => r.map (oth many)).length = rows.length := by simp
  have key : ∀ d, d < rows.length → rch (rows.reverse.map fun r => r.map (oth many)) (rows.length - 1 - d) = true := by
    intro d
    induction d using Nat.strongRecOn with
    | _ d ih =>
      intro hd
      obtain ⟨e, q1, q2, q3⟩ := h d hd
      have hg : (rows.reverse.map fun r => r.map (oth many)).getD (rows.length - 1 - d) [] = (rows.getD d []).map (oth many) := by
        rw [List.getD_eq_getElem?_getD, List.getElem?_map, List.getElem?_reverse (by omega), show rows.length - 1 - (rows.length - 1 - d) = d by omega, List.getElem?_eq_getElem hd, getD_get hd]
        rfl
      refine rch_step (e := oth many e) (by rw [hg]; exact List.mem_map.mpr ⟨e, q1, rfl⟩) ?_
      by_cases he : e = -1
      · left; rw [he]; rfl
      · right
        have e1 : oth many e = many - 1 - e := by unfold oth; rw [if_neg (by omega)]
        rw [e1]
        refine ⟨by omega, ?_⟩
        have := ih e.toNat (by omega) (by omega)
        rw [show (many - 1 - e).toNat = rows.length - 1 - e.toNat by omega]
        exact this
  intro i hi
  rw [hl] at hi
  have := key (rows.length - 1 - i) (by omega)
  rw [show rows.length - 1 - (rows.length - 1 - i) = i by omega] at this
  exact this
def spRowsT (K : PySem.W.Frag) : Sp := fun vs H Q _ => ∃ (a : Addr) (ns : List Int), vs = [.ref a] ∧ SqL K H a (ns.map V.int) ∧ ∀ (R : Addr) (as : List Addr) (rows : List (List Int)) (H' : Hp), Wf rows → (∀ i, i < rows.length → rch rows i = true) → Tame rows 30 → Mat H' R as rows → Same H H' → (∀ b ∈ R :: as, H b = none) → Q (.ref R) H'
def Shp (many : Int) (rows : List (List Int)) : Prop := ∃ u, Shape rows u ∧ (sumU u rows.length ≤ 3 ∨ (many ≤ 4 ∧ ∀ i, i < rows.length → u i ≤ 2))
theorem shp_of {many : Int} {rows : List (List Int)} {big : Bool} (h : Shape rows fun _ => if big = true then 0 else 2) (hm : big = false → many ≤ 4) : Shp many rows := by
  cases big with
  | true => exact ⟨_, h, .inl (by show sumU (fun _ => 0) _ ≤ 3; rw [sumU_zero]; decide)⟩
  | false => exact ⟨_, h, .inr ⟨hm rfl, fun i _ => Nat.le_refl _⟩⟩
theorem Shp.down {many : Int} {rows : List (List Int)} (h : Shp many rows) (W : Wf rows) : Down rows := by
  obtain ⟨u, sh, _⟩ := h
  exact sh.step fun r hr e he => ((W.2.2 r hr).2.2 e he).1
theorem Shp.tame {many : Int} {rows : List (List Int)} (h : Shp many rows) (W : Wf rows) (hm : (rows.length : Int) = many) : Tame rows 30 := by
  obtain ⟨u, sh, h | ⟨h4, h2⟩⟩ := h
  · exact tame_big W sh h
  · exact tame_small W sh (by omega) h2
theorem tame_oth {many : Int} {rows : List (List Int)} (T : Tame rows 30) (W : Wf rows) (hm : (rows.length : Int) = many) : Tame (rows.reverse.map fun r => r.map (oth many)) 30 := by
  have := tame_rev W T
  unfold revRows at this
  rw [hm] at this
  exact this
structure Lsts (H : Hp) (R : Addr) (as : List Addr) (tA lA cA : Addr) (b : Brd) : Prop where
  M : Mat H R as b.rows
  t : H tA = some (.lst (b.turns.map V.int))
  l : H lA = some (.lst ((b.loads ++ [b.taken]).map V.int))
  c : H cA = some (.lst (b.steps.map V.int))
  tl : tA ≠ lA
  tc : tA ≠ cA
  lc : lA ≠ cA
  nR : ∀ x ∈ [tA, lA, cA], x ∉ R :: as
theorem Lsts.keep {H H' : Hp} {R : Addr} {as : List Addr} {tA lA cA : Addr} {b : Brd} (S : Lsts H R as tA lA cA b) (k : ∀ c o, c ∈ tA :: lA :: cA :: R :: as → H c = some o → H' c = some o) : Lsts H' R as tA lA cA b :=
  { S with M := S.M.keep fun c o hc => k c o (by simp only [List.mem_cons] at hc ⊢; exact .inr (.inr (.inr hc))), t := k _ _ (by simp) S.t, l := k _ _ (by simp) S.l, c := k _ _ (by simp) S.c }
theorem Lsts.same {H H' : Hp} {R : Addr} {as : List Addr} {tA lA cA : Addr} {b : Brd} (S : Lsts H R as tA lA cA b) (s : Same H H') : Lsts H' R as tA lA cA b := S.keep fun c o _ => s c o
def spStepBy : Sp := fun vs H Q _ => ∃ (R : Addr) (as : List Addr) (tA lA cA : Addr) (b : Brd) (z : Int), vs = [.ref R, .ref tA, .ref lA, .ref cA, .int z] ∧ Lsts H R as tA lA cA b ∧ BrdOk b ∧ 0 ≤ z ∧ z < (b.rows.length : Int) ∧
  ∀ H', Lsts H' R as tA lA cA (stepB b z.toNat) → (∀ x, x ∉ tA :: lA :: cA :: R :: as → H' x = H x) → Q .non H'
def spStep (C Cn Cm : Addr) : Sp := fun vs H Q E => ∃ (p dx aR : Addr) (as : List Addr) (aT aL aS : Addr) (b : Brd) (z : Int), vs = [.ref p, .int z] ∧ BoardAt C H p dx aR as aT aL aS b ∧ BrdOk b ∧ -(2 ^ 62) < z ∧ z < 2 ^ 62 ∧
  (¬ (0 ≤ z ∧ z < (b.rows.length : Int)) → E (.ref Cn) none H) ∧ (0 ≤ z ∧ z < (b.rows.length : Int) → b.loads.getD z.toNat 0 < 1 → E (.ref Cm) none H) ∧
  (0 ≤ z ∧ z < (b.rows.length : Int) → 1 ≤ b.loads.getD z.toNat 0 → ∀ H', BoardAt C H' p dx aR as aT aL aS (stepB b z.toNat) → (∀ x, x ∉ p :: aT :: aL :: aS :: aR :: as → H' x = H x) → Q (.int (exitOf b.rows b.turns z.toNat)) H')
theorem same_frame {H0 H H' : Hp} {xs : List Addr} (s : Same H0 H) (fr : ∀ x ∈ xs, H0 x = none) (f : ∀ x, x ∉ xs → H' x = H x) : Same H0 H' := fun c o e => by
  rw [f c (fun z => by rw [fr c z] at e; cases e)]
  exact s c o e
theorem gone_set {l1 : List Int} {t g : Int} (h0 : -1 ≤ g) (h1 : g < (l1.length : Int)) : ∃ j x, ixN ((l1 ++ [t]).map V.int).length g = some j ∧ atI ((l1 ++ [t]).map V.int) g = some (V.int x) ∧ (l1 ++ [t]).set j (x + 1) = (if g = -1 then l1 else l1.set g.toNat (l1.getD g.toNat 0 + 1)) ++ [if g = -1 then t + 1 else t] := by
  by_cases e : g = -1
  · subst e
    refine ⟨l1.length, t, ?_, at_last_int l1 t, ?_⟩
    · unfold ixN
      rw [if_neg (by decide), List.length_map, List.length_append, List.length_singleton, if_pos (by omega)]
      congr 1
      omega
    · rw [if_pos rfl, if_pos rfl, List.set_append_right _ _ (Nat.le_refl _), Nat.sub_self]
      rfl
  · have h2 : g.toNat < l1.length := by omega
    refine ⟨g.toNat, l1.getD g.toNat 0, ixN_in (by omega) (by rw [List.length_map, List.length_append, List.length_singleton]; omega), ?_, ?_⟩
    · have := at_ints (ns := l1 ++ [t]) (i := g) (by omega) (by rw [List.length_append, List.length_singleton]; omega)
      rw [List.getD_eq_getElem?_getD, List.getElem?_append_left h2, ← List.getD_eq_getElem?_getD] at this
      exact this
    · rw [if_neg e, if_neg e, List.set_append_left _ _ h2]
theorem at_app {ls : List Int} {t z : Int} (h0 : 0 ≤ z) (h1 : z < (ls.length : Int)) : atI ((ls ++ [t]).map V.int) z = some (V.int (ls.getD z.toNat 0)) := by
  have := at_ints (ns := ls ++ [t]) (i := z) h0 (by rw [List.length_append, List.length_singleton]; omega)
  rw [List.getD_eq_getElem?_getD, List.getElem?_append_left (by omega), ← List.getD_eq_getElem?_getD] at this
  exact this
theorem take_sum_le {ls : List Int} (h : ∀ i, 0 ≤ ls.getD i 0) : ∀ k, (ls.take k).sum ≤ ls.sum := by
  induction ls with
  | nil => intro k; simp
  | cons x r ih =>
    intro k
    have h0 : 0 ≤ x := h 0
    have hr : ∀ i, 0 ≤ r.getD i 0 := fun i => h (i + 1)
    cases k with
    | zero =>
      have := ih hr 0
      simp only [List.take_zero, List.sum_nil, List.sum_cons] at this ⊢
      omega
    | succ k =>
      have := ih hr k
      rw [List.take_succ_cons, List.sum_cons, List.sum_cons]
      omega
theorem snoc_int (ls : List Int) (t : Int) : ls.map V.int ++ [V.int t] = (ls ++ [t]).map V.int := by simp
theorem rep_nn (n : Nat) : ∀ i, (0 : Int) ≤ (List.replicate n (0 : Int)).getD i 0 := fun i => by
  rw [List.getD_eq_getElem?_getD, List.getElem?_replicate]
  split <;> simp
theorem rep_sum0 (n : Nat) : (List.replicate n (0 : Int)).sum = 0 := by
  induction n with
  | zero => rfl
  | succ m ih => rw [List.replicate_succ, List.sum_cons, ih]; rfl
theorem set_nn {ls : List Int} {i : Nat} {v : Int} (h : ∀ i, 0 ≤ ls.getD i 0) (hv : 0 ≤ v) : ∀ j, 0 ≤ (ls.set i v).getD j 0 := fun j => by
  by_cases e : i = j
  · subst e
    by_cases hl : i < ls.length
    · rw [gD_set_self hl]; exact hv
    · rw [List.set_eq_of_length_le (by omega)]; exact h i
  · rw [gD_set_ne e]; exact h j
theorem putF_taken (aR aT aL aS : Addr) (z y : Int) : putF "taken" (.int y) (bflds aR aT aL aS z) = bflds aR aT aL aS y := by
  have n (f g : Str) (h : f ≠ g) (v u : V) (r : List (Str × V)) : putF g v ((f, u) :: r) = (f, u) :: putF g v r := by
    show (if f = g then (f, v) :: r else (f, u) :: putF g v r) = _
    rw [if_neg h]
  unfold bflds
  rw [n _ _ (by decide +kernel), n _ _ (by decide +kernel), n _ _ (by decide +kernel), n _ _ (by decide +kernel)]
  rfl
theorem _root_.Com.BoardAt.setS {C : Addr} {H : Hp} {p dx aR : Addr} {as : List Addr} {aT aL aS : Addr} {b : Brd} (B : BoardAt C H p dx aR as aT aL aS b) (ls : List Int) : BoardAt C (upd H aS (.lst (ls.map V.int))) p dx aR as aT aL aS { b with steps := ls } := by
  have n := B.nd
  simp only [List.nodup_cons, List.mem_cons, not_or] at n
  obtain ⟨⟨n1, n2, n3, n4, n5⟩, ⟨n6, n7, n8, n9⟩, ⟨n10, n11, n12⟩, ⟨n13, n14⟩, _⟩ := n
  exact ⟨by rw [upd_ne n3]; exact B.ob, B.mat.upd (by simp only [List.mem_cons, not_or]; exact ⟨n13, n14⟩), by rw [upd_ne n7]; exact B.hT, by rw [upd_ne n10]; exact B.hL, upd_same, B.nd⟩
theorem _root_.Com.BoardAt.setP {C : Addr} {H : Hp} {p dx aR : Addr} {as : List Addr} {aT aL aS : Addr} {b : Brd} (B : BoardAt C H p dx aR as aT aL aS b) (y : Int) : BoardAt C (upd H p (.ins C dx (bflds aR aT aL aS y))) p dx aR as aT aL aS { b with taken := y } := by
  have n := B.nd
  simp only [List.nodup_cons, List.mem_cons, not_or] at n
  obtain ⟨⟨n1, n2, n3, n4, n5⟩, _⟩ := n
  exact ⟨upd_same, B.mat.upd (by simp only [List.mem_cons, not_or]; exact ⟨n4, n5⟩), by rw [upd_ne (Ne.symm n1)]; exact B.hT, by rw [upd_ne (Ne.symm n2)]; exact B.hL, by rw [upd_ne (Ne.symm n3)]; exact B.hS, B.nd⟩
theorem board_in {C : Addr} {H : Hp} {p dx aR : Addr} {asB : List Addr} {aT aL aS : Addr} {b : Brd} (B : BoardAt C H p dx aR asB aT aL aS b) : ∀ x ∈ p :: aT :: aL :: aS :: aR :: asB, ∃ o, H x = some o := fun c hc => by
  simp only [List.mem_cons] at hc
  rcases hc with rfl | rfl | rfl | rfl | rfl | hc
  · exact ⟨_, B.ob⟩
  · exact ⟨_, B.hT⟩
  · exact ⟨_, B.hL⟩
  · exact ⟨_, B.hS⟩
  · exact ⟨_, B.mat.hd⟩
  · obtain ⟨i, hi, ei⟩ := List.getElem_of_mem hc
    obtain ⟨c', e1, e2, _⟩ := B.mat.get (i := i) (by rw [← B.mat.len]; exact hi)
    rw [List.getElem?_eq_getElem hi, ei] at e1
    cases e1
    exact ⟨_, e2⟩
theorem mat_in {H : Hp} {R : Addr} {as : List Addr} {rows : List (List Int)} (M : Mat H R as rows) : ∀ x ∈ R :: as, ∃ o, H x = some o := fun c hc => by
  rcases List.mem_cons.mp hc with y | y
  · rw [y]; exact ⟨_, M.hd⟩
  · obtain ⟨i, hi, ei⟩ := List.getElem_of_mem y
    obtain ⟨c', e1, e2, _⟩ := M.get (i := i) (by rw [← M.len]; exact hi)
    rw [List.getElem?_eq_getElem hi, ei] at e1
    cases e1
    exact ⟨_, e2⟩
theorem mat_no {H : Hp} {R : Addr} {as : List Addr} {rows : List (List Int)} (M : Mat H R as rows) {t : Addr} (hn : H t = none) : t ∉ R :: as := fun z => by
  obtain ⟨o, e⟩ := mat_in M t z
  rw [hn] at e
  cases e
theorem Lsts.ins {H : Hp} {R : Addr} {as : List Addr} {tA lA cA : Addr} {b : Brd} (S : Lsts H R as tA lA cA b) : ∀ x ∈ tA :: lA :: cA :: R :: as, ∃ o, H x = some o := fun c hc => by
  simp only [List.mem_cons] at hc
  rcases hc with rfl | rfl | rfl | hc
  · exact ⟨_, S.t⟩
  · exact ⟨_, S.l⟩
  · exact ⟨_, S.c⟩
  · exact mat_in S.M c (List.mem_cons.mpr hc)
section
variable {C : Addr} {H0 H H' : Hp} {p dx aR : Addr} {asB : List Addr} {aT aL aS R : Addr} {as : List Addr} {tA lA cA : Addr} {b b' b2 : Brd}
end
theorem _root_.Com.BoardAt.lists {C : Addr} {H : Hp} {p dx aR : Addr} {as : List Addr} {aT aL aS : Addr} {b : Brd} (B : BoardAt C H p dx aR as aT aL aS b) : ∀ x ∈ aT :: aL :: aS :: aR :: as, ∃ xs, H x = some (.lst xs) := fun c hc => by
  simp only [List.mem_cons] at hc
  rcases hc with rfl | rfl | rfl | rfl | hc
  · exact ⟨_, B.hT⟩
  · exact ⟨_, B.hL⟩
  · exact ⟨_, B.hS⟩
  · exact ⟨_, B.mat.hd⟩
  · obtain ⟨i, hi, ei⟩ := List.getElem_of_mem hc
    obtain ⟨c', e1, e2, _⟩ := B.mat.get (i := i) (by rw [← B.mat.len]; exact hi)
    rw [List.getElem?_eq_getElem hi, ei] at e1
    cases e1
    exact ⟨_, e2⟩
theorem putF_turns (aR aT aL aS : Addr) (z : Int) (n : Addr) : putF "turns" (.ref n) (bflds aR aT aL aS z) = bflds aR n aL aS z := by
  have n' (f g : Str) (h : f ≠ g) (v u : V) (r : List (Str × V)) : putF g v ((f, u) :: r) = (f, u) :: putF g v r := by
    show (if f = g then (f, v) :: r else (f, u) :: putF g v r) = _
    rw [if_neg h]
  unfold bflds
  rw [n' _ _ (by decide +kernel)]
  rfl
theorem putF_loads (aR aT aL aS : Addr) (z : Int) (n : Addr) : putF "loads" (.ref n) (bflds aR aT aL aS z) = bflds aR aT n aS z := by
  have n' (f g : Str) (h : f ≠ g) (v u : V) (r : List (Str × V)) : putF g v ((f, u) :: r) = (f, u) :: putF g v r := by
    show (if f = g then (f, v) :: r else (f, u) :: putF g v r) = _
    rw [if_neg h]
  unfold bflds
  rw [n' _ _ (by decide +kernel), n' _ _ (by decide +kernel)]
  rfl
theorem putF_steps (aR aT aL aS : Addr) (z : Int) (n : Addr) : putF "steps" (.ref n) (bflds aR aT aL aS z) = bflds aR aT aL n z := by
  have n' (f g : Str) (h : f ≠ g) (v u : V) (r : List (Str × V)) : putF g v ((f, u) :: r) = (f, u) :: putF g v r := by
    show (if f = g then (f, v) :: r else (f, u) :: putF g v r) = _
    rw [if_neg h]
  unfold bflds
  rw [n' _ _ (by decide +kernel), n' _ _ (by decide +kernel), n' _ _ (by decide +kernel)]
  rfl
section
variable {C : Addr} {H : Hp} {p dx aR : Addr} {as : List Addr} {aT aL aS : Addr} {b : Brd}
theorem _root_.Com.BoardAt.newT (B : BoardAt C H p dx aR as aT aL aS b) {n : Addr} (hn : H n = none) (ts : List Int) : BoardAt C (upd (upd H n (.lst (ts.map V.int))) p (.ins C dx (bflds aR n aL aS b.taken))) p dx aR as n aL aS { b with turns := ts } := by
  have nn : ∀ x ∈ p :: aT :: aL :: aS :: aR :: as, x ≠ n := fun x hx z => by obtain ⟨o, e⟩ := board_in B x hx; rw [z, hn] at e; cases e
  have nd := B.nd
  simp only [List.nodup_cons, List.mem_cons, not_or] at nd
  obtain ⟨⟨n1, n2, n3, n4, n5⟩, ⟨n6, n7, n8, n9⟩, ⟨n10, n11, n12⟩, ⟨n13, n14⟩, n15, n16⟩ := nd
  have pn := nn p (by simp)
  have k : ∀ x o, x ∈ aL :: aS :: aR :: as → H x = some o → (upd (upd H n (.lst (ts.map V.int))) p (.ins C dx (bflds aR n aL aS b.taken))) x = some o := fun x o hx e => by
    have x1 : x ≠ n := nn x (by simp only [List.mem_cons] at hx ⊢; exact .inr (.inr hx))
    have x2 : x ≠ p := by
      simp only [List.mem_cons] at hx
      rcases hx with rfl | rfl | rfl | hx
      · exact Ne.symm n2
      · exact Ne.symm n3
      · exact Ne.symm n4
      · exact fun z => n5 (by rw [← z]; exact hx)
    rw [upd_ne x2, upd_ne x1]
    exact e
  refine ⟨upd_same, B.mat.keep fun c o hc => k c o (by simp only [List.mem_cons] at hc ⊢; exact .inr (.inr hc)), by rw [upd_ne (Ne.symm pn)]; exact upd_same, k _ _ (by simp) B.hL, k _ _ (by simp) B.hS, ?_⟩
  simp only [List.nodup_cons, List.mem_cons, not_or]
  exact ⟨⟨pn, n2, n3, n4, n5⟩, ⟨Ne.symm (nn aL (by simp)), Ne.symm (nn aS (by simp)), Ne.symm (nn aR (by simp)), fun z => nn n (by simp [z]) rfl⟩, ⟨n10, n11, n12⟩, ⟨n13, n14⟩, n15, n16⟩
theorem _root_.Com.BoardAt.newL (B : BoardAt C H p dx aR as aT aL aS b) {n : Addr} (hn : H n = none) (ts : List Int) : BoardAt C (upd (upd H n (.lst (ts.map V.int))) p (.ins C dx (bflds aR aT n aS b.taken))) p dx aR as aT n aS { b with loads := ts } := by
  have nn : ∀ x ∈ p :: aT :: aL :: aS :: aR :: as, x ≠ n := fun x hx z => by obtain ⟨o, e⟩ := board_in B x hx; rw [z, hn] at e; cases e
  have nd := B.nd
  simp only [List.nodup_cons, List.mem_cons, not_or] at nd
  obtain ⟨⟨n1, n2, n3, n4, n5⟩, ⟨n6, n7, n8, n9⟩, ⟨n10, n11, n12⟩, ⟨n13, n14⟩, n15, n16⟩ := nd
  have pn := nn p (by simp)
  have k : ∀ x o, x ∈ aT :: aS :: aR :: as → H x = some o → (upd (upd H n (.lst (ts.map V.int))) p (.ins C dx (bflds aR aT n aS b.taken))) x = some o := fun x o hx e => by
    simp only [List.mem_cons] at hx
    have x1 : x ≠ n := nn x (by
      simp only [List.mem_cons]
      rcases hx with h | h | h | h <;> simp [h])
    have x2 : x ≠ p := by
      rcases hx with rfl | rfl | rfl | hx
      · exact Ne.symm n1
      · exact Ne.symm n3
      · exact Ne.symm n4
      · exact fun z => n5 (by rw [← z]; exact hx)
    rw [upd_ne x2, upd_ne x1]
    exact e
  refine ⟨upd_same, B.mat.keep fun c o hc => k c o (by simp only [List.mem_cons] at hc ⊢; exact .inr (.inr hc)), k _ _ (by simp) B.hT, by rw [upd_ne (Ne.symm pn)]; exact upd_same, k _ _ (by simp) B.hS, ?_⟩
  simp only [List.nodup_cons, List.mem_cons, not_or]
  exact ⟨⟨n1, pn, n3, n4, n5⟩, ⟨nn aT (by simp), n7, n8, n9⟩, ⟨Ne.symm (nn aS (by simp)), Ne.symm (nn aR (by simp)), fun z => nn n (by simp [z]) rfl⟩, ⟨n13, n14⟩, n15, n16⟩
theorem _root_.Com.BoardAt.newS (B : BoardAt C H p dx aR as aT aL aS b) {n : Addr} (hn : H n = none) (ts : List Int) : BoardAt C (upd (upd H n (.lst (ts.map V.int))) p (.ins C dx (bflds aR aT aL n b.taken))) p dx aR as aT aL n { b with steps := ts } := by
  have nn : ∀ x ∈ p :: aT :: aL :: aS :: aR :: as, x ≠ n := fun x hx z => by obtain ⟨o, e⟩ := board_in B x hx; rw [z, hn] at e; cases e
  have nd := B.nd
  simp only [List.nodup_cons, List.mem_cons, not_or] at nd
  obtain ⟨⟨n1, n2, n3, n4, n5⟩, ⟨n6, n7, n8, n9⟩, ⟨n10, n11, n12⟩, ⟨n13, n14⟩, n15, n16⟩ := nd
  have pn := nn p (by simp)
  have k : ∀ x o, x ∈ aT :: aL :: aR :: as → H x = some o → (upd (upd H n (.lst (ts.map V.int))) p (.ins C dx (bflds aR aT aL n b.taken))) x = some o := fun x o hx e => by
    simp only [List.mem_cons] at hx
    have x1 : x ≠ n := nn x (by
      simp only [List.mem_cons]
      rcases hx with h | h | h | h <;> simp [h])
    have x2 : x ≠ p := by
      rcases hx with rfl | rfl | rfl | hx
      · exact Ne.symm n1
      · exact Ne.symm n2
      · exact Ne.symm n4
      · exact fun z => n5 (by rw [← z]; exact hx)
    rw [upd_ne x2, upd_ne x1]
    exact e
  refine ⟨upd_same, B.mat.keep fun c o hc => k c o (by simp only [List.mem_cons] at hc ⊢; exact .inr (.inr hc)), k _ _ (by simp) B.hT, k _ _ (by simp) B.hL, by rw [upd_ne (Ne.symm pn)]; exact upd_same, ?_⟩
  simp only [List.nodup_cons, List.mem_cons, not_or]
  exact ⟨⟨n1, n2, pn, n4, n5⟩, ⟨n6, nn aT (by simp), n8, n9⟩, ⟨nn aL (by simp), n11, n12⟩, ⟨Ne.symm (nn aR (by simp)), fun z => nn n (by simp [z]) rfl⟩, n15, n16⟩
end
def But (p : Addr) (H H' : Hp) : Prop := ∀ x o, x ≠ p → H x = some o → H' x = some o
theorem But.refl (p : Addr) (H : Hp) : But p H H := fun _ _ _ e => e
theorem But.new {p : Addr} {H H' : Hp} (k : But p H H') {n : Addr} {o o' : HO} (hn : H' n = none) : But p H (upd (upd H' n o) p o') := fun x u hx e => by
  have := k x u hx e
  rw [upd_ne hx, upd_ne (ne_of_none this hn)]
  exact this
theorem But.free {p : Addr} {H H' : Hp} (k : But p H H') {n : Addr} (hn : H' n = none) (hp : n ≠ p) : H n = none := by
  cases e : H n with
  | none => rfl
  | some o => rw [k n o hp e] at hn; cases hn
theorem But.same {p : Addr} {H0 H H' : Hp} (k : But p H H') (s : Same H0 H) (hp : H0 p = none) : Same H0 H' := fun x o e => k x o (ne_of_none e hp) (s x o e)
theorem But.board {p : Addr} {H H' : Hp} (k : But p H H') {C : Addr} {p2 dx2 aR2 : Addr} {as2 : List Addr} {aT2 aL2 aS2 : Addr} {b2 : Brd} (B : BoardAt C H p2 dx2 aR2 as2 aT2 aL2 aS2 b2) (hp : p ∉ p2 :: aT2 :: aL2 :: aS2 :: aR2 :: as2) : BoardAt C H' p2 dx2 aR2 as2 aT2 aL2 aS2 b2 :=
  B.keep fun c o hc e => k c o (fun z => hp (by rw [← z]; exact hc)) e
theorem ins_not {C : Addr} {H : Hp} {p dx : Addr} {fs : List (Str × V)} (e : H p = some (.ins C dx fs)) {p2 dx2 aR2 : Addr} {as2 : List Addr} {aT2 aL2 aS2 : Addr} {b2 : Brd} (B : BoardAt C H p2 dx2 aR2 as2 aT2 aL2 aS2 b2) (hp : p ≠ p2) : p ∉ p2 :: aT2 :: aL2 :: aS2 :: aR2 :: as2 := fun z => by
  rcases List.mem_cons.mp z with z | z
  · exact hp z
  · obtain ⟨xs, e2⟩ := B.lists p z
    rw [e] at e2
    cases e2
def spLike (C : Addr) : Sp := fun vs H Q _ => ∃ (p dx aR : Addr) (as : List Addr) (aT aL aS : Addr) (b : Brd) (p2 dx2 aR2 : Addr) (as2 : List Addr) (aT2 aL2 aS2 : Addr) (b2 : Brd), vs = [.ref p, .ref p2] ∧ BoardAt C H p dx aR as aT aL aS b ∧ BoardAt C H p2 dx2 aR2 as2 aT2 aL2 aS2 b2 ∧ p ≠ p2 ∧
  ∀ (aT' aL' aS' : Addr) (H' : Hp), BoardAt C H' p dx aR as aT' aL' aS' ⟨b.rows, b2.turns, b2.loads, b2.steps, b2.taken⟩ → But p H H' → H aT' = none → H aL' = none → H aS' = none → Q .non H'
def spTwin (C : Addr) : Sp := fun vs H Q _ => ∃ (p dx aR : Addr) (as : List Addr) (aT aL aS : Addr) (b : Brd), vs = [.ref p] ∧ BoardAt C H p dx aR as aT aL aS b ∧ Wf b.rows ∧
  ∀ (p' dx' aR' : Addr) (as' : List Addr) (aT' aL' aS' : Addr) (H' : Hp), BoardAt C H' p' dx' aR' as' aT' aL' aS' b → Same H H' → (∀ c ∈ p' :: aT' :: aL' :: aS' :: aR' :: as', H c = none) → Q (.ref p') H'
def spLaden (C : Addr) : Sp := fun vs H Q _ => ∃ (p dx aR : Addr) (as : List Addr) (aT aL aS : Addr) (b : Brd), vs = [.ref p] ∧ BoardAt C H p dx aR as aT aL aS b ∧ b.loads.length ≤ 100 ∧
  ∀ (l : Addr) (H' : Hp), Same H H' → H l = none → H' l = some (.lst ((ladenL b.loads).map fun i => V.int (i : Nat))) → Q (.ref l) H'
def spChkO (C Co : Addr) : Sp := fun vs H Q E => ∃ (p dx aR : Addr) (as : List Addr) (aT aL aS : Addr) (b : Brd), vs = [.ref p] ∧ BoardAt C H p dx aR as aT aL aS b ∧ Wf b.rows ∧
  ((reachL b.rows).all id = true → ∀ H', Same H H' → Q .non H') ∧ ((reachL b.rows).all id = false → ∀ H', Same H H' → E (.ref Co) none H')
def spRun (C Co Cl : Addr) : Sp := fun vs H Q E => ∃ (p dx aR : Addr) (as : List Addr) (aT aL aS : Addr) (b : Brd) (most : Int), vs = [.ref p, .int most] ∧ BoardAt C H p dx aR as aT aL aS b ∧ BrdOk b ∧ -(2 ^ 62) < most ∧ most < 2 ^ 62 ∧
  ((reachL b.rows).all id = false → ∀ H', Same H H' → E (.ref Co) none H') ∧
  ((reachL b.rows).all id = true → ∃ N : Nat, RunTo b N ∧ ((N : Int) ≤ most → ∀ (aT' aL' aS' : Addr) (H' : Hp), BoardAt C H' p dx aR as aT' aL' aS' (iterR N b) → But p H H' → H aT' = none → H aL' = none → H aS' = none → Q (.int N) H') ∧
    (most < (N : Int) → ∀ H', Same H H' → E (.ref Cl) none H'))
def spRunBy : Sp := fun vs H Q _ => ∃ (R : Addr) (as : List Addr) (tA lA cA : Addr) (b : Brd) (N : Nat), vs = [.ref R, .ref tA, .ref lA, .ref cA] ∧ Lsts H R as tA lA cA b ∧ BrdOk b ∧ RunTo b N ∧
  ∀ H', Lsts H' R as tA lA cA (iterR N b) → (∀ x, x ∉ tA :: lA :: cA :: R :: as → H' x = H x) → Q .non H'
theorem laden_range (ls : List Int) (i : Nat) : ((List.range (i + 1)).filter fun k => decide (0 < ls.getD k 0)).map (fun k => V.int (k : Nat)) = ((List.range i).filter fun k => decide (0 < ls.getD k 0)).map (fun k => V.int (k : Nat)) ++ (if 0 < ls.getD i 0 then [V.int (i : Nat)] else []) := by
  rw [List.range_succ, List.filter_append, List.map_append]
  by_cases h : 0 < ls.getD i 0
  · rw [if_pos h, List.filter_cons_of_pos (by exact decide_eq_true h)]; rfl
  · rw [if_neg h, List.filter_cons_of_neg (by exact fun z => h (of_decide_eq_true z))]; rfl
def spLeads (C : Addr) : Sp := fun vs H Q _ => ∃ (p dx aR : Addr) (as : List Addr) (aT aL aS : Addr) (b : Brd) (st z : Int), vs = [.ref p, .int st, .int z] ∧ BoardAt C H p dx aR as aT aL aS b ∧ Wf b.rows ∧ TurnsOk b.rows b.turns ∧ -1 ≤ z ∧ z < (b.rows.length : Int) ∧ Q (.int (ring b.rows st b.turns z)) H
def spAhead (C : Addr) : Sp := fun vs H Q _ => ∃ (p dx aR : Addr) (as : List Addr) (aT aL aS : Addr) (b : Brd) (st x : Int) (m : Nat), vs = [.ref p, .int st, .int x] ∧ BoardAt C H p dx aR as aT aL aS b ∧ Wf b.rows ∧ TurnsOk b.rows b.turns ∧ 0 ≤ st ∧ st < (b.rows.length : Int) ∧ -1 ≤ x ∧ x < (b.rows.length : Int) ∧ Ahead b.rows st b.turns x m ∧ Q (.int (goR b.rows st b.turns m x)) H
def spTurnB (C Cl : Addr) : Sp := fun vs H Q E => ∃ (p dx aR : Addr) (as : List Addr) (aT aL aS : Addr) (b : Brd) (st most : Int), vs = [.ref p, .int st, .int most] ∧ BoardAt C H p dx aR as aT aL aS b ∧ BrdOk b ∧ treeB b.rows b.turns = true ∧ Tame b.rows 30 ∧ 0 ≤ st ∧ st < (b.rows.length : Int) ∧ -(2 ^ 62) < most ∧ most < 2 ^ 62 ∧
  (∀ (N m : Nat) (T : List Int), Bk b.rows st b.turns N T st → Ahead b.rows st T st m → goR b.rows st T m st = -1 → treeB b.rows T = true → TurnsOk b.rows T → (N : Int) ≤ most → ∀ H', BoardAt C H' p dx aR as aT aL aS ⟨b.rows, T, b.loads, b.steps, b.taken⟩ → (∀ x, x ∉ p :: aT :: aL :: aS :: aR :: as → H' x = H x) → Q (.int N) H') ∧
  (∀ (k : Nat) (T : List Int) (x : Int), Bk b.rows st b.turns k T x → most < (k : Int) → ∀ H', (∀ x, x ∉ p :: aT :: aL :: aS :: aR :: as → H' x = H x) → E (.ref Cl) none H')
def spChkB (C Cn Co Cb Ct : Addr) : Sp := fun vs H Q E => ∃ (p dx aR : Addr) (as : List Addr) (aT aL aS : Addr) (b : Brd) (z : Int), vs = [.ref p, .int z] ∧ BoardAt C H p dx aR as aT aL aS b ∧ BrdOk b ∧ -(2 ^ 62) < z ∧ z < 2 ^ 62 ∧
  (¬ (0 ≤ z ∧ z < (b.rows.length : Int)) → ∀ H', Same H H' → E (.ref Cn) none H') ∧
  (0 ≤ z ∧ z < (b.rows.length : Int) → (reachL b.rows).all id = false → ∀ H', Same H H' → E (.ref Co) none H') ∧
  (0 ≤ z ∧ z < (b.rows.length : Int) → (reachL b.rows).all id = true → ladenL b.loads ≠ [] → ∀ H', Same H H' → E (.ref Cb) none H') ∧
  (0 ≤ z ∧ z < (b.rows.length : Int) → (reachL b.rows).all id = true → ladenL b.loads = [] → treeB b.rows b.turns = false → ∀ H', Same H H' → E (.ref Ct) none H') ∧
  (0 ≤ z ∧ z < (b.rows.length : Int) → (reachL b.rows).all id = true → ladenL b.loads = [] → treeB b.rows b.turns = true → ∀ H', Same H H' → Q .non H')
def spBack (C Cn Co Cb Ct Cl : Addr) : Sp := fun vs H Q E => ∃ (p dx aR : Addr) (as : List Addr) (aT aL aS : Addr) (b : Brd) (st most : Int), vs = [.ref p, .int st, .int most] ∧ BoardAt C H p dx aR as aT aL aS b ∧ BrdOk b ∧ ((reachL b.rows).all id = true → Tame b.rows 30) ∧ -(2 ^ 62) < st ∧ st < 2 ^ 62 ∧ -(2 ^ 62) < most ∧ most < 2 ^ 62 ∧
  (¬ (0 ≤ st ∧ st < (b.rows.length : Int)) → ∀ H', Same H H' → E (.ref Cn) none H') ∧
  (0 ≤ st ∧ st < (b.rows.length : Int) → (reachL b.rows).all id = false → ∀ H', Same H H' → E (.ref Co) none H') ∧
  (0 ≤ st ∧ st < (b.rows.length : Int) → (reachL b.rows).all id = true → ladenL b.loads ≠ [] → ∀ H', Same H H' → E (.ref Cb) none H') ∧
  (0 ≤ st ∧ st < (b.rows.length : Int) → (reachL b.rows).all id = true → ladenL b.loads = [] → treeB b.rows b.turns = false → ∀ H', Same H H' → E (.ref Ct) none H') ∧
  (0 ≤ st ∧ st < (b.rows.length : Int) → (reachL b.rows).all id = true → ladenL b.loads = [] → treeB b.rows b.turns = true → ∀ (k : Nat) (T : List Int) (x : Int), Bk b.rows st b.turns k T x → most < (k : Int) → ∀ H', Same H H' → E (.ref Cl) none H') ∧
  (0 ≤ st ∧ st < (b.rows.length : Int) → (reachL b.rows).all id = true → ladenL b.loads = [] → treeB b.rows b.turns = true → ∀ (N m : Nat) (T : List Int), Bk b.rows st b.turns N T st → Ahead b.rows st T st m → goR b.rows st T m st = -1 → treeB b.rows T = true → TurnsOk b.rows T → (N : Int) ≤ most →
    ∀ (aT' aL' aS' : Addr) (H' : Hp), BoardAt C H' p dx aR as aT' aL' aS' ⟨b.rows, T, b.loads, b.steps, b.taken⟩ → But p H H' → H aT' = none → H aL' = none → H aS' = none → Q (.int N) H')
def spOpened (K : PySem.W.Frag) : Sp := fun vs H Q _ => ∃ (R : Addr) (as : List Addr) (rows : List (List Int)), vs = [.ref R] ∧ Mat H R as rows ∧ Wf rows ∧ ∀ H', Same H H' → Q (.bl ((reachL rows).all id)) H'
theorem notin_all (fb : List Bool) : (!inV (.bl false) (fb.map V.bl)) = fb.all id := by
  induction fb with
  | nil => rfl
  | cons x r ih =>
    have e : inV (.bl false) ((x :: r).map V.bl) = ((x == false) || inV (.bl false) (r.map V.bl)) := rfl
    rw [e, List.all_cons, ← ih]
    cases x <;> simp
theorem flat_bools (fb : List Bool) : (fb.map V.bl).all flatV = true := by
  rw [List.all_eq_true]
  intro x hx
  obtain ⟨y, _, rfl⟩ := List.mem_map.mp hx
  rfl
theorem at_bools {fb : List Bool} {i : Int} (h0 : 0 ≤ i) (h1 : i < (fb.length : Int)) : atI (fb.map V.bl) i = some (V.bl (fb.getD i.toNat false)) := by
  have h : i.toNat < fb.length := by omega
  refine at_list (n := i.toNat) (by omega) ?_
  rw [List.getElem?_map, List.getElem?_eq_getElem h, List.getD_eq_getElem?_getD, List.getElem?_eq_getElem h]
  rfl
theorem map_set_blO (fb : List Bool) (i : Nat) (x : Bool) : (fb.map V.bl).set i (V.bl x) = (fb.set i x).map V.bl := by rw [List.map_set]
theorem bools_reach {rows : List (List Int)} {fb : List Bool} (hl : fb.length = rows.length) (h : ∀ i, i < rows.length → fb.getD i false = rch rows i) : fb = reachL rows := by
  refine List.ext_getElem (by rw [hl, reachL_len]) fun i h1 h2 => ?_
  have := h i (by omega)
  have e := reachL_get (rows := rows) (i := i) (by omega)
  rw [List.getElem?_eq_getElem h2] at e
  rw [List.getD_eq_getElem?_getD, List.getElem?_eq_getElem h1] at this
  exact this.trans (Option.some.inj e).symm
def AnsV (H : Hp) : Ans → V → Prop
  | .non, v => v = .non
  | .int i, v => v = .int i
  | .ref s, v => ∃ t, v = .ref t ∧ H t = some (.tup [.str (Str.ofString "refused"), .str (Str.ofString s)])
def lim (z : Int) : Prop := -(2 ^ 62) < z ∧ z < 2 ^ 62
def Deed.ok : Deed → Prop
  | .load z y => lim z ∧ 0 ≤ y ∧ (y ≤ 2 ∨ 401 ≤ y)
  | .turn z y => lim z ∧ lim y
  | .step z => lim z
  | .run m => lim m
  | .back z m => lim z ∧ lim m
def rcs (A : Adr) : List (String × Addr) := [("NoSite", A.c_NoSite), ("NoPlace", A.c_NoPlace), ("NoMarble", A.c_NoMarble), ("TooMany", A.c_TooMany), ("NotOpen", A.c_NotOpen), ("NotBare", A.c_NotBare), ("NotTree", A.c_NotTree), ("TooLong", A.c_TooLong)]
def spRefused : Sp := fun vs H Q _ => ∃ z : Str, vs = [.str z] ∧ ∀ t, H t = none → Q (.ref t) (upd H t (.tup [.str (Str.ofString "refused"), .str z]))
structure Left (C : Addr) (H H' : Hp) (p dx aR : Addr) (as : List Addr) (aT aL aS aT' aL' aS' : Addr) (b' : Brd) : Prop where
  B : BoardAt C H' p dx aR as aT' aL' aS' b'
  k : ∀ x o, x ∉ p :: aT :: aL :: aS :: aR :: as → H x = some o → H' x = some o
  f : ∀ x ∈ [aT', aL', aS'], x ∈ [aT, aL, aS] ∨ H x = none
  l : ∀ x o, H x = some o → ∃ o', H' x = some o'
theorem upd_live {H : Hp} {c : Addr} {q : HO} : ∀ x o, H x = some o → ∃ o', (upd H c q) x = some o' := fun x o e => by
  by_cases h : x = c
  · rw [h]; exact ⟨_, upd_same⟩
  · exact ⟨o, by rw [upd_ne h]; exact e⟩
def spDo (K : PySem.W.Frag) (A : Adr) : Sp := fun vs H Q E => ∃ (p dx aR : Addr) (as : List Addr) (aT aL aS : Addr) (b : Brd) (dA : Addr) (d : Deed), vs = [.ref p, .ref dA] ∧ BoardAt A.C H p dx aR as aT aL aS b ∧ BrdOk b ∧ SqT K H dA d.vs ∧ Deed.ok d ∧ ((reachL b.rows).all id = true → Tame b.rows 30) ∧ b.loads.sum ≤ 30 ∧
  (∀ (b' : Brd) (a : Ans) (v : V) (aT' aL' aS' : Addr) (H' : Hp), Does b d b' a → AnsV H' a v → Left A.C H H' p dx aR as aT aL aS aT' aL' aS' b' → Q v H') ∧
  (∀ (s : String) (c : Addr) (H' : Hp), (s, c) ∈ rcs A → Does b d b (.ref s) → Same H H' → E (.ref c) none H')
def spAnsTo (K : PySem.W.Frag) (A : Adr) : Sp := fun vs H Q _ => ∃ (p dx aR : Addr) (as : List Addr) (aT aL aS : Addr) (b : Brd) (dA : Addr) (d : Deed), vs = [.ref p, .ref dA] ∧ BoardAt A.C H p dx aR as aT aL aS b ∧ BrdOk b ∧ SqT K H dA d.vs ∧ Deed.ok d ∧ ((reachL b.rows).all id = true → Tame b.rows 30) ∧ b.loads.sum ≤ 30 ∧
  (∀ (b' : Brd) (a : Ans) (v : V) (aT' aL' aS' : Addr) (H' : Hp), Does b d b' a → AnsV H' a v → Left A.C H H' p dx aR as aT aL aS aT' aL' aS' b' → Q v H')
theorem left_same {C : Addr} {H H' : Hp} {p dx aR : Addr} {as : List Addr} {aT aL aS : Addr} {b : Brd} (B : BoardAt C H p dx aR as aT aL aS b) (s : Same H H') : Left C H H' p dx aR as aT aL aS aT aL aS b := ⟨B.same s, fun x o _ e => s x o e, fun x hx => .inl hx, fun x o e => ⟨o, s x o e⟩⟩
theorem getD_le_sum : ∀ {ls : List Int}, (∀ i, 0 ≤ ls.getD i 0) → 0 ≤ ls.sum ∧ ∀ i, ls.getD i 0 ≤ ls.sum
  | [], _ => ⟨by decide, fun i => by simp⟩
  | x :: xs, h => by
    obtain ⟨a, b⟩ := getD_le_sum (ls := xs) fun i => by simpa using h (i + 1)
    have h0 : 0 ≤ x := by simpa using h 0
    rw [List.sum_cons]
    refine ⟨by omega, fun i => ?_⟩
    cases i with
    | zero => simp; omega
    | succ i =>
      have := b i
      rw [List.getD_cons_succ]
      omega
theorem iter_sum {b : Brd} (O : BrdOk b) : ∀ k, (iterR k b).loads.sum ≤ b.loads.sum
  | 0 => Int.le_refl _
  | k + 1 => by
    have ih := iter_sum O k
    have O' := (O.iter k).1
    show (nxt (iterR k b)).loads.sum ≤ _
    cases h : ladenL (iterR k b).loads with
    | nil => rw [nxt_none h]; exact ih
    | cons s l =>
      rw [nxt_some (s := s) (by rw [h]; rfl)]
      have hm := laden_mem (show s ∈ ladenL (iterR k b).loads by rw [h]; exact List.mem_cons_self)
      exact Int.le_trans (step_sum O' (by rw [← O'.L]; exact hm.1)) ih
theorem does_ok {b b' : Brd} {d : Deed} {a : Ans} (O : BrdOk b) (ok : Deed.ok d) (h : Does b d b' a) : BrdOk b' ∧ b'.rows = b.rows ∧ b'.loads.sum ≤ b.loads.sum + 2 := by
  have same : BrdOk b ∧ b.rows = b.rows ∧ b.loads.sum ≤ b.loads.sum + 2 := ⟨O, rfl, by omega⟩
  cases d with
  | load z y =>
    rcases h with ⟨_, rfl, rfl⟩ | ⟨_, _, rfl, rfl⟩ | ⟨i, h4, rfl, rfl⟩
    · exact same
    · exact same
    · have hz : z.toNat < b.loads.length := by rw [O.L]; have := i.1; have := i.2; omega
      have s0 := (getD_le_sum O.P).1
      have hy := ok.2.1
      have e := sum_set (v := b.loads.getD z.toNat 0 + y) hz
      refine ⟨⟨O.W, O.T, by rw [List.length_set]; exact O.L, O.S, set_nn O.P (by have := O.P z.toNat; omega)⟩, rfl, ?_⟩
      show (b.loads.set z.toNat (b.loads.getD z.toNat 0 + y)).sum ≤ _
      rcases ok.2.2 with h2 | h2
      · omega
      · omega
  | turn z y =>
    rcases h with ⟨_, rfl, rfl⟩ | ⟨_, _, rfl, rfl⟩ | ⟨i, h4, rfl, rfl⟩
    · exact same
    · exact same
    · refine ⟨⟨O.W, ⟨by rw [List.length_set]; exact O.T.1, fun j hj => ?_⟩, O.L, O.S, O.P⟩, rfl, by show b.loads.sum ≤ _; omega⟩
      show 0 ≤ (b.turns.set z.toNat y).getD j 0 ∧ (b.turns.set z.toNat y).getD j 0 < _
      have tl := O.T.1
      rw [List.getD_eq_getElem?_getD, List.getElem?_set]
      split
      · rename_i e
        subst e
        rw [if_pos (by have : z.toNat < b.rows.length := hj; omega)]
        exact h4
      · rw [← List.getD_eq_getElem?_getD]
        exact O.T.2 j hj
  | step z =>
    rcases h with ⟨_, rfl, rfl⟩ | ⟨_, _, rfl, rfl⟩ | ⟨i, h4, rfl, rfl⟩
    · exact same
    · exact same
    · have hz : z.toNat < b.rows.length := by have := i.1; have := i.2; omega
      exact ⟨O.step hz h4, rfl, by have := step_sum O hz; omega⟩
  | run m =>
    rcases h with ⟨_, rfl, rfl⟩ | ⟨_, N, R, ⟨_, rfl, rfl⟩ | ⟨_, rfl, rfl⟩⟩
    · exact same
    · exact same
    · have := iter_sum O N
      exact ⟨(O.iter N).1, (O.iter N).2.1, by omega⟩
  | back z m =>
    rcases h with ⟨_, rfl, rfl⟩ | ⟨_, ⟨_, rfl, rfl⟩ | ⟨_, ⟨_, rfl, rfl⟩ | ⟨_, ⟨_, rfl, rfl⟩ | ⟨_, ⟨_, _, _, _, _, rfl, rfl⟩ | ⟨N, j, T, _, _, _, tk, _, rfl, rfl⟩⟩⟩⟩⟩
    · exact same
    · exact same
    · exact same
    · exact same
    · exact same
    · exact ⟨⟨O.W, tk, O.L, O.S, O.P⟩, rfl, by show b.loads.sum ≤ _; omega⟩
theorem board_nt {C : Addr} {H : Hp} {p dx aR : Addr} {as : List Addr} {aT aL aS : Addr} {b : Brd} (B : BoardAt C H p dx aR as aT aL aS b) {t : Addr} {l : List V} (h : H t = some (.tup l)) : t ∉ p :: aT :: aL :: aS :: aR :: as := fun z => by
  simp only [List.mem_cons] at z
  rcases z with rfl | rfl | rfl | rfl | rfl | z
  · rw [B.ob] at h; cases h
  · rw [B.hT] at h; cases h
  · rw [B.hL] at h; cases h
  · rw [B.hS] at h; cases h
  · rw [B.mat.hd] at h; cases h
  · obtain ⟨i, hi, e⟩ := List.getElem_of_mem z
    obtain ⟨a, _, e1, e2, e3, _⟩ := B.mat.refs (i := i) (x := .ref t) (by rw [List.getElem?_map, List.getElem?_eq_getElem hi, e]; rfl)
    cases e1
    rw [e3] at h; cases h
theorem Left.out {C : Addr} {H H' : Hp} {p dx aR : Addr} {as : List Addr} {aT aL aS aT' aL' aS' : Addr} {b' : Brd} (L : Left C H H' p dx aR as aT aL aS aT' aL' aS' b') {x : Addr} {o : HO} (e : H x = some o) (hx : x ∉ p :: aT :: aL :: aS :: aR :: as) : x ∉ p :: aT' :: aL' :: aS' :: aR :: as := fun z => by
  have key : x ∈ [aT', aL', aS'] → False := fun y => by
    rcases L.f x y with y | y
    · exact hx (by simp only [List.mem_cons, List.not_mem_nil, or_false] at y ⊢; rcases y with y | y | y <;> simp [y])
    · rw [y] at e; cases e
  simp only [List.mem_cons] at z hx
  rcases z with z | z | z | z | z | z
  · exact hx (.inl z)
  · exact key (by simp [z])
  · exact key (by simp [z])
  · exact key (by simp [z])
  · exact hx (.inr (.inr (.inr (.inr (.inl z)))))
  · exact hx (.inr (.inr (.inr (.inr (.inr z)))))
theorem Left.trans {C : Addr} {H H2 H3 : Hp} {p dx aR : Addr} {as : List Addr} {aT aL aS aT' aL' aS' aT3 aL3 aS3 : Addr} {b2 b3 : Brd} (L : Left C H H2 p dx aR as aT aL aS aT' aL' aS' b2) (M : Left C H2 H3 p dx aR as aT' aL' aS' aT3 aL3 aS3 b3) : Left C H H3 p dx aR as aT aL aS aT3 aL3 aS3 b3 := by
  refine ⟨M.B, fun x o hx e => M.k x o (L.out e hx) (L.k x o hx e), fun x hx => ?_, fun x o e => ?_⟩
  · rcases M.f x hx with h | h
    · exact L.f x h
    · cases e : H x with
      | none => exact .inr rfl
      | some o => obtain ⟨o', e'⟩ := L.l x o e; rw [h] at e'; cases e'
  · obtain ⟨o', e'⟩ := L.l x o e
    exact M.l x o' e'
def spPlay (K : PySem.W.Frag) (A : Adr) : Sp := fun vs H Q _ => ∃ (p dx aR : Addr) (as : List Addr) (aT aL aS : Addr) (b : Brd) (dsA : Addr) (das : List Addr) (ds : List Deed), vs = [.ref p, .ref dsA] ∧ BoardAt A.C H p dx aR as aT aL aS b ∧ BrdOk b ∧ H dsA = some (.lst (das.map V.ref)) ∧ dsA ∉ p :: aT :: aL :: aS :: aR :: as ∧ das.length = ds.length ∧ (∀ (i : Nat) da d, das[i]? = some da → ds[i]? = some d → H da = some (.tup d.vs) ∧ Deed.ok d ∧ da ∉ p :: aT :: aL :: aS :: aR :: as) ∧ ((reachL b.rows).all id = true → Tame b.rows 30) ∧ b.loads.sum + 2 * (ds.length : Int) ≤ 30 ∧ ds.length ≤ 100 ∧
  ∀ (b' : Brd) (ans : List Ans) (rs : List V) (LA aT' aL' aS' : Addr) (H' : Hp), Plays b ds b' ans → H' LA = some (.lst rs) → rs.length = ans.length → (∀ (i : Nat) a v, ans[i]? = some a → rs[i]? = some v → AnsV H' a v) → Left A.C H H' p dx aR as aT aL aS aT' aL' aS' b' → Q (.ref LA) H'
def spAnyW (K : PySem.W.Frag) : Sp := fun vs H Q _ => ∃ (a : Addr) (ns : List Int) (most wide : Int), vs = [.ref a, .int most, .int wide] ∧ SqL K H a (ns.map V.int) ∧ 1 ≤ most ∧ most ≤ 12 ∧ 1 ≤ wide ∧ wide ≤ 8 ∧ ∀ (R : Addr) (as : List Addr) (rows : List (List Int)) (H' : Hp), Wf rows → (rows.length : Int) ≤ most → (∀ r ∈ rows, (r.length : Int) ≤ wide) → Mat H' R as rows → Same H H' → (∀ b ∈ R :: as, H b = none) → Q (.ref R) H'
def spAhd (K : PySem.W.Frag) : Sp := fun vs H Q _ => ∃ (R tA : Addr) (as : List Addr) (rows : List (List Int)) (ts : List Int) (st x : Int) (m : Nat), vs = [.ref R, .ref tA, .int st, .int x] ∧ Mat H R as rows ∧ SqL K H tA (ts.map V.int) ∧ Wf rows ∧ TurnsOk rows ts ∧ 0 ≤ st ∧ st < (rows.length : Int) ∧ -1 ≤ x ∧ x < (rows.length : Int) ∧ Ahead rows st ts x m ∧ Q (.int (goR rows st ts m x)) H
def spBackL (K : PySem.W.Frag) : Sp := fun vs H Q _ => ∃ (R : Addr) (as : List Addr) (nA tA yA cA : Addr) (b : Brd) (st most : Int), vs = [.ref R, .ref nA, .int st, .int most] ∧ Lsts H R as tA yA cA b ∧ H nA = some (.lst [.ref tA, .ref yA, .ref cA]) ∧ nA ∉ tA :: yA :: cA :: R :: as ∧ BrdOk b ∧ treeB b.rows b.turns = true ∧ Tame b.rows 30 ∧ 0 ≤ st ∧ st < (b.rows.length : Int) ∧
  ∀ (N j : Nat) (T : List Int), Bk b.rows st b.turns N T st → Ahead b.rows st T st j → goR b.rows st T j st = -1 → TurnsOk b.rows T →
    (most < (N : Int) → ∀ H' v, Same H H' → AnsV H' (.ref "TooLong") v → Q v H') ∧
    ((N : Int) ≤ most → ∀ (l : Addr) H', Lsts H' R as l yA cA { b with turns := T } → H' nA = some (.lst [.ref l, .ref yA, .ref cA]) → H l = none → (∀ x o, x ≠ nA → H x = some o → H' x = some o) → Q (.int N) H')
def spRunL (K : PySem.W.Frag) : Sp := fun vs H Q _ => ∃ (R : Addr) (as : List Addr) (nA tA yA cA : Addr) (b : Brd) (most : Int) (N : Nat), vs = [.ref R, .ref nA, .int most] ∧ Lsts H R as tA yA cA b ∧ H nA = some (.lst [.ref tA, .ref yA, .ref cA]) ∧ nA ∉ tA :: yA :: cA :: R :: as ∧ BrdOk b ∧ RunTo b N ∧
    (most < (N : Int) → ∀ H' v, Same H H' → AnsV H' (.ref "TooLong") v → Q v H') ∧
    ((N : Int) ≤ most → ∀ (t y c : Addr) H', Lsts H' R as t y c (iterR N b) → H' nA = some (.lst [.ref t, .ref y, .ref c]) → H t = none → H y = none → H c = none → (∀ x o, x ≠ nA → H x = some o → H' x = some o) → Q (.int N) H')
def spAlike (K : PySem.W.Frag) : Sp := fun vs H Q _ => ∃ (a : Ans) (v w : V), vs = [v, w] ∧ AnsV H a v ∧ AnsV H a w ∧ Q (.bl true) H
structure Now (H : Hp) (R : Addr) (as : List Addr) (nA tA yA cA : Addr) (b : Brd) : Prop where
  L : Lsts H R as tA yA cA b
  n : H nA = some (.lst [.ref tA, .ref yA, .ref cA])
  d : nA ∉ tA :: yA :: cA :: R :: as
theorem Now.same {H H' : Hp} {R : Addr} {as : List Addr} {nA tA yA cA : Addr} {b : Brd} (N : Now H R as nA tA yA cA b) (s : Same H H') : Now H' R as nA tA yA cA b := ⟨N.L.same s, s _ _ N.n, N.d⟩
structure NLeft (H H' : Hp) (R : Addr) (as : List Addr) (nA tA yA cA t' y' c' : Addr) (b' : Brd) : Prop where
  N : Now H' R as nA t' y' c' b'
  k : ∀ x o, x ∉ nA :: tA :: yA :: cA :: R :: as → H x = some o → H' x = some o
  f : ∀ x ∈ [t', y', c'], x ∈ [tA, yA, cA] ∨ H x = none
  l : ∀ x o, H x = some o → ∃ o', H' x = some o'
theorem nleft_same {H H' : Hp} {R : Addr} {as : List Addr} {nA tA yA cA : Addr} {b : Brd} (N : Now H R as nA tA yA cA b) (s : Same H H') : NLeft H H' R as nA tA yA cA tA yA cA b := ⟨N.same s, fun x o _ e => s x o e, fun x hx => .inl hx, fun x o e => ⟨o, s x o e⟩⟩
def spDone (K : PySem.W.Frag) : Sp := fun vs H Q _ => ∃ (R : Addr) (as : List Addr) (nA tA yA cA : Addr) (b : Brd) (dA : Addr) (d : Deed), vs = [.ref R, .ref nA, .ref dA] ∧ Now H R as nA tA yA cA b ∧ BrdOk b ∧ H dA = some (.tup d.vs) ∧ Deed.ok d ∧ ((reachL b.rows).all id = true → Tame b.rows 30) ∧ b.loads.sum ≤ 30 ∧
  ∀ (b' : Brd) (a : Ans) (v : V) (t' y' c' : Addr) (H' : Hp), Does b d b' a → AnsV H' a v → NLeft H H' R as nA tA yA cA t' y' c' b' → Q v H'
theorem Lsts.updT {H : Hp} {R : Addr} {as : List Addr} {tA yA cA : Addr} {b : Brd} (L : Lsts H R as tA yA cA b) (ts : List Int) : Lsts (upd H tA (.lst (ts.map V.int))) R as tA yA cA { b with turns := ts } :=
  ⟨L.M.keep fun c o hc e => by rw [upd_ne (fun z => L.nR tA (by simp) (by rw [← z]; exact hc))]; exact e, upd_same, by rw [upd_ne L.tl.symm]; exact L.l, by rw [upd_ne L.tc.symm]; exact L.c, L.tl, L.tc, L.lc, L.nR⟩
theorem Lsts.updY {H : Hp} {R : Addr} {as : List Addr} {tA yA cA : Addr} {b : Brd} (L : Lsts H R as tA yA cA b) (ls : List Int) : Lsts (upd H yA (.lst ((ls ++ [b.taken]).map V.int))) R as tA yA cA { b with loads := ls } :=
  ⟨L.M.keep fun c o hc e => by rw [upd_ne (fun z => L.nR yA (by simp) (by rw [← z]; exact hc))]; exact e, by rw [upd_ne L.tl]; exact L.t, upd_same, by rw [upd_ne L.lc.symm]; exact L.c, L.tl, L.tc, L.lc, L.nR⟩
theorem sum_pos {ls : List Int} (h : ∀ i, 0 ≤ ls.getD i 0) : 0 < ls.sum ↔ ladenL ls ≠ [] := by
  constructor
  · intro hs e
    have z : ∀ i, ls.getD i 0 ≤ 0 := fun i => by
      by_cases hi : i < ls.length
      · by_cases hp : 0 < ls.getD i 0
        · have : i ∈ ladenL ls := by unfold ladenL; rw [List.mem_filter, List.mem_range]; exact ⟨hi, decide_eq_true hp⟩
          rw [e] at this; cases this
        · omega
      · rw [List.getD_eq_getElem?_getD, List.getElem?_eq_none (by omega)]; exact Int.le_refl 0
    have : ls.sum ≤ 0 := by
      clear hs e h
      induction ls with
      | nil => simp
      | cons x r ih =>
        have h0 := z 0
        have ih' := ih fun i => by have := z (i + 1); simpa using this
        rw [List.sum_cons]
        simp at h0
        omega
    omega
  · intro hne
    obtain ⟨s, hs⟩ := List.exists_mem_of_ne_nil _ hne
    have := (laden_mem hs).2
    have := (getD_le_sum h).2 s
    omega
def spDeedBy (K : PySem.W.Frag) : Sp := fun vs H Q _ => ∃ (a R : Addr) (as : List Addr) (rows : List (List Int)) (ns : List Int) (k : Int), vs = [.ref a, .int k, .ref R] ∧ SqL K H a (ns.map V.int) ∧ Mat H R as rows ∧ Wf rows ∧ 0 ≤ k ∧ k ≤ 100 ∧ ∀ (t : Addr) (d : Deed) (H' : Hp), Deed.ok d → Same H H' → H t = none → H' t = some (.tup d.vs) → Q (.ref t) H'
theorem getD_all {P : Int → Prop} {ls : List Int} (h : ∀ x ∈ ls, P x) {d : Nat} (hd : d < ls.length) : P (ls.getD d 0) := by
  rw [getD_get hd]
  exact h _ (List.getElem_mem hd)
theorem p9 : (10 : Int) ^ (9 : Int).toNat = 1000000000 := by decide +kernel
theorem now_nt {H : Hp} {R : Addr} {as : List Addr} {nA tA yA cA : Addr} {b : Brd} (N : Now H R as nA tA yA cA b) {t : Addr} {l : List V} (h : H t = some (.tup l)) : t ∉ nA :: tA :: yA :: cA :: R :: as := fun z => by
  simp only [List.mem_cons] at z
  rcases z with rfl | rfl | rfl | rfl | rfl | z
  · rw [N.n] at h; cases h
  · rw [N.L.t] at h; cases h
  · rw [N.L.l] at h; cases h
  · rw [N.L.c] at h; cases h
  · rw [N.L.M.hd] at h; cases h
  · obtain ⟨i, hi, e⟩ := List.getElem_of_mem z
    obtain ⟨a, _, e1, e2, e3, _⟩ := N.L.M.refs (i := i) (x := .ref t) (by rw [List.getElem?_map, List.getElem?_eq_getElem hi, e]; rfl)
    cases e1
    rw [e3] at h; cases h
theorem NLeft.out {H H' : Hp} {R : Addr} {as : List Addr} {nA tA yA cA t' y' c' : Addr} {b' : Brd} (L : NLeft H H' R as nA tA yA cA t' y' c' b') {x : Addr} {o : HO} (e : H x = some o) (hx : x ∉ nA :: tA :: yA :: cA :: R :: as) : x ∉ nA :: t' :: y' :: c' :: R :: as := fun z => by
  have key : x ∈ [t', y', c'] → False := fun y => by
    rcases L.f x y with y | y
    · exact hx (by simp only [List.mem_cons, List.not_mem_nil, or_false] at y ⊢; rcases y with y | y | y <;> simp [y])
    · rw [y] at e; cases e
  simp only [List.mem_cons] at z hx
  rcases z with z | z | z | z | z
  · exact hx (.inl z)
  · exact key (by simp [z])
  · exact key (by simp [z])
  · exact key (by simp [z])
  · exact hx (.inr (.inr (.inr (.inr z))))
theorem NLeft.trans {H H2 H3 : Hp} {R : Addr} {as : List Addr} {nA tA yA cA t' y' c' t3 y3 c3 : Addr} {b2 b3 : Brd} (L : NLeft H H2 R as nA tA yA cA t' y' c' b2) (M : NLeft H2 H3 R as nA t' y' c' t3 y3 c3 b3) : NLeft H H3 R as nA tA yA cA t3 y3 c3 b3 := by
  refine ⟨M.N, fun x o hx e => M.k x o (L.out e hx) (L.k x o hx e), fun x hx => ?_, fun x o e => ?_⟩
  · rcases M.f x hx with h | h
    · exact L.f x h
    · cases e : H x with
      | none => exact .inr rfl
      | some o => obtain ⟨o', e'⟩ := L.l x o e; rw [h] at e'; cases e'
  · obtain ⟨o', e'⟩ := L.l x o e
    exact M.l x o' e'
theorem open_all {rows : List (List Int)} (h : (reachL rows).all id = true) : ∀ i, i < rows.length → rch rows i = true := fun i hi => by
  have := List.all_eq_true.mp h (rch rows i) (List.mem_of_getElem? (reachL_get hi))
  exact this
section
variable {P : Program} {w : World} {K : PySem.W.Frag} {mg : Str → Option Value} {base : Heap} {A : Adr}
theorem sc_drawn : FnScope ["script", "k", "many", "cell", "mixed"] ["script", "k", "many"] (defScope s_drawn) := ⟨rfl, rfl, rfl, by decide +kernel, rfl, by decide +kernel, by decide +kernel⟩
theorem ok_drawn (T : Txt K mg A) : FnOk P w K mg base CX0 1 A.f_drawn A.fd_drawn ["script", "k", "many"] (spDrawn K) := by
  refine T.F_drawn.ok sc_drawn (fun vs H Q E h => ?_) (fun cdv A' outer s H vs Q E hr h => ?_)
  · obtain ⟨a, ns, k, many, rfl, _⟩ := h
    rfl
  · obtain ⟨a, ns, k, many, rfl, hS, hm, k1, k2, q⟩ := h
    refine ⟨_, (pss_cons (ps_set (i := 3) sc_drawn.nd rfl (Or.inl rfl) pe_int)
      (pss_cons (ps_if (pt_cmpR op_gt (pe_callB (call_lenK (K := K) rfl) (by rfl) T.n_len PySem.boot_len (pa_cons (pv 0) pa_nil)) pe_int (nomark _))
        (pss_one (ps_set (i := 3) sc_drawn.nd rfl (Or.inl rfl) (pe_ix (ix_listK (K := K) rfl) (pv 0) (pe_op op_mod (pv 1) (pe_callB (call_lenK (K := K) rfl) (by rfl) T.n_len PySem.boot_len (pa_cons (pv 0) pa_nil))) (fun _ _ => rfl))))
        pss_nil)
      (pss_cons (ps_set (i := 4) sc_drawn.nd rfl (Or.inl rfl) (pe_op op_add (pe_op op_add (pe_op op_mul (pv 3) (pe_op op_add pe_int (pe_op op_mul pe_int (pe_op op_mod (pv 1) pe_int)))) (pe_op op_mul (pe_op op_mul (pe_op op_add (pv 1) pe_int) (pe_op op_add (pv 1) pe_int)) pe_int)) (pe_callB (call_lenK (K := K) rfl) (by rfl) T.n_len PySem.boot_len (pa_cons (pv 0) pa_nil))))
      (pss_one (ps_ret (pe_op op_mod (pe_op op_fdiv (pe_op op_mod (pv 4) pe_int) pe_int) (pv 2))))))), ?_⟩
    have hl : (ns.map V.int).length = ns.length := by simp
    refine ⟨_, rfl, _, _, rfl, .inl hS, _, _, rfl, rfl, _, rfl, ?_⟩
    rw [hl]
    refine ite2 (fun hc => ?_) (fun hc => ?_)
    · have hc' : 0 < (ns.length : Int) := by simpa using hc
      refine ⟨_, rfl, _, rfl, _, rfl, _, _, rfl, .inl hS, _, _, rfl, rfl, (by rw [hl]; exact hc'), _, _, _, _, rfl, rfl, hS, at_ints (Int.emod_nonneg _ (by rw [hl]; omega)) (by rw [hl]; exact Int.emod_lt_of_pos _ hc'), ?_⟩
      refine ⟨_, rfl, _, rfl, _, _, rfl, rfl, (by show (0 : Int) < 97; decide), _, _, rfl, rfl, .inl ⟨by decide, by decide⟩, _, _, rfl, rfl, _, _, rfl, rfl, .inr ⟨by omega, by omega⟩,
        _, rfl, _, _, rfl, rfl, _, rfl, _, _, rfl, rfl, _, _, rfl, rfl, .inl ⟨by omega, by omega⟩, _, _, rfl, rfl, .inr ⟨by decide, by decide⟩, _, _, rfl, rfl, _, rfl, _, _, rfl, .inl hS, _, _, rfl, rfl, ?_⟩
      refine ⟨_, rfl, _, _, rfl, rfl, (by show (0 : Int) < 2147483647; decide), _, _, rfl, rfl, ⟨by decide, by decide⟩, _, rfl, _, _, rfl, rfl, hm, ?_⟩
      have e : drawn ns k many = (ns.getD (k % (ns.length : Int)).toNat 0 * (48271 + 9973 * (k % 97)) + (k + 1) * (k + 3) * 16807 + (ns.length : Int)) % 2147483647 / 16 % many := by
        unfold drawn
        rw [if_pos hc']
      rw [e] at q
      rw [hl]
      exact q
    · have hc' : ¬ 0 < (ns.length : Int) := by simpa using hc
      refine ⟨_, rfl, _, rfl, _, _, rfl, rfl, (by show (0 : Int) < 97; decide), _, _, rfl, rfl, .inl ⟨by decide, by decide⟩, _, _, rfl, rfl, _, _, rfl, rfl, .inr ⟨by omega, by omega⟩,
        _, rfl, _, _, rfl, rfl, _, rfl, _, _, rfl, rfl, _, _, rfl, rfl, .inl ⟨by omega, by omega⟩, _, _, rfl, rfl, .inr ⟨by decide, by decide⟩, _, _, rfl, rfl, _, rfl, _, _, rfl, .inl hS, _, _, rfl, rfl, ?_⟩
      refine ⟨_, rfl, _, _, rfl, rfl, (by show (0 : Int) < 2147483647; decide), _, _, rfl, rfl, ⟨by decide, by decide⟩, _, rfl, _, _, rfl, rfl, hm, ?_⟩
      have e : drawn ns k many = (7 * (48271 + 9973 * (k % 97)) + (k + 1) * (k + 3) * 16807 + (ns.length : Int)) % 2147483647 / 16 % many := by
        unfold drawn
        rw [if_neg hc']
      rw [e] at q
      rw [hl]
      exact q
theorem sc_other : FnScope ["gone", "many"] ["gone", "many"] (defScope s_other) := ⟨rfl, rfl, rfl, by decide +kernel, rfl, by decide +kernel, by decide +kernel⟩
theorem ok_other (T : Txt K mg A) : FnOk P w K mg base CX0 1 A.f_other A.fd_other ["gone", "many"] spOther := by
  refine T.F_other.ok sc_other (fun vs H Q E h => ?_) (fun cdv A' outer s H vs Q E hr h => ?_)
  · obtain ⟨g, many, rfl, _⟩ := h
    rfl
  · obtain ⟨g, many, rfl, q⟩ := h
    refine ⟨_, (pss_cons (ps_if (pt_cmpR op_lt (pv 0) pe_int (nomark _))
        (pss_one (ps_ret (pv 0)))
        pss_nil)
      (pss_one (ps_ret (pe_op op_sub (pe_op op_sub (pv 1) pe_int) (pv 0))))), ?_⟩
    refine ⟨_, rfl, _, _, rfl, rfl, _, rfl, ?_⟩
    unfold oth at q
    refine ite2 (fun hc => ?_) (fun hc => ?_)
    · have hc' : g < 0 := by simpa using hc
      rw [if_pos hc'] at q
      exact ⟨_, rfl, q⟩
    · have hc' : ¬ g < 0 := by simpa using hc
      rw [if_neg hc'] at q
      exact ⟨_, rfl, _, _, rfl, rfl, _, rfl, _, _, rfl, rfl, q⟩
theorem sc_rows_by : FnScope ["script", "big", "many", "rows", "k", "at", "size", "top", "row", "j"] ["script"] (defScope s_rows_by) := ⟨rfl, rfl, rfl, by decide +kernel, rfl, by decide +kernel, by decide +kernel⟩
theorem ok_rows_by (T : Txt K mg A) (G_drawn : FnOk P w K mg base CX0 1 A.f_drawn A.fd_drawn ["script", "k", "many"] (spDrawn K)) (G_other : FnOk P w K mg base CX0 1 A.f_other A.fd_other ["gone", "many"] spOther) : FnOk P w K mg base CX0 3 A.f_rows_by A.fd_rows_by ["script"] (spRowsT K) := by
  refine T.F_rows_by.ok sc_rows_by (fun vs H Q E h => ?_) (fun cdv A' outer s H vs Q E hr h => ?_)
  · obtain ⟨a, ns, rfl, _⟩ := h
    rfl
  · obtain ⟨a, ns, rfl, hS, q⟩ := h
    refine ⟨_, (pss_cons (ps_set (i := 1) sc_rows_by.nd rfl (Or.inl rfl) (pe_cmpR op_eq (pe_call G_drawn (hr.mono (by decide)) (by rfl) T.m__law_drawn T.k__law_drawn T.b__law_drawn .nil pass0 (pa_cons (pv 0) (pa_cons pe_int (pa_cons pe_int pa_nil)))) pe_int (nomark _)))
      (pss_cons (ps_set (i := 2) sc_rows_by.nd rfl (Or.inr rfl) (pe_op op_add pe_int (pe_call G_drawn (hr.mono (by decide)) (by rfl) T.m__law_drawn T.k__law_drawn T.b__law_drawn .nil pass0 (pa_cons (pv 0) (pa_cons pe_int (pa_cons pe_int pa_nil))))))
      (pss_cons (ps_if (pt_val (pv 1))
        (pss_one (ps_set (i := 2) sc_rows_by.nd rfl (Or.inr rfl) (pe_op op_add pe_int (pe_call G_drawn (hr.mono (by decide)) (by rfl) T.m__law_drawn T.k__law_drawn T.b__law_drawn .nil pass0 (pa_cons (pv 0) (pa_cons pe_int (pa_cons pe_int pa_nil)))))))
        pss_nil)
      (pss_cons (ps_set (i := 3) sc_rows_by.nd rfl (Or.inl rfl) (pe_lst pa_nil))
      (pss_cons (ps_for PassesOwn.never rfl (pi_range1 (by rfl) T.n_range (pa_cons (pv 2) pa_nil)) (pg_name (i := 4) sc_rows_by.nd rfl (Or.inl rfl))
        (pss_cons (ps_set (i := 5) sc_rows_by.nd rfl (Or.inr rfl) (pe_op op_add pe_int (pe_op op_mul pe_int (pv 4))))
        (pss_cons (ps_set (i := 6) sc_rows_by.nd rfl (Or.inl rfl) (pe_op op_add pe_int (pe_call G_drawn (hr.mono (by decide)) (by rfl) T.m__law_drawn T.k__law_drawn T.b__law_drawn .nil pass0 (pa_cons (pv 0) (pa_cons (pv 5) (pa_cons pe_int pa_nil))))))
        (pss_cons (ps_set (i := 7) sc_rows_by.nd rfl (Or.inr rfl) (pe_op op_add (pv 2) pe_int))
        (pss_cons (ps_if (pt_val (pv 1))
          (pss_cons (ps_set (i := 6) sc_rows_by.nd rfl (Or.inl rfl) (pe_op op_add pe_int (pe_call G_drawn (hr.mono (by decide)) (by rfl) T.m__law_drawn T.k__law_drawn T.b__law_drawn .nil pass0 (pa_cons (pv 0) (pa_cons (pv 5) (pa_cons pe_int pa_nil))))))
          (pss_one (ps_set (i := 7) sc_rows_by.nd rfl (Or.inr rfl) (pe_op op_add (pv 4) pe_int))))
          pss_nil)
        (pss_cons (ps_setComp (i := 8) sc_rows_by.nd rfl rfl (CompSc.of (N' := ["j", "script", "at", "top"]) (ix := [none, some 0, some 5, some 7]) rfl (by kernel_rfl)) rfl rfl rfl rfl (pi_range1 (by rfl) T.n_range (pa_cons (pv 6) pa_nil)) (by exact fun _ _ _ _ _ => pf_nil) (by exact fun _ _ _ _ _ => (pe_op op_sub (pe_call G_drawn (hr.mono (by decide)) (by rfl) T.m__law_drawn T.k__law_drawn T.b__law_drawn .nil pass0 (pa_cons (pv 1) (pa_cons (pe_op op_add (pe_op op_add (pv 2) pe_int) (pv 0)) (pa_cons (pv 3) pa_nil)))) pe_int)))
        (pss_cons (ps_asg (pe_op op_sub (pe_call G_drawn (hr.mono (by decide)) (by rfl) T.m__law_drawn T.k__law_drawn T.b__law_drawn .nil pass0 (pa_cons (pv 0) (pa_cons (pe_op op_add (pv 5) pe_int) (pa_cons (pe_op op_add (pv 4) pe_int) pa_nil)))) pe_int) (pg_sub (pv 8) (pe_call G_drawn (hr.mono (by decide)) (by rfl) T.m__law_drawn T.k__law_drawn T.b__law_drawn .nil pass0 (pa_cons (pv 0) (pa_cons (pe_op op_add (pv 5) pe_int) (pa_cons (pv 6) pa_nil)))) set_list))
        (pss_one (ps_expr (pe_bm PySem.F.plainAttrs_list PySem.F.slot_list_append PySem.F.type_list_append mt_append (pv 3) (pa_cons (pv 8) pa_nil)))))))))))
      (pss_cons (ps_if (PW.pt (pw_and (pt_val (pv 1)) (pw_and1 (pt_cmpR op_gt (pe_call G_drawn (hr.mono (by decide)) (by rfl) T.m__law_drawn T.k__law_drawn T.b__law_drawn .nil pass0 (pa_cons (pv 0) (pa_cons pe_int (pa_cons pe_int pa_nil)))) pe_int (nomark _)))))
        (pss_one (ps_for PassesOwn.never rfl (pi_range1 (by rfl) T.n_range (pa_cons pe_int pa_nil)) (pg_name (i := 9) sc_rows_by.nd rfl (Or.inl rfl))
          (pss_cons (ps_set (i := 8) sc_rows_by.nd rfl (Or.inl rfl) (pe_ix (ix_listK (K := K) rfl) (pv 3) (pe_call G_drawn (hr.mono (by decide)) (by rfl) T.m__law_drawn T.k__law_drawn T.b__law_drawn .nil pass0 (pa_cons (pv 0) (pa_cons (pe_op op_add pe_int (pv 9)) (pa_cons (pv 2) pa_nil)))) (fun _ _ => rfl)))
          (pss_one (ps_if (pt_cmpR op_lt (pe_callB (call_lenK (K := K) rfl) (by rfl) T.n_len PySem.boot_len (pa_cons (pv 8) pa_nil)) pe_int (nomark _))
            (pss_one (ps_expr (pe_bm PySem.F.plainAttrs_list PySem.F.slot_list_insert PySem.F.type_list_insert mt_insert (pv 8) (pa_cons (pe_call G_drawn (hr.mono (by decide)) (by rfl) T.m__law_drawn T.k__law_drawn T.b__law_drawn .nil pass0 (pa_cons (pv 0) (pa_cons (pe_op op_add pe_int (pv 9)) (pa_cons (pe_op op_add (pe_callB (call_lenK (K := K) rfl) (by rfl) T.n_len PySem.boot_len (pa_cons (pv 8) pa_nil)) pe_int) pa_nil)))) (pa_cons (pe_call G_drawn (hr.mono (by decide)) (by rfl) T.m__law_drawn T.k__law_drawn T.b__law_drawn .nil pass0 (pa_cons (pv 0) (pa_cons (pe_op op_add pe_int (pv 9)) (pa_cons (pv 2) pa_nil)))) pa_nil)))))
            pss_nil)))))
        pss_nil)
      (pss_cons (ps_if (pt_cmpR op_eq (pe_call G_drawn (hr.mono (by decide)) (by rfl) T.m__law_drawn T.k__law_drawn T.b__law_drawn .nil pass0 (pa_cons (pv 0) (pa_cons pe_int (pa_cons pe_int pa_nil)))) pe_int (nomark _))
        (pss_one (ps_setComp (i := 3) sc_rows_by.nd rfl rfl (CompSc.of (N' := ["row", "many"]) (ix := [none, some 2]) rfl (by kernel_rfl)) rfl rfl rfl rfl (pi_revK (K := K) rfl (by rfl) T.n_reversed (pa_cons (pv 3) pa_nil)) (by exact fun _ _ _ _ _ => pf_nil) (by exact fun _ _ _ _ _ => (pe_comp (CompSc.of (N' := ["gone", "many"]) (ix := [none, some 1]) rfl (by kernel_rfl)) rfl rfl rfl rfl (pi_listK (K := K) rfl (pv 0)) (by exact fun _ _ _ _ _ => pf_nil) (by exact fun _ _ _ _ _ => (pe_call G_other (hr.mono (by decide)) (by rfl) T.m__law_other T.k__law_other T.b__law_other .nil pass0 (pa_cons (pv 0) (pa_cons (pv 1) pa_nil)))) (fun _ => rfl)))))
        pss_nil)
      (pss_one (ps_ret (pv 3)))))))))), ?_⟩
    have d12 := drawn_nn ns 1 (many := 4) (by decide)
    have d12' := drawn_lt ns 1 (many := 4) (by decide)
    have d28 := drawn_nn ns 2 (many := 8) (by decide)
    have d28' := drawn_lt ns 2 (many := 8) (by decide)
    refine ⟨_, rfl, a, ns, 0, 4, rfl, hS, by decide, by decide, by decide, rfl, ?_⟩
    generalize decide (V.int (drawn ns 0 4) = V.int 1) = big
    refine ⟨_, rfl, a, ns, 1, 4, rfl, hS, by decide, by decide, by decide, _, _, rfl, rfl, ?_⟩
    dsimp only [gName]
    refine seq_mk (fun σ' H' => ∃ many : Int, 1 ≤ many ∧ many ≤ 12 ∧ (big = false → many ≤ 4) ∧ σ' = [some (.ref a), some (.bl big), some (.int many), none, none, none, none, none, none, none] ∧ H = H') ?rest (fun rest => ?way)
    case way =>
      refine ⟨_, rfl, _, rfl, ?_⟩
      refine ite2 (fun hb => ?_) (fun _ => rest _ _ ⟨_, by omega, by omega, fun _ => by omega, rfl, rfl⟩)
      refine ⟨_, rfl, a, ns, 2, 8, rfl, hS, by decide, by decide, by decide, _, _, rfl, rfl, ?_⟩
      exact rest _ _ ⟨_, by omega, by omega, fun z => by subst z; exact absurd hb (by decide), rfl, rfl⟩
    rintro σ' H' ⟨many, hm1, hm12, hm4, rfl, rfl⟩
    refine ⟨small12 (by simp), fun R hR => ?_⟩
    have M0 := Mat.new (H := upd H R (.lst [])) (R := R) upd_same
    refine ⟨_, rfl, _, rfl, by omega, by omega, ?_⟩
    refine for_range (fun i σ H2 => ∃ (as : List Addr) (rows : List (List Int)) (x4 x5 x6 x7 x8 x9 : Option V), σ = [some (.ref a), some (.bl big), some (.int many), some (.ref R), x4, x5, x6, x7, x8, x9] ∧ Mat H2 R as rows ∧ rows.length = i ∧ (∀ r ∈ rows, RowOk many.toNat r) ∧ Shape rows (fun _ => if big = true then 0 else 2) ∧ Same H H2 ∧ ∀ c ∈ R :: as, H c = none)
      ⟨[], [], none, none, none, none, none, none, rfl, M0, rfl, (fun _ z => by cases z), shape_nil _, same_new hR, fun c hc => by rw [List.mem_singleton.mp hc]; exact hR⟩ ?_ ?_
    · rintro i σ H2 hi ⟨as, rows, x4, x5, x6, x7, x8, x9, rfl, M, hlen, hrow, dn, s2, fr⟩
      have hS2 : SqL K H2 a (ns.map V.int) := s2.seq hS
      have hI : i < 100 := by omega
      have b3 := drawn_nn ns (10 + 20 * (0 + (i : Int))) (many := 3) (by decide)
      have b3' := drawn_lt ns (10 + 20 * (0 + (i : Int))) (many := 3) (by decide)
      have b8 := drawn_nn ns (10 + 20 * (0 + (i : Int))) (many := 8) (by decide)
      have b8' := drawn_lt ns (10 + 20 * (0 + (i : Int))) (many := 8) (by decide)
      refine ⟨_, rfl, _, _, rfl, rfl, .inl ⟨by decide, by decide⟩, _, _, rfl, rfl, ?_⟩
      refine ⟨_, rfl, _, rfl, a, ns, _, 3, rfl, hS2, by decide, (kb10 hI).1, (kb10 hI).2, _, _, rfl, rfl, ?_⟩
      refine ⟨_, rfl, _, _, rfl, rfl, ?_⟩
      dsimp only [gName]
      refine seq_mk (fun σ' H' => ∃ sz tp : Int, 1 ≤ sz ∧ sz ≤ 8 ∧ 1 ≤ tp ∧ tp ≤ many + 1 ∧ (big = true → tp = (i : Int) + 1) ∧ (big = false → sz ≤ 3) ∧ σ' = [some (.ref a), some (.bl big), some (.int many), some (.ref R), some (.int (0 + (i : Int))), some (.int (10 + 20 * (0 + (i : Int)))), some (.int sz), some (.int tp), x8, x9] ∧ H2 = H') ?rest2 (fun rest => ?way2)
      case way2 =>
        refine ⟨_, rfl, _, rfl, ?_⟩
        refine ite2 (fun hb => ?_) (fun hb => rest _ _ ⟨_, _, by omega, by omega, by omega, by omega, fun z => by subst z; exact absurd rfl hb, fun _ => by omega, rfl, rfl⟩)
        refine ⟨_, rfl, _, rfl, a, ns, _, 8, rfl, hS2, by decide, (kb10 hI).1, (kb10 hI).2, _, _, rfl, rfl, ?_⟩
        refine ⟨_, rfl, _, _, rfl, rfl, ?_⟩
        exact rest _ _ ⟨_, _, by omega, by omega, by omega, by omega, fun _ => by omega, fun z => by subst z; exact absurd hb (by decide), rfl, rfl⟩
      · rintro σ' H' ⟨sz, tp, hz1, hz8, ht1, htm, htb, hzb, rfl, rfl⟩
        refine ⟨_, rfl, _, rfl, by omega, by omega, ?_⟩
        refine comp_pure (ys := ((List.range sz.toNat).map fun (j : Nat) => drawn ns (10 + 20 * (0 + (i : Int)) + 3 + (0 + (j : Int))) tp - 1).map V.int) wk_range (by rw [List.length_map, List.length_range]; exact small12 (by omega)) (by simp) (fun j x y ex ey Q' q' => ?_) (fun D hD => ?_)
        · rw [List.getElem?_map] at ex ey
          rw [List.getElem?_map] at ey
          cases er : (List.range sz.toNat)[j]? with
          | none => rw [er] at ex; cases ex
          | some j' =>
            rw [er] at ex ey
            cases ex
            cases ey
            obtain ⟨hj1, hj2⟩ := List.getElem?_eq_some_iff.mp er
            rw [List.getElem_range] at hj2
            rw [List.length_range] at hj1
            have hJ : j < 100 := by omega
            subst hj2
            exact ⟨_, rfl, _, rfl, _, _, rfl, rfl, _, rfl, _, _, rfl, rfl, _, rfl, a, ns, _, _, rfl, hS2, ps1 ht1, (kb13 hI hJ).1, (kb13 hI hJ).2, _, _, rfl, rfl, q'⟩
        · have hS3 : ∀ o, SqL K (upd H2 D o) a (ns.map V.int) := fun o => (same_new hD).seq hS2
          have hDn : D ∉ R :: as := fun z => by
            rcases List.mem_cons.mp z with z | z
            · rw [z, M.hd] at hD; cases hD
            · obtain ⟨n, hn, e⟩ := List.getElem_of_mem z
              obtain ⟨a', e1, e2, _⟩ := M.get (i := n) (by rw [← M.len]; exact hn)
              rw [List.getElem?_eq_getElem hn, e] at e1
              cases e1
              rw [hD] at e2; cases e2
          have hRD : R ≠ D := fun z => hDn (by rw [← z]; exact List.mem_cons_self)
          have l1 := drawn_lt ns (10 + 20 * (0 + (i : Int)) + 1) (many := sz) (ps1 hz1)
          refine ⟨_, rfl, _, rfl, _, _, rfl, rfl, _, rfl, _, _, rfl, rfl, a, ns, _, _, rfl, hS3 _, psi, (kb12 hI).1, (kb12 hI).2, _, _, rfl, rfl, _, rfl,
            _, rfl, _, rfl, _, _, rfl, rfl, _, rfl, a, ns, _, _, rfl, hS3 _, ps1 hz1, (kb11 hI).1, (kb11 hI).2, _, _, _, _, rfl, rfl, upd_same, ixN_in (drawn_nn _ _ (ps1 hz1)) (by simp only [List.length_map, List.length_range]; omega), ?_⟩
          rw [map_set_int, upd_upd]
          have hR3 : ∀ o, (upd H2 D o) R = some (.lst (as.map V.ref)) := fun o => by rw [upd_ne hRD]; exact M.hd
          refine ⟨_, rfl, .inl ⟨rfl, _, SqL.of (hR3 _)⟩, _, rfl, R, _, _, rfl, rfl, hR3 _, (by rw [M.reflen]; exact small1000 (by omega)), ?_⟩
          refine ⟨as ++ [D], _, _, _, _, _, _, _, rfl, (M.upd (b := D) hDn).snoc (D := D) upd_same hDn, by rw [List.length_append, List.length_singleton, hlen], fun r hr => ?_, ?dnn, ?_, fun c hc => ?_⟩
          case dnn =>
            have a1 := drawn_nn ns (10 + 20 * (0 + (i : Int)) + 2) (many := 0 + (i : Int) + 1) psi
            have a2 := drawn_lt ns (10 + 20 * (0 + (i : Int)) + 2) (many := 0 + (i : Int) + 1) psi
            have hmm : (drawn ns (10 + 20 * (0 + (i : Int)) + 2) (0 + (i : Int) + 1) - 1) ∈ ((List.range sz.toNat).map fun (j : Nat) => drawn ns (10 + 20 * (0 + (i : Int)) + 3 + (0 + (j : Int))) tp - 1).set (drawn ns (10 + 20 * (0 + (i : Int)) + 1) sz).toNat (drawn ns (10 + 20 * (0 + (i : Int)) + 2) (0 + (i : Int) + 1) - 1) := by
              rw [List.mem_iff_getElem?]
              exact ⟨(drawn ns (10 + 20 * (0 + (i : Int)) + 1) sz).toNat, List.getElem?_set_self (by rw [List.length_map, List.length_range]; have := drawn_nn ns (10 + 20 * (0 + (i : Int)) + 1) (many := sz) (by omega); omega)⟩
            refine shape_snoc dn ?_ (by split <;> decide) ⟨_, hmm, by omega⟩
            rw [hlen]
            by_cases hb : big = true
            · rw [if_pos hb, ups_zero fun e he => ?_]
              · exact Nat.le_refl _
              · have htp := htb hb
                rcases List.mem_or_eq_of_mem_set he with z | z
                · obtain ⟨j, _, rfl⟩ := List.mem_map.mp z
                  have := drawn_lt ns (10 + 20 * (0 + (i : Int)) + 3 + (0 + (j : Int))) (many := tp) (by omega)
                  omega
                · omega
            · rw [if_neg hb]
              have hz3 := hzb (by simpa using hb)
              exact ups_small (by rw [List.length_set, List.length_map, List.length_range]; omega) ⟨_, hmm, by omega⟩
          · rcases List.mem_append.mp hr with z | z
            · exact hrow r z
            · rw [List.mem_singleton.mp z]
              have a1 := drawn_nn ns (10 + 20 * (0 + (i : Int)) + 2) (many := 0 + (i : Int) + 1) psi
              have a2 := drawn_lt ns (10 + 20 * (0 + (i : Int)) + 2) (many := 0 + (i : Int) + 1) psi
              exact rowok_new (many := many) (by omega) (by omega) (by omega) (by omega) (by omega) (fun j => 10 + 20 * (0 + (i : Int)) + 3 + (0 + j)) (by omega)
          · exact same_upd (same_upd s2 (s2.free hD)) (fr R List.mem_cons_self)
          · rcases List.mem_cons.mp hc with z | z
            · rw [z]; exact fr R List.mem_cons_self
            · rcases List.mem_append.mp z with z | z
              · exact fr c (List.mem_cons_of_mem _ z)
              · rw [List.mem_singleton.mp z]; exact s2.free hD
    · rintro σ H2 ⟨as, rows, x4, x5, x6, x7, x8, x9, rfl, M, hlen, hrow, dn, s2, fr⟩
      have hS2 : SqL K H2 a (ns.map V.int) := s2.seq hS
      dsimp only
      refine seq_mk (fun σ' H' => ∃ (as : List Addr) (rows : List (List Int)) (x4 x5 x6 x7 x8 x9 : Option V), σ' = [some (.ref a), some (.bl big), some (.int many), some (.ref R), x4, x5, x6, x7, x8, x9] ∧ Mat H' R as rows ∧ rows.length = many.toNat ∧ (∀ r ∈ rows, RowOk many.toNat r) ∧ Shp many rows ∧ Same H H' ∧ ∀ c ∈ R :: as, H c = none) ?rest3 (fun rest => ?way3)
      case way3 =>
        refine ⟨_, rfl, _, rfl, ?_⟩
        refine ite2 (fun hb => ?_) (fun _ => iteF (rest _ _ ⟨as, rows, x4, x5, x6, x7, x8, x9, rfl, M, hlen, hrow, shp_of dn hm4, s2, fr⟩))
        refine ⟨_, rfl, a, ns, 4, 3, rfl, hS2, by decide, by decide, by decide, _, _, rfl, rfl, _, rfl, ?_⟩
        refine ite2 (fun _ => ?_) (fun _ => rest _ _ ⟨as, rows, x4, x5, x6, x7, x8, x9, rfl, M, hlen, hrow, shp_of dn hm4, s2, fr⟩)
        refine ⟨_, rfl, by decide, by decide, ?_⟩
        refine for_range (fun i σ' H' => ∃ (as : List Addr) (rows : List (List Int)) (x4 x5 x6 x7 x8 x9 : Option V), σ' = [some (.ref a), some (.bl big), some (.int many), some (.ref R), x4, x5, x6, x7, x8, x9] ∧ Mat H' R as rows ∧ rows.length = many.toNat ∧ (∀ r ∈ rows, RowOk many.toNat r) ∧ (∃ u, Shape rows u ∧ sumU u rows.length ≤ i) ∧ Same H H' ∧ ∀ c ∈ R :: as, H c = none) ⟨as, rows, x4, x5, x6, x7, x8, x9, rfl, M, hlen, hrow, ⟨_, dn, by
            have hb' : big = true := hb
            subst hb'
            show sumU (fun _ => 0) _ ≤ 0
            rw [sumU_zero]
            exact Nat.le_refl _⟩, s2, fr⟩ ?_ (fun σ' H' h => by
          obtain ⟨as, rows, x4, x5, x6, x7, x8, x9, h1, M, hlen, hrow, ⟨u, u1, u2⟩, s2, fr⟩ := h
          exact rest σ' H' ⟨as, rows, x4, x5, x6, x7, x8, x9, h1, M, hlen, hrow, ⟨u, u1, .inl u2⟩, s2, fr⟩)
        rintro i σ' H' hi ⟨as, rows, x4, x5, x6, x7, x8, x9, rfl, M, hlen, hrow, ⟨u, dn, du⟩, s2, fr⟩
        have hi3 : i < 3 := hi
        have hI : i < 100 := Nat.lt_trans hi3 (by decide)
        have hS3 : SqL K H' a (ns.map V.int) := s2.seq hS
        have e1 := drawn_nn ns (5 + (0 + (i : Int))) (many := many) (ps1 hm1)
        have e2 := drawn_lt ns (5 + (0 + (i : Int))) (many := many) (ps1 hm1)
        have hn : (drawn ns (5 + (0 + (i : Int))) many).toNat < rows.length := by omega
        obtain ⟨c, ec, hc, hca⟩ := M.get hn
        have hrn := hrow _ (List.getElem_mem hn)
        have hcl : ((rows[(drawn ns (5 + (0 + (i : Int))) many).toNat]).map V.int).length = (rows[(drawn ns (5 + (0 + (i : Int))) many).toNat]).length := by simp
        refine ⟨_, rfl, _, rfl, _, rfl, _, _, rfl, rfl, _, rfl, a, ns, _, _, rfl, hS3, ps1 hm1, (kbc hI (by decide)).1, (kbc hI (by decide)).2, _, _, _, _, rfl, rfl, M.sq, at_list (n := (drawn ns (5 + (0 + (i : Int))) many).toNat) (by omega) (by rw [List.getElem?_map, ec]; rfl), ?_⟩
        refine ⟨_, rfl, _, _, rfl, .inl (SqL.of hc), _, _, rfl, rfl, _, rfl, ?_⟩
        refine ite2 (fun h8 => ?_) (fun _ => ⟨as, rows, _, _, _, _, _, _, rfl, M, hlen, hrow, ⟨u, dn, by omega⟩, s2, fr⟩)
        have h8' : (rows[(drawn ns (5 + (0 + (i : Int))) many).toNat]).length < 8 := by
          rw [hcl] at h8
          have := of_decide_eq_true h8
          omega
        have f1 := drawn_nn ns (253 + (0 + (i : Int))) (many := ((rows[(drawn ns (5 + (0 + (i : Int))) many).toNat]).length : Int) + 1) psl
        have f2 := drawn_lt ns (253 + (0 + (i : Int))) (many := ((rows[(drawn ns (5 + (0 + (i : Int))) many).toNat]).length : Int) + 1) psl
        have g1 := drawn_nn ns (250 + (0 + (i : Int))) (many := many) (ps1 hm1)
        have g2 := drawn_lt ns (250 + (0 + (i : Int))) (many := many) (ps1 hm1)
        refine ⟨_, rfl, .inl ⟨rfl, _, SqL.of hc⟩, _, rfl, _, rfl, _, _, rfl, rfl, _, rfl, _, _, rfl, .inl (SqL.of hc), _, _, rfl, rfl, a, ns, _, _, rfl, hS3, psl, (kbc hI (by decide)).1, (kbc hI (by decide)).2,
          _, rfl, _, rfl, _, _, rfl, rfl, _, rfl, a, ns, _, _, rfl, hS3, ps1 hm1, (kbc hI (by decide)).1, (kbc hI (by decide)).2, c, _, _, _, rfl, rfl, hc, (by rw [hcl]; exact f1), (by rw [hcl]; omega), (by rw [hcl]; exact small1000 (by omega)), ?_⟩
        rw [map_ins_int]
        refine ⟨as, _, _, _, _, _, _, _, rfl, M.set ec, by rw [List.length_set]; exact hlen, fun r hr => ?_, by rw [List.length_set]; exact shape_ins dn hn du (by omega), same_upd s2 (fr c (List.mem_cons_of_mem _ hca)), fr⟩
        rcases List.mem_or_eq_of_mem_set hr with z | z
        · exact hrow r z
        · rw [z]
          exact rowok_ins hrn h8' (by omega)
      rintro σ' H' ⟨as, rows, x4, x5, x6, x7, x8, x9, rfl, M, hlen, hrow, dn, s2, fr⟩
      have W : Wf rows := ⟨by omega, by omega, fun r hr => by rw [hlen]; exact hrow r hr⟩
      have hS3 : SqL K H' a (ns.map V.int) := s2.seq hS
      refine ⟨_, rfl, a, ns, 3, 2, rfl, hS3, by decide, by decide, by decide, rfl, _, rfl, ?_⟩
      refine ite2 (fun _ => ?_) (fun _ => ⟨_, rfl, q R as rows H' W (dn.down W).open (dn.tame W (by omega)) M s2 fr⟩)
      refine ⟨_, rfl, R, _, rfl, M.sq, ?_⟩
      refine comp_news (ls := (rows.reverse.map fun r => r.map (oth many)).map fun r => r.map V.int) (wk_rev M.sq) (by rw [List.length_reverse, M.reflen]; exact small12 (by omega)) (by simp [M.len]) (fun i x l H3 ex el s3 Q' q' => ?_) (fun as' H1 s1 hlen' nd' fr' hrows' D hD => ?_)
      · have hi : i < rows.length := by
          have := (List.getElem?_eq_some_iff.mp ex).1
          rw [List.length_reverse, M.reflen] at this
          exact this
        rw [List.getElem?_reverse (by rw [M.reflen]; exact hi), M.reflen] at ex
        obtain ⟨c, hi', rfl, ec, hc, _⟩ := M.refs ex
        have el' : l = ((rows[rows.length - 1 - i]).map (oth many)).map V.int := by
          rw [List.getElem?_map, List.getElem?_map, List.getElem?_reverse hi] at el
          rw [List.getElem?_eq_getElem hi'] at el
          exact (Option.some.inj el).symm
        subst el'
        have hc3 := s3 _ _ hc
        refine ⟨_, rfl, c, rfl, ⟨_, SqL.of hc3⟩, ?_⟩
        have hz : ((rows[rows.length - 1 - i]).map V.int).length ≤ sizeLine := by
          have := (hrow _ (List.getElem_mem hi')).2.1
          rw [List.length_map]
          exact small12 (by omega)
        refine comp_pure (ys := ((rows[rows.length - 1 - i]).map (oth many)).map V.int) (wk_list (K := K) (SqL.of hc3)) hz (by simp) (fun j x y ex2 ey2 Q2 q2 => ?_) (fun D hD => q' D hD)
        rw [List.getElem?_map] at ex2 ey2
        rw [List.getElem?_map] at ey2
        cases er : (rows[rows.length - 1 - i])[j]? with
        | none => rw [er] at ex2; cases ex2
        | some z =>
          rw [er] at ex2 ey2
          cases ex2
          cases ey2
          exact ⟨_, rfl, _, rfl, _, _, rfl, q2⟩
      · have hl2 : as'.length = (rows.reverse.map fun r => r.map (oth many)).length := by rw [hlen', List.length_map]
        have hrl : (rows.reverse.map fun r => r.map (oth many)).length = rows.length := by simp
        have W2 : Wf (rows.reverse.map fun r => r.map (oth many)) := ⟨by omega, by omega, fun r hr => by
          rw [hrl]
          obtain ⟨r', hr', rfl⟩ := List.mem_map.mp hr
          exact rowok_oth (W.2.2 r' (List.mem_reverse.mp hr')) (by omega)⟩
        refine ⟨_, rfl, q D as' _ _ W2 (open_rev (dn.down W) (fun r hr e he => by have := (W.2.2 r hr).2.2 e he; exact this) (by omega)) (tame_oth (dn.tame W (by omega)) W (by omega)) (mat_of hl2 nd' s1 hrows' hD) (same_upd (s2.trans s1) ((s2.trans s1).free hD)) fun b hb => ?_⟩
        rcases List.mem_cons.mp hb with z | z
        · rw [z]; exact (s2.trans s1).free hD
        · exact s2.free (fr' b z)
theorem sc_check_row : FnScope ["row", "sites", "way"] ["row", "sites"] (defScope s_check_row) := ⟨rfl, rfl, rfl, by decide +kernel, rfl, by decide +kernel, by decide +kernel⟩
theorem ok_check_row (T : Txt K mg A) : FnOk P w K mg base CX0 1 A.f_check_row A.fd_check_row ["row", "sites"] (spCheckRow K) := by
  refine T.F_check_row.ok sc_check_row (fun vs H Q E h => ?_) (fun cdv A' outer s H vs Q E hr h => ?_)
  · obtain ⟨a, r, n, rfl, _⟩ := h
    rfl
  · obtain ⟨a, r, n, rfl, hS, ⟨h1, h8, hr'⟩, q⟩ := h
    refine ⟨_, (pss_cons (ps_if (pt_not (pt_chain op_le op_le pe_int (pe_callB (call_lenK (K := K) rfl) (by rfl) T.n_len PySem.boot_len (pa_cons (pv 0) pa_nil)) (pe_glob (v := .int (8)) (by rfl) T.g_MOST_EXITS ⟨_, rfl⟩)))
        (pss_one ps_never)
        pss_nil)
      (pss_one (ps_for PassesOwn.never rfl (pi_listK (K := K) rfl (pv 0)) (pg_name (i := 2) sc_check_row.nd rfl (Or.inl rfl))
        (pss_one (ps_if (PW.pt (pw_and (pt_cmpR op_ne (pv 2) (pe_glob (v := .int (-1)) (by rfl) T.g_PIT ⟨_, rfl⟩) (nomark _)) (pw_and1 (pt_not (pt_chain op_le op_lt pe_int (pv 2) (pv 1))))))
          (pss_one ps_never)
          pss_nil))))), ?_⟩
    have hl : (r.map V.int).length = r.length := by simp
    refine ⟨_, rfl, _, _, rfl, .inl hS, _, _, rfl, rfl, _, rfl, ?_⟩
    rw [hl, decide_eq_true (show (1 : Int) ≤ (r.length : Int) by omega)]
    refine iteT ?_
    refine ⟨_, _, rfl, rfl, _, rfl, ?_⟩
    rw [decide_eq_true (show (r.length : Int) ≤ 8 by omega)]
    refine iteF ?_
    refine ⟨_, rfl, a, rfl, ⟨_, hS⟩, for_list (K := K) (a := a) (xs := r.map V.int) (fun i σ H2 => ∃ x2 : Option V, σ = [some (.ref a), some (.int (n : Int)), x2] ∧ H2 = H) ⟨none, rfl, rfl⟩ (fun i σ H2 _ ⟨_, _, e⟩ => by rw [e]; exact hS) ?_ ?_⟩
    · rintro i x σ H2 hi ⟨x2, rfl, rfl⟩
      obtain ⟨z, hz, rfl⟩ : ∃ z, z ∈ r ∧ x = V.int z := by
        rw [List.getElem?_map] at hi
        cases e : r[i]? with
        | none => rw [e] at hi; cases hi
        | some z =>
          rw [e] at hi
          exact ⟨z, List.mem_of_getElem? e, (Option.some.inj hi).symm⟩
      obtain ⟨z1, z2⟩ := hr' z hz
      refine ⟨_, rfl, rfl, _, rfl, ?_⟩
      by_cases hp : z = -1
      · subst hp
        refine iteF ?_
        exact iteF ⟨_, rfl, rfl⟩
      · have e : decide (V.int z = V.int (-1)) = false := decide_eq_false (fun w => hp (by injection w))
        rw [e]
        refine iteT ?_
        refine ⟨_, rfl, _, _, rfl, rfl, _, rfl, ?_⟩
        rw [decide_eq_true (show (0 : Int) ≤ z by omega)]
        refine iteT ?_
        refine ⟨_, rfl, _, _, rfl, rfl, _, rfl, ?_⟩
        rw [decide_eq_true (show z < (n : Int) by omega)]
        exact iteF ⟨_, rfl, rfl⟩
    · rintro σ H2 ⟨x2, rfl, rfl⟩
      exact q
theorem sc_check_rows : FnScope ["rows", "row"] ["rows"] (defScope s_check_rows) := ⟨rfl, rfl, rfl, by decide +kernel, rfl, by decide +kernel, by decide +kernel⟩
theorem ok_check_rows (T : Txt K mg A) (G_check_row : FnOk P w K mg base CX0 1 A.f_check_row A.fd_check_row ["row", "sites"] (spCheckRow K)) : FnOk P w K mg base CX0 2 A.f_check_rows A.fd_check_rows ["rows"] spCheckRows := by
  refine T.F_check_rows.ok sc_check_rows (fun vs H Q E h => ?_) (fun cdv A' outer s H vs Q E hr h => ?_)
  · obtain ⟨a, as, rows, rfl, _⟩ := h
    rfl
  · obtain ⟨a, as, rows, rfl, M, ⟨h1, h12, hrow⟩, q⟩ := h
    refine ⟨_, (pss_cons (ps_if (pt_not (pt_chain op_le op_le pe_int (pe_callB (call_lenK (K := K) rfl) (by rfl) T.n_len PySem.boot_len (pa_cons (pv 0) pa_nil)) (pe_glob (v := .int (12)) (by rfl) T.g_MOST_SITES ⟨_, rfl⟩)))
        (pss_one ps_never)
        pss_nil)
      (pss_one (ps_for PassesOwn.never rfl (pi_listK (K := K) rfl (pv 0)) (pg_name (i := 1) sc_check_rows.nd rfl (Or.inl rfl))
        (pss_one (ps_expr (pe_call G_check_row (hr.mono (by decide)) (by rfl) T.m_check_row T.k_check_row T.b_check_row .nil pass0 (pa_cons (pv 1) (pa_cons (pe_callB (call_lenK (K := K) rfl) (by rfl) T.n_len PySem.boot_len (pa_cons (pv 0) pa_nil)) pa_nil)))))))), ?_⟩
    have hl := M.reflen
    refine ⟨_, rfl, _, _, rfl, .inl M.sq, _, _, rfl, rfl, _, rfl, ?_⟩
    rw [hl, decide_eq_true (show (1 : Int) ≤ (rows.length : Int) by omega)]
    refine iteT ?_
    refine ⟨_, _, rfl, rfl, _, rfl, ?_⟩
    rw [decide_eq_true (show (rows.length : Int) ≤ 12 by omega)]
    refine iteF ?_
    refine ⟨_, rfl, a, rfl, ⟨_, M.sq⟩, for_list (K := K) (a := a) (xs := as.map V.ref) (fun i σ H2 => ∃ x1 : Option V, σ = [some (.ref a), x1] ∧ H2 = H) ⟨none, rfl, rfl⟩ (fun i σ H2 _ ⟨_, _, e⟩ => by rw [e]; exact M.sq) ?_ ?_⟩
    · rintro i x σ H2 hi ⟨x1, rfl, rfl⟩
      obtain ⟨c, hi', rfl, ec, hc, _⟩ := M.refs hi
      refine ⟨_, rfl, _, rfl, _, _, rfl, .inl M.sq, c, rows[i], rows.length, (by rw [hl]; rfl), SqL.of hc, hrow _ (List.getElem_mem hi'), ?_⟩
      exact ⟨_, rfl, rfl⟩
    · rintro σ H2 ⟨x1, rfl, rfl⟩
      exact q
theorem sc_Binit : FnScope ["self", "rows"] ["self", "rows"] (defScope s_Binit) := ⟨rfl, rfl, rfl, by decide +kernel, rfl, by decide +kernel, by decide +kernel⟩
theorem ok_Binit (T : Txt K mg A) (G_check_rows : FnOk P w K mg base CX0 2 A.f_check_rows A.fd_check_rows ["rows"] spCheckRows) : FnOk P w K mg base CX0 3 A.f_Binit A.fd_Binit ["self", "rows"] (spInit A.C) := by
  refine T.F_Binit.ok sc_Binit (fun vs H Q E h => ?_) (fun cdv A' outer s H vs Q E hr h => ?_)
  · obtain ⟨p, dx, aH, asH, rows, rfl, _⟩ := h
    rfl
  · obtain ⟨p, dx, aH, asH, rows, rfl, hp, M, W, q⟩ := h
    refine ⟨_, (pss_cons (ps_expr (pe_call G_check_rows (hr.mono (by decide)) (by rfl) T.m_check_rows T.k_check_rows T.b_check_rows .nil pass0 (pa_cons (pv 1) pa_nil)))
      (pss_cons (ps_fldK (K := K) rfl (pv 0) (pe_comp (CompSc.of (N' := ["row"]) (ix := [none]) rfl (by kernel_rfl)) rfl rfl rfl rfl (pi_listK (K := K) rfl (pv 1)) (by exact fun _ _ _ _ _ => pf_nil) (by exact fun _ _ _ _ _ => (pe_callTy (call_listK (K := K) rfl) (by rfl) T.n_list PyProof.Rows.Boot.«list» (pa_cons (pv 0) pa_nil))) (fun _ => rfl)) rfl)
      (pss_cons (ps_fldK (K := K) rfl (pv 0) (pe_op op_rep (pe_lst (pa_cons pe_int pa_nil)) (pe_callB (call_lenK (K := K) rfl) (by rfl) T.n_len PySem.boot_len (pa_cons (pv 1) pa_nil))) rfl)
      (pss_cons (ps_fldK (K := K) rfl (pv 0) (pe_op op_rep (pe_lst (pa_cons pe_int pa_nil)) (pe_callB (call_lenK (K := K) rfl) (by rfl) T.n_len PySem.boot_len (pa_cons (pv 1) pa_nil))) rfl)
      (pss_cons (ps_fldK (K := K) rfl (pv 0) (pe_op op_rep (pe_lst (pa_cons pe_int pa_nil)) (pe_callB (call_lenK (K := K) rfl) (by rfl) T.n_len PySem.boot_len (pa_cons (pv 1) pa_nil))) rfl)
      (pss_one (ps_fldK (K := K) rfl (pv 0) pe_int rfl))))))), ?_⟩
    obtain ⟨h1, h12, hrow⟩ := id W
    have hl := M.reflen
    refine ⟨_, rfl, aH, asH, rows, rfl, M, W, ?_⟩
    refine ⟨_, rfl, aH, rfl, ⟨_, M.sq⟩, ?_⟩
    refine comp_news (ls := rows.map fun r => r.map V.int) (wk_list M.sq) (by rw [hl]; exact small12 (by omega)) (by rw [List.length_map, hl]) (fun i x l H3 ex el s3 Q' q' => ?_) (fun as H1 s1 hlen nd fr hrows aR hR => ?_)
    · obtain ⟨c, hi', rfl, ec, hc, _⟩ := M.refs ex
      rw [List.getElem?_map, List.getElem?_eq_getElem hi'] at el
      cases el
      exact ⟨_, rfl, _, _, rfl, .inl (SqL.of (s3 _ _ hc)), q'⟩
    · rw [List.length_map] at hlen
      have MR := mat_of (H := H) (R := aR) hlen nd s1 hrows hR
      have hp1 := s1 _ _ hp
      have npR : p ≠ aR := ne_of_none hp1 hR
      refine ⟨_, rfl, p, A.C, dx, [], rfl, (by rw [upd_ne npR]; exact hp1), T.cl_Board, T.na_rows, (by show 0 < 1000; decide), ?_⟩
      generalize hH2 : upd (upd H1 aR (.lst (as.map V.ref))) p (.ins A.C dx (putF "rows" (.ref aR) [])) = H2
      have e2p : H2 p = some (.ins A.C dx (putF "rows" (.ref aR) [])) := by rw [← hH2]; exact upd_same
      have e2 : ∀ c, c ≠ p → H2 c = upd H1 aR (.lst (as.map V.ref)) c := fun c hc => by rw [← hH2]; exact upd_ne hc
      have M1 : SqL K H2 aH (asH.map V.ref) := by
        have := s1 _ _ M.hd
        refine SqL.of ?_
        rw [e2 aH (ne_of M.hd hp (by intro z; cases z)), upd_ne (ne_of_none this hR)]
        exact this
      have zz : ∀ k : Nat, (List.replicate k [V.int 0]).flatten = (List.replicate k (0 : Int)).map V.int := fun k => by
        induction k with
        | zero => rfl
        | succ k ih => rw [List.replicate_succ, List.flatten_cons, ih, List.replicate_succ]; rfl
      refine ⟨small12 (by show 1 ≤ 100; decide), fun l1 hl1 => ⟨_, rfl, _, _, rfl, .inl ((same_new hl1).seq M1), l1, _, _, rfl, rfl, upd_same, by omega, by omega, by rw [hl]; exact small12 (by simp; omega), fun aT hT => ?_⟩⟩
      have nT1 : aT ≠ l1 := fun z => by rw [z, upd_same] at hT; cases hT
      rw [upd_ne nT1] at hT
      have npl : p ≠ l1 := ne_of_none e2p hl1
      have npT : p ≠ aT := ne_of_none e2p hT
      refine ⟨_, rfl, p, A.C, dx, _, rfl, (by rw [upd_ne npT, upd_ne npl]; exact e2p), T.cl_Board, T.na_turns, (by show 1 < 1000; decide), ?_⟩
      rw [hl, Int.toNat_natCast, zz]
      generalize hH3 : upd (upd (upd H2 l1 (.lst [V.int 0])) aT (.lst ((List.replicate rows.length (0 : Int)).map V.int))) p (.ins A.C dx (putF "turns" (.ref aT) (putF "rows" (.ref aR) []))) = H3
      have e3p : H3 p = some (.ins A.C dx (putF "turns" (.ref aT) (putF "rows" (.ref aR) []))) := by rw [← hH3]; exact upd_same
      have e3T : H3 aT = some (.lst ((List.replicate rows.length (0 : Int)).map V.int)) := by rw [← hH3, upd_ne (Ne.symm npT)]; exact upd_same
      have e3 : ∀ c o, c ≠ p → H2 c = some o → H3 c = some o := fun c o hc e => by
        rw [← hH3, upd_ne hc, upd_ne (ne_of_none e hT), upd_ne (ne_of_none e hl1)]
        exact e
      have f3 : ∀ c, H3 c = none → H2 c = none := fun c e => by
        cases q : H2 c with
        | none => rfl
        | some o =>
          by_cases hc : c = p
          · rw [hc, e3p] at e; cases e
          · rw [e3 c o hc q] at e; cases e
      have M3 : H3 aH = some (.lst (asH.map V.ref)) := by
        rcases M1 with (m | ⟨o, m⟩) | m
        · exact e3 _ _ (ne_of M.hd hp (by intro z; cases z)) m
        · have := s1 _ _ M.hd
          rw [e2 aH (ne_of M.hd hp (by intro z; cases z)), upd_ne (ne_of_none this hR), this] at m
          cases m
        · have := s1 _ _ M.hd
          refine e3 _ _ (ne_of M.hd hp (by intro z; cases z)) ?_
          rw [e2 aH (ne_of M.hd hp (by intro z; cases z)), upd_ne (ne_of_none this hR)]
          exact this
      refine ⟨small12 (by show 1 ≤ 100; decide), fun l2 hl2 => ⟨_, rfl, _, _, rfl, .inl (SqL.of (same_new hl2 _ _ M3)), l2, _, _, rfl, rfl, upd_same, by omega, by omega, by rw [hl]; exact small12 (by simp; omega), fun aL hL => ?_⟩⟩
      have nL2 : aL ≠ l2 := fun z => by rw [z, upd_same] at hL; cases hL
      rw [upd_ne nL2] at hL
      have npl2 : p ≠ l2 := ne_of_none e3p hl2
      have npL : p ≠ aL := ne_of_none e3p hL
      refine ⟨_, rfl, p, A.C, dx, _, rfl, (by rw [upd_ne npL, upd_ne npl2]; exact e3p), T.cl_Board, T.na_loads, (by show 2 < 1000; decide), ?_⟩
      rw [hl, Int.toNat_natCast, zz]
      generalize hH4 : upd (upd (upd H3 l2 (.lst [V.int 0])) aL (.lst ((List.replicate rows.length (0 : Int)).map V.int))) p (.ins A.C dx (putF "loads" (.ref aL) (putF "turns" (.ref aT) (putF "rows" (.ref aR) [])))) = H4
      have e4p : H4 p = some (.ins A.C dx (putF "loads" (.ref aL) (putF "turns" (.ref aT) (putF "rows" (.ref aR) [])))) := by rw [← hH4]; exact upd_same
      have e4L : H4 aL = some (.lst ((List.replicate rows.length (0 : Int)).map V.int)) := by rw [← hH4, upd_ne (Ne.symm npL)]; exact upd_same
      have e4 : ∀ c o, c ≠ p → H3 c = some o → H4 c = some o := fun c o hc e => by
        rw [← hH4, upd_ne hc, upd_ne (ne_of_none e hL), upd_ne (ne_of_none e hl2)]
        exact e
      have f4 : ∀ c, H4 c = none → H3 c = none := fun c e => by
        cases q : H3 c with
        | none => rfl
        | some o =>
          by_cases hc : c = p
          · rw [hc, e4p] at e; cases e
          · rw [e4 c o hc q] at e; cases e
      have npH : aH ≠ p := ne_of M.hd hp (by intro z; cases z)
      have M4 := e4 _ _ npH M3
      refine ⟨small12 (by show 1 ≤ 100; decide), fun l3 hl3 => ⟨_, rfl, _, _, rfl, .inl (SqL.of (same_new hl3 _ _ M4)), l3, _, _, rfl, rfl, upd_same, by omega, by omega, by rw [hl]; exact small12 (by simp; omega), fun aS hS => ?_⟩⟩
      have nS3 : aS ≠ l3 := fun z => by rw [z, upd_same] at hS; cases hS
      rw [upd_ne nS3] at hS
      have npl3 : p ≠ l3 := ne_of_none e4p hl3
      have npS : p ≠ aS := ne_of_none e4p hS
      refine ⟨_, rfl, p, A.C, dx, _, rfl, (by rw [upd_ne npS, upd_ne npl3]; exact e4p), T.cl_Board, T.na_steps, (by show 3 < 1000; decide), ?_⟩
      rw [hl, Int.toNat_natCast, zz]
      refine ⟨_, rfl, p, A.C, dx, _, rfl, upd_same, T.cl_Board, T.na_taken, (by show 4 < 1000; decide), ?_⟩
      rw [upd_upd]
      rw [bflds_mk]
      generalize hH5 : upd (upd (upd H4 l3 (.lst [V.int 0])) aS (.lst ((List.replicate rows.length (0 : Int)).map V.int))) p (.ins A.C dx (bflds aR aT aL aS 0)) = H5
      have e5p : H5 p = some (.ins A.C dx (bflds aR aT aL aS 0)) := by rw [← hH5]; exact upd_same
      have e5S : H5 aS = some (.lst ((List.replicate rows.length (0 : Int)).map V.int)) := by rw [← hH5, upd_ne (Ne.symm npS)]; exact upd_same
      have e5 : ∀ c o, c ≠ p → H4 c = some o → H5 c = some o := fun c o hc e => by
        rw [← hH5, upd_ne hc, upd_ne (ne_of_none e hS), upd_ne (ne_of_none e hl3)]
        exact e
      have up : ∀ c o, c ≠ p → upd H1 aR (.lst (as.map V.ref)) c = some o → H5 c = some o := fun c o hc e => e5 c o hc (e4 c o hc (e3 c o hc (by rw [e2 c hc]; exact e)))
      have e5T : H5 aT = some (.lst ((List.replicate rows.length (0 : Int)).map V.int)) := e5 _ _ (Ne.symm npT) (e4 _ _ (Ne.symm npT) e3T)
      have e5L : H5 aL = some (.lst ((List.replicate rows.length (0 : Int)).map V.int)) := e5 _ _ (Ne.symm npL) e4L
      have pas : ∀ c ∈ aR :: as, c ≠ p := fun c hc z => by
        rcases List.mem_cons.mp hc with h | h
        · exact npR (by rw [← z, h])
        · have := fr c h
          rw [z, hp] at this
          cases this
      have MR5 : Mat H5 aR as rows := MR.keep fun c o hc e => up c o (pas c hc) e
      have hn2 : ∀ c, H2 c = none → c ∉ aR :: as := fun c e hc => by
        rw [e2 c (pas c hc)] at e
        rcases List.mem_cons.mp hc with z | z
        · rw [z, upd_same] at e; cases e
        · obtain ⟨i, hi, ei⟩ := List.getElem_of_mem z
          obtain ⟨c', ec1, ec2, _⟩ := MR.get (i := i) (by rw [← hlen]; exact hi)
          rw [List.getElem?_eq_getElem hi, ei] at ec1
          cases ec1
          rw [ec2] at e; cases e
      have nLT : aL ≠ aT := fun z => by rw [z, e3T] at hL; cases hL
      have nST : aS ≠ aT := fun z => by rw [z, e4 _ _ (Ne.symm npT) e3T] at hS; cases hS
      have nSL : aS ≠ aL := fun z => by rw [z, e4L] at hS; cases hS
      have tH : ∀ c, H2 c = none → H c = none := fun c e => by
        cases q' : H c with
        | none => rfl
        | some o =>
          exfalso
          by_cases hc : c = p
          · rw [hc, e2p] at e; cases e
          · have := s1 _ _ q'
            rw [e2 c hc, upd_ne (ne_of_none this hR), this] at e
            cases e
      have nd5 : (p :: aT :: aL :: aS :: aR :: as).Nodup := by
        have x1 := hn2 aT hT
        have x2 := hn2 aL (f3 aL hL)
        have x3 := hn2 aS (f3 aS (f4 aS hS))
        simp only [List.nodup_cons, List.mem_cons, not_or] at x1 x2 x3 ⊢
        have y := MR.nd
        simp only [List.nodup_cons] at y
        refine ⟨⟨npT, npL, npS, npR, fun z => pas p (List.mem_cons_of_mem _ z) rfl⟩, ⟨Ne.symm nLT, Ne.symm nST, x1.1, x1.2⟩, ⟨Ne.symm nSL, x2.1, x2.2⟩, ⟨x3.1, x3.2⟩, y.1, y.2⟩
      refine q aR as aT aL aS H5 ⟨e5p, MR5, e5T, e5L, e5S, nd5⟩ (fun c o e hc => ?_) (fun c hc => ?_)
      · have := s1 _ _ e
        exact up c o hc (by rw [upd_ne (ne_of_none this hR)]; exact this)
      · simp only [List.mem_cons] at hc
        rcases hc with z | z | z | z | z
        · rw [z]; exact tH _ hT
        · rw [z]; exact tH _ (f3 _ hL)
        · rw [z]; exact tH _ (f3 _ (f4 _ hS))
        · rw [z]; exact s1.free hR
        · exact fr c z
theorem sc_whole : FnScope ["found"] ["found"] (defScope s_whole) := ⟨rfl, rfl, rfl, by decide +kernel, rfl, by decide +kernel, by decide +kernel⟩
theorem ok_whole (T : Txt K mg A) : FnOk P w K mg base CX0 1 A.f_whole A.fd_whole ["found"] spWhole := by
  refine T.F_whole.ok sc_whole (fun vs H Q E h => ?_) (fun cdv A' outer s H vs Q E hr h => ?_)
  · obtain ⟨i, rfl, _⟩ := h
    rfl
  · obtain ⟨i, rfl, q⟩ := h
    refine ⟨_, (pss_one (ps_ret (pe_and (pe_callB (call_isiK (K := K) rfl) (by rfl) T.n_isinstance PyProof.Rows.Boot.«isinstance» (pa_cons (pv 0) (pa_cons (pe_bltn (v := .ty "int") (by rfl) T.n_int PyProof.Rows.Boot.«int» rfl) pa_nil))) (pe_one (pe_not (pe_callB (call_isiK (K := K) rfl) (by rfl) T.n_isinstance PyProof.Rows.Boot.«isinstance» (pa_cons (pv 0) (pa_cons (pe_bltn (v := .ty "bool") (by rfl) T.n_bool PyProof.Rows.Boot.«bool» rfl) pa_nil)))))))), ?_⟩
    refine ⟨_, rfl, _, _, _, _, true, rfl, rfl, .int i, rfl, _, rfl, ?_⟩
    refine iteT ?_
    exact ⟨_, rfl, _, _, _, _, false, rfl, rfl, .int i, T.q_int_bool, _, rfl, q⟩
theorem sc_row : FnScope ["found", "due", "k"] ["found", "due"] (defScope s_row) := ⟨rfl, rfl, rfl, by decide +kernel, rfl, by decide +kernel, by decide +kernel⟩
theorem ok_row (T : Txt K mg A) (G_whole : FnOk P w K mg base CX0 1 A.f_whole A.fd_whole ["found"] spWhole) : FnOk P w K mg base CX0 2 A.f_row A.fd_row ["found", "due"] (spRow K) := by
  refine T.F_row.ok sc_row (fun vs H Q E h => ?_) (fun cdv A' outer s H vs Q E hr h => ?_)
  · obtain ⟨a, b, xs, rfl, _⟩ := h
    rfl
  · obtain ⟨a, b, xs, rfl, ha, hb, hx, q⟩ := h
    refine ⟨_, (pss_cons (ps_if (PW.pt (pw_or (pt_not (pt_val (pe_callB (call_isiK (K := K) rfl) (by rfl) T.n_isinstance PyProof.Rows.Boot.«isinstance» (pa_cons (pv 0) (pa_cons (pe_bltn (v := .ty "list") (by rfl) T.n_list PyProof.Rows.Boot.«list» rfl) pa_nil))))) (pw_or1 (pt_cmpR op_ne (pe_callB (call_lenK (K := K) rfl) (by rfl) T.n_len PySem.boot_len (pa_cons (pv 0) pa_nil)) (pe_callB (call_lenK (K := K) rfl) (by rfl) T.n_len PySem.boot_len (pa_cons (pv 1) pa_nil)) (nomark _)))))
        (pss_one (ps_ret pe_bl))
        pss_nil)
      (pss_cons (ps_for PassesOwn.never rfl (pi_range1 (by rfl) T.n_range (pa_cons (pe_callB (call_lenK (K := K) rfl) (by rfl) T.n_len PySem.boot_len (pa_cons (pv 1) pa_nil)) pa_nil)) (pg_name (i := 2) sc_row.nd rfl (Or.inl rfl))
        (pss_one (ps_if (PW.pt (pw_or (pt_not (pt_val (pe_call G_whole (hr.mono (by decide)) (by rfl) T.m__law_whole T.k__law_whole T.b__law_whole .nil pass0 (pa_cons (pe_ix (ix_listK (K := K) rfl) (pv 0) (pv 2) (fun _ _ => rfl)) pa_nil)))) (pw_or1 (pt_cmpR op_ne (pe_ix (ix_listK (K := K) rfl) (pv 0) (pv 2) (fun _ _ => rfl)) (pe_ix (ix_listK (K := K) rfl) (pv 1) (pv 2) (fun _ _ => rfl)) (nomark _)))))
          (pss_one (ps_ret pe_bl))
          pss_nil)))
      (pss_one (ps_ret pe_bl)))), ?_⟩
    have hl : (xs.map V.int).length = xs.length := by simp
    refine ⟨_, rfl, _, _, _, _, true, rfl, rfl, .lst ha, rfl, _, rfl, ?_⟩
    refine iteF ?_
    refine ⟨_, rfl, _, _, rfl, .inl (SqL.of ha), _, rfl, _, _, rfl, .inl hb, rfl, _, rfl, ?_⟩
    refine iteNS rfl ?_
    refine ⟨_, rfl, _, _, rfl, .inl hb, _, rfl, by omega, by omega, ?_⟩
    refine for_range (fun i σ H2 => ∃ x2 : Option V, σ = [some (.ref a), some (.ref b), x2] ∧ H = H2) ⟨none, rfl, rfl⟩ ?_ ?_
    · rintro i σ H2 hi ⟨x2, rfl, rfl⟩
      have hi' : i < xs.length := by rw [hl] at hi; simpa using hi
      have hat : atI (xs.map V.int) (0 + (i : Int)) = some (V.int xs[i]) := at_list (n := i) (by omega) (by rw [List.getElem?_map, List.getElem?_eq_getElem hi']; rfl)
      refine ⟨_, rfl, _, rfl, _, _, _, _, rfl, rfl, SqL.of ha, hat, _, rfl, _, rfl, ?_⟩
      refine iteF ?_
      refine ⟨_, rfl, _, rfl, _, _, _, _, rfl, rfl, SqL.of ha, hat, _, rfl, _, rfl, _, _, _, _, rfl, rfl, hb, hat, rfl, _, rfl, ?_⟩
      refine iteNS rfl ?_
      exact ⟨_, rfl, rfl⟩
    · rintro σ H2 ⟨x2, rfl, rfl⟩
      exact q
theorem sc_stands : FnScope ["board", "rows", "turns", "lying", "counts", "k"] ["board", "rows", "turns", "lying", "counts"] (defScope s_stands) := ⟨rfl, rfl, rfl, by decide +kernel, rfl, by decide +kernel, by decide +kernel⟩
theorem ok_stands (T : Txt K mg A) (G_whole : FnOk P w K mg base CX0 1 A.f_whole A.fd_whole ["found"] spWhole) (G_row : FnOk P w K mg base CX0 2 A.f_row A.fd_row ["found", "due"] (spRow K)) : FnOk P w K mg base CX0 3 A.f_stands A.fd_stands ["board", "rows", "turns", "lying", "counts"] (spStands K A.C) := by
  refine T.F_stands.ok sc_stands (fun vs H Q E h => ?_) (fun cdv A' outer s H vs Q E hr h => ?_)
  · obtain ⟨p, dx, aR, as, aT, aL, aS, b, R, asR, tA, lA, cA, rfl, _⟩ := h
    rfl
  · obtain ⟨p, dx, aR, as, aT, aL, aS, b, R, asR, tA, lA, cA, rfl, B, MR, hT, hL, hC, n1, n2, n3, n4, n5, q⟩ := h
    refine ⟨_, (pss_cons (ps_if (PW.pt (pw_or (pt_not (pt_val (pe_callB (call_isiK (K := K) rfl) (by rfl) T.n_isinstance PyProof.Rows.Boot.«isinstance» (pa_cons (pe_fldK (K := K) rfl (pv 0) rfl) (pa_cons (pe_bltn (v := .ty "list") (by rfl) T.n_list PyProof.Rows.Boot.«list» rfl) pa_nil))))) (pw_or1 (pt_cmpR op_ne (pe_callB (call_lenK (K := K) rfl) (by rfl) T.n_len PySem.boot_len (pa_cons (pe_fldK (K := K) rfl (pv 0) rfl) pa_nil)) (pe_callB (call_lenK (K := K) rfl) (by rfl) T.n_len PySem.boot_len (pa_cons (pv 1) pa_nil)) (nomark _)))))
        (pss_one (ps_ret pe_bl))
        pss_nil)
      (pss_cons (ps_for PassesOwn.never rfl (pi_range1 (by rfl) T.n_range (pa_cons (pe_callB (call_lenK (K := K) rfl) (by rfl) T.n_len PySem.boot_len (pa_cons (pv 1) pa_nil)) pa_nil)) (pg_name (i := 5) sc_stands.nd rfl (Or.inl rfl))
        (pss_one (ps_if (pt_not (pt_val (pe_call G_row (hr.mono (by decide)) (by rfl) T.m__law_row T.k__law_row T.b__law_row .nil pass0 (pa_cons (pe_ix (ix_listK (K := K) rfl) (pe_fldK (K := K) rfl (pv 0) rfl) (pv 5) (fun _ _ => rfl)) (pa_cons (pe_ix (ix_listK (K := K) rfl) (pv 1) (pv 5) (fun _ _ => rfl)) pa_nil)))))
          (pss_one (ps_ret pe_bl))
          pss_nil)))
      (pss_cons (ps_if (PW.pt (pw_or (pt_not (pt_val (pe_call G_row (hr.mono (by decide)) (by rfl) T.m__law_row T.k__law_row T.b__law_row .nil pass0 (pa_cons (pe_fldK (K := K) rfl (pv 0) rfl) (pa_cons (pv 2) pa_nil))))) (pw_or1 (pt_not (pt_val (pe_call G_row (hr.mono (by decide)) (by rfl) T.m__law_row T.k__law_row T.b__law_row .nil pass0 (pa_cons (pe_fldK (K := K) rfl (pv 0) rfl) (pa_cons (pe_slice (sl_listK (K := K) rfl) (pv 3) po_none (po_some (pe_un un_neg pe_int))) pa_nil))))))))
        (pss_one (ps_ret pe_bl))
        pss_nil)
      (pss_cons (ps_if (PW.pt (pw_or (pt_not (pt_val (pe_call G_whole (hr.mono (by decide)) (by rfl) T.m__law_whole T.k__law_whole T.b__law_whole .nil pass0 (pa_cons (pe_fldK (K := K) rfl (pv 0) rfl) pa_nil)))) (pw_or1 (pt_cmpR op_ne (pe_fldK (K := K) rfl (pv 0) rfl) (pe_ix (ix_listK (K := K) rfl) (pv 3) (pe_un un_neg pe_int) (fun _ _ => rfl)) (nomark _)))))
        (pss_one (ps_ret pe_bl))
        pss_nil)
      (pss_one (ps_ret (pe_call G_row (hr.mono (by decide)) (by rfl) T.m__law_row T.k__law_row T.b__law_row .nil pass0 (pa_cons (pe_fldK (K := K) rfl (pv 0) rfl) (pa_cons (pv 4) pa_nil))))))))), ?_⟩
    have l1 := B.mat.reflen
    have l2 := MR.reflen
    refine ⟨_, rfl, p, A.C, dx, _, _, rfl, B.ob, T.cl_Board, T.na_rows, bf_rows _ _ _ _ _, _, _, _, _, true, rfl, rfl, .lst B.mat.hd, rfl, _, rfl, ?_⟩
    refine iteF ?_
    refine ⟨_, rfl, p, A.C, dx, _, _, rfl, B.ob, T.cl_Board, T.na_rows, bf_rows _ _ _ _ _, _, _, rfl, .inl B.mat.sq, _, rfl, _, _, rfl, .inl MR.sq, rfl, _, rfl, ?_⟩
    refine iteNS (by rw [l1, l2]) ?_
    refine ⟨_, rfl, _, _, rfl, .inl MR.sq, _, rfl, by omega, by omega, ?_⟩
    refine for_range (fun i σ H2 => ∃ x5 : Option V, σ = [some (.ref p), some (.ref R), some (.ref tA), some (.ref lA), some (.ref cA), x5] ∧ H = H2) ⟨none, rfl, rfl⟩ ?_ ?_
    · rintro i σ H2 hi ⟨x5, rfl, rfl⟩
      have hi' : i < b.rows.length := by rw [l2] at hi; simpa using hi
      obtain ⟨c, ec, hc, _⟩ := B.mat.get hi'
      obtain ⟨d, ed, hd, _⟩ := MR.get hi'
      refine ⟨_, rfl, p, A.C, dx, _, _, rfl, B.ob, T.cl_Board, T.na_rows, bf_rows _ _ _ _ _, _, rfl, _, _, _, _, rfl, rfl, B.mat.sq, at_list (n := i) (by omega) (by rw [List.getElem?_map, ec]; rfl), _, rfl, _, rfl, _, _, _, _, rfl, rfl, MR.sq, at_list (n := i) (by omega) (by rw [List.getElem?_map, ed]; rfl), c, d, _, rfl, hc, SqL.of hd, (by have := n2 _ (List.getElem_mem hi'); omega), _, rfl, ?_⟩
      refine iteF ?_
      exact ⟨_, rfl, rfl⟩
    · rintro σ H2 ⟨x5, rfl, rfl⟩
      refine ⟨_, rfl, p, A.C, dx, _, _, rfl, B.ob, T.cl_Board, T.na_turns, bf_turns _ _ _ _ _, _, rfl, aT, tA, _, rfl, B.hT, hT, by omega, _, rfl, ?_⟩
      refine iteF ?_
      refine ⟨_, rfl, p, A.C, dx, _, _, rfl, B.ob, T.cl_Board, T.na_loads, bf_loads _ _ _ _ _, _, rfl, _, rfl, _, rfl, _, _, rfl, hL, fun l hl => ?_⟩
      have s1 : Same H (upd H l (.lst (cutV ((b.loads ++ [b.taken]).map V.int) none (some (-1))))) := same_new hl
      rw [cut_last] at s1 ⊢
      have B1 := B.same s1
      refine ⟨aL, l, _, rfl, B1.hL, SqL.of upd_same, by omega, _, rfl, ?_⟩
      refine iteF ?_
      refine ⟨_, rfl, p, A.C, dx, _, _, rfl, B1.ob, T.cl_Board, T.na_taken, bf_taken _ _ _ _ _, _, rfl, _, rfl, ?_⟩
      refine iteF ?_
      refine ⟨_, rfl, p, A.C, dx, _, _, rfl, B1.ob, T.cl_Board, T.na_taken, bf_taken _ _ _ _ _, _, rfl, _, rfl, _, _, _, _, rfl, rfl, s1.seq hL, at_last_int _ _, rfl, _, rfl, ?_⟩
      refine iteNS rfl ?_
      exact ⟨_, rfl, p, A.C, dx, _, _, rfl, B1.ob, T.cl_Board, T.na_steps, bf_steps _ _ _ _ _, _, rfl, aS, cA, _, rfl, B1.hS, s1.seq hC, by omega, q _ s1⟩
theorem sc_check_site : FnScope ["board", "at"] ["board", "at"] (defScope s_check_site) := ⟨rfl, rfl, rfl, by decide +kernel, rfl, by decide +kernel, by decide +kernel⟩
theorem ok_check_site (T : Txt K mg A) : FnOk P w K mg base (CX1 P w) 1 A.f_check_site A.fd_check_site ["board", "at"] (spSite A.C A.c_NoSite) := by
  refine T.F_check_site.okX sc_check_site (fun vs H Q E h => ?_) (fun cdv A' outer s H vs Q E hr h => ?_)
  · obtain ⟨p, dx, aR, as, aT, aL, aS, b, z, rfl, _⟩ := h
    rfl
  · obtain ⟨p, dx, aR, as, aT, aL, aS, b, z, rfl, B, z1, z2, q1, q2⟩ := h
    refine ⟨_, (pss_one (ps_if (pt_not (pt_chain op_le op_lt pe_int (pv 1) (pe_callB (call_lenK (K := K) rfl) (by rfl) T.n_len PySem.boot_len (pa_cons (pe_fldK (K := K) rfl (pv 0) rfl) pa_nil))))
        (pss_one (ps_raise raises_cx rfl (by rfl) T.m_NoSite T.x_NoSite (pa_cons (pe_fs (pj_str (by decide +kernel) (pj_int (pv 1) pj_nil)) (by decide)) pa_nil)))
        pss_nil)), ?_⟩
    have l1 := B.mat.reflen
    have lg := log2_small z1 z2
    refine ⟨_, rfl, _, _, rfl, rfl, _, rfl, ?_⟩
    by_cases h0 : 0 ≤ z
    · rw [decide_eq_true h0]
      refine iteT ?_
      refine ⟨_, rfl, p, A.C, dx, _, _, rfl, B.ob, T.cl_Board, T.na_rows, bf_rows _ _ _ _ _, _, _, rfl, .inl B.mat.sq, _, _, rfl, rfl, _, rfl, ?_⟩
      rw [l1]
      by_cases h1 : z < (b.rows.length : Int)
      · rw [decide_eq_true h1]
        exact iteF (q1 ⟨h0, h1⟩)
      · rw [decide_eq_false h1]
        refine iteT ?_
        exact ⟨⟨_, rfl, _, rfl, lg, rfl, trivial⟩, fun x => ⟨small12 (by show 1 ≤ 100; decide), q2 (fun w => h1 w.2)⟩⟩
    · rw [decide_eq_false h0]
      refine iteF ?_
      refine ⟨_, rfl, ?_⟩
      refine iteT ?_
      exact ⟨⟨_, rfl, _, rfl, lg, rfl, trivial⟩, fun x => ⟨small12 (by show 1 ≤ 100; decide), q2 (fun w => h0 w.1)⟩⟩
theorem sc_Bturn_to : FnScope ["self", "at", "place"] ["self", "at", "place"] (defScope s_Bturn_to) := ⟨rfl, rfl, rfl, by decide +kernel, rfl, by decide +kernel, by decide +kernel⟩
theorem ok_Bturn_to (T : Txt K mg A) (G_check_site : FnOk P w K mg base (CX1 P w) 1 A.f_check_site A.fd_check_site ["board", "at"] (spSite A.C A.c_NoSite)) : FnOk P w K mg base (CX1 P w) 2 A.f_Bturn_to A.fd_Bturn_to ["self", "at", "place"] (spTurn A.C A.c_NoSite A.c_NoPlace) := by
  refine T.F_Bturn_to.okX sc_Bturn_to (fun vs H Q E h => ?_) (fun cdv A' outer s H vs Q E hr h => ?_)
  · obtain ⟨p, dx, aR, as, aT, aL, aS, b, z, y, rfl, _⟩ := h
    rfl
  · obtain ⟨p, dx, aR, as, aT, aL, aS, b, z, y, rfl, B, hl, z1, z2, y1, y2, q1, q2, q3⟩ := h
    refine ⟨_, (pss_cons (ps_expr (pe_call G_check_site (hr.mono (by decide)) (by rfl) T.m_check_site T.k_check_site T.b_check_site .nil passX (pa_cons (pv 0) (pa_cons (pv 1) pa_nil))))
      (pss_cons (ps_if (pt_not (pt_chain op_le op_lt pe_int (pv 2) (pe_callB (call_lenK (K := K) rfl) (by rfl) T.n_len PySem.boot_len (pa_cons (pe_ix (ix_listK (K := K) rfl) (pe_fldK (K := K) rfl (pv 0) rfl) (pv 1) (fun _ _ => rfl)) pa_nil))))
        (pss_one (ps_raise raises_cx rfl (by rfl) T.m_NoPlace T.x_NoPlace (pa_cons (pe_fs (pj_str (by decide +kernel) (pj_int (pv 1) (pj_str (by decide +kernel) (pj_int (pv 2) pj_nil)))) (by decide)) pa_nil)))
        pss_nil)
      (pss_one (ps_asg (pv 2) (pg_sub (pe_fldK (K := K) rfl (pv 0) rfl) (pv 1) set_list))))), ?_⟩
    have lg := log2_small z1 z2
    have lgy := log2_small y1 y2
    refine ⟨_, rfl, _, rfl, p, dx, aR, as, aT, aL, aS, b, z, rfl, B, z1, z2, fun hz => ?_, q1⟩
    obtain ⟨c, hat, hc, _⟩ := B.mat.at hz.1 hz.2
    have hlr : ((b.rows.getD z.toNat []).map V.int).length = (b.rows.getD z.toNat []).length := by simp
    refine ⟨_, rfl, _, _, rfl, rfl, _, rfl, ?_⟩
    by_cases h0 : 0 ≤ y
    · rw [decide_eq_true h0]
      refine iteT ?_
      refine ⟨_, rfl, p, A.C, dx, _, _, rfl, B.ob, T.cl_Board, T.na_rows, bf_rows _ _ _ _ _, _, rfl, _, _, _, _, rfl, rfl, B.mat.sq, hat, _, _, rfl, .inl (SqL.of hc), _, _, rfl, rfl, _, rfl, ?_⟩
      rw [hlr]
      by_cases h1 : y < ((b.rows.getD z.toNat []).length : Int)
      · rw [decide_eq_true h1]
        refine iteF ?_
        refine ⟨_, rfl, _, rfl, p, A.C, dx, _, _, rfl, B.ob, T.cl_Board, T.na_turns, bf_turns _ _ _ _ _, _, rfl, aT, _, _, _, rfl, rfl, B.hT, ixN_in hz.1 (by rw [List.length_map, hl]; exact hz.2), ?_⟩
        rw [map_set_int]
        exact q3 hz ⟨h0, h1⟩
      · rw [decide_eq_false h1]
        refine iteT ?_
        exact ⟨⟨_, rfl, _, rfl, lg, rfl, _, rfl, _, rfl, lgy, rfl, trivial⟩, fun x => ⟨small12 (by show 1 ≤ 100; decide), q2 hz (fun w => h1 w.2)⟩⟩
    · rw [decide_eq_false h0]
      refine iteF ?_
      refine ⟨_, rfl, ?_⟩
      refine iteT ?_
      exact ⟨⟨_, rfl, _, rfl, lg, rfl, _, rfl, _, rfl, lgy, rfl, trivial⟩, fun x => ⟨small12 (by show 1 ≤ 100; decide), q2 hz (fun w => h0 w.1)⟩⟩
theorem sc_Bload : FnScope ["self", "at", "many"] ["self", "at", "many"] (defScope s_Bload) := ⟨rfl, rfl, rfl, by decide +kernel, rfl, by decide +kernel, by decide +kernel⟩
theorem ok_Bload (T : Txt K mg A) (G_check_site : FnOk P w K mg base (CX1 P w) 1 A.f_check_site A.fd_check_site ["board", "at"] (spSite A.C A.c_NoSite)) : FnOk P w K mg base (CX1 P w) 2 A.f_Bload A.fd_Bload ["self", "at", "many"] (spLoad A.C A.c_NoSite A.c_TooMany) := by
  refine T.F_Bload.okX sc_Bload (fun vs H Q E h => ?_) (fun cdv A' outer s H vs Q E hr h => ?_)
  · obtain ⟨p, dx, aR, as, aT, aL, aS, b, z, y, rfl, _⟩ := h
    rfl
  · obtain ⟨p, dx, aR, as, aT, aL, aS, b, z, y, rfl, B, hl, z1, z2, q1, q2, q3⟩ := h
    refine ⟨_, (pss_cons (ps_expr (pe_call G_check_site (hr.mono (by decide)) (by rfl) T.m_check_site T.k_check_site T.b_check_site .nil passX (pa_cons (pv 0) (pa_cons (pv 1) pa_nil))))
      (pss_cons (ps_if (pt_cmpR op_gt (pe_op op_add (pe_callB (call_sumK (K := K) rfl rfl) (by rfl) T.n_sum PyProof.Rows.Boot.«sum» (pa_cons (pe_fldK (K := K) rfl (pv 0) rfl) pa_nil)) (pv 2)) (pe_glob (v := .int (400)) (by rfl) T.g_MOST_MARBLES ⟨_, rfl⟩) (nomark _))
        (pss_one (ps_raise raises_cx rfl (by rfl) T.m_TooMany T.x_TooMany (pa_cons (pe_fs (pj_str (by decide +kernel) (pj_int (pe_glob (v := .int (400)) (by rfl) T.g_MOST_MARBLES ⟨_, rfl⟩) (pj_str (by decide +kernel) pj_nil))) (by decide)) pa_nil)))
        pss_nil)
      (pss_one (ps_augS (pe_fldK (K := K) rfl (pv 0) rfl) (pv 1) (get_listK (K := K) rfl) (pv 2) ip_add set_list)))), ?_⟩
    refine ⟨_, rfl, _, rfl, p, dx, aR, as, aT, aL, aS, b, z, rfl, B, z1, z2, fun hz => ?_, q1⟩
    refine ⟨_, rfl, p, A.C, dx, _, _, rfl, B.ob, T.cl_Board, T.na_loads, bf_loads _ _ _ _ _, aL, b.loads, rfl, SqL.of B.hL, _, rfl, _, _, rfl, rfl, _, _, rfl, rfl, _, rfl, ?_⟩
    by_cases hs : (400 : Int) < b.loads.sum + y
    · rw [decide_eq_true hs]
      refine iteT ?_
      exact ⟨⟨_, rfl, by decide, rfl, trivial⟩, fun x => ⟨small12 (by show 1 ≤ 100; decide), q2 hz hs⟩⟩
    · rw [decide_eq_false hs]
      refine iteF ?_
      have hz' : z < (b.loads.length : Int) := by rw [hl]; exact hz.2
      refine ⟨_, rfl, p, A.C, dx, _, _, rfl, B.ob, T.cl_Board, T.na_loads, bf_loads _ _ _ _ _, _, rfl, _, _, _, _, rfl, rfl, SqL.of B.hL, at_ints hz.1 hz', _, rfl, _, _, rfl, rfl, aL, _, _, _, rfl, rfl, B.hL, ixN_in hz.1 (by rw [List.length_map]; exact hz'), ?_⟩
      rw [map_set_int]
      exact q3 hz (by omega)
theorem sc_last_exit : FnScope ["board", "at"] ["board", "at"] (defScope s_last_exit) := ⟨rfl, rfl, rfl, by decide +kernel, rfl, by decide +kernel, by decide +kernel⟩
theorem ok_last_exit (T : Txt K mg A) (G_check_site : FnOk P w K mg base (CX1 P w) 1 A.f_check_site A.fd_check_site ["board", "at"] (spSite A.C A.c_NoSite)) : FnOk P w K mg base (CX1 P w) 2 A.f_last_exit A.fd_last_exit ["board", "at"] (spLast A.C A.c_NoSite) := by
  refine T.F_last_exit.okX sc_last_exit (fun vs H Q E h => ?_) (fun cdv A' outer s H vs Q E hr h => ?_)
  · obtain ⟨p, dx, aR, as, aT, aL, aS, b, z, rfl, _⟩ := h
    rfl
  · obtain ⟨p, dx, aR, as, aT, aL, aS, b, z, rfl, B, hl, z1, z2, q1, q2⟩ := h
    refine ⟨_, (pss_cons (ps_expr (pe_call G_check_site (hr.mono (by decide)) (by rfl) T.m_check_site T.k_check_site T.b_check_site .nil passX (pa_cons (pv 0) (pa_cons (pv 1) pa_nil))))
      (pss_one (ps_ret (pe_ix (ix_listK (K := K) rfl) (pe_ix (ix_listK (K := K) rfl) (pe_fldK (K := K) rfl (pv 0) rfl) (pv 1) (fun _ _ => rfl)) (pe_op op_sub (pe_ix (ix_listK (K := K) rfl) (pe_fldK (K := K) rfl (pv 0) rfl) (pv 1) (fun _ _ => rfl)) pe_int) (fun _ _ => rfl))))), ?_⟩
    refine ⟨_, rfl, _, rfl, p, dx, aR, as, aT, aL, aS, b, z, rfl, B, z1, z2, fun hz => ?_, q2⟩
    obtain ⟨t0, t1, q⟩ := q1 hz
    obtain ⟨c, hat, hc, _⟩ := B.mat.at hz.1 hz.2
    exact ⟨_, rfl, p, A.C, dx, _, _, rfl, B.ob, T.cl_Board, T.na_rows, bf_rows _ _ _ _ _, _, rfl, _, _, _, _, rfl, rfl, B.mat.sq, hat, _, rfl, p, A.C, dx, _, _, rfl, B.ob, T.cl_Board, T.na_turns, bf_turns _ _ _ _ _, _, rfl, _, _, _, _, rfl, rfl, SqL.of B.hT, at_ints hz.1 (by rw [hl]; exact hz.2), _, _, rfl, rfl, _, _, _, _, rfl, rfl, SqL.of hc, lastx_at t0 t1, q⟩
theorem sc_board : FnScope ["rows", "turns", "loads", "board", "k"] ["rows", "turns", "loads"] (defScope s_board) := ⟨rfl, rfl, rfl, by decide +kernel, rfl, by decide +kernel, by decide +kernel⟩
theorem ok_board (T : Txt K mg A) (G_i_Board : FnOk P w K mg base CX0 3 A.f_Binit A.fd_Binit ["self", "rows"] (spInit A.C)) (G_turn_to : FnOk P w K mg base (CX1 P w) 2 A.f_Bturn_to A.fd_Bturn_to ["self", "at", "place"] (spTurn A.C A.c_NoSite A.c_NoPlace)) (G_load : FnOk P w K mg base (CX1 P w) 2 A.f_Bload A.fd_Bload ["self", "at", "many"] (spLoad A.C A.c_NoSite A.c_TooMany)) : FnOk P w K mg base CX0 5 A.f_board A.fd_board ["rows", "turns", "loads"] (spBoard K A.C) := by
  refine T.F_board.ok sc_board (fun vs H Q E h => ?_) (fun cdv A' outer s H vs Q E hr h => ?_)
  · obtain ⟨R, tA, lA, as, rows, ts, ls, rfl, _⟩ := h
    rfl
  · obtain ⟨R, tA, lA, as, rows, ts, ls, rfl, M, W, hT, hL, ⟨tl, tv⟩, ll, lsum, q⟩ := h
    refine ⟨_, (pss_cons (ps_set (i := 3) sc_board.nd rfl (Or.inl rfl) (pe_make T.mk_Board G_i_Board (hr.mono (by decide)) (by rfl) T.m_Board T.bi_Board .nil pass0 (pa_cons (pe_comp (CompSc.of (N' := ["row"]) (ix := [none]) rfl (by kernel_rfl)) rfl rfl rfl rfl (pi_listK (K := K) rfl (pv 0)) (by exact fun _ _ _ _ _ => pf_nil) (by exact fun _ _ _ _ _ => (pe_callTy (call_listK (K := K) rfl) (by rfl) T.n_list PyProof.Rows.Boot.«list» (pa_cons (pv 0) pa_nil))) (fun _ => rfl)) pa_nil)))
      (pss_cons (ps_for PassesOwn.never rfl (pi_range1 (by rfl) T.n_range (pa_cons (pe_callB (call_lenK (K := K) rfl) (by rfl) T.n_len PySem.boot_len (pa_cons (pv 0) pa_nil)) pa_nil)) (pg_name (i := 4) sc_board.nd rfl (Or.inl rfl))
        (pss_cons (ps_expr (pe_meth (pv 3) T.cl_Board T.mt_turn_to G_turn_to (hr.mono (by decide)) T.bm_turn_to .nil passE0 (pa_cons (pv 4) (pa_cons (pe_ix (ix_listK (K := K) rfl) (pv 1) (pv 4) (fun _ _ => rfl)) pa_nil))))
        (pss_one (ps_expr (pe_meth (pv 3) T.cl_Board T.mt_load G_load (hr.mono (by decide)) T.bm_load .nil passE0 (pa_cons (pv 4) (pa_cons (pe_ix (ix_listK (K := K) rfl) (pv 2) (pv 4) (fun _ _ => rfl)) pa_nil)))))))
      (pss_one (ps_ret (pv 3))))), ?_⟩
    obtain ⟨w1, w12, wr⟩ := id W
    have hl := M.reflen
    refine ⟨_, rfl, R, rfl, ⟨_, M.sq⟩, ?_⟩
    refine comp_news (ls := rows.map fun r => r.map V.int) (wk_list M.sq) (by rw [hl]; exact small12 (Nat.le_trans w12 (by decide))) (by rw [List.length_map, hl]) (fun i x l H3 ex el s3 Q' q' => ?_) (fun as2 H2' s2 hlen2 nd2 fr2 hrows2 D hD => ?_)
    · obtain ⟨c, hi', rfl, ec, hc, _⟩ := M.refs ex
      rw [List.getElem?_map, List.getElem?_eq_getElem hi'] at el
      cases el
      exact ⟨_, rfl, _, _, rfl, .inl (SqL.of (s3 _ _ hc)), q'⟩
    rw [List.length_map] at hlen2
    have MD := mat_of (H := H) (R := D) hlen2 nd2 s2 hrows2 hD
    have s2' : Same H (upd H2' D (.lst (as2.map V.ref))) := same_upd s2 (s2.free hD)
    generalize upd H2' D (.lst (as2.map V.ref)) = H3 at MD s2'
    intro p dx hp hdx hne
    refine ⟨p, dx, D, as2, rows, rfl, upd_same, MD.same (same_upd (same_new hdx) hp), W, fun aR asB aT aL aS H4 B kp frB => ⟨rfl, ?_⟩⟩
    have s4 : Same H H4 := s2'.trans (made_same hp hdx kp)
    have fr4 : ∀ c ∈ p :: aT :: aL :: aS :: aR :: asB, H c = none := fun c hc => by
      rcases List.mem_cons.mp hc with z | z
      · rw [z]; exact s2'.free hp
      · exact s2'.free (made_none (frB c z))
    refine ⟨_, rfl, _, _, rfl, .inl (M.same s4).sq, _, rfl, by omega, by omega, ?_⟩
    have en : (((as.map V.ref).length : Nat) : Int).toNat = rows.length := by rw [hl]; simp
    rw [en]
    refine for_range (fun i σ H2 => ∃ x4 : Option V, σ = [some (.ref R), some (.ref tA), some (.ref lA), some (.ref p), x4] ∧ BoardAt A.C H2 p dx aR asB aT aL aS ⟨rows, part ts rows.length i, part ls rows.length i, List.replicate rows.length 0, 0⟩ ∧ Same H H2) ⟨none, rfl, ?_, s4⟩ ?_ ?_
    · rw [part_zero, part_zero]
      exact B
    · rintro i σ H2 hi ⟨x4, rfl, B2, s5⟩
      have e0 : (0 + (i : Int)).toNat = i := by omega
      have tvi := tv i hi
      refine ⟨_, rfl, p, dx, _, rfl, B2.ob, (by rfl), _, rfl, _, rfl, _, rfl, _, _, _, _, rfl, rfl, s5.seq hT, at_ints (by omega) (by omega), p, dx, aR, asB, aT, aL, aS, _, _, _, rfl, B2, (by show (part ts rows.length i).length = rows.length; exact part_len tl (by omega)), by omega, by omega, ?_⟩
      rw [e0]
      have hr8 : ((rows.getD i []).length : Int) ≤ 8 := by rw [getD_get hi]; have := (wr _ (List.getElem_mem hi)).2.1; omega
      refine ⟨by omega, by omega, fun z => absurd ⟨by omega, by show _ < (rows.length : Int); omega⟩ z, fun _ z => absurd tvi z, fun _ _ => ?_⟩
      show _
      have B3 := B2.setT ((part ts rows.length i).set i (ts.getD i 0))
      rw [part_set tl hi] at B3
      dsimp only
      rw [part_set tl hi]
      have s6 : Same H (upd H2 aT (.lst ((part ts rows.length (i + 1)).map V.int))) := same_upd s5 (fr4 aT (by simp))
      refine ⟨_, rfl, p, dx, _, rfl, B3.ob, (by rfl), _, rfl, _, rfl, _, rfl, _, _, _, _, rfl, rfl, s6.seq hL, at_ints (by omega) (by omega), p, dx, aR, asB, aT, aL, aS, _, _, _, rfl, B3, (by show (part ls rows.length i).length = rows.length; exact part_len ll (by omega)), by omega, by omega, fun z => absurd ⟨by omega, by show _ < (rows.length : Int); omega⟩ z, fun _ z => ?_, fun _ _ => ?_⟩
      · exfalso
        rw [e0] at z
        have z' : 400 < (part ls rows.length i).sum + ls.getD i 0 := z
        rw [part_sum, ← take_sum_succ (by omega)] at z'
        have := lsum (i + 1) (by omega)
        omega
      · rw [e0]
        dsimp only
        rw [part_get ll hi, Int.zero_add (ls.getD i 0), part_set ll hi]
        refine ⟨_, rfl, ?_, same_upd s6 (fr4 aL (by simp))⟩
        exact B3.setL _
    · rintro σ H2 ⟨x4, rfl, B2, s5⟩
      rw [part_all tl, part_all ll] at B2
      exact ⟨_, rfl, q p dx aR asB aT aL aS H2 B2 s5 fr4⟩
theorem sc_turns_by : FnScope ["script", "rows"] ["script", "rows"] (defScope s_turns_by) := ⟨rfl, rfl, rfl, by decide +kernel, rfl, by decide +kernel, by decide +kernel⟩
theorem ok_turns_by (T : Txt K mg A) (G_drawn : FnOk P w K mg base CX0 1 A.f_drawn A.fd_drawn ["script", "k", "many"] (spDrawn K)) : FnOk P w K mg base CX0 2 A.f_turns_by A.fd_turns_by ["script", "rows"] (spTurns K) := by
  refine T.F_turns_by.ok sc_turns_by (fun vs H Q E h => ?_) (fun cdv A' outer s H vs Q E hr h => ?_)
  · obtain ⟨a, R, as, rows, ns, rfl, _⟩ := h
    rfl
  · obtain ⟨a, R, as, rows, ns, rfl, hS, M, W, q⟩ := h
    refine ⟨_, (pss_one (ps_ret (pe_comp (CompSc.of (N' := ["k", "script", "rows"]) (ix := [none, some 0, some 1]) rfl (by kernel_rfl)) rfl rfl rfl rfl (pi_range1 (by rfl) T.n_range (pa_cons (pe_callB (call_lenK (K := K) rfl) (by rfl) T.n_len PySem.boot_len (pa_cons (pv 1) pa_nil)) pa_nil)) (by exact fun _ _ _ _ _ => pf_nil) (by exact fun _ _ _ _ _ => (pe_call G_drawn (hr.mono (by decide)) (by rfl) T.m__law_drawn T.k__law_drawn T.b__law_drawn .nil pass0 (pa_cons (pv 1) (pa_cons (pe_op op_add pe_int (pv 0)) (pa_cons (pe_callB (call_lenK (K := K) rfl) (by rfl) T.n_len PySem.boot_len (pa_cons (pe_ix (ix_listK (K := K) rfl) (pv 2) (pv 0) (fun _ _ => rfl)) pa_nil)) pa_nil))))) (fun _ => rfl)))), ?_⟩
    obtain ⟨w1, w12, wr⟩ := id W
    have hl := M.reflen
    refine ⟨_, rfl, _, _, rfl, .inl M.sq, _, rfl, by omega, by omega, ?_⟩
    have en : (((as.map V.ref).length : Nat) : Int).toNat = rows.length := by rw [hl]; simp
    rw [en]
    refine comp_pure (ys := ((List.range rows.length).map fun (i : Nat) => drawn ns (260 + (0 + (i : Int))) ((rows.getD i []).length : Int)).map V.int) wk_range (by rw [List.length_map, List.length_range]; exact small12 (Nat.le_trans w12 (by decide))) (by simp) (fun j x y ex ey Q' q' => ?_) (fun D hD => ?_)
    · rw [List.getElem?_map] at ex ey
      rw [List.getElem?_map] at ey
      cases er : (List.range rows.length)[j]? with
      | none => rw [er] at ex; cases ex
      | some j' =>
        rw [er] at ex ey
        cases ex
        cases ey
        obtain ⟨hj1, hj2⟩ := List.getElem?_eq_some_iff.mp er
        rw [List.getElem_range] at hj2
        rw [List.length_range] at hj1
        subst hj2
        obtain ⟨c, hat, hc, _⟩ := M.at (z := 0 + (j : Int)) (by omega) (by omega)
        have e1 : (0 + (j : Int)).toNat = j := by omega
        rw [e1] at hc
        have hr1 : 1 ≤ (rows.getD j []).length := by rw [getD_get hj1]; exact (wr _ (List.getElem_mem hj1)).1
        have hlr : ((rows.getD j []).map V.int).length = (rows.getD j []).length := by simp
        refine ⟨_, rfl, _, rfl, _, _, rfl, rfl, _, rfl, _, rfl, _, _, _, _, rfl, rfl, M.sq, hat, _, _, rfl, .inl (SqL.of hc), a, ns, _, _, rfl, hS, by rw [hlr]; omega, by omega, by omega, ?_⟩
        rw [hlr]
        exact q'
    · refine q D _ hD ⟨by simp, fun i hi => ?_⟩
      have hr1 : 1 ≤ (rows.getD i []).length := by rw [getD_get hi]; exact (wr _ (List.getElem_mem hi)).1
      have eg : ((List.range rows.length).map fun (i : Nat) => drawn ns (260 + (0 + (i : Int))) ((rows.getD i []).length : Int)).getD i 0 = drawn ns (260 + (0 + (i : Int))) ((rows.getD i []).length : Int) := by
        rw [getD_get (by simpa using hi), List.getElem_map, List.getElem_range]
      rw [eg]
      exact ⟨drawn_nn _ _ (by omega), drawn_lt _ _ (by omega)⟩
theorem sc_step_by : FnScope ["rows", "turns", "lying", "counts", "at", "gone"] ["rows", "turns", "lying", "counts", "at"] (defScope s_step_by) := ⟨rfl, rfl, rfl, by decide +kernel, rfl, by decide +kernel, by decide +kernel⟩
theorem ok_step_by (T : Txt K mg A) : FnOk P w K mg base CX0 1 A.f_step_by A.fd_step_by ["rows", "turns", "lying", "counts", "at"] spStepBy := by
  refine T.F_step_by.ok sc_step_by (fun vs H Q E h => ?_) (fun cdv A' outer s H vs Q E hr h => ?_)
  · obtain ⟨R, as, tA, lA, cA, b, z, rfl, _⟩ := h
    rfl
  · obtain ⟨R, as, tA, lA, cA, b, z, rfl, S, O, z0, z1, q⟩ := h
    refine ⟨_, (pss_cons (ps_set (i := 5) sc_step_by.nd rfl (Or.inl rfl) (pe_ix (ix_listK (K := K) rfl) (pe_ix (ix_listK (K := K) rfl) (pv 0) (pv 4) (fun _ _ => rfl)) (pe_ix (ix_listK (K := K) rfl) (pv 1) (pv 4) (fun _ _ => rfl)) (fun _ _ => rfl)))
      (pss_cons (ps_asg (pe_op op_sub (pe_ix (ix_listK (K := K) rfl) (pv 2) (pv 4) (fun _ _ => rfl)) pe_int) (pg_sub (pv 2) (pv 4) set_list))
      (pss_cons (ps_asg (pe_op op_add (pe_ix (ix_listK (K := K) rfl) (pv 2) (pv 5) (fun _ _ => rfl)) pe_int) (pg_sub (pv 2) (pv 5) set_list))
      (pss_cons (ps_asg (pe_op op_mod (pe_op op_add (pe_ix (ix_listK (K := K) rfl) (pv 1) (pv 4) (fun _ _ => rfl)) pe_int) (pe_callB (call_lenK (K := K) rfl) (by rfl) T.n_len PySem.boot_len (pa_cons (pe_ix (ix_listK (K := K) rfl) (pv 0) (pv 4) (fun _ _ => rfl)) pa_nil))) (pg_sub (pv 1) (pv 4) set_list))
      (pss_one (ps_asg (pe_op op_add (pe_ix (ix_listK (K := K) rfl) (pv 3) (pv 4) (fun _ _ => rfl)) pe_int) (pg_sub (pv 3) (pv 4) set_list))))))), ?_⟩
    have hs : z.toNat < b.rows.length := by omega
    obtain ⟨t0, t1⟩ := O.T.2 z.toNat hs
    obtain ⟨x0, x1⟩ := exit_in O.W O.T hs
    obtain ⟨c, hat, hc, hca⟩ := S.M.at z0 z1
    have hlr : ((b.rows.getD z.toNat []).map V.int).length = (b.rows.getD z.toNat []).length := by simp
    have hr' := row_len O.W hs
    have zl : z < (b.loads.length : Int) := by rw [O.L]; exact z1
    have zt : z < (b.turns.length : Int) := by rw [O.T.1]; exact z1
    have zs : z < (b.steps.length : Int) := by rw [O.S]; exact z1
    refine ⟨_, rfl, _, rfl, _, _, _, _, rfl, rfl, S.M.sq, hat, _, rfl, _, rfl, _, _, _, _, rfl, rfl, SqL.of S.t, at_ints z0 zt, _, _, _, _, rfl, rfl, SqL.of hc, at_ints t0 t1, ?_⟩
    rw [show (b.rows.getD z.toNat []).getD (b.turns.getD z.toNat 0).toNat 0 = exitOf b.rows b.turns z.toNat from rfl]
    generalize hg : exitOf b.rows b.turns z.toNat = g at x0 x1
    refine ⟨_, rfl, _, rfl, _, _, _, _, rfl, rfl, SqL.of S.l, at_app z0 zl, _, _, rfl, rfl, _, rfl, _, rfl, lA, _, _, _, rfl, rfl, S.l, ixN_in z0 (by rw [List.length_map, List.length_append, List.length_singleton]; omega), ?_⟩
    rw [map_set_int, List.set_append_left _ _ (show z.toNat < b.loads.length by omega)]
    obtain ⟨j, x, hj, hx, hset⟩ := gone_set (l1 := b.loads.set z.toNat (b.loads.getD z.toNat 0 - 1)) (t := b.taken) (g := g) x0 (by rw [List.length_set, O.L]; exact x1)
    refine ⟨_, rfl, _, rfl, _, _, _, _, rfl, rfl, SqL.of upd_same, hx, _, _, rfl, rfl, _, rfl, _, rfl, lA, _, _, _, rfl, rfl, upd_same, hj, ?_⟩
    rw [map_set_int, hset, upd_upd]
    have el : (if g = -1 then b.loads.set z.toNat (b.loads.getD z.toNat 0 - 1) else (b.loads.set z.toNat (b.loads.getD z.toNat 0 - 1)).set g.toNat ((b.loads.set z.toNat (b.loads.getD z.toNat 0 - 1)).getD g.toNat 0 + 1)) ++ [if g = -1 then b.taken + 1 else b.taken] = (stepB b z.toNat).loads ++ [(stepB b z.toNat).taken] := by
      show _ = moveL b.loads z.toNat (exitOf b.rows b.turns z.toNat) ++ [moveT b.taken (exitOf b.rows b.turns z.toNat)]
      rw [hg]
      rfl
    rw [el]
    have nl := S.nR lA (by simp)
    have nt := S.nR tA (by simp)
    have nc := S.nR cA (by simp)
    have M1 : Mat (upd H lA (.lst (((stepB b z.toNat).loads ++ [(stepB b z.toNat).taken]).map V.int))) R as b.rows := S.M.upd nl
    have t1' : (upd H lA (.lst (((stepB b z.toNat).loads ++ [(stepB b z.toNat).taken]).map V.int))) tA = some (.lst (b.turns.map V.int)) := by rw [upd_ne S.tl]; exact S.t
    have c1' : (upd H lA (.lst (((stepB b z.toNat).loads ++ [(stepB b z.toNat).taken]).map V.int))) cA = some (.lst (b.steps.map V.int)) := by rw [upd_ne (Ne.symm S.lc)]; exact S.c
    have l1' : (upd H lA (.lst (((stepB b z.toNat).loads ++ [(stepB b z.toNat).taken]).map V.int))) lA = some (.lst (((stepB b z.toNat).loads ++ [(stepB b z.toNat).taken]).map V.int)) := upd_same
    have f1 : ∀ x, x ∉ tA :: lA :: cA :: R :: as → (upd H lA (.lst (((stepB b z.toNat).loads ++ [(stepB b z.toNat).taken]).map V.int))) x = H x := fun x hx => upd_ne (fun y => hx (by rw [y]; simp))
    generalize upd H lA (.lst (((stepB b z.toNat).loads ++ [(stepB b z.toNat).taken]).map V.int)) = H1 at M1 t1' c1' l1' f1
    obtain ⟨c2, hat2, hc2, _⟩ := M1.at z0 z1
    refine ⟨_, rfl, _, rfl, _, _, _, _, rfl, rfl, SqL.of t1', at_ints z0 zt, _, _, rfl, rfl, _, rfl, _, rfl, _, _, _, _, rfl, rfl, M1.sq, hat2, _, _, rfl, .inl (SqL.of hc2), _, _, rfl, rfl, by rw [hlr]; omega, _, rfl, _, rfl, tA, _, _, _, rfl, rfl, t1', ixN_in z0 (by rw [List.length_map]; exact zt), ?_⟩
    rw [hlr, map_set_int]
    refine ⟨_, rfl, _, rfl, _, _, _, _, rfl, rfl, SqL.of (by rw [upd_ne (Ne.symm S.tc)]; exact c1'), at_ints z0 zs, _, _, rfl, rfl, _, rfl, _, rfl, cA, _, _, _, rfl, rfl, by rw [upd_ne (Ne.symm S.tc)]; exact c1', ixN_in z0 (by rw [List.length_map]; exact zs), ?_⟩
    rw [map_set_int]
    refine q _ ⟨(M1.upd nt).upd nc, by rw [upd_ne S.tc, upd_same]; rfl, by rw [upd_ne S.lc, upd_ne (Ne.symm S.tl)]; exact l1', upd_same, S.tl, S.tc, S.lc, S.nR⟩ fun x hx => ?_
    rw [upd_ne (fun y => hx (by rw [y]; simp)), upd_ne (fun y => hx (by rw [y]; simp))]
    exact f1 x hx
theorem sc_step : FnScope ["board", "at", "row", "way"] ["board", "at"] (defScope s_step) := ⟨rfl, rfl, rfl, by decide +kernel, rfl, by decide +kernel, by decide +kernel⟩
theorem ok_step (T : Txt K mg A) (G_check_site : FnOk P w K mg base (CX1 P w) 1 A.f_check_site A.fd_check_site ["board", "at"] (spSite A.C A.c_NoSite)) : FnOk P w K mg base (CX1 P w) 2 A.f_step A.fd_step ["board", "at"] (spStep A.C A.c_NoSite A.c_NoMarble) := by
  refine T.F_step.okX sc_step (fun vs H Q E h => ?_) (fun cdv A' outer s H vs Q E hr h => ?_)
  · obtain ⟨p, dx, aR, as, aT, aL, aS, b, z, rfl, _⟩ := h
    rfl
  · obtain ⟨p, dx, aR, as, aT, aL, aS, b, z, rfl, B, O, z1, z2, q1, q2, q3⟩ := h
    refine ⟨_, (pss_cons (ps_expr (pe_call G_check_site (hr.mono (by decide)) (by rfl) T.m_check_site T.k_check_site T.b_check_site .nil passX (pa_cons (pv 0) (pa_cons (pv 1) pa_nil))))
      (pss_cons (ps_if (pt_cmpR op_lt (pe_ix (ix_listK (K := K) rfl) (pe_fldK (K := K) rfl (pv 0) rfl) (pv 1) (fun _ _ => rfl)) pe_int (nomark _))
        (pss_one (ps_raise raises_cx rfl (by rfl) T.m_NoMarble T.x_NoMarble (pa_cons (pe_fs (pj_str (by decide +kernel) (pj_int (pv 1) pj_nil)) (by decide)) pa_nil)))
        pss_nil)
      (pss_cons (ps_set (i := 2) sc_step.nd rfl (Or.inl rfl) (pe_ix (ix_listK (K := K) rfl) (pe_fldK (K := K) rfl (pv 0) rfl) (pv 1) (fun _ _ => rfl)))
      (pss_cons (ps_set (i := 3) sc_step.nd rfl (Or.inl rfl) (pe_ix (ix_listK (K := K) rfl) (pv 2) (pe_ix (ix_listK (K := K) rfl) (pe_fldK (K := K) rfl (pv 0) rfl) (pv 1) (fun _ _ => rfl)) (fun _ _ => rfl)))
      (pss_cons (ps_augS (pe_fldK (K := K) rfl (pv 0) rfl) (pv 1) (get_listK (K := K) rfl) pe_int ip_sub set_list)
      (pss_cons (ps_if (pt_cmpR op_eq (pv 3) (pe_glob (v := .int (-1)) (by rfl) T.g_PIT ⟨_, rfl⟩) (nomark _))
        (pss_one (ps_fldaug (pv 0) pe_int in_add))
        (pss_one (ps_augS (pe_fldK (K := K) rfl (pv 0) rfl) (pv 3) (get_listK (K := K) rfl) pe_int ip_add set_list)))
      (pss_cons (ps_asg (pe_op op_mod (pe_op op_add (pe_ix (ix_listK (K := K) rfl) (pe_fldK (K := K) rfl (pv 0) rfl) (pv 1) (fun _ _ => rfl)) pe_int) (pe_callB (call_lenK (K := K) rfl) (by rfl) T.n_len PySem.boot_len (pa_cons (pv 2) pa_nil))) (pg_sub (pe_fldK (K := K) rfl (pv 0) rfl) (pv 1) set_list))
      (pss_cons (ps_augS (pe_fldK (K := K) rfl (pv 0) rfl) (pv 1) (get_listK (K := K) rfl) pe_int ip_add set_list)
      (pss_one (ps_ret (pv 3))))))))))), ?_⟩
    have lg := log2_small z1 z2
    refine ⟨_, rfl, _, rfl, p, dx, aR, as, aT, aL, aS, b, z, rfl, B, z1, z2, fun hz => ?_, q1⟩
    have z0 := hz.1
    have hs : z.toNat < b.rows.length := by omega
    obtain ⟨t0, t1⟩ := O.T.2 z.toNat hs
    obtain ⟨x0, x1⟩ := exit_in O.W O.T hs
    obtain ⟨c, hat, hc, hca⟩ := B.mat.at hz.1 hz.2
    have hlr : ((b.rows.getD z.toNat []).map V.int).length = (b.rows.getD z.toNat []).length := by simp
    have hr' := row_len O.W hs
    have zl : z < (b.loads.length : Int) := by rw [O.L]; exact hz.2
    have zt : z < (b.turns.length : Int) := by rw [O.T.1]; exact hz.2
    have zs : z < (b.steps.length : Int) := by rw [O.S]; exact hz.2
    refine ⟨_, rfl, p, A.C, dx, _, _, rfl, B.ob, T.cl_Board, T.na_loads, bf_loads _ _ _ _ _, _, rfl, _, _, _, _, rfl, rfl, SqL.of B.hL, at_ints z0 zl, _, _, rfl, rfl, _, rfl, ?_⟩
    by_cases h1 : b.loads.getD z.toNat 0 < 1
    · rw [decide_eq_true h1]
      refine iteT ?_
      exact ⟨⟨_, rfl, _, rfl, lg, rfl, trivial⟩, fun x => ⟨small12 (by show 1 ≤ 100; decide), q2 hz h1⟩⟩
    rw [decide_eq_false h1]
    refine iteF ?_
    have h1' : 1 ≤ b.loads.getD z.toNat 0 := by omega
    refine ⟨_, rfl, p, A.C, dx, _, _, rfl, B.ob, T.cl_Board, T.na_rows, bf_rows _ _ _ _ _, _, rfl, _, _, _, _, rfl, rfl, B.mat.sq, hat, ?_⟩
    refine ⟨_, rfl, _, rfl, p, A.C, dx, _, _, rfl, B.ob, T.cl_Board, T.na_turns, bf_turns _ _ _ _ _, _, rfl, _, _, _, _, rfl, rfl, SqL.of B.hT, at_ints z0 zt, _, _, _, _, rfl, rfl, SqL.of hc, at_ints t0 t1, ?_⟩
    rw [show (b.rows.getD z.toNat []).getD (b.turns.getD z.toNat 0).toNat 0 = exitOf b.rows b.turns z.toNat from rfl]
    generalize hg : exitOf b.rows b.turns z.toNat = g at x0 x1 q3
    refine ⟨_, rfl, p, A.C, dx, _, _, rfl, B.ob, T.cl_Board, T.na_loads, bf_loads _ _ _ _ _, _, rfl, _, _, _, _, rfl, rfl, SqL.of B.hL, at_ints z0 zl, _, _, rfl, rfl, aL, _, _, _, rfl, rfl, B.hL, ixN_in z0 (by rw [List.length_map]; exact zl), ?_⟩
    rw [map_set_int]
    have B1 := B.setL (b.loads.set z.toNat (b.loads.getD z.toNat 0 - 1))
    have f1 : ∀ x, x ∉ p :: aT :: aL :: aS :: aR :: as → (upd H aL (.lst ((b.loads.set z.toNat (b.loads.getD z.toNat 0 - 1)).map V.int))) x = H x := fun x hx => upd_ne (fun y => hx (by rw [y]; simp))
    generalize upd H aL (.lst ((b.loads.set z.toNat (b.loads.getD z.toNat 0 - 1)).map V.int)) = H1 at B1 f1
    dsimp only [gName]
    refine seq_mk' (fun σ' H' => σ' = [some (.ref p), some (.int z), some (.ref c), some (.int g)] ∧ BoardAt A.C H' p dx aR as aT aL aS { b with loads := moveL b.loads z.toNat g, taken := moveT b.taken g } ∧ ∀ x, x ∉ p :: aT :: aL :: aS :: aR :: as → H' x = H x) ?rest (fun D1 rest => ?way)
    case way =>
      refine ⟨_, rfl, rfl, _, rfl, ?_⟩
      by_cases hp : g = -1
      · subst hp
        refine iteT ?_
        refine ⟨_, rfl, p, A.C, dx, _, _, rfl, B1.ob, T.cl_Board, T.na_taken, bf_taken _ _ _ _ _, _, _, rfl, rfl, dx, _, B1.ob, (by show 5 < 1000; decide), ?_⟩
        rw [putF_taken]
        exact rest _ _ ⟨rfl, B1.setP _, fun x hx => by rw [upd_ne (fun y => hx (by rw [y]; simp))]; exact f1 x hx⟩
      · have e : decide (V.int g = V.int (-1)) = false := decide_eq_false (fun w => hp (by injection w))
        rw [e]
        refine iteF ?_
        have gl : g < ((b.loads.set z.toNat (b.loads.getD z.toNat 0 - 1)).length : Int) := by rw [List.length_set, O.L]; exact x1
        have g0 : 0 ≤ g := by omega
        refine ⟨_, rfl, p, A.C, dx, _, _, rfl, B1.ob, T.cl_Board, T.na_loads, bf_loads _ _ _ _ _, _, rfl, _, _, _, _, rfl, rfl, SqL.of B1.hL, at_ints g0 gl, _, _, rfl, rfl, aL, _, _, _, rfl, rfl, B1.hL, ixN_in g0 (by rw [List.length_map]; exact gl), ?_⟩
        rw [map_set_int]
        have B2 := B1.setL ((b.loads.set z.toNat (b.loads.getD z.toNat 0 - 1)).set g.toNat ((b.loads.set z.toNat (b.loads.getD z.toNat 0 - 1)).getD g.toNat 0 + 1))
        refine rest _ _ ⟨rfl, ?_, fun x hx => by rw [upd_ne (fun y => hx (by rw [y]; simp))]; exact f1 x hx⟩
        have e1 : moveL b.loads z.toNat g = (b.loads.set z.toNat (b.loads.getD z.toNat 0 - 1)).set g.toNat ((b.loads.set z.toNat (b.loads.getD z.toNat 0 - 1)).getD g.toNat 0 + 1) := by unfold moveL; rw [if_neg hp]
        have e2 : moveT b.taken g = b.taken := by unfold moveT; rw [if_neg hp]
        rw [e1, e2]
        exact B2
    rintro σ' H' ⟨rfl, B2, f2⟩
    obtain ⟨c2, hat2, hc2, hca2⟩ := B2.mat.at (z := z) hz.1 hz.2
    rw [hca] at hca2
    cases hca2
    refine ⟨_, rfl, p, A.C, dx, _, _, rfl, B2.ob, T.cl_Board, T.na_turns, bf_turns _ _ _ _ _, _, rfl, _, _, _, _, rfl, rfl, SqL.of B2.hT, at_ints z0 zt, _, _, rfl, rfl, _, rfl, _, _, rfl, .inl (SqL.of hc2), _, _, rfl, rfl, by rw [hlr]; omega, _, rfl, p, A.C, dx, _, _, rfl, B2.ob, T.cl_Board, T.na_turns, bf_turns _ _ _ _ _, _, rfl, aT, _, _, _, rfl, rfl, B2.hT, ixN_in z0 (by rw [List.length_map]; exact zt), ?_⟩
    rw [hlr, map_set_int]
    have B3 := B2.setT (b.turns.set z.toNat ((b.turns.getD z.toNat 0 + 1) % ((b.rows.getD z.toNat []).length : Int)))
    refine ⟨_, rfl, p, A.C, dx, _, _, rfl, B3.ob, T.cl_Board, T.na_steps, bf_steps _ _ _ _ _, _, rfl, _, _, _, _, rfl, rfl, SqL.of B3.hS, at_ints z0 zs, _, _, rfl, rfl, aS, _, _, _, rfl, rfl, B3.hS, ixN_in z0 (by rw [List.length_map]; exact zs), ?_⟩
    rw [map_set_int]
    have B4 := B3.setS (b.steps.set z.toNat (b.steps.getD z.toNat 0 + 1))
    refine ⟨_, rfl, q3 hz h1' _ ?_ fun x hx => ?_⟩
    · have e : stepB b z.toNat = ⟨b.rows, b.turns.set z.toNat ((b.turns.getD z.toNat 0 + 1) % ((b.rows.getD z.toNat []).length : Int)), moveL b.loads z.toNat g, b.steps.set z.toNat (b.steps.getD z.toNat 0 + 1), moveT b.taken g⟩ := by rw [← hg]; rfl
      rw [e]
      exact B4
    · rw [upd_ne (fun y => hx (by rw [y]; simp)), upd_ne (fun y => hx (by rw [y]; simp))]
      exact f2 x hx
theorem sc_run_by : FnScope ["rows", "turns", "lying", "counts", "at"] ["rows", "turns", "lying", "counts"] (defScope s_run_by) := ⟨rfl, rfl, rfl, by decide +kernel, rfl, by decide +kernel, by decide +kernel⟩
theorem ok_run_by (T : Txt K mg A) (G_step_by : FnOk P w K mg base CX0 1 A.f_step_by A.fd_step_by ["rows", "turns", "lying", "counts", "at"] spStepBy) : FnOk P w K mg base CX0 2 A.f_run_by A.fd_run_by ["rows", "turns", "lying", "counts"] spRunBy := by
  refine T.F_run_by.ok sc_run_by (fun vs H Q E h => ?_) (fun cdv A' outer s H vs Q E hr h => ?_)
  · obtain ⟨R, as, tA, lA, cA, b, N, rfl, _⟩ := h
    rfl
  · obtain ⟨R, as, tA, lA, cA, b, N, rfl, S, O, RT, q⟩ := h
    refine ⟨_, (pss_cons (ps_set (i := 4) sc_run_by.nd rfl (Or.inl rfl) pe_int)
      (pss_one (ps_while PassesOwn.never (pt_cmpR op_lt (pv 4) (pe_callB (call_lenK (K := K) rfl) (by rfl) T.n_len PySem.boot_len (pa_cons (pv 0) pa_nil)) (nomark _))
        (pss_one (ps_if (pt_cmpR op_gt (pe_ix (ix_listK (K := K) rfl) (pv 2) (pv 4) (fun _ _ => rfl)) pe_int (nomark _))
          (pss_cons (ps_expr (pe_call G_step_by (hr.mono (by decide)) (by rfl) T.m__law_step_by T.k__law_step_by T.b__law_step_by .nil pass0 (pa_cons (pv 0) (pa_cons (pv 1) (pa_cons (pv 2) (pa_cons (pv 3) (pa_cons (pv 4) pa_nil)))))))
          (pss_one (ps_set (i := 4) sc_run_by.nd rfl (Or.inl rfl) pe_int)))
          (pss_one (ps_set (i := 4) sc_run_by.nd rfl (Or.inl rfl) (pe_op op_add (pv 4) pe_int)))))))), ?_⟩
    refine asg_lit ?_
    refine ⟨fun m σ H3 => ∃ (k z : Nat), k ≤ N ∧ z ≤ b.rows.length ∧ m = (N - k) * (b.rows.length + 1) + (b.rows.length - z) ∧ σ = [some (.ref R), some (.ref tA), some (.ref lA), some (.ref cA), some (.int (z : Int))] ∧ Lsts H3 R as tA lA cA (iterR k b) ∧ (∀ x, x ∉ tA :: lA :: cA :: R :: as → H3 x = H x) ∧ ∀ i, i < z → (iterR k b).loads.getD i 0 ≤ 0, ⟨_, 0, 0, Nat.zero_le _, Nat.zero_le _, rfl, rfl, S, fun _ _ => rfl, fun i hi => by omega⟩, ?_⟩
    rintro m σ H3 ⟨k, z, hk, hz, rfl, rfl, S3, f3, low⟩
    obtain ⟨O3, r3, _⟩ := O.iter k
    have hl := S3.M.reflen
    refine ⟨_, rfl, _, rfl, _, _, rfl, .inl S3.M.sq, _, _, rfl, rfl, _, rfl, ?_⟩
    rw [hl, r3]
    refine ite2 (fun h1 => ?_) (fun h1 => ?_)
    · have h1' : z < b.rows.length := by have := of_decide_eq_true h1; omega
      have z0 : (0 : Int) ≤ (z : Int) := by omega
      have zr : (z : Int) < ((iterR k b).rows.length : Int) := by rw [r3]; omega
      have zl : (z : Int) < ((iterR k b).loads.length : Int) := by rw [O3.L]; exact zr
      refine ⟨fun σ' H' => ∃ m', m' < (N - k) * (b.rows.length + 1) + (b.rows.length - z) ∧ ∃ (k z : Nat), k ≤ N ∧ z ≤ b.rows.length ∧ m' = (N - k) * (b.rows.length + 1) + (b.rows.length - z) ∧ σ' = [some (.ref R), some (.ref tA), some (.ref lA), some (.ref cA), some (.int (z : Int))] ∧ Lsts H' R as tA lA cA (iterR k b) ∧ (∀ x, x ∉ tA :: lA :: cA :: R :: as → H' x = H x) ∧ ∀ i, i < z → (iterR k b).loads.getD i 0 ≤ 0, fun _ _ h => h, ?_⟩
      refine ⟨_, rfl, _, rfl, _, _, _, _, rfl, rfl, SqL.of S3.l, at_app z0 zl, _, _, rfl, rfl, _, rfl, ?_⟩
      refine ite2 (fun h2 => ?_) (fun h2 => ?_)
      · have h2' : 0 < (iterR k b).loads.getD z 0 := by have := of_decide_eq_true h2; simpa using this
        have hd := head_laden (show z < (iterR k b).loads.length by omega) h2' low
        have hkN : k < N := by
          by_cases e : k = N
          · subst e
            rw [RT.done] at hd
            cases hd
          · omega
        refine ⟨_, rfl, _, rfl, _, rfl, _, rfl, _, rfl, R, as, tA, lA, cA, _, _, rfl, S3, O3, z0, zr, fun H4 S4 f4 => ?_⟩
        have e4 : stepB (iterR k b) (z : Int).toNat = iterR (k + 1) b := by
          show _ = nxt (iterR k b)
          rw [nxt_some hd]
          rfl
        rw [e4] at S4
        refine ⟨_, ?_, k + 1, 0, by omega, Nat.zero_le _, rfl, rfl, S4, fun x hx => (f4 x hx).trans (f3 x hx), fun i hi => by omega⟩
        have e5 : (N - k) * (b.rows.length + 1) = (N - (k + 1)) * (b.rows.length + 1) + (b.rows.length + 1) := by
          rw [show N - k = (N - (k + 1)) + 1 by omega, Nat.add_mul]
          omega
        omega
      · have h2' : ¬ 0 < (iterR k b).loads.getD z 0 := fun y => h2 (decide_eq_true (by simpa using y))
        refine ⟨_, rfl, _, _, rfl, rfl, ?_⟩
        refine ⟨_, ?_, k, z + 1, hk, h1', rfl, rfl, S3, f3, fun i hi => ?_⟩
        · omega
        · by_cases e : i = z
          · subst e; omega
          · exact low i (by omega)
    · have h1' : z = b.rows.length := by
        have : ¬ ((z : Int) < (b.rows.length : Int)) := fun y => h1 (decide_eq_true y)
        omega
      have hd : ladenL (iterR k b).loads = [] := laden_none fun i hi => low i (by rw [O3.L, r3] at hi; omega)
      have hkN : k = N := by
        by_cases e : k = N
        · exact e
        · exact absurd hd (RT.more k (by omega))
      subst hkN
      exact q H3 S3 f3
theorem sc_reached : FnScope ["rows", "known", "again", "at", "row"] ["rows"] (defScope s_reached) := ⟨rfl, rfl, rfl, by decide +kernel, rfl, by decide +kernel, by decide +kernel⟩
theorem ok_reached (T : Txt K mg A) : FnOk P w K mg base CX0 1 A.f_reached A.fd_reached ["rows"] (spReached K) := by
  refine T.F_reached.ok sc_reached (fun vs H Q E h => ?_) (fun cdv A' outer s H vs Q E hr h => ?_)
  · obtain ⟨R, as, rows, rfl, _⟩ := h
    rfl
  · obtain ⟨R, as, rows, rfl, M, w12, wi, wl, q⟩ := h
    have hu1 : _ + 1 < cLine := Nat.lt_of_le_of_lt (Nat.add_le_add_left (by decide : 1 ≤ 64) _) hr.units
    refine ⟨_, (pss_cons (ps_set (i := 1) sc_reached.nd rfl (Or.inr rfl) (pe_disp (pps_cons (pe_glob (v := .int (-1)) (by rfl) T.g_PIT ⟨_, rfl⟩) pe_bl pps_nil) rfl rfl (by simp) (by decide)))
      (pss_cons (ps_for PassesOwn.never rfl (pi_range1 (by rfl) T.n_range (pa_cons (pe_callB (call_lenK (K := K) rfl) (by rfl) T.n_len PySem.boot_len (pa_cons (pv 0) pa_nil)) pa_nil)) (pg_name (i := 2) sc_reached.nd rfl (Or.inl rfl))
        (pss_one (ps_for PassesOwn.never rfl (pi_enum (K := K) rfl (by rfl) T.n_enumerate (pa_cons (pv 0) pa_nil)) (pg_tup rfl (pgs_cons (pg_name (i := 3) sc_reached.nd rfl (Or.inl rfl)) (pgs_cons (pg_name (i := 4) sc_reached.nd rfl (Or.inl rfl)) pgs_nil)))
          (pss_one (ps_if (pt_val (pe_callB (call_anyK (K := K) rfl rfl) (by rfl) T.n_any PyProof.Rows.Boot.«any» (pa_cons (pe_comp (CompSc.of (N' := ["way", "known"]) (ix := [none, some 1]) rfl (by kernel_rfl)) rfl rfl rfl rfl (pi_listK (K := K) rfl (pv 4)) (by exact fun _ _ _ _ _ => pf_nil) (by exact fun _ _ _ _ _ => (pe_cmp (pc_din hu1 (pv 0) (pv 1)) (by with_unfolding_all rfl))) (fun _ => rfl)) pa_nil)))
            (pss_one (ps_dput hu1 (pv 1) (pv 3) pe_bl rfl))
            pss_nil)))))
      (pss_one (ps_ret (pe_comp (CompSc.of (N' := ["at", "known"]) (ix := [none, some 1]) rfl (by kernel_rfl)) rfl rfl rfl rfl (pi_range1 (by rfl) T.n_range (pa_cons (pe_callB (call_lenK (K := K) rfl) (by rfl) T.n_len PySem.boot_len (pa_cons (pv 0) pa_nil)) pa_nil)) (by exact fun _ _ _ _ _ => pf_nil) (by exact fun _ _ _ _ _ => (pe_cmp (pc_din hu1 (pv 0) (pv 1)) (by with_unfolding_all rfl))) (fun _ => rfl)))))), ?_⟩
    have hl := M.reflen
    refine fun kA hkA => ⟨upd_same, [(.inl (-1), .bl true)], rfl, by decide, ?_⟩
    rw [upd_upd]
    have s1 : Same H (upd H kA (.dK (mergeK [] [(.inl (-1), .bl true)]))) := same_new hkA
    have e1 : upd H kA (.dK (mergeK [] [(.inl (-1), .bl true)])) kA = some (.dK [(.inl (-1), .bl true)]) := upd_same
    generalize upd H kA (.dK (mergeK [] [(.inl (-1), .bl true)])) = H1 at s1 e1
    have M1 := M.same s1
    refine ⟨_, rfl, _, _, rfl, .inl M1.sq, _, rfl, by omega, by omega, ?_⟩
    have en : (((as.map V.ref).length : Nat) : Int).toNat = rows.length := by rw [hl]; simp
    rw [en]
    refine for_rangeN (fun j σ H2 => ∃ (kvs : List (Key × V)) (x2 x3 x4 : Option V), σ = [some (.ref R), some (.ref kA), x2, x3, x4] ∧ H2 kA = some (.dK kvs) ∧ Same H H2 ∧ kvs.length ≤ 1 + 12 * j ∧ kn kvs (-1) = true ∧ (∀ z, kn kvs z = true → z = -1 ∨ 0 ≤ z ∧ rch rows z.toNat = true) ∧ ∀ i, reachN rows j i = true → kn kvs (i : Int) = true)
      ⟨_, none, none, none, rfl, e1, s1, by decide, by decide, fun z hz => .inl (by unfold kn at hz; by_cases h : z = -1; exact h; rw [valV_neg (fun w => h (by injection w with w; exact w.symm)), valV_nil] at hz; cases hz), fun i hi => by cases hi⟩ ?_ ?_
    · rintro j σ H2 hj ⟨kvs, x2, x3, x4, rfl, e2, s2, n2, k1, ks, kc⟩ DD hDD
      have M2 := M.same s2
      refine ⟨_, rfl, R, _, rfl, M2.sq, ?_⟩
      refine for_enumN (fun i σ H3 => ∃ (kvs : List (Key × V)) (x3 x4 : Option V), σ = [some (.ref R), some (.ref kA), some (.int (0 + (j : Int))), x3, x4] ∧ H3 kA = some (.dK kvs) ∧ Same H H3 ∧ kvs.length ≤ 1 + 12 * j + i ∧ kn kvs (-1) = true ∧ (∀ z, kn kvs z = true → z = -1 ∨ 0 ≤ z ∧ rch rows z.toNat = true) ∧ (∀ i, reachN rows j i = true → kn kvs (i : Int) = true) ∧ ∀ i', i' < i → reachN rows (j + 1) i' = true → kn kvs (i' : Int) = true)
        ⟨kvs, x3, x4, rfl, e2, s2, n2, k1, ks, kc, fun i' h => by omega⟩ (fun i σ H3 _ ⟨_, _, _, _, _, s3, _⟩ => (M.same s3).sq) ?_ ?_
      · rintro i x σ H3 p hx ⟨kvs, x3, x4, rfl, e3, s3, n3, k1, ks, kc, kd⟩ hp D3 hD3
        obtain ⟨c, hi', rfl, ec, hc, _⟩ := (M.same s3).refs hx
        have s4 := same_new hp (o := .tup [.int (i : Int), .ref c])
        have e4 := s4 _ _ e3
        have hc4 := s4 _ _ hc
        refine ⟨p, _, rfl, SqT.of upd_same, rfl, _, _, rfl, _, _, rfl, rfl, ?_⟩
        have s14 := s3.trans s4
        generalize upd H3 p (.tup [.int (i : Int), .ref c]) = H4 at e4 hc4 s14
        have wrl := wl _ (List.getElem_mem hi')
        refine ⟨_, rfl, c, rfl, ⟨_, SqL.of hc4⟩, ?_⟩
        refine comp_pure (ys := ((rows[i]).map (kn kvs)).map V.bl) (wk_list (K := K) (SqL.of hc4)) (by rw [List.length_map]; exact small12 wrl) (by simp) (fun m x y ex ey Q' q' => ?_) (fun L hL => ?_)
        · rw [List.getElem?_map] at ex ey
          rw [List.getElem?_map] at ey
          cases er : (rows[i])[m]? with
          | none => rw [er] at ex; cases ex
          | some e =>
            rw [er] at ex ey
            cases ex
            cases ey
            exact ⟨_, rfl, _, rfl, kA, _, rfl, DGet.k (k := .inl e) e4, q'⟩
        refine ⟨L, (rows[i]).map (kn kvs), rfl, SqL.of upd_same, _, rfl, ?_⟩
        have s5 : Same H (upd H4 L (.lst (((rows[i]).map (kn kvs)).map V.bl))) := same_upd s14 (s14.free hL)
        have e5 := same_new hL (o := .lst (((rows[i]).map (kn kvs)).map V.bl)) _ _ e4
        generalize upd H4 L (.lst (((rows[i]).map (kn kvs)).map V.bl)) = H5 at s5 e5
        have gi : rows.getD i [] = rows[i] := getD_get hi'
        refine ite2 (fun ha => ?_) (fun ha => ?_)
        · obtain ⟨b', hb', hb1⟩ := List.any_eq_true.mp ha
          obtain ⟨e, he, rfl⟩ := List.mem_map.mp hb'
          have hri : rch rows i = true := rch_step (by rw [gi]; exact he) (ks e hb1)
          refine ⟨_, rfl, _, rfl, kA, _, rfl, DPut.k (k := .inl (i : Int)) e5 (small1000 (by omega)), ?_⟩
          refine hD3 _ _ ⟨_, _, _, rfl, upd_same, ?_, ?_, ?_, fun z hz => ?_, fun i' h' => ?_, fun i' hi2 h' => ?_⟩
          · intro b o hb
            rw [upd_ne (ne_of_none hb hkA)]
            exact s5 b o hb
          · have := length_putK kvs (.inl (i : Int)) (.bl true)
            omega
          · rw [kn_put, k1, Bool.or_true]
          · rw [kn_put, Bool.or_eq_true] at hz
            rcases hz with hz | hz
            · rw [of_decide_eq_true hz]
              exact .inr ⟨by omega, by simpa using hri⟩
            · exact ks z hz
          · rw [kn_put, kc i' h', Bool.or_true]
          · rw [kn_put]
            by_cases hii : i' = i
            · subst hii; simp
            · rw [kd i' (by omega) h', Bool.or_true]
        · refine hD3 _ _ ⟨kvs, _, _, rfl, e5, s5, by omega, k1, ks, kc, fun i' hi2 h' => ?_⟩
          by_cases hii : i' = i
          · subst hii
            exfalso
            apply ha
            rw [reachN] at h'
            obtain ⟨e, he, q'⟩ := List.any_eq_true.mp h'
            rw [gi] at he
            refine List.any_eq_true.mpr ⟨_, List.mem_map.mpr ⟨e, he, rfl⟩, ?_⟩
            rw [Bool.or_eq_true, Bool.and_eq_true] at q'
            show kn kvs e = true
            rcases q' with q' | ⟨q1, q2⟩
            · rw [eq_of_beq q']; exact k1
            · have := kc _ q2
              rw [show ((e.toNat : Nat) : Int) = e by have := of_decide_eq_true q1; omega] at this
              exact this
          · exact kd i' (by omega) h'
      · rintro σ H3 ⟨kvs, x3, x4, rfl, e3, s3, n3, k1, ks, kc, kd⟩
        refine hDD _ _ ⟨kvs, _, _, _, rfl, e3, s3, by rw [M.reflen] at n3; omega, k1, ks, fun i h' => ?_⟩
        exact kd i (by rw [M.reflen]; exact reachN_lt h') h'
    · rintro σ H2 ⟨kvs, x2, x3, x4, rfl, e2, s2, n2, k1, ks, kc⟩
      have M2 := M.same s2
      refine ⟨_, rfl, _, _, rfl, .inl M2.sq, _, rfl, by omega, by omega, ?_⟩
      rw [en]
      refine comp_pure (ys := (reachL rows).map V.bl) wk_range (by rw [List.length_map, List.length_range]; exact small12 (by omega)) (by rw [List.length_map, List.length_map, List.length_range, reachL_len]) (fun j x y ex ey Q' q' => ?_) (fun L hL => ?_)
      · have hj : j < rows.length := by
          have := (List.getElem?_eq_some_iff.mp ey).1
          rw [List.length_map, reachL_len] at this
          exact this
        rw [bools_get (reachL_get hj)] at ey
        cases ey
        rw [List.getElem?_map, List.getElem?_range hj] at ex
        cases ex
        refine ⟨_, rfl, _, rfl, kA, _, rfl, DGet.k (k := .inl (0 + (j : Int))) e2, ?_⟩
        have ek : (valV kvs (Sum.inl (0 + (j : Int)) : Key)).isSome = rch rows j := by
          rw [show (0 + (j : Int)) = (j : Int) by omega]
          show kn kvs (j : Int) = _
          rw [Bool.eq_iff_iff]
          constructor
          · intro z
            rcases ks _ z with z | ⟨_, z⟩
            · omega
            · simpa using z
          · exact kc j
        rw [ek]
        exact q'
      · exact q L _ (same_upd s2 (s2.free hL)) (s2.free hL) upd_same
theorem sc_is_open : FnScope ["board"] ["board"] (defScope s_is_open) := ⟨rfl, rfl, rfl, by decide +kernel, rfl, by decide +kernel, by decide +kernel⟩
theorem ok_is_open (T : Txt K mg A) (G_reached : FnOk P w K mg base CX0 1 A.f_reached A.fd_reached ["rows"] (spReached K)) : FnOk P w K mg base CX0 2 A.f_is_open A.fd_is_open ["board"] (spOpen A.C) := by
  refine T.F_is_open.ok sc_is_open (fun vs H Q E h => ?_) (fun cdv A' outer s H vs Q E hr h => ?_)
  · obtain ⟨p, dx, aR, as, aT, aL, aS, b, rfl, _⟩ := h
    rfl
  · obtain ⟨p, dx, aR, as, aT, aL, aS, b, rfl, B, w12, wi, wl, q⟩ := h
    refine ⟨_, (pss_one (ps_ret (pe_callB (call_allK (K := K) rfl rfl) (by rfl) T.n_all PyProof.Rows.Boot.«all» (pa_cons (pe_call G_reached (hr.mono (by decide)) (by rfl) T.m_reached T.k_reached T.b_reached .nil pass0 (pa_cons (pe_fldK (K := K) rfl (pv 0) rfl) pa_nil)) pa_nil)))), ?_⟩
    exact ⟨_, rfl, p, A.C, dx, _, _, rfl, B.ob, T.cl_Board, T.na_rows, bf_rows _ _ _ _ _, aR, as, b.rows, rfl, B.mat, w12, wi, wl, fun l H' s' hl el => ⟨l, _, rfl, SqL.of el, q H' s'⟩⟩
theorem sc_check_open : FnScope ["board"] ["board"] (defScope s_check_open) := ⟨rfl, rfl, rfl, by decide +kernel, rfl, by decide +kernel, by decide +kernel⟩
theorem ok_check_open (T : Txt K mg A) (G_is_open : FnOk P w K mg base CX0 2 A.f_is_open A.fd_is_open ["board"] (spOpen A.C)) : FnOk P w K mg base (CX1 P w) 3 A.f_check_open A.fd_check_open ["board"] (spChkO A.C A.c_NotOpen) := by
  refine T.F_check_open.okX sc_check_open (fun vs H Q E h => ?_) (fun cdv A' outer s H vs Q E hr h => ?_)
  · obtain ⟨p, dx, aR, as, aT, aL, aS, b, rfl, _⟩ := h
    rfl
  · obtain ⟨p, dx, aR, as, aT, aL, aS, b, rfl, B, W, q1, q2⟩ := h
    refine ⟨_, (pss_one (ps_if (pt_not (pt_val (pe_call G_is_open (hr.mono (by decide)) (by rfl) T.m_is_open T.k_is_open T.b_is_open .nil pass0 (pa_cons (pv 0) pa_nil))))
        (pss_one (ps_raise raises_cx rfl (by rfl) T.m_NotOpen T.x_NotOpen (pa_cons pe_str pa_nil)))
        pss_nil)), ?_⟩
    refine ⟨_, rfl, p, dx, aR, as, aT, aL, aS, b, rfl, B, W.2.1, W.ins, fun r hr => by have := (W.2.2 r hr).2.1; omega, fun H' s' => ⟨_, rfl, ?_⟩⟩
    cases e : (reachL b.rows).all id with
    | true => exact iteF (q1 e H' s')
    | false =>
      refine iteT ?_
      exact ⟨small12 (by show 1 ≤ 100; decide), q2 e H' s'⟩
theorem sc_is_tree : FnScope ["board"] ["board"] (defScope s_is_tree) := ⟨rfl, rfl, rfl, by decide +kernel, rfl, by decide +kernel, by decide +kernel⟩
theorem ok_is_tree (T : Txt K mg A) (G_reached : FnOk P w K mg base CX0 1 A.f_reached A.fd_reached ["rows"] (spReached K)) (G_last_exit : FnOk P w K mg base (CX1 P w) 2 A.f_last_exit A.fd_last_exit ["board", "at"] (spLast A.C A.c_NoSite)) : FnOk P w K mg base CX0 3 A.f_is_tree A.fd_is_tree ["board"] (spTree A.C) := by
  refine T.F_is_tree.ok sc_is_tree (fun vs H Q E h => ?_) (fun cdv A' outer s H vs Q E hr h => ?_)
  · obtain ⟨p, dx, aR, as, aT, aL, aS, b, rfl, _⟩ := h
    rfl
  · obtain ⟨p, dx, aR, as, aT, aL, aS, b, rfl, B, hT, W, q⟩ := h
    refine ⟨_, (pss_one (ps_ret (pe_callB (call_allK (K := K) rfl rfl) (by rfl) T.n_all PyProof.Rows.Boot.«all» (pa_cons (pe_call G_reached (hr.mono (by decide)) (by rfl) T.m_reached T.k_reached T.b_reached .nil pass0 (pa_cons (pe_comp (CompSc.of (N' := ["at", "board"]) (ix := [none, some 0]) rfl (by kernel_rfl)) rfl rfl rfl rfl (pi_range1 (by rfl) T.n_range (pa_cons (pe_callB (call_lenK (K := K) rfl) (by rfl) T.n_len PySem.boot_len (pa_cons (pe_fldK (K := K) rfl (pv 0) rfl) pa_nil)) pa_nil)) (by exact fun _ _ _ _ _ => pf_nil) (by exact fun _ _ _ _ _ => (pe_lst (pa_cons (pe_call G_last_exit (hr.mono (by decide)) (by rfl) T.m_last_exit T.k_last_exit T.b_last_exit .nil passE0 (pa_cons (pv 1) (pa_cons (pv 0) pa_nil))) pa_nil))) (fun _ => rfl)) pa_nil)) pa_nil)))), ?_⟩
    obtain ⟨w1, w12, wr⟩ := id W
    have hl := B.mat.reflen
    have en : (((as.map V.ref).length : Nat) : Int).toNat = b.rows.length := by rw [hl]; simp
    refine ⟨_, rfl, p, A.C, dx, _, _, rfl, B.ob, T.cl_Board, T.na_rows, bf_rows _ _ _ _ _, _, _, rfl, .inl B.mat.sq, _, rfl, by omega, by omega, ?_⟩
    rw [en]
    refine comp_news (ls := (lastRows b.rows b.turns).map fun r => r.map V.int) wk_range (by rw [List.length_map, List.length_range]; exact small12 (by omega)) (by rw [List.length_map, lastRows_len, List.length_map, List.length_range]) (fun i x l H3 ex el s3 Q' q' => ?_) (fun as2 H2' sz hlen nd fr hrows D hD => ?_)
    · have hi : i < b.rows.length := by
        have := (List.getElem?_eq_some_iff.mp el).1
        rw [List.length_map, lastRows_len] at this
        exact this
      rw [List.getElem?_map, List.getElem?_range hi] at ex
      cases ex
      unfold lastRows at el
      rw [List.getElem?_map, List.getElem?_map, List.getElem?_range hi] at el
      cases el
      have e0 : (0 + (i : Int)).toNat = i := by omega
      obtain ⟨t0, t1⟩ := hT.2 i hi
      refine ⟨_, rfl, _, rfl, p, dx, aR, as, aT, aL, aS, b, _, rfl, B.same s3, hT.1, by omega, by omega, fun _ => ?_, fun z => absurd ⟨by omega, by omega⟩ z⟩
      rw [e0]
      exact ⟨t0, t1, small12 (by show 1 ≤ 100; decide), q'⟩
    rw [List.length_map] at hlen
    have MD := mat_of (H := H) (R := D) hlen nd sz hrows hD
    have sD : Same H (upd H2' D (.lst (as2.map V.ref))) := same_upd sz (sz.free hD)
    refine ⟨D, as2, _, rfl, MD, by rw [lastRows_len]; exact w12, lastRows_ins W hT, fun r hr' => ?_, fun l H' s' hl el => ⟨l, _, rfl, SqL.of el, q H' (sD.trans s')⟩⟩
    obtain ⟨i, _, rfl⟩ := List.mem_map.mp hr'
    show 1 ≤ 100
    decide
theorem sc_treed : FnScope ["rows", "turns", "at", "here", "lap"] ["rows", "turns"] (defScope s_treed) := ⟨rfl, rfl, rfl, by decide +kernel, rfl, by decide +kernel, by decide +kernel⟩
theorem ok_treed (T : Txt K mg A) : FnOk P w K mg base CX0 1 A.f_treed A.fd_treed ["rows", "turns"] (spTreed K) := by
  refine T.F_treed.ok sc_treed (fun vs H Q E h => ?_) (fun cdv A' outer s H vs Q E hr h => ?_)
  · obtain ⟨R, tA, as, rows, ts, rfl, _⟩ := h
    rfl
  · obtain ⟨R, tA, as, rows, ts, rfl, M, ht, hT, W, q⟩ := h
    refine ⟨_, (pss_cons (ps_for PassesOwn.never rfl (pi_range1 (by rfl) T.n_range (pa_cons (pe_callB (call_lenK (K := K) rfl) (by rfl) T.n_len PySem.boot_len (pa_cons (pv 0) pa_nil)) pa_nil)) (pg_name (i := 2) sc_treed.nd rfl (Or.inl rfl))
        (pss_cons (ps_set (i := 3) sc_treed.nd rfl (Or.inl rfl) (pv 2))
        (pss_cons (ps_for PassesOwn.never rfl (pi_range1 (by rfl) T.n_range (pa_cons (pe_callB (call_lenK (K := K) rfl) (by rfl) T.n_len PySem.boot_len (pa_cons (pv 0) pa_nil)) pa_nil)) (pg_name (i := 4) sc_treed.nd rfl (Or.inl rfl))
          (pss_one (ps_if (pt_cmpR op_ge (pv 3) pe_int (nomark _))
            (pss_one (ps_set (i := 3) sc_treed.nd rfl (Or.inl rfl) (pe_ix (ix_listK (K := K) rfl) (pe_ix (ix_listK (K := K) rfl) (pv 0) (pv 3) (fun _ _ => rfl)) (pe_op op_sub (pe_ix (ix_listK (K := K) rfl) (pv 1) (pv 3) (fun _ _ => rfl)) pe_int) (fun _ _ => rfl))))
            pss_nil)))
        (pss_one (ps_if (pt_cmpR op_ge (pv 3) pe_int (nomark _))
          (pss_one (ps_ret pe_bl))
          pss_nil)))))
      (pss_one (ps_ret pe_bl))), ?_⟩
    obtain ⟨w1, w12, wr⟩ := id W
    have hl := M.reflen
    have en : (((as.map V.ref).length : Nat) : Int).toNat = rows.length := by rw [hl]; simp
    refine ⟨_, rfl, _, _, rfl, .inl M.sq, _, rfl, by omega, by omega, ?_⟩
    rw [en]
    refine for_range (fun i σ H2 => ∃ x2 x3 x4 : Option V, σ = [some (.ref R), some (.ref tA), x2, x3, x4] ∧ H = H2 ∧ ∀ j, j < i → walkN rows ts rows.length (j : Int) < 0) ⟨none, none, none, rfl, rfl, fun j h => by omega⟩ ?_ ?_
    · rintro i σ H2 hi ⟨x2, x3, x4, rfl, rfl, ih⟩
      refine ⟨_, rfl, ?_⟩
      refine ⟨_, rfl, _, _, rfl, .inl M.sq, _, rfl, by omega, by omega, ?_⟩
      rw [en]
      refine for_rangeN (fun m σ H3 => ∃ x4 : Option V, σ = [some (.ref R), some (.ref tA), some (.int (0 + (i : Int))), some (.int (walkN rows ts m (0 + (i : Int)))), x4] ∧ H = H3) ⟨_, rfl, rfl⟩ ?_ ?_
      · rintro m σ H3 hm ⟨y4, rfl, rfl⟩ DD hDD
        have hb := walk_bd W hT m (0 + (i : Int)) (by omega) (by omega)
        refine ⟨_, rfl, _, _, rfl, rfl, _, rfl, ?_⟩
        have ew : walkN rows ts (m + 1) (0 + (i : Int)) = goOn rows ts (walkN rows ts m (0 + (i : Int))) := rfl
        generalize hz : walkN rows ts m (0 + (i : Int)) = z at hb ew
        refine ite2 (fun hc => ?_) (fun hc => ?_)
        · have h0 : 0 ≤ z := of_decide_eq_true hc
          obtain ⟨c, hat, hc', _⟩ := M.at (z := z) h0 hb.2
          obtain ⟨t0, t1⟩ := hT.2 z.toNat (by omega)
          refine ⟨_, rfl, _, rfl, _, _, _, .ref c, rfl, rfl, M.sq, hat, _, rfl, _, rfl, _, _, _, _, rfl, rfl, ht, at_ints h0 (by rw [hT.1]; exact hb.2), _, _, rfl, rfl, _, _, _, _, rfl, rfl, SqL.of hc', lastx_at t0 t1, ?_⟩
          refine hDD _ _ ⟨some (.int (0 + (m : Int))), ?_, rfl⟩
          rw [ew]
          unfold goOn
          rw [if_pos h0]
          rfl
        · have h0 : ¬ 0 ≤ z := fun y => hc (decide_eq_true y)
          refine hDD _ _ ⟨some (.int (0 + (m : Int))), ?_, rfl⟩
          rw [ew]
          unfold goOn
          rw [if_neg h0]
          rfl
      · rintro σ H3 ⟨y4, rfl, rfl⟩
        refine ⟨_, rfl, _, _, rfl, rfl, _, rfl, ?_⟩
        rw [show (0 + (i : Int)) = (i : Int) by omega]
        refine ite2 (fun hc => ?_) (fun hc => ?_)
        · have h0 := of_decide_eq_true hc
          have e : treeB rows ts = false := by
            cases hb : treeB rows ts with
            | false => rfl
            | true => have := (tree_all W hT).mp hb i hi; omega
          rw [e] at q
          exact q
        · refine ⟨_, _, _, rfl, rfl, fun j hj => ?_⟩
          by_cases hji : j = i
          · subst hji
            have : ¬ 0 ≤ walkN rows ts rows.length (j : Int) := fun y => hc (decide_eq_true y)
            omega
          · exact ih j (by omega)
    · rintro σ H2 ⟨x2, x3, x4, rfl, rfl, ih⟩
      rw [(tree_all W hT).mpr ih] at q
      exact q
theorem sc_Bstand_like : FnScope ["self", "other"] ["self", "other"] (defScope s_Bstand_like) := ⟨rfl, rfl, rfl, by decide +kernel, rfl, by decide +kernel, by decide +kernel⟩
theorem ok_Bstand_like (T : Txt K mg A) : FnOk P w K mg base CX0 1 A.f_Bstand_like A.fd_Bstand_like ["self", "other"] (spLike A.C) := by
  refine T.F_Bstand_like.ok sc_Bstand_like (fun vs H Q E h => ?_) (fun cdv A' outer s H vs Q E hr h => ?_)
  · obtain ⟨p, dx, aR, as, aT, aL, aS, b, p2, dx2, aR2, as2, aT2, aL2, aS2, b2, rfl, _⟩ := h
    rfl
  · obtain ⟨p, dx, aR, as, aT, aL, aS, b, p2, dx2, aR2, as2, aT2, aL2, aS2, b2, rfl, B, B2, hpp, q⟩ := h
    refine ⟨_, (pss_cons (ps_fldK (K := K) rfl (pv 0) (pe_callTy (call_listK (K := K) rfl) (by rfl) T.n_list PyProof.Rows.Boot.«list» (pa_cons (pe_fldK (K := K) rfl (pv 1) rfl) pa_nil)) rfl)
      (pss_cons (ps_fldK (K := K) rfl (pv 0) (pe_callTy (call_listK (K := K) rfl) (by rfl) T.n_list PyProof.Rows.Boot.«list» (pa_cons (pe_fldK (K := K) rfl (pv 1) rfl) pa_nil)) rfl)
      (pss_cons (ps_fldK (K := K) rfl (pv 0) (pe_callTy (call_listK (K := K) rfl) (by rfl) T.n_list PyProof.Rows.Boot.«list» (pa_cons (pe_fldK (K := K) rfl (pv 1) rfl) pa_nil)) rfl)
      (pss_one (ps_fldK (K := K) rfl (pv 0) (pe_fldK (K := K) rfl (pv 1) rfl) rfl))))), ?_⟩
    have np := ins_not B.ob B2 hpp
    refine ⟨_, rfl, p2, A.C, dx2, _, _, rfl, B2.ob, T.cl_Board, T.na_turns, bf_turns _ _ _ _ _, _, _, rfl, .inl (SqL.of B2.hT), fun n1 hn1 => ⟨_, rfl, p, A.C, dx, _, rfl, (same_new hn1) _ _ B.ob, T.cl_Board, T.na_turns, (by show 5 < 1000; decide), ?_⟩⟩
    rw [putF_turns]
    have B3 := B.newT hn1 b2.turns
    have k3 := (But.refl p H).new (o := .lst (b2.turns.map V.int)) (o' := .ins A.C dx (bflds aR n1 aL aS b.taken)) hn1
    have C3 := k3.board B2 np
    generalize upd (upd H n1 (.lst (b2.turns.map V.int))) p (.ins A.C dx (bflds aR n1 aL aS b.taken)) = H3 at B3 k3 C3
    refine ⟨_, rfl, p2, A.C, dx2, _, _, rfl, C3.ob, T.cl_Board, T.na_loads, bf_loads _ _ _ _ _, _, _, rfl, .inl (SqL.of C3.hL), fun n2 hn2 => ⟨_, rfl, p, A.C, dx, _, rfl, (same_new hn2) _ _ B3.ob, T.cl_Board, T.na_loads, (by show 5 < 1000; decide), ?_⟩⟩
    rw [putF_loads]
    have n2p : n2 ≠ p := fun z => by rw [z, B3.ob] at hn2; cases hn2
    have n2H := k3.free hn2 n2p
    have B4 := B3.newL hn2 b2.loads
    have k4 := k3.new (o := .lst (b2.loads.map V.int)) (o' := .ins A.C dx (bflds aR n1 n2 aS b.taken)) hn2
    have C4 := k4.board B2 np
    dsimp only at B4 ⊢
    generalize upd (upd H3 n2 (.lst (b2.loads.map V.int))) p (.ins A.C dx (bflds aR n1 n2 aS b.taken)) = H4 at B4 k4 C4
    refine ⟨_, rfl, p2, A.C, dx2, _, _, rfl, C4.ob, T.cl_Board, T.na_steps, bf_steps _ _ _ _ _, _, _, rfl, .inl (SqL.of C4.hS), fun n3 hn3 => ⟨_, rfl, p, A.C, dx, _, rfl, (same_new hn3) _ _ B4.ob, T.cl_Board, T.na_steps, (by show 5 < 1000; decide), ?_⟩⟩
    rw [putF_steps]
    have n3p : n3 ≠ p := fun z => by rw [z, B4.ob] at hn3; cases hn3
    have n3H := k4.free hn3 n3p
    have B5 := B4.newS hn3 b2.steps
    have k5 := k4.new (o := .lst (b2.steps.map V.int)) (o' := .ins A.C dx (bflds aR n1 n2 n3 b.taken)) hn3
    have C5 := k5.board B2 np
    dsimp only at B5 ⊢
    generalize upd (upd H4 n3 (.lst (b2.steps.map V.int))) p (.ins A.C dx (bflds aR n1 n2 n3 b.taken)) = H5 at B5 k5 C5
    refine ⟨_, rfl, p2, A.C, dx2, _, _, rfl, C5.ob, T.cl_Board, T.na_taken, bf_taken _ _ _ _ _, _, rfl, p, A.C, dx, _, rfl, B5.ob, T.cl_Board, T.na_taken, (by show 5 < 1000; decide), ?_⟩
    rw [putF_taken]
    refine q n1 n2 n3 _ (B5.setP b2.taken) (fun x o hx e => ?_) hn1 n2H n3H
    rw [upd_ne hx]
    exact k5 x o hx e
theorem sc_Btwin : FnScope ["self", "other"] ["self"] (defScope s_Btwin) := ⟨rfl, rfl, rfl, by decide +kernel, rfl, by decide +kernel, by decide +kernel⟩
theorem ok_Btwin (T : Txt K mg A) (G_i_Board : FnOk P w K mg base CX0 3 A.f_Binit A.fd_Binit ["self", "rows"] (spInit A.C)) (G_stand_like : FnOk P w K mg base CX0 1 A.f_Bstand_like A.fd_Bstand_like ["self", "other"] (spLike A.C)) : FnOk P w K mg base CX0 5 A.f_Btwin A.fd_Btwin ["self"] (spTwin A.C) := by
  refine T.F_Btwin.ok sc_Btwin (fun vs H Q E h => ?_) (fun cdv A' outer s H vs Q E hr h => ?_)
  · obtain ⟨p, dx, aR, as, aT, aL, aS, b, rfl, _⟩ := h
    rfl
  · obtain ⟨p, dx, aR, as, aT, aL, aS, b, rfl, B, W, q⟩ := h
    refine ⟨_, (pss_cons (ps_set (i := 1) sc_Btwin.nd rfl (Or.inl rfl) (pe_make T.mk_Board G_i_Board (hr.mono (by decide)) (by rfl) T.m_Board T.bi_Board .nil pass0 (pa_cons (pe_fldK (K := K) rfl (pv 0) rfl) pa_nil)))
      (pss_cons (ps_expr (pe_meth (pv 1) T.cl_Board T.mt_stand_like G_stand_like (hr.mono (by decide)) T.bm_stand_like .nil pass0 (pa_cons (pv 0) pa_nil)))
      (pss_one (ps_ret (pv 1))))), ?_⟩
    refine ⟨_, rfl, p, A.C, dx, _, _, rfl, B.ob, T.cl_Board, T.na_rows, bf_rows _ _ _ _ _, ?_⟩
    intro p' dx' hp hdx hne
    refine ⟨p', dx', aR, as, b.rows, rfl, upd_same, B.mat.same (same_upd (same_new hdx) hp), W, fun aR' as' aT' aL' aS' H4 B4 kp frB => ⟨rfl, ?_⟩⟩
    have s4 : Same H H4 := made_same hp hdx kp
    have fr4 : ∀ c ∈ p' :: aT' :: aL' :: aS' :: aR' :: as', H c = none := fun c hc => by
      rcases List.mem_cons.mp hc with z | z
      · rw [z]; exact hp
      · exact made_none (frB c z)
    have hpp : p' ≠ p := fun z => by rw [z, B.ob] at hp; cases hp
    refine ⟨_, rfl, p', dx', _, rfl, B4.ob, (by rfl), _, rfl, p', dx', aR', as', aT', aL', aS', _, p, dx, aR, as, aT, aL, aS, b, rfl, B4, B.same s4, hpp, fun n1 n2 n3 H5 B5 k5 e1 e2 e3 => ?_⟩
    refine ⟨_, rfl, q p' dx' aR' as' n1 n2 n3 H5 B5 (k5.same s4 hp) fun c hc => ?_⟩
    simp only [List.mem_cons] at hc
    rcases hc with rfl | rfl | rfl | rfl | hc
    · exact hp
    · exact s4.free e1
    · exact s4.free e2
    · exact s4.free e3
    · exact fr4 c (by simp only [List.mem_cons]; exact .inr (.inr (.inr (.inr hc))))
theorem sc_loaded : FnScope ["board"] ["board"] (defScope s_loaded) := ⟨rfl, rfl, rfl, by decide +kernel, rfl, by decide +kernel, by decide +kernel⟩
theorem ok_loaded (T : Txt K mg A) : FnOk P w K mg base CX0 1 A.f_loaded A.fd_loaded ["board"] (spLaden A.C) := by
  refine T.F_loaded.ok sc_loaded (fun vs H Q E h => ?_) (fun cdv A' outer s H vs Q E hr h => ?_)
  · obtain ⟨p, dx, aR, as, aT, aL, aS, b, rfl, _⟩ := h
    rfl
  · obtain ⟨p, dx, aR, as, aT, aL, aS, b, rfl, B, h100, q⟩ := h
    refine ⟨_, (pss_one (ps_ret (pe_compT (CompSc.of (N' := ["at", "many"]) (ix := [none, none]) rfl (by kernel_rfl)) (by exact fun _ _ _ _ _ nd => pg_tupK (K := K) (n := 2) rfl rfl (pgs_cons (pg_name (i := 0) nd rfl (Or.inl (lookup_relabel_local rfl)) (.inr (lookup_relabel_local rfl))) (pgs_cons (pg_name (i := 1) nd rfl (Or.inl (lookup_relabel_local rfl)) (.inr (lookup_relabel_local rfl))) pgs_nil))) rfl (pi_enum (K := K) rfl (by rfl) T.n_enumerate (pa_cons (pe_fldK (K := K) rfl (pv 0) rfl) pa_nil)) (by exact fun _ _ _ _ _ => (pf_one (pt_cmpR op_gt (pv 1) pe_int (nomark _)))) (by exact fun _ _ _ _ _ => (pv 0)) (fun _ => rfl)))), ?_⟩
    refine ⟨_, rfl, p, A.C, dx, _, _, rfl, B.ob, T.cl_Board, T.na_loads, bf_loads _ _ _ _ _, aL, _, rfl, SqL.of B.hL, ?_⟩
    refine comp_enumT (fun i ys H3 => Same H H3 ∧ ys = ((List.range i).filter fun k => decide (0 < b.loads.getD k 0)).map fun k => V.int (k : Nat)) ⟨Same.refl _, rfl⟩ (fun i ys H3 _ ⟨s3, _⟩ => SqL.of (s3 _ _ B.hL)) (fun i x ys H3 c hx hP hc => ?_) (fun i ys H3 hi hP => ?_) (fun ys H3 hP D hD => ?_)
    · obtain ⟨s3, rfl⟩ := hP
      have hi : i < b.loads.length := by have := (List.getElem?_eq_some_iff.mp hx).1; simpa using this
      have ex : x = V.int (b.loads.getD i 0) := by
        rw [List.getElem?_map, List.getElem?_eq_getElem hi] at hx
        rw [getD_get hi]
        exact (Option.some.inj hx).symm
      subst ex
      refine ⟨c, _, rfl, SqT.of upd_same, rfl, _, _, rfl, _, _, rfl, rfl, ⟨rfl, fun k z hz => ?_⟩, _, rfl, _, _, rfl, rfl, _, rfl, ?_⟩
      · match k, hz with
        | 0, hz => cases hz
        | 1, hz => cases hz
        | n + 2, hz => simp [inSt] at hz
      have s4 := s3.trans (same_new hc (o := .tup [.int (i : Int), .int (b.loads.getD i 0)]))
      refine ite2 (fun h1 => ?_) (fun h1 => ?_)
      · have h1' := of_decide_eq_true h1
        refine ⟨_, rfl, s4, ?_⟩
        rw [laden_range, if_pos h1']
      · have h1' : ¬ 0 < b.loads.getD i 0 := fun z => h1 (decide_eq_true z)
        refine ⟨s4, ?_⟩
        rw [laden_range, if_neg h1', List.append_nil]
    · obtain ⟨s3, rfl⟩ := hP
      rw [List.length_map] at hi ⊢
      have := List.length_filter_le (fun k => decide (0 < b.loads.getD k 0)) (List.range i)
      rw [List.length_range] at this
      exact small1000 (by omega)
    · obtain ⟨s3, rfl⟩ := hP
      refine q D _ (same_upd s3 (s3.free hD)) (s3.free hD) ?_
      rw [upd_same, List.length_map]
      rfl
theorem sc_run : FnScope ["board", "most", "trial", "done", "waiting"] ["board", "most"] (defScope s_run) := ⟨rfl, rfl, rfl, by decide +kernel, rfl, by decide +kernel, by decide +kernel⟩
theorem ok_run (T : Txt K mg A) (G_check_open : FnOk P w K mg base (CX1 P w) 3 A.f_check_open A.fd_check_open ["board"] (spChkO A.C A.c_NotOpen)) (G_twin : FnOk P w K mg base CX0 5 A.f_Btwin A.fd_Btwin ["self"] (spTwin A.C)) (G_loaded : FnOk P w K mg base CX0 1 A.f_loaded A.fd_loaded ["board"] (spLaden A.C)) (G_stand_like : FnOk P w K mg base CX0 1 A.f_Bstand_like A.fd_Bstand_like ["self", "other"] (spLike A.C)) (G_step : FnOk P w K mg base (CX1 P w) 2 A.f_step A.fd_step ["board", "at"] (spStep A.C A.c_NoSite A.c_NoMarble)) : FnOk P w K mg base (CX1 P w) 6 A.f_run A.fd_run ["board", "most"] (spRun A.C A.c_NotOpen A.c_TooLong) := by
  refine T.F_run.okX sc_run (fun vs H Q E h => ?_) (fun cdv A' outer s H vs Q E hr h => ?_)
  · obtain ⟨p, dx, aR, as, aT, aL, aS, b, most, rfl, _⟩ := h
    rfl
  · obtain ⟨p, dx, aR, as, aT, aL, aS, b, most, rfl, B, O, m1, m2, q1, q2⟩ := h
    refine ⟨_, (pss_cons (ps_expr (pe_call G_check_open (hr.mono (by decide)) (by rfl) T.m_check_open T.k_check_open T.b_check_open .nil passX (pa_cons (pv 0) pa_nil)))
      (pss_cons (ps_set (i := 2) sc_run.nd rfl (Or.inl rfl) (pe_meth0 (pv 0) T.cl_Board T.mt_twin G_twin (hr.mono (by decide)) T.bm_twin .nil pass0))
      (pss_cons (ps_set (i := 3) sc_run.nd rfl (Or.inl rfl) pe_int)
      (pss_cons (ps_while PassesOwn.leaving (pt_cmpR op_le (pv 3) (pv 1) (nomark _))
        (pss_cons (ps_set (i := 4) sc_run.nd rfl (Or.inl rfl) (pe_call G_loaded (hr.mono (by decide)) (by rfl) T.m_loaded T.k_loaded T.b_loaded .nil pass0 (pa_cons (pv 2) pa_nil)))
        (pss_cons (ps_if (pt_not (pt_lst (K := K) rfl (pv 4)))
          (pss_cons (ps_expr (pe_meth (pv 0) T.cl_Board T.mt_stand_like G_stand_like (hr.mono (by decide)) T.bm_stand_like .nil pass0 (pa_cons (pv 2) pa_nil)))
          (pss_one (ps_ret (pv 3))))
          pss_nil)
        (pss_cons (ps_expr (pe_call G_step (hr.mono (by decide)) (by rfl) T.m_step T.k_step T.b_step .nil passX (pa_cons (pv 2) (pa_cons (pe_ix (ix_listK (K := K) rfl) (pv 4) pe_int (fun _ _ => rfl)) pa_nil))))
        (pss_one (ps_aug (i := 3) sc_run.nd rfl (Or.inl rfl) pe_int ip_add))))))
      (pss_one (ps_raise raises_cx rfl (by rfl) T.m_TooLong T.x_TooLong (pa_cons (pe_fs (pj_str (by decide +kernel) (pj_int (pv 1) (pj_str (by decide +kernel) pj_nil))) (by decide)) pa_nil))))))), ?_⟩
    have lg := log2_small m1 m2
    refine ⟨_, rfl, p, dx, aR, as, aT, aL, aS, b, rfl, B, O.W, fun hop H1 s1 => ?_, fun hop H1 s1 => q1 hop H1 s1⟩
    obtain ⟨N, RT, qa, qb⟩ := q2 hop
    have B1 := B.same s1
    refine ⟨_, rfl, p, dx, _, rfl, B1.ob, (by rfl), p, dx, aR, as, aT, aL, aS, b, rfl, B1, O.W, fun p' dx' aR' as' aT' aL' aS' H2 B2 s2 fr2 => ?_⟩
    have s02 := s1.trans s2
    have fr0 : ∀ c ∈ p' :: aT' :: aL' :: aS' :: aR' :: as', H c = none := fun c hc => s1.free (fr2 c hc)
    dsimp only [gName]
    refine asg_lit ?_
    have hpp : p ≠ p' := fun z => by have := fr0 p' (by simp); rw [← z, B.ob] at this; cases this
    refine ⟨fun m σ H3 => ∃ (k : Nat) (x4 : Option V), k ≤ N ∧ (k = 0 ∨ (k : Int) ≤ most + 1) ∧ m = N - k ∧ σ = [some (.ref p), some (.int most), some (.ref p'), some (.int (k : Int)), x4] ∧ BoardAt A.C H3 p' dx' aR' as' aT' aL' aS' (iterR k b) ∧ Same H H3, ⟨_, 0, none, Nat.zero_le _, .inl rfl, rfl, rfl, B2, s02⟩, ?_⟩
    rintro m σ H3 ⟨k, x4, hk, hkm, rfl, rfl, B3, s3⟩
    obtain ⟨O3, r3, _⟩ := O.iter k
    refine ⟨_, rfl, _, rfl, _, _, rfl, rfl, _, rfl, ?_⟩
    refine ite2 (fun h1 => ?_) (fun h1 => ?_)
    · have h1' : (k : Int) ≤ most := of_decide_eq_true h1
      refine ⟨fun σ' H' => ∃ m', m' < N - k ∧ ∃ (k : Nat) (x4 : Option V), k ≤ N ∧ (k = 0 ∨ (k : Int) ≤ most + 1) ∧ m' = N - k ∧ σ' = [some (.ref p), some (.int most), some (.ref p'), some (.int (k : Int)), x4] ∧ BoardAt A.C H' p' dx' aR' as' aT' aL' aS' (iterR k b) ∧ Same H H', fun _ _ h => h, ?_⟩
      refine ⟨_, rfl, p', dx', aR', as', aT', aL', aS', _, rfl, B3, by rw [O3.L, r3]; have := O.W.2.1; omega, fun l H4 s4 hl el => ?_⟩
      have B4 := B3.same s4
      have s04 := s3.trans s4
      cases hw : ladenL (iterR k b).loads with
      | nil =>
        rw [hw] at el
        have hkN : k = N := by
          by_cases e : k = N
          · exact e
          · exact absurd hw (RT.more k (by omega))
        subst hkN
        refine ⟨_, rfl, l, _, rfl, SqL.of el, ?_⟩
        refine iteT ?_
        have Bp4 := B.same s04
        refine ⟨_, rfl, p, dx, _, rfl, Bp4.ob, (by rfl), _, rfl, p, dx, aR, as, aT, aL, aS, b, p', dx', aR', as', aT', aL', aS', _, rfl, Bp4, B4, hpp, fun n1 n2 n3 H5 B5 k5 e1 e2 e3 => ?_⟩
        have eB : (⟨b.rows, (iterR k b).turns, (iterR k b).loads, (iterR k b).steps, (iterR k b).taken⟩ : Brd) = iterR k b := by rw [← r3]
        rw [eB] at B5
        exact ⟨_, rfl, qa h1' n1 n2 n3 H5 B5 (fun x o hx e => k5 x o hx (s04 x o e)) (s04.free e1) (s04.free e2) (s04.free e3)⟩
      | cons s r =>
        rw [hw] at el
        have hm : s ∈ ladenL (iterR k b).loads := by rw [hw]; exact List.mem_cons_self
        obtain ⟨g1, g2⟩ := laden_mem hm
        have hkN : k < N := by
          by_cases e : k = N
          · subst e; rw [RT.done] at hw; cases hw
          · omega
        refine ⟨_, rfl, l, _, rfl, SqL.of el, ?_⟩
        refine iteF ?_
        have hs : s < (iterR k b).rows.length := by rw [← O3.L]; exact g1
        refine ⟨_, rfl, _, rfl, _, _, _, _, rfl, rfl, SqL.of el, at_list (n := 0) rfl rfl, p', dx', aR', as', aT', aL', aS', _, (s : Int), rfl, B4, O3, by omega, by have := O3.W.2.1; omega, fun z => absurd ⟨by omega, by omega⟩ z, fun _ z => absurd z (by rw [Int.toNat_natCast]; omega), fun _ _ H5 B5 f5 => ?_⟩
        have e5 : stepB (iterR k b) (s : Int).toNat = iterR (k + 1) b := by
          show _ = nxt (iterR k b)
          rw [nxt_some (s := s) (by rw [hw]; rfl)]
          rfl
        rw [e5] at B5
        refine ⟨_, rfl, _, _, rfl, rfl, ?_⟩
        exact ⟨_, by omega, k + 1, _, by omega, .inr (by omega), rfl, rfl, B5, same_frame s04 fr0 f5⟩
    · have h1' : ¬ (k : Int) ≤ most := fun z => h1 (decide_eq_true z)
      exact ⟨⟨_, rfl, _, rfl, lg, rfl, trivial⟩, fun x => ⟨small12 (by show 1 ≤ 100; decide), qb (by omega) H3 s3⟩⟩
theorem sc_leads_to : FnScope ["board", "start", "here"] ["board", "start", "here"] (defScope s_leads_to) := ⟨rfl, rfl, rfl, by decide +kernel, rfl, by decide +kernel, by decide +kernel⟩
theorem ok_leads_to (T : Txt K mg A) (G_last_exit : FnOk P w K mg base (CX1 P w) 2 A.f_last_exit A.fd_last_exit ["board", "at"] (spLast A.C A.c_NoSite)) : FnOk P w K mg base CX0 3 A.f_leads_to A.fd_leads_to ["board", "start", "here"] (spLeads A.C) := by
  refine T.F_leads_to.ok sc_leads_to (fun vs H Q E h => ?_) (fun cdv A' outer s H vs Q E hr h => ?_)
  · obtain ⟨p, dx, aR, as, aT, aL, aS, b, st, z, rfl, _⟩ := h
    rfl
  · obtain ⟨p, dx, aR, as, aT, aL, aS, b, st, z, rfl, B, W, hT, z0, z1, q⟩ := h
    refine ⟨_, (pss_cons (ps_if (pt_cmpR op_eq (pv 2) (pe_glob (v := .int (-1)) (by rfl) T.g_PIT ⟨_, rfl⟩) (nomark _))
        (pss_one (ps_ret (pv 1)))
        pss_nil)
      (pss_one (ps_ret (pe_call G_last_exit (hr.mono (by decide)) (by rfl) T.m_last_exit T.k_last_exit T.b_last_exit .nil passE0 (pa_cons (pv 0) (pa_cons (pv 2) pa_nil)))))), ?_⟩
    have w12 := W.2.1
    unfold ring at q
    refine ⟨_, rfl, rfl, _, rfl, ?_⟩
    by_cases h : z = -1
    · subst h
      rw [if_pos rfl] at q
      refine iteT ?_
      exact ⟨_, rfl, q⟩
    · rw [if_neg h] at q
      rw [decide_eq_false (show ¬ V.int z = V.int (-1) from fun w => h (by injection w))]
      refine iteF ?_
      exact ⟨_, rfl, _, rfl, p, dx, aR, as, aT, aL, aS, b, z, rfl, B, hT.1, by omega, by omega, fun hz => ⟨(hT.2 z.toNat (by omega)).1, (hT.2 z.toNat (by omega)).2, q⟩, fun hn => absurd ⟨by omega, z1⟩ hn⟩
theorem sc_place_ahead : FnScope ["board", "start", "goal", "here", "onward"] ["board", "start", "goal"] (defScope s_place_ahead) := ⟨rfl, rfl, rfl, by decide +kernel, rfl, by decide +kernel, by decide +kernel⟩
theorem ok_place_ahead (T : Txt K mg A) (G_leads_to : FnOk P w K mg base CX0 3 A.f_leads_to A.fd_leads_to ["board", "start", "here"] (spLeads A.C)) : FnOk P w K mg base CX0 4 A.f_place_ahead A.fd_place_ahead ["board", "start", "goal"] (spAhead A.C) := by
  refine T.F_place_ahead.ok sc_place_ahead (fun vs H Q E h => ?_) (fun cdv A' outer s H vs Q E hr h => ?_)
  · obtain ⟨p, dx, aR, as, aT, aL, aS, b, st, x, m, rfl, _⟩ := h
    rfl
  · obtain ⟨p, dx, aR, as, aT, aL, aS, b, st, x, m, rfl, B, W, hT, h0, h1, x0, x1, Ah, q⟩ := h
    refine ⟨_, (pss_cons (ps_set (i := 3) sc_place_ahead.nd rfl (Or.inl rfl) (pv 2))
      (pss_cons (ps_set (i := 4) sc_place_ahead.nd rfl (Or.inl rfl) (pe_call G_leads_to (hr.mono (by decide)) (by rfl) T.m_leads_to T.k_leads_to T.b_leads_to .nil pass0 (pa_cons (pv 0) (pa_cons (pv 1) (pa_cons (pv 3) pa_nil)))))
      (pss_cons (ps_while PassesOwn.never (pt_cmpR op_ne (pv 4) (pv 2) (nomark _))
        (pss_cons (ps_set (i := 3) sc_place_ahead.nd rfl (Or.inl rfl) (pv 4))
        (pss_one (ps_set (i := 4) sc_place_ahead.nd rfl (Or.inl rfl) (pe_call G_leads_to (hr.mono (by decide)) (by rfl) T.m_leads_to T.k_leads_to T.b_leads_to .nil pass0 (pa_cons (pv 0) (pa_cons (pv 1) (pa_cons (pv 3) pa_nil))))))))
      (pss_one (ps_ret (pv 3)))))), ?_⟩
    refine ⟨_, rfl, ?_⟩
    refine ⟨_, rfl, _, rfl, _, rfl, p, dx, aR, as, aT, aL, aS, b, st, _, rfl, B, W, hT, x0, x1, ?_⟩
    refine ⟨fun k σ H2 => ∃ j : Nat, j ≤ m ∧ k = m - j ∧ σ = [some (.ref p), some (.int st), some (.int x), some (.int (goR b.rows st b.turns j x)), some (.int (goR b.rows st b.turns (j + 1) x))] ∧ H = H2, ⟨_, 0, Nat.zero_le _, rfl, rfl, rfl⟩, ?_⟩
    rintro k σ H2 ⟨j, hj, rfl, rfl, rfl⟩
    refine ⟨_, rfl, _, rfl, rfl, _, rfl, ?_⟩
    by_cases e : goR b.rows st b.turns (j + 1) x = x
    · rw [decide_eq_true (show V.int (goR b.rows st b.turns (j + 1) x) = V.int x by rw [e])]
      refine iteF ?_
      have : j = m := by
        by_cases h : j = m
        · exact h
        · exact absurd e (Ah.first j (by omega))
      subst this
      exact ⟨_, rfl, q⟩
    · rw [decide_eq_false (show ¬ V.int (goR b.rows st b.turns (j + 1) x) = V.int x from fun w => e (by injection w))]
      refine iteT ?_
      have hjm : j < m := by
        by_cases h : j = m
        · subst h; exact absurd Ah.back e
        · omega
      refine ⟨fun σ' H' => ∃ m', m' < m - j ∧ ∃ j : Nat, j ≤ m ∧ m' = m - j ∧ σ' = [some (.ref p), some (.int st), some (.int x), some (.int (goR b.rows st b.turns j x)), some (.int (goR b.rows st b.turns (j + 1) x))] ∧ H = H', fun _ _ h => h, ?_⟩
      refine ⟨_, rfl, ?_⟩
      have hb := goR_bd W hT h0 h1 (j + 1) x0 x1
      refine ⟨_, rfl, _, rfl, _, rfl, p, dx, aR, as, aT, aL, aS, b, st, _, rfl, B, W, hT, hb.1, hb.2, ?_⟩
      exact ⟨_, by omega, j + 1, by omega, rfl, rfl, rfl⟩
theorem sc_turn_back : FnScope ["board", "start", "most", "here", "done"] ["board", "start", "most"] (defScope s_turn_back) := ⟨rfl, rfl, rfl, by decide +kernel, rfl, by decide +kernel, by decide +kernel⟩
theorem ok_turn_back (T : Txt K mg A) (G_place_ahead : FnOk P w K mg base CX0 4 A.f_place_ahead A.fd_place_ahead ["board", "start", "goal"] (spAhead A.C)) : FnOk P w K mg base (CX1 P w) 5 A.f_turn_back A.fd_turn_back ["board", "start", "most"] (spTurnB A.C A.c_TooLong) := by
  refine T.F_turn_back.okX sc_turn_back (fun vs H Q E h => ?_) (fun cdv A' outer s H vs Q E hr h => ?_)
  · obtain ⟨p, dx, aR, as, aT, aL, aS, b, st, most, rfl, _⟩ := h
    rfl
  · obtain ⟨p, dx, aR, as, aT, aL, aS, b, st, most, rfl, B, O, ht, tm, h0, h1, m1, m2, qa, qb⟩ := h
    refine ⟨_, (pss_cons (ps_set (i := 3) sc_turn_back.nd rfl (Or.inl rfl) (pe_call G_place_ahead (hr.mono (by decide)) (by rfl) T.m_place_ahead T.k_place_ahead T.b_place_ahead .nil pass0 (pa_cons (pv 0) (pa_cons (pv 1) (pa_cons (pe_glob (v := .int (-1)) (by rfl) T.g_PIT ⟨_, rfl⟩) pa_nil)))))
      (pss_cons (ps_set (i := 4) sc_turn_back.nd rfl (Or.inl rfl) pe_int)
      (pss_cons (ps_while PassesOwn.leaving (PW.pt (pw_and (pt_cmpR op_ne (pv 3) (pe_glob (v := .int (-1)) (by rfl) T.g_PIT ⟨_, rfl⟩) (nomark _)) (pw_and1 (pt_cmpR op_le (pv 4) (pv 2) (nomark _)))))
        (pss_cons (ps_asg (pe_op op_mod (pe_op op_sub (pe_ix (ix_listK (K := K) rfl) (pe_fldK (K := K) rfl (pv 0) rfl) (pv 3) (fun _ _ => rfl)) pe_int) (pe_callB (call_lenK (K := K) rfl) (by rfl) T.n_len PySem.boot_len (pa_cons (pe_ix (ix_listK (K := K) rfl) (pe_fldK (K := K) rfl (pv 0) rfl) (pv 3) (fun _ _ => rfl)) pa_nil))) (pg_sub (pe_fldK (K := K) rfl (pv 0) rfl) (pv 3) set_list))
        (pss_cons (ps_aug (i := 4) sc_turn_back.nd rfl (Or.inl rfl) pe_int ip_add)
        (pss_one (ps_set (i := 3) sc_turn_back.nd rfl (Or.inl rfl) (pe_call G_place_ahead (hr.mono (by decide)) (by rfl) T.m_place_ahead T.k_place_ahead T.b_place_ahead .nil pass0 (pa_cons (pv 0) (pa_cons (pv 1) (pa_cons (pv 3) pa_nil)))))))))
      (pss_cons (ps_if (pt_cmpR op_gt (pv 4) (pv 2) (nomark _))
        (pss_one (ps_raise raises_cx rfl (by rfl) T.m_TooLong T.x_TooLong (pa_cons (pe_fs (pj_str (by decide +kernel) (pj_int (pv 2) (pj_str (by decide +kernel) pj_nil))) (by decide)) pa_nil)))
        pss_nil)
      (pss_one (ps_ret (pv 4))))))), ?_⟩
    have lg := log2_small m1 m2
    have w12 := O.W.2.1
    have bk0 : Bk b.rows st b.turns 0 b.turns (-1) := .zero
    obtain ⟨T0, U0, x00, x01⟩ := bk0.ok O.W O.T h0 h1 ht
    have hr0 := ring_in (st := st) O.W O.T h0 h1 x00 x01
    obtain ⟨m, Ah⟩ := ahead_ex U0 hr0.1 hr0.2
    refine ⟨_, rfl, _, rfl, p, dx, aR, as, aT, aL, aS, b, st, -1, m, rfl, B, O.W, O.T, h0, h1, x00, x01, Ah, ?_⟩
    refine asg_lit ?_
    refine ⟨fun c σ H2 => ∃ (k m : Nat) (Tu : List Int) (x : Int), c = 20001 - k ∧ (k = 0 ∨ (k : Int) ≤ most + 1) ∧ Bk b.rows st b.turns k Tu x ∧ Ahead b.rows st Tu x m ∧ σ = [some (.ref p), some (.int st), some (.int most), some (.int (goR b.rows st Tu m x)), some (.int (k : Int))] ∧ BoardAt A.C H2 p dx aR as aT aL aS ⟨b.rows, Tu, b.loads, b.steps, b.taken⟩ ∧ ∀ x, x ∉ p :: aT :: aL :: aS :: aR :: as → H2 x = H x, ⟨_, 0, m, b.turns, -1, rfl, .inl rfl, bk0, Ah, rfl, B, fun _ _ => rfl⟩, ?_⟩
    rintro c σ H2 ⟨k, m, Tu, x, rfl, hkm, Bx, Ax, rfl, B2, f2⟩
    have hk := bk_le O.W O.T h0 h1 ht tm (by decide) Bx
    obtain ⟨T1, U1, x0, x1⟩ := Bx.ok O.W O.T h0 h1 ht
    have gb := goR_bd O.W T1 h0 h1 m x0 x1
    have rest : ∀ D : Ends, ((¬ (goR b.rows st Tu m x ≠ -1 ∧ (k : Int) ≤ most)) → D.nx [some (.ref p), some (.int st), some (.int most), some (.int (goR b.rows st Tu m x)), some (.int (k : Int))] H2) → True := fun _ _ => trivial
    refine ⟨_, rfl, rfl, _, rfl, ?_⟩
    by_cases e : goR b.rows st Tu m x = -1
    · rw [decide_eq_true (show V.int (goR b.rows st Tu m x) = V.int (-1) by rw [e])]
      refine iteF ?_
      refine iteF ?_
      refine ⟨_, rfl, _, rfl, _, _, rfl, rfl, _, rfl, ?_⟩
      refine ite2 (fun h2 => ?_) (fun h2 => ?_)
      · have h2' : (k : Int) > most := of_decide_eq_true h2
        exact ⟨⟨_, rfl, _, rfl, lg, rfl, trivial⟩, fun x' => ⟨small12 (by show 1 ≤ 100; decide), qb k Tu x Bx h2' H2 f2⟩⟩
      · have h2' : ¬ (k : Int) > most := fun z => h2 (decide_eq_true z)
        obtain ⟨ex, et⟩ := bk_end O.W O.T h0 h1 ht Bx Ax e
        subst ex
        exact ⟨_, rfl, qa k m Tu Bx Ax e et T1 (by omega) H2 B2 f2⟩
    · rw [decide_eq_false (show ¬ V.int (goR b.rows st Tu m x) = V.int (-1) from fun w => e (by injection w))]
      refine iteT ?_
      refine ⟨_, rfl, _, rfl, _, _, rfl, rfl, _, rfl, ?_⟩
      refine ite2 (fun h2 => ?_) (fun h2 => ?_)
      · have h2' : (k : Int) ≤ most := of_decide_eq_true h2
        obtain ⟨s, hs⟩ : ∃ s : Nat, goR b.rows st Tu m x = (s : Int) := ⟨(goR b.rows st Tu m x).toNat, by omega⟩
        have hsn : s < b.rows.length := by omega
        have Bn := Bk.step Bx Ax hs hsn
        have hk1 := bk_le O.W O.T h0 h1 ht tm (by decide) Bn
        obtain ⟨Tn, Un, y0, y1⟩ := Bn.ok O.W O.T h0 h1 ht
        have hrn := ring_in (st := st) O.W Tn h0 h1 y0 y1
        obtain ⟨mn, An⟩ := ahead_ex Un hrn.1 hrn.2
        rw [hs]
        refine ⟨fun σ' H' => ∃ c', c' < 20001 - k ∧ ∃ (k m : Nat) (Tu : List Int) (x : Int), c' = 20001 - k ∧ (k = 0 ∨ (k : Int) ≤ most + 1) ∧ Bk b.rows st b.turns k Tu x ∧ Ahead b.rows st Tu x m ∧ σ' = [some (.ref p), some (.int st), some (.int most), some (.int (goR b.rows st Tu m x)), some (.int (k : Int))] ∧ BoardAt A.C H' p dx aR as aT aL aS ⟨b.rows, Tu, b.loads, b.steps, b.taken⟩ ∧ ∀ x, x ∉ p :: aT :: aL :: aS :: aR :: as → H' x = H x, fun _ _ h => h, ?_⟩
        have zt : (s : Int) < (Tu.length : Int) := by rw [T1.1]; omega
        have hr8 := row_len O.W hsn
        obtain ⟨c, hat, hc, hca⟩ := B2.mat.at (z := (s : Int)) (by omega) (by show (s : Int) < (b.rows.length : Int); omega)
        rw [Int.toNat_natCast] at hc
        have hlr : ((b.rows.getD s []).map V.int).length = (b.rows.getD s []).length := by simp
        refine ⟨_, rfl, p, A.C, dx, _, _, rfl, B2.ob, T.cl_Board, T.na_turns, bf_turns _ _ _ _ _, _, rfl, _, _, _, _, rfl, rfl, SqL.of B2.hT, at_ints (i := (s : Int)) (by omega) zt, _, _, rfl, rfl, _, rfl, p, A.C, dx, _, _, rfl, B2.ob, T.cl_Board, T.na_rows, bf_rows _ _ _ _ _, _, rfl, _, _, _, _, rfl, rfl, B2.mat.sq, hat, _, _, rfl, .inl (SqL.of hc), _, _, rfl, rfl, by rw [hlr]; omega, _, rfl, p, A.C, dx, _, _, rfl, B2.ob, T.cl_Board, T.na_turns, bf_turns _ _ _ _ _, _, rfl, aT, _, _, _, rfl, rfl, B2.hT, ixN_in (by omega) (by rw [List.length_map]; exact zt), ?_⟩
        rw [hlr, map_set_int, Int.toNat_natCast]
        have B3 : BoardAt A.C _ p dx aR as aT aL aS ⟨b.rows, prevT b.rows Tu s, b.loads, b.steps, b.taken⟩ := B2.setT (prevT b.rows Tu s)
        have f3 : ∀ x, x ∉ p :: aT :: aL :: aS :: aR :: as → (upd H2 aT (.lst ((prevT b.rows Tu s).map V.int))) x = H x := fun x hx => by rw [upd_ne (fun y => hx (by rw [y]; simp))]; exact f2 x hx
        unfold prevT at B3 f3
        generalize upd H2 aT (.lst ((Tu.set s ((Tu.getD s 0 - 1) % ((b.rows.getD s []).length : Int))).map V.int)) = H3 at B3 f3
        refine ⟨_, rfl, _, _, rfl, rfl, ?_⟩
        refine ⟨_, rfl, _, rfl, _, rfl, p, dx, aR, as, aT, aL, aS, _, st, (s : Int), mn, rfl, B3, O.W, Tn, h0, h1, y0, y1, An, ?_⟩
        exact ⟨_, by omega, k + 1, mn, _, (s : Int), rfl, .inr (by omega), Bn, An, rfl, B3, f3⟩
      · have h2' : ¬ (k : Int) ≤ most := fun z => h2 (decide_eq_true z)
        refine ⟨_, rfl, _, rfl, _, _, rfl, rfl, _, rfl, ?_⟩
        rw [decide_eq_true (show (k : Int) > most by omega)]
        refine iteT ?_
        exact ⟨⟨_, rfl, _, rfl, lg, rfl, trivial⟩, fun x' => ⟨small12 (by show 1 ≤ 100; decide), qb k Tu x Bx (by omega) H2 f2⟩⟩
theorem sc_check_back : FnScope ["board", "at"] ["board", "at"] (defScope s_check_back) := ⟨rfl, rfl, rfl, by decide +kernel, rfl, by decide +kernel, by decide +kernel⟩
theorem ok_check_back (T : Txt K mg A) (G_check_site : FnOk P w K mg base (CX1 P w) 1 A.f_check_site A.fd_check_site ["board", "at"] (spSite A.C A.c_NoSite)) (G_check_open : FnOk P w K mg base (CX1 P w) 3 A.f_check_open A.fd_check_open ["board"] (spChkO A.C A.c_NotOpen)) (G_loaded : FnOk P w K mg base CX0 1 A.f_loaded A.fd_loaded ["board"] (spLaden A.C)) (G_is_tree : FnOk P w K mg base CX0 3 A.f_is_tree A.fd_is_tree ["board"] (spTree A.C)) : FnOk P w K mg base (CX1 P w) 5 A.f_check_back A.fd_check_back ["board", "at"] (spChkB A.C A.c_NoSite A.c_NotOpen A.c_NotBare A.c_NotTree) := by
  refine T.F_check_back.okX sc_check_back (fun vs H Q E h => ?_) (fun cdv A' outer s H vs Q E hr h => ?_)
  · obtain ⟨p, dx, aR, as, aT, aL, aS, b, z, rfl, _⟩ := h
    rfl
  · obtain ⟨p, dx, aR, as, aT, aL, aS, b, z, rfl, B, O, z1, z2, q1, q2, q3, q4, q5⟩ := h
    refine ⟨_, (pss_cons (ps_expr (pe_call G_check_site (hr.mono (by decide)) (by rfl) T.m_check_site T.k_check_site T.b_check_site .nil passX (pa_cons (pv 0) (pa_cons (pv 1) pa_nil))))
      (pss_cons (ps_expr (pe_call G_check_open (hr.mono (by decide)) (by rfl) T.m_check_open T.k_check_open T.b_check_open .nil passX (pa_cons (pv 0) pa_nil)))
      (pss_cons (ps_if (pt_lst (K := K) rfl (pe_call G_loaded (hr.mono (by decide)) (by rfl) T.m_loaded T.k_loaded T.b_loaded .nil pass0 (pa_cons (pv 0) pa_nil)))
        (pss_one (ps_raise raises_cx rfl (by rfl) T.m_NotBare T.x_NotBare (pa_cons pe_str pa_nil)))
        pss_nil)
      (pss_one (ps_if (pt_not (pt_val (pe_call G_is_tree (hr.mono (by decide)) (by rfl) T.m_is_tree T.k_is_tree T.b_is_tree .nil pass0 (pa_cons (pv 0) pa_nil))))
        (pss_one (ps_raise raises_cx rfl (by rfl) T.m_NotTree T.x_NotTree (pa_cons pe_str pa_nil)))
        pss_nil))))), ?_⟩
    refine ⟨_, rfl, _, rfl, p, dx, aR, as, aT, aL, aS, b, z, rfl, B, z1, z2, fun hz => ?_, fun hz => q1 hz _ (Same.refl _)⟩
    refine ⟨_, rfl, p, dx, aR, as, aT, aL, aS, b, rfl, B, O.W, fun ho H1 s1 => ?_, fun ho H1 s1 => q2 hz ho H1 s1⟩
    refine ⟨_, rfl, p, dx, aR, as, aT, aL, aS, b, rfl, B.same s1, O.b4, fun l H2 s2 hl el => ?_⟩
    have s02 := s1.trans s2
    cases hw : ladenL b.loads with
    | cons s r =>
      rw [hw] at el
      refine ⟨l, _, rfl, SqL.of el, ?_⟩
      refine iteT ?_
      exact ⟨small12 (by show 1 ≤ 100; decide), q3 hz ho (by rw [hw]; exact List.cons_ne_nil _ _) H2 s02⟩
    | nil =>
      rw [hw] at el
      refine ⟨l, _, rfl, SqL.of el, ?_⟩
      refine iteF ?_
      refine ⟨_, rfl, p, dx, aR, as, aT, aL, aS, b, rfl, B.same s02, O.T, O.W, fun H3 s3 => ⟨_, rfl, ?_⟩⟩
      cases e : treeB b.rows b.turns with
      | true => exact iteF (q5 hz ho hw e H3 (s02.trans s3))
      | false =>
        refine iteT ?_
        exact ⟨small12 (by show 1 ≤ 100; decide), q4 hz ho hw e H3 (s02.trans s3)⟩
theorem sc_run_back : FnScope ["board", "at", "most", "trial", "done"] ["board", "at", "most"] (defScope s_run_back) := ⟨rfl, rfl, rfl, by decide +kernel, rfl, by decide +kernel, by decide +kernel⟩
theorem ok_run_back (T : Txt K mg A) (G_check_back : FnOk P w K mg base (CX1 P w) 5 A.f_check_back A.fd_check_back ["board", "at"] (spChkB A.C A.c_NoSite A.c_NotOpen A.c_NotBare A.c_NotTree)) (G_twin : FnOk P w K mg base CX0 5 A.f_Btwin A.fd_Btwin ["self"] (spTwin A.C)) (G_turn_back : FnOk P w K mg base (CX1 P w) 5 A.f_turn_back A.fd_turn_back ["board", "start", "most"] (spTurnB A.C A.c_TooLong)) (G_stand_like : FnOk P w K mg base CX0 1 A.f_Bstand_like A.fd_Bstand_like ["self", "other"] (spLike A.C)) : FnOk P w K mg base (CX1 P w) 6 A.f_run_back A.fd_run_back ["board", "at", "most"] (spBack A.C A.c_NoSite A.c_NotOpen A.c_NotBare A.c_NotTree A.c_TooLong) := by
  refine T.F_run_back.okX sc_run_back (fun vs H Q E h => ?_) (fun cdv A' outer s H vs Q E hr h => ?_)
  · obtain ⟨p, dx, aR, as, aT, aL, aS, b, st, most, rfl, _⟩ := h
    rfl
  · obtain ⟨p, dx, aR, as, aT, aL, aS, b, st, most, rfl, B, O, tm, z1, z2, m1, m2, q1, q2, q3, q4, q5, q6⟩ := h
    refine ⟨_, (pss_cons (ps_expr (pe_call G_check_back (hr.mono (by decide)) (by rfl) T.m_check_back T.k_check_back T.b_check_back .nil passX (pa_cons (pv 0) (pa_cons (pv 1) pa_nil))))
      (pss_cons (ps_set (i := 3) sc_run_back.nd rfl (Or.inl rfl) (pe_meth0 (pv 0) T.cl_Board T.mt_twin G_twin (hr.mono (by decide)) T.bm_twin .nil pass0))
      (pss_cons (ps_set (i := 4) sc_run_back.nd rfl (Or.inl rfl) (pe_call G_turn_back (hr.mono (by decide)) (by rfl) T.m_turn_back T.k_turn_back T.b_turn_back .nil passX (pa_cons (pv 3) (pa_cons (pv 1) (pa_cons (pv 2) pa_nil)))))
      (pss_cons (ps_expr (pe_meth (pv 0) T.cl_Board T.mt_stand_like G_stand_like (hr.mono (by decide)) T.bm_stand_like .nil pass0 (pa_cons (pv 3) pa_nil)))
      (pss_one (ps_ret (pv 4))))))), ?_⟩
    refine ⟨_, rfl, _, rfl, p, dx, aR, as, aT, aL, aS, b, st, rfl, B, O, z1, z2, q1, q2, q3, q4, fun hz ho hw ht H1 s1 => ?_⟩
    have B1 := B.same s1
    refine ⟨_, rfl, p, dx, _, rfl, B1.ob, (by rfl), p, dx, aR, as, aT, aL, aS, b, rfl, B1, O.W, fun p' dx' aR' as' aT' aL' aS' H2 B2 s2 fr2 => ?_⟩
    have s02 := s1.trans s2
    have fr0 : ∀ c ∈ p' :: aT' :: aL' :: aS' :: aR' :: as', H c = none := fun c hc => s1.free (fr2 c hc)
    have hpp : p ≠ p' := fun z => by have := fr0 p' (by simp); rw [← z, B.ob] at this; cases this
    refine ⟨_, rfl, _, rfl, _, rfl, p', dx', aR', as', aT', aL', aS', b, st, most, rfl, B2, O, ht, tm ho, hz.1, hz.2, m1, m2, fun N m Tu Bx Ax e et TT hN H3 B3 f3 => ?_, fun k Tu x Bx hk H3 f3 => q5 hz ho hw ht k Tu x Bx hk H3 (same_frame s02 fr0 f3)⟩
    have s03 := same_frame s02 fr0 f3
    have Bp := B.same s03
    refine ⟨_, rfl, p, dx, _, rfl, Bp.ob, (by rfl), _, rfl, p, dx, aR, as, aT, aL, aS, b, p', dx', aR', as', aT', aL', aS', _, rfl, Bp, B3, hpp, fun n1 n2 n3 H5 B5 k5 e1 e2 e3 => ?_⟩
    exact ⟨_, rfl, q6 hz ho hw ht N m Tu Bx Ax e et TT hN n1 n2 n3 H5 B5 (fun x o hx e => k5 x o hx (s03 x o e)) (s03.free e1) (s03.free e2) (s03.free e3)⟩
theorem sc_opened : FnScope ["rows", "found", "lap", "at", "gone"] ["rows"] (defScope s_opened) := ⟨rfl, rfl, rfl, by decide +kernel, rfl, by decide +kernel, by decide +kernel⟩
theorem ok_opened (T : Txt K mg A) : FnOk P w K mg base CX0 1 A.f_opened A.fd_opened ["rows"] (spOpened K) := by
  refine T.F_opened.ok sc_opened (fun vs H Q E h => ?_) (fun cdv A' outer s H vs Q E hr h => ?_)
  · obtain ⟨R, as, rows, rfl, _⟩ := h
    rfl
  · obtain ⟨R, as, rows, rfl, M, W, q⟩ := h
    refine ⟨_, (pss_cons (ps_setComp (i := 1) sc_opened.nd rfl rfl (CompSc.of (N' := ["row"]) (ix := [none]) rfl (by kernel_rfl)) rfl rfl rfl rfl (pi_listK (K := K) rfl (pv 0)) (by exact fun _ _ _ _ _ => pf_nil) (by exact fun _ _ _ _ _ => pe_bl))
      (pss_cons (ps_for PassesOwn.never rfl (pi_range1 (by rfl) T.n_range (pa_cons (pe_callB (call_lenK (K := K) rfl) (by rfl) T.n_len PySem.boot_len (pa_cons (pv 0) pa_nil)) pa_nil)) (pg_name (i := 2) sc_opened.nd rfl (Or.inl rfl))
        (pss_one (ps_for PassesOwn.never rfl (pi_range1 (by rfl) T.n_range (pa_cons (pe_callB (call_lenK (K := K) rfl) (by rfl) T.n_len PySem.boot_len (pa_cons (pv 0) pa_nil)) pa_nil)) (pg_name (i := 3) sc_opened.nd rfl (Or.inl rfl))
          (pss_one (ps_for PassesOwn.never rfl (pi_listK (K := K) rfl (pe_ix (ix_listK (K := K) rfl) (pv 0) (pv 3) (fun _ _ => rfl))) (pg_name (i := 4) sc_opened.nd rfl (Or.inl rfl))
            (pss_one (ps_if (PW.pt (pw_or (pt_cmpR op_lt (pv 4) pe_int (nomark _)) (pw_or1 (pt_val (pe_ix (ix_listK (K := K) rfl) (pv 1) (pv 4) (fun _ _ => rfl))))))
              (pss_one (ps_asg pe_bl (pg_sub (pv 1) (pv 3) set_list)))
              pss_nil)))))))
      (pss_one (ps_ret (pe_cmpR (op_notInK (K := K) rfl) pe_bl (pv 1) (by with_unfolding_all rfl)))))), ?_⟩
    have hl := M.reflen
    obtain ⟨w1, w12, wr⟩ := id W
    have hbf : ∀ n i, (List.replicate n false).getD i false = false := fun n i => by
      rw [List.getD_eq_getElem?_getD, List.getElem?_replicate]
      split <;> rfl
    refine ⟨_, rfl, R, rfl, ⟨_, M.sq⟩, ?_⟩
    refine comp_pure (ys := (List.replicate rows.length false).map V.bl) (wk_list (K := K) M.sq) (by rw [hl]; exact small12 (by omega)) (by simp [M.len]) (fun j x y ex ey Q' q' => ?_) (fun fA hfA => ?_)
    · rw [List.getElem?_map] at ey
      rw [List.getElem?_replicate] at ey
      split at ey
      · cases ey
        exact q'
      · cases ey
    have s1 : Same H (upd H fA (.lst ((List.replicate rows.length false).map V.bl))) := same_new hfA
    have e1 : upd H fA (.lst ((List.replicate rows.length false).map V.bl)) fA = some (.lst ((List.replicate rows.length false).map V.bl)) := upd_same
    generalize upd H fA (.lst ((List.replicate rows.length false).map V.bl)) = H1 at s1 e1
    have M1 := M.same s1
    have en : (((as.map V.ref).length : Nat) : Int).toNat = rows.length := by rw [hl]; simp
    refine ⟨_, rfl, _, _, rfl, .inl M1.sq, _, rfl, by omega, by omega, ?_⟩
    rw [en]
    refine for_rangeN (fun j σ H2 => ∃ (fb : List Bool) (x2 x3 x4 : Option V), σ = [some (.ref R), some (.ref fA), x2, x3, x4] ∧ H2 fA = some (.lst (fb.map V.bl)) ∧ Same H H2 ∧ fb.length = rows.length ∧ (∀ i, i < rows.length → fb.getD i false = true → rch rows i = true) ∧ (∀ i, reachN rows j i = true → fb.getD i false = true)) ⟨_, none, none, none, rfl, e1, s1, by simp, fun i _ z => (by rw [hbf] at z; cases z), fun i z => (by cases z)⟩ ?_ ?_
    · rintro j σ H2 hj ⟨fb, x2, x3, x4, rfl, e2, s2, l2, snd, cmp⟩ DD hDD
      refine ⟨_, rfl, _, _, rfl, .inl (M.same s2).sq, _, rfl, by omega, by omega, ?_⟩
      rw [en]
      refine for_rangeN (fun i σ H3 => ∃ (fb : List Bool) (x3 x4 : Option V), σ = [some (.ref R), some (.ref fA), some (.int (0 + (j : Int))), x3, x4] ∧ H3 fA = some (.lst (fb.map V.bl)) ∧ Same H H3 ∧ fb.length = rows.length ∧ (∀ i, i < rows.length → fb.getD i false = true → rch rows i = true) ∧ (∀ i, reachN rows j i = true → fb.getD i false = true) ∧ ∀ i', i' < i → reachN rows (j + 1) i' = true → fb.getD i' false = true) ⟨fb, x3, x4, rfl, e2, s2, l2, snd, cmp, fun i' h => by omega⟩ ?_ ?_
      · rintro i σ H3 hi ⟨fb, x3, x4, rfl, e3, s3, l3, snd, cmp, nw⟩ D3 hD3
        have M3 := M.same s3
        obtain ⟨c, hat, hc, hca⟩ := M3.at (z := 0 + (i : Int)) (by omega) (by omega)
        have ei : (0 + (i : Int)).toNat = i := by omega
        rw [ei] at hc hca
        have hr' := row_len W hi
        have hcH : H c = some (.lst ((rows.getD i []).map V.int)) := by
          obtain ⟨c', _, hc', hca'⟩ := M.at (z := 0 + (i : Int)) (by omega) (by omega)
          rw [ei] at hc' hca'
          rw [hca] at hca'
          cases hca'
          exact hc'
        refine ⟨_, rfl, _, rfl, _, _, _, _, rfl, rfl, M3.sq, hat, c, rfl, ⟨_, SqL.of hc⟩, for_list (K := K) (a := c) (xs := (rows.getD i []).map V.int) (fun m σ H4 => ∃ (fb : List Bool) (x4 : Option V), σ = [some (.ref R), some (.ref fA), some (.int (0 + (j : Int))), some (.int (0 + (i : Int))), x4] ∧ H4 fA = some (.lst (fb.map V.bl)) ∧ Same H H4 ∧ fb.length = rows.length ∧ (∀ i, i < rows.length → fb.getD i false = true → rch rows i = true) ∧ (∀ i, reachN rows j i = true → fb.getD i false = true) ∧ (∀ i', i' < i → reachN rows (j + 1) i' = true → fb.getD i' false = true) ∧ ((∃ e ∈ (rows.getD i []).take m, e = -1 ∨ 0 ≤ e ∧ reachN rows j e.toNat = true) → fb.getD i false = true)) ⟨fb, x4, rfl, e3, s3, l3, snd, cmp, nw, fun ⟨e, he, _⟩ => by cases he⟩ (fun m σ H4 _ ⟨_, _, _, _, s4, _⟩ => SqL.of (s4 _ _ hcH)) ?_ ?_⟩
        · rintro m x σ H4 hx ⟨fb, x4, rfl, e4, s4, l4, snd, cmp, nw, tk⟩
          have hm : m < (rows.getD i []).length := by have := (List.getElem?_eq_some_iff.mp hx).1; simpa using this
          obtain ⟨e, he, rfl⟩ : ∃ e, (rows.getD i [])[m]? = some e ∧ x = V.int e := by
            rw [List.getElem?_map, List.getElem?_eq_getElem hm] at hx
            exact ⟨_, List.getElem?_eq_getElem hm, (Option.some.inj hx).symm⟩
          have hem : e ∈ rows.getD i [] := List.mem_of_getElem? he
          obtain ⟨b0, b1⟩ := (wr _ (gD_mem hi)).2.2 e hem
          have tk1 : (rows.getD i []).take (m + 1) = (rows.getD i []).take m ++ [e] := by rw [List.take_add_one, he]; rfl
          have put : rch rows i = true → ∃ fb' : List Bool, (fb.map V.bl).set i (V.bl true) = fb'.map V.bl ∧ fb'.length = rows.length ∧ (∀ i, i < rows.length → fb'.getD i false = true → rch rows i = true) ∧ (∀ i, reachN rows j i = true → fb'.getD i false = true) ∧ (∀ i', i' < i → reachN rows (j + 1) i' = true → fb'.getD i' false = true) ∧ fb'.getD i false = true := fun hri => by
            have up : ∀ k, fb.getD k false = true → (fb.set i true).getD k false = true := fun k z => by
              by_cases y : i = k
              · subst y; exact gD_set_self (by omega)
              · rw [gD_set_ne y]; exact z
            refine ⟨fb.set i true, map_set_blO _ _ _, by rw [List.length_set]; exact l4, fun k hk z => ?_, fun k z => up k (cmp k z), fun k hk z => up k (nw k hk z), gD_set_self (by omega)⟩
            by_cases y : i = k
            · subst y; exact hri
            · rw [gD_set_ne y] at z; exact snd k hk z
          have yes : rch rows i = true → upd H4 fA (.lst ((fb.map V.bl).set i (V.bl true))) = upd H4 fA (.lst ((fb.map V.bl).set i (V.bl true))) := fun _ => rfl
          refine ⟨_, rfl, _, _, rfl, rfl, _, rfl, ?_⟩
          by_cases hneg : e < 0
          · rw [decide_eq_true hneg]
            refine iteT ?_
            refine iteT ?_
            have hri : rch rows i = true := rch_step hem (.inl (by omega))
            obtain ⟨fb', p1, p2, p3, p4, p5, p6⟩ := put hri
            refine ⟨_, rfl, _, rfl, fA, _, _, _, rfl, rfl, e4, ixN_in (by omega) (by rw [List.length_map, l4]; omega), ?_⟩
            rw [ei, p1]
            exact ⟨fb', _, rfl, upd_same, same_upd s4 hfA, p2, p3, p4, p5, fun _ => p6⟩
          · rw [decide_eq_false hneg]
            refine iteF ?_
            refine ⟨_, rfl, _, rfl, _, _, _, _, rfl, rfl, SqL.of e4, at_bools (by omega) (by omega), _, rfl, ?_⟩
            cases hf : fb.getD e.toNat false with
            | true =>
              refine iteT ?_
              have hri : rch rows i = true := rch_step hem (.inr ⟨by omega, snd _ (by omega) hf⟩)
              obtain ⟨fb', p1, p2, p3, p4, p5, p6⟩ := put hri
              refine ⟨_, rfl, _, rfl, fA, _, _, _, rfl, rfl, e4, ixN_in (by omega) (by rw [List.length_map, l4]; omega), ?_⟩
              rw [ei, p1]
              exact ⟨fb', _, rfl, upd_same, same_upd s4 hfA, p2, p3, p4, p5, fun _ => p6⟩
            | false =>
              refine iteF ?_
              refine ⟨fb, _, rfl, e4, s4, l4, snd, cmp, nw, fun ⟨e', he', hx'⟩ => ?_⟩
              rw [tk1] at he'
              rcases List.mem_append.mp he' with z | z
              · exact tk ⟨e', z, hx'⟩
              · rw [List.mem_singleton.mp z] at hx'
                exfalso
                rcases hx' with y | ⟨_, y⟩
                · omega
                · rw [cmp _ y] at hf; cases hf
        · rintro σ H4 ⟨fb, x4, rfl, e4, s4, l4, snd, cmp, nw, tk⟩
          refine hD3 _ _ ⟨fb, _, _, rfl, e4, s4, l4, snd, cmp, fun i' hi' h' => ?_⟩
          by_cases y : i' = i
          · subst y
            refine tk ?_
            rw [List.length_map, List.take_length]
            rw [reachN] at h'
            obtain ⟨e, he, q'⟩ := List.any_eq_true.mp h'
            rw [Bool.or_eq_true, Bool.and_eq_true] at q'
            refine ⟨e, he, ?_⟩
            rcases q' with q' | ⟨q1, q2⟩
            · exact .inl (eq_of_beq q')
            · exact .inr ⟨of_decide_eq_true q1, q2⟩
          · exact nw i' (by omega) h'
      · rintro σ H3 ⟨fb, x3, x4, rfl, e3, s3, l3, snd, cmp, nw⟩
        exact hDD _ _ ⟨fb, _, _, _, rfl, e3, s3, l3, snd, fun i h' => nw i (reachN_lt h') h'⟩
    · rintro σ H2 ⟨fb, x2, x3, x4, rfl, e2, s2, l2, snd, cmp⟩
      have ef : fb = reachL rows := bools_reach l2 fun i hi => by
        rw [Bool.eq_iff_iff]
        exact ⟨snd i hi, cmp i⟩
      refine ⟨_, rfl, fA, _, rfl, .inl (SqL.of e2), rfl, flat_bools fb, ?_⟩
      show Q (.bl (!inV (.bl false) (fb.map V.bl))) _
      rw [notin_all, ef]
      exact q _ s2
theorem sc_refused : FnScope ["name"] ["name"] (defScope s_refused) := ⟨rfl, rfl, rfl, by decide +kernel, rfl, by decide +kernel, by decide +kernel⟩
theorem ok_refused (T : Txt K mg A) : FnH P w K mg base A.f_refused A.fd_refused ["name"] spRefused := by
  refine T.F_refused.okH sc_refused (fun vs H Q E h => ?_) (fun cdv A' outer s H vs Q h => ?_)
  · obtain ⟨z, rfl, _⟩ := h
    rfl
  · obtain ⟨z, rfl, q⟩ := h
    refine ⟨_, (pss_one (ps_ret (pe_tup (pa_cons pe_str (pa_cons (pv 0) pa_nil))))), ?_⟩
    exact ⟨_, rfl, small12 (by show 2 ≤ 100; decide), fun t ht => q t ht⟩
theorem sc_do : FnScope ["board", "deed", "kind"] ["board", "deed"] (defScope s_do) := ⟨rfl, rfl, rfl, by decide +kernel, rfl, by decide +kernel, by decide +kernel⟩
theorem ok_do (T : Txt K mg A) (G_load : FnOk P w K mg base (CX1 P w) 2 A.f_Bload A.fd_Bload ["self", "at", "many"] (spLoad A.C A.c_NoSite A.c_TooMany)) (G_turn_to : FnOk P w K mg base (CX1 P w) 2 A.f_Bturn_to A.fd_Bturn_to ["self", "at", "place"] (spTurn A.C A.c_NoSite A.c_NoPlace)) (G_step : FnOk P w K mg base (CX1 P w) 2 A.f_step A.fd_step ["board", "at"] (spStep A.C A.c_NoSite A.c_NoMarble)) (G_run : FnOk P w K mg base (CX1 P w) 6 A.f_run A.fd_run ["board", "most"] (spRun A.C A.c_NotOpen A.c_TooLong)) (G_run_back : FnOk P w K mg base (CX1 P w) 6 A.f_run_back A.fd_run_back ["board", "at", "most"] (spBack A.C A.c_NoSite A.c_NotOpen A.c_NotBare A.c_NotTree A.c_TooLong)) : FnOk P w K mg base (CX1 P w) 9 A.f_do A.fd_do ["board", "deed"] (spDo K A) := by
  refine T.F_do.okX sc_do (fun vs H Q E h => ?_) (fun cdv A' outer s H vs Q E hr h => ?_)
  · obtain ⟨p, dx, aR, as, aT, aL, aS, b, dA, d, rfl, _⟩ := h
    rfl
  · obtain ⟨p, dx, aR, as, aT, aL, aS, b, dA, d, rfl, B, O, hd, ok, tm, hsum, q1, q2⟩ := h
    refine ⟨_, (pss_cons (ps_set (i := 2) sc_do.nd rfl (Or.inl rfl) (pe_ix (ix_tupK (K := K) rfl) (pv 1) pe_int (fun _ _ => rfl)))
      (pss_cons (ps_if (pt_cmpR op_eq (pv 2) pe_str (nomark _))
        (pss_one (ps_ret (pe_meth (pv 0) T.cl_Board T.mt_load G_load (hr.mono (by decide)) T.bm_load .nil passX (pa_cons (pe_ix (ix_tupK (K := K) rfl) (pv 1) pe_int (fun _ _ => rfl)) (pa_cons (pe_ix (ix_tupK (K := K) rfl) (pv 1) pe_int (fun _ _ => rfl)) pa_nil)))))
        pss_nil)
      (pss_cons (ps_if (pt_cmpR op_eq (pv 2) pe_str (nomark _))
        (pss_one (ps_ret (pe_meth (pv 0) T.cl_Board T.mt_turn_to G_turn_to (hr.mono (by decide)) T.bm_turn_to .nil passX (pa_cons (pe_ix (ix_tupK (K := K) rfl) (pv 1) pe_int (fun _ _ => rfl)) (pa_cons (pe_ix (ix_tupK (K := K) rfl) (pv 1) pe_int (fun _ _ => rfl)) pa_nil)))))
        pss_nil)
      (pss_cons (ps_if (pt_cmpR op_eq (pv 2) pe_str (nomark _))
        (pss_one (ps_ret (pe_call G_step (hr.mono (by decide)) (by rfl) T.m_step T.k_step T.b_step .nil passX (pa_cons (pv 0) (pa_cons (pe_ix (ix_tupK (K := K) rfl) (pv 1) pe_int (fun _ _ => rfl)) pa_nil)))))
        pss_nil)
      (pss_cons (ps_if (pt_cmpR op_eq (pv 2) pe_str (nomark _))
        (pss_one (ps_ret (pe_call G_run (hr.mono (by decide)) (by rfl) T.m_run T.k_run T.b_run .nil passX (pa_cons (pv 0) (pa_cons (pe_ix (ix_tupK (K := K) rfl) (pv 1) pe_int (fun _ _ => rfl)) pa_nil)))))
        pss_nil)
      (pss_one (ps_ret (pe_call G_run_back (hr.mono (by decide)) (by rfl) T.m_run_back T.k_run_back T.b_run_back .nil passX (pa_cons (pv 0) (pa_cons (pe_ix (ix_tupK (K := K) rfl) (pv 1) pe_int (fun _ _ => rfl)) (pa_cons (pe_ix (ix_tupK (K := K) rfl) (pv 1) pe_int (fun _ _ => rfl)) pa_nil))))))))))), ?_⟩
    have nin : ∀ {x y : Addr}, x ∉ p :: aT :: aL :: aS :: aR :: as → y ∈ p :: aT :: aL :: aS :: aR :: as → x ≠ y := fun hx hy z => hx (by rw [z]; exact hy)
    have id3 : ∀ x ∈ [aT, aL, aS], x ∈ [aT, aL, aS] ∨ H x = none := fun x hx => .inl hx
    cases d with
    | load z y =>
      refine ⟨_, rfl, _, _, _, _, rfl, rfl, hd, at_list (n := 0) rfl rfl, ?_⟩
      refine ⟨_, rfl, rfl, _, rfl, ?_⟩
      refine ite2 (fun _ => ?_) (fun h => absurd (by decide +kernel) h)
      exact ⟨_, rfl, p, dx, _, rfl, B.ob, (by rfl), _, rfl, _, _, _, _, rfl, rfl, hd, at_list (n := 1) rfl rfl, _, rfl, _, _, _, _, rfl, rfl, hd, at_list (n := 2) rfl rfl, p, dx, aR, as, aT, aL, aS, b, z, y, rfl, B, O.L, ok.1.1, ok.1.2, fun n => q2 "NoSite" _ H (by simp [rcs]) (.inl ⟨n, rfl, rfl⟩) (Same.refl _), fun i h4 => q2 "TooMany" _ H (by simp [rcs]) (.inr (.inl ⟨i, h4, rfl, rfl⟩)) (Same.refl _), fun i h4 => q1 _ .non _ aT aL aS _ (.inr (.inr ⟨i, h4, rfl, rfl⟩)) rfl ⟨B.setL _, fun x o hx e => (by rw [upd_ne (nin hx (by simp))]; exact e), id3, upd_live⟩⟩
    | turn z y =>
      refine ⟨_, rfl, _, _, _, _, rfl, rfl, hd, at_list (n := 0) rfl rfl, ?_⟩
      refine ⟨_, rfl, rfl, _, rfl, ?_⟩
      refine ite2 (fun h => absurd h (by decide +kernel)) (fun _ => ?_)
      refine ⟨_, rfl, rfl, _, rfl, ?_⟩
      refine ite2 (fun _ => ?_) (fun h => absurd (by decide +kernel) h)
      exact ⟨_, rfl, p, dx, _, rfl, B.ob, (by rfl), _, rfl, _, _, _, _, rfl, rfl, hd, at_list (n := 1) rfl rfl, _, rfl, _, _, _, _, rfl, rfl, hd, at_list (n := 2) rfl rfl, p, dx, aR, as, aT, aL, aS, b, z, y, rfl, B, O.T.1, ok.1.1, ok.1.2, ok.2.1, ok.2.2, fun n => q2 "NoSite" _ H (by simp [rcs]) (.inl ⟨n, rfl, rfl⟩) (Same.refl _), fun i h4 => q2 "NoPlace" _ H (by simp [rcs]) (.inr (.inl ⟨i, h4, rfl, rfl⟩)) (Same.refl _), fun i h4 => q1 _ .non _ aT aL aS _ (.inr (.inr ⟨i, h4, rfl, rfl⟩)) rfl ⟨B.setT _, fun x o hx e => (by rw [upd_ne (nin hx (by simp))]; exact e), id3, upd_live⟩⟩
    | step z =>
      refine ⟨_, rfl, _, _, _, _, rfl, rfl, hd, at_list (n := 0) rfl rfl, ?_⟩
      refine ⟨_, rfl, rfl, _, rfl, ?_⟩
      refine ite2 (fun h => absurd h (by decide +kernel)) (fun _ => ?_)
      refine ⟨_, rfl, rfl, _, rfl, ?_⟩
      refine ite2 (fun h => absurd h (by decide +kernel)) (fun _ => ?_)
      refine ⟨_, rfl, rfl, _, rfl, ?_⟩
      refine ite2 (fun _ => ?_) (fun h => absurd (by decide +kernel) h)
      exact ⟨_, rfl, _, rfl, _, _, _, _, rfl, rfl, hd, at_list (n := 1) rfl rfl, p, dx, aR, as, aT, aL, aS, b, z, rfl, B, O, ok.1, ok.2, fun n => q2 "NoSite" _ H (by simp [rcs]) (.inl ⟨n, rfl, rfl⟩) (Same.refl _), fun i h4 => q2 "NoMarble" _ H (by simp [rcs]) (.inr (.inl ⟨i, h4, rfl, rfl⟩)) (Same.refl _), fun i h4 H' B' f' => q1 _ (.int _) _ aT aL aS _ (.inr (.inr ⟨i, h4, rfl, rfl⟩)) rfl ⟨B', fun x o hx e => (by rw [f' x hx]; exact e), id3, fun x o e => (by by_cases hx : x ∈ p :: aT :: aL :: aS :: aR :: as; exact board_in B' x hx; exact ⟨o, by rw [f' x hx]; exact e⟩)⟩⟩
    | run m =>
      refine ⟨_, rfl, _, _, _, _, rfl, rfl, hd, at_list (n := 0) rfl rfl, ?_⟩
      refine ⟨_, rfl, rfl, _, rfl, ?_⟩
      refine ite2 (fun h => absurd h (by decide +kernel)) (fun _ => ?_)
      refine ⟨_, rfl, rfl, _, rfl, ?_⟩
      refine ite2 (fun h => absurd h (by decide +kernel)) (fun _ => ?_)
      refine ⟨_, rfl, rfl, _, rfl, ?_⟩
      refine ite2 (fun h => absurd h (by decide +kernel)) (fun _ => ?_)
      refine ⟨_, rfl, rfl, _, rfl, ?_⟩
      refine ite2 (fun _ => ?_) (fun h => absurd (by decide +kernel) h)
      refine ⟨_, rfl, _, rfl, _, _, _, _, rfl, rfl, hd, at_list (n := 1) rfl rfl, p, dx, aR, as, aT, aL, aS, b, m, rfl, B, O, ok.1, ok.2, fun n H' s' => q2 "NotOpen" _ H' (by simp [rcs]) (.inl ⟨n, rfl, rfl⟩) s', fun o => ?_⟩
      obtain ⟨N, _, R⟩ := run_ex O (tm o) hsum
      refine ⟨N, R, fun hN aT' aL' aS' H' B' kp h1 h2 h3 => q1 _ (.int N) _ aT' aL' aS' _ (.inr ⟨o, N, R, .inr ⟨hN, rfl, rfl⟩⟩) rfl ⟨B', fun x o hx e => kp x o (nin hx (by simp)) e, fun x hx => ?_, fun x o e => (by by_cases hx : x = p; exact ⟨_, by rw [hx]; exact B'.ob⟩; exact ⟨o, kp x o hx e⟩)⟩, fun hN H' s' => q2 "TooLong" _ H' (by simp [rcs]) (.inr ⟨o, N, R, .inl ⟨hN, rfl, rfl⟩⟩) s'⟩
      simp only [List.mem_cons, List.not_mem_nil, or_false] at hx
      rcases hx with rfl | rfl | rfl
      · exact .inr h1
      · exact .inr h2
      · exact .inr h3
    | back z m =>
      refine ⟨_, rfl, _, _, _, _, rfl, rfl, hd, at_list (n := 0) rfl rfl, ?_⟩
      refine ⟨_, rfl, rfl, _, rfl, ?_⟩
      refine ite2 (fun h => absurd h (by decide +kernel)) (fun _ => ?_)
      refine ⟨_, rfl, rfl, _, rfl, ?_⟩
      refine ite2 (fun h => absurd h (by decide +kernel)) (fun _ => ?_)
      refine ⟨_, rfl, rfl, _, rfl, ?_⟩
      refine ite2 (fun h => absurd h (by decide +kernel)) (fun _ => ?_)
      refine ⟨_, rfl, rfl, _, rfl, ?_⟩
      refine ite2 (fun h => absurd h (by decide +kernel)) (fun _ => ?_)
      refine ⟨_, rfl, _, rfl, _, _, _, _, rfl, rfl, hd, at_list (n := 1) rfl rfl, _, rfl, _, _, _, _, rfl, rfl, hd, at_list (n := 2) rfl rfl, p, dx, aR, as, aT, aL, aS, b, z, m, rfl, B, O, tm, ok.1.1, ok.1.2, ok.2.1, ok.2.2, fun n H' s' => q2 "NoSite" _ H' (by simp [rcs]) (.inl ⟨n, rfl, rfl⟩) s', fun i n H' s' => q2 "NotOpen" _ H' (by simp [rcs]) (.inr ⟨i, .inl ⟨n, rfl, rfl⟩⟩) s', fun i o l H' s' => q2 "NotBare" _ H' (by simp [rcs]) (.inr ⟨i, .inr ⟨o, .inl ⟨l, rfl, rfl⟩⟩⟩) s', fun i o l t H' s' => q2 "NotTree" _ H' (by simp [rcs]) (.inr ⟨i, .inr ⟨o, .inr ⟨l, .inl ⟨t, rfl, rfl⟩⟩⟩⟩) s', fun i o l t k T x Bx hk H' s' => q2 "TooLong" _ H' (by simp [rcs]) (.inr ⟨i, .inr ⟨o, .inr ⟨l, .inr ⟨t, .inl ⟨k, T, x, Bx, hk, rfl, rfl⟩⟩⟩⟩⟩) s', fun i o l t N j T Bx Ax e _ tk hN aT' aL' aS' H' B' kp h1 h2 h3 => ?_⟩
      refine q1 _ (.int N) _ aT' aL' aS' _ (.inr ⟨i, .inr ⟨o, .inr ⟨l, .inr ⟨t, .inr ⟨N, j, T, Bx, Ax, e, tk, hN, rfl, rfl⟩⟩⟩⟩⟩) rfl ⟨B', fun x o hx e => kp x o (nin hx (by simp)) e, fun x hx => ?_, fun x o e => (by by_cases hx : x = p; exact ⟨_, by rw [hx]; exact B'.ob⟩; exact ⟨o, kp x o hx e⟩)⟩
      simp only [List.mem_cons, List.not_mem_nil, or_false] at hx
      rcases hx with rfl | rfl | rfl
      · exact .inr h1
      · exact .inr h2
      · exact .inr h3
theorem sc_answer_to : FnScope ["board", "deed"] ["board", "deed"] (defScope s_answer_to) := ⟨rfl, rfl, rfl, by decide +kernel, rfl, by decide +kernel, by decide +kernel⟩
theorem ok_answer_to (T : Txt K mg A) (G_do : FnOk P w K mg base (CX1 P w) 9 A.f_do A.fd_do ["board", "deed"] (spDo K A)) (GH_refused : FnH P w K mg base A.f_refused A.fd_refused ["name"] spRefused) : FnOk P w K mg base CX0 10 A.f_answer_to A.fd_answer_to ["board", "deed"] (spAnsTo K A) := by
  refine T.F_answer_to.ok sc_answer_to (fun vs H Q E h => ?_) (fun cdv A' outer s H vs Q E hr h => ?_)
  · obtain ⟨p, dx, aR, as, aT, aL, aS, b, dA, d, rfl, _⟩ := h
    rfl
  · obtain ⟨p, dx, aR, as, aT, aL, aS, b, dA, d, rfl, B, O, hd, ok, tm, hsum, q1⟩ := h
    refine ⟨_, (pss_one (ps_tryR rfl rfl (px_call G_do (hr.mono (by decide)) (by rfl) T.m_do T.k_do T.b_do (pa_cons (pv 0) (pa_cons (pv 1) pa_nil)))
        (ph_cons (by rfl) T.m_NoSite T.x_NoSite T.kb_NoSite (by exact fun _ => (pss_one (ps_ret (pe_callH GH_refused (by exact hr.depth) (by rfl) T.m_refused T.k_refused T.b_refused (pa_cons pe_str pa_nil))))) (ph_cons (by rfl) T.m_NoPlace T.x_NoPlace T.kb_NoPlace (by exact fun _ => (pss_one (ps_ret (pe_callH GH_refused (by exact hr.depth) (by rfl) T.m_refused T.k_refused T.b_refused (pa_cons pe_str pa_nil))))) (ph_cons (by rfl) T.m_NoMarble T.x_NoMarble T.kb_NoMarble (by exact fun _ => (pss_one (ps_ret (pe_callH GH_refused (by exact hr.depth) (by rfl) T.m_refused T.k_refused T.b_refused (pa_cons pe_str pa_nil))))) (ph_cons (by rfl) T.m_TooMany T.x_TooMany T.kb_TooMany (by exact fun _ => (pss_one (ps_ret (pe_callH GH_refused (by exact hr.depth) (by rfl) T.m_refused T.k_refused T.b_refused (pa_cons pe_str pa_nil))))) (ph_cons (by rfl) T.m_NotOpen T.x_NotOpen T.kb_NotOpen (by exact fun _ => (pss_one (ps_ret (pe_callH GH_refused (by exact hr.depth) (by rfl) T.m_refused T.k_refused T.b_refused (pa_cons pe_str pa_nil))))) (ph_cons (by rfl) T.m_NotBare T.x_NotBare T.kb_NotBare (by exact fun _ => (pss_one (ps_ret (pe_callH GH_refused (by exact hr.depth) (by rfl) T.m_refused T.k_refused T.b_refused (pa_cons pe_str pa_nil))))) (ph_cons (by rfl) T.m_NotTree T.x_NotTree T.kb_NotTree (by exact fun _ => (pss_one (ps_ret (pe_callH GH_refused (by exact hr.depth) (by rfl) T.m_refused T.k_refused T.b_refused (pa_cons pe_str pa_nil))))) (ph_cons (by rfl) T.m_TooLong T.x_TooLong T.kb_TooLong (by exact fun _ => (pss_one (ps_ret (pe_callH GH_refused (by exact hr.depth) (by rfl) T.m_refused T.k_refused T.b_refused (pa_cons pe_str pa_nil))))) ph_nil)))))))))), ?_⟩
    refine ⟨fun cls _ H' => ∃ s c, cls = .ref c ∧ (s, c) ∈ rcs A ∧ Does b d b (.ref s) ∧ Same H H', ⟨_, rfl, _, rfl, p, dx, aR, as, aT, aL, aS, b, dA, d, rfl, B, O, hd, ok, tm, hsum, q1, fun s c H' m D S => ⟨s, c, rfl, m, D, S⟩⟩, ?_⟩
    rintro cls H' ⟨s', c, rfl, m, Dd, S⟩
    simp only [rcs, List.mem_cons, List.not_mem_nil, or_false, Prod.mk.injEq] at m
    rcases m with ⟨rfl, rfl⟩ | ⟨rfl, rfl⟩ | ⟨rfl, rfl⟩ | ⟨rfl, rfl⟩ | ⟨rfl, rfl⟩ | ⟨rfl, rfl⟩ | ⟨rfl, rfl⟩ | ⟨rfl, rfl⟩
    · exact .inl ⟨rfl, ⟨_, rfl, fun t ht => q1 b (.ref _) _ aT aL aS _ Dd ⟨t, rfl, upd_same⟩ (left_same B (same_upd S (S.free ht)))⟩⟩
    · exact .inr ⟨_, false, rfl, T.ne_NoPlace_NoSite, T.p_NoPlace_NoSite, iteF (.inl ⟨rfl, ⟨_, rfl, fun t ht => q1 b (.ref _) _ aT aL aS _ Dd ⟨t, rfl, upd_same⟩ (left_same B (same_upd S (S.free ht)))⟩⟩)⟩
    · exact .inr ⟨_, false, rfl, T.ne_NoMarble_NoSite, T.p_NoMarble_NoSite, iteF (.inr ⟨_, false, rfl, T.ne_NoMarble_NoPlace, T.p_NoMarble_NoPlace, iteF (.inl ⟨rfl, ⟨_, rfl, fun t ht => q1 b (.ref _) _ aT aL aS _ Dd ⟨t, rfl, upd_same⟩ (left_same B (same_upd S (S.free ht)))⟩⟩)⟩)⟩
    · exact .inr ⟨_, false, rfl, T.ne_TooMany_NoSite, T.p_TooMany_NoSite, iteF (.inr ⟨_, false, rfl, T.ne_TooMany_NoPlace, T.p_TooMany_NoPlace, iteF (.inr ⟨_, false, rfl, T.ne_TooMany_NoMarble, T.p_TooMany_NoMarble, iteF (.inl ⟨rfl, ⟨_, rfl, fun t ht => q1 b (.ref _) _ aT aL aS _ Dd ⟨t, rfl, upd_same⟩ (left_same B (same_upd S (S.free ht)))⟩⟩)⟩)⟩)⟩
    · exact .inr ⟨_, false, rfl, T.ne_NotOpen_NoSite, T.p_NotOpen_NoSite, iteF (.inr ⟨_, false, rfl, T.ne_NotOpen_NoPlace, T.p_NotOpen_NoPlace, iteF (.inr ⟨_, false, rfl, T.ne_NotOpen_NoMarble, T.p_NotOpen_NoMarble, iteF (.inr ⟨_, false, rfl, T.ne_NotOpen_TooMany, T.p_NotOpen_TooMany, iteF (.inl ⟨rfl, ⟨_, rfl, fun t ht => q1 b (.ref _) _ aT aL aS _ Dd ⟨t, rfl, upd_same⟩ (left_same B (same_upd S (S.free ht)))⟩⟩)⟩)⟩)⟩)⟩
    · exact .inr ⟨_, false, rfl, T.ne_NotBare_NoSite, T.p_NotBare_NoSite, iteF (.inr ⟨_, false, rfl, T.ne_NotBare_NoPlace, T.p_NotBare_NoPlace, iteF (.inr ⟨_, false, rfl, T.ne_NotBare_NoMarble, T.p_NotBare_NoMarble, iteF (.inr ⟨_, false, rfl, T.ne_NotBare_TooMany, T.p_NotBare_TooMany, iteF (.inr ⟨_, false, rfl, T.ne_NotBare_NotOpen, T.p_NotBare_NotOpen, iteF (.inl ⟨rfl, ⟨_, rfl, fun t ht => q1 b (.ref _) _ aT aL aS _ Dd ⟨t, rfl, upd_same⟩ (left_same B (same_upd S (S.free ht)))⟩⟩)⟩)⟩)⟩)⟩)⟩
    · exact .inr ⟨_, false, rfl, T.ne_NotTree_NoSite, T.p_NotTree_NoSite, iteF (.inr ⟨_, false, rfl, T.ne_NotTree_NoPlace, T.p_NotTree_NoPlace, iteF (.inr ⟨_, false, rfl, T.ne_NotTree_NoMarble, T.p_NotTree_NoMarble, iteF (.inr ⟨_, false, rfl, T.ne_NotTree_TooMany, T.p_NotTree_TooMany, iteF (.inr ⟨_, false, rfl, T.ne_NotTree_NotOpen, T.p_NotTree_NotOpen, iteF (.inr ⟨_, false, rfl, T.ne_NotTree_NotBare, T.p_NotTree_NotBare, iteF (.inl ⟨rfl, ⟨_, rfl, fun t ht => q1 b (.ref _) _ aT aL aS _ Dd ⟨t, rfl, upd_same⟩ (left_same B (same_upd S (S.free ht)))⟩⟩)⟩)⟩)⟩)⟩)⟩)⟩
    · exact .inr ⟨_, false, rfl, T.ne_TooLong_NoSite, T.p_TooLong_NoSite, iteF (.inr ⟨_, false, rfl, T.ne_TooLong_NoPlace, T.p_TooLong_NoPlace, iteF (.inr ⟨_, false, rfl, T.ne_TooLong_NoMarble, T.p_TooLong_NoMarble, iteF (.inr ⟨_, false, rfl, T.ne_TooLong_TooMany, T.p_TooLong_TooMany, iteF (.inr ⟨_, false, rfl, T.ne_TooLong_NotOpen, T.p_TooLong_NotOpen, iteF (.inr ⟨_, false, rfl, T.ne_TooLong_NotBare, T.p_TooLong_NotBare, iteF (.inr ⟨_, false, rfl, T.ne_TooLong_NotTree, T.p_TooLong_NotTree, iteF (.inl ⟨rfl, ⟨_, rfl, fun t ht => q1 b (.ref _) _ aT aL aS _ Dd ⟨t, rfl, upd_same⟩ (left_same B (same_upd S (S.free ht)))⟩⟩)⟩)⟩)⟩)⟩)⟩)⟩)⟩
theorem sc_play : FnScope ["board", "deeds", "answers", "deed"] ["board", "deeds"] (defScope s_play) := ⟨rfl, rfl, rfl, by decide +kernel, rfl, by decide +kernel, by decide +kernel⟩
theorem ok_play (T : Txt K mg A) (G_answer_to : FnOk P w K mg base CX0 10 A.f_answer_to A.fd_answer_to ["board", "deed"] (spAnsTo K A)) : FnOk P w K mg base CX0 11 A.f_play A.fd_play ["board", "deeds"] (spPlay K A) := by
  refine T.F_play.ok sc_play (fun vs H Q E h => ?_) (fun cdv A' outer s H vs Q E hr h => ?_)
  · obtain ⟨p, dx, aR, as, aT, aL, aS, b, dsA, das, ds, rfl, _⟩ := h
    rfl
  · obtain ⟨p, dx, aR, as, aT, aL, aS, b, dsA, das, ds, rfl, B, O, hD, nD, hlen, hds, tm, hsum, h100, q⟩ := h
    refine ⟨_, (pss_cons (ps_set (i := 2) sc_play.nd rfl (Or.inl rfl) (pe_lst pa_nil))
      (pss_cons (ps_for PassesOwn.never rfl (pi_listK (K := K) rfl (pv 1)) (pg_name (i := 3) sc_play.nd rfl (Or.inl rfl))
        (pss_one (ps_expr (pe_bm PySem.F.plainAttrs_list PySem.F.slot_list_append PySem.F.type_list_append mt_append (pv 2) (pa_cons (pe_call G_answer_to (hr.mono (by decide)) (by rfl) T.m_answer_to T.k_answer_to T.b_answer_to .nil pass0 (pa_cons (pv 0) (pa_cons (pv 3) pa_nil))) pa_nil)))))
      (pss_one (ps_ret (pv 2))))), ?_⟩
    refine ⟨small12 (by show 0 ≤ 100; decide), fun LA hLA => ?_⟩
    have s1 : Same H (upd H LA (.lst [])) := same_new hLA
    have e1 : (upd H LA (.lst [])) LA = some (.lst []) := upd_same
    have nLA : LA ∉ p :: aT :: aL :: aS :: aR :: as := fun z => by obtain ⟨o, e⟩ := board_in B LA z; rw [hLA] at e; cases e
    dsimp only [gName]
    generalize upd H LA (.lst []) = H1 at s1 e1
    refine ⟨_, rfl, dsA, rfl, ⟨_, SqL.of (s1 _ _ hD)⟩, ?_⟩
    refine for_list (K := K) (a := dsA) (xs := das.map V.ref) (fun i σ H2 => ∃ (b2 : Brd) (ans : List Ans) (rs : List V) (aT2 aL2 aS2 : Addr) (x3 : Option V), σ = [some (.ref p), some (.ref dsA), some (.ref LA), x3] ∧ Plays b (ds.take i) b2 ans ∧ BrdOk b2 ∧ b2.rows = b.rows ∧ b2.loads.sum ≤ b.loads.sum + 2 * (i : Int) ∧ H2 LA = some (.lst rs) ∧ rs.length = i ∧ ans.length = i ∧ (∀ (j : Nat) a v, ans[j]? = some a → rs[j]? = some v → AnsV H2 a v) ∧ LA ∉ p :: aT2 :: aL2 :: aS2 :: aR :: as ∧ Left A.C H H2 p dx aR as aT aL aS aT2 aL2 aS2 b2)
      ⟨b, [], [], aT, aL, aS, none, rfl, by rw [List.take_zero]; exact .nil, O, rfl, by show b.loads.sum ≤ b.loads.sum + 2 * 0; omega, e1, rfl, rfl, fun j a v ea => by simp at ea, nLA, left_same B s1⟩ (fun i σ H2 _ ⟨b2, ans, rs, aT2, aL2, aS2, x3, _, _, _, _, _, _, _, _, _, _, L2⟩ => SqL.of (L2.k _ _ nD hD)) ?_ ?_
    · rintro i x σ H2 hx ⟨b2, ans, rs, aT2, aL2, aS2, x3, rfl, P2, O2, hrows, hsm, eL, hrl, hal, hans, nL2, L2⟩
      rw [List.getElem?_map] at hx
      cases ed : das[i]? with
      | none => rw [ed] at hx; cases hx
      | some da =>
      rw [ed] at hx
      cases hx
      have hi : i < ds.length := by rw [← hlen]; exact (List.getElem?_eq_some_iff.mp ed).1
      have ed2 : ds[i]? = some ds[i] := List.getElem?_eq_getElem hi
      obtain ⟨hda, okd, nda⟩ := hds i da _ ed ed2
      refine ⟨_, rfl, .inl ⟨rfl, _, SqL.of eL⟩, _, rfl, _, rfl, p, dx, aR, as, aT2, aL2, aS2, b2, da, ds[i], rfl, L2.B, O2, SqT.of (L2.k _ _ nda hda), okd, by rw [hrows]; exact tm, by omega, fun b3 a v aT3 aL3 aS3 H3 Dd av L3 => ?_⟩
      have eL3 := L3.k _ _ nL2 eL
      refine ⟨LA, _, _, rfl, rfl, eL3, small1000 (by omega), ?_⟩
      obtain ⟨O3, r3, m3⟩ := does_ok O2 okd Dd
      have nL3 := L3.out eL nL2
      have L4 : Left A.C H2 (upd H3 LA (.lst (rs ++ [v]))) p dx aR as aT2 aL2 aS2 aT3 aL3 aS3 b3 → Left A.C H (upd H3 LA (.lst (rs ++ [v]))) p dx aR as aT aL aS aT3 aL3 aS3 b3 := fun M => L2.trans M
      have B4 : BoardAt A.C (upd H3 LA (.lst (rs ++ [v]))) p dx aR as aT3 aL3 aS3 b3 := L3.B.upd nL3
      have up : ∀ {t : Addr} {l : List V}, H3 t = some (.tup l) → (upd H3 LA (.lst (rs ++ [v]))) t = some (.tup l) := fun {t l} e => by
        rw [upd_ne (fun z => by rw [z, eL3] at e; cases e)]
        exact e
      refine ⟨b3, ans ++ [a], rs ++ [v], aT3, aL3, aS3, _, rfl, ?_, O3, r3.trans hrows, by omega, upd_same, by simp [hrl], by simp [hal], fun j a' v' ea ev => ?_, nL3, ?_⟩
      · rw [List.take_add_one, ed2]
        exact .snoc P2 Dd
      · by_cases hj : j < i
        · rw [List.getElem?_append_left (by omega)] at ea ev
          have h0 := hans j a' v' ea ev
          cases a' with
          | non => exact h0
          | int z => exact h0
          | ref z =>
            obtain ⟨t, e, ht⟩ := h0
            exact ⟨t, e, up (L3.k _ _ (board_nt L2.B ht) ht)⟩
        · rw [List.getElem?_append_right (by omega)] at ea ev
          have z0 : j - ans.length = 0 := by
            have := (List.getElem?_eq_some_iff.mp ea).1
            simp at this
            omega
          have z1 : j - rs.length = 0 := by omega
          rw [z0] at ea
          rw [z1] at ev
          have e1 : a = a' := by simpa using ea
          have e2 : v = v' := by simpa using ev
          subst e1
          subst e2
          cases a with
          | non => exact av
          | int z => exact av
          | ref z => obtain ⟨t, e, ht⟩ := av; exact ⟨t, e, up ht⟩
      · -- what is left
        refine ⟨B4, fun x o hx e => ?_, fun x hx => ?_, fun x o e => ?_⟩
        · have e2 := (L2.trans L3).k x o hx e
          rw [upd_ne (fun z => by rw [z, hLA] at e; cases e)]
          exact e2
        · exact (L2.trans L3).f x hx
        · obtain ⟨o', e'⟩ := (L2.trans L3).l x o e
          exact upd_live x o' e'
    · rintro σ H2 ⟨b2, ans, rs, aT2, aL2, aS2, x3, rfl, P2, O2, hrows, hsm, eL, hrl, hal, hans, nL2, L2⟩
      rw [List.length_map, hlen, List.take_length] at P2
      exact ⟨_, rfl, q b2 ans rs LA aT2 aL2 aS2 H2 P2 eL (by omega) hans L2⟩
theorem sc_any_by : FnScope ["script", "most", "wide", "many", "rows", "k", "at", "size", "row"] ["script", "most", "wide"] (defScope s_any_by) := ⟨rfl, rfl, rfl, by decide +kernel, rfl, by decide +kernel, by decide +kernel⟩
theorem ok_any_by (T : Txt K mg A) (G_drawn : FnOk P w K mg base CX0 1 A.f_drawn A.fd_drawn ["script", "k", "many"] (spDrawn K)) : FnOk P w K mg base CX0 2 A.f_any_by A.fd_any_by ["script", "most", "wide"] (spAnyW K) := by
  refine T.F_any_by.ok sc_any_by (fun vs H Q E h => ?_) (fun cdv A' outer s H vs Q E hr h => ?_)
  · obtain ⟨a, ns, most, wide, rfl, _⟩ := h
    rfl
  · obtain ⟨a, ns, most, wide, rfl, hS, m1, m2, v1, v2, q⟩ := h
    refine ⟨_, (pss_cons (ps_set (i := 3) sc_any_by.nd rfl (Or.inr rfl) (pe_op op_add pe_int (pe_call G_drawn (hr.mono (by decide)) (by rfl) T.m__law_drawn T.k__law_drawn T.b__law_drawn .nil pass0 (pa_cons (pv 0) (pa_cons pe_int (pa_cons (pv 1) pa_nil))))))
      (pss_cons (ps_set (i := 4) sc_any_by.nd rfl (Or.inl rfl) (pe_lst pa_nil))
      (pss_cons (ps_for PassesOwn.never rfl (pi_range1 (by rfl) T.n_range (pa_cons (pv 3) pa_nil)) (pg_name (i := 5) sc_any_by.nd rfl (Or.inl rfl))
        (pss_cons (ps_set (i := 6) sc_any_by.nd rfl (Or.inr rfl) (pe_op op_add pe_int (pe_op op_mul pe_int (pv 5))))
        (pss_cons (ps_set (i := 7) sc_any_by.nd rfl (Or.inl rfl) (pe_op op_add pe_int (pe_call G_drawn (hr.mono (by decide)) (by rfl) T.m__law_drawn T.k__law_drawn T.b__law_drawn .nil pass0 (pa_cons (pv 0) (pa_cons (pv 6) (pa_cons (pv 2) pa_nil))))))
        (pss_cons (ps_setComp (i := 8) sc_any_by.nd rfl rfl (CompSc.of (N' := ["j", "script", "at", "many"]) (ix := [none, some 0, some 6, some 3]) rfl (by kernel_rfl)) rfl rfl rfl rfl (pi_range1 (by rfl) T.n_range (pa_cons (pv 7) pa_nil)) (by exact fun _ _ _ _ _ => pf_nil) (by exact fun _ _ _ _ _ => (pe_call G_drawn (hr.mono (by decide)) (by rfl) T.m__law_drawn T.k__law_drawn T.b__law_drawn .nil pass0 (pa_cons (pv 1) (pa_cons (pe_op op_add (pe_op op_add (pv 2) pe_int) (pv 0)) (pa_cons (pv 3) pa_nil))))))
        (pss_cons (ps_if (pt_cmpR op_eq (pe_call G_drawn (hr.mono (by decide)) (by rfl) T.m__law_drawn T.k__law_drawn T.b__law_drawn .nil pass0 (pa_cons (pv 0) (pa_cons (pe_op op_add (pv 6) pe_int) (pa_cons pe_int pa_nil)))) pe_int (nomark _))
          (pss_one (ps_asg (pe_un un_neg pe_int) (pg_sub (pv 8) (pe_call G_drawn (hr.mono (by decide)) (by rfl) T.m__law_drawn T.k__law_drawn T.b__law_drawn .nil pass0 (pa_cons (pv 0) (pa_cons (pe_op op_add (pv 6) pe_int) (pa_cons (pv 7) pa_nil)))) set_list)))
          pss_nil)
        (pss_one (ps_expr (pe_bm PySem.F.plainAttrs_list PySem.F.slot_list_append PySem.F.type_list_append mt_append (pv 4) (pa_cons (pv 8) pa_nil)))))))))
      (pss_one (ps_ret (pv 4)))))), ?_⟩
    have d1 := drawn_nn ns 1 (many := most) (by omega)
    have d2 := drawn_lt ns 1 (many := most) (by omega)
    refine ⟨_, rfl, _, rfl, a, ns, 1, most, rfl, hS, by omega, by decide, by decide, _, _, rfl, rfl, ?_⟩
    dsimp only
    have hm1 : 1 ≤ 1 + drawn ns 1 most := by omega
    have hm12 : 1 + drawn ns 1 most ≤ 12 := by omega
    have hmM : 1 + drawn ns 1 most ≤ most := by omega
    generalize 1 + drawn ns 1 most = many at hm1 hm12 hmM
    refine ⟨small12 (by simp), fun R hR => ?_⟩
    have M0 := Mat.new (H := upd H R (.lst [])) (R := R) upd_same
    refine ⟨_, rfl, _, rfl, by omega, by omega, ?_⟩
    refine for_rangeN (fun i σ H2 => ∃ (as : List Addr) (rows : List (List Int)) (x5 x6 x7 x8 : Option V), σ = [some (.ref a), some (.int most), some (.int wide), some (.int many), some (.ref R), x5, x6, x7, x8] ∧ Mat H2 R as rows ∧ rows.length = i ∧ (∀ r ∈ rows, RowOk many.toNat r ∧ (r.length : Int) ≤ wide) ∧ Same H H2 ∧ ∀ c ∈ R :: as, H c = none)
      ⟨[], [], none, none, none, none, rfl, M0, rfl, (fun _ z => by cases z), same_new hR, fun c hc => by rw [List.mem_singleton.mp hc]; exact hR⟩ ?_ ?_
    · rintro i σ H2 hi ⟨as, rows, x5, x6, x7, x8, rfl, M, hlen, hrow, s2, fr⟩ DD hDD
      have hS2 : SqL K H2 a (ns.map V.int) := s2.seq hS
      have hI : i < 100 := by omega
      have hw0 : 0 < wide := by omega
      have hm0 : 0 < many := by omega
      have b1 := drawn_nn ns (10 + 20 * (0 + (i : Int))) hw0
      have b2 := drawn_lt ns (10 + 20 * (0 + (i : Int))) hw0
      refine ⟨_, rfl, _, _, rfl, rfl, .inl ⟨by decide, by decide⟩, _, _, rfl, rfl, ?_⟩
      refine ⟨_, rfl, _, rfl, _, rfl, a, ns, _, wide, rfl, hS2, hw0, (kb10 hI).1, (kb10 hI).2, _, _, rfl, rfl, ?_⟩
      dsimp only
      have hz1 : 1 ≤ 1 + drawn ns (10 + 20 * (0 + (i : Int))) wide := by omega
      have hz8 : 1 + drawn ns (10 + 20 * (0 + (i : Int))) wide ≤ 8 := by omega
      have hzw : 1 + drawn ns (10 + 20 * (0 + (i : Int))) wide ≤ wide := by omega
      generalize 1 + drawn ns (10 + 20 * (0 + (i : Int))) wide = sz at hz1 hz8 hzw
      refine ⟨_, rfl, _, rfl, by omega, by omega, ?_⟩
      refine comp_pure (ys := ((List.range sz.toNat).map fun (j : Nat) => drawn ns (10 + 20 * (0 + (i : Int)) + 3 + (0 + (j : Int))) many).map V.int) wk_range (by rw [List.length_map, List.length_range]; exact small12 (by omega)) (by simp) (fun j x y ex ey Q' q' => ?_) (fun D hD => ?_)
      · rw [List.getElem?_map] at ex ey
        rw [List.getElem?_map] at ey
        cases er : (List.range sz.toNat)[j]? with
        | none => rw [er] at ex; cases ex
        | some j' =>
          rw [er] at ex ey
          cases ex
          cases ey
          obtain ⟨hj1, hj2⟩ := List.getElem?_eq_some_iff.mp er
          rw [List.getElem_range] at hj2
          rw [List.length_range] at hj1
          have hJ : j < 100 := by omega
          subst hj2
          exact ⟨_, rfl, _, rfl, _, _, rfl, rfl, _, rfl, _, _, rfl, rfl, _, rfl, a, ns, _, _, rfl, hS2, hm0, (kb13 hI hJ).1, (kb13 hI hJ).2, q'⟩
      have rb : ∀ e ∈ ((List.range sz.toNat).map fun (j : Nat) => drawn ns (10 + 20 * (0 + (i : Int)) + 3 + (0 + (j : Int))) many), -1 ≤ e ∧ e < many := fun e he => by
        obtain ⟨j, _, rfl⟩ := List.mem_map.mp he
        have := drawn_nn ns (10 + 20 * (0 + (i : Int)) + 3 + (0 + (j : Int))) hm0
        have := drawn_lt ns (10 + 20 * (0 + (i : Int)) + 3 + (0 + (j : Int))) hm0
        omega
      have rl : ((List.range sz.toNat).map fun (j : Nat) => drawn ns (10 + 20 * (0 + (i : Int)) + 3 + (0 + (j : Int))) many).length = sz.toNat := by simp
      generalize ((List.range sz.toNat).map fun (j : Nat) => drawn ns (10 + 20 * (0 + (i : Int)) + 3 + (0 + (j : Int))) many) = row at rb rl
      have hS3 : ∀ o, SqL K (upd H2 D o) a (ns.map V.int) := fun o => (same_new hD).seq hS2
      dsimp only [gName]
      refine seq_mk' (fun σ' H' => ∃ row' : List Int, σ' = [some (.ref a), some (.int most), some (.int wide), some (.int many), some (.ref R), some (.int (0 + (i : Int))), some (.int (10 + 20 * (0 + (i : Int)))), some (.int sz), some (.ref D)] ∧ H' = upd H2 D (.lst (row'.map V.int)) ∧ RowOk many.toNat row' ∧ (row'.length : Int) ≤ wide) ?rest (fun D1 rest => ?way)
      case way =>
        refine ⟨_, rfl, _, rfl, _, _, rfl, rfl, a, ns, _, 3, rfl, hS3 _, by decide, (kb11 hI).1, (kb11 hI).2, rfl, _, rfl, ?_⟩
        refine ite2 (fun _ => ?_) (fun _ => rest _ _ ⟨row, rfl, rfl, ⟨by omega, by omega, fun e he => by have := rb e he; omega⟩, by omega⟩)
        have c1 := drawn_nn ns (10 + 20 * (0 + (i : Int)) + 2) (many := sz) (ps1 hz1)
        have c2 := drawn_lt ns (10 + 20 * (0 + (i : Int)) + 2) (many := sz) (ps1 hz1)
        refine ⟨_, rfl, _, rfl, _, rfl, _, rfl, _, _, rfl, rfl, _, rfl, a, ns, _, _, rfl, hS3 _, ps1 hz1, (kb12 hI).1, (kb12 hI).2, D, _, _, _, rfl, rfl, upd_same, ixN_in c1 (by rw [List.length_map, rl]; omega), ?_⟩
        rw [map_set_int, upd_upd]
        refine rest _ _ ⟨_, rfl, rfl, ⟨by rw [List.length_set]; omega, by rw [List.length_set]; omega, fun e he => ?_⟩, by rw [List.length_set]; omega⟩
        rcases List.mem_or_eq_of_mem_set he with y | y
        · have := rb e y; omega
        · omega
      rintro σ' H' ⟨row', rfl, rfl, hrw⟩
      have hDn : D ∉ R :: as := fun z => by
        rcases List.mem_cons.mp z with z | z
        · rw [z, M.hd] at hD; cases hD
        · obtain ⟨n, hn, e⟩ := List.getElem_of_mem z
          obtain ⟨a', e1, e2, _⟩ := M.get (i := n) (by rw [← M.len]; exact hn)
          rw [List.getElem?_eq_getElem hn, e] at e1
          cases e1
          rw [hD] at e2; cases e2
      have hRD : R ≠ D := fun z => hDn (by rw [← z]; exact List.mem_cons_self)
      have hR3 : (upd H2 D (.lst (row'.map V.int))) R = some (.lst (as.map V.ref)) := by rw [upd_ne hRD]; exact M.hd
      refine ⟨_, rfl, .inl ⟨rfl, _, SqL.of hR3⟩, _, rfl, R, _, _, rfl, rfl, hR3, (by rw [M.reflen]; exact small1000 (by omega)), ?_⟩
      refine hDD _ _ ⟨as ++ [D], _, _, _, _, _, rfl, (M.upd (b := D) hDn).snoc (D := D) upd_same hDn, by rw [List.length_append, List.length_singleton, hlen], fun r hr => ?_, ?_, fun c hc => ?_⟩
      · rcases List.mem_append.mp hr with z | z
        · exact hrow r z
        · rw [List.mem_singleton.mp z]; exact hrw
      · exact same_upd (same_upd s2 (s2.free hD)) (fr R List.mem_cons_self)
      · rcases List.mem_cons.mp hc with z | z
        · rw [z]; exact fr R List.mem_cons_self
        · rcases List.mem_append.mp z with z | z
          · exact fr c (List.mem_cons_of_mem _ z)
          · rw [List.mem_singleton.mp z]; exact s2.free hD
    · rintro σ H2 ⟨as, rows, x5, x6, x7, x8, rfl, M, hlen, hrow, s2, fr⟩
      exact ⟨_, rfl, q R as rows H2 ⟨by omega, by omega, fun r hr => by rw [hlen]; exact (hrow r hr).1⟩ (by omega) (fun r hr => (hrow r hr).2) M s2 fr⟩
theorem sc_ahead : FnScope ["rows", "turns", "start", "spot", "here", "lap", "gone"] ["rows", "turns", "start", "spot"] (defScope s_ahead) := ⟨rfl, rfl, rfl, by decide +kernel, rfl, by decide +kernel, by decide +kernel⟩
theorem ok_ahead (T : Txt K mg A) : FnOk P w K mg base CX0 1 A.f_ahead A.fd_ahead ["rows", "turns", "start", "spot"] (spAhd K) := by
  refine T.F_ahead.ok sc_ahead (fun vs H Q E h => ?_) (fun cdv A' outer s H vs Q E hr h => ?_)
  · obtain ⟨R, tA, as, rows, ts, st, x, m, rfl, _⟩ := h
    rfl
  · obtain ⟨R, tA, as, rows, ts, st, x, m, rfl, M, hT, W, tk, s0, s1, x0, x1, A1, q⟩ := h
    refine ⟨_, (pss_cons (ps_set (i := 4) sc_ahead.nd rfl (Or.inl rfl) (pv 3))
      (pss_cons (ps_for PassesOwn.never rfl (pi_range1 (by rfl) T.n_range (pa_cons (pe_op op_add (pe_callB (call_lenK (K := K) rfl) (by rfl) T.n_len PySem.boot_len (pa_cons (pv 0) pa_nil)) pe_int) pa_nil)) (pg_name (i := 5) sc_ahead.nd rfl (Or.inl rfl))
        (pss_cons (ps_set (i := 6) sc_ahead.nd rfl (Or.inl rfl) (pv 2))
        (pss_cons (ps_if (pt_cmpR op_ge (pv 4) pe_int (nomark _))
          (pss_one (ps_set (i := 6) sc_ahead.nd rfl (Or.inl rfl) (pe_ix (ix_listK (K := K) rfl) (pe_ix (ix_listK (K := K) rfl) (pv 0) (pv 4) (fun _ _ => rfl)) (pe_op op_sub (pe_ix (ix_listK (K := K) rfl) (pv 1) (pv 4) (fun _ _ => rfl)) pe_int) (fun _ _ => rfl))))
          pss_nil)
        (pss_cons (ps_if (pt_cmpR op_eq (pv 6) (pv 3) (nomark _))
          (pss_one (ps_ret (pv 4)))
          pss_nil)
        (pss_one (ps_set (i := 4) sc_ahead.nd rfl (Or.inl rfl) (pv 6)))))))
      (pss_one (ps_ret (pv 4))))), ?_⟩
    obtain ⟨w1, w12, wr⟩ := id W
    have hl := M.reflen
    have en : ((((as.map V.ref).length : Nat) : Int) + 2).toNat = rows.length + 2 := by rw [hl]; omega
    have ml := ahead_le W tk s0 s1 x0 x1 A1
    refine ⟨_, rfl, ?_⟩
    refine ⟨_, rfl, _, _, rfl, .inl M.sq, _, _, rfl, rfl, _, rfl, by omega, by omega, ?_⟩
    rw [en]
    refine for_range (fun j σ H2 => ∃ x5 x6 : Option V, σ = [some (.ref R), some (.ref tA), some (.int st), some (.int x), some (.int (goR rows st ts j x)), x5, x6] ∧ H = H2 ∧ j ≤ m) ⟨none, none, rfl, rfl, Nat.zero_le _⟩ ?_ ?_
    · rintro j σ H2 hj ⟨x5, x6, rfl, rfl, hjm⟩
      have hb := goR_bd W tk s0 s1 j x0 x1
      have ew : goR rows st ts (j + 1) x = ring rows st ts (goR rows st ts j x) := rfl
      have e1 : j < m → goR rows st ts (j + 1) x ≠ x := fun z => A1.first j z
      have e2 : j = m → goR rows st ts (j + 1) x = x := fun z => by rw [z]; exact A1.back
      have e3 : j = m → goR rows st ts m x = goR rows st ts j x := fun z => by rw [z]
      have key : ∀ j2, j2 = j + 1 → goR rows st ts j2 x = ring rows st ts (goR rows st ts j x) := fun j2 z => by rw [z]; exact ew
      generalize hz : goR rows st ts j x = z at hb ew e3 key
      refine ⟨_, rfl, ?_⟩
      dsimp only [gName]
      refine seq_mk' (fun σ' H' => σ' = [some (.ref R), some (.ref tA), some (.int st), some (.int x), some (.int z), some (.int (0 + (j : Int))), some (.int (ring rows st ts z))] ∧ H' = H) ?rest (fun D1 rest => ?way)
      case way =>
        refine ⟨_, rfl, _, _, rfl, rfl, _, rfl, ?_⟩
        refine ite2 (fun hc => ?_) (fun hc => ?_)
        · have h0 : 0 ≤ z := of_decide_eq_true hc
          obtain ⟨c, hat, hc', _⟩ := M.at (z := z) h0 hb.2
          obtain ⟨t0, t1⟩ := tk.2 z.toNat (by omega)
          refine ⟨_, rfl, _, rfl, _, _, _, .ref c, rfl, rfl, M.sq, hat, _, rfl, _, rfl, _, _, _, _, rfl, rfl, hT, at_ints h0 (by rw [tk.1]; exact hb.2), _, _, rfl, rfl, _, _, _, _, rfl, rfl, SqL.of hc', lastx_at t0 t1, ?_⟩
          refine rest _ _ ⟨?_, rfl⟩
          unfold ring
          rw [if_neg (by omega)]
          rfl
        · have h0 : ¬ 0 ≤ z := fun y => hc (decide_eq_true y)
          refine rest _ _ ⟨?_, rfl⟩
          unfold ring
          rw [if_pos (by omega)]
          rfl
      · rintro σ' H' ⟨rfl, rfl⟩
        refine ⟨_, rfl, _, rfl, rfl, _, rfl, ?_⟩
        refine ite2 (fun hc => ?_) (fun hc => ?_)
        · have h1 := of_decide_eq_true hc
          have h2 : ring rows st ts z = x := by injection h1
          have hm : j = m := by
            by_cases h : j < m
            · exact absurd (ew.trans h2) (e1 h)
            · omega
          refine ⟨_, rfl, ?_⟩
          rw [e3 hm] at q
          exact q
        · have hm : j ≠ m := fun z' => hc (decide_eq_true (by rw [← ew, e2 z']))
          refine ⟨_, rfl, some (.int (0 + (j : Int))), some (.int (ring rows st ts z)), ?_, rfl, by omega⟩
          rw [ew]
          rfl
    · rintro σ H2 ⟨x5, x6, rfl, rfl, hjm⟩
      exfalso
      omega
theorem sc_back : FnScope ["rows", "now", "at", "most", "turns", "many", "spot"] ["rows", "now", "at", "most"] (defScope s_back) := ⟨rfl, rfl, rfl, by decide +kernel, rfl, by decide +kernel, by decide +kernel⟩
theorem ok_back (T : Txt K mg A) (G_ahead : FnOk P w K mg base CX0 1 A.f_ahead A.fd_ahead ["rows", "turns", "start", "spot"] (spAhd K)) : FnOk P w K mg base CX0 2 A.f_back A.fd_back ["rows", "now", "at", "most"] (spBackL K) := by
  refine T.F_back.ok sc_back (fun vs H Q E h => ?_) (fun cdv A' outer s H vs Q E hr h => ?_)
  · obtain ⟨R, as, nA, tA, yA, cA, b, st, most, rfl, _⟩ := h
    rfl
  · obtain ⟨R, as, nA, tA, yA, cA, b, st, most, rfl, L, hn, nn, O, ht, tm, h0, h1, q⟩ := h
    refine ⟨_, (pss_cons (ps_set (i := 4) sc_back.nd rfl (Or.inl rfl) (pe_callTy (call_listK (K := K) rfl) (by rfl) T.n_list PyProof.Rows.Boot.«list» (pa_cons (pe_ix (ix_listK (K := K) rfl) (pv 1) pe_int (fun _ _ => rfl)) pa_nil)))
      (pss_cons (ps_set (i := 5) sc_back.nd rfl (Or.inl rfl) pe_int)
      (pss_cons (ps_set (i := 6) sc_back.nd rfl (Or.inl rfl) (pe_call G_ahead (hr.mono (by decide)) (by rfl) T.m__law_ahead T.k__law_ahead T.b__law_ahead .nil pass0 (pa_cons (pv 0) (pa_cons (pv 4) (pa_cons (pv 2) (pa_cons (pe_un un_neg pe_int) pa_nil))))))
      (pss_cons (ps_while PassesOwn.never (pt_cmpR op_ge (pv 6) pe_int (nomark _))
        (pss_cons (ps_asg (pe_op op_mod (pe_op op_sub (pe_ix (ix_listK (K := K) rfl) (pv 4) (pv 6) (fun _ _ => rfl)) pe_int) (pe_callB (call_lenK (K := K) rfl) (by rfl) T.n_len PySem.boot_len (pa_cons (pe_ix (ix_listK (K := K) rfl) (pv 0) (pv 6) (fun _ _ => rfl)) pa_nil))) (pg_sub (pv 4) (pv 6) set_list))
        (pss_cons (ps_set (i := 5) sc_back.nd rfl (Or.inl rfl) (pe_op op_add (pv 5) pe_int))
        (pss_one (ps_set (i := 6) sc_back.nd rfl (Or.inl rfl) (pe_call G_ahead (hr.mono (by decide)) (by rfl) T.m__law_ahead T.k__law_ahead T.b__law_ahead .nil pass0 (pa_cons (pv 0) (pa_cons (pv 4) (pa_cons (pv 2) (pa_cons (pv 6) pa_nil))))))))))
      (pss_cons (ps_if (pt_cmpR op_gt (pv 5) (pv 3) (nomark _))
        (pss_one (ps_ret (pe_tup (pa_cons pe_str (pa_cons pe_str pa_nil)))))
        pss_nil)
      (pss_cons (ps_asg (pv 4) (pg_sub (pv 1) pe_int set_list))
      (pss_one (ps_ret (pv 5))))))))), ?_⟩
    have w12 := O.W.2.1
    have bk0 : Bk b.rows st b.turns 0 b.turns (-1) := .zero
    obtain ⟨T0, U0, x00, x01⟩ := bk0.ok O.W O.T h0 h1 ht
    have hr0 := ring_in (st := st) O.W O.T h0 h1 x00 x01
    obtain ⟨m, Ah⟩ := ahead_ex U0 hr0.1 hr0.2
    refine ⟨_, rfl, _, _, _, _, rfl, rfl, SqL.of hn, at_list (n := 0) rfl rfl, _, _, rfl, .inl (SqL.of L.t), fun l hl => ?_⟩
    have sm : ∀ o, Same H (upd H l o) := fun o => same_new hl
    refine asg_lit ?_
    refine ⟨_, rfl, _, rfl, _, rfl, _, rfl, R, l, as, b.rows, b.turns, st, -1, m, rfl, L.M.same (sm _), SqL.of upd_same, O.W, O.T, h0, h1, x00, x01, Ah, ?_⟩
    refine ⟨fun c σ H2 => ∃ (k m : Nat) (Tu : List Int) (x : Int), c = 20001 - k ∧ Bk b.rows st b.turns k Tu x ∧ Ahead b.rows st Tu x m ∧ σ = [some (.ref R), some (.ref nA), some (.int st), some (.int most), some (.ref l), some (.int (k : Int)), some (.int (goR b.rows st Tu m x))] ∧ H2 = upd H l (.lst (Tu.map V.int)), ⟨_, 0, m, b.turns, -1, rfl, bk0, Ah, rfl, rfl⟩, ?_⟩
    rintro c σ H2 ⟨k, m, Tu, x, rfl, Bx, Ax, rfl, rfl⟩
    have hk := bk_le O.W O.T h0 h1 ht tm (by decide) Bx
    obtain ⟨T1, U1, x0, x1⟩ := Bx.ok O.W O.T h0 h1 ht
    have gb := goR_bd O.W T1 h0 h1 m x0 x1
    refine ⟨_, rfl, _, _, rfl, rfl, _, rfl, ?_⟩
    refine ite2 (fun hc => ?_) (fun hc => ?_)
    · have hg : 0 ≤ goR b.rows st Tu m x := of_decide_eq_true hc
      obtain ⟨s, hs⟩ : ∃ s : Nat, goR b.rows st Tu m x = (s : Int) := ⟨(goR b.rows st Tu m x).toNat, by omega⟩
      have hsn : s < b.rows.length := by omega
      have Bn := Bk.step Bx Ax hs hsn
      have hk1 := bk_le O.W O.T h0 h1 ht tm (by decide) Bn
      obtain ⟨Tn, Un, y0, y1⟩ := Bn.ok O.W O.T h0 h1 ht
      have hrn := ring_in (st := st) O.W Tn h0 h1 y0 y1
      obtain ⟨mn, An⟩ := ahead_ex Un hrn.1 hrn.2
      rw [hs]
      refine ⟨fun σ' H' => ∃ c', c' < 20001 - k ∧ ∃ (k m : Nat) (Tu : List Int) (x : Int), c' = 20001 - k ∧ Bk b.rows st b.turns k Tu x ∧ Ahead b.rows st Tu x m ∧ σ' = [some (.ref R), some (.ref nA), some (.int st), some (.int most), some (.ref l), some (.int (k : Int)), some (.int (goR b.rows st Tu m x))] ∧ H' = upd H l (.lst (Tu.map V.int)), fun _ _ h => h, ?_⟩
      have zt : (s : Int) < (Tu.length : Int) := by rw [T1.1]; omega
      have hr8 := row_len O.W hsn
      have M2 := L.M.same (sm (.lst (Tu.map V.int)))
      obtain ⟨c, hat, hc', hca⟩ := M2.at (z := (s : Int)) (by omega) (by omega)
      rw [Int.toNat_natCast] at hc'
      have hlr : ((b.rows.getD s []).map V.int).length = (b.rows.getD s []).length := by simp
      refine ⟨_, rfl, _, rfl, _, _, _, _, rfl, rfl, SqL.of upd_same, at_ints (i := (s : Int)) (by omega) zt, _, _, rfl, rfl, _, rfl, _, rfl, _, _, _, _, rfl, rfl, M2.sq, hat, _, _, rfl, .inl (SqL.of hc'), _, _, rfl, rfl, by rw [hlr]; omega, _, rfl, _, rfl, l, _, _, _, rfl, rfl, upd_same, ixN_in (by omega) (by rw [List.length_map]; exact zt), ?_⟩
      rw [hlr, map_set_int, Int.toNat_natCast, upd_upd]
      refine ⟨_, rfl, _, _, rfl, rfl, ?_⟩
      refine ⟨_, rfl, _, rfl, _, rfl, _, rfl, R, l, as, b.rows, prevT b.rows Tu s, st, (s : Int), mn, rfl, L.M.same (sm _), SqL.of upd_same, O.W, Tn, h0, h1, y0, y1, An, ?_⟩
      exact ⟨_, by omega, k + 1, mn, _, (s : Int), rfl, Bn, An, rfl, rfl⟩
    · have e : goR b.rows st Tu m x = -1 := by
        have : ¬ 0 ≤ goR b.rows st Tu m x := fun z => hc (decide_eq_true z)
        omega
      obtain ⟨ex, et⟩ := bk_end O.W O.T h0 h1 ht Bx Ax e
      subst ex
      obtain ⟨qa, qb⟩ := q k m Tu Bx Ax e T1
      refine ⟨_, rfl, _, rfl, _, _, rfl, rfl, _, rfl, ?_⟩
      refine ite2 (fun h2 => ?_) (fun h2 => ?_)
      · have h2' : (k : Int) > most := of_decide_eq_true h2
        refine ⟨small12 (by show 2 ≤ 100; decide), fun t ht' => ?_⟩
        exact qa h2' _ _ (same_upd (sm _) ((sm _).free ht')) ⟨t, rfl, upd_same⟩
      · have h2' : ¬ (k : Int) > most := fun z => h2 (decide_eq_true z)
        have nl : nA ≠ l := fun z => by rw [z, hl] at hn; cases hn
        have hnl : (upd H l (.lst (Tu.map V.int))) nA = some (.lst [.ref tA, .ref yA, .ref cA]) := sm _ _ _ hn
        refine ⟨_, rfl, _, rfl, nA, _, _, _, rfl, rfl, hnl, rfl, ?_⟩
        refine ⟨_, rfl, qb (by omega) l _ ?_ upd_same hl fun x o hx ex => ?_⟩
        · have up : ∀ x o, x ≠ nA → H x = some o → (upd (upd H l (.lst (Tu.map V.int))) nA (.lst [.ref l, .ref yA, .ref cA])) x = some o := fun x o hx ex => by rw [upd_ne hx]; exact sm _ _ _ ex
          have nx : ∀ x ∈ tA :: yA :: cA :: R :: as, x ≠ nA := fun x hx z => nn (by rw [← z]; exact hx)
          have nlx : ∀ x ∈ tA :: yA :: cA :: R :: as, l ≠ x := fun x hx z => by obtain ⟨o, ex⟩ := L.ins x hx; rw [← z, hl] at ex; cases ex
          refine ⟨L.M.keep fun c o hc ec => up c o (nx c (by simp only [List.mem_cons] at hc ⊢; exact .inr (.inr (.inr hc)))) ec, by rw [upd_ne nl.symm]; exact upd_same, up _ _ (nx yA (by simp)) L.l, up _ _ (nx cA (by simp)) L.c, nlx yA (by simp), nlx cA (by simp), L.lc, fun x hx => ?_⟩
          simp only [List.mem_cons, List.not_mem_nil, or_false] at hx
          rcases hx with rfl | rfl | rfl
          · exact fun z => nlx x (by simp only [List.mem_cons] at z ⊢; exact .inr (.inr (.inr z))) rfl
          · exact L.nR x (by simp)
          · exact L.nR x (by simp)
        · rw [upd_ne hx]
          exact sm _ _ _ ex
theorem sc_runL : FnScope ["rows", "now", "most", "later", "many", "k"] ["rows", "now", "most"] (defScope s_runL) := ⟨rfl, rfl, rfl, by decide +kernel, rfl, by decide +kernel, by decide +kernel⟩
theorem ok_runL (T : Txt K mg A) (G_run_by : FnOk P w K mg base CX0 2 A.f_run_by A.fd_run_by ["rows", "turns", "lying", "counts"] spRunBy) : FnOk P w K mg base CX0 3 A.f_runL A.fd_runL ["rows", "now", "most"] (spRunL K) := by
  refine T.F_runL.ok sc_runL (fun vs H Q E h => ?_) (fun cdv A' outer s H vs Q E hr h => ?_)
  · obtain ⟨R, as, nA, tA, yA, cA, b, most, N, rfl, _⟩ := h
    rfl
  · obtain ⟨R, as, nA, tA, yA, cA, b, most, N, rfl, L, hn, nn, O, RN, qa, qb⟩ := h
    refine ⟨_, (pss_cons (ps_setComp (i := 3) sc_runL.nd rfl rfl (CompSc.of (N' := ["part"]) (ix := [none]) rfl (by kernel_rfl)) rfl rfl rfl rfl (pi_listK (K := K) rfl (pv 1)) (by exact fun _ _ _ _ _ => pf_nil) (by exact fun _ _ _ _ _ => (pe_callTy (call_listK (K := K) rfl) (by rfl) T.n_list PyProof.Rows.Boot.«list» (pa_cons (pv 0) pa_nil))))
      (pss_cons (ps_expr (pe_call G_run_by (hr.mono (by decide)) (by rfl) T.m__law_run_by T.k__law_run_by T.b__law_run_by .nil pass0 (pa_cons (pv 0) (pa_cons (pe_ix (ix_listK (K := K) rfl) (pv 3) pe_int (fun _ _ => rfl)) (pa_cons (pe_ix (ix_listK (K := K) rfl) (pv 3) pe_int (fun _ _ => rfl)) (pa_cons (pe_ix (ix_listK (K := K) rfl) (pv 3) pe_int (fun _ _ => rfl)) pa_nil))))))
      (pss_cons (ps_set (i := 4) sc_runL.nd rfl (Or.inl rfl) (pe_op op_sub (pe_callB (call_sumK (K := K) rfl rfl) (by rfl) T.n_sum PyProof.Rows.Boot.«sum» (pa_cons (pe_ix (ix_listK (K := K) rfl) (pv 3) pe_int (fun _ _ => rfl)) pa_nil)) (pe_callB (call_sumK (K := K) rfl rfl) (by rfl) T.n_sum PyProof.Rows.Boot.«sum» (pa_cons (pe_ix (ix_listK (K := K) rfl) (pv 1) pe_int (fun _ _ => rfl)) pa_nil))))
      (pss_cons (ps_if (pt_cmpR op_gt (pv 4) (pv 2) (nomark _))
        (pss_one (ps_ret (pe_tup (pa_cons pe_str (pa_cons pe_str pa_nil)))))
        pss_nil)
      (pss_cons (ps_for PassesOwn.never rfl (pi_range1 (by rfl) T.n_range (pa_cons pe_int pa_nil)) (pg_name (i := 5) sc_runL.nd rfl (Or.inl rfl))
        (pss_one (ps_asg (pe_ix (ix_listK (K := K) rfl) (pv 3) (pv 5) (fun _ _ => rfl)) (pg_sub (pv 1) (pv 5) set_list))))
      (pss_one (ps_ret (pv 4)))))))), ?_⟩
    refine ⟨_, rfl, nA, rfl, ⟨_, SqL.of hn⟩, ?_⟩
    refine comp_news (ls := [b.turns.map V.int, (b.loads ++ [b.taken]).map V.int, b.steps.map V.int]) (wk_list (K := K) (SqL.of hn)) (small12 (by show 3 ≤ 100; decide)) rfl (fun i x l H3 ex el s3 Q' q' => ?_) (fun as3 H1 s1 hlen nd fr hrow D hD => ?_)
    · match i, ex, el with
      | 0, ex, el => cases ex; cases el; exact ⟨_, rfl, _, _, rfl, .inl (SqL.of (s3 _ _ L.t)), q'⟩
      | 1, ex, el => cases ex; cases el; exact ⟨_, rfl, _, _, rfl, .inl (SqL.of (s3 _ _ L.l)), q'⟩
      | 2, ex, el => cases ex; cases el; exact ⟨_, rfl, _, _, rfl, .inl (SqL.of (s3 _ _ L.c)), q'⟩
      | i + 3, ex, _ => simp at ex
    obtain ⟨t, y, c, rfl⟩ : ∃ t y c, as3 = [t, y, c] := by
      match as3, hlen with
      | [t, y, c], _ => exact ⟨t, y, c, rfl⟩
    have et := hrow 0 t _ rfl rfl
    have ey := hrow 1 y _ rfl rfl
    have ec := hrow 2 c _ rfl rfl
    have ft := fr t (by simp)
    have fy := fr y (by simp)
    have fc := fr c (by simp)
    simp only [List.nodup_cons, List.mem_cons, List.not_mem_nil, or_false, not_or] at nd
    have s2 : Same H1 (upd H1 D (.lst ([t, y, c].map V.ref))) := same_new hD
    have eD : (upd H1 D (.lst ([t, y, c].map V.ref))) D = some (.lst [.ref t, .ref y, .ref c]) := upd_same
    generalize upd H1 D (.lst ([t, y, c].map V.ref)) = H2 at s2 eD
    have s02 := s1.trans s2
    have fin : ∀ x, H x = none → x ∉ tA :: yA :: cA :: R :: as := fun x hx z => by obtain ⟨o, e⟩ := L.ins x z; rw [hx] at e; cases e
    have inR : ∀ {x}, x ∈ R :: as → x ∈ tA :: yA :: cA :: R :: as := fun {x} h => by simp only [List.mem_cons] at h ⊢; exact .inr (.inr (.inr h))
    have L2 : Lsts H2 R as t y c b := ⟨L.M.same s02, s2 _ _ et, s2 _ _ ey, s2 _ _ ec, nd.1.1, nd.1.2, nd.2.1, fun x hx z => by
      simp only [List.mem_cons, List.not_mem_nil, or_false] at hx
      rcases hx with rfl | rfl | rfl
      · exact fin _ ft (inR z)
      · exact fin _ fy (inR z)
      · exact fin _ fc (inR z)⟩
    refine ⟨_, rfl, _, rfl, _, _, _, _, rfl, rfl, SqL.of eD, at_list (n := 0) rfl rfl, _, rfl, _, _, _, _, rfl, rfl, SqL.of eD, at_list (n := 1) rfl rfl, _, rfl, _, _, _, _, rfl, rfl, SqL.of eD, at_list (n := 2) rfl rfl, R, as, t, y, c, b, N, rfl, L2, O, RN, fun H3 L3 f3 => ?_⟩
    have hDH : H D = none := s1.free hD
    have nD : D ∉ t :: y :: c :: R :: as := fun z => by
      simp only [List.mem_cons] at z
      rcases z with rfl | rfl | rfl | z
      · rw [hD] at et; cases et
      · rw [hD] at ey; cases ey
      · rw [hD] at ec; cases ec
      · exact fin _ hDH (inR (List.mem_cons.mpr z))
    have eD3 : H3 D = some (.lst [.ref t, .ref y, .ref c]) := by rw [f3 D nD]; exact eD
    have old : ∀ x o, H x = some o → H3 x = some o := fun x o e => by
      by_cases hx : x ∈ R :: as
      · have m1 := L3.M
        have m2 := L2.M
        rw [(O.iter N).2.1] at m1
        have e2 := s02 x o e
        rcases List.mem_cons.mp hx with rfl | hx'
        · rw [m2.hd] at e2
          rw [m1.hd]; exact e2
        · obtain ⟨i, hi, ei⟩ := List.getElem_of_mem hx'
          obtain ⟨a1, g1, r1, q1, z1, _⟩ := m1.refs (i := i) (x := .ref x) (by rw [List.getElem?_map, List.getElem?_eq_getElem hi, ei]; rfl)
          obtain ⟨a2, g2, r2, q2, z2, _⟩ := m2.refs (i := i) (x := .ref x) (by rw [List.getElem?_map, List.getElem?_eq_getElem hi, ei]; rfl)
          cases r1
          cases r2
          rw [z2] at e2
          rw [z1]; exact e2
      · rw [f3 x (fun z => by
          simp only [List.mem_cons] at z hx
          rcases z with rfl | rfl | rfl | z
          · rw [ft] at e; cases e
          · rw [fy] at e; cases e
          · rw [fc] at e; cases e
          · exact hx z)]
        exact s02 x o e
    have hn3 := old _ _ hn
    have es := iter_steps O RN N (Nat.le_refl _)
    refine ⟨_, rfl, _, _, _, _, rfl, rfl, SqL.of eD3, at_list (n := 2) rfl rfl, _, _, rfl, SqL.of L3.c, _, rfl, _, _, _, _, rfl, rfl, SqL.of hn3, at_list (n := 2) rfl rfl, _, _, rfl, SqL.of (old _ _ L.c), _, _, rfl, rfl, ?_⟩
    rw [es]
    dsimp only [gName]
    rw [show b.steps.sum + (N : Int) - b.steps.sum = (N : Int) by omega]
    refine ⟨_, rfl, _, rfl, _, _, rfl, rfl, _, rfl, ?_⟩
    refine ite2 (fun h2 => ?_) (fun h2 => ?_)
    · have h2' : (N : Int) > most := of_decide_eq_true h2
      refine ⟨small12 (by show 2 ≤ 100; decide), fun u hu => ?_⟩
      exact qa h2' _ _ (same_upd old (by
        cases e : H u with
        | none => rfl
        | some o => rw [old u o e] at hu; cases hu)) ⟨u, rfl, upd_same⟩
    · have h2' : ¬ (N : Int) > most := fun z => h2 (decide_eq_true z)
      have nnt : ∀ x ∈ t :: y :: c :: R :: as, x ≠ nA := fun x hx z => by
        subst z
        simp only [List.mem_cons] at hx
        rcases hx with rfl | rfl | rfl | hx
        · rw [ft] at hn; cases hn
        · rw [fy] at hn; cases hn
        · rw [fc] at hn; cases hn
        · exact nn (by simp only [List.mem_cons]; exact .inr (.inr (.inr hx)))
      have nDn : D ≠ nA := fun z => by rw [z, hn] at hDH; cases hDH
      refine ⟨_, rfl, by decide, by decide, ?_⟩
      refine for_rangeN (fun i σ H5 => ∃ (x5 : Option V) (w0 w1 w2 : Addr), σ = [some (.ref R), some (.ref nA), some (.int most), some (.ref D), some (.int (N : Int)), x5] ∧ H5 = upd H3 nA (.lst [.ref w0, .ref w1, .ref w2]) ∧ (0 < i → w0 = t) ∧ (1 < i → w1 = y) ∧ (2 < i → w2 = c)) ⟨none, tA, yA, cA, rfl, ?_, fun z => absurd z (by decide), fun z => absurd z (by decide), fun z => absurd z (by decide)⟩ ?_ ?_
      · funext x
        by_cases hx : x = nA
        · rw [hx, upd_same]; exact hn3
        · rw [upd_ne hx]
      · rintro i σ H5 hi ⟨x5, w0, w1, w2, rfl, rfl, v0, v1, v2⟩ DD hDD
        have eD5 : (upd H3 nA (.lst [.ref w0, .ref w1, .ref w2])) D = some (.lst [.ref t, .ref y, .ref c]) := by rw [upd_ne nDn]; exact eD3
        have i3 : i < 3 := hi
        obtain rfl | rfl | rfl : i = 0 ∨ i = 1 ∨ i = 2 := by omega
        · refine ⟨_, rfl, _, rfl, _, _, _, _, rfl, rfl, SqL.of eD5, at_list (n := 0) rfl rfl, _, rfl, _, rfl, nA, _, _, _, rfl, rfl, upd_same, rfl, ?_⟩
          rw [upd_upd]
          exact hDD _ _ ⟨_, t, w1, w2, rfl, rfl, fun _ => rfl, fun z => absurd z (by decide), fun z => absurd z (by decide)⟩
        · refine ⟨_, rfl, _, rfl, _, _, _, _, rfl, rfl, SqL.of eD5, at_list (n := 1) rfl rfl, _, rfl, _, rfl, nA, _, _, _, rfl, rfl, upd_same, rfl, ?_⟩
          rw [upd_upd]
          exact hDD _ _ ⟨_, w0, y, w2, rfl, rfl, fun _ => v0 (by decide), fun _ => rfl, fun z => absurd z (by decide)⟩
        · refine ⟨_, rfl, _, rfl, _, _, _, _, rfl, rfl, SqL.of eD5, at_list (n := 2) rfl rfl, _, rfl, _, rfl, nA, _, _, _, rfl, rfl, upd_same, rfl, ?_⟩
          rw [upd_upd]
          exact hDD _ _ ⟨_, w0, w1, c, rfl, rfl, fun _ => v0 (by decide), fun _ => v1 (by decide), fun _ => rfl⟩
      · rintro σ H5 ⟨x5, w0, w1, w2, rfl, rfl, v0, v1, v2⟩
        rw [v0 (by decide), v1 (by decide), v2 (by decide)]
        refine ⟨_, rfl, qb (by omega) t y c _ (L3.keep fun x o hx e => by rw [upd_ne (nnt x hx)]; exact e) upd_same ft fy fc fun x o hx e => ?_⟩
        rw [upd_ne hx]
        exact old x o e
theorem sc_alike : FnScope ["found", "due"] ["found", "due"] (defScope s_alike) := ⟨rfl, rfl, rfl, by decide +kernel, rfl, by decide +kernel, by decide +kernel⟩
theorem ok_alike (T : Txt K mg A) (G_whole : FnOk P w K mg base CX0 1 A.f_whole A.fd_whole ["found"] spWhole) : FnOk P w K mg base CX0 2 A.f_alike A.fd_alike ["found", "due"] (spAlike K) := by
  refine T.F_alike.ok sc_alike (fun vs H Q E h => ?_) (fun cdv A' outer s H vs Q E hr h => ?_)
  · obtain ⟨a, v, w', rfl, _⟩ := h
    rfl
  · obtain ⟨a, v, w', rfl, hv, hw, q⟩ := h
    have hul : _ + (0 + 1) < cLine := Nat.lt_of_le_of_lt (Nat.add_le_add_left (by decide : 0 + 1 ≤ 64) _) hr.units
    refine ⟨_, (pss_cons (ps_if (pt_cmpR op_isN (pv 1) pe_non (nomark _))
        (pss_one (ps_ret (pe_cmpR op_isN (pv 0) pe_non (nomark _))))
        pss_nil)
      (pss_cons (ps_if (pt_val (pe_callB (call_isiK (K := K) rfl) (by rfl) T.n_isinstance PyProof.Rows.Boot.«isinstance» (pa_cons (pv 1) (pa_cons (pe_bltn (v := .ty "tuple") (by rfl) T.n_tuple PyProof.Rows.Boot.«tuple» rfl) pa_nil))))
        (pss_cons (ps_if (PW.pt (pw_or (pt_not (pt_val (pe_callB (call_isiK (K := K) rfl) (by rfl) T.n_isinstance PyProof.Rows.Boot.«isinstance» (pa_cons (pv 0) (pa_cons (pe_bltn (v := .ty "tuple") (by rfl) T.n_tuple PyProof.Rows.Boot.«tuple» rfl) pa_nil))))) (pw_or1 (pt_cmpR op_ne (pe_callB (call_lenK (K := K) rfl) (by rfl) T.n_len PySem.boot_len (pa_cons (pv 0) pa_nil)) pe_int (nomark _)))))
          (pss_one (ps_ret pe_bl))
          pss_nil)
        (pss_one (ps_ret (pe_and (pe_callB (call_isiK (K := K) rfl) (by rfl) T.n_isinstance PyProof.Rows.Boot.«isinstance» (pa_cons (pe_ix (ix_tupK (K := K) rfl) (pv 0) pe_int (fun _ _ => rfl)) (pa_cons (pe_bltn (v := .ty "str") (by rfl) T.n_str PyProof.Rows.Boot.«str» rfl) pa_nil))) (pe_and (pe_callB (call_isiK (K := K) rfl) (by rfl) T.n_isinstance PyProof.Rows.Boot.«isinstance» (pa_cons (pe_ix (ix_tupK (K := K) rfl) (pv 0) pe_int (fun _ _ => rfl)) (pa_cons (pe_bltn (v := .ty "str") (by rfl) T.n_str PyProof.Rows.Boot.«str» rfl) pa_nil))) (pe_one (pe_cmpR (op_eqTVK (K := K) rfl hul) (pv 0) (pv 1) (nomark _))))))))
        pss_nil)
      (pss_one (ps_ret (pe_and (pe_call G_whole (hr.mono (by decide)) (by rfl) T.m__law_whole T.k__law_whole T.b__law_whole .nil pass0 (pa_cons (pv 0) pa_nil)) (pe_one (pe_cmpR (op_eqTVK (K := K) rfl hul) (pv 0) (pv 1) (nomark _)))))))), ?_⟩
    cases a with
    | non =>
      obtain rfl : v = .non := hv
      obtain rfl : w' = .non := hw
      refine ⟨_, rfl, rfl, _, rfl, ?_⟩
      rw [decide_eq_true rfl]
      refine iteT ?_
      refine ⟨_, rfl, rfl, ?_⟩
      rw [decide_eq_true rfl]
      exact q
    | int i =>
      obtain rfl : v = .int i := hv
      obtain rfl : w' = .int i := hw
      refine ⟨_, rfl, rfl, _, rfl, ?_⟩
      rw [decide_eq_false (fun z => by cases z)]
      refine iteF ?_
      refine ⟨_, rfl, _, _, _, _, false, rfl, rfl, .int i, T.q_int_tuple, _, rfl, ?_⟩
      refine iteF ?_
      refine ⟨_, rfl, i, rfl, _, rfl, ?_⟩
      refine iteT ?_
      refine ⟨_, rfl, _, rfl, .inr ⟨rfl, ?_⟩⟩
      rw [decide_eq_true rfl]
      exact q
    | ref z =>
      obtain ⟨t, rfl, ht⟩ := hv
      obtain ⟨u, rfl, hu⟩ := hw
      refine ⟨_, rfl, rfl, _, rfl, ?_⟩
      rw [decide_eq_false (fun z => by cases z)]
      refine iteF ?_
      refine ⟨_, rfl, _, _, _, _, true, rfl, rfl, .tup hu, rfl, _, rfl, ?_⟩
      refine iteT ?_
      refine ⟨_, rfl, _, _, _, _, true, rfl, rfl, .tup ht, rfl, _, rfl, ?_⟩
      refine iteF ?_
      refine ⟨_, rfl, _, _, rfl, .inr (SqT.of ht), rfl, _, rfl, ?_⟩
      refine iteF ?_
      refine ⟨_, rfl, _, _, _, _, rfl, rfl, SqT.of ht, at_list (n := 0) rfl rfl, _, _, _, _, true, rfl, rfl, .str _, rfl, _, rfl, ?_⟩
      refine iteT ?_
      refine ⟨_, rfl, _, _, _, _, rfl, rfl, SqT.of ht, at_list (n := 1) rfl rfl, _, _, _, _, true, rfl, rfl, .str _, rfl, _, rfl, ?_⟩
      refine iteT ?_
      refine ⟨_, rfl, _, rfl, .inl ⟨⟨t, u, _, _, rfl, rfl, SqT.of ht, SqT.of hu, rfl, fun i x y ex ey => ?_⟩, q⟩⟩
      rw [ex] at ey
      cases ey
      match i, ex with
      | 0, ex => cases ex; exact ⟨rfl, rfl, by simp [eqV]⟩
      | 1, ex => cases ex; exact ⟨rfl, rfl, by simp [eqV]⟩
      | i + 2, ex => simp at ex
theorem sc_done : FnScope ["rows", "now", "deed", "at", "gone"] ["rows", "now", "deed"] (defScope s_done) := ⟨rfl, rfl, rfl, by decide +kernel, rfl, by decide +kernel, by decide +kernel⟩
theorem ok_done (T : Txt K mg A) (G_step_by : FnOk P w K mg base CX0 1 A.f_step_by A.fd_step_by ["rows", "turns", "lying", "counts", "at"] spStepBy) (G_opened : FnOk P w K mg base CX0 1 A.f_opened A.fd_opened ["rows"] (spOpened K)) (G_runL : FnOk P w K mg base CX0 3 A.f_runL A.fd_runL ["rows", "now", "most"] (spRunL K)) (G_treed : FnOk P w K mg base CX0 1 A.f_treed A.fd_treed ["rows", "turns"] (spTreed K)) (G_back : FnOk P w K mg base CX0 2 A.f_back A.fd_back ["rows", "now", "at", "most"] (spBackL K)) : FnOk P w K mg base CX0 4 A.f_done A.fd_done ["rows", "now", "deed"] (spDone K) := by
  refine T.F_done.ok sc_done (fun vs H Q E h => ?_) (fun cdv A' outer s H vs Q E hr h => ?_)
  · obtain ⟨R, as, nA, tA, yA, cA, b, dA, d, rfl, _⟩ := h
    rfl
  · obtain ⟨R, as, nA, tA, yA, cA, b, dA, d, rfl, N, O, hd, ok, tm, hsum, q⟩ := h
    refine ⟨_, (pss_cons (ps_set (i := 3) sc_done.nd rfl (Or.inl rfl) (pe_ix (ix_tupK (K := K) rfl) (pv 2) pe_int (fun _ _ => rfl)))
      (pss_cons (ps_if (PW.pt (pw_and (pt_cmpR op_ne (pe_ix (ix_tupK (K := K) rfl) (pv 2) pe_int (fun _ _ => rfl)) pe_str (nomark _)) (pw_and1 (PW.pt (pw_or (pt_cmpR op_lt (pv 3) pe_int (nomark _)) (pw_or1 (pt_cmpR op_ge (pv 3) (pe_callB (call_lenK (K := K) rfl) (by rfl) T.n_len PySem.boot_len (pa_cons (pv 0) pa_nil)) (nomark _))))))))
        (pss_one (ps_ret (pe_tup (pa_cons pe_str (pa_cons pe_str pa_nil)))))
        pss_nil)
      (pss_cons (ps_if (pt_cmpR op_eq (pe_ix (ix_tupK (K := K) rfl) (pv 2) pe_int (fun _ _ => rfl)) pe_str (nomark _))
        (pss_cons (ps_if (PW.pt (pw_or (pt_cmpR op_lt (pe_ix (ix_tupK (K := K) rfl) (pv 2) pe_int (fun _ _ => rfl)) pe_int (nomark _)) (pw_or1 (pt_cmpR op_ge (pe_ix (ix_tupK (K := K) rfl) (pv 2) pe_int (fun _ _ => rfl)) (pe_callB (call_lenK (K := K) rfl) (by rfl) T.n_len PySem.boot_len (pa_cons (pe_ix (ix_listK (K := K) rfl) (pv 0) (pv 3) (fun _ _ => rfl)) pa_nil)) (nomark _)))))
          (pss_one (ps_ret (pe_tup (pa_cons pe_str (pa_cons pe_str pa_nil)))))
          pss_nil)
        (pss_cons (ps_asg (pe_ix (ix_tupK (K := K) rfl) (pv 2) pe_int (fun _ _ => rfl)) (pg_sub (pe_ix (ix_listK (K := K) rfl) (pv 1) pe_int (fun _ _ => rfl)) (pv 3) set_list))
        (pss_one (ps_ret pe_non))))
        pss_nil)
      (pss_cons (ps_if (pt_cmpR op_eq (pe_ix (ix_tupK (K := K) rfl) (pv 2) pe_int (fun _ _ => rfl)) pe_str (nomark _))
        (pss_cons (ps_if (pt_cmpR op_gt (pe_op op_add (pe_callB (call_sumK (K := K) rfl rfl) (by rfl) T.n_sum PyProof.Rows.Boot.«sum» (pa_cons (pe_slice (sl_listK (K := K) rfl) (pe_ix (ix_listK (K := K) rfl) (pv 1) pe_int (fun _ _ => rfl)) po_none (po_some (pe_un un_neg pe_int))) pa_nil)) (pe_ix (ix_tupK (K := K) rfl) (pv 2) pe_int (fun _ _ => rfl))) pe_int (nomark _))
          (pss_one (ps_ret (pe_tup (pa_cons pe_str (pa_cons pe_str pa_nil)))))
          pss_nil)
        (pss_cons (ps_asg (pe_op op_add (pe_ix (ix_listK (K := K) rfl) (pe_ix (ix_listK (K := K) rfl) (pv 1) pe_int (fun _ _ => rfl)) (pv 3) (fun _ _ => rfl)) (pe_ix (ix_tupK (K := K) rfl) (pv 2) pe_int (fun _ _ => rfl))) (pg_sub (pe_ix (ix_listK (K := K) rfl) (pv 1) pe_int (fun _ _ => rfl)) (pv 3) set_list))
        (pss_one (ps_ret pe_non))))
        pss_nil)
      (pss_cons (ps_if (pt_cmpR op_eq (pe_ix (ix_tupK (K := K) rfl) (pv 2) pe_int (fun _ _ => rfl)) pe_str (nomark _))
        (pss_cons (ps_if (pt_cmpR op_eq (pe_ix (ix_listK (K := K) rfl) (pe_ix (ix_listK (K := K) rfl) (pv 1) pe_int (fun _ _ => rfl)) (pv 3) (fun _ _ => rfl)) pe_int (nomark _))
          (pss_one (ps_ret (pe_tup (pa_cons pe_str (pa_cons pe_str pa_nil)))))
          pss_nil)
        (pss_cons (ps_set (i := 4) sc_done.nd rfl (Or.inl rfl) (pe_ix (ix_listK (K := K) rfl) (pe_ix (ix_listK (K := K) rfl) (pv 0) (pv 3) (fun _ _ => rfl)) (pe_ix (ix_listK (K := K) rfl) (pe_ix (ix_listK (K := K) rfl) (pv 1) pe_int (fun _ _ => rfl)) (pv 3) (fun _ _ => rfl)) (fun _ _ => rfl)))
        (pss_cons (ps_expr (pe_call G_step_by (hr.mono (by decide)) (by rfl) T.m__law_step_by T.k__law_step_by T.b__law_step_by .nil pass0 (pa_cons (pv 0) (pa_cons (pe_ix (ix_listK (K := K) rfl) (pv 1) pe_int (fun _ _ => rfl)) (pa_cons (pe_ix (ix_listK (K := K) rfl) (pv 1) pe_int (fun _ _ => rfl)) (pa_cons (pe_ix (ix_listK (K := K) rfl) (pv 1) pe_int (fun _ _ => rfl)) (pa_cons (pv 3) pa_nil)))))))
        (pss_one (ps_ret (pv 4))))))
        pss_nil)
      (pss_cons (ps_if (pt_not (pt_val (pe_call G_opened (hr.mono (by decide)) (by rfl) T.m__law_opened T.k__law_opened T.b__law_opened .nil pass0 (pa_cons (pv 0) pa_nil))))
        (pss_one (ps_ret (pe_tup (pa_cons pe_str (pa_cons pe_str pa_nil)))))
        pss_nil)
      (pss_cons (ps_if (pt_cmpR op_eq (pe_ix (ix_tupK (K := K) rfl) (pv 2) pe_int (fun _ _ => rfl)) pe_str (nomark _))
        (pss_one (ps_ret (pe_call G_runL (hr.mono (by decide)) (by rfl) T.m__law_run T.k__law_run T.b__law_run .nil pass0 (pa_cons (pv 0) (pa_cons (pv 1) (pa_cons (pe_ix (ix_tupK (K := K) rfl) (pv 2) pe_int (fun _ _ => rfl)) pa_nil))))))
        pss_nil)
      (pss_cons (ps_if (pt_cmpR op_gt (pe_callB (call_sumK (K := K) rfl rfl) (by rfl) T.n_sum PyProof.Rows.Boot.«sum» (pa_cons (pe_slice (sl_listK (K := K) rfl) (pe_ix (ix_listK (K := K) rfl) (pv 1) pe_int (fun _ _ => rfl)) po_none (po_some (pe_un un_neg pe_int))) pa_nil)) pe_int (nomark _))
        (pss_one (ps_ret (pe_tup (pa_cons pe_str (pa_cons pe_str pa_nil)))))
        pss_nil)
      (pss_cons (ps_if (pt_not (pt_val (pe_call G_treed (hr.mono (by decide)) (by rfl) T.m__law_treed T.k__law_treed T.b__law_treed .nil pass0 (pa_cons (pv 0) (pa_cons (pe_ix (ix_listK (K := K) rfl) (pv 1) pe_int (fun _ _ => rfl)) pa_nil)))))
        (pss_one (ps_ret (pe_tup (pa_cons pe_str (pa_cons pe_str pa_nil)))))
        pss_nil)
      (pss_one (ps_ret (pe_call G_back (hr.mono (by decide)) (by rfl) T.m__law_back T.k__law_back T.b__law_back .nil pass0 (pa_cons (pv 0) (pa_cons (pv 1) (pa_cons (pv 3) (pa_cons (pe_ix (ix_tupK (K := K) rfl) (pv 2) pe_int (fun _ _ => rfl)) pa_nil)))))))))))))))), ?_⟩
    have hl := N.L.M.reflen
    have w12 := O.W.2.1
    have nxT : nA ≠ tA := fun z => N.d (by rw [z]; simp)
    have nxY : nA ≠ yA := fun z => N.d (by rw [z]; simp)
    have id3 : ∀ x ∈ [tA, yA, cA], x ∈ [tA, yA, cA] ∨ H x = none := fun x hx => .inl hx
    cases d with
    | load z y =>
      refine ⟨_, rfl, _, _, _, _, rfl, rfl, SqT.of hd, at_list (n := 1) rfl rfl, ?_⟩
      refine ⟨_, rfl, _, _, _, _, rfl, rfl, SqT.of hd, at_list (n := 0) rfl rfl, rfl, _, rfl, ?_⟩
      refine ite2 (fun _ => ?_) (fun h => absurd (by decide +kernel) h)
      rcases (Classical.em (Ins1 b z)).symm with hz | hz
      · refine ⟨_, rfl, _, _, rfl, rfl, _, rfl, ?_⟩
        refine ite2 (fun _ => ?_) (fun h1 => ?_)
        · exact ⟨small12 (by show 2 ≤ 100; decide), fun t ht => q b (.ref "NoSite") _ tA yA cA _ (.inl ⟨hz, rfl, rfl⟩) ⟨t, rfl, upd_same⟩ (nleft_same N (same_new ht))⟩
        · have h1' : ¬ z < 0 := fun y => h1 (decide_eq_true y)
          refine ⟨_, rfl, _, rfl, _, _, rfl, .inl N.L.M.sq, _, _, rfl, rfl, _, rfl, ?_⟩
          rw [hl, decide_eq_true (show z ≥ (b.rows.length : Int) by unfold Ins1 at hz; omega)]
          refine iteT ?_
          exact ⟨small12 (by show 2 ≤ 100; decide), fun t ht => q b (.ref "NoSite") _ tA yA cA _ (.inl ⟨hz, rfl, rfl⟩) ⟨t, rfl, upd_same⟩ (nleft_same N (same_new ht))⟩
      refine ⟨_, rfl, _, _, rfl, rfl, _, rfl, ?_⟩
      rw [decide_eq_false (show ¬ z < 0 by have := hz.1; omega)]
      refine iteF ?_
      refine ⟨_, rfl, _, rfl, _, _, rfl, .inl N.L.M.sq, _, _, rfl, rfl, _, rfl, ?_⟩
      rw [hl, decide_eq_false (show ¬ z ≥ (b.rows.length : Int) by have := hz.2; omega)]
      refine iteF ?_
      refine ⟨_, rfl, _, _, _, _, rfl, rfl, SqT.of hd, at_list (n := 0) rfl rfl, rfl, _, rfl, ?_⟩
      refine ite2 (fun h => absurd h (by decide +kernel)) (fun _ => ?_)
      refine ⟨_, rfl, _, _, _, _, rfl, rfl, SqT.of hd, at_list (n := 0) rfl rfl, rfl, _, rfl, ?_⟩
      refine ite2 (fun _ => ?_) (fun h => absurd (by decide +kernel) h)
      refine ⟨_, rfl, _, _, _, _, rfl, rfl, SqL.of N.n, at_list (n := 1) rfl rfl, _, rfl, _, rfl, _, _, rfl, SqL.of N.L.l, fun l5 hl5 => ?_⟩
      rw [cut_last]
      have s5 : Same H (upd H l5 (.lst (b.loads.map V.int))) := same_new hl5
      have e5 : (upd H l5 (.lst (b.loads.map V.int))) l5 = some (.lst (b.loads.map V.int)) := upd_same
      generalize upd H l5 (.lst (b.loads.map V.int)) = H5 at s5 e5
      have N5 := N.same s5
      have hd5 := s5 _ _ hd
      refine ⟨l5, _, rfl, SqL.of e5, _, rfl, _, _, _, _, rfl, rfl, SqT.of hd5, at_list (n := 2) rfl rfl, _, _, rfl, rfl, _, _, rfl, rfl, _, rfl, ?_⟩
      refine ite2 (fun h2 => ?_) (fun h2 => ?_)
      · exact ⟨small12 (by show 2 ≤ 100; decide), fun t ht => q b (.ref "TooMany") _ tA yA cA _ (.inr (.inl ⟨hz, of_decide_eq_true h2, rfl, rfl⟩)) ⟨t, rfl, upd_same⟩ (nleft_same N (same_upd s5 (s5.free ht)))⟩
      · have h2' : b.loads.sum + y ≤ 400 := by have : ¬ 400 < b.loads.sum + y := fun w => h2 (decide_eq_true w); omega
        have zl : z.toNat < b.loads.length := by rw [O.L]; have := hz.1; have := hz.2; omega
        have z0 := hz.1
        have z1 : z < (b.loads.length : Int) := by rw [O.L]; exact hz.2
        refine ⟨_, rfl, _, _, _, _, rfl, rfl, SqL.of N5.n, at_list (n := 1) rfl rfl, _, rfl, _, _, _, _, rfl, rfl, SqL.of N5.L.l, at_app z0 z1, _, rfl, _, _, _, _, rfl, rfl, SqT.of hd5, at_list (n := 2) rfl rfl, _, _, rfl, rfl, _, rfl, _, _, _, _, rfl, rfl, SqL.of N5.n, at_list (n := 1) rfl rfl, _, rfl, yA, _, _, _, rfl, rfl, N5.L.l, ixN_in z0 (by simp; omega), ?_⟩
        rw [map_set_int, List.set_append_left _ _ zl]
        refine q { b with loads := b.loads.set z.toNat (b.loads.getD z.toNat 0 + y) } .non _ tA yA cA _ (.inr (.inr ⟨hz, h2', rfl, rfl⟩)) rfl ⟨⟨N5.L.updY _, by rw [upd_ne nxY]; exact N5.n, N.d⟩, fun x o hx e => ?_, id3, fun x o e => ?_⟩
        · rw [upd_ne (fun w => hx (by rw [w]; simp))]; exact s5 _ _ e
        · exact upd_live x o (s5 _ _ e)
    | turn z y =>
      refine ⟨_, rfl, _, _, _, _, rfl, rfl, SqT.of hd, at_list (n := 1) rfl rfl, ?_⟩
      refine ⟨_, rfl, _, _, _, _, rfl, rfl, SqT.of hd, at_list (n := 0) rfl rfl, rfl, _, rfl, ?_⟩
      refine ite2 (fun _ => ?_) (fun h => absurd (by decide +kernel) h)
      rcases (Classical.em (Ins1 b z)).symm with hz | hz
      · refine ⟨_, rfl, _, _, rfl, rfl, _, rfl, ?_⟩
        refine ite2 (fun _ => ?_) (fun h1 => ?_)
        · exact ⟨small12 (by show 2 ≤ 100; decide), fun t ht => q b (.ref "NoSite") _ tA yA cA _ (.inl ⟨hz, rfl, rfl⟩) ⟨t, rfl, upd_same⟩ (nleft_same N (same_new ht))⟩
        · have h1' : ¬ z < 0 := fun y => h1 (decide_eq_true y)
          refine ⟨_, rfl, _, rfl, _, _, rfl, .inl N.L.M.sq, _, _, rfl, rfl, _, rfl, ?_⟩
          rw [hl, decide_eq_true (show z ≥ (b.rows.length : Int) by unfold Ins1 at hz; omega)]
          refine iteT ?_
          exact ⟨small12 (by show 2 ≤ 100; decide), fun t ht => q b (.ref "NoSite") _ tA yA cA _ (.inl ⟨hz, rfl, rfl⟩) ⟨t, rfl, upd_same⟩ (nleft_same N (same_new ht))⟩
      refine ⟨_, rfl, _, _, rfl, rfl, _, rfl, ?_⟩
      rw [decide_eq_false (show ¬ z < 0 by have := hz.1; omega)]
      refine iteF ?_
      refine ⟨_, rfl, _, rfl, _, _, rfl, .inl N.L.M.sq, _, _, rfl, rfl, _, rfl, ?_⟩
      rw [hl, decide_eq_false (show ¬ z ≥ (b.rows.length : Int) by have := hz.2; omega)]
      refine iteF ?_
      refine ⟨_, rfl, _, _, _, _, rfl, rfl, SqT.of hd, at_list (n := 0) rfl rfl, rfl, _, rfl, ?_⟩
      refine ite2 (fun _ => ?_) (fun h => absurd (by decide +kernel) h)
      obtain ⟨c, hat, hc, _⟩ := N.L.M.at (z := z) hz.1 hz.2
      have hlr : ((b.rows.getD z.toNat []).map V.int).length = (b.rows.getD z.toNat []).length := by simp
      have z0 := hz.1
      have z1 : z < (b.turns.length : Int) := by rw [O.T.1]; exact hz.2
      rcases (Classical.em (0 ≤ y ∧ y < ((b.rows.getD z.toNat []).length : Int))).symm with hy | hy
      · refine ⟨_, rfl, _, _, _, _, rfl, rfl, SqT.of hd, at_list (n := 2) rfl rfl, _, _, rfl, rfl, _, rfl, ?_⟩
        refine ite2 (fun _ => ?_) (fun h1 => ?_)
        · exact ⟨small12 (by show 2 ≤ 100; decide), fun t ht => q b (.ref "NoPlace") _ tA yA cA _ (.inr (.inl ⟨hz, hy, rfl, rfl⟩)) ⟨t, rfl, upd_same⟩ (nleft_same N (same_new ht))⟩
        · have h1' : ¬ y < 0 := fun w => h1 (decide_eq_true w)
          refine ⟨_, rfl, _, _, _, _, rfl, rfl, SqT.of hd, at_list (n := 2) rfl rfl, _, rfl, _, rfl, _, _, _, _, rfl, rfl, N.L.M.sq, hat, _, _, rfl, .inl (SqL.of hc), _, _, rfl, rfl, _, rfl, ?_⟩
          rw [hlr, decide_eq_true (show y ≥ ((b.rows.getD z.toNat []).length : Int) by omega)]
          refine iteT ?_
          exact ⟨small12 (by show 2 ≤ 100; decide), fun t ht => q b (.ref "NoPlace") _ tA yA cA _ (.inr (.inl ⟨hz, hy, rfl, rfl⟩)) ⟨t, rfl, upd_same⟩ (nleft_same N (same_new ht))⟩
      · refine ⟨_, rfl, _, _, _, _, rfl, rfl, SqT.of hd, at_list (n := 2) rfl rfl, _, _, rfl, rfl, _, rfl, ?_⟩
        rw [decide_eq_false (show ¬ y < 0 by omega)]
        refine iteF ?_
        refine ⟨_, rfl, _, _, _, _, rfl, rfl, SqT.of hd, at_list (n := 2) rfl rfl, _, rfl, _, rfl, _, _, _, _, rfl, rfl, N.L.M.sq, hat, _, _, rfl, .inl (SqL.of hc), _, _, rfl, rfl, _, rfl, ?_⟩
        rw [hlr, decide_eq_false (show ¬ y ≥ ((b.rows.getD z.toNat []).length : Int) by omega)]
        refine iteF ?_
        refine ⟨_, rfl, _, _, _, _, rfl, rfl, SqT.of hd, at_list (n := 2) rfl rfl, _, rfl, _, _, _, _, rfl, rfl, SqL.of N.n, at_list (n := 0) rfl rfl, _, rfl, tA, _, _, _, rfl, rfl, N.L.t, ixN_in z0 (by rw [List.length_map]; exact z1), ?_⟩
        rw [map_set_int]
        refine q { b with turns := b.turns.set z.toNat y } .non _ tA yA cA _ (.inr (.inr ⟨hz, hy, rfl, rfl⟩)) rfl ⟨⟨N.L.updT _, by rw [upd_ne nxT]; exact N.n, N.d⟩, fun x o hx e => ?_, id3, upd_live⟩
        rw [upd_ne (fun w => hx (by rw [w]; simp))]; exact e
    | step z =>
      refine ⟨_, rfl, _, _, _, _, rfl, rfl, SqT.of hd, at_list (n := 1) rfl rfl, ?_⟩
      refine ⟨_, rfl, _, _, _, _, rfl, rfl, SqT.of hd, at_list (n := 0) rfl rfl, rfl, _, rfl, ?_⟩
      refine ite2 (fun _ => ?_) (fun h => absurd (by decide +kernel) h)
      rcases (Classical.em (Ins1 b z)).symm with hz | hz
      · refine ⟨_, rfl, _, _, rfl, rfl, _, rfl, ?_⟩
        refine ite2 (fun _ => ?_) (fun h1 => ?_)
        · exact ⟨small12 (by show 2 ≤ 100; decide), fun t ht => q b (.ref "NoSite") _ tA yA cA _ (.inl ⟨hz, rfl, rfl⟩) ⟨t, rfl, upd_same⟩ (nleft_same N (same_new ht))⟩
        · have h1' : ¬ z < 0 := fun y => h1 (decide_eq_true y)
          refine ⟨_, rfl, _, rfl, _, _, rfl, .inl N.L.M.sq, _, _, rfl, rfl, _, rfl, ?_⟩
          rw [hl, decide_eq_true (show z ≥ (b.rows.length : Int) by unfold Ins1 at hz; omega)]
          refine iteT ?_
          exact ⟨small12 (by show 2 ≤ 100; decide), fun t ht => q b (.ref "NoSite") _ tA yA cA _ (.inl ⟨hz, rfl, rfl⟩) ⟨t, rfl, upd_same⟩ (nleft_same N (same_new ht))⟩
      refine ⟨_, rfl, _, _, rfl, rfl, _, rfl, ?_⟩
      rw [decide_eq_false (show ¬ z < 0 by have := hz.1; omega)]
      refine iteF ?_
      refine ⟨_, rfl, _, rfl, _, _, rfl, .inl N.L.M.sq, _, _, rfl, rfl, _, rfl, ?_⟩
      rw [hl, decide_eq_false (show ¬ z ≥ (b.rows.length : Int) by have := hz.2; omega)]
      refine iteF ?_
      refine ⟨_, rfl, _, _, _, _, rfl, rfl, SqT.of hd, at_list (n := 0) rfl rfl, rfl, _, rfl, ?_⟩
      refine ite2 (fun h => absurd h (by decide +kernel)) (fun _ => ?_)
      refine ⟨_, rfl, _, _, _, _, rfl, rfl, SqT.of hd, at_list (n := 0) rfl rfl, rfl, _, rfl, ?_⟩
      refine ite2 (fun h => absurd h (by decide +kernel)) (fun _ => ?_)
      refine ⟨_, rfl, _, _, _, _, rfl, rfl, SqT.of hd, at_list (n := 0) rfl rfl, rfl, _, rfl, ?_⟩
      refine ite2 (fun _ => ?_) (fun h => absurd (by decide +kernel) h)
      have z0 := hz.1
      have z1 : z < (b.loads.length : Int) := by rw [O.L]; exact hz.2
      have z2 : z < (b.turns.length : Int) := by rw [O.T.1]; exact hz.2
      have zn : z.toNat < b.rows.length := by have := hz.2; omega
      refine ⟨_, rfl, _, _, _, _, rfl, rfl, SqL.of N.n, at_list (n := 1) rfl rfl, _, rfl, _, _, _, _, rfl, rfl, SqL.of N.L.l, at_app z0 z1, rfl, _, rfl, ?_⟩
      refine ite2 (fun h2 => ?_) (fun h2 => ?_)
      · have h3 := of_decide_eq_true h2
        have h4 : b.loads.getD z.toNat 0 = 0 := by injection h3
        exact ⟨small12 (by show 2 ≤ 100; decide), fun t ht => q b (.ref "NoMarble") _ tA yA cA _ (.inr (.inl ⟨hz, by omega, rfl, rfl⟩)) ⟨t, rfl, upd_same⟩ (nleft_same N (same_new ht))⟩
      · have h4 : b.loads.getD z.toNat 0 ≠ 0 := fun w => h2 (decide_eq_true (by rw [w]))
        have h5 := O.P z.toNat
        obtain ⟨c, hat, hc, _⟩ := N.L.M.at (z := z) hz.1 hz.2
        obtain ⟨t0, t1⟩ := O.T.2 z.toNat zn
        refine ⟨_, rfl, _, rfl, _, _, _, .ref c, rfl, rfl, N.L.M.sq, hat, _, rfl, _, _, _, _, rfl, rfl, SqL.of N.n, at_list (n := 0) rfl rfl, _, rfl, _, _, _, _, rfl, rfl, SqL.of N.L.t, at_ints z0 z2, _, _, _, _, rfl, rfl, SqL.of hc, at_ints t0 t1, ?_⟩
        refine ⟨_, rfl, _, rfl, _, _, _, _, rfl, rfl, SqL.of N.n, at_list (n := 0) rfl rfl, _, rfl, _, _, _, _, rfl, rfl, SqL.of N.n, at_list (n := 1) rfl rfl, _, rfl, _, _, _, _, rfl, rfl, SqL.of N.n, at_list (n := 2) rfl rfl, _, rfl, R, as, tA, yA, cA, b, z, rfl, N.L, O, hz.1, hz.2, fun H' L' f' => ?_⟩
        have nk : ∀ x o, x ∉ nA :: tA :: yA :: cA :: R :: as → H x = some o → H' x = some o := fun x o hx e => by rw [f' x (fun w => hx (List.mem_cons_of_mem _ w))]; exact e
        refine ⟨_, rfl, q (stepB b z.toNat) (.int (exitOf b.rows b.turns z.toNat)) _ tA yA cA _ (.inr (.inr ⟨hz, by omega, rfl, rfl⟩)) rfl ⟨⟨L', by rw [f' nA N.d]; exact N.n, N.d⟩, nk, id3, fun x o e => ?_⟩⟩
        by_cases hx : x ∈ tA :: yA :: cA :: R :: as
        · exact L'.ins x hx
        · exact ⟨o, by rw [f' x hx]; exact e⟩
    | run m =>
      refine ⟨_, rfl, _, _, _, _, rfl, rfl, SqT.of hd, at_list (n := 1) rfl rfl, ?_⟩
      refine ⟨_, rfl, _, _, _, _, rfl, rfl, SqT.of hd, at_list (n := 0) rfl rfl, rfl, _, rfl, ?_⟩
      refine ite2 (fun h => absurd h (by decide +kernel)) (fun _ => ?_)
      refine iteF ?_
      refine ⟨_, rfl, _, _, _, _, rfl, rfl, SqT.of hd, at_list (n := 0) rfl rfl, rfl, _, rfl, ?_⟩
      refine ite2 (fun h => absurd h (by decide +kernel)) (fun _ => ?_)
      refine ⟨_, rfl, _, _, _, _, rfl, rfl, SqT.of hd, at_list (n := 0) rfl rfl, rfl, _, rfl, ?_⟩
      refine ite2 (fun h => absurd h (by decide +kernel)) (fun _ => ?_)
      refine ⟨_, rfl, _, _, _, _, rfl, rfl, SqT.of hd, at_list (n := 0) rfl rfl, rfl, _, rfl, ?_⟩
      refine ite2 (fun h => absurd h (by decide +kernel)) (fun _ => ?_)
      refine ⟨_, rfl, R, as, b.rows, rfl, N.L.M, O.W, fun H1 s1 => ⟨_, rfl, ?_⟩⟩
      have N1 := N.same s1
      have hd1 := s1 _ _ hd
      cases ho : (reachL b.rows).all id with
      | false =>
        refine iteT ?_
        exact ⟨small12 (by show 2 ≤ 100; decide), fun t ht => q b (.ref "NotOpen") _ tA yA cA _ (.inl ⟨ho, rfl, rfl⟩) ⟨t, rfl, upd_same⟩ (nleft_same N (same_upd s1 (s1.free ht)))⟩
      | true =>
        refine iteF ?_
        obtain ⟨Nn, _, RN⟩ := run_ex O (tm ho) hsum
        refine ⟨_, rfl, _, _, _, _, rfl, rfl, SqT.of hd1, at_list (n := 0) rfl rfl, rfl, _, rfl, ?_⟩
        refine ite2 (fun _ => ?_) (fun h => absurd (by decide +kernel) h)
        refine ⟨_, rfl, _, rfl, _, rfl, _, _, _, _, rfl, rfl, SqT.of hd1, at_list (n := 1) rfl rfl, R, as, nA, tA, yA, cA, b, m, Nn, rfl, N1.L, N1.n, N1.d, O, RN, fun h H' v s' av => q b (.ref "TooLong") v tA yA cA H' (.inr ⟨ho, Nn, RN, .inl ⟨h, rfl, rfl⟩⟩) av (nleft_same N (s1.trans s')), fun h t y c H' L' n' ft fy fc k' => ?_⟩
        have fr : ∀ x ∈ [t, y, c], H1 x = none := fun x hx => by
          simp only [List.mem_cons, List.not_mem_nil, or_false] at hx
          rcases hx with rfl | rfl | rfl
          · exact ft
          · exact fy
          · exact fc
        refine q (iterR Nn b) (.int Nn) _ t y c H' (.inr ⟨ho, Nn, RN, .inr ⟨h, rfl, rfl⟩⟩) rfl ⟨⟨L', n', fun w => ?_⟩, fun x o hx e => k' x o (fun w => hx (by rw [w]; simp)) (s1 _ _ e), fun x hx => .inr (s1.free (fr x hx)), fun x o e => ?_⟩
        · have e1 := N1.n
          simp only [List.mem_cons] at w
          rcases w with w | w | w | w
          · rw [w, ft] at e1; cases e1
          · rw [w, fy] at e1; cases e1
          · rw [w, fc] at e1; cases e1
          · exact N.d (by simp only [List.mem_cons]; exact .inr (.inr (.inr w)))
        · by_cases hx : x = nA
          · exact ⟨_, by rw [hx]; exact n'⟩
          · exact ⟨o, k' x o hx (s1 _ _ e)⟩
    | back z m =>
      refine ⟨_, rfl, _, _, _, _, rfl, rfl, SqT.of hd, at_list (n := 1) rfl rfl, ?_⟩
      refine ⟨_, rfl, _, _, _, _, rfl, rfl, SqT.of hd, at_list (n := 0) rfl rfl, rfl, _, rfl, ?_⟩
      refine ite2 (fun _ => ?_) (fun h => absurd (by decide +kernel) h)
      rcases (Classical.em (Ins1 b z)).symm with hz | hz
      · refine ⟨_, rfl, _, _, rfl, rfl, _, rfl, ?_⟩
        refine ite2 (fun _ => ?_) (fun h1 => ?_)
        · exact ⟨small12 (by show 2 ≤ 100; decide), fun t ht => q b (.ref "NoSite") _ tA yA cA _ (.inl ⟨hz, rfl, rfl⟩) ⟨t, rfl, upd_same⟩ (nleft_same N (same_new ht))⟩
        · have h1' : ¬ z < 0 := fun y => h1 (decide_eq_true y)
          refine ⟨_, rfl, _, rfl, _, _, rfl, .inl N.L.M.sq, _, _, rfl, rfl, _, rfl, ?_⟩
          rw [hl, decide_eq_true (show z ≥ (b.rows.length : Int) by unfold Ins1 at hz; omega)]
          refine iteT ?_
          exact ⟨small12 (by show 2 ≤ 100; decide), fun t ht => q b (.ref "NoSite") _ tA yA cA _ (.inl ⟨hz, rfl, rfl⟩) ⟨t, rfl, upd_same⟩ (nleft_same N (same_new ht))⟩
      refine ⟨_, rfl, _, _, rfl, rfl, _, rfl, ?_⟩
      rw [decide_eq_false (show ¬ z < 0 by have := hz.1; omega)]
      refine iteF ?_
      refine ⟨_, rfl, _, rfl, _, _, rfl, .inl N.L.M.sq, _, _, rfl, rfl, _, rfl, ?_⟩
      rw [hl, decide_eq_false (show ¬ z ≥ (b.rows.length : Int) by have := hz.2; omega)]
      refine iteF ?_
      refine ⟨_, rfl, _, _, _, _, rfl, rfl, SqT.of hd, at_list (n := 0) rfl rfl, rfl, _, rfl, ?_⟩
      refine ite2 (fun h => absurd h (by decide +kernel)) (fun _ => ?_)
      refine ⟨_, rfl, _, _, _, _, rfl, rfl, SqT.of hd, at_list (n := 0) rfl rfl, rfl, _, rfl, ?_⟩
      refine ite2 (fun h => absurd h (by decide +kernel)) (fun _ => ?_)
      refine ⟨_, rfl, _, _, _, _, rfl, rfl, SqT.of hd, at_list (n := 0) rfl rfl, rfl, _, rfl, ?_⟩
      refine ite2 (fun h => absurd h (by decide +kernel)) (fun _ => ?_)
      refine ⟨_, rfl, R, as, b.rows, rfl, N.L.M, O.W, fun H1 s1 => ⟨_, rfl, ?_⟩⟩
      have N1 := N.same s1
      have hd1 := s1 _ _ hd
      cases ho : (reachL b.rows).all id with
      | false =>
        refine iteT ?_
        exact ⟨small12 (by show 2 ≤ 100; decide), fun t ht => q b (.ref "NotOpen") _ tA yA cA _ (.inr ⟨hz, .inl ⟨ho, rfl, rfl⟩⟩) ⟨t, rfl, upd_same⟩ (nleft_same N (same_upd s1 (s1.free ht)))⟩
      | true =>
        refine iteF ?_
        refine ⟨_, rfl, _, _, _, _, rfl, rfl, SqT.of hd1, at_list (n := 0) rfl rfl, rfl, _, rfl, ?_⟩
        refine ite2 (fun h => absurd h (by decide +kernel)) (fun _ => ?_)
        refine ⟨_, rfl, _, _, _, _, rfl, rfl, SqL.of N1.n, at_list (n := 1) rfl rfl, _, rfl, _, rfl, _, _, rfl, SqL.of N1.L.l, fun l5 hl5 => ?_⟩
        rw [cut_last]
        have s5 : Same H1 (upd H1 l5 (.lst (b.loads.map V.int))) := same_new hl5
        have e5 : (upd H1 l5 (.lst (b.loads.map V.int))) l5 = some (.lst (b.loads.map V.int)) := upd_same
        generalize upd H1 l5 (.lst (b.loads.map V.int)) = H5 at s5 e5
        have s05 := s1.trans s5
        have N5 := N.same s05
        have hd5 := s05 _ _ hd
        refine ⟨l5, _, rfl, SqL.of e5, _, _, rfl, rfl, _, rfl, ?_⟩
        refine ite2 (fun h2 => ?_) (fun h2 => ?_)
        · exact ⟨small12 (by show 2 ≤ 100; decide), fun t ht => q b (.ref "NotBare") _ tA yA cA _ (.inr ⟨hz, .inr ⟨ho, .inl ⟨(sum_pos O.P).mp (of_decide_eq_true h2), rfl, rfl⟩⟩⟩) ⟨t, rfl, upd_same⟩ (nleft_same N (same_upd s05 (s05.free ht)))⟩
        · have hb : ladenL b.loads = [] := Decidable.byContradiction fun w => h2 (decide_eq_true ((sum_pos O.P).mpr w))
          refine ⟨_, rfl, _, rfl, _, _, _, _, rfl, rfl, SqL.of N5.n, at_list (n := 0) rfl rfl, R, tA, as, b.rows, b.turns, rfl, N5.L.M, SqL.of N5.L.t, O.T, O.W, _, rfl, ?_⟩
          cases ht : treeB b.rows b.turns with
          | false =>
            refine iteT ?_
            exact ⟨small12 (by show 2 ≤ 100; decide), fun t ht' => q b (.ref "NotTree") _ tA yA cA _ (.inr ⟨hz, .inr ⟨ho, .inr ⟨hb, .inl ⟨ht, rfl, rfl⟩⟩⟩⟩) ⟨t, rfl, upd_same⟩ (nleft_same N (same_upd s05 (s05.free ht')))⟩
          | true =>
            refine iteF ?_
            refine ⟨_, rfl, _, rfl, _, rfl, _, rfl, _, _, _, _, rfl, rfl, SqT.of hd5, at_list (n := 2) rfl rfl, R, as, nA, tA, yA, cA, b, z, m, rfl, N5.L, N5.n, N5.d, O, ht, tm ho, hz.1, hz.2, fun Nn j T Bx Ax ex tk => ⟨fun h H' v s' av => q b (.ref "TooLong") v tA yA cA H' (.inr ⟨hz, .inr ⟨ho, .inr ⟨hb, .inr ⟨ht, .inl ⟨Nn, T, z, Bx, h, rfl, rfl⟩⟩⟩⟩⟩) av (nleft_same N (s05.trans s')), fun h l H' L' n' fl k' => ?_⟩⟩
            refine q { b with turns := T } (.int Nn) _ l yA cA H' (.inr ⟨hz, .inr ⟨ho, .inr ⟨hb, .inr ⟨ht, .inr ⟨Nn, j, T, Bx, Ax, ex, tk, h, rfl, rfl⟩⟩⟩⟩⟩) rfl ⟨⟨L', n', fun w => ?_⟩, fun x o hx e => k' x o (fun w => hx (by rw [w]; simp)) (s05 _ _ e), fun x hx => ?_, fun x o e => ?_⟩
            · have e1 := N5.n
              simp only [List.mem_cons] at w
              rcases w with w | w
              · rw [w, fl] at e1; cases e1
              · exact N.d (by simp only [List.mem_cons]; exact .inr w)
            · simp only [List.mem_cons, List.not_mem_nil, or_false] at hx
              rcases hx with rfl | rfl | rfl
              · exact .inr (s05.free fl)
              · exact .inl (by simp)
              · exact .inl (by simp)
            · by_cases hx : x = nA
              · exact ⟨_, by rw [hx]; exact n'⟩
              · exact ⟨o, k' x o hx (s05 _ _ e)⟩
theorem sc_deed_by : FnScope ["script", "k", "rows", "base", "at", "most", "way"] ["script", "k", "rows"] (defScope s_deed_by) := ⟨rfl, rfl, rfl, by decide +kernel, rfl, by decide +kernel, by decide +kernel⟩
theorem ok_deed_by (T : Txt K mg A) (G_drawn : FnOk P w K mg base CX0 1 A.f_drawn A.fd_drawn ["script", "k", "many"] (spDrawn K)) : FnOk P w K mg base CX0 2 A.f_deed_by A.fd_deed_by ["script", "k", "rows"] (spDeedBy K) := by
  refine T.F_deed_by.ok sc_deed_by (fun vs H Q E h => ?_) (fun cdv A' outer s H vs Q E hr h => ?_)
  · obtain ⟨a, R, as, rows, ns, k, rfl, _⟩ := h
    rfl
  · obtain ⟨a, R, as, rows, ns, k, rfl, hS, M, W, k0, k1, q⟩ := h
    refine ⟨_, (pss_cons (ps_set (i := 3) sc_deed_by.nd rfl (Or.inl rfl) (pe_op op_add pe_int (pe_op op_mul pe_int (pv 1))))
      (pss_cons (ps_set (i := 4) sc_deed_by.nd rfl (Or.inl rfl) (pe_call G_drawn (hr.mono (by decide)) (by rfl) T.m__law_drawn T.k__law_drawn T.b__law_drawn .nil pass0 (pa_cons (pv 0) (pa_cons (pv 3) (pa_cons (pe_callB (call_lenK (K := K) rfl) (by rfl) T.n_len PySem.boot_len (pa_cons (pv 2) pa_nil)) pa_nil)))))
      (pss_cons (ps_if (pt_cmpR op_eq (pe_call G_drawn (hr.mono (by decide)) (by rfl) T.m__law_drawn T.k__law_drawn T.b__law_drawn .nil pass0 (pa_cons (pv 0) (pa_cons (pe_op op_add (pv 3) pe_int) (pa_cons pe_int pa_nil)))) pe_int (nomark _))
        (pss_one (ps_set (i := 4) sc_deed_by.nd rfl (Or.inl rfl) (pe_ix (ix_listK (K := K) rfl) (pe_lst (pa_cons (pe_callB (call_lenK (K := K) rfl) (by rfl) T.n_len PySem.boot_len (pa_cons (pv 2) pa_nil)) (pa_cons (pe_un un_neg pe_int) (pa_cons (pe_op op_sub (pe_un un_neg pe_int) (pe_call G_drawn (hr.mono (by decide)) (by rfl) T.m__law_drawn T.k__law_drawn T.b__law_drawn .nil pass0 (pa_cons (pv 0) (pa_cons (pe_op op_add (pv 3) pe_int) (pa_cons (pe_op op_pow pe_int pe_int) pa_nil))))) pa_nil)))) (pe_call G_drawn (hr.mono (by decide)) (by rfl) T.m__law_drawn T.k__law_drawn T.b__law_drawn .nil pass0 (pa_cons (pv 0) (pa_cons (pe_op op_add (pv 3) pe_int) (pa_cons pe_int pa_nil)))) (fun _ _ => rfl))))
        pss_nil)
      (pss_cons (ps_set (i := 5) sc_deed_by.nd rfl (Or.inl rfl) (pe_ix (ix_listK (K := K) rfl) (pe_lst (pa_cons pe_int (pa_cons pe_int (pa_cons (pe_call G_drawn (hr.mono (by decide)) (by rfl) T.m__law_drawn T.k__law_drawn T.b__law_drawn .nil pass0 (pa_cons (pv 0) (pa_cons (pe_op op_add (pv 3) pe_int) (pa_cons pe_int pa_nil)))) pa_nil)))) (pe_call G_drawn (hr.mono (by decide)) (by rfl) T.m__law_drawn T.k__law_drawn T.b__law_drawn .nil pass0 (pa_cons (pv 0) (pa_cons (pe_op op_add (pv 3) pe_int) (pa_cons pe_int pa_nil)))) (fun _ _ => rfl)))
      (pss_cons (ps_set (i := 6) sc_deed_by.nd rfl (Or.inl rfl) (pe_call G_drawn (hr.mono (by decide)) (by rfl) T.m__law_drawn T.k__law_drawn T.b__law_drawn .nil pass0 (pa_cons (pv 0) (pa_cons (pe_op op_add (pv 3) pe_int) (pa_cons pe_int pa_nil)))))
      (pss_cons (ps_if (pt_cmpR op_lt (pv 6) pe_int (nomark _))
        (pss_one (ps_ret (pe_tup (pa_cons pe_str (pa_cons (pv 4) (pa_cons (pe_ix (ix_listK (K := K) rfl) (pe_lst (pa_cons pe_int (pa_cons pe_int (pa_cons pe_int (pa_cons pe_int (pa_cons pe_int (pa_cons pe_int (pa_cons pe_int (pa_cons pe_int pa_nil))))))))) (pe_call G_drawn (hr.mono (by decide)) (by rfl) T.m__law_drawn T.k__law_drawn T.b__law_drawn .nil pass0 (pa_cons (pv 0) (pa_cons (pe_op op_add (pv 3) pe_int) (pa_cons pe_int pa_nil)))) (fun _ _ => rfl)) pa_nil))))))
        pss_nil)
      (pss_cons (ps_if (pt_cmpR op_eq (pv 6) pe_int (nomark _))
        (pss_one (ps_ret (pe_tup (pa_cons pe_str (pa_cons (pv 4) (pa_cons (pe_op op_sub (pe_call G_drawn (hr.mono (by decide)) (by rfl) T.m__law_drawn T.k__law_drawn T.b__law_drawn .nil pass0 (pa_cons (pv 0) (pa_cons (pe_op op_add (pv 3) pe_int) (pa_cons pe_int pa_nil)))) pe_int) pa_nil))))))
        pss_nil)
      (pss_cons (ps_if (pt_cmpR op_eq (pv 6) pe_int (nomark _))
        (pss_one (ps_ret (pe_tup (pa_cons pe_str (pa_cons (pv 4) pa_nil)))))
        pss_nil)
      (pss_cons (ps_if (pt_cmpR op_lt (pv 6) pe_int (nomark _))
        (pss_one (ps_ret (pe_tup (pa_cons pe_str (pa_cons (pv 5) pa_nil)))))
        pss_nil)
      (pss_one (ps_ret (pe_tup (pa_cons pe_str (pa_cons (pv 4) (pa_cons (pv 5) pa_nil))))))))))))))), ?_⟩
    obtain ⟨w1, w12, wr⟩ := id W
    have hl := M.reflen
    refine ⟨_, rfl, _, _, rfl, rfl, .inl ⟨by decide, by decide⟩, _, _, rfl, rfl, ?_⟩
    have d0 := drawn_nn ns (600 + 8 * k) (many := (rows.length : Int)) (by omega)
    have d1 := drawn_lt ns (600 + 8 * k) (many := (rows.length : Int)) (by omega)
    refine ⟨_, rfl, _, rfl, _, rfl, _, _, rfl, .inl M.sq, a, ns, _, _, rfl, hS, by rw [hl]; omega, by omega, by omega, ?_⟩
    rw [hl]
    generalize drawn ns (600 + 8 * k) (rows.length : Int) = at0 at d0 d1
    dsimp only [gName]
    refine seq_mk' (fun σ' H' => ∃ z : Int, σ' = [some (.ref a), some (.int k), some (.ref R), some (.int (600 + 8 * k)), some (.int z), none, none] ∧ lim z ∧ Same H H') ?rest (fun D1 rest => ?way)
    case way =>
      refine ⟨_, rfl, _, rfl, _, _, rfl, rfl, a, ns, _, 8, rfl, hS, by decide, by omega, by omega, rfl, _, rfl, ?_⟩
      refine ite2 (fun hw => ?_) (fun hw => rest _ _ ⟨at0, rfl, ⟨by omega, by omega⟩, Same.refl _⟩)
      have f1 := drawn_nn ns (600 + 8 * k + 2) (many := 1000000000) (by decide)
      have f2 := drawn_lt ns (600 + 8 * k + 2) (many := 1000000000) (by decide)
      refine ⟨_, rfl, _, _, rfl, .inl M.sq, _, rfl, _, rfl, _, rfl, _, rfl, _, _, rfl, rfl, _, _, rfl, rfl, ⟨by decide, by decide, by decide⟩, a, ns, _, _, rfl, hS, (by rw [p9]; decide), by omega, by omega, _, _, rfl, rfl, small12 (by show 3 ≤ 100; decide), fun l hl3 => ?_⟩
      rw [p9, hl]
      generalize drawn ns (600 + 8 * k + 2) 1000000000 = far at f1 f2
      have sl : ∀ o, Same H (upd H l o) := fun o => same_new hl3
      have g1 := drawn_nn ns (600 + 8 * k + 3) (many := 3) (by decide)
      have g2 := drawn_lt ns (600 + 8 * k + 3) (many := 3) (by decide)
      refine ⟨_, rfl, _, rfl, _, _, rfl, rfl, a, ns, _, 3, rfl, (sl _).seq hS, by decide, by omega, by omega, ?_⟩
      generalize drawn ns (600 + 8 * k + 3) 3 = d at g1 g2
      obtain hd | hd | hd : d = 0 ∨ d = 1 ∨ d = 2 := by omega
      all_goals subst hd
      · exact ⟨l, _, _, _, rfl, rfl, SqL.of upd_same, at_list (n := 0) rfl rfl, rest _ _ ⟨_, rfl, ⟨by omega, by omega⟩, sl _⟩⟩
      · exact ⟨l, _, _, _, rfl, rfl, SqL.of upd_same, at_list (n := 1) rfl rfl, rest _ _ ⟨_, rfl, ⟨by omega, by omega⟩, sl _⟩⟩
      · exact ⟨l, _, _, _, rfl, rfl, SqL.of upd_same, at_list (n := 2) rfl rfl, rest _ _ ⟨_, rfl, ⟨by omega, by omega⟩, sl _⟩⟩
    rintro σ' H1 ⟨z, rfl, lz, s1⟩
    have hS1 := s1.seq hS
    have m0 := drawn_nn ns (600 + 8 * k + 4) (many := 10) (by decide)
    have m1 := drawn_lt ns (600 + 8 * k + 4) (many := 10) (by decide)
    have i0 := drawn_nn ns (600 + 8 * k + 5) (many := 3) (by decide)
    have i1 := drawn_lt ns (600 + 8 * k + 5) (many := 3) (by decide)
    refine ⟨_, rfl, _, rfl, _, _, rfl, rfl, a, ns, _, 10, rfl, hS1, by decide, by omega, by omega, small12 (by show 3 ≤ 100; decide), fun l2 hl2 => ?_⟩
    generalize drawn ns (600 + 8 * k + 4) 10 = mo at m0 m1
    have s2 : ∀ o, Same H (upd H1 l2 o) := fun o => same_upd s1 (s1.free hl2)
    refine ⟨_, rfl, _, rfl, _, _, rfl, rfl, a, ns, _, 3, rfl, (s2 _).seq hS, by decide, by omega, by omega, _, _, _, _, rfl, rfl, SqL.of (upd_same (o := .lst ([20000, 20000, mo].map V.int))), at_ints i0 i1, ?_⟩
    have lm : lim ([20000, 20000, mo].getD (drawn ns (600 + 8 * k + 5) 3).toNat 0) := getD_all (P := lim) (fun x hx => by
      simp only [List.mem_cons, List.not_mem_nil, or_false] at hx
      rcases hx with rfl | rfl | rfl
      · exact ⟨by decide, by decide⟩
      · exact ⟨by decide, by decide⟩
      · exact ⟨by omega, by omega⟩) (by show _ < 3; omega)
    dsimp only [gName]
    have s3 := s2 (.lst ([20000, 20000, mo].map V.int))
    show tSeq _ _ _ _ (upd H1 l2 (.lst ([20000, 20000, mo].map V.int)))
    generalize upd H1 l2 (.lst ([20000, 20000, mo].map V.int)) = H2 at s3
    generalize [20000, 20000, mo].getD (drawn ns (600 + 8 * k + 5) 3).toNat 0 = most at lm
    have hS2 := s3.seq hS
    have v0 := drawn_nn ns (600 + 8 * k + 6) (many := 8) (by decide)
    have v1 := drawn_lt ns (600 + 8 * k + 6) (many := 8) (by decide)
    refine ⟨_, rfl, _, rfl, _, _, rfl, rfl, a, ns, _, 8, rfl, hS2, by decide, by omega, by omega, ?_⟩
    generalize drawn ns (600 + 8 * k + 6) 8 = way at v0 v1
    refine ⟨_, rfl, _, _, rfl, rfl, _, rfl, ?_⟩
    refine ite2 (fun _ => ?_) (fun _ => ?_)
    · have y0 := drawn_nn ns (600 + 8 * k + 7) (many := 8) (by decide)
      have y1 := drawn_lt ns (600 + 8 * k + 7) (many := 8) (by decide)
      refine ⟨_, rfl, small12 (by show 8 ≤ 100; decide), fun l3 hl3 => ?_⟩
      have s4 : ∀ o, Same H (upd H2 l3 o) := fun o => same_upd s3 (s3.free hl3)
      refine ⟨_, rfl, _, rfl, _, _, rfl, rfl, a, ns, _, 8, rfl, (s4 _).seq hS, by decide, by omega, by omega, _, _, _, _, rfl, rfl, SqL.of (upd_same (o := .lst ([1, 1, 1, 1, 1, 2, 0, 401].map V.int))), at_ints y0 y1, small12 (by show 3 ≤ 100; decide), fun t ht => ?_⟩
      have ly : (fun y : Int => 0 ≤ y ∧ (y ≤ 2 ∨ 401 ≤ y)) ([1, 1, 1, 1, 1, 2, 0, 401].getD (drawn ns (600 + 8 * k + 7) 8).toNat 0) := getD_all (P := fun y : Int => 0 ≤ y ∧ (y ≤ 2 ∨ 401 ≤ y)) (by decide) (by show _ < 8; omega)
      exact q t (.load z _) _ ⟨lz, ly⟩ (same_upd (s4 _) ((s4 _).free ht)) ((s4 _).free ht) upd_same
    refine ⟨_, rfl, rfl, _, rfl, ?_⟩
    refine ite2 (fun _ => ?_) (fun _ => ?_)
    · have y0 := drawn_nn ns (600 + 8 * k + 7) (many := 5) (by decide)
      have y1 := drawn_lt ns (600 + 8 * k + 7) (many := 5) (by decide)
      refine ⟨_, rfl, _, rfl, _, rfl, _, _, rfl, rfl, a, ns, _, 5, rfl, hS2, by decide, by omega, by omega, _, _, rfl, rfl, small12 (by show 3 ≤ 100; decide), fun t ht => ?_⟩
      exact q t (.turn z (drawn ns (600 + 8 * k + 7) 5 - 1)) _ ⟨lz, by omega, by omega⟩ (same_upd s3 (s3.free ht)) (s3.free ht) upd_same
    refine ⟨_, rfl, rfl, _, rfl, ?_⟩
    refine ite2 (fun _ => ?_) (fun _ => ?_)
    · exact ⟨_, rfl, small12 (by show 2 ≤ 100; decide), fun t ht => q t (.step z) _ lz (same_upd s3 (s3.free ht)) (s3.free ht) upd_same⟩
    refine ⟨_, rfl, _, _, rfl, rfl, _, rfl, ?_⟩
    refine ite2 (fun _ => ?_) (fun _ => ?_)
    · exact ⟨_, rfl, small12 (by show 2 ≤ 100; decide), fun t ht => q t (.run most) _ lm (same_upd s3 (s3.free ht)) (s3.free ht) upd_same⟩
    · exact ⟨_, rfl, _, rfl, small12 (by show 3 ≤ 100; decide), fun t ht => q t (.back z most) _ ⟨lz, lm⟩ (same_upd s3 (s3.free ht)) (s3.free ht) upd_same⟩
theorem sc_law : FnScope ["script", "rows", "turns", "board", "now", "deeds", "due", "handed", "found", "k"] ["script"] (defScope s_law) := ⟨rfl, rfl, rfl, by decide +kernel, rfl, by decide +kernel, by decide +kernel⟩
theorem ok_law (T : Txt K mg A) (G_drawn : FnOk P w K mg base CX0 1 A.f_drawn A.fd_drawn ["script", "k", "many"] (spDrawn K)) (G_rows_by : FnOk P w K mg base CX0 3 A.f_rows_by A.fd_rows_by ["script"] (spRowsT K)) (G_any_by : FnOk P w K mg base CX0 2 A.f_any_by A.fd_any_by ["script", "most", "wide"] (spAnyW K)) (G_turns_by : FnOk P w K mg base CX0 2 A.f_turns_by A.fd_turns_by ["script", "rows"] (spTurns K)) (G_board : FnOk P w K mg base CX0 5 A.f_board A.fd_board ["rows", "turns", "loads"] (spBoard K A.C)) (G_deed_by : FnOk P w K mg base CX0 2 A.f_deed_by A.fd_deed_by ["script", "k", "rows"] (spDeedBy K)) (G_done : FnOk P w K mg base CX0 4 A.f_done A.fd_done ["rows", "now", "deed"] (spDone K)) (G_play : FnOk P w K mg base CX0 11 A.f_play A.fd_play ["board", "deeds"] (spPlay K A)) (G_alike : FnOk P w K mg base CX0 2 A.f_alike A.fd_alike ["found", "due"] (spAlike K)) (G_stands : FnOk P w K mg base CX0 3 A.f_stands A.fd_stands ["board", "rows", "turns", "lying", "counts"] (spStands K A.C)) : FnOk P w K mg base CX0 12 A.f_law A.fd_law ["script"] (spLaw K) := by
  refine T.F_law.ok sc_law (fun vs H Q E h => ?_) (fun cdv A' outer s H vs Q E hr h => ?_)
  · obtain ⟨a, ns, rfl, _⟩ := h
    rfl
  · obtain ⟨a, ns, rfl, hS, hlen, q⟩ := h
    have hul : _ + (0 + 1) < cLine := Nat.lt_of_le_of_lt (Nat.add_le_add_left (by decide : 0 + 1 ≤ 64) _) hr.units
    refine ⟨_, (pss_cons (ps_set (i := 1) sc_law.nd rfl (Or.inr rfl) (pe_call G_rows_by (hr.mono (by decide)) (by rfl) T.m__law_rows_by T.k__law_rows_by T.b__law_rows_by .nil pass0 (pa_cons (pv 0) pa_nil)))
      (pss_cons (ps_if (pt_cmpR op_eq (pe_call G_drawn (hr.mono (by decide)) (by rfl) T.m__law_drawn T.k__law_drawn T.b__law_drawn .nil pass0 (pa_cons (pv 0) (pa_cons pe_int (pa_cons pe_int pa_nil)))) pe_int (nomark _))
        (pss_one (ps_set (i := 1) sc_law.nd rfl (Or.inr rfl) (pe_call G_any_by (hr.mono (by decide)) (by rfl) T.m__law_any_by T.k__law_any_by T.b__law_any_by .nil pass0 (pa_cons (pv 0) (pa_cons pe_int (pa_cons pe_int pa_nil))))))
        pss_nil)
      (pss_cons (ps_set (i := 2) sc_law.nd rfl (Or.inl rfl) (pe_call G_turns_by (hr.mono (by decide)) (by rfl) T.m__law_turns_by T.k__law_turns_by T.b__law_turns_by .nil pass0 (pa_cons (pv 0) (pa_cons (pv 1) pa_nil))))
      (pss_cons (ps_set (i := 3) sc_law.nd rfl (Or.inl rfl) (pe_call G_board (hr.mono (by decide)) (by rfl) T.m__law_board T.k__law_board T.b__law_board .nil pass0 (pa_cons (pv 1) (pa_cons (pv 2) (pa_cons (pe_comp (CompSc.of (N' := ["row"]) (ix := [none]) rfl (by kernel_rfl)) rfl rfl rfl rfl (pi_listK (K := K) rfl (pv 1)) (by exact fun _ _ _ _ _ => pf_nil) (by exact fun _ _ _ _ _ => pe_int) (fun _ => rfl)) pa_nil)))))
      (pss_cons (ps_set (i := 4) sc_law.nd rfl (Or.inr rfl) (pe_lst (pa_cons (pv 2) (pa_cons (pe_op op_cat (pe_comp (CompSc.of (N' := ["row"]) (ix := [none]) rfl (by kernel_rfl)) rfl rfl rfl rfl (pi_listK (K := K) rfl (pv 1)) (by exact fun _ _ _ _ _ => pf_nil) (by exact fun _ _ _ _ _ => pe_int) (fun _ => rfl)) (pe_lst (pa_cons pe_int pa_nil))) (pa_cons (pe_comp (CompSc.of (N' := ["row"]) (ix := [none]) rfl (by kernel_rfl)) rfl rfl rfl rfl (pi_listK (K := K) rfl (pv 1)) (by exact fun _ _ _ _ _ => pf_nil) (by exact fun _ _ _ _ _ => pe_int) (fun _ => rfl)) pa_nil)))))
      (pss_cons (ps_setComp (i := 5) sc_law.nd rfl rfl (CompSc.of (N' := ["k", "script", "rows"]) (ix := [none, some 0, some 1]) rfl (by kernel_rfl)) rfl rfl rfl rfl (pi_range1 (by rfl) T.n_range (pa_cons (pe_call G_drawn (hr.mono (by decide)) (by rfl) T.m__law_drawn T.k__law_drawn T.b__law_drawn .nil pass0 (pa_cons (pv 0) (pa_cons pe_int (pa_cons pe_int pa_nil)))) pa_nil)) (by exact fun _ _ _ _ _ => pf_nil) (by exact fun _ _ _ _ _ => (pe_call G_deed_by (hr.mono (by decide)) (by rfl) T.m__law_deed_by T.k__law_deed_by T.b__law_deed_by .nil pass0 (pa_cons (pv 1) (pa_cons (pv 0) (pa_cons (pv 2) pa_nil))))))
      (pss_cons (ps_setComp (i := 6) sc_law.nd rfl rfl (CompSc.of (N' := ["deed", "rows", "now"]) (ix := [none, some 1, some 4]) rfl (by kernel_rfl)) rfl rfl rfl rfl (pi_listK (K := K) rfl (pv 5)) (by exact fun _ _ _ _ _ => pf_nil) (by exact fun _ _ _ _ _ => (pe_call G_done (hr.mono (by decide)) (by rfl) T.m__law_done T.k__law_done T.b__law_done .nil pass0 (pa_cons (pv 1) (pa_cons (pv 2) (pa_cons (pv 0) pa_nil))))))
      (pss_cons (ps_set (i := 7) sc_law.nd rfl (Or.inl rfl) (pe_callTy (call_listK (K := K) rfl) (by rfl) T.n_list PyProof.Rows.Boot.«list» (pa_cons (pv 5) pa_nil)))
      (pss_cons (ps_set (i := 8) sc_law.nd rfl (Or.inl rfl) (pe_call G_play (hr.mono (by decide)) (by rfl) T.m_play T.k_play T.b_play .nil pass0 (pa_cons (pv 3) (pa_cons (pv 7) pa_nil))))
      (pss_cons (ps_if (PW.pt (pw_or (pt_cmpR (op_neSameK (K := K) rfl hul) (pv 7) (pv 5) (nomark _)) (pw_or (pt_not (pt_val (pe_callB (call_isiK (K := K) rfl) (by rfl) T.n_isinstance PyProof.Rows.Boot.«isinstance» (pa_cons (pv 8) (pa_cons (pe_bltn (v := .ty "list") (by rfl) T.n_list PyProof.Rows.Boot.«list» rfl) pa_nil))))) (pw_or1 (pt_cmpR op_ne (pe_callB (call_lenK (K := K) rfl) (by rfl) T.n_len PySem.boot_len (pa_cons (pv 8) pa_nil)) (pe_callB (call_lenK (K := K) rfl) (by rfl) T.n_len PySem.boot_len (pa_cons (pv 6) pa_nil)) (nomark _))))))
        (pss_one (ps_ret pe_bl))
        pss_nil)
      (pss_cons (ps_for PassesOwn.never rfl (pi_range1 (by rfl) T.n_range (pa_cons (pe_callB (call_lenK (K := K) rfl) (by rfl) T.n_len PySem.boot_len (pa_cons (pv 6) pa_nil)) pa_nil)) (pg_name (i := 9) sc_law.nd rfl (Or.inl rfl))
        (pss_one (ps_if (pt_not (pt_val (pe_call G_alike (hr.mono (by decide)) (by rfl) T.m__law_alike T.k__law_alike T.b__law_alike .nil pass0 (pa_cons (pe_ix (ix_listK (K := K) rfl) (pv 8) (pv 9) (fun _ _ => rfl)) (pa_cons (pe_ix (ix_listK (K := K) rfl) (pv 6) (pv 9) (fun _ _ => rfl)) pa_nil)))))
          (pss_one (ps_ret pe_bl))
          pss_nil)))
      (pss_one (ps_ret (pe_call G_stands (hr.mono (by decide)) (by rfl) T.m__law_stands T.k__law_stands T.b__law_stands .nil pass0 (pa_cons (pv 3) (pa_cons (pv 1) (pa_cons (pe_ix (ix_listK (K := K) rfl) (pv 4) pe_int (fun _ _ => rfl)) (pa_cons (pe_ix (ix_listK (K := K) rfl) (pv 4) pe_int (fun _ _ => rfl)) (pa_cons (pe_ix (ix_listK (K := K) rfl) (pv 4) pe_int (fun _ _ => rfl)) pa_nil))))))))))))))))))), ?_⟩
    refine ⟨_, rfl, a, ns, rfl, hS, fun Ra asa rowsa Ha Wa opa tma Ma sa fra => ?_⟩
    dsimp only [gName]
    refine seq_mk' (fun σ' H' => ∃ (R : Addr) (as : List Addr) (rows : List (List Int)), σ' = [some (.ref a), some (.ref R), none, none, none, none, none, none, none, none] ∧ Wf rows ∧ ((reachL rows).all id = true → Tame rows 30) ∧ Mat H' R as rows ∧ Same H H' ∧ ∀ x ∈ R :: as, H x = none) ?rest (fun D1 rest => ?way)
    case way =>
      refine ⟨_, rfl, a, ns, 500, 5, rfl, sa.seq hS, by decide, by decide, by decide, rfl, _, rfl, ?_⟩
      refine ite2 (fun _ => ?_) (fun _ => rest _ _ ⟨Ra, asa, rowsa, rfl, Wa, fun _ => tma, Ma, sa, fra⟩)
      exact ⟨_, rfl, a, ns, 4, 3, rfl, sa.seq hS, by decide, by decide, by decide, by decide, fun R as rows H1 W h4 h3 M s1 fr1 => rest _ _ ⟨R, as, rows, rfl, W, fun ho => tame_open W (by omega) (fun r hr => by have := h3 r hr; omega) (open_all ho), M, sa.trans s1, fun x hx => sa.free (fr1 x hx)⟩⟩
    rintro σ' H1 ⟨R, as, rows, rfl, W, tm, M, s1, fr1⟩
    have hl := M.reflen
    obtain ⟨w1, w12, wr⟩ := id W
    refine ⟨_, rfl, _, rfl, a, R, as, rows, ns, rfl, s1.seq hS, M, W, fun tA ts htA hts => ?_⟩
    have s2 : Same H1 (upd H1 tA (.lst (ts.map V.int))) := same_new htA
    have eT : upd H1 tA (.lst (ts.map V.int)) tA = some (.lst (ts.map V.int)) := upd_same
    generalize upd H1 tA (.lst (ts.map V.int)) = H2 at s2 eT
    have M2 := M.same s2
    have s02 := s1.trans s2
    have ntA := mat_no M htA
    have frL : ∀ x ∈ tA :: R :: as, H x = none := fun x hx => by
      rcases List.mem_cons.mp hx with y | y
      · rw [y]; exact s1.free htA
      · exact fr1 x y
    refine ⟨_, rfl, _, rfl, _, rfl, R, rfl, ⟨_, M2.sq⟩, ?_⟩
    refine comp_pure (ys := (List.replicate rows.length (0 : Int)).map V.int) (wk_list (K := K) M2.sq) (by rw [hl]; exact small12 (le100 w12)) (by simp [M2.len]) (fun j x y ex ey Q' q' => ?_) (fun lA hlA => ?_)
    · rw [List.getElem?_map] at ey
      rw [List.getElem?_replicate] at ey
      split at ey
      · cases ey
        exact q'
      · cases ey
    have s3 : Same H2 (upd H2 lA (.lst ((List.replicate rows.length (0 : Int)).map V.int))) := same_new hlA
    have eL : (upd H2 lA (.lst ((List.replicate rows.length (0 : Int)).map V.int))) lA = some (.lst ((List.replicate rows.length (0 : Int)).map V.int)) := upd_same
    generalize upd H2 lA (.lst ((List.replicate rows.length (0 : Int)).map V.int)) = H3 at s3 eL
    have M3 := M2.same s3
    have eT3 := s3 _ _ eT
    have s03 := s02.trans s3
    have rn := rep_nn rows.length
    refine ⟨R, tA, lA, as, rows, ts, _, rfl, M3, W, SqL.of eT3, SqL.of eL, hts, by simp, fun k hk => by have := take_sum_le rn k; rw [rep_sum0] at this; omega, fun p dx aR asB aT aL aS H4 B4 s4 fr4 => ?_⟩
    have O : BrdOk ⟨rows, ts, List.replicate rows.length 0, List.replicate rows.length 0, 0⟩ := ⟨W, hts, by simp, by simp, rn⟩
    have M4 := M3.same s4
    have s04 := s03.trans s4
    have eT4 := s4 _ _ eT3
    refine ⟨_, rfl, _, rfl, R, rfl, ⟨_, M4.sq⟩, ?_⟩
    refine comp_pure (ys := (List.replicate rows.length (0 : Int)).map V.int) (wk_list (K := K) M4.sq) (by rw [hl]; exact small12 (le100 w12)) (by simp [M4.len]) (fun j x y ex ey Q' q' => ?_) (fun zA hzA => ?_)
    · rw [List.getElem?_map] at ey
      rw [List.getElem?_replicate] at ey
      split at ey
      · cases ey
        exact q'
      · cases ey
    have s5 : Same H4 (upd H4 zA (.lst ((List.replicate rows.length (0 : Int)).map V.int))) := same_new hzA
    have e5 : (upd H4 zA (.lst ((List.replicate rows.length (0 : Int)).map V.int))) zA = some (.lst ((List.replicate rows.length (0 : Int)).map V.int)) := upd_same
    generalize upd H4 zA (.lst ((List.replicate rows.length (0 : Int)).map V.int)) = H5 at s5 e5
    refine ⟨small12 (by show 1 ≤ 100; decide), fun l3 hl3 => ⟨_, l3, _, _, rfl, rfl, same_new hl3 _ _ e5, upd_same, small12 (by simp; omega), fun yA hyA => ?_⟩⟩
    rw [snoc_int]
    have hyA5 : H5 yA = none := (same_new hl3).free hyA
    have s6 : Same H5 (upd (upd H5 l3 (.lst [V.int 0])) yA (.lst ((List.replicate rows.length (0 : Int) ++ [0]).map V.int))) := same_upd (same_new hl3) hyA5
    have eY : (upd (upd H5 l3 (.lst [V.int 0])) yA (.lst ((List.replicate rows.length (0 : Int) ++ [0]).map V.int))) yA = some (.lst ((List.replicate rows.length (0 : Int) ++ [0]).map V.int)) := upd_same
    generalize upd (upd H5 l3 (.lst [V.int 0])) yA (.lst ((List.replicate rows.length (0 : Int) ++ [0]).map V.int)) = H6 at s6 eY
    have s46 := s5.trans s6
    have hyA4 : H4 yA = none := s5.free hyA5
    have M6 := M4.same s46
    refine ⟨_, rfl, R, rfl, ⟨_, M6.sq⟩, ?_⟩
    refine comp_pure (ys := (List.replicate rows.length (0 : Int)).map V.int) (wk_list (K := K) M6.sq) (by rw [hl]; exact small12 (le100 w12)) (by simp [M6.len]) (fun j x y ex ey Q' q' => ?_) (fun cA hcA => ?_)
    · rw [List.getElem?_map] at ey
      rw [List.getElem?_replicate] at ey
      split at ey
      · cases ey
        exact q'
      · cases ey
    have s7 : Same H6 (upd H6 cA (.lst ((List.replicate rows.length (0 : Int)).map V.int))) := same_new hcA
    have eC : (upd H6 cA (.lst ((List.replicate rows.length (0 : Int)).map V.int))) cA = some (.lst ((List.replicate rows.length (0 : Int)).map V.int)) := upd_same
    generalize upd H6 cA (.lst ((List.replicate rows.length (0 : Int)).map V.int)) = H7 at s7 eC
    have hcA4 : H4 cA = none := s46.free hcA
    refine ⟨small12 (by show 3 ≤ 100; decide), fun nA hnA => ?_⟩
    have s8 : Same H7 (upd H7 nA (.lst [.ref tA, .ref yA, .ref cA])) := same_new hnA
    have eN : (upd H7 nA (.lst [.ref tA, .ref yA, .ref cA])) nA = some (.lst [.ref tA, .ref yA, .ref cA]) := upd_same
    have hnA4 : H4 nA = none := s46.free (s7.free hnA)
    have L7 : Lsts H7 R as tA yA cA ⟨rows, ts, List.replicate rows.length 0, List.replicate rows.length 0, 0⟩ := by
      refine ⟨M6.same s7, s7 _ _ (s46 _ _ eT4), s7 _ _ eY, eC, fun z => ?_, fun z => ?_, fun z => ?_, fun x hx => ?_⟩
      · rw [z, hyA4] at eT4; cases eT4
      · rw [z, hcA4] at eT4; cases eT4
      · rw [z, hcA] at eY; cases eY
      · simp only [List.mem_cons, List.not_mem_nil, or_false] at hx
        rcases hx with rfl | rfl | rfl
        · exact ntA
        · exact mat_no M4 hyA4
        · exact mat_no M4 hcA4
    dsimp only [gName]
    generalize upd H7 nA (.lst [.ref tA, .ref yA, .ref cA]) = H8 at s8 eN
    have N8 : Now H8 R as nA tA yA cA ⟨rows, ts, List.replicate rows.length 0, List.replicate rows.length 0, 0⟩ := ⟨L7.same s8, eN, fun z => by obtain ⟨o, e⟩ := L7.ins nA z; rw [hnA] at e; cases e⟩
    have s48 := (s46.trans s7).trans s8
    have s08 := s04.trans s48
    have B8 := B4.same s48
    have dj : ∀ x ∈ p :: aT :: aL :: aS :: aR :: asB, x ∉ nA :: tA :: yA :: cA :: R :: as := fun x hx z => by
      have h3 := fr4 x hx
      obtain ⟨o, e4⟩ := board_in B4 x hx
      simp only [List.mem_cons] at z
      rcases z with rfl | rfl | rfl | rfl | z
      · rw [hnA4] at e4; cases e4
      · rw [h3] at eT3; cases eT3
      · rw [hyA4] at e4; cases e4
      · rw [hcA4] at e4; cases e4
      · obtain ⟨o, e⟩ := mat_in M3 x (List.mem_cons.mpr z); rw [h3] at e; cases e
    have k0 := drawn_nn ns 501 (many := 13) (by decide)
    have k1 := drawn_lt ns 501 (many := 13) (by decide)
    refine ⟨_, rfl, a, ns, 501, 13, rfl, s08.seq hS, by decide, by decide, by decide, _, rfl, by omega, by omega, ?_⟩
    generalize drawn ns 501 13 = dn at k0 k1
    refine comp_inv wk_range (fun i ys H9 => Same H8 H9 ∧ ∃ (das : List Addr) (ds : List Deed), ys = das.map V.ref ∧ das.length = i ∧ ds.length = i ∧ ∀ (j : Nat) da d, das[j]? = some da → ds[j]? = some d → H9 da = some (.tup d.vs) ∧ Deed.ok d) ⟨Same.refl _, [], [], rfl, rfl, rfl, fun j da d e => by simp at e⟩ (fun i ys H9 p => p.1) ?_ ?_ ?_
    · rintro i x ys H9 ex ⟨s9, das, ds, rfl, h1, h2, h3⟩
      have hi : i < dn.toNat := by have := (List.getElem?_eq_some_iff.mp ex).1; simpa using this
      rw [List.getElem?_map, List.getElem?_range hi] at ex
      cases ex
      unfold tYes
      refine (show (if true = true then _ else _) from iteT ?_)
      refine ⟨_, rfl, _, rfl, _, rfl, a, R, as, rows, ns, _, rfl, (s08.trans s9).seq hS, N8.L.M.same s9, W, by omega, by omega, fun t d H10 ok s10 ht et => ⟨s9.trans s10, das ++ [t], ds ++ [d], by simp, by simp [h1], by simp [h2], fun j da d' ea ed => ?_⟩⟩
      by_cases hj : j < i
      · rw [List.getElem?_append_left (by omega)] at ea ed
        obtain ⟨e1, e2⟩ := h3 j da d' ea ed
        exact ⟨s10 _ _ e1, e2⟩
      · rw [List.getElem?_append_right (by omega)] at ea ed
        have z0 : j - das.length = 0 := by
          have := (List.getElem?_eq_some_iff.mp ea).1
          simp at this
          omega
        have z1 : j - ds.length = 0 := by omega
        rw [z0] at ea
        rw [z1] at ed
        have e1 : t = da := by simpa using ea
        have e2 : d = d' := by simpa using ed
        subst e1
        subst e2
        exact ⟨et, ok⟩
    · rintro i ys H9 hi ⟨s9, das, ds, rfl, h1, h2, _⟩
      rw [List.length_map, List.length_range] at hi
      rw [List.length_map, h1]
      exact Nat.lt_of_lt_of_le hi (small12 (by omega))
    rintro ys H9 ⟨s9, das, ds, rfl, h1, h2, h3⟩ dsA hdsA
    rw [List.length_map, List.length_range] at h1 h2
    have d12 : ds.length ≤ 12 := by omega
    have s10 : Same H9 (upd H9 dsA (.lst (das.map V.ref))) := same_new hdsA
    have eD : (upd H9 dsA (.lst (das.map V.ref))) dsA = some (.lst (das.map V.ref)) := upd_same
    generalize upd H9 dsA (.lst (das.map V.ref)) = H10 at s10 eD
    have s810 := s9.trans s10
    have N10 := N8.same s810
    have B10 := B8.same s810
    have h3' : ∀ (j : Nat) da d, das[j]? = some da → ds[j]? = some d → H10 da = some (.tup d.vs) ∧ Deed.ok d := fun j da d ea ed => by obtain ⟨e1, e2⟩ := h3 j da d ea ed; exact ⟨s10 _ _ e1, e2⟩
    have ndsA : dsA ∉ nA :: tA :: yA :: cA :: R :: as := fun z => by
      rcases List.mem_cons.mp z with z | z
      · have e := s9 _ _ eN; rw [← z, hdsA] at e; cases e
      · obtain ⟨o, e⟩ := N8.L.ins dsA z; have e := s9 _ _ e; rw [hdsA] at e; cases e
    have ndsO : dsA ∉ p :: aT :: aL :: aS :: aR :: asB := fun z => by obtain ⟨o, e⟩ := board_in B8 dsA z; have e := s9 _ _ e; rw [hdsA] at e; cases e
    refine ⟨_, rfl, dsA, rfl, ⟨_, SqL.of eD⟩, ?_⟩
    have z0s : (List.replicate rows.length (0 : Int)).sum = 0 := rep_sum0 _
    refine comp_list (K := K) (a := dsA) (xs := das.map V.ref) (fun i ys H11 => ∃ (b2 : Brd) (ans : List Ans) (t2 y2 c2 : Addr), Plays ⟨rows, ts, List.replicate rows.length 0, List.replicate rows.length 0, 0⟩ (ds.take i) b2 ans ∧ BrdOk b2 ∧ b2.rows = rows ∧ b2.loads.sum ≤ 2 * (i : Int) ∧ ys.length = i ∧ ans.length = i ∧ (∀ (j : Nat) a v, ans[j]? = some a → ys[j]? = some v → AnsV H11 a v) ∧ NLeft H10 H11 R as nA tA yA cA t2 y2 c2 b2)
      ⟨_, [], tA, yA, cA, by rw [List.take_zero]; exact .nil, O, rfl, by show (List.replicate rows.length (0 : Int)).sum ≤ 2 * 0; rw [z0s]; decide, rfl, rfl, fun j a v ea => by simp at ea, nleft_same N10 (Same.refl _)⟩ (fun i ys H11 _ ⟨b2, ans, t2, y2, c2, _, _, _, _, _, _, _, L⟩ => SqL.of (L.k _ _ ndsA eD)) ?_ ?_
    · rintro i x ys H11 hx ⟨b2, ans, t2, y2, c2, P2, O2, hrows, hsm, hyl, hal, hans, L2⟩
      rw [List.getElem?_map] at hx
      cases ed : das[i]? with
      | none => rw [ed] at hx; cases hx
      | some da =>
      rw [ed] at hx
      cases hx
      have hi : i < ds.length := by rw [h2, ← h1]; exact (List.getElem?_eq_some_iff.mp ed).1
      have ed2 : ds[i]? = some ds[i] := List.getElem?_eq_getElem hi
      obtain ⟨hda, okd⟩ := h3' i da _ ed ed2
      refine ⟨Nat.lt_of_lt_of_le (by omega : ys.length < 100) (small1000 (by decide)), ?_⟩
      unfold tYes
      refine (show (if true = true then _ else _) from iteT ?_)
      refine ⟨_, rfl, _, rfl, _, rfl, R, as, nA, t2, y2, c2, b2, da, ds[i], rfl, L2.N, O2, L2.k _ _ (now_nt N10 hda) hda, okd, by rw [hrows]; exact tm, by omega, fun b3 a' v t3 y3 c3 H12 Dd av L3 => ?_⟩
      obtain ⟨O3, r3, m3⟩ := does_ok O2 okd Dd
      refine ⟨b3, ans ++ [a'], t3, y3, c3, ?_, O3, r3.trans hrows, by omega, by simp [hyl], by simp [hal], fun j a2 v2 ea ev => ?_, L2.trans L3⟩
      · rw [List.take_add_one, ed2]
        exact .snoc P2 Dd
      · by_cases hj : j < i
        · rw [List.getElem?_append_left (by omega)] at ea ev
          have h0 := hans j a2 v2 ea ev
          cases a2 with
          | non => exact h0
          | int z => exact h0
          | ref z =>
            obtain ⟨t, e, ht⟩ := h0
            exact ⟨t, e, L3.k _ _ (now_nt L2.N ht) ht⟩
        · rw [List.getElem?_append_right (by omega)] at ea ev
          have z0 : j - ans.length = 0 := by
            have := (List.getElem?_eq_some_iff.mp ea).1
            simp at this
            omega
          have z1 : j - ys.length = 0 := by omega
          rw [z0] at ea
          rw [z1] at ev
          have e1 : a' = a2 := by simpa using ea
          have e2 : v = v2 := by simpa using ev
          subst e1
          subst e2
          exact av
    rintro us H11 ⟨b2, ans, t2, y2, c2, P2, O2, hrows, hsm, hul2, hal, hans, L2⟩ uA huA
    rw [List.length_map] at P2 hul2 hal hsm
    rw [h1, ← h2, List.take_length] at P2
    have s12 : Same H11 (upd H11 uA (.lst us)) := same_new huA
    have eU : (upd H11 uA (.lst us)) uA = some (.lst us) := upd_same
    generalize upd H11 uA (.lst us) = H12 at s12 eU
    have N12 := L2.N.same s12
    have B11 : BoardAt A.C H11 p dx aR asB aT aL aS _ := B10.keep fun c o hc e => L2.k c o (dj c hc) e
    have B12 := B11.same s12
    have eD12 := s12 _ _ (L2.k _ _ ndsA eD)
    have nuO : uA ∉ p :: aT :: aL :: aS :: aR :: asB := fun z => by obtain ⟨o, e⟩ := board_in B11 uA z; rw [huA] at e; cases e
    refine ⟨_, rfl, _, _, rfl, .inl (SqL.of eD12), fun hA hhA => ?_⟩
    have s13 : Same H12 (upd H12 hA (.lst (das.map V.ref))) := same_new hhA
    have eH : (upd H12 hA (.lst (das.map V.ref))) hA = some (.lst (das.map V.ref)) := upd_same
    generalize upd H12 hA (.lst (das.map V.ref)) = H13 at s13 eH
    have B13 := B12.same s13
    have nhO : hA ∉ p :: aT :: aL :: aS :: aR :: asB := fun z => by obtain ⟨o, e⟩ := board_in B12 hA z; rw [hhA] at e; cases e
    have h3b : ∀ (j : Nat) da d, das[j]? = some da → ds[j]? = some d → H13 da = some (.tup d.vs) ∧ Deed.ok d ∧ da ∉ p :: aT :: aL :: aS :: aR :: asB := fun j da d ea ed => by
      obtain ⟨e1, e2⟩ := h3' j da d ea ed
      have e3 := s13 _ _ (s12 _ _ (L2.k _ _ (now_nt N10 e1) e1))
      exact ⟨e3, e2, board_nt B13 e3⟩
    refine ⟨_, rfl, _, rfl, p, dx, aR, asB, aT, aL, aS, _, hA, das, ds, rfl, B13, O, eH, nhO, by omega, h3b, tm, by show (List.replicate rows.length (0 : Int)).sum + 2 * (ds.length : Int) ≤ 30; rw [z0s]; omega, by omega, fun b' ans' rs LA aT' aL' aS' H14 P' eLA hrl hans' LL => ?_⟩
    obtain ⟨rfl, rfl⟩ := plays_uniq P2 P'
    have hn14 : ∀ x o, x ∉ p :: aT :: aL :: aS :: aR :: asB → H13 x = some o → H14 x = some o := LL.k
    have eH14 := hn14 _ _ nhO eH
    have eD14 := hn14 _ _ ndsO (s13 _ _ eD12)
    have eU14 := hn14 _ _ nuO (s13 _ _ eU)
    refine ⟨_, rfl, _, rfl, hA, dsA, das, rfl, rfl, SqL.of eH14, SqL.of eD14, _, rfl, ?_⟩
    refine iteF ?_
    refine ⟨_, rfl, _, _, _, _, true, rfl, rfl, .lst eLA, rfl, _, rfl, ?_⟩
    refine iteF ?_
    refine ⟨_, rfl, _, _, rfl, .inl (SqL.of eLA), _, rfl, _, _, rfl, .inl (SqL.of eU14), rfl, _, rfl, ?_⟩
    have hlu : rs.length = us.length := by omega
    rw [decide_eq_true (show V.int (rs.length : Int) = V.int (us.length : Int) by rw [hlu])]
    refine iteF ?_
    have us12 : us.length ≤ 12 := by omega
    refine ⟨_, rfl, _, _, rfl, .inl (SqL.of eU14), _, rfl, by omega, by omega, ?_⟩
    have eu : ((us.length : Nat) : Int).toNat = us.length := by simp
    rw [eu]
    refine for_range (fun i σ H15 => ∃ x9 : Option V, σ = [some (.ref a), some (.ref R), some (.ref tA), some (.ref p), some (.ref nA), some (.ref dsA), some (.ref uA), some (.ref hA), some (.ref LA), x9] ∧ H14 = H15) ⟨none, rfl, rfl⟩ ?_ ?_
    · rintro i σ H15 hi ⟨x9, rfl, rfl⟩
      have ea : ans[i]? = some ans[i] := List.getElem?_eq_getElem (by omega)
      have er : rs[i]? = some rs[i] := List.getElem?_eq_getElem (by omega)
      have eu2 : us[i]? = some us[i] := List.getElem?_eq_getElem (by omega)
      have v1 := hans' i _ _ ea er
      have v2 : AnsV H14 ans[i] us[i] := by
        have h0 := hans i _ _ ea eu2
        cases hc : ans[i] with
        | non => rw [hc] at h0; exact h0
        | int z => rw [hc] at h0; exact h0
        | ref z =>
          rw [hc] at h0
          obtain ⟨t, e, ht⟩ := h0
          have h13 := s13 _ _ (s12 _ _ ht)
          exact ⟨t, e, hn14 _ _ (board_nt B13 h13) h13⟩
      refine ⟨_, rfl, _, rfl, _, _, _, _, rfl, rfl, SqL.of eLA, at_list (n := i) (by omega) er, _, rfl, _, rfl, _, _, _, _, rfl, rfl, SqL.of eU14, at_list (n := i) (by omega) eu2, ans[i], _, _, rfl, v1, v2, _, rfl, ?_⟩
      refine iteF ?_
      exact ⟨_, rfl, rfl⟩
    · rintro σ H15 ⟨x9, rfl, rfl⟩
      have nout : ∀ x ∈ nA :: t2 :: y2 :: c2 :: R :: as, x ∉ p :: aT :: aL :: aS :: aR :: asB := fun x hx z => by
        obtain ⟨o, e⟩ := board_in B10 x z
        exact L2.out e (dj x z) hx
      have nn14 := hn14 _ _ (nout nA (by simp)) (s13 _ _ N12.n)
      have L13 := N12.L.same s13
      have L14 : Lsts H14 R as t2 y2 c2 _ := L13.keep fun x o hx e => hn14 _ _ (nout x (List.mem_cons_of_mem _ hx)) e
      exact ⟨_, rfl, _, rfl, _, rfl, _, _, _, _, rfl, rfl, SqL.of nn14, at_list (n := 0) rfl rfl, _, rfl, _, _, _, _, rfl, rfl, SqL.of nn14, at_list (n := 1) rfl rfl, _, rfl, _, _, _, _, rfl, rfl, SqL.of nn14, at_list (n := 2) rfl rfl, p, dx, aR, asB, aT', aL', aS', _, R, as, t2, y2, c2, rfl, LL.B, L14.M, SqL.of L14.t, SqL.of L14.l, SqL.of L14.c, O2.b1, O2.b2, O2.b3, O2.b4, O2.b5, fun Hz _ => q Hz⟩
end
theorem all_mk {l : PySem.W.OpenLaw} {w : World} {K : PySem.W.Frag} {h : Heap} {mg : Str → Option Value} {fa : Addr} (X : K.In h) (G : h.Ns mainGlobals mg) (hfa : mg "law" = some (.ref fa))
    {C : Addr}
    {f_check_rows : Addr} {od_check_rows an_check_rows : Option Addr} {sl_check_rows : Array (Option Value)} {oc_check_rows kV_check_rows dc_check_rows pm_check_rows cd_check_rows ct_check_rows : Value}
    {f_check_row : Addr} {od_check_row an_check_row : Option Addr} {sl_check_row : Array (Option Value)} {oc_check_row kV_check_row dc_check_row pm_check_row cd_check_row ct_check_row : Value}
    {f_check_site : Addr} {od_check_site an_check_site : Option Addr} {sl_check_site : Array (Option Value)} {oc_check_site kV_check_site dc_check_site pm_check_site cd_check_site ct_check_site : Value}
    {f_Binit : Addr} {od_Binit an_Binit : Option Addr} {sl_Binit : Array (Option Value)} {oc_Binit kV_Binit dc_Binit pm_Binit cd_Binit ct_Binit : Value}
    {f_Bturn_to : Addr} {od_Bturn_to an_Bturn_to : Option Addr} {sl_Bturn_to : Array (Option Value)} {oc_Bturn_to kV_Bturn_to dc_Bturn_to pm_Bturn_to cd_Bturn_to ct_Bturn_to : Value}
    {f_Bload : Addr} {od_Bload an_Bload : Option Addr} {sl_Bload : Array (Option Value)} {oc_Bload kV_Bload dc_Bload pm_Bload cd_Bload ct_Bload : Value}
    {f_Btwin : Addr} {od_Btwin an_Btwin : Option Addr} {sl_Btwin : Array (Option Value)} {oc_Btwin kV_Btwin dc_Btwin pm_Btwin cd_Btwin ct_Btwin : Value}
    {f_Bstand_like : Addr} {od_Bstand_like an_Bstand_like : Option Addr} {sl_Bstand_like : Array (Option Value)} {oc_Bstand_like kV_Bstand_like dc_Bstand_like pm_Bstand_like cd_Bstand_like ct_Bstand_like : Value}
    {f_reached : Addr} {od_reached an_reached : Option Addr} {sl_reached : Array (Option Value)} {oc_reached kV_reached dc_reached pm_reached cd_reached ct_reached : Value}
    {f_is_open : Addr} {od_is_open an_is_open : Option Addr} {sl_is_open : Array (Option Value)} {oc_is_open kV_is_open dc_is_open pm_is_open cd_is_open ct_is_open : Value}
    {f_check_open : Addr} {od_check_open an_check_open : Option Addr} {sl_check_open : Array (Option Value)} {oc_check_open kV_check_open dc_check_open pm_check_open cd_check_open ct_check_open : Value}
    {f_last_exit : Addr} {od_last_exit an_last_exit : Option Addr} {sl_last_exit : Array (Option Value)} {oc_last_exit kV_last_exit dc_last_exit pm_last_exit cd_last_exit ct_last_exit : Value}
    {f_is_tree : Addr} {od_is_tree an_is_tree : Option Addr} {sl_is_tree : Array (Option Value)} {oc_is_tree kV_is_tree dc_is_tree pm_is_tree cd_is_tree ct_is_tree : Value}
    {f_step : Addr} {od_step an_step : Option Addr} {sl_step : Array (Option Value)} {oc_step kV_step dc_step pm_step cd_step ct_step : Value}
    {f_loaded : Addr} {od_loaded an_loaded : Option Addr} {sl_loaded : Array (Option Value)} {oc_loaded kV_loaded dc_loaded pm_loaded cd_loaded ct_loaded : Value}
    {f_run : Addr} {od_run an_run : Option Addr} {sl_run : Array (Option Value)} {oc_run kV_run dc_run pm_run cd_run ct_run : Value}
    {f_check_back : Addr} {od_check_back an_check_back : Option Addr} {sl_check_back : Array (Option Value)} {oc_check_back kV_check_back dc_check_back pm_check_back cd_check_back ct_check_back : Value}
    {f_run_back : Addr} {od_run_back an_run_back : Option Addr} {sl_run_back : Array (Option Value)} {oc_run_back kV_run_back dc_run_back pm_run_back cd_run_back ct_run_back : Value}
    {f_turn_back : Addr} {od_turn_back an_turn_back : Option Addr} {sl_turn_back : Array (Option Value)} {oc_turn_back kV_turn_back dc_turn_back pm_turn_back cd_turn_back ct_turn_back : Value}
    {f_place_ahead : Addr} {od_place_ahead an_place_ahead : Option Addr} {sl_place_ahead : Array (Option Value)} {oc_place_ahead kV_place_ahead dc_place_ahead pm_place_ahead cd_place_ahead ct_place_ahead : Value}
    {f_leads_to : Addr} {od_leads_to an_leads_to : Option Addr} {sl_leads_to : Array (Option Value)} {oc_leads_to kV_leads_to dc_leads_to pm_leads_to cd_leads_to ct_leads_to : Value}
    {f_play : Addr} {od_play an_play : Option Addr} {sl_play : Array (Option Value)} {oc_play kV_play dc_play pm_play cd_play ct_play : Value}
    {f_answer_to : Addr} {od_answer_to an_answer_to : Option Addr} {sl_answer_to : Array (Option Value)} {oc_answer_to kV_answer_to dc_answer_to pm_answer_to cd_answer_to ct_answer_to : Value}
    {f_refused : Addr} {od_refused an_refused : Option Addr} {sl_refused : Array (Option Value)} {oc_refused kV_refused dc_refused pm_refused cd_refused ct_refused : Value}
    {f_do : Addr} {od_do an_do : Option Addr} {sl_do : Array (Option Value)} {oc_do kV_do dc_do pm_do cd_do ct_do : Value}
    {f_drawn : Addr} {od_drawn an_drawn : Option Addr} {sl_drawn : Array (Option Value)} {oc_drawn kV_drawn dc_drawn pm_drawn cd_drawn ct_drawn : Value}
    {f_other : Addr} {od_other an_other : Option Addr} {sl_other : Array (Option Value)} {oc_other kV_other dc_other pm_other cd_other ct_other : Value}
    {f_rows_by : Addr} {od_rows_by an_rows_by : Option Addr} {sl_rows_by : Array (Option Value)} {oc_rows_by kV_rows_by dc_rows_by pm_rows_by cd_rows_by ct_rows_by : Value}
    {f_any_by : Addr} {od_any_by an_any_by : Option Addr} {sl_any_by : Array (Option Value)} {oc_any_by kV_any_by dc_any_by pm_any_by cd_any_by ct_any_by : Value}
    {f_turns_by : Addr} {od_turns_by an_turns_by : Option Addr} {sl_turns_by : Array (Option Value)} {oc_turns_by kV_turns_by dc_turns_by pm_turns_by cd_turns_by ct_turns_by : Value}
    {f_board : Addr} {od_board an_board : Option Addr} {sl_board : Array (Option Value)} {oc_board kV_board dc_board pm_board cd_board ct_board : Value}
    {f_step_by : Addr} {od_step_by an_step_by : Option Addr} {sl_step_by : Array (Option Value)} {oc_step_by kV_step_by dc_step_by pm_step_by cd_step_by ct_step_by : Value}
    {f_run_by : Addr} {od_run_by an_run_by : Option Addr} {sl_run_by : Array (Option Value)} {oc_run_by kV_run_by dc_run_by pm_run_by cd_run_by ct_run_by : Value}
    {f_whole : Addr} {od_whole an_whole : Option Addr} {sl_whole : Array (Option Value)} {oc_whole kV_whole dc_whole pm_whole cd_whole ct_whole : Value}
    {f_row : Addr} {od_row an_row : Option Addr} {sl_row : Array (Option Value)} {oc_row kV_row dc_row pm_row cd_row ct_row : Value}
    {f_stands : Addr} {od_stands an_stands : Option Addr} {sl_stands : Array (Option Value)} {oc_stands kV_stands dc_stands pm_stands cd_stands ct_stands : Value}
    {f_opened : Addr} {od_opened an_opened : Option Addr} {sl_opened : Array (Option Value)} {oc_opened kV_opened dc_opened pm_opened cd_opened ct_opened : Value}
    {f_treed : Addr} {od_treed an_treed : Option Addr} {sl_treed : Array (Option Value)} {oc_treed kV_treed dc_treed pm_treed cd_treed ct_treed : Value}
    {f_ahead : Addr} {od_ahead an_ahead : Option Addr} {sl_ahead : Array (Option Value)} {oc_ahead kV_ahead dc_ahead pm_ahead cd_ahead ct_ahead : Value}
    {f_back : Addr} {od_back an_back : Option Addr} {sl_back : Array (Option Value)} {oc_back kV_back dc_back pm_back cd_back ct_back : Value}
    {f_runL : Addr} {od_runL an_runL : Option Addr} {sl_runL : Array (Option Value)} {oc_runL kV_runL dc_runL pm_runL cd_runL ct_runL : Value}
    {f_done : Addr} {od_done an_done : Option Addr} {sl_done : Array (Option Value)} {oc_done kV_done dc_done pm_done cd_done ct_done : Value}
    {f_deed_by : Addr} {od_deed_by an_deed_by : Option Addr} {sl_deed_by : Array (Option Value)} {oc_deed_by kV_deed_by dc_deed_by pm_deed_by cd_deed_by ct_deed_by : Value}
    {f_alike : Addr} {od_alike an_alike : Option Addr} {sl_alike : Array (Option Value)} {oc_alike kV_alike dc_alike pm_alike cd_alike ct_alike : Value}
    {f_law : Addr} {od_law an_law : Option Addr} {sl_law : Array (Option Value)} {oc_law kV_law dc_law pm_law cd_law ct_law : Value}
    {t_PIT : Tok}
    {t_MOST_SITES : Tok}
    {t_MOST_EXITS : Tok}
    {t_MOST_MARBLES : Tok}
    {c_NoSite : Addr}
    {c_NoPlace : Addr}
    {c_NoMarble : Addr}
    {c_TooMany : Addr}
    {c_NotOpen : Addr}
    {c_NotBare : Addr}
    {c_NotTree : Addr}
    {c_TooLong : Addr}
    (aC : PySem.W.nsIn K mainGlobals "Board" = some (some (.ref C)))
    (a_check_rows : PySem.W.nsIn K mainGlobals "check_rows" = some (some (.ref f_check_rows)))
    (l_check_rows : K.lookup f_check_rows = some ⟨oc_check_rows, od_check_rows, .func (PySem.W.fnOf "check_rows" "check_rows" (defArgs s_check_rows) (defBody s_check_rows) (defScope s_check_rows) .none kV_check_rows dc_check_rows pm_check_rows an_check_rows cd_check_rows ct_check_rows), sl_check_rows⟩) (c_check_rows : PySem.W.codeIn K cd_check_rows "check_rows" = true) (k_check_rows : PySem.W.keepIn K (.ref f_check_rows) = true)
    (a_check_row : PySem.W.nsIn K mainGlobals "check_row" = some (some (.ref f_check_row)))
    (l_check_row : K.lookup f_check_row = some ⟨oc_check_row, od_check_row, .func (PySem.W.fnOf "check_row" "check_row" (defArgs s_check_row) (defBody s_check_row) (defScope s_check_row) .none kV_check_row dc_check_row pm_check_row an_check_row cd_check_row ct_check_row), sl_check_row⟩) (c_check_row : PySem.W.codeIn K cd_check_row "check_row" = true) (k_check_row : PySem.W.keepIn K (.ref f_check_row) = true)
    (a_check_site : PySem.W.nsIn K mainGlobals "check_site" = some (some (.ref f_check_site)))
    (l_check_site : K.lookup f_check_site = some ⟨oc_check_site, od_check_site, .func (PySem.W.fnOf "check_site" "check_site" (defArgs s_check_site) (defBody s_check_site) (defScope s_check_site) .none kV_check_site dc_check_site pm_check_site an_check_site cd_check_site ct_check_site), sl_check_site⟩) (c_check_site : PySem.W.codeIn K cd_check_site "check_site" = true) (k_check_site : PySem.W.keepIn K (.ref f_check_site) = true)
    (a_Binit : PySem.W.findIn K (.ref C) "__init__" = some (some (.ref f_Binit))) (i_Binit : PySem.W.isFn K (.ref f_Binit) = true)
    (l_Binit : K.lookup f_Binit = some ⟨oc_Binit, od_Binit, .func (PySem.W.fnOf "__init__" "Board.__init__" (defArgs s_Binit) (defBody s_Binit) (defScope s_Binit) .none kV_Binit dc_Binit pm_Binit an_Binit cd_Binit ct_Binit), sl_Binit⟩) (c_Binit : PySem.W.codeIn K cd_Binit "Board.__init__" = true) (k_Binit : PySem.W.keepIn K (.ref f_Binit) = true)
    (a_Bturn_to : PySem.W.findIn K (.ref C) "turn_to" = some (some (.ref f_Bturn_to))) (i_Bturn_to : PySem.W.isFn K (.ref f_Bturn_to) = true)
    (l_Bturn_to : K.lookup f_Bturn_to = some ⟨oc_Bturn_to, od_Bturn_to, .func (PySem.W.fnOf "turn_to" "Board.turn_to" (defArgs s_Bturn_to) (defBody s_Bturn_to) (defScope s_Bturn_to) .none kV_Bturn_to dc_Bturn_to pm_Bturn_to an_Bturn_to cd_Bturn_to ct_Bturn_to), sl_Bturn_to⟩) (c_Bturn_to : PySem.W.codeIn K cd_Bturn_to "Board.turn_to" = true) (k_Bturn_to : PySem.W.keepIn K (.ref f_Bturn_to) = true)
    (a_Bload : PySem.W.findIn K (.ref C) "load" = some (some (.ref f_Bload))) (i_Bload : PySem.W.isFn K (.ref f_Bload) = true)
    (l_Bload : K.lookup f_Bload = some ⟨oc_Bload, od_Bload, .func (PySem.W.fnOf "load" "Board.load" (defArgs s_Bload) (defBody s_Bload) (defScope s_Bload) .none kV_Bload dc_Bload pm_Bload an_Bload cd_Bload ct_Bload), sl_Bload⟩) (c_Bload : PySem.W.codeIn K cd_Bload "Board.load" = true) (k_Bload : PySem.W.keepIn K (.ref f_Bload) = true)
    (a_Btwin : PySem.W.findIn K (.ref C) "twin" = some (some (.ref f_Btwin))) (i_Btwin : PySem.W.isFn K (.ref f_Btwin) = true)
    (l_Btwin : K.lookup f_Btwin = some ⟨oc_Btwin, od_Btwin, .func (PySem.W.fnOf "twin" "Board.twin" (defArgs s_Btwin) (defBody s_Btwin) (defScope s_Btwin) .none kV_Btwin dc_Btwin pm_Btwin an_Btwin cd_Btwin ct_Btwin), sl_Btwin⟩) (c_Btwin : PySem.W.codeIn K cd_Btwin "Board.twin" = true) (k_Btwin : PySem.W.keepIn K (.ref f_Btwin) = true)
    (a_Bstand_like : PySem.W.findIn K (.ref C) "stand_like" = some (some (.ref f_Bstand_like))) (i_Bstand_like : PySem.W.isFn K (.ref f_Bstand_like) = true)
    (l_Bstand_like : K.lookup f_Bstand_like = some ⟨oc_Bstand_like, od_Bstand_like, .func (PySem.W.fnOf "stand_like" "Board.stand_like" (defArgs s_Bstand_like) (defBody s_Bstand_like) (defScope s_Bstand_like) .none kV_Bstand_like dc_Bstand_like pm_Bstand_like an_Bstand_like cd_Bstand_like ct_Bstand_like), sl_Bstand_like⟩) (c_Bstand_like : PySem.W.codeIn K cd_Bstand_like "Board.stand_like" = true) (k_Bstand_like : PySem.W.keepIn K (.ref f_Bstand_like) = true)
    (a_reached : PySem.W.nsIn K mainGlobals "reached" = some (some (.ref f_reached)))
    (l_reached : K.lookup f_reached = some ⟨oc_reached, od_reached, .func (PySem.W.fnOf "reached" "reached" (defArgs s_reached) (defBody s_reached) (defScope s_reached) .none kV_reached dc_reached pm_reached an_reached cd_reached ct_reached), sl_reached⟩) (c_reached : PySem.W.codeIn K cd_reached "reached" = true) (k_reached : PySem.W.keepIn K (.ref f_reached) = true)
    (a_is_open : PySem.W.nsIn K mainGlobals "is_open" = some (some (.ref f_is_open)))
    (l_is_open : K.lookup f_is_open = some ⟨oc_is_open, od_is_open, .func (PySem.W.fnOf "is_open" "is_open" (defArgs s_is_open) (defBody s_is_open) (defScope s_is_open) .none kV_is_open dc_is_open pm_is_open an_is_open cd_is_open ct_is_open), sl_is_open⟩) (c_is_open : PySem.W.codeIn K cd_is_open "is_open" = true) (k_is_open : PySem.W.keepIn K (.ref f_is_open) = true)
    (a_check_open : PySem.W.nsIn K mainGlobals "check_open" = some (some (.ref f_check_open)))
    (l_check_open : K.lookup f_check_open = some ⟨oc_check_open, od_check_open, .func (PySem.W.fnOf "check_open" "check_open" (defArgs s_check_open) (defBody s_check_open) (defScope s_check_open) .none kV_check_open dc_check_open pm_check_open an_check_open cd_check_open ct_check_open), sl_check_open⟩) (c_check_open : PySem.W.codeIn K cd_check_open "check_open" = true) (k_check_open : PySem.W.keepIn K (.ref f_check_open) = true)
    (a_last_exit : PySem.W.nsIn K mainGlobals "last_exit" = some (some (.ref f_last_exit)))
    (l_last_exit : K.lookup f_last_exit = some ⟨oc_last_exit, od_last_exit, .func (PySem.W.fnOf "last_exit" "last_exit" (defArgs s_last_exit) (defBody s_last_exit) (defScope s_last_exit) .none kV_last_exit dc_last_exit pm_last_exit an_last_exit cd_last_exit ct_last_exit), sl_last_exit⟩) (c_last_exit : PySem.W.codeIn K cd_last_exit "last_exit" = true) (k_last_exit : PySem.W.keepIn K (.ref f_last_exit) = true)
    (a_is_tree : PySem.W.nsIn K mainGlobals "is_tree" = some (some (.ref f_is_tree)))
    (l_is_tree : K.lookup f_is_tree = some ⟨oc_is_tree, od_is_tree, .func (PySem.W.fnOf "is_tree" "is_tree" (defArgs s_is_tree) (defBody s_is_tree) (defScope s_is_tree) .none kV_is_tree dc_is_tree pm_is_tree an_is_tree cd_is_tree ct_is_tree), sl_is_tree⟩) (c_is_tree : PySem.W.codeIn K cd_is_tree "is_tree" = true) (k_is_tree : PySem.W.keepIn K (.ref f_is_tree) = true)
    (a_step : PySem.W.nsIn K mainGlobals "step" = some (some (.ref f_step)))
    (l_step : K.lookup f_step = some ⟨oc_step, od_step, .func (PySem.W.fnOf "step" "step" (defArgs s_step) (defBody s_step) (defScope s_step) .none kV_step dc_step pm_step an_step cd_step ct_step), sl_step⟩) (c_step : PySem.W.codeIn K cd_step "step" = true) (k_step : PySem.W.keepIn K (.ref f_step) = true)
    (a_loaded : PySem.W.nsIn K mainGlobals "loaded" = some (some (.ref f_loaded)))
    (l_loaded : K.lookup f_loaded = some ⟨oc_loaded, od_loaded, .func (PySem.W.fnOf "loaded" "loaded" (defArgs s_loaded) (defBody s_loaded) (defScope s_loaded) .none kV_loaded dc_loaded pm_loaded an_loaded cd_loaded ct_loaded), sl_loaded⟩) (c_loaded : PySem.W.codeIn K cd_loaded "loaded" = true) (k_loaded : PySem.W.keepIn K (.ref f_loaded) = true)
    (a_run : PySem.W.nsIn K mainGlobals "run" = some (some (.ref f_run)))
    (l_run : K.lookup f_run = some ⟨oc_run, od_run, .func (PySem.W.fnOf "run" "run" (defArgs s_run) (defBody s_run) (defScope s_run) .none kV_run dc_run pm_run an_run cd_run ct_run), sl_run⟩) (c_run : PySem.W.codeIn K cd_run "run" = true) (k_run : PySem.W.keepIn K (.ref f_run) = true)
    (a_check_back : PySem.W.nsIn K mainGlobals "check_back" = some (some (.ref f_check_back)))
    (l_check_back : K.lookup f_check_back = some ⟨oc_check_back, od_check_back, .func (PySem.W.fnOf "check_back" "check_back" (defArgs s_check_back) (defBody s_check_back) (defScope s_check_back) .none kV_check_back dc_check_back pm_check_back an_check_back cd_check_back ct_check_back), sl_check_back⟩) (c_check_back : PySem.W.codeIn K cd_check_back "check_back" = true) (k_check_back : PySem.W.keepIn K (.ref f_check_back) = true)
    (a_run_back : PySem.W.nsIn K mainGlobals "run_back" = some (some (.ref f_run_back)))
    (l_run_back : K.lookup f_run_back = some ⟨oc_run_back, od_run_back, .func (PySem.W.fnOf "run_back" "run_back" (defArgs s_run_back) (defBody s_run_back) (defScope s_run_back) .none kV_run_back dc_run_back pm_run_back an_run_back cd_run_back ct_run_back), sl_run_back⟩) (c_run_back : PySem.W.codeIn K cd_run_back "run_back" = true) (k_run_back : PySem.W.keepIn K (.ref f_run_back) = true)
    (a_turn_back : PySem.W.nsIn K mainGlobals "turn_back" = some (some (.ref f_turn_back)))
    (l_turn_back : K.lookup f_turn_back = some ⟨oc_turn_back, od_turn_back, .func (PySem.W.fnOf "turn_back" "turn_back" (defArgs s_turn_back) (defBody s_turn_back) (defScope s_turn_back) .none kV_turn_back dc_turn_back pm_turn_back an_turn_back cd_turn_back ct_turn_back), sl_turn_back⟩) (c_turn_back : PySem.W.codeIn K cd_turn_back "turn_back" = true) (k_turn_back : PySem.W.keepIn K (.ref f_turn_back) = true)
    (a_place_ahead : PySem.W.nsIn K mainGlobals "place_ahead" = some (some (.ref f_place_ahead)))
    (l_place_ahead : K.lookup f_place_ahead = some ⟨oc_place_ahead, od_place_ahead, .func (PySem.W.fnOf "place_ahead" "place_ahead" (defArgs s_place_ahead) (defBody s_place_ahead) (defScope s_place_ahead) .none kV_place_ahead dc_place_ahead pm_place_ahead an_place_ahead cd_place_ahead ct_place_ahead), sl_place_ahead⟩) (c_place_ahead : PySem.W.codeIn K cd_place_ahead "place_ahead" = true) (k_place_ahead : PySem.W.keepIn K (.ref f_place_ahead) = true)
    (a_leads_to : PySem.W.nsIn K mainGlobals "leads_to" = some (some (.ref f_leads_to)))
    (l_leads_to : K.lookup f_leads_to = some ⟨oc_leads_to, od_leads_to, .func (PySem.W.fnOf "leads_to" "leads_to" (defArgs s_leads_to) (defBody s_leads_to) (defScope s_leads_to) .none kV_leads_to dc_leads_to pm_leads_to an_leads_to cd_leads_to ct_leads_to), sl_leads_to⟩) (c_leads_to : PySem.W.codeIn K cd_leads_to "leads_to" = true) (k_leads_to : PySem.W.keepIn K (.ref f_leads_to) = true)
    (a_play : PySem.W.nsIn K mainGlobals "play" = some (some (.ref f_play)))
    (l_play : K.lookup f_play = some ⟨oc_play, od_play, .func (PySem.W.fnOf "play" "play" (defArgs s_play) (defBody s_play) (defScope s_play) .none kV_play dc_play pm_play an_play cd_play ct_play), sl_play⟩) (c_play : PySem.W.codeIn K cd_play "play" = true) (k_play : PySem.W.keepIn K (.ref f_play) = true)
    (a_answer_to : PySem.W.nsIn K mainGlobals "answer_to" = some (some (.ref f_answer_to)))
    (l_answer_to : K.lookup f_answer_to = some ⟨oc_answer_to, od_answer_to, .func (PySem.W.fnOf "answer_to" "answer_to" (defArgs s_answer_to) (defBody s_answer_to) (defScope s_answer_to) .none kV_answer_to dc_answer_to pm_answer_to an_answer_to cd_answer_to ct_answer_to), sl_answer_to⟩) (c_answer_to : PySem.W.codeIn K cd_answer_to "answer_to" = true) (k_answer_to : PySem.W.keepIn K (.ref f_answer_to) = true)
    (a_refused : PySem.W.nsIn K mainGlobals "refused" = some (some (.ref f_refused)))
    (l_refused : K.lookup f_refused = some ⟨oc_refused, od_refused, .func (PySem.W.fnOf "refused" "refused" (defArgs s_refused) (defBody s_refused) (defScope s_refused) .none kV_refused dc_refused pm_refused an_refused cd_refused ct_refused), sl_refused⟩) (c_refused : PySem.W.codeIn K cd_refused "refused" = true) (k_refused : PySem.W.keepIn K (.ref f_refused) = true)
    (a_do : PySem.W.nsIn K mainGlobals "do" = some (some (.ref f_do)))
    (l_do : K.lookup f_do = some ⟨oc_do, od_do, .func (PySem.W.fnOf "do" "do" (defArgs s_do) (defBody s_do) (defScope s_do) .none kV_do dc_do pm_do an_do cd_do ct_do), sl_do⟩) (c_do : PySem.W.codeIn K cd_do "do" = true) (k_do : PySem.W.keepIn K (.ref f_do) = true)
    (a_drawn : PySem.W.nsIn K mainGlobals "_law_drawn" = some (some (.ref f_drawn)))
    (l_drawn : K.lookup f_drawn = some ⟨oc_drawn, od_drawn, .func (PySem.W.fnOf "_law_drawn" "_law_drawn" (defArgs s_drawn) (defBody s_drawn) (defScope s_drawn) .none kV_drawn dc_drawn pm_drawn an_drawn cd_drawn ct_drawn), sl_drawn⟩) (c_drawn : PySem.W.codeIn K cd_drawn "_law_drawn" = true) (k_drawn : PySem.W.keepIn K (.ref f_drawn) = true)
    (a_other : PySem.W.nsIn K mainGlobals "_law_other" = some (some (.ref f_other)))
    (l_other : K.lookup f_other = some ⟨oc_other, od_other, .func (PySem.W.fnOf "_law_other" "_law_other" (defArgs s_other) (defBody s_other) (defScope s_other) .none kV_other dc_other pm_other an_other cd_other ct_other), sl_other⟩) (c_other : PySem.W.codeIn K cd_other "_law_other" = true) (k_other : PySem.W.keepIn K (.ref f_other) = true)
    (a_rows_by : PySem.W.nsIn K mainGlobals "_law_rows_by" = some (some (.ref f_rows_by)))
    (l_rows_by : K.lookup f_rows_by = some ⟨oc_rows_by, od_rows_by, .func (PySem.W.fnOf "_law_rows_by" "_law_rows_by" (defArgs s_rows_by) (defBody s_rows_by) (defScope s_rows_by) .none kV_rows_by dc_rows_by pm_rows_by an_rows_by cd_rows_by ct_rows_by), sl_rows_by⟩) (c_rows_by : PySem.W.codeIn K cd_rows_by "_law_rows_by" = true) (k_rows_by : PySem.W.keepIn K (.ref f_rows_by) = true)
    (a_any_by : PySem.W.nsIn K mainGlobals "_law_any_by" = some (some (.ref f_any_by)))
    (l_any_by : K.lookup f_any_by = some ⟨oc_any_by, od_any_by, .func (PySem.W.fnOf "_law_any_by" "_law_any_by" (defArgs s_any_by) (defBody s_any_by) (defScope s_any_by) .none kV_any_by dc_any_by pm_any_by an_any_by cd_any_by ct_any_by), sl_any_by⟩) (c_any_by : PySem.W.codeIn K cd_any_by "_law_any_by" = true) (k_any_by : PySem.W.keepIn K (.ref f_any_by) = true)
    (a_turns_by : PySem.W.nsIn K mainGlobals "_law_turns_by" = some (some (.ref f_turns_by)))
    (l_turns_by : K.lookup f_turns_by = some ⟨oc_turns_by, od_turns_by, .func (PySem.W.fnOf "_law_turns_by" "_law_turns_by" (defArgs s_turns_by) (defBody s_turns_by) (defScope s_turns_by) .none kV_turns_by dc_turns_by pm_turns_by an_turns_by cd_turns_by ct_turns_by), sl_turns_by⟩) (c_turns_by : PySem.W.codeIn K cd_turns_by "_law_turns_by" = true) (k_turns_by : PySem.W.keepIn K (.ref f_turns_by) = true)
    (a_board : PySem.W.nsIn K mainGlobals "_law_board" = some (some (.ref f_board)))
    (l_board : K.lookup f_board = some ⟨oc_board, od_board, .func (PySem.W.fnOf "_law_board" "_law_board" (defArgs s_board) (defBody s_board) (defScope s_board) .none kV_board dc_board pm_board an_board cd_board ct_board), sl_board⟩) (c_board : PySem.W.codeIn K cd_board "_law_board" = true) (k_board : PySem.W.keepIn K (.ref f_board) = true)
    (a_step_by : PySem.W.nsIn K mainGlobals "_law_step_by" = some (some (.ref f_step_by)))
    (l_step_by : K.lookup f_step_by = some ⟨oc_step_by, od_step_by, .func (PySem.W.fnOf "_law_step_by" "_law_step_by" (defArgs s_step_by) (defBody s_step_by) (defScope s_step_by) .none kV_step_by dc_step_by pm_step_by an_step_by cd_step_by ct_step_by), sl_step_by⟩) (c_step_by : PySem.W.codeIn K cd_step_by "_law_step_by" = true) (k_step_by : PySem.W.keepIn K (.ref f_step_by) = true)
    (a_run_by : PySem.W.nsIn K mainGlobals "_law_run_by" = some (some (.ref f_run_by)))
    (l_run_by : K.lookup f_run_by = some ⟨oc_run_by, od_run_by, .func (PySem.W.fnOf "_law_run_by" "_law_run_by" (defArgs s_run_by) (defBody s_run_by) (defScope s_run_by) .none kV_run_by dc_run_by pm_run_by an_run_by cd_run_by ct_run_by), sl_run_by⟩) (c_run_by : PySem.W.codeIn K cd_run_by "_law_run_by" = true) (k_run_by : PySem.W.keepIn K (.ref f_run_by) = true)
    (a_whole : PySem.W.nsIn K mainGlobals "_law_whole" = some (some (.ref f_whole)))
    (l_whole : K.lookup f_whole = some ⟨oc_whole, od_whole, .func (PySem.W.fnOf "_law_whole" "_law_whole" (defArgs s_whole) (defBody s_whole) (defScope s_whole) .none kV_whole dc_whole pm_whole an_whole cd_whole ct_whole), sl_whole⟩) (c_whole : PySem.W.codeIn K cd_whole "_law_whole" = true) (k_whole : PySem.W.keepIn K (.ref f_whole) = true)
    (a_row : PySem.W.nsIn K mainGlobals "_law_row" = some (some (.ref f_row)))
    (l_row : K.lookup f_row = some ⟨oc_row, od_row, .func (PySem.W.fnOf "_law_row" "_law_row" (defArgs s_row) (defBody s_row) (defScope s_row) .none kV_row dc_row pm_row an_row cd_row ct_row), sl_row⟩) (c_row : PySem.W.codeIn K cd_row "_law_row" = true) (k_row : PySem.W.keepIn K (.ref f_row) = true)
    (a_stands : PySem.W.nsIn K mainGlobals "_law_stands" = some (some (.ref f_stands)))
    (l_stands : K.lookup f_stands = some ⟨oc_stands, od_stands, .func (PySem.W.fnOf "_law_stands" "_law_stands" (defArgs s_stands) (defBody s_stands) (defScope s_stands) .none kV_stands dc_stands pm_stands an_stands cd_stands ct_stands), sl_stands⟩) (c_stands : PySem.W.codeIn K cd_stands "_law_stands" = true) (k_stands : PySem.W.keepIn K (.ref f_stands) = true)
    (a_opened : PySem.W.nsIn K mainGlobals "_law_opened" = some (some (.ref f_opened)))
    (l_opened : K.lookup f_opened = some ⟨oc_opened, od_opened, .func (PySem.W.fnOf "_law_opened" "_law_opened" (defArgs s_opened) (defBody s_opened) (defScope s_opened) .none kV_opened dc_opened pm_opened an_opened cd_opened ct_opened), sl_opened⟩) (c_opened : PySem.W.codeIn K cd_opened "_law_opened" = true) (k_opened : PySem.W.keepIn K (.ref f_opened) = true)
    (a_treed : PySem.W.nsIn K mainGlobals "_law_treed" = some (some (.ref f_treed)))
    (l_treed : K.lookup f_treed = some ⟨oc_treed, od_treed, .func (PySem.W.fnOf "_law_treed" "_law_treed" (defArgs s_treed) (defBody s_treed) (defScope s_treed) .none kV_treed dc_treed pm_treed an_treed cd_treed ct_treed), sl_treed⟩) (c_treed : PySem.W.codeIn K cd_treed "_law_treed" = true) (k_treed : PySem.W.keepIn K (.ref f_treed) = true)
    (a_ahead : PySem.W.nsIn K mainGlobals "_law_ahead" = some (some (.ref f_ahead)))
    (l_ahead : K.lookup f_ahead = some ⟨oc_ahead, od_ahead, .func (PySem.W.fnOf "_law_ahead" "_law_ahead" (defArgs s_ahead) (defBody s_ahead) (defScope s_ahead) .none kV_ahead dc_ahead pm_ahead an_ahead cd_ahead ct_ahead), sl_ahead⟩) (c_ahead : PySem.W.codeIn K cd_ahead "_law_ahead" = true) (k_ahead : PySem.W.keepIn K (.ref f_ahead) = true)
    (a_back : PySem.W.nsIn K mainGlobals "_law_back" = some (some (.ref f_back)))
    (l_back : K.lookup f_back = some ⟨oc_back, od_back, .func (PySem.W.fnOf "_law_back" "_law_back" (defArgs s_back) (defBody s_back) (defScope s_back) .none kV_back dc_back pm_back an_back cd_back ct_back), sl_back⟩) (c_back : PySem.W.codeIn K cd_back "_law_back" = true) (k_back : PySem.W.keepIn K (.ref f_back) = true)
    (a_runL : PySem.W.nsIn K mainGlobals "_law_run" = some (some (.ref f_runL)))
    (l_runL : K.lookup f_runL = some ⟨oc_runL, od_runL, .func (PySem.W.fnOf "_law_run" "_law_run" (defArgs s_runL) (defBody s_runL) (defScope s_runL) .none kV_runL dc_runL pm_runL an_runL cd_runL ct_runL), sl_runL⟩) (c_runL : PySem.W.codeIn K cd_runL "_law_run" = true) (k_runL : PySem.W.keepIn K (.ref f_runL) = true)
    (a_done : PySem.W.nsIn K mainGlobals "_law_done" = some (some (.ref f_done)))
    (l_done : K.lookup f_done = some ⟨oc_done, od_done, .func (PySem.W.fnOf "_law_done" "_law_done" (defArgs s_done) (defBody s_done) (defScope s_done) .none kV_done dc_done pm_done an_done cd_done ct_done), sl_done⟩) (c_done : PySem.W.codeIn K cd_done "_law_done" = true) (k_done : PySem.W.keepIn K (.ref f_done) = true)
    (a_deed_by : PySem.W.nsIn K mainGlobals "_law_deed_by" = some (some (.ref f_deed_by)))
    (l_deed_by : K.lookup f_deed_by = some ⟨oc_deed_by, od_deed_by, .func (PySem.W.fnOf "_law_deed_by" "_law_deed_by" (defArgs s_deed_by) (defBody s_deed_by) (defScope s_deed_by) .none kV_deed_by dc_deed_by pm_deed_by an_deed_by cd_deed_by ct_deed_by), sl_deed_by⟩) (c_deed_by : PySem.W.codeIn K cd_deed_by "_law_deed_by" = true) (k_deed_by : PySem.W.keepIn K (.ref f_deed_by) = true)
    (a_alike : PySem.W.nsIn K mainGlobals "_law_alike" = some (some (.ref f_alike)))
    (l_alike : K.lookup f_alike = some ⟨oc_alike, od_alike, .func (PySem.W.fnOf "_law_alike" "_law_alike" (defArgs s_alike) (defBody s_alike) (defScope s_alike) .none kV_alike dc_alike pm_alike an_alike cd_alike ct_alike), sl_alike⟩) (c_alike : PySem.W.codeIn K cd_alike "_law_alike" = true) (k_alike : PySem.W.keepIn K (.ref f_alike) = true)
    (a_law : PySem.W.nsIn K mainGlobals "law" = some (some (.ref f_law)))
    (l_law : K.lookup f_law = some ⟨oc_law, od_law, .func (PySem.W.fnOf "law" "law" (defArgs s_law) (defBody s_law) (defScope s_law) .none kV_law dc_law pm_law an_law cd_law ct_law), sl_law⟩) (c_law : PySem.W.codeIn K cd_law "law" = true) (k_law : PySem.W.keepIn K (.ref f_law) = true)
    (pg : PySem.W.plainGet K C Str.empty = true) (hd : PySem.W.hasDictIn K C = true) (po : PySem.W.plainOver K C = true) (sa : PySem.W.findIn K (.ref C) "__setattr__" = some (some (.builtin "object.__setattr__"))) (mk : PySem.W.makesIn K C = true) (kc : PySem.W.keepIn K (.ref C) = true)
    (na_rows : PySem.W.findIn K (.ref C) "rows" = some none)
    (na_turns : PySem.W.findIn K (.ref C) "turns" = some none)
    (na_loads : PySem.W.findIn K (.ref C) "loads" = some none)
    (na_steps : PySem.W.findIn K (.ref C) "steps" = some none)
    (na_taken : PySem.W.findIn K (.ref C) "taken" = some none)
    (z_len : PySem.W.nsIn K mainGlobals "len" = some none)
    (z_range : PySem.W.nsIn K mainGlobals "range" = some none)
    (z_isinstance : PySem.W.nsIn K mainGlobals "isinstance" = some none)
    (z_int : PySem.W.nsIn K mainGlobals "int" = some none)
    (z_bool : PySem.W.nsIn K mainGlobals "bool" = some none)
    (z_list : PySem.W.nsIn K mainGlobals "list" = some none)
    (z_reversed : PySem.W.nsIn K mainGlobals "reversed" = some none)
    (z_sum : PySem.W.nsIn K mainGlobals "sum" = some none)
    (z_all : PySem.W.nsIn K mainGlobals "all" = some none)
    (z_any : PySem.W.nsIn K mainGlobals "any" = some none)
    (z_enumerate : PySem.W.nsIn K mainGlobals "enumerate" = some none)
    (z_str : PySem.W.nsIn K mainGlobals "str" = some none)
    (z_tuple : PySem.W.nsIn K mainGlobals "tuple" = some none)
    (g_PIT : PySem.W.nsIn K mainGlobals "PIT" = some (some (.int (-1) t_PIT)))
    (g_MOST_SITES : PySem.W.nsIn K mainGlobals "MOST_SITES" = some (some (.int (12) t_MOST_SITES)))
    (g_MOST_EXITS : PySem.W.nsIn K mainGlobals "MOST_EXITS" = some (some (.int (8) t_MOST_EXITS)))
    (g_MOST_MARBLES : PySem.W.nsIn K mainGlobals "MOST_MARBLES" = some (some (.int (400) t_MOST_MARBLES)))
    (ax_NoSite : PySem.W.nsIn K mainGlobals "NoSite" = some (some (.ref c_NoSite)))
    (ex_NoSite : PySem.W.excIn K c_NoSite vErr "ValueError.__new__" = true)
    (kb_NoSite : PySem.W.kitOne K (.ref c_NoSite) (.type "BaseException") = some true)
    (ax_NoPlace : PySem.W.nsIn K mainGlobals "NoPlace" = some (some (.ref c_NoPlace)))
    (ex_NoPlace : PySem.W.excIn K c_NoPlace vErr "ValueError.__new__" = true)
    (kb_NoPlace : PySem.W.kitOne K (.ref c_NoPlace) (.type "BaseException") = some true)
    (ax_NoMarble : PySem.W.nsIn K mainGlobals "NoMarble" = some (some (.ref c_NoMarble)))
    (ex_NoMarble : PySem.W.excIn K c_NoMarble vErr "ValueError.__new__" = true)
    (kb_NoMarble : PySem.W.kitOne K (.ref c_NoMarble) (.type "BaseException") = some true)
    (ax_TooMany : PySem.W.nsIn K mainGlobals "TooMany" = some (some (.ref c_TooMany)))
    (ex_TooMany : PySem.W.excIn K c_TooMany vErr "ValueError.__new__" = true)
    (kb_TooMany : PySem.W.kitOne K (.ref c_TooMany) (.type "BaseException") = some true)
    (ax_NotOpen : PySem.W.nsIn K mainGlobals "NotOpen" = some (some (.ref c_NotOpen)))
    (ex_NotOpen : PySem.W.excIn K c_NotOpen vErr "ValueError.__new__" = true)
    (kb_NotOpen : PySem.W.kitOne K (.ref c_NotOpen) (.type "BaseException") = some true)
    (ax_NotBare : PySem.W.nsIn K mainGlobals "NotBare" = some (some (.ref c_NotBare)))
    (ex_NotBare : PySem.W.excIn K c_NotBare vErr "ValueError.__new__" = true)
    (kb_NotBare : PySem.W.kitOne K (.ref c_NotBare) (.type "BaseException") = some true)
    (ax_NotTree : PySem.W.nsIn K mainGlobals "NotTree" = some (some (.ref c_NotTree)))
    (ex_NotTree : PySem.W.excIn K c_NotTree vErr "ValueError.__new__" = true)
    (kb_NotTree : PySem.W.kitOne K (.ref c_NotTree) (.type "BaseException") = some true)
    (ax_TooLong : PySem.W.nsIn K mainGlobals "TooLong" = some (some (.ref c_TooLong)))
    (ex_TooLong : PySem.W.excIn K c_TooLong vErr "ValueError.__new__" = true)
    (kb_TooLong : PySem.W.kitOne K (.ref c_TooLong) (.type "BaseException") = some true)
    (p_NoPlace_NoSite : PySem.W.kitOne K (.ref c_NoPlace) (.ref c_NoSite) = some false)
    (ne_NoPlace_NoSite : c_NoPlace ≠ c_NoSite)
    (p_NoMarble_NoSite : PySem.W.kitOne K (.ref c_NoMarble) (.ref c_NoSite) = some false)
    (ne_NoMarble_NoSite : c_NoMarble ≠ c_NoSite)
    (p_NoMarble_NoPlace : PySem.W.kitOne K (.ref c_NoMarble) (.ref c_NoPlace) = some false)
    (ne_NoMarble_NoPlace : c_NoMarble ≠ c_NoPlace)
    (p_TooMany_NoSite : PySem.W.kitOne K (.ref c_TooMany) (.ref c_NoSite) = some false)
    (ne_TooMany_NoSite : c_TooMany ≠ c_NoSite)
    (p_TooMany_NoPlace : PySem.W.kitOne K (.ref c_TooMany) (.ref c_NoPlace) = some false)
    (ne_TooMany_NoPlace : c_TooMany ≠ c_NoPlace)
    (p_TooMany_NoMarble : PySem.W.kitOne K (.ref c_TooMany) (.ref c_NoMarble) = some false)
    (ne_TooMany_NoMarble : c_TooMany ≠ c_NoMarble)
    (p_NotOpen_NoSite : PySem.W.kitOne K (.ref c_NotOpen) (.ref c_NoSite) = some false)
    (ne_NotOpen_NoSite : c_NotOpen ≠ c_NoSite)
    (p_NotOpen_NoPlace : PySem.W.kitOne K (.ref c_NotOpen) (.ref c_NoPlace) = some false)
    (ne_NotOpen_NoPlace : c_NotOpen ≠ c_NoPlace)
    (p_NotOpen_NoMarble : PySem.W.kitOne K (.ref c_NotOpen) (.ref c_NoMarble) = some false)
    (ne_NotOpen_NoMarble : c_NotOpen ≠ c_NoMarble)
    (p_NotOpen_TooMany : PySem.W.kitOne K (.ref c_NotOpen) (.ref c_TooMany) = some false)
    (ne_NotOpen_TooMany : c_NotOpen ≠ c_TooMany)
    (p_NotBare_NoSite : PySem.W.kitOne K (.ref c_NotBare) (.ref c_NoSite) = some false)
    (ne_NotBare_NoSite : c_NotBare ≠ c_NoSite)
    (p_NotBare_NoPlace : PySem.W.kitOne K (.ref c_NotBare) (.ref c_NoPlace) = some false)
    (ne_NotBare_NoPlace : c_NotBare ≠ c_NoPlace)
    (p_NotBare_NoMarble : PySem.W.kitOne K (.ref c_NotBare) (.ref c_NoMarble) = some false)
    (ne_NotBare_NoMarble : c_NotBare ≠ c_NoMarble)
    (p_NotBare_TooMany : PySem.W.kitOne K (.ref c_NotBare) (.ref c_TooMany) = some false)
    (ne_NotBare_TooMany : c_NotBare ≠ c_TooMany)
    (p_NotBare_NotOpen : PySem.W.kitOne K (.ref c_NotBare) (.ref c_NotOpen) = some false)
    (ne_NotBare_NotOpen : c_NotBare ≠ c_NotOpen)
    (p_NotTree_NoSite : PySem.W.kitOne K (.ref c_NotTree) (.ref c_NoSite) = some false)
    (ne_NotTree_NoSite : c_NotTree ≠ c_NoSite)
    (p_NotTree_NoPlace : PySem.W.kitOne K (.ref c_NotTree) (.ref c_NoPlace) = some false)
    (ne_NotTree_NoPlace : c_NotTree ≠ c_NoPlace)
    (p_NotTree_NoMarble : PySem.W.kitOne K (.ref c_NotTree) (.ref c_NoMarble) = some false)
    (ne_NotTree_NoMarble : c_NotTree ≠ c_NoMarble)
    (p_NotTree_TooMany : PySem.W.kitOne K (.ref c_NotTree) (.ref c_TooMany) = some false)
    (ne_NotTree_TooMany : c_NotTree ≠ c_TooMany)
    (p_NotTree_NotOpen : PySem.W.kitOne K (.ref c_NotTree) (.ref c_NotOpen) = some false)
    (ne_NotTree_NotOpen : c_NotTree ≠ c_NotOpen)
    (p_NotTree_NotBare : PySem.W.kitOne K (.ref c_NotTree) (.ref c_NotBare) = some false)
    (ne_NotTree_NotBare : c_NotTree ≠ c_NotBare)
    (p_TooLong_NoSite : PySem.W.kitOne K (.ref c_TooLong) (.ref c_NoSite) = some false)
    (ne_TooLong_NoSite : c_TooLong ≠ c_NoSite)
    (p_TooLong_NoPlace : PySem.W.kitOne K (.ref c_TooLong) (.ref c_NoPlace) = some false)
    (ne_TooLong_NoPlace : c_TooLong ≠ c_NoPlace)
    (p_TooLong_NoMarble : PySem.W.kitOne K (.ref c_TooLong) (.ref c_NoMarble) = some false)
    (ne_TooLong_NoMarble : c_TooLong ≠ c_NoMarble)
    (p_TooLong_TooMany : PySem.W.kitOne K (.ref c_TooLong) (.ref c_TooMany) = some false)
    (ne_TooLong_TooMany : c_TooLong ≠ c_TooMany)
    (p_TooLong_NotOpen : PySem.W.kitOne K (.ref c_TooLong) (.ref c_NotOpen) = some false)
    (ne_TooLong_NotOpen : c_TooLong ≠ c_NotOpen)
    (p_TooLong_NotBare : PySem.W.kitOne K (.ref c_TooLong) (.ref c_NotBare) = some false)
    (ne_TooLong_NotBare : c_TooLong ≠ c_NotBare)
    (p_TooLong_NotTree : PySem.W.kitOne K (.ref c_TooLong) (.ref c_NotTree) = some false)
    (ne_TooLong_NotTree : c_TooLong ≠ c_NotTree)
    (q_int_bool : PySem.W.kitOne K (.type "int") (.type "bool") = some false)
    (q_int_tuple : PySem.W.kitOne K (.type "int") (.type "tuple") = some false)
    : ∃ fd : FuncData, (∀ (s : Shared) (v : Value), BindsTo s fd ⟨[v], []⟩ [("script", v)]) ∧ ∀ base : Heap, K.In base → base.Ns mainGlobals mg → FnOk l.prog w K mg base CX0 12 fa fd ["script"] (spLaw K) := by
  have e := hfa.symm.trans (PySem.W.mg_of X G a_law)
  cases e
  have F_check_rows := fun_mk (st := s_check_rows) l_check_rows c_check_rows k_check_rows
  have b_check_rows := F_check_rows.binds1 (p0 := "rows") fun _ _ _ _ _ _ _ => rfl
  have F_check_row := fun_mk (st := s_check_row) l_check_row c_check_row k_check_row
  have b_check_row := F_check_row.binds2 (p0 := "row") (p1 := "sites") fun _ _ _ _ _ _ _ _ => rfl
  have F_check_site := fun_mk (st := s_check_site) l_check_site c_check_site k_check_site
  have b_check_site := F_check_site.binds2 (p0 := "board") (p1 := "at") fun _ _ _ _ _ _ _ _ => rfl
  have F_Binit := fun_mk (st := s_Binit) l_Binit c_Binit k_Binit
  have b_Binit := F_Binit.binds2 (p0 := "self") (p1 := "rows") fun _ _ _ _ _ _ _ _ => rfl
  have F_Bturn_to := fun_mk (st := s_Bturn_to) l_Bturn_to c_Bturn_to k_Bturn_to
  have b_Bturn_to := F_Bturn_to.binds3 (p0 := "self") (p1 := "at") (p2 := "place") fun _ _ _ _ _ _ _ _ _ => rfl
  have F_Bload := fun_mk (st := s_Bload) l_Bload c_Bload k_Bload
  have b_Bload := F_Bload.binds3 (p0 := "self") (p1 := "at") (p2 := "many") fun _ _ _ _ _ _ _ _ _ => rfl
  have F_Btwin := fun_mk (st := s_Btwin) l_Btwin c_Btwin k_Btwin
  have b_Btwin := F_Btwin.binds1 (p0 := "self") fun _ _ _ _ _ _ _ => rfl
  have F_Bstand_like := fun_mk (st := s_Bstand_like) l_Bstand_like c_Bstand_like k_Bstand_like
  have b_Bstand_like := F_Bstand_like.binds2 (p0 := "self") (p1 := "other") fun _ _ _ _ _ _ _ _ => rfl
  have F_reached := fun_mk (st := s_reached) l_reached c_reached k_reached
  have b_reached := F_reached.binds1 (p0 := "rows") fun _ _ _ _ _ _ _ => rfl
  have F_is_open := fun_mk (st := s_is_open) l_is_open c_is_open k_is_open
  have b_is_open := F_is_open.binds1 (p0 := "board") fun _ _ _ _ _ _ _ => rfl
  have F_check_open := fun_mk (st := s_check_open) l_check_open c_check_open k_check_open
  have b_check_open := F_check_open.binds1 (p0 := "board") fun _ _ _ _ _ _ _ => rfl
  have F_last_exit := fun_mk (st := s_last_exit) l_last_exit c_last_exit k_last_exit
  have b_last_exit := F_last_exit.binds2 (p0 := "board") (p1 := "at") fun _ _ _ _ _ _ _ _ => rfl
  have F_is_tree := fun_mk (st := s_is_tree) l_is_tree c_is_tree k_is_tree
  have b_is_tree := F_is_tree.binds1 (p0 := "board") fun _ _ _ _ _ _ _ => rfl
  have F_step := fun_mk (st := s_step) l_step c_step k_step
  have b_step := F_step.binds2 (p0 := "board") (p1 := "at") fun _ _ _ _ _ _ _ _ => rfl
  have F_loaded := fun_mk (st := s_loaded) l_loaded c_loaded k_loaded
  have b_loaded := F_loaded.binds1 (p0 := "board") fun _ _ _ _ _ _ _ => rfl
  have F_run := fun_mk (st := s_run) l_run c_run k_run
  have b_run := F_run.binds2 (p0 := "board") (p1 := "most") fun _ _ _ _ _ _ _ _ => rfl
  have F_check_back := fun_mk (st := s_check_back) l_check_back c_check_back k_check_back
  have b_check_back := F_check_back.binds2 (p0 := "board") (p1 := "at") fun _ _ _ _ _ _ _ _ => rfl
  have F_run_back := fun_mk (st := s_run_back) l_run_back c_run_back k_run_back
  have b_run_back := F_run_back.binds3 (p0 := "board") (p1 := "at") (p2 := "most") fun _ _ _ _ _ _ _ _ _ => rfl
  have F_turn_back := fun_mk (st := s_turn_back) l_turn_back c_turn_back k_turn_back
  have b_turn_back := F_turn_back.binds3 (p0 := "board") (p1 := "start") (p2 := "most") fun _ _ _ _ _ _ _ _ _ => rfl
  have F_place_ahead := fun_mk (st := s_place_ahead) l_place_ahead c_place_ahead k_place_ahead
  have b_place_ahead := F_place_ahead.binds3 (p0 := "board") (p1 := "start") (p2 := "goal") fun _ _ _ _ _ _ _ _ _ => rfl
  have F_leads_to := fun_mk (st := s_leads_to) l_leads_to c_leads_to k_leads_to
  have b_leads_to := F_leads_to.binds3 (p0 := "board") (p1 := "start") (p2 := "here") fun _ _ _ _ _ _ _ _ _ => rfl
  have F_play := fun_mk (st := s_play) l_play c_play k_play
  have b_play := F_play.binds2 (p0 := "board") (p1 := "deeds") fun _ _ _ _ _ _ _ _ => rfl
  have F_answer_to := fun_mk (st := s_answer_to) l_answer_to c_answer_to k_answer_to
  have b_answer_to := F_answer_to.binds2 (p0 := "board") (p1 := "deed") fun _ _ _ _ _ _ _ _ => rfl
  have F_refused := fun_mk (st := s_refused) l_refused c_refused k_refused
  have b_refused := F_refused.binds1 (p0 := "name") fun _ _ _ _ _ _ _ => rfl
  have F_do := fun_mk (st := s_do) l_do c_do k_do
  have b_do := F_do.binds2 (p0 := "board") (p1 := "deed") fun _ _ _ _ _ _ _ _ => rfl
  have F_drawn := fun_mk (st := s_drawn) l_drawn c_drawn k_drawn
  have b_drawn := F_drawn.binds3 (p0 := "script") (p1 := "k") (p2 := "many") fun _ _ _ _ _ _ _ _ _ => rfl
  have F_other := fun_mk (st := s_other) l_other c_other k_other
  have b_other := F_other.binds2 (p0 := "gone") (p1 := "many") fun _ _ _ _ _ _ _ _ => rfl
  have F_rows_by := fun_mk (st := s_rows_by) l_rows_by c_rows_by k_rows_by
  have b_rows_by := F_rows_by.binds1 (p0 := "script") fun _ _ _ _ _ _ _ => rfl
  have F_any_by := fun_mk (st := s_any_by) l_any_by c_any_by k_any_by
  have b_any_by := F_any_by.binds3 (p0 := "script") (p1 := "most") (p2 := "wide") fun _ _ _ _ _ _ _ _ _ => rfl
  have F_turns_by := fun_mk (st := s_turns_by) l_turns_by c_turns_by k_turns_by
  have b_turns_by := F_turns_by.binds2 (p0 := "script") (p1 := "rows") fun _ _ _ _ _ _ _ _ => rfl
  have F_board := fun_mk (st := s_board) l_board c_board k_board
  have b_board := F_board.binds3 (p0 := "rows") (p1 := "turns") (p2 := "loads") fun _ _ _ _ _ _ _ _ _ => rfl
  have F_step_by := fun_mk (st := s_step_by) l_step_by c_step_by k_step_by
  have b_step_by := F_step_by.binds5 (p0 := "rows") (p1 := "turns") (p2 := "lying") (p3 := "counts") (p4 := "at") fun _ _ _ _ _ _ _ _ _ _ _ => rfl
  have F_run_by := fun_mk (st := s_run_by) l_run_by c_run_by k_run_by
  have b_run_by := F_run_by.binds4 (p0 := "rows") (p1 := "turns") (p2 := "lying") (p3 := "counts") fun _ _ _ _ _ _ _ _ _ _ => rfl
  have F_whole := fun_mk (st := s_whole) l_whole c_whole k_whole
  have b_whole := F_whole.binds1 (p0 := "found") fun _ _ _ _ _ _ _ => rfl
  have F_row := fun_mk (st := s_row) l_row c_row k_row
  have b_row := F_row.binds2 (p0 := "found") (p1 := "due") fun _ _ _ _ _ _ _ _ => rfl
  have F_stands := fun_mk (st := s_stands) l_stands c_stands k_stands
  have b_stands := F_stands.binds5 (p0 := "board") (p1 := "rows") (p2 := "turns") (p3 := "lying") (p4 := "counts") fun _ _ _ _ _ _ _ _ _ _ _ => rfl
  have F_opened := fun_mk (st := s_opened) l_opened c_opened k_opened
  have b_opened := F_opened.binds1 (p0 := "rows") fun _ _ _ _ _ _ _ => rfl
  have F_treed := fun_mk (st := s_treed) l_treed c_treed k_treed
  have b_treed := F_treed.binds2 (p0 := "rows") (p1 := "turns") fun _ _ _ _ _ _ _ _ => rfl
  have F_ahead := fun_mk (st := s_ahead) l_ahead c_ahead k_ahead
  have b_ahead := F_ahead.binds4 (p0 := "rows") (p1 := "turns") (p2 := "start") (p3 := "spot") fun _ _ _ _ _ _ _ _ _ _ => rfl
  have F_back := fun_mk (st := s_back) l_back c_back k_back
  have b_back := F_back.binds4 (p0 := "rows") (p1 := "now") (p2 := "at") (p3 := "most") fun _ _ _ _ _ _ _ _ _ _ => rfl
  have F_runL := fun_mk (st := s_runL) l_runL c_runL k_runL
  have b_runL := F_runL.binds3 (p0 := "rows") (p1 := "now") (p2 := "most") fun _ _ _ _ _ _ _ _ _ => rfl
  have F_done := fun_mk (st := s_done) l_done c_done k_done
  have b_done := F_done.binds3 (p0 := "rows") (p1 := "now") (p2 := "deed") fun _ _ _ _ _ _ _ _ _ => rfl
  have F_deed_by := fun_mk (st := s_deed_by) l_deed_by c_deed_by k_deed_by
  have b_deed_by := F_deed_by.binds3 (p0 := "script") (p1 := "k") (p2 := "rows") fun _ _ _ _ _ _ _ _ _ => rfl
  have F_alike := fun_mk (st := s_alike) l_alike c_alike k_alike
  have b_alike := F_alike.binds2 (p0 := "found") (p1 := "due") fun _ _ _ _ _ _ _ _ => rfl
  have F_law := fun_mk (st := s_law) l_law c_law k_law
  have b_law := F_law.binds1 (p0 := "script") fun _ _ _ _ _ _ _ => rfl
  have T : Txt K mg { C := C, f_check_rows := f_check_rows, fd_check_rows := PySem.W.fnOf "check_rows" "check_rows" (defArgs s_check_rows) (defBody s_check_rows) (defScope s_check_rows) .none kV_check_rows dc_check_rows pm_check_rows an_check_rows cd_check_rows ct_check_rows, f_check_row := f_check_row, fd_check_row := PySem.W.fnOf "check_row" "check_row" (defArgs s_check_row) (defBody s_check_row) (defScope s_check_row) .none kV_check_row dc_check_row pm_check_row an_check_row cd_check_row ct_check_row, f_check_site := f_check_site, fd_check_site := PySem.W.fnOf "check_site" "check_site" (defArgs s_check_site) (defBody s_check_site) (defScope s_check_site) .none kV_check_site dc_check_site pm_check_site an_check_site cd_check_site ct_check_site, f_Binit := f_Binit, fd_Binit := PySem.W.fnOf "__init__" "Board.__init__" (defArgs s_Binit) (defBody s_Binit) (defScope s_Binit) .none kV_Binit dc_Binit pm_Binit an_Binit cd_Binit ct_Binit, f_Bturn_to := f_Bturn_to, fd_Bturn_to := PySem.W.fnOf "turn_to" "Board.turn_to" (defArgs s_Bturn_to) (defBody s_Bturn_to) (defScope s_Bturn_to) .none kV_Bturn_to dc_Bturn_to pm_Bturn_to an_Bturn_to cd_Bturn_to ct_Bturn_to, f_Bload := f_Bload, fd_Bload := PySem.W.fnOf "load" "Board.load" (defArgs s_Bload) (defBody s_Bload) (defScope s_Bload) .none kV_Bload dc_Bload pm_Bload an_Bload cd_Bload ct_Bload, f_Btwin := f_Btwin, fd_Btwin := PySem.W.fnOf "twin" "Board.twin" (defArgs s_Btwin) (defBody s_Btwin) (defScope s_Btwin) .none kV_Btwin dc_Btwin pm_Btwin an_Btwin cd_Btwin ct_Btwin, f_Bstand_like := f_Bstand_like, fd_Bstand_like := PySem.W.fnOf "stand_like" "Board.stand_like" (defArgs s_Bstand_like) (defBody s_Bstand_like) (defScope s_Bstand_like) .none kV_Bstand_like dc_Bstand_like pm_Bstand_like an_Bstand_like cd_Bstand_like ct_Bstand_like, f_reached := f_reached, fd_reached := PySem.W.fnOf "reached" "reached" (defArgs s_reached) (defBody s_reached) (defScope s_reached) .none kV_reached dc_reached pm_reached an_reached cd_reached ct_reached, f_is_open := f_is_open, fd_is_open := PySem.W.fnOf "is_open" "is_open" (defArgs s_is_open) (defBody s_is_open) (defScope s_is_open) .none kV_is_open dc_is_open pm_is_open an_is_open cd_is_open ct_is_open, f_check_open := f_check_open, fd_check_open := PySem.W.fnOf "check_open" "check_open" (defArgs s_check_open) (defBody s_check_open) (defScope s_check_open) .none kV_check_open dc_check_open pm_check_open an_check_open cd_check_open ct_check_open, f_last_exit := f_last_exit, fd_last_exit := PySem.W.fnOf "last_exit" "last_exit" (defArgs s_last_exit) (defBody s_last_exit) (defScope s_last_exit) .none kV_last_exit dc_last_exit pm_last_exit an_last_exit cd_last_exit ct_last_exit, f_is_tree := f_is_tree, fd_is_tree := PySem.W.fnOf "is_tree" "is_tree" (defArgs s_is_tree) (defBody s_is_tree) (defScope s_is_tree) .none kV_is_tree dc_is_tree pm_is_tree an_is_tree cd_is_tree ct_is_tree, f_step := f_step, fd_step := PySem.W.fnOf "step" "step" (defArgs s_step) (defBody s_step) (defScope s_step) .none kV_step dc_step pm_step an_step cd_step ct_step, f_loaded := f_loaded, fd_loaded := PySem.W.fnOf "loaded" "loaded" (defArgs s_loaded) (defBody s_loaded) (defScope s_loaded) .none kV_loaded dc_loaded pm_loaded an_loaded cd_loaded ct_loaded, f_run := f_run, fd_run := PySem.W.fnOf "run" "run" (defArgs s_run) (defBody s_run) (defScope s_run) .none kV_run dc_run pm_run an_run cd_run ct_run, f_check_back := f_check_back, fd_check_back := PySem.W.fnOf "check_back" "check_back" (defArgs s_check_back) (defBody s_check_back) (defScope s_check_back) .none kV_check_back dc_check_back pm_check_back an_check_back cd_check_back ct_check_back, f_run_back := f_run_back, fd_run_back := PySem.W.fnOf "run_back" "run_back" (defArgs s_run_back) (defBody s_run_back) (defScope s_run_back) .none kV_run_back dc_run_back pm_run_back an_run_back cd_run_back ct_run_back, f_turn_back := f_turn_back, fd_turn_back := PySem.W.fnOf "turn_back" "turn_back" (defArgs s_turn_back) (defBody s_turn_back) (defScope s_turn_back) .none kV_turn_back dc_turn_back pm_turn_back an_turn_back cd_turn_back ct_turn_back, f_place_ahead := f_place_ahead, fd_place_ahead := PySem.W.fnOf "place_ahead" "place_ahead" (defArgs s_place_ahead) (defBody s_place_ahead) (defScope s_place_ahead) .none kV_place_ahead dc_place_ahead pm_place_ahead an_place_ahead cd_place_ahead ct_place_ahead, f_leads_to := f_leads_to, fd_leads_to := PySem.W.fnOf "leads_to" "leads_to" (defArgs s_leads_to) (defBody s_leads_to) (defScope s_leads_to) .none kV_leads_to dc_leads_to pm_leads_to an_leads_to cd_leads_to ct_leads_to, f_play := f_play, fd_play := PySem.W.fnOf "play" "play" (defArgs s_play) (defBody s_play) (defScope s_play) .none kV_play dc_play pm_play an_play cd_play ct_play, f_answer_to := f_answer_to, fd_answer_to := PySem.W.fnOf "answer_to" "answer_to" (defArgs s_answer_to) (defBody s_answer_to) (defScope s_answer_to) .none kV_answer_to dc_answer_to pm_answer_to an_answer_to cd_answer_to ct_answer_to, f_refused := f_refused, fd_refused := PySem.W.fnOf "refused" "refused" (defArgs s_refused) (defBody s_refused) (defScope s_refused) .none kV_refused dc_refused pm_refused an_refused cd_refused ct_refused, f_do := f_do, fd_do := PySem.W.fnOf "do" "do" (defArgs s_do) (defBody s_do) (defScope s_do) .none kV_do dc_do pm_do an_do cd_do ct_do, f_drawn := f_drawn, fd_drawn := PySem.W.fnOf "_law_drawn" "_law_drawn" (defArgs s_drawn) (defBody s_drawn) (defScope s_drawn) .none kV_drawn dc_drawn pm_drawn an_drawn cd_drawn ct_drawn, f_other := f_other, fd_other := PySem.W.fnOf "_law_other" "_law_other" (defArgs s_other) (defBody s_other) (defScope s_other) .none kV_other dc_other pm_other an_other cd_other ct_other, f_rows_by := f_rows_by, fd_rows_by := PySem.W.fnOf "_law_rows_by" "_law_rows_by" (defArgs s_rows_by) (defBody s_rows_by) (defScope s_rows_by) .none kV_rows_by dc_rows_by pm_rows_by an_rows_by cd_rows_by ct_rows_by, f_any_by := f_any_by, fd_any_by := PySem.W.fnOf "_law_any_by" "_law_any_by" (defArgs s_any_by) (defBody s_any_by) (defScope s_any_by) .none kV_any_by dc_any_by pm_any_by an_any_by cd_any_by ct_any_by, f_turns_by := f_turns_by, fd_turns_by := PySem.W.fnOf "_law_turns_by" "_law_turns_by" (defArgs s_turns_by) (defBody s_turns_by) (defScope s_turns_by) .none kV_turns_by dc_turns_by pm_turns_by an_turns_by cd_turns_by ct_turns_by, f_board := f_board, fd_board := PySem.W.fnOf "_law_board" "_law_board" (defArgs s_board) (defBody s_board) (defScope s_board) .none kV_board dc_board pm_board an_board cd_board ct_board, f_step_by := f_step_by, fd_step_by := PySem.W.fnOf "_law_step_by" "_law_step_by" (defArgs s_step_by) (defBody s_step_by) (defScope s_step_by) .none kV_step_by dc_step_by pm_step_by an_step_by cd_step_by ct_step_by, f_run_by := f_run_by, fd_run_by := PySem.W.fnOf "_law_run_by" "_law_run_by" (defArgs s_run_by) (defBody s_run_by) (defScope s_run_by) .none kV_run_by dc_run_by pm_run_by an_run_by cd_run_by ct_run_by, f_whole := f_whole, fd_whole := PySem.W.fnOf "_law_whole" "_law_whole" (defArgs s_whole) (defBody s_whole) (defScope s_whole) .none kV_whole dc_whole pm_whole an_whole cd_whole ct_whole, f_row := f_row, fd_row := PySem.W.fnOf "_law_row" "_law_row" (defArgs s_row) (defBody s_row) (defScope s_row) .none kV_row dc_row pm_row an_row cd_row ct_row, f_stands := f_stands, fd_stands := PySem.W.fnOf "_law_stands" "_law_stands" (defArgs s_stands) (defBody s_stands) (defScope s_stands) .none kV_stands dc_stands pm_stands an_stands cd_stands ct_stands, f_opened := f_opened, fd_opened := PySem.W.fnOf "_law_opened" "_law_opened" (defArgs s_opened) (defBody s_opened) (defScope s_opened) .none kV_opened dc_opened pm_opened an_opened cd_opened ct_opened, f_treed := f_treed, fd_treed := PySem.W.fnOf "_law_treed" "_law_treed" (defArgs s_treed) (defBody s_treed) (defScope s_treed) .none kV_treed dc_treed pm_treed an_treed cd_treed ct_treed, f_ahead := f_ahead, fd_ahead := PySem.W.fnOf "_law_ahead" "_law_ahead" (defArgs s_ahead) (defBody s_ahead) (defScope s_ahead) .none kV_ahead dc_ahead pm_ahead an_ahead cd_ahead ct_ahead, f_back := f_back, fd_back := PySem.W.fnOf "_law_back" "_law_back" (defArgs s_back) (defBody s_back) (defScope s_back) .none kV_back dc_back pm_back an_back cd_back ct_back, f_runL := f_runL, fd_runL := PySem.W.fnOf "_law_run" "_law_run" (defArgs s_runL) (defBody s_runL) (defScope s_runL) .none kV_runL dc_runL pm_runL an_runL cd_runL ct_runL, f_done := f_done, fd_done := PySem.W.fnOf "_law_done" "_law_done" (defArgs s_done) (defBody s_done) (defScope s_done) .none kV_done dc_done pm_done an_done cd_done ct_done, f_deed_by := f_deed_by, fd_deed_by := PySem.W.fnOf "_law_deed_by" "_law_deed_by" (defArgs s_deed_by) (defBody s_deed_by) (defScope s_deed_by) .none kV_deed_by dc_deed_by pm_deed_by an_deed_by cd_deed_by ct_deed_by, f_alike := f_alike, fd_alike := PySem.W.fnOf "_law_alike" "_law_alike" (defArgs s_alike) (defBody s_alike) (defScope s_alike) .none kV_alike dc_alike pm_alike an_alike cd_alike ct_alike, f_law := fa, fd_law := PySem.W.fnOf "law" "law" (defArgs s_law) (defBody s_law) (defScope s_law) .none kV_law dc_law pm_law an_law cd_law ct_law, t_PIT := t_PIT, t_MOST_SITES := t_MOST_SITES, t_MOST_EXITS := t_MOST_EXITS, t_MOST_MARBLES := t_MOST_MARBLES, c_NoSite := c_NoSite, c_NoPlace := c_NoPlace, c_NoMarble := c_NoMarble, c_TooMany := c_TooMany, c_NotOpen := c_NotOpen, c_NotBare := c_NotBare, c_NotTree := c_NotTree, c_TooLong := c_TooLong } := { F_check_rows := F_check_rows, m_check_rows := PySem.W.mg_of X G a_check_rows, k_check_rows := k_check_rows, b_check_rows := b_check_rows, F_check_row := F_check_row, m_check_row := PySem.W.mg_of X G a_check_row, k_check_row := k_check_row, b_check_row := b_check_row, F_check_site := F_check_site, m_check_site := PySem.W.mg_of X G a_check_site, k_check_site := k_check_site, b_check_site := b_check_site, F_Binit := F_Binit, mk_Board := ⟨mk, a_Binit, i_Binit, kc⟩, bi_Board := b_Binit, F_Bturn_to := F_Bturn_to, mt_turn_to := ⟨a_Bturn_to, i_Bturn_to, k_Bturn_to⟩, bm_turn_to := b_Bturn_to, F_Bload := F_Bload, mt_load := ⟨a_Bload, i_Bload, k_Bload⟩, bm_load := b_Bload, F_Btwin := F_Btwin, mt_twin := ⟨a_Btwin, i_Btwin, k_Btwin⟩, bm_twin := b_Btwin, F_Bstand_like := F_Bstand_like, mt_stand_like := ⟨a_Bstand_like, i_Bstand_like, k_Bstand_like⟩, bm_stand_like := b_Bstand_like, F_reached := F_reached, m_reached := PySem.W.mg_of X G a_reached, k_reached := k_reached, b_reached := b_reached, F_is_open := F_is_open, m_is_open := PySem.W.mg_of X G a_is_open, k_is_open := k_is_open, b_is_open := b_is_open, F_check_open := F_check_open, m_check_open := PySem.W.mg_of X G a_check_open, k_check_open := k_check_open, b_check_open := b_check_open, F_last_exit := F_last_exit, m_last_exit := PySem.W.mg_of X G a_last_exit, k_last_exit := k_last_exit, b_last_exit := b_last_exit, F_is_tree := F_is_tree, m_is_tree := PySem.W.mg_of X G a_is_tree, k_is_tree := k_is_tree, b_is_tree := b_is_tree, F_step := F_step, m_step := PySem.W.mg_of X G a_step, k_step := k_step, b_step := b_step, F_loaded := F_loaded, m_loaded := PySem.W.mg_of X G a_loaded, k_loaded := k_loaded, b_loaded := b_loaded, F_run := F_run, m_run := PySem.W.mg_of X G a_run, k_run := k_run, b_run := b_run, F_check_back := F_check_back, m_check_back := PySem.W.mg_of X G a_check_back, k_check_back := k_check_back, b_check_back := b_check_back, F_run_back := F_run_back, m_run_back := PySem.W.mg_of X G a_run_back, k_run_back := k_run_back, b_run_back := b_run_back, F_turn_back := F_turn_back, m_turn_back := PySem.W.mg_of X G a_turn_back, k_turn_back := k_turn_back, b_turn_back := b_turn_back, F_place_ahead := F_place_ahead, m_place_ahead := PySem.W.mg_of X G a_place_ahead, k_place_ahead := k_place_ahead, b_place_ahead := b_place_ahead, F_leads_to := F_leads_to, m_leads_to := PySem.W.mg_of X G a_leads_to, k_leads_to := k_leads_to, b_leads_to := b_leads_to, F_play := F_play, m_play := PySem.W.mg_of X G a_play, k_play := k_play, b_play := b_play, F_answer_to := F_answer_to, m_answer_to := PySem.W.mg_of X G a_answer_to, k_answer_to := k_answer_to, b_answer_to := b_answer_to, F_refused := F_refused, m_refused := PySem.W.mg_of X G a_refused, k_refused := k_refused, b_refused := b_refused, F_do := F_do, m_do := PySem.W.mg_of X G a_do, k_do := k_do, b_do := b_do, F_drawn := F_drawn, m__law_drawn := PySem.W.mg_of X G a_drawn, k__law_drawn := k_drawn, b__law_drawn := b_drawn, F_other := F_other, m__law_other := PySem.W.mg_of X G a_other, k__law_other := k_other, b__law_other := b_other, F_rows_by := F_rows_by, m__law_rows_by := PySem.W.mg_of X G a_rows_by, k__law_rows_by := k_rows_by, b__law_rows_by := b_rows_by, F_any_by := F_any_by, m__law_any_by := PySem.W.mg_of X G a_any_by, k__law_any_by := k_any_by, b__law_any_by := b_any_by, F_turns_by := F_turns_by, m__law_turns_by := PySem.W.mg_of X G a_turns_by, k__law_turns_by := k_turns_by, b__law_turns_by := b_turns_by, F_board := F_board, m__law_board := PySem.W.mg_of X G a_board, k__law_board := k_board, b__law_board := b_board, F_step_by := F_step_by, m__law_step_by := PySem.W.mg_of X G a_step_by, k__law_step_by := k_step_by, b__law_step_by := b_step_by, F_run_by := F_run_by, m__law_run_by := PySem.W.mg_of X G a_run_by, k__law_run_by := k_run_by, b__law_run_by := b_run_by, F_whole := F_whole, m__law_whole := PySem.W.mg_of X G a_whole, k__law_whole := k_whole, b__law_whole := b_whole, F_row := F_row, m__law_row := PySem.W.mg_of X G a_row, k__law_row := k_row, b__law_row := b_row, F_stands := F_stands, m__law_stands := PySem.W.mg_of X G a_stands, k__law_stands := k_stands, b__law_stands := b_stands, F_opened := F_opened, m__law_opened := PySem.W.mg_of X G a_opened, k__law_opened := k_opened, b__law_opened := b_opened, F_treed := F_treed, m__law_treed := PySem.W.mg_of X G a_treed, k__law_treed := k_treed, b__law_treed := b_treed, F_ahead := F_ahead, m__law_ahead := PySem.W.mg_of X G a_ahead, k__law_ahead := k_ahead, b__law_ahead := b_ahead, F_back := F_back, m__law_back := PySem.W.mg_of X G a_back, k__law_back := k_back, b__law_back := b_back, F_runL := F_runL, m__law_run := PySem.W.mg_of X G a_runL, k__law_run := k_runL, b__law_run := b_runL, F_done := F_done, m__law_done := PySem.W.mg_of X G a_done, k__law_done := k_done, b__law_done := b_done, F_deed_by := F_deed_by, m__law_deed_by := PySem.W.mg_of X G a_deed_by, k__law_deed_by := k_deed_by, b__law_deed_by := b_deed_by, F_alike := F_alike, m__law_alike := PySem.W.mg_of X G a_alike, k__law_alike := k_alike, b__law_alike := b_alike, F_law := F_law, m_law := PySem.W.mg_of X G a_law, k_law := k_law, b_law := b_law, m_Board := PySem.W.mg_of X G aC, cl_Board := ⟨pg, hd, po, sa⟩, na_rows := na_rows, na_turns := na_turns, na_loads := na_loads, na_steps := na_steps, na_taken := na_taken, n_len := PySem.W.mg_none_of X G z_len, n_range := PySem.W.mg_none_of X G z_range, n_isinstance := PySem.W.mg_none_of X G z_isinstance, n_int := PySem.W.mg_none_of X G z_int, n_bool := PySem.W.mg_none_of X G z_bool, n_list := PySem.W.mg_none_of X G z_list, n_reversed := PySem.W.mg_none_of X G z_reversed, n_sum := PySem.W.mg_none_of X G z_sum, n_all := PySem.W.mg_none_of X G z_all, n_any := PySem.W.mg_none_of X G z_any, n_enumerate := PySem.W.mg_none_of X G z_enumerate, n_str := PySem.W.mg_none_of X G z_str, n_tuple := PySem.W.mg_none_of X G z_tuple, g_PIT := PySem.W.mg_of X G g_PIT, g_MOST_SITES := PySem.W.mg_of X G g_MOST_SITES, g_MOST_EXITS := PySem.W.mg_of X G g_MOST_EXITS, g_MOST_MARBLES := PySem.W.mg_of X G g_MOST_MARBLES, m_NoSite := PySem.W.mg_of X G ax_NoSite, x_NoSite := ⟨ex_NoSite⟩, m_NoPlace := PySem.W.mg_of X G ax_NoPlace, x_NoPlace := ⟨ex_NoPlace⟩, m_NoMarble := PySem.W.mg_of X G ax_NoMarble, x_NoMarble := ⟨ex_NoMarble⟩, m_TooMany := PySem.W.mg_of X G ax_TooMany, x_TooMany := ⟨ex_TooMany⟩, m_NotOpen := PySem.W.mg_of X G ax_NotOpen, x_NotOpen := ⟨ex_NotOpen⟩, m_NotBare := PySem.W.mg_of X G ax_NotBare, x_NotBare := ⟨ex_NotBare⟩, m_NotTree := PySem.W.mg_of X G ax_NotTree, x_NotTree := ⟨ex_NotTree⟩, m_TooLong := PySem.W.mg_of X G ax_TooLong, x_TooLong := ⟨ex_TooLong⟩, kb_NoSite := kb_NoSite, kb_NoPlace := kb_NoPlace, kb_NoMarble := kb_NoMarble, kb_TooMany := kb_TooMany, kb_NotOpen := kb_NotOpen, kb_NotBare := kb_NotBare, kb_NotTree := kb_NotTree, kb_TooLong := kb_TooLong, p_NoPlace_NoSite := p_NoPlace_NoSite, p_NoMarble_NoSite := p_NoMarble_NoSite, p_NoMarble_NoPlace := p_NoMarble_NoPlace, p_TooMany_NoSite := p_TooMany_NoSite, p_TooMany_NoPlace := p_TooMany_NoPlace, p_TooMany_NoMarble := p_TooMany_NoMarble, p_NotOpen_NoSite := p_NotOpen_NoSite, p_NotOpen_NoPlace := p_NotOpen_NoPlace, p_NotOpen_NoMarble := p_NotOpen_NoMarble, p_NotOpen_TooMany := p_NotOpen_TooMany, p_NotBare_NoSite := p_NotBare_NoSite, p_NotBare_NoPlace := p_NotBare_NoPlace, p_NotBare_NoMarble := p_NotBare_NoMarble, p_NotBare_TooMany := p_NotBare_TooMany, p_NotBare_NotOpen := p_NotBare_NotOpen, p_NotTree_NoSite := p_NotTree_NoSite, p_NotTree_NoPlace := p_NotTree_NoPlace, p_NotTree_NoMarble := p_NotTree_NoMarble, p_NotTree_TooMany := p_NotTree_TooMany, p_NotTree_NotOpen := p_NotTree_NotOpen, p_NotTree_NotBare := p_NotTree_NotBare, p_TooLong_NoSite := p_TooLong_NoSite, p_TooLong_NoPlace := p_TooLong_NoPlace, p_TooLong_NoMarble := p_TooLong_NoMarble, p_TooLong_TooMany := p_TooLong_TooMany, p_TooLong_NotOpen := p_TooLong_NotOpen, p_TooLong_NotBare := p_TooLong_NotBare, p_TooLong_NotTree := p_TooLong_NotTree, q_int_bool := q_int_bool, q_int_tuple := q_int_tuple, ne_NoPlace_NoSite := ne_NoPlace_NoSite, ne_NoMarble_NoSite := ne_NoMarble_NoSite, ne_NoMarble_NoPlace := ne_NoMarble_NoPlace, ne_TooMany_NoSite := ne_TooMany_NoSite, ne_TooMany_NoPlace := ne_TooMany_NoPlace, ne_TooMany_NoMarble := ne_TooMany_NoMarble, ne_NotOpen_NoSite := ne_NotOpen_NoSite, ne_NotOpen_NoPlace := ne_NotOpen_NoPlace, ne_NotOpen_NoMarble := ne_NotOpen_NoMarble, ne_NotOpen_TooMany := ne_NotOpen_TooMany, ne_NotBare_NoSite := ne_NotBare_NoSite, ne_NotBare_NoPlace := ne_NotBare_NoPlace, ne_NotBare_NoMarble := ne_NotBare_NoMarble, ne_NotBare_TooMany := ne_NotBare_TooMany, ne_NotBare_NotOpen := ne_NotBare_NotOpen, ne_NotTree_NoSite := ne_NotTree_NoSite, ne_NotTree_NoPlace := ne_NotTree_NoPlace, ne_NotTree_NoMarble := ne_NotTree_NoMarble, ne_NotTree_TooMany := ne_NotTree_TooMany, ne_NotTree_NotOpen := ne_NotTree_NotOpen, ne_NotTree_NotBare := ne_NotTree_NotBare, ne_TooLong_NoSite := ne_TooLong_NoSite, ne_TooLong_NoPlace := ne_TooLong_NoPlace, ne_TooLong_NoMarble := ne_TooLong_NoMarble, ne_TooLong_TooMany := ne_TooLong_TooMany, ne_TooLong_NotOpen := ne_TooLong_NotOpen, ne_TooLong_NotBare := ne_TooLong_NotBare, ne_TooLong_NotTree := ne_TooLong_NotTree }
  exact ⟨PySem.W.fnOf "law" "law" (defArgs s_law) (defBody s_law) (defScope s_law) .none kV_law dc_law pm_law an_law cd_law ct_law, fun s v => .of_eq rfl, fun base _ _ => ok_law T (ok_drawn T) (ok_rows_by T (ok_drawn T) (ok_other T)) (ok_any_by T (ok_drawn T)) (ok_turns_by T (ok_drawn T)) (ok_board T (ok_Binit T (ok_check_rows T (ok_check_row T))) (ok_Bturn_to T (ok_check_site T)) (ok_Bload T (ok_check_site T))) (ok_deed_by T (ok_drawn T)) (ok_done T (ok_step_by T) (ok_opened T) (ok_runL T (ok_run_by T (ok_step_by T))) (ok_treed T) (ok_back T (ok_ahead T))) (ok_play T (ok_answer_to T (ok_do T (ok_Bload T (ok_check_site T)) (ok_Bturn_to T (ok_check_site T)) (ok_step T (ok_check_site T)) (ok_run T (ok_check_open T (ok_is_open T (ok_reached T))) (ok_Btwin T (ok_Binit T (ok_check_rows T (ok_check_row T))) (ok_Bstand_like T)) (ok_loaded T) (ok_Bstand_like T) (ok_step T (ok_check_site T))) (ok_run_back T (ok_check_back T (ok_check_site T) (ok_check_open T (ok_is_open T (ok_reached T))) (ok_loaded T) (ok_is_tree T (ok_reached T) (ok_last_exit T (ok_check_site T)))) (ok_Btwin T (ok_Binit T (ok_check_rows T (ok_check_row T))) (ok_Bstand_like T)) (ok_turn_back T (ok_place_ahead T (ok_leads_to T (ok_last_exit T (ok_check_site T))))) (ok_Bstand_like T))) (ok_refused T))) (ok_alike T (ok_whole T)) (ok_stands T (ok_whole T) (ok_row T (ok_whole T)))⟩
theorem walk {l : PySem.W.OpenLaw} {q : Program} {loose : List Str} {XP : (Str → Option Value) → Heap → Prop} {YP : World → Heap → Prop} {d : DefRec} {K : Params → PySem.W.Frag} (hn : l.most = some 63) (hdf : d.params.defaults = [])
    (hY : ∀ (w : World) (h : Heap), YP w h → (K w.params).In h)
    (F : ∀ (w : World) (mg : Str → Option Value) (fa : Addr) (h : Heap), (K w.params).In h → h.Ns mainGlobals mg → mg d.name = some (.ref fa) →
      ∃ fd : FuncData, (∀ (s : Shared) (u : Value), BindsTo s fd ⟨[u], []⟩ [("script", u)]) ∧ ∀ base : Heap, (K w.params).In base → base.Ns mainGlobals mg → FnOk l.prog w (K w.params) mg base CX0 12 fa fd ["script"] (spLaw (K w.params))) :
    PySem.W.WalkO q loose XP YP l.row.toRowW d [] (fun f vs => PySem.call f vs) :=
  L2.walk_of (n := 63) (k := 12) (x := "script") (CX := fun _ => CX0) (sp := fun w => spLaw (K w.params)) hn (by decide) hdf ⟨rfl, by decide, by decide⟩ hY F (fun _ _ a ns hl _ hS => ⟨a, ns, rfl, hS, hl, fun _ => rfl⟩) fun _ _ _ _ _ z => z
end Law
theorem PySem.W.Fast.tw15225609338945587531 : True := trivial
theorem PySem.W.Fast.tw9036601370765894354 : True := trivial
theorem PySem.W.Fast.tw15163246902603096659 : True := trivial
theorem PySem.W.Fast.tw11225863670499977072 : True := trivial
theorem PySem.W.Fast.tw1432813765340496294 : True := trivial
theorem PySem.W.Fast.tw2311536957453932686 : True := trivial
theorem PySem.W.Fast.tw831948311034386858 : True := trivial
theorem PySem.W.Fast.tw17284139384961301255 : True := trivial
theorem PySem.W.Fast.tw1048104804615656480 : True := trivial
theorem PySem.W.Fast.tw3246984340376989618 : True := trivial
theorem PySem.W.Fast.tw2091022487569841380 : True := trivial
theorem PySem.W.Fast.tw16626438239504362580 : True := trivial
theorem PySem.W.Fast.tw908928292697137721 : True := trivial
theorem PySem.W.Fast.tw8761869372553510390 : True := trivial
theorem PySem.W.Fast.tw4268121262260006408 : True := trivial
theorem PySem.W.Fast.tw10364637001266397460 : True := trivial
theorem PySem.W.Fast.tw2119183353108960816 : True := trivial
theorem PySem.W.Fast.tw5616793831793932977 : True := trivial
open PySem PySem.W PyProof.Rows
set_option maxRecDepth 100000 in
set_option maxHeartbeats 0 in
theorem PySem.Challenge.cw_marblerun_k26_whole_deeds_holds : PySem.Challenge.rw_marblerun_k26_whole_deeds.Holds := by
  w_on; o_law; k_head; (case hw => w_witness2)
  k_fill
  refine Law.walk (l := PySem.Challenge.rw_marblerun_k26_whole_deeds) rfl rfl (fun w h Y => PySem.W.kIn_of Y) ?F
  case F =>
    intro w mg fa h KX G hmg
    refine' Law.all_mk KX G hmg ?aC ?a_check_rows ?l_check_rows ?c_check_rows ?k_check_rows ?a_check_row ?l_check_row ?c_check_row ?k_check_row ?a_check_site ?l_check_site ?c_check_site ?k_check_site ?a_Binit ?i_Binit ?l_Binit ?c_Binit ?k_Binit ?a_Bturn_to ?i_Bturn_to ?l_Bturn_to ?c_Bturn_to ?k_Bturn_to ?a_Bload ?i_Bload ?l_Bload ?c_Bload ?k_Bload ?a_Btwin ?i_Btwin ?l_Btwin ?c_Btwin ?k_Btwin ?a_Bstand_like ?i_Bstand_like ?l_Bstand_like ?c_Bstand_like ?k_Bstand_like ?a_reached ?l_reached ?c_reached ?k_reached ?a_is_open ?l_is_open ?c_is_open ?k_is_open ?a_check_open ?l_check_open ?c_check_open ?k_check_open ?a_last_exit ?l_last_exit ?c_last_exit ?k_last_exit ?a_is_tree ?l_is_tree ?c_is_tree ?k_is_tree ?a_step ?l_step ?c_step ?k_step ?a_loaded ?l_loaded ?c_loaded ?k_loaded ?a_run ?l_run ?c_run ?k_run ?a_check_back ?l_check_back ?c_check_back ?k_check_back ?a_run_back ?l_run_back ?c_run_back ?k_run_back ?a_turn_back ?l_turn_back ?c_turn_back ?k_turn_back ?a_place_ahead ?l_place_ahead ?c_place_ahead ?k_place_ahead ?a_leads_to ?l_leads_to ?c_leads_to ?k_leads_to ?a_play ?l_play ?c_play ?k_play ?a_answer_to ?l_answer_to ?c_answer_to ?k_answer_to ?a_refused ?l_refused ?c_refused ?k_refused ?a_do ?l_do ?c_do ?k_do ?a_drawn ?l_drawn ?c_drawn ?k_drawn ?a_other ?l_other ?c_other ?k_other ?a_rows_by ?l_rows_by ?c_rows_by ?k_rows_by ?a_any_by ?l_any_by ?c_any_by ?k_any_by ?a_turns_by ?l_turns_by ?c_turns_by ?k_turns_by ?a_board ?l_board ?c_board ?k_board ?a_step_by ?l_step_by ?c_step_by ?k_step_by ?a_run_by ?l_run_by ?c_run_by ?k_run_by ?a_whole ?l_whole ?c_whole ?k_whole ?a_row ?l_row ?c_row ?k_row ?a_stands ?l_stands ?c_stands ?k_stands ?a_opened ?l_opened ?c_opened ?k_opened ?a_treed ?l_treed ?c_treed ?k_treed ?a_ahead ?l_ahead ?c_ahead ?k_ahead ?a_back ?l_back ?c_back ?k_back ?a_runL ?l_runL ?c_runL ?k_runL ?a_done ?l_done ?c_done ?k_done ?a_deed_by ?l_deed_by ?c_deed_by ?k_deed_by ?a_alike ?l_alike ?c_alike ?k_alike ?a_law ?l_law ?c_law ?k_law ?pg ?hd ?po ?sa ?mk ?kc ?na_rows ?na_turns ?na_loads ?na_steps ?na_taken ?z_len ?z_range ?z_isinstance ?z_int ?z_bool ?z_list ?z_reversed ?z_sum ?z_all ?z_any ?z_enumerate ?z_str ?z_tuple ?g_PIT ?g_MOST_SITES ?g_MOST_EXITS ?g_MOST_MARBLES ?ax_NoSite ?ex_NoSite ?kb_NoSite ?ax_NoPlace ?ex_NoPlace ?kb_NoPlace ?ax_NoMarble ?ex_NoMarble ?kb_NoMarble ?ax_TooMany ?ex_TooMany ?kb_TooMany ?ax_NotOpen ?ex_NotOpen ?kb_NotOpen ?ax_NotBare ?ex_NotBare ?kb_NotBare ?ax_NotTree ?ex_NotTree ?kb_NotTree ?ax_TooLong ?ex_TooLong ?kb_TooLong ?p_NoPlace_NoSite ?ne_NoPlace_NoSite ?p_NoMarble_NoSite ?ne_NoMarble_NoSite ?p_NoMarble_NoPlace ?ne_NoMarble_NoPlace ?p_TooMany_NoSite ?ne_TooMany_NoSite ?p_TooMany_NoPlace ?ne_TooMany_NoPlace ?p_TooMany_NoMarble ?ne_TooMany_NoMarble ?p_NotOpen_NoSite ?ne_NotOpen_NoSite ?p_NotOpen_NoPlace ?ne_NotOpen_NoPlace ?p_NotOpen_NoMarble ?ne_NotOpen_NoMarble ?p_NotOpen_TooMany ?ne_NotOpen_TooMany ?p_NotBare_NoSite ?ne_NotBare_NoSite ?p_NotBare_NoPlace ?ne_NotBare_NoPlace ?p_NotBare_NoMarble ?ne_NotBare_NoMarble ?p_NotBare_TooMany ?ne_NotBare_TooMany ?p_NotBare_NotOpen ?ne_NotBare_NotOpen ?p_NotTree_NoSite ?ne_NotTree_NoSite ?p_NotTree_NoPlace ?ne_NotTree_NoPlace ?p_NotTree_NoMarble ?ne_NotTree_NoMarble ?p_NotTree_TooMany ?ne_NotTree_TooMany ?p_NotTree_NotOpen ?ne_NotTree_NotOpen ?p_NotTree_NotBare ?ne_NotTree_NotBare ?p_TooLong_NoSite ?ne_TooLong_NoSite ?p_TooLong_NoPlace ?ne_TooLong_NoPlace ?p_TooLong_NoMarble ?ne_TooLong_NoMarble ?p_TooLong_TooMany ?ne_TooLong_TooMany ?p_TooLong_NotOpen ?ne_TooLong_NotOpen ?p_TooLong_NotBare ?ne_TooLong_NotBare ?p_TooLong_NotTree ?ne_TooLong_NotTree ?q_int_bool ?q_int_tuple
    (case aC => k_is)
    (case a_check_rows => k_is)
    (case l_check_rows => k_is)
    (case c_check_rows => k_is)
    (case k_check_rows => k_is)
    (case a_check_row => k_is)
    (case l_check_row => k_is)
    (case c_check_row => k_is)
    (case k_check_row => k_is)
    (case a_check_site => k_is)
    (case l_check_site => k_is)
    (case c_check_site => k_is)
    (case k_check_site => k_is)
    (case a_Binit => k_is)
    (case i_Binit => k_is)
    (case l_Binit => k_is)
    (case c_Binit => k_is)
    (case k_Binit => k_is)
    (case a_Bturn_to => k_is)
    (case i_Bturn_to => k_is)
    (case l_Bturn_to => k_is)
    (case c_Bturn_to => k_is)
    (case k_Bturn_to => k_is)
    (case a_Bload => k_is)
    (case i_Bload => k_is)
    (case l_Bload => k_is)
    (case c_Bload => k_is)
    (case k_Bload => k_is)
    (case a_Btwin => k_is)
    (case i_Btwin => k_is)
    (case l_Btwin => k_is)
    (case c_Btwin => k_is)
    (case k_Btwin => k_is)
    (case a_Bstand_like => k_is)
    (case i_Bstand_like => k_is)
    (case l_Bstand_like => k_is)
    (case c_Bstand_like => k_is)
    (case k_Bstand_like => k_is)
    (case a_reached => k_is)
    (case l_reached => k_is)
    (case c_reached => k_is)
    (case k_reached => k_is)
    (case a_is_open => k_is)
    (case l_is_open => k_is)
    (case c_is_open => k_is)
    (case k_is_open => k_is)
    (case a_check_open => k_is)
    (case l_check_open => k_is)
    (case c_check_open => k_is)
    (case k_check_open => k_is)
    (case a_last_exit => k_is)
    (case l_last_exit => k_is)
    (case c_last_exit => k_is)
    (case k_last_exit => k_is)
    (case a_is_tree => k_is)
    (case l_is_tree => k_is)
    (case c_is_tree => k_is)
    (case k_is_tree => k_is)
    (case a_step => k_is)
    (case l_step => k_is)
    (case c_step => k_is)
    (case k_step => k_is)
    (case a_loaded => k_is)
    (case l_loaded => k_is)
    (case c_loaded => k_is)
    (case k_loaded => k_is)
    (case a_run => k_is)
    (case l_run => k_is)
    (case c_run => k_is)
    (case k_run => k_is)
    (case a_check_back => k_is)
    (case l_check_back => k_is)
    (case c_check_back => k_is)
    (case k_check_back => k_is)
    (case a_run_back => k_is)
    (case l_run_back => k_is)
    (case c_run_back => k_is)
    (case k_run_back => k_is)
    (case a_turn_back => k_is)
    (case l_turn_back => k_is)
    (case c_turn_back => k_is)
    (case k_turn_back => k_is)
    (case a_place_ahead => k_is)
    (case l_place_ahead => k_is)
    (case c_place_ahead => k_is)
    (case k_place_ahead => k_is)
    (case a_leads_to => k_is)
    (case l_leads_to => k_is)
    (case c_leads_to => k_is)
    (case k_leads_to => k_is)
    (case a_play => k_is)
    (case l_play => k_is)
    (case c_play => k_is)
    (case k_play => k_is)
    (case a_answer_to => k_is)
    (case l_answer_to => k_is)
    (case c_answer_to => k_is)
    (case k_answer_to => k_is)
    (case a_refused => k_is)
    (case l_refused => k_is)
    (case c_refused => k_is)
    (case k_refused => k_is)
    (case a_do => k_is)
    (case l_do => k_is)
    (case c_do => k_is)
    (case k_do => k_is)
    (case a_drawn => k_is)
    (case l_drawn => k_is)
    (case c_drawn => k_is)
    (case k_drawn => k_is)
    (case a_other => k_is)
    (case l_other => k_is)
    (case c_other => k_is)
    (case k_other => k_is)
    (case a_rows_by => k_is)
    (case l_rows_by => k_is)
    (case c_rows_by => k_is)
    (case k_rows_by => k_is)
    (case a_any_by => k_is)
    (case l_any_by => k_is)
    (case c_any_by => k_is)
    (case k_any_by => k_is)
    (case a_turns_by => k_is)
    (case l_turns_by => k_is)
    (case c_turns_by => k_is)
    (case k_turns_by => k_is)
    (case a_board => k_is)
    (case l_board => k_is)
    (case c_board => k_is)
    (case k_board => k_is)
    (case a_step_by => k_is)
    (case l_step_by => k_is)
    (case c_step_by => k_is)
    (case k_step_by => k_is)
    (case a_run_by => k_is)
    (case l_run_by => k_is)
    (case c_run_by => k_is)
    (case k_run_by => k_is)
    (case a_whole => k_is)
    (case l_whole => k_is)
    (case c_whole => k_is)
    (case k_whole => k_is)
    (case a_row => k_is)
    (case l_row => k_is)
    (case c_row => k_is)
    (case k_row => k_is)
    (case a_stands => k_is)
    (case l_stands => k_is)
    (case c_stands => k_is)
    (case k_stands => k_is)
    (case a_opened => k_is)
    (case l_opened => k_is)
    (case c_opened => k_is)
    (case k_opened => k_is)
    (case a_treed => k_is)
    (case l_treed => k_is)
    (case c_treed => k_is)
    (case k_treed => k_is)
    (case a_ahead => k_is)
    (case l_ahead => k_is)
    (case c_ahead => k_is)
    (case k_ahead => k_is)
    (case a_back => k_is)
    (case l_back => k_is)
    (case c_back => k_is)
    (case k_back => k_is)
    (case a_runL => k_is)
    (case l_runL => k_is)
    (case c_runL => k_is)
    (case k_runL => k_is)
    (case a_done => k_is)
    (case l_done => k_is)
    (case c_done => k_is)
    (case k_done => k_is)
    (case a_deed_by => k_is)
    (case l_deed_by => k_is)
    (case c_deed_by => k_is)
    (case k_deed_by => k_is)
    (case a_alike => k_is)
    (case l_alike => k_is)
    (case c_alike => k_is)
    (case k_alike => k_is)
    (case a_law => k_is)
    (case l_law => k_is)
    (case c_law => k_is)
    (case k_law => k_is)
    (case pg => k_is)
    (case hd => k_is)
    (case po => k_is)
    (case sa => k_is)
    (case mk => k_is)
    (case kc => k_is)
    (case na_rows => k_is)
    (case na_turns => k_is)
    (case na_loads => k_is)
    (case na_steps => k_is)
    (case na_taken => k_is)
    (case z_len => k_is)
    (case z_range => k_is)
    (case z_isinstance => k_is)
    (case z_int => k_is)
    (case z_bool => k_is)
    (case z_list => k_is)
    (case z_reversed => k_is)
    (case z_sum => k_is)
    (case z_all => k_is)
    (case z_any => k_is)
    (case z_enumerate => k_is)
    (case z_str => k_is)
    (case z_tuple => k_is)
    (case g_PIT => k_is)
    (case g_MOST_SITES => k_is)
    (case g_MOST_EXITS => k_is)
    (case g_MOST_MARBLES => k_is)
    (case ax_NoSite => k_is)
    (case ax_NoPlace => k_is)
    (case ax_NoMarble => k_is)
    (case ax_TooMany => k_is)
    (case ax_NotOpen => k_is)
    (case ax_NotBare => k_is)
    (case ax_NotTree => k_is)
    (case ax_TooLong => k_is)
    (case ex_NoSite => k_exc)
    (case ex_NoPlace => k_exc)
    (case ex_NoMarble => k_exc)
    (case ex_TooMany => k_exc)
    (case ex_NotOpen => k_exc)
    (case ex_NotBare => k_exc)
    (case ex_NotTree => k_exc)
    (case ex_TooLong => k_exc)
    (case kb_NoSite => kit_is)
    (case kb_NoPlace => kit_is)
    (case kb_NoMarble => kit_is)
    (case kb_TooMany => kit_is)
    (case kb_NotOpen => kit_is)
    (case kb_NotBare => kit_is)
    (case kb_NotTree => kit_is)
    (case kb_TooLong => kit_is)
    (case p_NoPlace_NoSite => kit_is)
    (case p_NoMarble_NoSite => kit_is)
    (case p_NoMarble_NoPlace => kit_is)
    (case p_TooMany_NoSite => kit_is)
    (case p_TooMany_NoPlace => kit_is)
    (case p_TooMany_NoMarble => kit_is)
    (case p_NotOpen_NoSite => kit_is)
    (case p_NotOpen_NoPlace => kit_is)
    (case p_NotOpen_NoMarble => kit_is)
    (case p_NotOpen_TooMany => kit_is)
    (case p_NotBare_NoSite => kit_is)
    (case p_NotBare_NoPlace => kit_is)
    (case p_NotBare_NoMarble => kit_is)
    (case p_NotBare_TooMany => kit_is)
    (case p_NotBare_NotOpen => kit_is)
    (case p_NotTree_NoSite => kit_is)
    (case p_NotTree_NoPlace => kit_is)
    (case p_NotTree_NoMarble => kit_is)
    (case p_NotTree_TooMany => kit_is)
    (case p_NotTree_NotOpen => kit_is)
    (case p_NotTree_NotBare => kit_is)
    (case p_TooLong_NoSite => kit_is)
    (case p_TooLong_NoPlace => kit_is)
    (case p_TooLong_NoMarble => kit_is)
    (case p_TooLong_TooMany => kit_is)
    (case p_TooLong_NotOpen => kit_is)
    (case p_TooLong_NotBare => kit_is)
    (case p_TooLong_NotTree => kit_is)
    (case q_int_bool => kit_is)
    (case q_int_tuple => kit_is)
    (case ne_NoPlace_NoSite => decide)
    (case ne_NoMarble_NoSite => decide)
    (case ne_NoMarble_NoPlace => decide)
    (case ne_TooMany_NoSite => decide)
    (case ne_TooMany_NoPlace => decide)
    (case ne_TooMany_NoMarble => decide)
    (case ne_NotOpen_NoSite => decide)
    (case ne_NotOpen_NoPlace => decide)
    (case ne_NotOpen_NoMarble => decide)
    (case ne_NotOpen_TooMany => decide)
    (case ne_NotBare_NoSite => decide)
    (case ne_NotBare_NoPlace => decide)
    (case ne_NotBare_NoMarble => decide)
    (case ne_NotBare_TooMany => decide)
    (case ne_NotBare_NotOpen => decide)
    (case ne_NotTree_NoSite => decide)
    (case ne_NotTree_NoPlace => decide)
    (case ne_NotTree_NoMarble => decide)
    (case ne_NotTree_TooMany => decide)
    (case ne_NotTree_NotOpen => decide)
    (case ne_NotTree_NotBare => decide)
    (case ne_TooLong_NoSite => decide)
    (case ne_TooLong_NoPlace => decide)
    (case ne_TooLong_NoMarble => decide)
    (case ne_TooLong_TooMany => decide)
    (case ne_TooLong_NotOpen => decide)
    (case ne_TooLong_NotBare => decide)
    (case ne_TooLong_NotTree => decide)
#print axioms PySem.Challenge.cw_marblerun_k26_whole_deeds_holds
