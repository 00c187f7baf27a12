import PyProof.Rows.All
import Wide.All
import OpenK.AllK
import Wide.FinOn
import PyProof.EqAt
import PyProof.EqKinds
import PyProof.TupleCall
import KE.BitLaws
import Open.SpecLaws
import KE.OsHead
import KE.OsGo
import PySem.Challenge.RW_seasonland_s01_answers
section
set_option Elab.async false
set_option linter.all false
set_option maxRecDepth 100000
namespace L2
open PySem PySem.Spec PyProof.Rows

abbrev Key := Sum Int Str
def keyIs : Key → Value → Bool
  | .inl k, v => Value.isInt k v
  | .inr x, v => Value.isStrOf x v
def keyH (w : World) : Key → Int
  | .inl k => hashInt k
  | .inr x => hashStr w x
theorem keyIs_shape : ∀ {k : Key} {v : Value}, keyIs k v = true → (∃ i t, k = Sum.inl i ∧ v = Value.int i t) ∨ (∃ x t, k = Sum.inr x ∧ v = Value.str x t)
  | .inl i, v, h => by
    obtain ⟨t, e⟩ := Value.isInt_shape (k := i) (v := v) h
    exact .inl ⟨i, t, rfl, e⟩
  | .inr x, v, h => by
    obtain ⟨t, e⟩ := Value.isStrOf_shape (x := x) (v := v) h
    exact .inr ⟨x, t, rfl, e⟩
theorem keyIs_int (i : Int) (t : Tok) : keyIs (.inl i) (.int i t) = true := by simp [keyIs, Value.isInt]
theorem keyIs_str (x : Str) (t : Tok) : keyIs (.inr x) (.str x t) = true := by simp [keyIs, Value.isStrOf]
theorem key_ll (a b : Int) : decide ((Sum.inl a : Key) = Sum.inl b) = (a == b) := by
  by_cases e : a = b
  · subst e; simp
  · have h : ¬ (Sum.inl a : Key) = Sum.inl b := fun q => e (Sum.inl.inj q)
    rw [decide_eq_false h]
    exact (beq_eq_false_iff_ne.mpr e).symm
theorem key_rr (a b : Str) : decide ((Sum.inr a : Key) = Sum.inr b) = decide (a = b) := by
  by_cases e : a = b
  · subst e; simp
  · have h : ¬ (Sum.inr a : Key) = Sum.inr b := fun q => e (Sum.inr.inj q)
    rw [decide_eq_false h, decide_eq_false e]
theorem key_lr (a : Int) (b : Str) : decide ((Sum.inl a : Key) = Sum.inr b) = false := decide_eq_false (fun q => nomatch q)
theorem key_rl (a : Str) (b : Int) : decide ((Sum.inr a : Key) = Sum.inl b) = false := decide_eq_false (fun q => nomatch q)

def mixKind (prog : Program) (w : World) : PySem.KeyKind prog w Key where
  is := keyIs
  hash := keyH w
  inj := fun v a b ha hb => by
    rcases keyIs_shape ha with ⟨i, t, rfl, rfl⟩ | ⟨x, t, rfl, rfl⟩
    · rcases keyIs_shape hb with ⟨j, u, rfl, e⟩ | ⟨y, u, rfl, e⟩
      · injection e with e1 _; rw [e1]
      · exact nomatch e
    · rcases keyIs_shape hb with ⟨j, u, rfl, e⟩ | ⟨y, u, rfl, e⟩
      · exact nomatch e
      · injection e with e1 _; rw [e1]
  byValue := fun k v h => by
    rcases keyIs_shape h with ⟨i, t, rfl, rfl⟩ | ⟨x, t, rfl, rfl⟩ <;> rfl
  pyHash := fun hv h => by
    rcases keyIs_shape hv with ⟨i, t, rfl, rfl⟩ | ⟨x, t, rfl, rfl⟩
    · exact wpAny_pyHash_int h
    · exact wpAny_pyHash_str h
  eqBool := fun hu hv h => by
    rcases keyIs_shape hu with ⟨i, t, rfl, rfl⟩ | ⟨x, t, rfl, rfl⟩
    · rcases keyIs_shape hv with ⟨j, u, rfl, rfl⟩ | ⟨y, u, rfl, rfl⟩
      · rw [key_ll] at h; exact wpAny_eqBool_int h
      · rw [key_lr] at h; exact SeqAt.EqAt.int_str i t y u _ _ _ _ h
    · rcases keyIs_shape hv with ⟨j, u, rfl, rfl⟩ | ⟨y, u, rfl, rfl⟩
      · rw [key_rl] at h; exact SeqAt.EqAt.str_int x t j u _ _ _ _ h
      · rw [key_rr] at h; exact wpAny_eqBool_str h
  «strs» := fun k x t v h => by
    rcases keyIs_shape h with ⟨i, u, rfl, e⟩ | ⟨y, u, rfl, e⟩
    · exact nomatch e
    · injection e with e1 _
      subst e1
      cases v <;> rfl

theorem mixKind_int (prog : Program) (w : World) (i : Int) (t : Tok) : (mixKind prog w).is (.inl i) (.int i t) = true := keyIs_int i t
theorem mixKind_str (prog : Program) (w : World) (x : Str) (t : Tok) : (mixKind prog w).is (.inr x) (.str x t) = true := keyIs_str x t
end L2

namespace L2
open PySem PySem.Spec PyProof.Rows

inductive V where
  | non | bl (b : Bool) | int (i : Int) | str (x : Str) | byt (b : Array UInt8) | flt (b : UInt64) | ref (a : Addr) | ty (n : String)
  deriving DecidableEq

def RelV : V → Value → Prop
  | .non, u => u = Value.none
  | .bl b, u => u = Value.bool b
  | .int i, u => ∃ t, u = Value.int i t
  | .str x, u => ∃ t, u = Value.str x t
  | .byt b, u => ∃ t, u = Value.bytes b t
  | .flt b, u => ∃ t, u = Value.float b t
  | .ref a, u => u = Value.ref a
  | .ty n, u => u = Value.type n

abbrev Vals : List V → List Value → Prop := Paired RelV
theorem Vals.length {xs : List V} {us : List Value} (r : Vals xs us) : xs.length = us.length := Paired.length r
theorem Vals.get : ∀ {xs : List V} {us : List Value} {i : Nat} {x : V}, Vals xs us → xs[i]? = some x → ∃ u, us[i]? = some u ∧ RelV x u
  | _, _, _, _, .nil, e => by simp at e
  | _, _, 0, _, .cons r _, e => by simp at e; subst e; exact ⟨_, rfl, r⟩
  | _, _, i + 1, x, .cons _ t, e => by
    obtain ⟨u, h1, h2⟩ := Vals.get (i := i) (x := x) t (by simpa using e)
    exact ⟨u, by simpa using h1, h2⟩
theorem Vals.set {x : V} {u : Value} (r : RelV x u) : ∀ {xs : List V} {us : List Value} (i : Nat), Vals xs us → Vals (xs.set i x) (us.set i u)
  | _, _, _, .nil => .nil
  | _, _, 0, .cons _ t => .cons r t
  | _, _, i + 1, .cons q t => .cons q (Vals.set r i t)
theorem Vals.append : ∀ {xs ys : List V} {us ws : List Value}, Vals xs us → Vals ys ws → Vals (xs ++ ys) (us ++ ws)
  | _, _, _, _, .nil, s => s
  | _, _, _, _, .cons r t, s => .cons r (Vals.append t s)
theorem Vals.take : ∀ {xs : List V} {us : List Value} (n : Nat), Vals xs us → Vals (xs.take n) (us.take n)
  | _, _, 0, _ => .nil
  | _, _, _ + 1, .nil => .nil
  | _, _, n + 1, .cons r t => .cons r (Vals.take n t)
theorem Vals.drop : ∀ {xs : List V} {us : List Value} (n : Nat), Vals xs us → Vals (xs.drop n) (us.drop n)
  | _, _, 0, r => r
  | _, _, _ + 1, .nil => .nil
  | _, _, n + 1, .cons _ t => Vals.drop n t
def RelO : Option V → Option Value → Prop
  | some v, some u => RelV v u
  | none, none => True
  | _, _ => False
def KV {κ : Type} : List (κ × V) → List (κ × Value) → Prop := Paired fun (p : κ × V) (q : κ × Value) => p.1 = q.1 ∧ RelV p.2 q.2

def kV : Key → V
  | .inl i => .int i
  | .inr x => .str x

inductive HO where
  /-- a list -/
  | lst (xs : List V)
  /-- a tuple (never changes) -/
  | tup (xs : List V)
  /-- a dict whose keys are ints and texts; one whose keys are tuples of ints and texts (the empty one is both) -/
  | dK (kvs : List (Key × V)) | dT (kvs : List (List Key × V))
  /-- a set of ints: its members, its size -/
  | set (S : Int → Bool) (n : Nat)
  /-- an instance of the class at C, its dict at dx, its attributes -/
  | ins (C dx : Addr) (fs : List (Str × V))
  /-- the dict of the instance at x -/
  | own (x : Addr)
  /-- the dict of an exception -/
  | xd (fs : List (Str × V))
  /-- a bound method, f of x -/
  | met (f x : Addr)
  /-- a range object lo, lo + 1, .. below hi -/
  | rng (lo hi : Int)
  /-- a thing that is known to the object (the script; a dict while a loop walks it): read, never written while it is so -/
  | frz (o : Obj) (u : HO)
  /-- a code object's table -/
  | tbl (ps : Array Value)
  /-- any other thing, by what is true of its one object (a def of one's own: SetO a S n := HO.ext fun h => ..) -/
  | ext (φ : Heap → Prop)

abbrev Hp := Addr → Option HO
def upd (H : Hp) (a : Addr) (o : HO) : Hp := fun b => if b = a then some o else H b
theorem upd_same {H : Hp} {a : Addr} {o : HO} : upd H a o a = some o := by unfold upd; rw [if_pos rfl]
theorem upd_ne {H : Hp} {a b : Addr} {o : HO} (h : b ≠ a) : upd H a o b = H b := by unfold upd; rw [if_neg h]
theorem ne_of {H : Hp} {a b : Addr} {o u : HO} (h : H a = some o) (h' : H b = some u) (d : o ≠ u) : a ≠ b := by
  intro e; subst e; rw [h] at h'; exact d (Option.some.inj h')
theorem ne_of_none {H : Hp} {a b : Addr} {o : HO} (h : H a = some o) (h' : H b = none) : a ≠ b := by
  intro e; subst e; rw [h] at h'; cases h'

section
variable (P : Program) (w : World)
def ObjOk (H : Hp) (h : Heap) (a : Addr) : HO → Prop
  | .lst xs => xs.length ≤ sizeLine ∧ ∃ (its : List Value) (n : Nat), Vals xs its ∧ h.get? a = some { cls := .type "list", data := .seq its.toArray n }
  | .tup xs => xs.length ≤ sizeLine ∧ ∃ its : List Value, Vals xs its ∧ IsTup h a its.toArray
  | .dK kvs => kvs.length ≤ sizeLine ∧ (a == sysModules) = false ∧ ∃ vs, KV kvs vs ∧ h.DictOf (mixKind P w) a vs
  | .dT kvs => kvs.length ≤ sizeLine ∧ (a == sysModules) = false ∧ ∃ xs : List (List Key × Addr × Value),
      Paired (fun (p : List Key × V) (q : List Key × Addr × Value) => p.1 = q.1 ∧ H q.2.1 = some (.tup (p.1.map kV)) ∧ RelV p.2 q.2.2) kvs xs ∧
      ∃ o es ep, h.get? a = some o ∧ o.ExactDict ∧ o.data = .dict es ep ∧ es.toList = xs.map (entryOfKey (tupleKind (mixKind P w))) ∧ (xs.map (·.1)).Nodup
  | .set S n => h.SetOf (intKind P w) a S n
  | .ins C dx fs => H dx = some (.own a) ∧ fs.length ≤ 1000 ∧ dx ≠ a ∧ h.get? a = some (PySem.W.instObj C dx) ∧
      ∃ mA, h.Ns1 dx mA ∧ (∀ f, RelO (fs.lookup f) (mA f)) ∧ PySem.Within mA (fs.map (·.1))
  | .own _ => ∃ o, h.get? a = some o
  | .xd fs => ∃ mA, h.Ns1 a mA ∧ ∀ f, RelO (fs.lookup f) (mA f)
  | .rng lo hi => ∃ t u v, h.get? a = some { cls := .type "range", data := .fields #[.int lo t, .int hi u, .int 1 v] }
  | .frz o u => h.get? a = some o ∧ ObjOk H h a u
  | .tbl ps => h.get? a = some { cls := .none, data := .fields ps }
  | .met f x => h.get? a = some (PySem.W.methodObj (.ref f) (.ref x))
  | .ext φ => φ h ∧ (∃ o, h.get? a = some o) ∧ ∀ h1 h2 : Heap, φ h1 → (∀ o, h1.get? a = some o → h2.get? a = some o) → φ h2
def HOk (H : Hp) (h : Heap) : Prop := ∀ a o, H a = some o → ObjOk P w H h a o
end

section
variable {P : Program} {w : World} {H H' : Hp} {h h' : Heap} {a : Addr} {o : HO}
theorem ObjOk.lt (x : ObjOk P w H h a o) : a < h.objs.size := by
  cases o with
  | lst xs => obtain ⟨_, _, _, _, e⟩ := x; exact Heap.lt_size e
  | tup xs => obtain ⟨_, _, _, p⟩ := x; exact p.lt
  | dK kvs => obtain ⟨_, _, _, _, o, _, _, e, _⟩ := x; exact Heap.lt_size e
  | dT kvs => obtain ⟨_, _, _, _, o, _, _, e, _⟩ := x; exact Heap.lt_size e
  | set S n => obtain ⟨o, _, _, _, e, _⟩ := x; exact Heap.lt_size e
  | ins C dx fs => obtain ⟨_, _, _, e, _⟩ := x; exact Heap.lt_size e
  | own y => obtain ⟨_, e⟩ := x; exact Heap.lt_size e
  | xd fs => obtain ⟨_, ⟨_, _, _, e, _⟩, _⟩ := x; exact Heap.lt_size e
  | rng lo hi => obtain ⟨_, _, _, e⟩ := x; exact Heap.lt_size e
  | frz ob u => obtain ⟨e, _⟩ := x; exact Heap.lt_size e
  | tbl ps => exact Heap.lt_size (show h.get? a = some _ from x)
  | met f y => exact Heap.lt_size (show h.get? a = some _ from x)
  | ext φ => obtain ⟨_, ⟨_, e⟩, _⟩ := x; exact Heap.lt_size e
theorem Paired.mapP {α β : Type} {F G : α → β → Prop} : ∀ {l₁ : List α} {l₂ : List β}, Paired F l₁ l₂ → (∀ a b, F a b → G a b) → Paired G l₁ l₂
  | _, _, .nil, _ => .nil
  | _, _, .cons r t, f => .cons (f _ _ r) (Paired.mapP t f)
theorem ObjOk.stay (x : ObjOk P w H h a o) (k : ∀ b u, (b = a ∨ H b = some (.own a)) → h.get? b = some u → h'.get? b = some u)
    (ho : ∀ b, H b = some (.own a) → H' b = some (.own a)) (ht : ∀ b xs, H b = some (.tup xs) → H' b = some (.tup xs)) : ObjOk P w H' h' a o := by
  induction o with
  | lst xs => obtain ⟨z, its, n, r, e⟩ := x; exact ⟨z, its, n, r, k _ _ (.inl rfl) e⟩
  | tup xs => obtain ⟨z, its, r, ob, e, c⟩ := x; exact ⟨z, its, r, ob, k _ _ (.inl rfl) e, c⟩
  | dK kvs => obtain ⟨z, y, vs, r, ob, es, ep, e, c⟩ := x; exact ⟨z, y, vs, r, ob, es, ep, k _ _ (.inl rfl) e, c⟩
  | dT kvs =>
    obtain ⟨z, y, xs, r, ob, es, ep, e, c⟩ := x
    exact ⟨z, y, xs, Paired.mapP r fun p q z => ⟨z.1, ht _ _ z.2.1, z.2.2⟩, ob, es, ep, k _ _ (.inl rfl) e, c⟩
  | set S n => obtain ⟨ob, es, ep, t, e, c⟩ := x; exact ⟨ob, es, ep, t, k _ _ (.inl rfl) e, c⟩
  | ins C dx fs =>
    obtain ⟨d, z, ne, e, mA, ⟨od, es, ep, e2, c⟩, r⟩ := x
    exact ⟨ho _ d, z, ne, k _ _ (.inl rfl) e, mA, ⟨od, es, ep, k _ _ (.inr d) e2, c⟩, r⟩
  | own y => obtain ⟨ob, e⟩ := x; exact ⟨ob, k _ _ (.inl rfl) e⟩
  | xd fs => obtain ⟨mA, ⟨od, es, ep, e, c⟩, r⟩ := x; exact ⟨mA, ⟨od, es, ep, k _ _ (.inl rfl) e, c⟩, r⟩
  | rng lo hi => obtain ⟨t, u, v, e⟩ := x; exact ⟨t, u, v, k _ _ (.inl rfl) e⟩
  | frz ob u ih => obtain ⟨e, q⟩ := x; exact ⟨k _ _ (.inl rfl) e, ih q⟩
  | tbl ps =>
    have e : h.get? a = some { cls := .none, data := .fields ps } := x
    show h'.get? a = some { cls := .none, data := .fields ps }
    exact k a _ (.inl rfl) e
  | met f y =>
    have e : h.get? a = some (PySem.W.methodObj (.ref f) (.ref y)) := x
    show h'.get? a = some (PySem.W.methodObj (.ref f) (.ref y))
    exact k a _ (.inl rfl) e
  | ext φ => obtain ⟨p, ⟨o, e⟩, st⟩ := x; exact ⟨st _ _ p fun o q => k _ _ (.inl rfl) q, ⟨o, k _ _ (.inl rfl) e⟩, st⟩
theorem HOk.lt (x : HOk P w H h) (e : H a = some o) : a < h.objs.size := (x a o e).lt
theorem HOk.fresh (x : HOk P w H h) (e : h.objs.size ≤ a) : H a = none := by
  cases q : H a with
  | none => rfl
  | some u => exact absurd (Nat.lt_of_lt_of_le (x.lt q) e) (Nat.lt_irrefl _)
theorem HOk.kept (x : HOk P w H h) (k : ∀ b u, h.get? b = some u → h'.get? b = some u) : HOk P w H h' := fun a o e =>
  (x a o e).stay (fun b u _ q => k b u q) (fun _ q => q) fun _ _ q => q
theorem HOk.laid (x : HOk P w H h) (k : ∀ b u, h.get? b = some u → h'.get? b = some u) (hp : h.objs.size ≤ a) (new : ObjOk P w (upd H a o) h' a o) : HOk P w (upd H a o) h' := fun b u e => by
  have hn := x.fresh hp
  by_cases hb : b = a
  · subst hb; rw [upd_same] at e; cases e; exact new
  · rw [upd_ne hb] at e
    exact (x b u e).stay (fun c v _ q => k c v q) (fun c q => by rw [upd_ne (ne_of_none q hn)]; exact q) fun c xs q => by rw [upd_ne (ne_of_none q hn)]; exact q
end

def Rd (H : Hp) (a : Addr) (u : HO) : Prop := H a = some u ∨ ∃ o, H a = some (.frz o u)
theorem Rd.ok {P : Program} {w : World} {H : Hp} {h : Heap} {a : Addr} {u : HO} (r : Rd H a u) (x : HOk P w H h) : ObjOk P w H h a u := by
  rcases r with r | ⟨o, r⟩
  · exact x a u r
  · obtain ⟨_, q⟩ := x a _ r
    exact q
def Mut : Option HO → Prop
  | some (.lst _) => True
  | some (.dK _) => True
  | some (.dT _) => True
  | some (.set _ _) => True
  | some (.ins _ _ _) => True
  | some (.ext _) => True
  | _ => False
section
variable {P : Program} {w : World} {H : Hp} {h h' : Heap} {x e : Addr} {o' : HO}
theorem HOk.write (ok : HOk P w H h) (mu : Mut (H x)) (he : e = x ∨ H e = some (.own x)) (k : ∀ b u, b ≠ e → h.get? b = some u → h'.get? b = some u) (heo : ∃ u, h'.get? e = some u)
    (new : ObjOk P w (upd H x o') h' x o') : HOk P w (upd H x o') h' := fun b u q => by
  have nown : ∀ c y, H c = some (.own y) → c ≠ x := fun c y r z => by subst z; rw [r] at mu; exact mu
  have ntup : ∀ c xs, H c = some (.tup xs) → c ≠ x := fun c xs r z => by subst z; rw [r] at mu; exact mu
  by_cases hb : b = x
  · subst hb; rw [upd_same] at q; cases q; exact new
  · rw [upd_ne hb] at q
    by_cases hbe : b = e
    · have q' : H b = some (.own x) := by
        rcases he with z | z
        · exact absurd (hbe.trans z) hb
        · rw [hbe]; exact z
      rw [q] at q'; cases q'
      obtain ⟨v, hv⟩ := heo
      exact ⟨v, by rw [hbe]; exact hv⟩
    · refine (ok b u q).stay (fun c v hc r => k c v ?_ r) (fun c r => by rw [upd_ne (nown c b r)]; exact r) fun c xs r => by rw [upd_ne (ntup c xs r)]; exact r
      rcases hc with rfl | hc
      · exact hbe
      · rintro rfl
        rcases he with z | z
        · exact nown c b hc z
        · rw [hc] at z; cases z; exact hb rfl
end

structure Un (fs ex : List Addr) (H H' : Hp) (h h' : Heap) : Prop where
  keep : ∀ b o, h.get? b = some o → H b = none → b ∉ fs → b ∉ ex → h'.get? b = some o
  slot : ∀ b o, h.get? b = some o → H b = none → b ∈ fs → b ∉ ex → ∃ sl, h'.get? b = some { o with slots := sl }
  free : ∀ b o, h.get? b = some o → H b = none → b ∉ ex → H' b = none
  there : ∀ b o, h.get? b = some o → b ∉ ex → ∃ o', h'.get? b = some o'
  tups : ∀ b xs, H b = some (.tup xs) → H' b = some (.tup xs)
  frzs : ∀ b o u, H b = some (.frz o u) → H' b = some (.frz o u)
  tbls : ∀ b ps, H b = some (.tbl ps) → ∃ more, H' b = some (.tbl (ps ++ more))
section
variable {fs fs' ex ex' : List Addr} {H H1 H2 : Hp} {h h1 h2 h' : Heap} {a x e : Addr} {o : HO}
theorem Un.any (u : Un fs ex H H1 h h1) {b : Addr} {ob : Obj} (q : h.get? b = some ob) (n : H b = none) (hx : b ∉ ex) : ∃ sl, h1.get? b = some { ob with slots := sl } := by
  by_cases hb : b ∈ fs
  · exact u.slot b ob q n hb hx
  · exact ⟨ob.slots, u.keep b ob q n hb hx⟩
theorem Un.kept (k : ∀ b u, h.get? b = some u → h'.get? b = some u) : Un fs ex H H h h' :=
  ⟨fun b ob q _ _ _ => k b ob q, fun b ob q _ _ _ => ⟨ob.slots, k b ob q⟩, fun _ _ _ n _ => n, fun b ob q _ => ⟨ob, k b ob q⟩, fun _ _ q => q, fun _ _ _ q => q, fun _ ps q => ⟨#[], by rw [q]; simp⟩⟩
theorem Un.refl : Un fs ex H H h h := Un.kept fun _ _ q => q
theorem Un.laid (k : ∀ b u, h.get? b = some u → h'.get? b = some u) (hp : h.objs.size ≤ a) (hn : H a = none) : Un fs ex H (upd H a o) h h' where
  keep := fun b u q _ _ _ => k b u q
  slot := fun b u q _ _ _ => ⟨u.slots, k b u q⟩
  free := fun b u q n _ => by rw [upd_ne (Nat.ne_of_lt (Nat.lt_of_lt_of_le (Heap.lt_size q) hp))]; exact n
  there := fun b u q _ => ⟨u, k b u q⟩
  tups := fun b xs q => by rw [upd_ne (ne_of_none q hn)]; exact q
  frzs := fun b u xs q => by rw [upd_ne (ne_of_none q hn)]; exact q
  tbls := fun b ps q => ⟨#[], by rw [upd_ne (ne_of_none q hn), q]; simp⟩
theorem Un.write (mu : Mut (H x)) (he : e = x ∨ H e = some (.own x)) (k : ∀ b u, b ≠ e → h.get? b = some u → h'.get? b = some u) (heo : ∃ u, h'.get? e = some u) : Un fs ex H (upd H x o) h h' := by
  have hx : ∀ b, H b = none → b ≠ x := fun b n z => by subst z; rw [n] at mu; exact mu
  have hb : ∀ b, H b = none → b ≠ e := fun b n z => by
    subst z
    rcases he with r | r
    · exact hx b n r
    · rw [n] at r; cases r
  have hm : ∀ b u, H b = some u → ¬ Mut (some u) → b ≠ x := fun b u q nm z => by subst z; rw [q] at mu; exact nm mu
  refine ⟨fun b u q n _ _ => k b u (hb b n) q, fun b u q n _ _ => ⟨u.slots, k b u (hb b n) q⟩, fun b u q n _ => by rw [upd_ne (hx b n)]; exact n, fun b u q _ => ?_,
    fun b xs q => by rw [upd_ne (hm b _ q fun z => z)]; exact q, fun b u xs q => by rw [upd_ne (hm b _ q fun z => z)]; exact q, fun b ps q => ⟨#[], by rw [upd_ne (hm b _ q fun z => z), q]; simp⟩⟩
  by_cases hbe : b = e
  · subst hbe; exact heo
  · exact ⟨u, k b u hbe q⟩
end

def trk (h : Heap) (H : Hp) : List Addr := (List.range h.objs.size).filter fun a => (H a).isSome
def hidT (h : Heap) (H : Hp) : Heap := PySem.W.hideAll h (trk h H)
theorem hidT_size (h : Heap) (H : Hp) : (hidT h H).objs.size = h.objs.size := PySem.W.hideAll_size _ _
theorem hidT_get {h : Heap} {H : Hp} {b : Addr} {o : Obj} (e : h.get? b = some o) (n : H b = none) : (hidT h H).get? b = some o :=
  PySem.W.hideAll_get _ e fun hm => by
    have q : (H b).isSome = true := (List.mem_filter.mp hm).2
    rw [n] at q; simp at q
theorem of_hidT {h : Heap} {H : Hp} {b : Addr} {o : Obj} (e : (hidT h H).get? b = some o) : h.get? b = some o ∧ H b = none := by
  have e' : h.get? b = some o := PySem.W.of_hideAll (trk h H) e
  refine ⟨e', ?_⟩
  cases q : H b with
  | none => rfl
  | some x =>
    have hm : b ∈ trk h H := List.mem_filter.mpr ⟨List.mem_range.mpr (Heap.lt_size e'), by simp [q]⟩
    have z : (hidT h H).get? b = none := PySem.W.hideAll_none (trk h H) hm
    rw [z] at e; cases e

def allNews (g h : Heap) (L : Addr) : List (Addr × Obj) := (List.range h.objs.size).filterMap fun a => if a = L ∨ (g.get? a).isSome = true then none else (h.get? a).map fun o => (a, o)
def rest (g h : Heap) (L d : Addr) : List (Addr × Obj) := (allNews g h L).filter fun p => decide (p.1 ≠ d)
end L2

namespace L2
open PySem PySem.Spec PyProof.Rows

structure Mod (K : PySem.W.Frag) (mg : Str → Option Value) (base : Heap) : Prop where
  kin : K.In base
  glob : base.Ns mainGlobals mg
  blt : ∃ mb, base.Ns builtinsNs mb ∧ ∀ x : Str, x ≠ "__name__" → mb x = bootBuiltins x
  nolimit : base.NoLimit

structure Cx where
  prog : Program
  w : World
  K : PySem.W.Frag
  mg : Str → Option Value
  base : Heap
  A : Around
  N : List Str
  s_0 : Shared
  H_0 : Hp
  env : Env
  outer : List Env
  stack : List Env
  ex : List Addr
  fn : Str → Bool
  calm : Bool
  pn : List (Addr × Obj)
  xe : Value → Shared → Prop
def frs (l : List Env) : List Addr := l.filterMap (·.frame)
abbrev Cx.fs (X : Cx) : List Addr := frs X.outer

def Vis (sc : Scope) (x : Str) : Prop := sc.names.lookup x = some .local ∨ sc.names.lookup x = some .cell ∨ sc.names.lookup x = some .free
def Loc (sc : Scope) (x : Str) : Prop := sc.names.lookup x = some .local ∨ sc.names.lookup x = some .cell
def Look (env : Env) (h : Heap) (m : Str → Option Value) (x : Str) (u : Value) : Prop :=
  (env.kindOf x = some .local ∧ m x = some u) ∨ ((env.kindOf x = some .cell ∨ env.kindOf x = some .free) ∧ ∃ c, env.cells.lookup x = some c ∧ h.IsCell c (some u))

structure Cx.Ok (X : Cx) : Prop where
  mod : Mod X.K X.mg X.base
  kind : X.env.scope.kind = .function
  glob : X.env.globals = mainGlobals
  blt : X.env.builtins = builtinsNs
  above : X.s_0.heap.objs.size ≤ X.env.locals
  inj : ∀ x y c, X.env.cells.lookup x = some c → X.env.cells.lookup y = some c → x = y
  has : ∀ x, (X.env.kindOf x = some .cell ∨ X.env.kindOf x = some .free) → ∃ c, X.env.cells.lookup x = some c
  cab : ∀ x c, X.fn x = true → X.env.cells.lookup x = some c → X.s_0.heap.objs.size ≤ c
  hd : X.calm = true → X.A.handled = none
  frames : X.A.frames = some X.stack
  stk : X.stack = X.outer ∨ (X.stack = X.env :: X.outer ∧ X.env.frame = some X.env.locals)
  exf : ∀ b ∈ X.ex, b ≠ X.env.locals ∧ ∀ x c, X.env.cells.lookup x = some c → c ≠ b
  bs : ∀ b o, X.base.get? b = some o → X.s_0.heap.get? b = some o ∧ X.H_0 b = none
  bsz : X.base.objs.size ≤ X.s_0.heap.objs.size
  noex : ∀ b o, X.base.get? b = some o → b ∉ X.ex
  exfs : ∀ b ∈ X.ex, b ∉ X.fs
  funs : X.s_0.heap.FunFrames X.base X.outer
  frf : ∀ b ∈ X.fs, X.H_0 b = none

structure Inv (X : Cx) (pins : List (Addr × Obj)) (σ : List (Option V)) (H : Hp) (s : Shared) : Prop where
  ok : X.Ok
  os : s.os = X.s_0.os
  bare : AllBare s.gens
  base : Un X.fs X.ex X.H_0 H X.s_0.heap s.heap
  loc : ∃ m, s.heap.Ns X.env.locals m ∧ ∀ (i : Nat) (x : Str) (v : V), X.N[i]? = some x → σ[i]? = some (some v) → Vis X.env.scope x → ∃ u, RelV v u ∧ Look X.env s.heap m x u
  cell : ∀ x c, X.env.cells.lookup x = some c → ∃ v, s.heap.IsCell c v
  free : H X.env.locals = none
  freeC : ∀ x c, X.env.cells.lookup x = some c → H c = none
  pin : ∀ p ∈ X.pn ++ pins, s.heap.get? p.1 = some p.2 ∧ H p.1 = none ∧ p.1 ≠ X.env.locals ∧ p.1 ∉ X.fs ∧ ∀ v, p.2.data ≠ .cell v
  hok : HOk X.prog X.w H s.heap
  len : σ.length = X.N.length

section
variable {X : Cx} {pins : List (Addr × Obj)} {σ : List (Option V)} {H H' : Hp} {s : Shared} {h' : Heap}

theorem Cx.Ok.nofr (ok : X.Ok) {b : Addr} {o : Obj} (e : X.base.get? b = some o) : b ∉ X.fs := fun hb => by
  have := (ok.funs.mem hb).1
  rw [e] at this; cases this
theorem Inv.bs (I : Inv X pins σ H s) : ∀ b o, X.base.get? b = some o → s.heap.get? b = some o ∧ H b = none := fun b o e =>
  ⟨I.base.keep b o (I.ok.bs b o e).1 (I.ok.bs b o e).2 (I.ok.nofr e) (I.ok.noex b o e), I.base.free b o (I.ok.bs b o e).1 (I.ok.bs b o e).2 (I.ok.noex b o e)⟩
theorem Inv.bk (I : Inv X pins σ H s) : ∀ b o, X.base.get? b = some o → s.heap.get? b = some o := fun b o e => (I.bs b o e).1
theorem Inv.mod (I : Inv X pins σ H s) : Mod X.K X.mg X.base := I.ok.mod
theorem Inv.kIn (I : Inv X pins σ H s) : X.K.In s.heap := I.ok.mod.kin.keeps I.bk
theorem Inv.fr (I : Inv X pins σ H s) : ∃ m, Fr X.base X.env.locals s.heap m :=
  let ⟨m, hn, _⟩ := I.loc
  ⟨m, hn, I.bk, Nat.le_trans I.ok.bsz I.ok.above⟩
theorem Inv.lt (I : Inv X pins σ H s) : X.env.locals < s.heap.objs.size := let ⟨_, hn, _⟩ := I.loc; hn.lt
theorem Inv.sz (I : Inv X pins σ H s) : X.s_0.heap.objs.size ≤ s.heap.objs.size := Nat.le_trans I.ok.above (Nat.le_of_lt I.lt)
theorem Inv.nofs (I : Inv X pins σ H s) {a : Addr} (h : s.heap.objs.size ≤ a) : a ∉ X.fs := fun hb => by
  obtain ⟨_, o, ho, _⟩ := I.ok.funs.mem hb
  exact absurd (Nat.lt_of_lt_of_le (Heap.lt_size ho) (Nat.le_trans I.sz h)) (Nat.lt_irrefl _)
theorem Inv.cne (I : Inv X pins σ H s) : ∀ x c, X.env.cells.lookup x = some c → c ≠ X.env.locals := fun x c e z => by
  obtain ⟨v, o, ho, hd⟩ := I.cell x c e
  obtain ⟨m, ⟨o', es, ep, ho', hd', _⟩, _⟩ := I.loc
  rw [z, ho'] at ho; cases ho; rw [hd'] at hd; cases hd
theorem Inv.funs (I : Inv X pins σ H s) : s.heap.FunFrames X.base X.outer := by
  have all : ∀ (l : List Env), (∀ b ∈ frs l, b ∈ X.fs) → X.s_0.heap.FunFrames X.base l → s.heap.FunFrames X.base l := by
    intro l
    induction l with
    | nil => intro _ _; trivial
    | cons env r ih =>
      intro hs hl
      obtain ⟨hk, ⟨L, o, hf, hn, ho, hd⟩, hr⟩ := hl
      have hL : L ∈ X.fs := hs L (by unfold frs; rw [List.filterMap_cons, hf]; exact List.mem_cons_self)
      obtain ⟨sl, e⟩ := I.base.slot L o ho (I.ok.frf L hL) hL fun z => I.ok.exfs L z hL
      exact ⟨hk, ⟨L, _, hf, hn, e, hd⟩, ih (fun b hb => hs b (by unfold frs; rw [List.filterMap_cons, hf]; exact List.mem_cons_of_mem _ hb)) hr⟩
  exact all X.outer (fun _ hb => hb) I.ok.funs

theorem Inv.stack (I : Inv X pins σ H s) : s.heap.FunFrames X.base X.stack := by
  rcases I.ok.stk with e | ⟨e, hf⟩
  · rw [e]; exact I.funs
  · rw [e]
    obtain ⟨m, hn, _⟩ := I.loc
    refine .cons (by rw [I.ok.kind]; decide) hf hn ?_ I.funs
    exact Heap.get?_none_of_le (Nat.le_trans I.ok.bsz I.ok.above)
theorem Inv.stkSub (I : Inv X pins σ H s) : ∀ b ∈ frs X.stack, b ∈ X.env.locals :: X.fs := fun b hb => by
  rcases I.ok.stk with e | ⟨e, hf⟩
  · rw [e] at hb; exact List.mem_cons_of_mem _ hb
  · rw [e] at hb
    unfold frs at hb
    rw [List.filterMap_cons, hf] at hb
    exact hb
theorem Inv.stkFree (I : Inv X pins σ H s) : ∀ b ∈ frs X.stack, H b = none := fun b hb => by
  rcases List.mem_cons.mp (I.stkSub b hb) with e | hb
  · rw [e]; exact I.free
  · obtain ⟨_, o, ho, _⟩ := I.ok.funs.mem hb
    exact I.base.free b o ho (I.ok.frf b hb) fun z => I.ok.exfs b z hb

theorem Inv.step {g' : Array GenState} {t' : Nat} {d' : Drawn} {ch : List Addr} (I : Inv X pins σ H s)
    (hch : ∀ b ∈ ch, (b ∈ X.ex ∨ X.s_0.heap.objs.size ≤ b) ∧ b ≠ X.env.locals ∧ (∀ x c, X.env.cells.lookup x = some c → c ≠ b) ∧ ∀ p ∈ X.pn ++ pins, p.1 ≠ b)
    (keep : ∀ b o, b ≠ X.env.locals → b ∉ X.fs → b ∉ ch → s.heap.get? b = some o → H b = none → h'.get? b = some o)
    (slot : ∀ b o, b ≠ X.env.locals → b ∈ X.fs → b ∉ ch → s.heap.get? b = some o → H b = none → ∃ sl, h'.get? b = some { o with slots := sl }) (free : ∀ b o, b ∉ ch → s.heap.get? b = some o → H b = none → H' b = none)
    (there : ∀ b o, b ∉ ch → s.heap.get? b = some o → ∃ o', h'.get? b = some o')
    (tups : ∀ b xs, H b = some (.tup xs) → H' b = some (.tup xs)) (frzs : ∀ b o u, H b = some (.frz o u) → H' b = some (.frz o u)) (tbls : ∀ b ps, H b = some (.tbl ps) → ∃ more, H' b = some (.tbl (ps ++ more)))
    (ns : ∀ m, s.heap.Ns X.env.locals m → h'.Ns X.env.locals m) (hok : HOk X.prog X.w H' h') (hg : AllBare g') :
    Inv X pins σ H' { s with heap := h', gens := g', drawn := d', toks := t' } := by
  have neL : ∀ b o, X.s_0.heap.get? b = some o → b ≠ X.env.locals := fun b o e => Nat.ne_of_lt (Nat.lt_of_lt_of_le (Heap.lt_size e) I.ok.above)
  have neC : ∀ b o, X.s_0.heap.get? b = some o → b ∉ X.ex → b ∉ ch := fun b o e hx hb => by
    rcases (hch b hb).1 with z | z
    · exact hx z
    · exact absurd (Nat.lt_of_lt_of_le (Heap.lt_size e) z) (Nat.lt_irrefl _)
  have cellK : ∀ x c, X.env.cells.lookup x = some c → ∀ v, s.heap.IsCell c v → h'.IsCell c v := fun x c e v ⟨o, ho, hd⟩ => by
    have nch : c ∉ ch := fun z => (hch c z).2.2.1 x c e rfl
    by_cases hc : c ∈ X.fs
    · obtain ⟨sl, q⟩ := slot c o (I.cne x c e) hc nch ho (I.freeC x c e)
      exact ⟨_, q, hd⟩
    · exact ⟨o, keep c o (I.cne x c e) hc nch ho (I.freeC x c e), hd⟩
  refine ⟨I.ok, I.os, hg, ⟨fun b o e n hb hx => ?_, fun b o e n hb hx => ?_, fun b o e n hx => ?_, fun b o e hx => ?_, fun b xs e => tups b xs (I.base.tups b xs e), fun b o xs e => frzs b o xs (I.base.frzs b o xs e), fun b ps e => ?_⟩, ?_, fun x c e => ?_, ?_, fun x c e => ?_, fun p hp => ?_, hok, I.len⟩
  · exact keep b o (neL b o e) hb (neC b o e hx) (I.base.keep b o e n hb hx) (I.base.free b o e n hx)
  · obtain ⟨sl, e1⟩ := I.base.slot b o e n hb hx
    obtain ⟨sl', e2⟩ := slot b _ (neL b o e) hb (neC b o e hx) e1 (I.base.free b o e n hx)
    exact ⟨sl', e2⟩
  · obtain ⟨o', e1⟩ := I.base.there b o e hx
    exact free b o' (neC b o e hx) e1 (I.base.free b o e n hx)
  · obtain ⟨o', e1⟩ := I.base.there b o e hx
    exact there b o' (neC b o e hx) e1
  · obtain ⟨m1, e1⟩ := I.base.tbls b ps e
    obtain ⟨m2, e2⟩ := tbls b _ e1
    exact ⟨m1 ++ m2, by rw [e2, Array.append_assoc]⟩
  · obtain ⟨m, hn, hl⟩ := I.loc
    refine ⟨m, ns m hn, fun i x v e1 e2 e3 => ?_⟩
    obtain ⟨u, r, l⟩ := hl i x v e1 e2 e3
    refine ⟨u, r, ?_⟩
    rcases l with l | ⟨k, c, e, z⟩
    · exact .inl l
    · exact .inr ⟨k, c, e, cellK x c e _ z⟩
  · obtain ⟨v, z⟩ := I.cell x c e
    exact ⟨v, cellK x c e v z⟩
  · obtain ⟨m, ⟨o, _, _, ho, _⟩, _⟩ := I.loc
    exact free _ o (fun z => (hch _ z).2.1 rfl) ho I.free
  · obtain ⟨v, o, ho, hd⟩ := I.cell x c e
    exact free c o (fun z => (hch c z).2.2.1 x c e rfl) ho (I.freeC x c e)
  · obtain ⟨e, n, ne, nf, d⟩ := I.pin p hp
    have nch : p.1 ∉ ch := fun z => (hch p.1 z).2.2.2 p hp rfl
    exact ⟨keep p.1 p.2 ne nf nch e n, free p.1 p.2 nch e n, ne, nf, d⟩
theorem Inv.un {t' : Nat} (I : Inv X pins σ H s) (u : Un X.fs [] H H' s.heap h') (hok : HOk X.prog X.w H' h') : Inv X pins σ H' { s with heap := h', toks := t' } := by
  obtain ⟨m, ⟨o, es, ep, ho, r⟩, _⟩ := id I.loc
  obtain ⟨sl, hL⟩ := u.any ho I.free (by simp)
  exact I.step (g' := s.gens) (d' := s.drawn) (ch := []) (fun _ z => nomatch z) (fun b o _ hb _ e n => u.keep b o e n hb (by simp)) (fun b o _ hb _ e n => u.slot b o e n hb (by simp)) (fun b o _ e n => u.free b o e n (by simp)) (fun b o _ e => u.there b o e (by simp)) u.tups u.frzs u.tbls (fun m' hm => by
    obtain ⟨o', es', ep', ho', r'⟩ := hm
    rw [ho] at ho'; cases ho'
    exact ⟨_, es', ep', hL, r'⟩) hok I.bare
theorem Inv.call {g' : Array GenState} {t' : Nat} {d' : Drawn} {ch : List Addr} (I : Inv X pins σ H s) (u : Un (frs X.stack) ch H H' s.heap h') (hok : HOk X.prog X.w H' h') (hg : AllBare g')
    (hch : ∀ b ∈ ch, (b ∈ X.ex ∨ X.s_0.heap.objs.size ≤ b) ∧ b ≠ X.env.locals ∧ (∀ x c, X.env.cells.lookup x = some c → c ≠ b) ∧ ∀ p ∈ X.pn ++ pins, p.1 ≠ b) :
    Inv X pins σ H' { s with heap := h', gens := g', drawn := d', toks := t' } := by
  obtain ⟨m, ⟨o, es, ep, ho, r⟩, _⟩ := id I.loc
  obtain ⟨sl, hL⟩ := u.any ho I.free fun z => (hch _ z).2.1 rfl
  exact I.step (ch := ch) hch (fun b o hL hb hc e n => u.keep b o e n (fun z => (List.mem_cons.mp (I.stkSub b z)).elim hL hb) hc) (fun b o _ _ hc e n => u.any e n hc) (fun b o hc e n => u.free b o e n hc) (fun b o hc e => u.there b o e hc) u.tups u.frzs u.tbls (fun m' hm => by
    obtain ⟨o', es', ep', ho', r'⟩ := hm
    rw [ho] at ho'; cases ho'
    exact ⟨_, es', ep', hL, r'⟩) hok hg
theorem Inv.turned {t' : Nat} {it : Addr} (I : Inv X pins σ H s) (k : ∀ b o, b ≠ it → s.heap.get? b = some o → h'.get? b = some o) (hn : H it = none) (hL : it ≠ X.env.locals)
    (h1 : it ∈ X.ex ∨ X.s_0.heap.objs.size ≤ it) (h2 : ∀ x c, X.env.cells.lookup x = some c → c ≠ it) (h3 : ∀ p ∈ X.pn ++ pins, p.1 ≠ it) : Inv X pins σ H { s with heap := h', toks := t' } := by
  have nit : ∀ b u, H b = some u → b ≠ it := fun b u e z => by rw [z, hn] at e; cases e
  refine I.step (g' := s.gens) (d' := s.drawn) (ch := [it]) (fun b hb => ?_) (fun b o _ _ hc e _ => k b o (fun z => hc (by simp [z])) e) (fun b o _ _ hc e _ => ⟨o.slots, k b o (fun z => hc (by simp [z])) e⟩) (fun _ _ _ _ n => n)
    (fun b o hc e => ⟨o, k b o (fun z => hc (by simp [z])) e⟩) (fun _ _ e => e) (fun _ _ _ e => e) (fun b ps e => ⟨#[], by rw [e]; simp⟩) (fun m hm => ?_) (fun b u e => ?_) I.bare
  · have e : b = it := by simpa using hb
    subst e
    exact ⟨h1, hL, h2, h3⟩
  · obtain ⟨o, es, ep, ho, r⟩ := hm
    exact ⟨o, es, ep, k _ o (Ne.symm hL) ho, r⟩
  · refine (I.hok b u e).stay (fun c v hc q => k c v ?_ q) (fun _ q => q) fun _ _ q => q
    rcases hc with z | z
    · rw [z]; exact nit b u e
    · exact nit c _ z
theorem Inv.tok (I : Inv X pins σ H s) (t : Nat) : Inv X pins σ H { s with toks := t } := I.un (h' := s.heap) (t' := t) Un.refl I.hok
theorem Inv.kept {t' : Nat} (I : Inv X pins σ H s) (k : ∀ b u, s.heap.get? b = some u → h'.get? b = some u) : Inv X pins σ H { s with heap := h', toks := t' } := I.un (Un.kept k) (I.hok.kept k)
theorem Inv.laid {a : Addr} {o : HO} {t' : Nat} (I : Inv X pins σ H s) (k : ∀ b u, s.heap.get? b = some u → h'.get? b = some u) (hp : s.heap.objs.size ≤ a) (new : ObjOk X.prog X.w (upd H a o) h' a o) :
    Inv X pins σ (upd H a o) { s with heap := h', toks := t' } := I.un (Un.laid k hp (I.hok.fresh hp)) (I.hok.laid k hp new)
theorem Inv.write {x e : Addr} {o : HO} {t' : Nat} (I : Inv X pins σ H s) (mu : Mut (H x)) (he : e = x ∨ H e = some (.own x)) (k : ∀ b u, b ≠ e → s.heap.get? b = some u → h'.get? b = some u) (heo : ∃ u, h'.get? e = some u)
    (new : ObjOk X.prog X.w (upd H x o) h' x o) : Inv X pins σ (upd H x o) { s with heap := h', toks := t' } := I.un (Un.write mu he k heo) (I.hok.write mu he k heo new)
theorem Inv.weak {σ' : List (Option V)} (I : Inv X pins σ H s) (hl : σ'.length = σ.length) (w : ∀ (i : Nat) v, σ'[i]? = some (some v) → σ[i]? = some (some v)) : Inv X pins σ' H s :=
  ⟨I.ok, I.os, I.bare, I.base, let ⟨m, hn, hl'⟩ := I.loc; ⟨m, hn, fun i x v e1 e2 e3 => hl' i x v e1 (w i v e2) e3⟩, I.cell, I.free, I.freeC, I.pin, I.hok, hl.trans I.len⟩
theorem Inv.pins_of {pins' : List (Addr × Obj)} (I : Inv X pins σ H s) (h : ∀ p ∈ pins', s.heap.get? p.1 = some p.2 ∧ H p.1 = none ∧ p.1 ≠ X.env.locals ∧ p.1 ∉ X.fs ∧ ∀ v, p.2.data ≠ .cell v) : Inv X pins' σ H s :=
  ⟨I.ok, I.os, I.bare, I.base, I.loc, I.cell, I.free, I.freeC, fun p hp => (List.mem_append.mp hp).elim (fun z => I.pin p (List.mem_append_left _ z)) (h p), I.hok, I.len⟩

theorem nodup_ix {N : List Str} (hN : N.Nodup) {i j : Nat} {x : Str} (a : N[i]? = some x) (b : N[j]? = some x) : i = j := by
  obtain ⟨h1, e1⟩ := List.getElem?_eq_some_iff.mp a
  obtain ⟨h2, e2⟩ := List.getElem?_eq_some_iff.mp b
  exact (List.getElem_inj hN).mp (e1.trans e2.symm)

theorem store_ok2 {M : Model} {A : Around} {E : Value → Shared → Prop} {i : Nat} {x : Str} {v : V} {u : Value} {Q : Unit → Shared → Prop} (I : Inv X pins σ H s) (hN : X.N.Nodup) (hi : X.N[i]? = some x) (hx : Loc X.env.scope x) (r : RelV v u)
    (h : ∀ s', Inv X pins (σ.set i (some v)) H s' → (∃ a, Heap.SameBut a s.heap s'.heap ∧ (a = X.env.locals ∨ X.env.cells.lookup x = some a)) → Q () s') (hf : X.fn x = true ∨ X.env.scope.names.lookup x = some .local := by first | exact .inl rfl | exact .inr rfl | assumption) : wpAny M A (storeName X.env x u) Q E s := by
  obtain ⟨m, hn, hl⟩ := id I.loc
  have hcls : (X.env.scope.kind == .class || (X.env.scope.kind == .module && X.env.locals != X.env.globals)) = false := by rw [I.ok.kind]; rfl
  have hiσ : i < σ.length := by rw [I.len]; exact (List.getElem?_eq_some_iff.mp hi).1
  have cne := I.cne
  have tracked : ∀ {a : Addr} {h' : Heap}, (∃ o, s.heap.get? a = some o ∧ H a = none) → Heap.SameBut a s.heap h' → HOk X.prog X.w H h' := fun {a h'} ha hs b ob e => by
    obtain ⟨_, _, hfree⟩ := ha
    refine (I.hok b ob e).stay (fun c w' hc q => (hs.2 c ?_).trans q) (fun _ q => q) fun _ _ q => q
    rintro rfl
    rcases hc with rfl | hc
    · rw [hfree] at e; cases e
    · rw [hfree] at hc; cases hc
  rcases hx with hk | hk
  · refine wpAny_storeName_local hk hn (fun h' hn' hs => ?_) hcls
    obtain ⟨oL, _, _, hoL, _⟩ := id hn
    refine h _ ⟨I.ok, I.os, I.bare, ⟨fun b o e n hb hx => ?_, fun b o e n hb hx => ?_, I.base.free, fun b o e hx => ?_, I.base.tups, I.base.frzs, I.base.tbls⟩, ⟨_, hn', fun j y v' e1 e2 e3 => ?_⟩, fun y c e => ?_, I.free, I.freeC, fun p hp => ?_, tracked ⟨oL, hoL, I.free⟩ hs, by simpa using I.len⟩ ⟨_, hs, .inl rfl⟩
    · exact (hs.2 b (Nat.ne_of_lt (Nat.lt_of_lt_of_le (Heap.lt_size e) I.ok.above))).trans (I.base.keep b o e n hb hx)
    · obtain ⟨sl, e1⟩ := I.base.slot b o e n hb hx
      exact ⟨sl, (hs.2 b (Nat.ne_of_lt (Nat.lt_of_lt_of_le (Heap.lt_size e) I.ok.above))).trans e1⟩
    · obtain ⟨o', e1⟩ := I.base.there b o e hx
      exact ⟨o', (hs.2 b (Nat.ne_of_lt (Nat.lt_of_lt_of_le (Heap.lt_size e) I.ok.above))).trans e1⟩
    · by_cases hj : j = i
      · subst hj
        rw [hi] at e1; cases e1
        rw [List.getElem?_set_self hiσ] at e2
        cases e2
        exact ⟨u, r, .inl ⟨hk, by simp⟩⟩
      · rw [List.getElem?_set_ne (Ne.symm hj)] at e2
        obtain ⟨u', r', q⟩ := hl j y v' e1 e2 e3
        refine ⟨u', r', ?_⟩
        rcases q with ⟨k, e⟩ | ⟨k, c, e, z⟩
        · refine .inl ⟨k, ?_⟩
          have : y ≠ x := fun e => hj (nodup_ix hN e1 (e ▸ hi))
          simp [this, e]
        · exact .inr ⟨k, c, e, z.sameBut hs (cne y c e)⟩
    · obtain ⟨w', z⟩ := I.cell y c e
      exact ⟨w', z.sameBut hs (cne y c e)⟩
    · obtain ⟨e, n, ne, nf, d⟩ := I.pin p hp
      exact ⟨(hs.2 p.1 ne).trans e, n, ne, nf, d⟩
  · have hfn : X.fn x = true := by
      rcases hf with z | z
      · exact z
      · rw [z] at hk; cases hk
    obtain ⟨c, hc⟩ := I.ok.has x (.inl hk)
    obtain ⟨w', z⟩ := I.cell x c hc
    refine wpAny_storeName_cell I.ok.kind hk hc z (fun h' hc' hs => ?_)
    obtain ⟨oc, hoc, hocd⟩ := id z
    refine h { s with heap := h' } ⟨I.ok, I.os, I.bare, ⟨fun b o e n hb hx => ?_, fun b o e n hb hx => ?_, I.base.free, fun b o e hx => ?_, I.base.tups, I.base.frzs, I.base.tbls⟩, ⟨m, hn.sameBut hs (Ne.symm (cne x c hc)), fun j y v' e1 e2 e3 => ?_⟩, fun y c' e => ?_, I.free, I.freeC, fun p hp => ?_, tracked ⟨oc, hoc, I.freeC x c hc⟩ hs, by simpa using I.len⟩ ⟨c, hs, .inr hc⟩
    · exact (hs.2 b (Nat.ne_of_lt (Nat.lt_of_lt_of_le (Heap.lt_size e) (I.ok.cab x c hfn hc)))).trans (I.base.keep b o e n hb hx)
    · obtain ⟨sl, e1⟩ := I.base.slot b o e n hb hx
      exact ⟨sl, (hs.2 b (Nat.ne_of_lt (Nat.lt_of_lt_of_le (Heap.lt_size e) (I.ok.cab x c hfn hc)))).trans e1⟩
    · obtain ⟨o', e1⟩ := I.base.there b o e hx
      exact ⟨o', (hs.2 b (Nat.ne_of_lt (Nat.lt_of_lt_of_le (Heap.lt_size e) (I.ok.cab x c hfn hc)))).trans e1⟩
    · by_cases hj : j = i
      · subst hj
        rw [hi] at e1; cases e1
        rw [List.getElem?_set_self hiσ] at e2
        cases e2
        exact ⟨u, r, .inr ⟨.inl hk, c, hc, hc'⟩⟩
      · rw [List.getElem?_set_ne (Ne.symm hj)] at e2
        obtain ⟨u', r', q⟩ := hl j y v' e1 e2 e3
        refine ⟨u', r', ?_⟩
        rcases q with q | ⟨k, c', e, z'⟩
        · exact .inl q
        · refine .inr ⟨k, c', e, z'.sameBut hs ?_⟩
          rintro rfl
          exact hj (nodup_ix hN e1 (I.ok.inj _ _ _ e hc ▸ hi))
    · by_cases hcc : c' = c
      · subst hcc; exact ⟨_, hc'⟩
      · obtain ⟨w2, z2⟩ := I.cell y c' e
        exact ⟨w2, z2.sameBut hs hcc⟩
    · obtain ⟨e, n, ne, nf, d⟩ := I.pin p hp
      refine ⟨(hs.2 p.1 ?_).trans e, n, ne, nf, d⟩
      intro q
      rw [q, hoc] at e
      have q' : oc = p.2 := Option.some.inj e
      exact d w' (by rw [← q']; exact hocd)
theorem store_ok {M : Model} {A : Around} {E : Value → Shared → Prop} {i : Nat} {x : Str} {v : V} {u : Value} {Q : Unit → Shared → Prop} (I : Inv X pins σ H s) (hN : X.N.Nodup) (hi : X.N[i]? = some x) (hx : Loc X.env.scope x) (r : RelV v u)
    (h : ∀ s', Inv X pins (σ.set i (some v)) H s' → Q () s') (hf : X.fn x = true ∨ X.env.scope.names.lookup x = some .local := by first | exact .inl rfl | exact .inr rfl | assumption) : wpAny M A (storeName X.env x u) Q E s :=
  store_ok2 I hN hi hx r (fun s' I' _ => h s' I') hf
theorem Inv.call' {s' : Shared} {ch : List Addr} (I : Inv X pins σ H s) (ho : s'.os = s.os) (u : Un (frs X.stack) ch H H' s.heap s'.heap) (hok : HOk X.prog X.w H' s'.heap) (hg : AllBare s'.gens)
    (hch : ∀ b ∈ ch, (b ∈ X.ex ∨ X.s_0.heap.objs.size ≤ b) ∧ b ≠ X.env.locals ∧ (∀ x c, X.env.cells.lookup x = some c → c ≠ b) ∧ ∀ p ∈ X.pn ++ pins, p.1 ≠ b) : Inv X pins σ H' s' := by
  obtain ⟨h', g', d', t', o'⟩ := s'
  have e : o' = s.os := ho
  subst e
  exact I.call (g' := g') (t' := t') (d' := d') u hok hg hch
end

abbrev XK := Value → Option Addr → Hp → Prop
abbrev St := List (Option V)
abbrev VK := V → Hp → Prop
abbrev TE := St → Hp → VK → Prop
abbrev TT := St → Hp → (Bool → Hp → Prop) → Prop
abbrev TA := St → Hp → (List V → Hp → Prop) → Prop
structure Ends where
  nx : St → Hp → Prop
  rt : VK
  bk : St → Hp → Prop := fun _ _ => False
  ct : St → Hp → Prop := fun _ _ => False
abbrev TS := Ends → St → Hp → Prop

def EP (X : Cx) (pins : List (Addr × Obj)) (σ : St) (Q : VK) (u : Value) (s' : Shared) : Prop := ∃ v H', Inv X pins σ H' s' ∧ RelV v u ∧ Q v H'
def TP (X : Cx) (pins : List (Addr × Obj)) (σ : St) (Q : Bool → Hp → Prop) (b : Bool) (s' : Shared) : Prop := ∃ H', Inv X pins σ H' s' ∧ Q b H'
def AP (X : Cx) (pins : List (Addr × Obj)) (σ : St) (Q : List V → Hp → Prop) (us : List Value) (s' : Shared) : Prop := ∃ vs H', Inv X pins σ H' s' ∧ Vals vs us ∧ Q vs H'
def SP (X : Cx) (pins : List (Addr × Obj)) (D : Ends) (f : Flow) (s' : Shared) : Prop :=
  match f with
  | .next => ∃ σ' H', Inv X pins σ' H' s' ∧ D.nx σ' H'
  | .brk => ∃ σ' H', Inv X pins σ' H' s' ∧ D.bk σ' H'
  | .cont => ∃ σ' H', Inv X pins σ' H' s' ∧ D.ct σ' H'
  | .ret u => ∃ v σ' H', Inv X pins σ' H' s' ∧ RelV v u ∧ D.rt v H'

def PE (X : Cx) (e : Expr) (t : TE) : Prop :=
  ∀ (pins : List (Addr × Obj)) (s : Shared) (σ : St) (H : Hp) (Q : VK), Inv X pins σ H s → t σ H Q → wpAny (model X.prog X.w) X.A (eval e X.env) (EP X pins σ Q) X.xe s
def PT (X : Cx) (e : Expr) (t : TT) : Prop :=
  ∀ (pins : List (Addr × Obj)) (s : Shared) (σ : St) (H : Hp) (Q : Bool → Hp → Prop), Inv X pins σ H s → t σ H Q → wpAny (model X.prog X.w) X.A (isTrue e X.env (eval e X.env)) (TP X pins σ Q) X.xe s
def PW (X : Cx) (e : Expr) (t : TT) : Prop :=
  ∀ (whole : Sem Value) (pins : List (Addr × Obj)) (s : Shared) (σ : St) (H : Hp) (Q : Bool → Hp → Prop), Inv X pins σ H s → t σ H Q → wpAny (model X.prog X.w) X.A (isTrue e X.env whole) (TP X pins σ Q) X.xe s
theorem PW.pt {X : Cx} {e : Expr} {t : TT} (h : PW X e t) : PT X e t := h _
def PA (X : Cx) (es : List Expr) (t : TA) : Prop :=
  ∀ (pos : Pos) (pins : List (Addr × Obj)) (s : Shared) (σ : St) (H : Hp) (Q : List V → Hp → Prop), Inv X pins σ H s → t σ H Q → wpAny (model X.prog X.w) X.A (spliced (backTo pos (starEach es X.env))) (AP X pins σ Q) X.xe s
def PS (X : Cx) (st : Stmt) (t : TS) : Prop :=
  ∀ (pins : List (Addr × Obj)) (s : Shared) (σ : St) (H : Hp) (D : Ends), Inv X pins σ H s → t D σ H → wpAny (model X.prog X.w) X.A (exec st X.env) (SP X pins D) X.xe s
def PSs (X : Cx) (st : List Stmt) (t : TS) : Prop :=
  ∀ (pins : List (Addr × Obj)) (s : Shared) (σ : St) (H : Hp) (D : Ends), Inv X pins σ H s → t D σ H → wpAny (model X.prog X.w) X.A (execs st X.env) (SP X pins D) X.xe s
theorem thn {α : Type} {t : Sem α} {Q Q' : α → Shared → Prop} {M : Model} {A : Around} {E : Value → Shared → Prop} {s : Shared} (h : wpAny M A t Q E s) (hQ : ∀ a s, Q a s → Q' a s) : wpAny M A t Q' E s := wpAny_mono h hQ fun _ _ x => x
end L2

namespace L2
open PySem PySem.Spec PyProof.Rows
section
variable {X : Cx}

def tVar (i : Nat) : TE := fun σ H Q => ∃ v, σ[i]? = some (some v) ∧ Q v H
def tC (v : V) : TE := fun _ H Q => Q v H
theorem pe_var {i : Nat} {x : Str} {pos : Pos} (hN : X.N[i]? = some x) (hv : Vis X.env.scope x) (hd : (x == ("__debug__" : Str)) = false := by decide) (hcd : (x == ("__classdict__" : Str)) = false := by decide) : PE X (.Name x pos) (tVar i) := by
  intro pins s σ H Q I h
  obtain ⟨v, e, h⟩ := h
  obtain ⟨m, hn, hl⟩ := I.loc
  obtain ⟨u, r, l⟩ := hl i x v hN e hv
  have fin : EP X pins σ Q u s := ⟨v, H, I, r, h⟩
  rcases l with ⟨hk, hm⟩ | ⟨hk, c, hc, hcell⟩
  · exact wpAny_Name (wpAny_loadName_local I.ok.kind hk hn hm fin) hd
  · rcases hk with hk | hk
    · exact wpAny_Name (wpAny_loadName_cell I.ok.kind hk hc hcell fin) hd
    · exact wpAny_Name (wpAny_loadName_free I.ok.kind hk hc hcell fin hcd) hd
theorem pe_int {i j pos} : PE X (.Constant (.int i) j pos) (tC (.int i)) := fun _ _ _ H _ I h => wpAny_Constant_int ⟨.int i, H, I.tok _, ⟨_, rfl⟩, h⟩
theorem pe_bl {b j pos} : PE X (.Constant (.bool b) j pos) (tC (.bl b)) := fun _ _ _ H _ I h => Constant_bool ⟨.bl b, H, I, rfl, h⟩
theorem pe_non {j pos} : PE X (.Constant .none j pos) (tC .non) := fun _ _ _ H _ I h => Constant_none ⟨.non, H, I, rfl, h⟩
def Gl (X : Cx) (x : Str) : Prop := X.env.kindOf x = some .globalImplicit
theorem ld_glob {E : Value → Shared → Prop} {pins : List (Addr × Obj)} {s : Shared} {σ : St} {H : Hp} {x : Str} {u : Value} {pos : Pos} {Q : Value → Shared → Prop} (I : Inv X pins σ H s) (hg : Gl X x) (hm : X.mg x = some u) (h : Q u s)
    (hd : (x == ("__debug__" : Str)) = false := by decide) : wpAny (model X.prog X.w) X.A (eval (.Name x pos) X.env) Q E s :=
  Calls.Name_function_global I.ok.kind hg (Calls.loadGlobal_global (by rw [I.ok.glob]; exact I.mod.glob.keeps I.bk) hm h) hd
theorem ld_blt {E : Value → Shared → Prop} {pins : List (Addr × Obj)} {s : Shared} {σ : St} {H : Hp} {x : Str} {u : Value} {pos : Pos} {Q : Value → Shared → Prop} (I : Inv X pins σ H s) (hg : Gl X x) (hm : X.mg x = none) (hv : bootBuiltins x = some u) (h : Q u s)
    (hn : x ≠ "__name__" := by decide) (hd : (x == ("__debug__" : Str)) = false := by decide) : wpAny (model X.prog X.w) X.A (eval (.Name x pos) X.env) Q E s := by
  obtain ⟨mb, h1, h2⟩ := I.mod.blt
  exact Calls.Name_function_global I.ok.kind hg (Calls.loadGlobal_builtin (by rw [I.ok.glob]; exact I.mod.glob.keeps I.bk) hm (by rw [I.ok.blt]; exact h1.keeps I.bk) ((h2 x hn).trans hv) h) hd
theorem pe_glob {x : Str} {v : V} {u : Value} {pos : Pos} (hg : Gl X x) (hm : X.mg x = some u) (r : RelV v u) (hd : (x == ("__debug__" : Str)) = false := by decide) : PE X (.Name x pos) (tC v) :=
  fun _ _ _ H _ I h => ld_glob I hg hm ⟨v, H, I, r, h⟩ hd
variable {a b : Expr} {ta tb : TE} {pos : Pos}
variable {tA tB' : TT} {rest : List Expr}
def tAnd (t u : TT) : TT := fun σ H Q => t σ H fun c H1 => if c = true then u σ H1 Q else Q false H1
def tOr (t u : TT) : TT := fun σ H Q => t σ H fun c H1 => if c = true then Q true H1 else u σ H1 Q
def tNot (t : TT) : TT := fun σ H Q => t σ H fun c H1 => Q (!c) H1
theorem pw_and1 (ha : PT X a tA) : PW X (.BoolOp .And [a] pos) tA := by
  intro wh pins s σ H Q I h
  refine isTrue_and (thn (ha pins s σ H Q I h) fun c s1 e => ?_)
  cases c with
  | true => exact isTrue_and_nil e
  | false => exact e
theorem pw_or1 (ha : PT X a tA) : PW X (.BoolOp .Or [a] pos) tA := by
  intro wh pins s σ H Q I h
  refine isTrue_or (thn (ha pins s σ H Q I h) fun c s1 e => ?_)
  cases c with
  | false => exact isTrue_or_nil e
  | true => exact e
theorem pw_and (ha : PT X a tA) (hb : PW X (.BoolOp .And (b :: rest) pos) tB') : PW X (.BoolOp .And (a :: b :: rest) pos) (tAnd tA tB') := by
  intro wh pins s σ H Q I h
  refine isTrue_and (thn (ha pins s σ H _ I h) fun c s1 ⟨H1, I1, q1⟩ => ?_)
  cases c with
  | true => exact hb wh pins s1 σ H1 Q I1 q1
  | false => exact ⟨H1, I1, q1⟩
theorem pw_or (ha : PT X a tA) (hb : PW X (.BoolOp .Or (b :: rest) pos) tB') : PW X (.BoolOp .Or (a :: b :: rest) pos) (tOr tA tB') := by
  intro wh pins s σ H Q I h
  refine isTrue_or (thn (ha pins s σ H _ I h) fun c s1 ⟨H1, I1, q1⟩ => ?_)
  cases c with
  | true => exact ⟨H1, I1, q1⟩
  | false => exact hb wh pins s1 σ H1 Q I1 q1
theorem pt_not (ha : PT X a tA) : PT X (.UnaryOp .Not a pos) (tNot tA) := by
  intro pins s σ H Q I h
  exact isTrue_not (ha pins s σ H (fun c H1 => Q (!c) H1) I h)
def tAndV (ta tb : TE) : TE := fun σ H Q => ta σ H fun x H1 => ∃ c, x = .bl c ∧ if c = true then tb σ H1 Q else Q (.bl false) H1
def tOrV (ta tb : TE) : TE := fun σ H Q => ta σ H fun x H1 => ∃ c, x = .bl c ∧ if c = true then Q (.bl true) H1 else tb σ H1 Q
theorem pe_one {op} {t : TE} (h : PE X a t) : PE X (.BoolOp op [a] pos) t := fun pins s σ H Q I hw => BoolOp_one (h pins s σ H Q I hw)
theorem pe_and (ha : PE X a ta) (hb : PE X (.BoolOp .And (b :: rest) pos) tb) : PE X (.BoolOp .And (a :: b :: rest) pos) (tAndV ta tb) := by
  intro pins s σ H Q I h
  refine BoolOp_and (thn (ha pins s σ H _ I h) fun v s1 ⟨x, H1, I1, r1, q1⟩ => ?_)
  obtain ⟨c, rfl, q1⟩ := q1
  cases r1
  refine wpAny_truthy_bool ?_
  cases c with
  | true => exact hb pins s1 σ H1 Q I1 q1
  | false => exact ⟨.bl false, H1, I1, rfl, q1⟩
theorem pe_or (ha : PE X a ta) (hb : PE X (.BoolOp .Or (b :: rest) pos) tb) : PE X (.BoolOp .Or (a :: b :: rest) pos) (tOrV ta tb) := by
  intro pins s σ H Q I h
  refine BoolOp_or (thn (ha pins s σ H _ I h) fun v s1 ⟨x, H1, I1, r1, q1⟩ => ?_)
  obtain ⟨c, rfl, q1⟩ := q1
  cases r1
  refine wpAny_truthy_bool ?_
  cases c with
  | false => exact hb pins s1 σ H1 Q I1 q1
  | true => exact ⟨.bl true, H1, I1, rfl, q1⟩
end
end L2

namespace L2
open PySem PySem.Spec PyProof.Rows

def SqL (K : PySem.W.Frag) (H : Hp) (a : Addr) (xs : List V) : Prop :=
  Rd H a (.lst xs) ∨
    ∃ (o : Obj) (its : Array Value) (n : Nat), K.lookup a = some o ∧ o.cls = .type "list" ∧ o.dict = none ∧ o.data = .seq its n ∧ its.size ≤ sizeLine ∧ Vals xs its.toList
def SqT (K : PySem.W.Frag) (H : Hp) (a : Addr) (xs : List V) : Prop :=
  Rd H a (.tup xs) ∨
    ∃ (o : Obj) (its : Array Value) (n : Nat), K.lookup a = some o ∧ o.cls = .type "tuple" ∧ o.data = .seq its n ∧ its.size ≤ sizeLine ∧ Vals xs its.toList
def absV : Value → Option V
  | .none => some .non
  | .bool b => some (.bl b)
  | .int i _ => some (.int i)
  | .str x _ => some (.str x)
  | .bytes b _ => some (.byt b)
  | .float b _ => some (.flt b)
  | .ref a => some (.ref a)
  | .type n => some (.ty n)
  | _ => none
theorem RelV.abs {x : V} {u : Value} (r : RelV x u) : absV u = some x := by
  cases x with
  | non => cases r; rfl
  | bl _ => cases r; rfl
  | int _ => obtain ⟨t, rfl⟩ := r; rfl
  | str _ => obtain ⟨t, rfl⟩ := r; rfl
  | byt _ => obtain ⟨t, rfl⟩ := r; rfl
  | flt _ => obtain ⟨t, rfl⟩ := r; rfl
  | ref _ => cases r; rfl
  | ty _ => cases r; rfl
theorem RelV.inj {x y : V} {u : Value} (r : RelV x u) (q : RelV y u) : x = y := Option.some.inj (r.abs.symm.trans q.abs)
theorem Vals.inj : ∀ {xs ys : List V} {us : List Value}, Vals xs us → Vals ys us → xs = ys
  | _, _, _, .nil, .nil => rfl
  | _, _, _, .cons r t, .cons r' t' => by rw [r.inj r', Vals.inj t t']
section
variable {X : Cx} {pins : List (Addr × Obj)} {σ : St} {H : Hp} {s : Shared} {a : Addr} {xs ys : List V}
theorem SqL.of {K : PySem.W.Frag} (h : H a = some (.lst xs)) : SqL K H a xs := .inl (.inl h)
theorem SqT.of {K : PySem.W.Frag} (h : H a = some (.tup xs)) : SqT K H a xs := .inl (.inl h)
theorem Inv.list (I : Inv X pins σ H s) (h : SqL X.K H a xs) : ∃ its : List Value, Vals xs its ∧ PlainL s.heap a its.toArray ∧ xs.length ≤ sizeLine := by
  rcases h with h | ⟨o, its, n, hk, hc, hd, hs, hz, r⟩
  · obtain ⟨z, its, n, r, e⟩ := h.ok I.hok
    exact ⟨its, r, ⟨_, n, e, rfl, rfl, rfl⟩, z⟩
  · refine ⟨its.toList, r, ⟨o, n, I.kIn a o hk, hc, hd, by simpa using hs⟩, ?_⟩
    have e := r.length
    simp only [Array.length_toList] at e
    omega
theorem Inv.tuple (I : Inv X pins σ H s) (h : SqT X.K H a xs) : ∃ its : List Value, Vals xs its ∧ IsTup s.heap a its.toArray ∧ xs.length ≤ sizeLine := by
  rcases h with h | ⟨o, its, n, hk, hc, hs, hz, r⟩
  · obtain ⟨z, its, r, p⟩ := h.ok I.hok
    exact ⟨its, r, p, z⟩
  · refine ⟨its.toList, r, ⟨o, I.kIn a o hk, hc, n, by simpa using hs⟩, ?_⟩
    have e := r.length
    simp only [Array.length_toList] at e
    omega
theorem Inv.list_inj (I : Inv X pins σ H s) (h : SqL X.K H a xs) (h' : SqL X.K H a ys) : xs = ys := by
  obtain ⟨its, r, ⟨o, n, e, _, _, d⟩, _⟩ := I.list h
  obtain ⟨its', r', ⟨o', n', e', _, _, d'⟩, _⟩ := I.list h'
  rw [e] at e'; cases e'
  rw [d] at d'
  injection d' with d1 _
  have : its = its' := by simpa using congrArg Array.toList d1
  subst this
  exact r.inj r'
end

abbrev Cx.wish (X : Cx) (E : Value → Shared → Prop) : Cx := { X with xe := E }
abbrev Cx.nox (X : Cx) : Cx := X.wish fun _ _ => False
theorem Cx.Ok.wish {X : Cx} (ok : X.Ok) (E : Value → Shared → Prop) : (X.wish E).Ok :=
  ⟨ok.mod, ok.kind, ok.glob, ok.blt, ok.above, ok.inj, ok.has, ok.cab, ok.hd, ok.frames, ok.stk, ok.exf, ok.bs, ok.bsz, ok.noex, ok.exfs, ok.funs, ok.frf⟩
theorem Cx.Ok.unwish {X : Cx} {E : Value → Shared → Prop} (ok : (X.wish E).Ok) : X.Ok :=
  ⟨ok.mod, ok.kind, ok.glob, ok.blt, ok.above, ok.inj, ok.has, ok.cab, ok.hd, ok.frames, ok.stk, ok.exf, ok.bs, ok.bsz, ok.noex, ok.exfs, ok.funs, ok.frf⟩
section
variable {X : Cx} {pins : List (Addr × Obj)} {σ : St} {H : Hp} {s : Shared} {E : Value → Shared → Prop}
theorem Inv.wish (I : Inv X pins σ H s) (E : Value → Shared → Prop) : Inv (X.wish E) pins σ H s := ⟨I.ok.wish E, I.os, I.bare, I.base, I.loc, I.cell, I.free, I.freeC, I.pin, I.hok, I.len⟩
theorem Inv.unwish (I : Inv (X.wish E) pins σ H s) : Inv X pins σ H s := ⟨I.ok.unwish, I.os, I.bare, I.base, I.loc, I.cell, I.free, I.freeC, I.pin, I.hok, I.len⟩
theorem SP.unwish {D : Ends} {f : Flow} {s' : Shared} (h : SP (X.wish E) pins D f s') : SP X pins D f s' := by
  cases f with
  | next => obtain ⟨σ', H', I, q⟩ := h; exact ⟨σ', H', I.unwish, q⟩
  | brk => obtain ⟨σ', H', I, q⟩ := h; exact ⟨σ', H', I.unwish, q⟩
  | cont => obtain ⟨σ', H', I, q⟩ := h; exact ⟨σ', H', I.unwish, q⟩
  | ret u => obtain ⟨v, σ', H', I, r, q⟩ := h; exact ⟨v, σ', H', I.unwish, r, q⟩
theorem PSs.nox {st : List Stmt} {t : TS} (h : PSs X.nox st t) : PSs X st t := fun pins s σ H D I hw =>
  wpAny_mono (h pins s σ H D (I.wish _) hw) (fun _ _ q => q.unwish) fun _ _ z => False.elim z
end

section
variable {X : Cx} {st : Stmt} {rest : List Stmt} {t u : TS} {e : Expr} {te : TE} {pos : Pos}
def tNext : TS := fun D σ H => D.nx σ H
def tSeq (t u : TS) : TS := fun D σ H => t { D with nx := u D } σ H
theorem pss_nil : PSs X [] tNext := fun _ _ σ H _ I h => wpAny_execs_nil ⟨σ, H, I, h⟩
theorem pss_cons (h1 : PS X st t) (h2 : PSs X rest u) : PSs X (st :: rest) (tSeq t u) := by
  intro pins s σ H D I h
  refine wpAny_execs_cons (thn (h1 pins s σ H { D with nx := u D } I h) fun f s1 q => ?_)
  cases f with
  | next =>
    obtain ⟨σ', H', I', q⟩ := q
    exact h2 pins s1 σ' H' D I' q
  | ret v => exact q
  | brk => exact q
  | cont => exact q
theorem pss_one (h1 : PS X st t) : PSs X [st] t := by
  intro pins s σ H D I h
  refine wpAny_execs_cons (thn (h1 pins s σ H D I h) fun f s1 q => ?_)
  cases f with
  | next => exact wpAny_execs_nil q
  | ret v => exact q
  | brk => exact q
  | cont => exact q
theorem Inv.quiet {pins : List (Addr × Obj)} {σ : St} {H : Hp} {s : Shared} (I : Inv X pins σ H s) : interactive X.env = false := by simp [interactive, I.ok.kind]
def tDrop (te : TE) : TS := fun D σ H => te σ H fun _ H1 => D.nx σ H1
theorem ps_expr (he : PE X e te) (hs : swapsWith e none pos.line X.env = pure false := by rfl) : PS X (.Expr e pos) (tDrop te) := by
  intro pins s σ H D I h
  exact wpAny_Expr_any (thn (he pins s σ H _ I h) fun v s1 ⟨x, H1, I1, r1, q1⟩ => ⟨σ, H1, I1, q1⟩) I.quiet hs
def tRet (te : TE) : TS := fun D σ H => te σ H D.rt
theorem ps_ret (he : PE X e te) : PS X (.Return (some e) pos) (tRet te) := by
  intro pins s σ H D I h
  exact wpAny_Return_some (thn (he pins s σ H _ I h) fun v s1 ⟨x, H1, I1, r1, q1⟩ => ⟨x, σ, H1, I1, r1, q1⟩)
def tIfS (c : TT) (t u : TS) : TS := fun D σ H => c σ H fun b H1 => if b = true then t D σ H1 else u D σ H1
theorem ps_if {c : Expr} {a b : List Stmt} {tc : TT} (hc : PT X c tc) (ha : PSs X a t) (hb : PSs X b u) : PS X (.If c a b pos) (tIfS tc t u) := by
  intro pins s σ H D I h
  refine wpAny_If (thn (hc pins s σ H _ I h) fun d s1 ⟨H1, I1, q1⟩ => ?_)
  cases d with
  | true => exact ha pins s1 σ H1 D I1 q1
  | false => exact hb pins s1 σ H1 D I1 q1
end

abbrev TG := V → St → Hp → (St → Hp → Prop) → Prop
abbrev TGs := List V → St → Hp → (St → Hp → Prop) → Prop
def PG (X : Cx) (target : Expr) (t : TG) : Prop :=
  ∀ (pins : List (Addr × Obj)) (s : Shared) (σ : St) (H : Hp) (v : V) (u : Value) (Q : St → Hp → Prop), Inv X pins σ H s → RelV v u → t v σ H Q →
    wpAny (model X.prog X.w) X.A (assign target X.env u) (fun _ s' => ∃ σ' H', Inv X pins σ' H' s' ∧ Q σ' H') X.xe s
def PGs (X : Cx) (ts : List Expr) (t : TGs) : Prop :=
  ∀ (pins : List (Addr × Obj)) (s : Shared) (σ : St) (H : Hp) (vs : List V) (us : List Value) (Q : St → Hp → Prop), Inv X pins σ H s → Vals vs us → t vs σ H Q →
    wpAny (model X.prog X.w) X.A (assignInOrder ((assignEach ts X.env).map (·.2)) us) (fun _ s' => ∃ σ' H', Inv X pins σ' H' s' ∧ Q σ' H') X.xe s
abbrev TSet := V → V → V → Hp → (Hp → Prop) → Prop
def PSet (X : Cx) (t : TSet) : Prop :=
  ∀ (pins : List (Addr × Obj)) (s : Shared) (σ : St) (H : Hp) (o i v : V) (ov iv u : Value) (Q : Hp → Prop), Inv X pins σ H s → RelV o ov → RelV i iv → RelV v u → t o i v H Q →
    wpAny (model X.prog X.w) X.A (setItem ov iv u) (fun _ s' => ∃ H', Inv X pins σ H' s' ∧ Q H') X.xe s
abbrev TIp := V → V → Hp → VK → Prop
def PIp (X : Cx) (op : Operator) (t : TIp) : Prop :=
  ∀ (pins : List (Addr × Obj)) (s : Shared) (σ : St) (H : Hp) (x y : V) (v u : Value) (Q : VK), Inv X pins σ H s → RelV x v → RelV y u → t x y H Q →
    wpAny (model X.prog X.w) X.A (inplaceOp op v u) (EP X pins σ Q) X.xe s
section
variable {X : Cx} {pos : Pos}
def gName (i : Nat) : TG := fun v σ H Q => Q (σ.set i (some v)) H
theorem pg_name {i : Nat} {x : Str} (hN : X.N.Nodup) (hi : X.N[i]? = some x) (hx : Loc X.env.scope x) (hf : X.fn x = true ∨ X.env.scope.names.lookup x = some .local := by first | exact .inl rfl | exact .inr rfl | assumption) : PG X (.Name x pos) (gName i) := by
  intro pins s σ H v u Q I r h
  exact wpAny_assign_Name (store_ok I hN hi hx r (fun s' I' => ⟨_, H, I', h⟩) hf)
def gNil : TGs := fun vs σ H Q => vs = [] ∧ Q σ H
def gCons (t : TG) (u : TGs) : TGs := fun vs σ H Q => ∃ v r, vs = v :: r ∧ t v σ H fun σ' H' => u r σ' H' Q
theorem pgs_nil : PGs X [] gNil := by
  intro pins s σ H vs us Q I r h
  obtain ⟨e, h⟩ := h
  subst e
  cases r
  exact assignInOrder_nil ⟨σ, H, I, h⟩
theorem pgs_cons {e : Expr} {es : List Expr} {t : TG} {u : TGs} (h1 : PG X e t) (h2 : PGs X es u)
    (hs : (assignEach (e :: es) X.env).map (·.2) = assign e X.env :: (assignEach es X.env).map (·.2) := by rfl) : PGs X (e :: es) (gCons t u) := by
  intro pins s σ H vs us Q I r h
  obtain ⟨v, vr, e1, h⟩ := h
  subst e1
  cases r with
  | cons r rr =>
    rw [hs]
    refine assignInOrder_cons (thn (h1 pins s σ H _ _ _ I r h) fun _ s1 ⟨σ1, H1, I1, q1⟩ => ?_)
    exact h2 pins s1 σ1 H1 _ _ Q I1 rr q1
def gTup (K : PySem.W.Frag) (n : Nat) (t : TGs) : TG := fun v σ H Q => ∃ a xs, v = .ref a ∧ SqT K H a xs ∧ xs.length = n ∧ t xs σ H Q
theorem pg_tup {es : List Expr} {k : Nat} {t : TGs} {n : Nat} (hc : X.calm = true) (h : PGs X es t)
    (hn : (assignEach es X.env).length = n := by rfl) (hst : (assignEach es X.env).findIdx? (·.1) = none := by rfl) : PG X (.Tuple es k pos) (gTup X.K n t) := by
  intro pins s σ H v u Q I r hw
  obtain ⟨a, xs, e1, hq, hl, hw⟩ := hw
  subst e1
  cases r
  obtain ⟨its, rv, ht, hz⟩ := I.tuple hq
  refine assign_Tuple_tuple (I.ok.hd hc) ht (by simp [hn, ← hl, rv.length]) hst fun h' hx => ?_
  have I1 : Inv X pins σ H { s with heap := h' } := I.kept (t' := s.toks) fun b o e => hx b o (Nat.ne_of_lt (Heap.lt_size e)) e
  exact h pins _ σ H xs _ Q I1 (by simpa using rv) hw
def gSub (to ti : TE) (t : TSet) : TG := fun v σ H Q => to σ H fun o H1 => ti σ H1 fun i H2 => t o i v H2 fun H3 => Q σ H3
theorem pg_sub {o i : Expr} {to ti : TE} {t : TSet} (ho : PE X o to) (hi : PE X i ti) (hs : PSet X t)
    (ha : ∀ v, assign (.Subscript o i pos) X.env v = (do
      let ov ← holding [v] (eval o X.env)
      let iv ← holding [v, ov] (eval i X.env)
      standAt pos
      holding [v, ov, iv] (setItem ov iv v)
      release [v, ov, iv] []) := by intro _; rfl) : PG X (.Subscript o i pos) (gSub to ti t) := by
  intro pins s σ H v u Q I r h
  rw [ha]
  refine wpAny_bind (wpAny_holding (thn (ho pins s σ H _ I h) fun ov s1 ⟨x, H1, I1, r1, q1⟩ => ?_))
  refine wpAny_bind (wpAny_holding (thn (hi pins s1 σ H1 _ I1 q1) fun iv s2 ⟨y, H2, I2, r2, q2⟩ => ?_))
  refine wpAny_bind (wpAny_standAt (wpAny_bind (wpAny_holding (thn (hs pins s2 σ H2 x y v ov iv u _ I2 r1 r2 r q2) fun _ s3 ⟨H3, I3, q3⟩ => ?_))))
  exact wpAny_release ⟨σ, H3, I3, q3⟩
def tAsg (te : TE) (g : TG) : TS := fun D σ H => te σ H fun x H1 => g x σ H1 D.nx
theorem ps_asg {tg e : Expr} {te : TE} {g : TG} (he : PE X e te) (hg : PG X tg g) (hs : swapsWithSole [tg] e pos.line X.env = pure false := by rfl) (hw : swappedStores [tg] e X.env = pure none := by rfl)
    (h1 : (assignEach [tg] X.env).map (·.2) = [assign tg X.env] := by rfl) : PS X (.Assign [tg] e pos) (tAsg te g) := by
  intro pins s σ H D I h
  refine wpAny_Assign_stores (thn (he pins s σ H _ I h) fun v s1 ⟨x, H1, I1, r1, q1⟩ => ?_) hs hw
  rw [h1]
  exact thn (hg pins s1 σ H1 x v _ I1 r1 q1) fun _ s2 q => q
theorem ps_set {i : Nat} {x : Str} {e : Expr} {te : TE} {pos' : Pos} (hN : X.N.Nodup) (hi : X.N[i]? = some x) (hx : Loc X.env.scope x) (he : PE X e te) (hs : swapsWith e (some (.Name x pos')) pos.line X.env = pure false := by rfl) (hf : X.fn x = true ∨ X.env.scope.names.lookup x = some .local := by first | exact .inl rfl | exact .inr rfl | assumption) :
    PS X (.Assign [.Name x pos'] e pos) (tAsg te (gName i)) := by
  intro pins s σ H D I h
  refine wpAny_Assign_Name (thn (he pins s σ H _ I h) fun v s1 ⟨y, H1, I1, r1, q1⟩ => ?_) hs
  exact store_ok I1 hN hi hx r1 (fun s2 I2 => ⟨_, H1, I2, q1⟩) hf
def tAug (i : Nat) (te : TE) (ti : TIp) : TS := fun D σ H => ∃ x, σ[i]? = some (some x) ∧ te σ H fun y H1 => ti x y H1 fun z H2 => D.nx (σ.set i (some z)) H2
theorem ps_aug {i : Nat} {x : Str} {e : Expr} {te : TE} {op : Operator} {ti : TIp} {pos' : Pos} (hN : X.N.Nodup) (hi : X.N[i]? = some x) (hx : Loc X.env.scope x) (he : PE X e te) (ho : PIp X op ti) (hf : X.fn x = true ∨ X.env.scope.names.lookup x = some .local := by first | exact .inl rfl | exact .inr rfl | assumption) :
    PS X (.AugAssign (.Name x pos') op e pos) (tAug i te ti) := by
  intro pins s σ H D I h
  obtain ⟨v, e1, h⟩ := h
  obtain ⟨m, hn, hl⟩ := I.loc
  have vis : Vis X.env.scope x := by rcases hx with k | k; exact .inl k; exact .inr (.inl k)
  obtain ⟨u, r, l⟩ := hl i x v hi e1 vis
  refine wpAny_AugAssign_Name ?_
  have go : wpAny (model X.prog X.w) X.A (eval e X.env) (fun w s₂ => wpAny (model X.prog X.w) X.A (inplaceOp op u w) (fun r s₃ => wpAny (model X.prog X.w) X.A (storeName X.env x r) (fun _ => SP X pins D .next) X.xe s₃) X.xe s₂) X.xe s := by
    refine thn (he pins s σ H _ I h) fun w s1 ⟨y, H1, I1, r1, q1⟩ => ?_
    refine thn (ho pins s1 σ H1 v y u w _ I1 r r1 q1) fun z s2 ⟨zv, H2, I2, r2, q2⟩ => ?_
    exact store_ok I2 hN hi hx r2 (fun s3 I3 => ⟨_, H2, I3, q2⟩) hf
  rcases l with ⟨hk, hm⟩ | ⟨hk, c, hc, hcell⟩
  · exact wpAny_loadName_local I.ok.kind hk hn hm go
  · rcases hk with hk | hk
    · exact wpAny_loadName_cell I.ok.kind hk hc hcell go
    · rcases hx with k | k
      · have : X.env.scope.names.lookup x = some .free := hk
        rw [k] at this; cases this
      · have : X.env.scope.names.lookup x = some .free := hk
        rw [k] at this; cases this
def ipI (f : Int → Int → Int) : TIp := fun x y H Q => ∃ i j, x = .int i ∧ y = .int j ∧ Q (.int (f i j)) H
theorem ip_add : PIp X .Add (ipI fun i j => i + j) := by
  intro pins s σ H x y v u Q I r1 r2 h
  obtain ⟨i, j, e1, e2, q⟩ := h
  subst e1; subst e2
  obtain ⟨t, rfl⟩ := r1
  obtain ⟨t', rfl⟩ := r2
  exact iadd_int ⟨.int _, H, I.tok _, ⟨_, rfl⟩, q⟩
end

section
variable {X : Cx} {pos : Pos}
def tWhile (c : TT) (tb : TS) : TS := fun D σ H => ∃ W : Nat → St → Hp → Prop, (∃ m, W m σ H) ∧ ∀ m σ H, W m σ H →
  c σ H fun b H1 => if b = true then ∃ N : St → Hp → Prop, (∀ σ' H', N σ' H' → ∃ m', m' < m ∧ W m' σ' H') ∧ tb { D with nx := N, ct := N, bk := D.nx } σ H1 else D.nx σ H1
theorem ps_while {c : Expr} {body : List Stmt} {tc : TT} {tb : TS} (hp : PassesOwn (model X.prog X.w) X.A X.env X.xe) (hc : PT X c tc) (hb : PSs X body tb) : PS X (.While c body [] pos) (tWhile tc tb) := by
  intro pins s σ H D I h
  obtain ⟨W, ⟨m0, w0⟩, turn⟩ := h
  refine wpAny_While (codeAny_whileLoop (fun n s' => ∃ σ' H', Inv X pins σ' H' s' ∧ W n σ' H') ?_ m0 ⟨σ, H, I, w0⟩)
  rintro n s1 ⟨σ1, H1, I1, w1⟩
  refine wpAny_passesOwn hp (thn (hc pins s1 σ1 H1 _ I1 (turn n σ1 H1 w1)) fun b s2 ⟨H2, I2, q2⟩ => ?_)
  cases b with
  | true =>
    obtain ⟨N, hN, q2⟩ := q2
    rw [if_pos rfl]
    refine wpAny_passesOwn hp (thn (hb pins s2 σ1 H2 _ I2 q2) fun f s3 q3 => ?_)
    cases f with
    | next =>
      obtain ⟨σ3, H3, I3, n3⟩ := q3
      obtain ⟨m', hm, w3⟩ := hN σ3 H3 n3
      exact ⟨m', hm, σ3, H3, I3, w3⟩
    | cont =>
      obtain ⟨σ3, H3, I3, n3⟩ := q3
      obtain ⟨m', hm, w3⟩ := hN σ3 H3 n3
      exact ⟨m', hm, σ3, H3, I3, w3⟩
    | brk => exact q3
    | ret v => exact q3
  | false =>
    rw [if_neg Bool.false_ne_true]
    exact wpAny_execs_nil ⟨σ1, H2, I2, q2⟩
end

structure It where
  go : Nat → Hp → Prop
  yld : Nat → Hp → V → Hp → Prop
  stop : Nat → Hp → Prop
def FpOk (X : Cx) (pins : List (Addr × Obj)) (H : Hp) (b : Addr) : Prop :=
  H b = none ∧ b ≠ X.env.locals ∧ b ∉ X.fs ∧ (b ∈ X.ex ∨ X.s_0.heap.objs.size ≤ b) ∧ (∀ x c, X.env.cells.lookup x = some c → c ≠ b) ∧ ∀ p ∈ X.pn ++ pins, p.1 ≠ b
theorem Inv.fpOk {X : Cx} {pins : List (Addr × Obj)} {σ : St} {H H' : Hp} {s : Shared} {b : Addr} (I : Inv X pins σ H s) (hb : s.heap.objs.size ≤ b) (hn : H' b = none) : FpOk X pins H' b := by
  refine ⟨hn, Nat.ne_of_gt (Nat.lt_of_lt_of_le I.lt hb), I.nofs hb, .inr (Nat.le_trans I.sz hb), fun x c e z => ?_, fun p hp z => ?_⟩
  · obtain ⟨v, q⟩ := I.cell x c e
    exact absurd (Nat.lt_of_lt_of_le q.lt (by rw [z]; exact hb)) (Nat.lt_irrefl _)
  · exact absurd (Nat.lt_of_lt_of_le (Heap.lt_size (I.pin p hp).1) (by rw [z]; exact hb)) (Nat.lt_irrefl _)
structure Turn (P : Program) (w : World) (K : PySem.W.Frag) (tg : Expr) (J : It) (fp : List Addr) (it : Addr) (tn : Nat → Heap → Prop) : Prop where
  mem : it ∈ fp
  obj : ∀ i h, tn i h → ∀ b ∈ fp, ∃ o, h.get? b = some o ∧ ∀ v, o.data ≠ .cell v
  keep : ∀ i h h', tn i h → (∀ b ∈ fp, ∀ o, h.get? b = some o → h'.get? b = some o) → tn i h'
  item : ∀ (X : Cx), X.prog = P → X.w = w → X.K = K → X.calm = true → ∀ (i : Nat) (pins : List (Addr × Obj)) (s : Shared) (σ : St) (H : Hp) (E : Value → Shared → Prop), Inv X pins σ H s → (∀ b ∈ fp, FpOk X pins H b) → tn i s.heap → J.go i H →
    wpAny (model P w) X.A (pyNext (.ref it)) (fun r s1 => ∃ u, r = some u ∧
      wpAny (model P w) X.A (letOwnedTupleGo tg (.ref it) u) (fun _ s2 => ∃ x H', Inv X pins σ H' s2 ∧ RelV x u ∧ J.yld i H x H' ∧ tn (i + 1) s2.heap ∧ ∀ b ∈ fp, H' b = none) E s1) E s
  done : ∀ (X : Cx), X.prog = P → X.w = w → X.K = K → X.calm = true → ∀ (i : Nat) (pins : List (Addr × Obj)) (s : Shared) (σ : St) (H : Hp) (E : Value → Shared → Prop), Inv X pins σ H s → (∀ b ∈ fp, FpOk X pins H b) → tn i s.heap → J.stop i H →
    wpAny (model P w) X.A (pyNext (.ref it)) (fun r s1 => r = none ∧ Inv X pins σ H s1) E s
  self : ∀ (A : Around) (i : Nat) (s : Shared) (Q : Value → Shared → Prop) (E : Value → Shared → Prop), tn i s.heap → Q (.ref it) s → wpAny (model P w) A (pyIter (.ref it)) Q E s
abbrev TI := St → Hp → (It → Hp → Prop) → Prop
def PIE (X : Cx) (pins : List (Addr × Obj)) (σ : St) (tg : Expr) (R : It → Hp → Prop) (itv : Value) (s2 : Shared) : Prop :=
  ∃ (it : Addr) (fp : List Addr) (tn : Nat → Heap → Prop) (J : It) (H' : Hp), itv = .ref it ∧ Inv X pins σ H' s2 ∧ Turn X.prog X.w X.K tg J fp it tn ∧ tn 0 s2.heap ∧ (∀ b ∈ fp, FpOk X pins H' b) ∧ R J H'
def PI (X : Cx) (tg iter : Expr) (wi : TI) : Prop :=
  ∀ (pins : List (Addr × Obj)) (s : Shared) (σ : St) (H : Hp) (R : It → Hp → Prop), Inv X pins σ H s → wi σ H R →
    wpAny (model X.prog X.w) X.A (eval iter X.env) (fun v s1 => wpAny (model X.prog X.w) X.A (pyIter v) (PIE X pins σ tg R) X.xe s1) X.xe s

theorem go_of {M : Model} {A : Around} {E : Value → Shared → Prop} {s : Shared} {tg : Expr} {it : Addr} {u : Value} {o : Obj} {n : String} {vs : Array Value} {Q : Unit → Shared → Prop} (ho : s.heap.get? it = some o) (hc : o.cls = .type n) (hd : o.data = .fields vs)
    (hn : ["enumerate", "zip", "dict_itemiterator", "dict_reverseitemiterator", "odict_iterator", "itertools.zip_longest", "itertools.pairwise"].contains n = false) (hQ : Q () s) : wpAny M A (letOwnedTupleGo tg (.ref it) u) Q E s := by
  unfold letOwnedTupleGo
  cases tg <;> first
    | exact wpAny_pure hQ
    | (cases u <;> first
        | exact wpAny_pure hQ
        | (refine wpAny_bind (wpAny_load ho ?_)
           rw [hc, hd]
           show wpAny M A (if (["enumerate", "zip", "dict_itemiterator", "dict_reverseitemiterator", "odict_iterator", "itertools.zip_longest", "itertools.pairwise"].contains n && vs[0]? == some (rawInt _)) = true then _ else _) Q E s
           rw [if_neg (by intro h; rw [hn, Bool.false_and] at h; cases h)]
           exact wpAny_pure hQ))

def Itl (K : PySem.W.Frag) (a : Addr) : It :=
  ⟨fun i H => ∃ xs x, SqL K H a xs ∧ xs[i]? = some x, fun i H x H' => H' = H ∧ ∀ xs, SqL K H a xs → xs[i]? = some x, fun i H => ∃ xs, SqL K H a xs ∧ xs.length ≤ i⟩
def Itr (lo : Int) (n : Nat) : It := ⟨fun i _ => i < n, fun i H x H' => H' = H ∧ x = .int (lo + i), fun i _ => n ≤ i⟩
theorem turn_list {P : Program} {w : World} {K : PySem.W.Frag} {tg : Expr} (a it : Addr) : Turn P w K tg (Itl K a) [it] it (fun i h => h.IsListIter it a i) where
  mem := by simp
  obj := fun i h st b hb => by
    have e : b = it := by simpa using hb
    subst e
    obtain ⟨o, e, c, d⟩ := st
    exact ⟨o, e, fun v z => by rw [d] at z; cases z⟩
  keep := fun i h h' st k => st.at fun o e => k it (by simp) o e
  item := by
    intro X hP hw hK hc i pins s σ H E I hf st hg
    subst hP hw hK
    obtain ⟨xs, x, hq, hx⟩ := hg
    obtain ⟨its, rv, p, hz⟩ := I.list hq
    obtain ⟨u, hu, ru⟩ := rv.get hx
    obtain ⟨f0, f1, f2, f3, f4, f5⟩ := hf it (by simp)
    refine wpAny_pyNext_list_item st p.isList (x := u) (by simpa using hu) fun h' st' sb => ?_
    have I1 : Inv X pins σ H { s with heap := h' } := I.turned (t' := s.toks) (fun b o hb e => (sb.2 b hb).trans e) f0 f1 f3 f4 f5
    obtain ⟨o, e, c, d⟩ := id st'
    exact ⟨u, rfl, go_of (s := { s with heap := h' }) e c d (by decide) ⟨x, H, I1, ru, ⟨rfl, fun ys hy => by rw [I.list_inj hy hq]; exact hx⟩, st', fun b hb => (hf b hb).1⟩⟩
  done := by
    intro X hP hw hK hc i pins s σ H E I hf st hg
    subst hP hw hK
    obtain ⟨xs, hq, hx⟩ := hg
    obtain ⟨its, rv, p, hz⟩ := I.list hq
    obtain ⟨f0, f1, f2, f3, f4, f5⟩ := hf it (by simp)
    have hl := rv.length
    exact wpAny_pyNext_list_end (I.ok.hd hc) st p.isList (by simp; omega) fun h' eb => ⟨rfl, I.turned (t' := s.toks) (fun b o hb e => eb b o hb e) f0 f1 f3 f4 f5⟩
  self := fun _ _ _ _ _ st h => wpAny_pyIter_listiter st h
theorem turn_range {P : Program} {w : World} {K : PySem.W.Frag} {tg : Expr} (it : Addr) (lo : Int) (n : Nat) : Turn P w K tg (Itr lo n) [it] it (fun i h => IsRangeIter h it (lo + (i : Nat) * 1) ((n : Int) - (i : Nat)) 1) where
  mem := by simp
  obj := fun i h st b hb => by
    have e : b = it := by simpa using hb
    subst e
    exact ⟨_, st, fun v z => by
      have z' : Data.fields _ = Data.cell v := z
      cases z'⟩
  keep := fun i h h' st k => k it (by simp) _ st
  item := by
    intro X hP hw hK hc i pins s σ H E I hf st hg
    subst hP hw hK
    obtain ⟨f0, f1, f2, f3, f4, f5⟩ := hf it (by simp)
    have W := Walks.range (prog := X.prog) (w := X.w) (I.ok.hd hc) it lo 1 n
    refine W.item i s _ _ hg st fun v h' tk hv st' kk => ?_
    obtain ⟨t, rfl⟩ := hv
    have I1 : Inv X pins σ H { s with heap := h', toks := tk } := I.turned (fun b o hb e => kk b o (by simpa using hb) e) f0 f1 f3 f4 f5
    refine ⟨_, rfl, go_of (s := { s with heap := h', toks := tk }) (n := "range_iterator") st' rfl rfl (by decide) ⟨.int (lo + i), H, I1, ⟨t, ?_⟩, ⟨rfl, rfl⟩, st', fun b hb => (hf b hb).1⟩⟩
    rw [Int.mul_one]
  done := by
    intro X hP hw hK hc i pins s σ H E I hf st hg
    subst hP hw hK
    obtain ⟨f0, f1, f2, f3, f4, f5⟩ := hf it (by simp)
    exact wpAny_pyNext_range_end (I.ok.hd hc) st (by have : n ≤ i := hg; omega) fun h' eb => ⟨rfl, I.turned (t' := s.toks) (fun b o hb e => eb b o hb e) f0 f1 f3 f4 f5⟩
  self := fun _ _ _ _ _ st h => wpAny_pyIter_rangeiter st h
end L2

namespace L2
open PySem PySem.Spec PyProof.Rows
section
variable {X : Cx} {tg : Expr}
def iList (K : PySem.W.Frag) (tl : TE) : TI := fun σ H R => tl σ H fun x H1 => ∃ a, x = .ref a ∧ (∃ xs, SqL K H1 a xs) ∧ R (Itl K a) H1
theorem pi_list {l : Expr} {tl : TE} (hl : PE X l tl) : PI X tg l (iList X.K tl) := by
  intro pins s σ H R I h
  refine thn (hl pins s σ H _ I h) fun v s1 ⟨x, H1, I1, r1, q1⟩ => ?_
  obtain ⟨a, e, ⟨xs, hq⟩, q⟩ := q1
  subst e
  cases r1
  obtain ⟨its, rv, p, hz⟩ := I1.list hq
  refine wpAny_pyIter_list p.isList ?_
  refine ⟨s1.heap.objs.size, [s1.heap.objs.size], _, _, H1, rfl, I1.kept (t' := s1.toks) fun b o e => Heap.get?_push_of_some _ e, turn_list a _, ⟨_, Heap.get?_push_size _ rfl, rfl, rfl⟩, fun b hb => ?_, q⟩
  have e : b = s1.heap.objs.size := by simpa using hb
  subst e
  exact I1.fpOk (Nat.le_refl _) (I1.hok.fresh (Nat.le_refl _))
theorem range_it {pins : List (Addr × Obj)} {σ : St} {H : Hp} {s : Shared} {R : It → Hp → Prop} {E : Value → Shared → Prop} {lo hi : Int} {t u v : Tok} {tk : Nat} (I : Inv X pins σ H s) (h1 : -(2 ^ 62) ≤ lo) (h2 : lo < 2 ^ 62) (h3 : -(2 ^ 62) ≤ hi) (h4 : hi < 2 ^ 62)
    (q : R (Itr lo (hi - lo).toNat) H) : wpAny (model X.prog X.w) X.A (pyIter (.ref s.heap.objs.size)) (PIE X pins σ tg R) E { s with heap := s.heap.push { cls := .type "range", data := .fields #[.int lo t, .int hi u, .int 1 v] }, toks := tk } := by
  refine wpAny_pyIter_range (IsRange.new ..) (small_one h1 h2 h3 h4) ?_
  have I1 : Inv X pins σ H { s with heap := s.heap.push { cls := .type "range", data := .fields #[.int lo t, .int hi u, .int 1 v] }, toks := tk } := I.kept fun b o e => Heap.get?_push_of_some _ e
  refine ⟨(s.heap.push { cls := .type "range", data := .fields #[.int lo t, .int hi u, .int 1 v] }).objs.size, [(s.heap.push { cls := .type "range", data := .fields #[.int lo t, .int hi u, .int 1 v] }).objs.size], _, _, H, rfl,
    I1.kept (t' := tk) fun b o e => Heap.get?_push_of_some _ e, turn_range _ lo (hi - lo).toNat, ?_, fun b hb => ?_, q⟩
  · have e1 : lo + ((0 : Nat) : Int) * 1 = lo := by simp
    have e2 : (((hi - lo).toNat : Nat) : Int) - ((0 : Nat) : Int) = Builtin.Range.rangeSize lo hi 1 := by rw [rangeSize_one]; split <;> omega
    show IsRangeIter _ _ (lo + ((0 : Nat) : Int) * 1) ((((hi - lo).toNat : Nat) : Int) - ((0 : Nat) : Int)) 1
    rw [e1, e2]
    exact Heap.get?_push_size _ rfl
  · have e : b = (s.heap.push { cls := .type "range", data := .fields #[.int lo t, .int hi u, .int 1 v] }).objs.size := by simpa using hb
    subst e
    exact I1.fpOk (Nat.le_refl _) (I1.hok.fresh (Nat.le_refl _))
def iRng1 (ta : TA) : TI := fun σ H R => ta σ H fun vs H1 => ∃ j : Int, vs = [.int j] ∧ -(2 ^ 62) ≤ j ∧ j < 2 ^ 62 ∧ R (Itr 0 j.toNat) H1
def iRng2 (ta : TA) : TI := fun σ H R => ta σ H fun vs H1 => ∃ i j : Int, vs = [.int i, .int j] ∧ (-(2 ^ 62) ≤ i ∧ i < 2 ^ 62 ∧ -(2 ^ 62) ≤ j ∧ j < 2 ^ 62) ∧ R (Itr i (j - i).toNat) H1
theorem pi_range1 {a : Expr} {ta : TA} {p pos : Pos} (hg : Gl X "range") (hm : X.mg "range" = none) (ha : PA X [a] ta) (hs : starEach [a] X.env = [(false, eval a X.env)] := by rfl) : PI X tg (.Call (.Name "range" p) [a] [] pos) (iRng1 ta) := by
  intro pins s σ H R I h
  refine Call_ (ld_blt I hg hm boot_range (PyProof.Rows.callWith_type1 (thn (ha pos pins s σ H _ I h) fun us s1 ⟨vs, H1, I1, r1, q1⟩ => ?_) hs rfl))
  obtain ⟨j, e, q1, q2, q⟩ := q1
  subst e
  cases r1 with
  | cons r rr =>
    cases rr
    obtain ⟨t, rfl⟩ := r
    exact call_range_1 (range_it I1 (by omega) (by omega) q1 q2 (by simpa using q))
theorem pi_range2 {a b : Expr} {ta : TA} {p pos : Pos} (hg : Gl X "range") (hm : X.mg "range" = none) (ha : PA X [a, b] ta) (hs : starEach [a, b] X.env = [(false, eval a X.env), (false, eval b X.env)] := by rfl) (hs2 : starEach [b] X.env = [(false, eval b X.env)] := by rfl) :
    PI X tg (.Call (.Name "range" p) [a, b] [] pos) (iRng2 ta) := by
  intro pins s σ H R I h
  refine Call_ (ld_blt I hg hm boot_range (PyProof.Rows.callWith_type1 (thn (ha pos pins s σ H _ I h) fun us s1 ⟨vs, H1, I1, r1, q1⟩ => ?_) (by rw [hs, hs2]) (by rw [hs2]; rfl)))
  obtain ⟨i, j, e, ⟨q1, q2, q3, q4⟩, q⟩ := q1
  subst e
  cases r1 with
  | cons r rr =>
    cases rr with
    | cons r' rr =>
      cases rr
      obtain ⟨t, rfl⟩ := r
      obtain ⟨t', rfl⟩ := r'
      exact call_range_2 (range_it I1 q1 q2 q3 q4 q)

def tFor (wi : TI) (g : TG) (tb : TS) : TS := fun D σ H => wi σ H fun J H1 => ∃ W : Nat → Nat → St → Hp → Prop, (∃ m, W 0 m σ H1) ∧ ∀ i m σ H, W i m σ H →
  (J.stop i H ∧ D.nx σ H) ∨ (J.go i H ∧ ∃ N : St → Hp → Prop, (∀ σ' H', N σ' H' → ∃ m', m' < m ∧ W (i + 1) m' σ' H') ∧ ∀ x H', J.yld i H x H' → g x σ H' fun σ2 H2 => tb { D with nx := N, ct := N, bk := D.nx } σ2 H2)
def pinsAt (fp : List Addr) (h : Heap) : List (Addr × Obj) := fp.filterMap fun b => (h.get? b).map fun o => (b, o)
theorem mem_pinsAt {fp : List Addr} {h : Heap} {b : Addr} {o : Obj} (hb : b ∈ fp) (e : h.get? b = some o) : (b, o) ∈ pinsAt fp h := List.mem_filterMap.mpr ⟨b, hb, by rw [e]; rfl⟩
theorem of_pinsAt {fp : List Addr} {h : Heap} {p : Addr × Obj} (hp : p ∈ pinsAt fp h) : p.1 ∈ fp ∧ h.get? p.1 = some p.2 := by
  obtain ⟨b, hb, e⟩ := List.mem_filterMap.mp hp
  cases q : h.get? b with
  | none => rw [q] at e; cases e
  | some o =>
    rw [q] at e
    have e' : (b, o) = p := Option.some.inj e
    subst e'
    exact ⟨hb, q⟩
theorem Inv.pinned {pins : List (Addr × Obj)} {σ : St} {H : Hp} {s : Shared} {fp : List Addr} (I : Inv X pins σ H s) (hf : ∀ b ∈ fp, FpOk X pins H b) (ho : ∀ b ∈ fp, ∃ o, s.heap.get? b = some o ∧ ∀ v, o.data ≠ .cell v) : Inv X (pins ++ pinsAt fp s.heap) σ H s :=
  I.pins_of fun p hp => (List.mem_append.mp hp).elim (fun z => I.pin p (List.mem_append_right _ z)) fun z => by
    obtain ⟨hb, e⟩ := of_pinsAt z
    obtain ⟨f0, f1, f2, _⟩ := hf p.1 hb
    obtain ⟨o, e', d⟩ := ho p.1 hb
    rw [e] at e'; cases e'
    exact ⟨e, f0, f1, f2, d⟩
theorem Inv.unpinned {pins pl : List (Addr × Obj)} {σ : St} {H : Hp} {s : Shared} (I : Inv X (pins ++ pl) σ H s) : Inv X pins σ H s := I.pins_of fun p hp => I.pin p (List.mem_append_right _ (List.mem_append_left _ hp))
theorem ps_for {iter : Expr} {body : List Stmt} {wi : TI} {g : TG} {tb : TS} {pos : Pos} (hp : PassesOwn (model X.prog X.w) X.A X.env X.xe) (hc : X.calm = true) (hi : PI X tg iter wi) (hg : PG X tg g) (hb : PSs X body tb)
    (hs : ∀ x, foldedSetIterable iter X.env x = pure x := by intro _; rfl) : PS X (.For tg iter body [] pos) (tFor wi g tb) := by
  intro pins s σ H D I h
  refine wpAny_For (thn (hi pins s σ H _ I h) fun v s1 h1 => thn h1 fun itv s2 h2 => ?_) hs
  obtain ⟨it, fp, tn, J, H2, e, I2, T, st2, f2, W, ⟨m0, w0⟩, turn⟩ := h2
  subst e
  -- what stays true of the iterator's objects through the loop
  have stat : ∀ {H' : Hp}, (∀ b ∈ fp, H' b = none) → ∀ b ∈ fp, FpOk X pins H' b := fun hn b hb => ⟨hn b hb, (f2 b hb).2⟩
  refine codeAny_forLoop_any (fun n s' => ∃ i σ' H', Inv X pins σ' H' s' ∧ tn i s'.heap ∧ (∀ b ∈ fp, H' b = none) ∧ W i n σ' H') ?_ m0 ⟨0, σ, H2, I2, st2, fun b hb => (f2 b hb).1, w0⟩
  rintro n s3 ⟨i, σ3, H3, I3, st3, fr3, w3⟩
  rcases turn i n σ3 H3 w3 with ⟨stop, qn⟩ | ⟨go, N, hN, step⟩
  · refine wpAny_passesOwn hp (thn (T.done X rfl rfl rfl hc i pins s3 σ3 H3 X.xe I3 (stat fr3) st3 stop) fun r s4 ⟨hr, I4⟩ => ?_)
    subst hr
    exact wpAny_execs_nil ⟨σ3, H3, I4, qn⟩
  · refine wpAny_passesOwn hp (thn (T.item X rfl rfl rfl hc i pins s3 σ3 H3 X.xe I3 (stat fr3) st3 go) fun r s4 ⟨u, hr, h4⟩ => ?_)
    subst hr
    refine wpAny_passesOwn hp (thn h4 fun _ s5 ⟨x, H5, I5, r5, y5, st5, fr5⟩ => ?_)
    have I5' := I5.pinned (stat fr5) (T.obj _ _ st5)
    refine wpAny_passesOwn hp (thn (hg _ s5 σ3 H5 x u _ I5' r5 (step x H5 y5)) fun _ s6 ⟨σ6, H6, I6, q6⟩ => ?_)
    refine wpAny_passesOwn hp (thn (hb _ s6 σ6 H6 _ I6 q6) fun f s7 q7 => ?_)
    have again : ∀ {σ7 : St} {H7 : Hp}, Inv X (pins ++ pinsAt fp s5.heap) σ7 H7 s7 → N σ7 H7 → ∃ m, m < n ∧ ∃ i σ' H', Inv X pins σ' H' s7 ∧ tn i s7.heap ∧ (∀ b ∈ fp, H' b = none) ∧ W i m σ' H' := fun {σ7 H7} I7 n7 => by
      obtain ⟨m', hm, w7⟩ := hN σ7 H7 n7
      refine ⟨m', hm, i + 1, σ7, H7, I7.unpinned, T.keep _ _ _ st5 fun b hb o e => (I7.pin (b, o) (List.mem_append_right _ (List.mem_append_right _ (mem_pinsAt hb e)))).1, fun b hb => ?_, w7⟩
      obtain ⟨o, e, d⟩ := T.obj _ _ st5 b hb
      exact (I7.pin (b, o) (List.mem_append_right _ (List.mem_append_right _ (mem_pinsAt hb e)))).2.1
    cases f with
    | next => obtain ⟨σ7, H7, I7, n7⟩ := q7; exact again I7 n7
    | cont => obtain ⟨σ7, H7, I7, n7⟩ := q7; exact again I7 n7
    | brk => obtain ⟨σ7, H7, I7, q7⟩ := q7; exact ⟨σ7, H7, I7.unpinned, q7⟩
    | ret v => obtain ⟨x7, σ7, H7, I7, r7, q7⟩ := q7; exact ⟨x7, σ7, H7, I7.unpinned, r7, q7⟩
end

theorem for_list {K : PySem.W.Frag} {a : Addr} {xs : List V} {g : TG} {tb : TS} {D : Ends} {σ : St} {H : Hp} (Pv : Nat → St → Hp → Prop) (h0 : Pv 0 σ H) (hl : ∀ i σ H, i ≤ xs.length → Pv i σ H → SqL K H a xs)
    (hs : ∀ i x σ H, xs[i]? = some x → Pv i σ H → g x σ H fun σ2 H2 => tb { D with nx := Pv (i + 1), ct := Pv (i + 1), bk := D.nx } σ2 H2) (hd : ∀ σ H, Pv xs.length σ H → D.nx σ H) :
    ∃ W : Nat → Nat → St → Hp → Prop, (∃ m, W 0 m σ H) ∧ ∀ i m σ H, W i m σ H →
      ((Itl K a).stop i H ∧ D.nx σ H) ∨ ((Itl K a).go i H ∧ ∃ N : St → Hp → Prop, (∀ σ' H', N σ' H' → ∃ m', m' < m ∧ W (i + 1) m' σ' H') ∧ ∀ x H', (Itl K a).yld i H x H' → g x σ H' fun σ2 H2 => tb { D with nx := N, ct := N, bk := D.nx } σ2 H2) := by
  refine ⟨fun i m σ H => m = xs.length - i ∧ i ≤ xs.length ∧ Pv i σ H, ⟨xs.length, by simp, Nat.zero_le _, h0⟩, ?_⟩
  rintro i m σ H ⟨rfl, hi, p⟩
  have q := hl i σ H hi p
  by_cases hlt : i < xs.length
  · refine .inr ⟨⟨xs, xs[i], q, by simp [hlt]⟩, Pv (i + 1), fun σ' H' p' => ⟨xs.length - (i + 1), by omega, rfl, hlt, p'⟩, fun x H' y => ?_⟩
    obtain ⟨e, y⟩ := y
    subst e
    exact hs i x σ _ (y xs q) p
  · have e : i = xs.length := by omega
    subst e
    exact .inl ⟨⟨xs, q, Nat.le_refl _⟩, hd σ H p⟩
theorem for_range {lo : Int} {n : Nat} {g : TG} {tb : TS} {D : Ends} {σ : St} {H : Hp} (Pv : Nat → St → Hp → Prop) (h0 : Pv 0 σ H)
    (hs : ∀ i σ H, i < n → Pv i σ H → g (.int (lo + i)) σ H fun σ2 H2 => tb { D with nx := Pv (i + 1), ct := Pv (i + 1), bk := D.nx } σ2 H2) (hd : ∀ σ H, Pv n σ H → D.nx σ H) :
    ∃ W : Nat → Nat → St → Hp → Prop, (∃ m, W 0 m σ H) ∧ ∀ i m σ H, W i m σ H →
      ((Itr lo n).stop i H ∧ D.nx σ H) ∨ ((Itr lo n).go i H ∧ ∃ N : St → Hp → Prop, (∀ σ' H', N σ' H' → ∃ m', m' < m ∧ W (i + 1) m' σ' H') ∧ ∀ x H', (Itr lo n).yld i H x H' → g x σ H' fun σ2 H2 => tb { D with nx := N, ct := N, bk := D.nx } σ2 H2) := by
  refine ⟨fun i m σ H => m = n - i ∧ i ≤ n ∧ Pv i σ H, ⟨n, by simp, Nat.zero_le _, h0⟩, ?_⟩
  rintro i m σ H ⟨rfl, hi, p⟩
  by_cases hlt : i < n
  · refine .inr ⟨hlt, Pv (i + 1), fun σ' H' p' => ⟨n - (i + 1), by omega, rfl, hlt, p'⟩, fun x H' y => ?_⟩
    obtain ⟨e, y⟩ := y
    subst e y
    exact hs i σ _ hlt p
  · have e : i = n := by omega
    subst e
    exact .inl ⟨Nat.le_refl _, hd σ H p⟩
theorem while_by {c : TT} {tb : TS} {D : Ends} {σ : St} {H : Hp} (Pv : St → Hp → Prop) (μ : St → Hp → Nat) (h0 : Pv σ H)
    (hs : ∀ σ H, Pv σ H → c σ H fun b H1 => if b = true then tb { D with nx := fun σ' H' => Pv σ' H' ∧ μ σ' H' < μ σ H, ct := fun σ' H' => Pv σ' H' ∧ μ σ' H' < μ σ H, bk := D.nx } σ H1 else D.nx σ H1)
    (mono : ∀ σ H Q Q', (∀ b H1, Q b H1 → Q' b H1) → c σ H Q → c σ H Q') : tWhile c tb D σ H := by
  refine ⟨fun m σ H => m = μ σ H ∧ Pv σ H, ⟨_, rfl, h0⟩, ?_⟩
  rintro m σ H ⟨rfl, p⟩
  refine mono σ H _ _ (fun b H1 q => ?_) (hs σ H p)
  cases b with
  | true => exact ⟨_, fun σ' H' ⟨p', l⟩ => ⟨_, l, rfl, p'⟩, q⟩
  | false => exact q
end L2

namespace L2
open PySem PySem.Spec PyProof.Rows

abbrev R2 := V → V → Hp → VK → Prop
def OpR (X : Cx) (f : Value → Value → Sem Value) (r : R2) : Prop :=
  ∀ (pins : List (Addr × Obj)) (s : Shared) (σ : St) (H : Hp) (x y : V) (v u : Value) (Q : VK), Inv X pins σ H s → RelV x v → RelV y u → r x y H Q →
    wpAny (model X.prog X.w) X.A (f v u) (EP X pins σ Q) X.xe s
def UnR (X : Cx) (f : Value → Sem Value) (r : V → Hp → VK → Prop) : Prop :=
  ∀ (pins : List (Addr × Obj)) (s : Shared) (σ : St) (H : Hp) (x : V) (v : Value) (Q : VK), Inv X pins σ H s → RelV x v → r x H Q →
    wpAny (model X.prog X.w) X.A (f v) (EP X pins σ Q) X.xe s
def CallR (X : Cx) (f : Value) (r : List V → Hp → VK → Prop) : Prop :=
  ∀ (pins : List (Addr × Obj)) (s : Shared) (σ : St) (H : Hp) (xs : List V) (us : List Value) (Q : VK), Inv X pins σ H s → Vals xs us → r xs H Q →
    wpAny (model X.prog X.w) X.A (call f us) (EP X pins σ Q) X.xe s
def TruR (X : Cx) (r : V → Hp → (Bool → Hp → Prop) → Prop) : Prop :=
  ∀ (pins : List (Addr × Obj)) (s : Shared) (σ : St) (H : Hp) (x : V) (v : Value) (Q : Bool → Hp → Prop), Inv X pins σ H s → RelV x v → r x H Q →
    wpAny (model X.prog X.w) X.A (truthy v) (TP X pins σ Q) X.xe s

def tOp (r : R2) (ta tb : TE) : TE := fun σ H Q => ta σ H fun x H1 => tb σ H1 fun y H2 => r x y H2 Q
def tUn (r : V → Hp → VK → Prop) (ta : TE) : TE := fun σ H Q => ta σ H fun x H1 => r x H1 Q
def rI (C : Int → Int → Prop) (g : Int → Int → V) : R2 := fun x y H Q => ∃ i j, x = .int i ∧ y = .int j ∧ C i j ∧ Q (g i j) H
def rI0 (g : Int → Int → V) : R2 := fun x y H Q => ∃ i j, x = .int i ∧ y = .int j ∧ Q (g i j) H
def rU (g : Int → V) : V → Hp → VK → Prop := fun x H Q => ∃ i, x = .int i ∧ Q (g i) H

section
variable {X : Cx} {a b c : Expr} {ta tb tc : TE} {pos : Pos}

theorem binT (ha : PE X a ta) (hb : PE X b tb) {pins : List (Addr × Obj)} {s : Shared} {σ : St} {H : Hp} {R : V → V → Hp → Prop} (I : Inv X pins σ H s)
    (h : ta σ H fun x H1 => tb σ H1 fun y H2 => R x y H2) {Q : Value → Shared → Prop} {f : Value → Value → Sem Value}
    (hf : ∀ v u s2 x y H2, Inv X pins σ H2 s2 → RelV x v → RelV y u → R x y H2 → wpAny (model X.prog X.w) X.A (f v u) Q X.xe s2) :
    wpAny (model X.prog X.w) X.A (eval a X.env) (fun v s₁ => wpAny (model X.prog X.w) X.A (eval b X.env) (fun u s₂ => wpAny (model X.prog X.w) X.A (f v u) Q X.xe s₂) X.xe s₁) X.xe s := by
  refine thn (ha pins s σ H _ I h) fun v s1 ⟨x, H1, I1, r1, q1⟩ => ?_
  refine thn (hb pins s1 σ H1 _ I1 q1) fun u s2 ⟨y, H2, I2, r2, q2⟩ => ?_
  exact hf v u s2 x y H2 I2 r1 r2 q2

theorem pe_op {op : Operator} {r : R2} (ho : OpR X (binaryOp op) r) (ha : PE X a ta) (hb : PE X b tb) : PE X (.BinOp a op b pos) (tOp r ta tb) := by
  intro pins s σ H Q I h
  exact wpAny_BinOp (binT ha hb I h fun v u s2 x y H2 I2 rx ry q => ho pins s2 σ H2 x y v u Q I2 rx ry q)
theorem pe_un {op : UnaryOp} {r : V → Hp → VK → Prop} (ho : UnR X (unaryOp op) r) (ha : PE X a ta) : PE X (.UnaryOp op a pos) (tUn r ta) := by
  intro pins s σ H Q I h
  exact UnaryOp_ (thn (ha pins s σ H _ I h) fun v s1 ⟨x, H1, I1, r1, q1⟩ => ho pins s1 σ H1 x v Q I1 r1 q1)
theorem opI {f : Value → Value → Sem Value} {C : Int → Int → Prop} {g : Int → Int → Int}
    (rule : ∀ (i j : Int) (t u : Tok) (s : Shared) (Q : Value → Shared → Prop) (E : Value → Shared → Prop), C i j → Q (.int (g i j) s.toks) { s with toks := s.toks + 1 } → wpAny (model X.prog X.w) X.A (f (.int i t) (.int j u)) Q E s) :
    OpR X f (rI C fun i j => .int (g i j)) := by
  intro pins s σ H x y v u Q I rx ry h
  obtain ⟨i, j, rfl, rfl, hc, q⟩ := h
  obtain ⟨t, rfl⟩ := rx
  obtain ⟨t', rfl⟩ := ry
  exact rule i j t t' s _ _ hc ⟨.int (g i j), H, I.tok _, ⟨_, rfl⟩, q⟩
theorem opI0 {f : Value → Value → Sem Value} {g : Int → Int → Int}
    (rule : ∀ (i j : Int) (t u : Tok) (s : Shared) (Q : Value → Shared → Prop) (E : Value → Shared → Prop), Q (.int (g i j) s.toks) { s with toks := s.toks + 1 } → wpAny (model X.prog X.w) X.A (f (.int i t) (.int j u)) Q E s) :
    OpR X f (rI0 fun i j => .int (g i j)) := by
  intro pins s σ H x y v u Q I rx ry h
  obtain ⟨i, j, rfl, rfl, q⟩ := h
  obtain ⟨t, rfl⟩ := rx
  obtain ⟨t', rfl⟩ := ry
  exact rule i j t t' s _ _ ⟨.int (g i j), H, I.tok _, ⟨_, rfl⟩, q⟩
theorem opB0 {f : Value → Value → Sem Value} {g : Int → Int → Bool}
    (rule : ∀ (i j : Int) (t u : Tok) (s : Shared) (Q : Value → Shared → Prop) (E : Value → Shared → Prop), Q (.bool (g i j)) s → wpAny (model X.prog X.w) X.A (f (.int i t) (.int j u)) Q E s) :
    OpR X f (rI0 fun i j => .bl (g i j)) := by
  intro pins s σ H x y v u Q I rx ry h
  obtain ⟨i, j, rfl, rfl, q⟩ := h
  obtain ⟨t, rfl⟩ := rx
  obtain ⟨t', rfl⟩ := ry
  exact rule i j t t' s _ _ ⟨.bl (g i j), H, I, rfl, q⟩

def CDiv (i j : Int) : Prop := 0 < j ∧ j < 1073741824
def CMul (i j : Int) : Prop := (-(2 ^ 64) < i ∧ i < 2 ^ 64) ∨ (-(2 ^ 64) < j ∧ j < 2 ^ 64)
theorem CMul.ok {i j : Int} (h : CMul i j) : IntMulOk i j := by
  rcases h with ⟨h1, h2⟩ | ⟨h1, h2⟩
  · exact .of_left (intBits_le_64 h1 h2)
  · exact .of_right (intBits_le_64 h1 h2)
theorem op_add : OpR X (binaryOp .Add) (rI0 fun i j => .int (i + j)) := opI0 fun _ _ _ _ _ _ _ q => add_int q
theorem op_sub : OpR X (binaryOp .Sub) (rI0 fun i j => .int (i - j)) := opI0 fun _ _ _ _ _ _ _ q => sub_int q
theorem op_mul : OpR X (binaryOp .Mult) (rI CMul fun i j => .int (i * j)) := opI fun _ _ _ _ _ _ _ hc q => mul_int q hc.ok
theorem op_fdiv : OpR X (binaryOp .FloorDiv) (rI CDiv fun i j => .int (i / j)) := opI fun i j _ _ _ _ _ hc q => by
  have h1 : (0 : Int) < j := hc.1
  have h2 : j < 1073741824 := hc.2
  exact floordiv_int (by omega) (by rw [Int.fdiv_eq_ediv_of_nonneg i (by omega)]; exact q) (.inl (PyProof.noPylong_small (by omega)))
theorem op_mod : OpR X (binaryOp .Mod) (rI (fun _ j => 0 < j) fun i j => .int (i % j)) := opI fun i j _ _ _ _ _ hc q => by
  have h1 : (0 : Int) < j := hc
  exact mod_int' (by omega) (by rw [Int.fmod_eq_emod_of_nonneg i (by omega)]; exact q)
theorem unI {f : Value → Sem Value} {g : Int → Int}
    (rule : ∀ (i : Int) (t : Tok) (s : Shared) (Q : Value → Shared → Prop) (E : Value → Shared → Prop), Q (.int (g i) s.toks) { s with toks := s.toks + 1 } → wpAny (model X.prog X.w) X.A (f (.int i t)) Q E s) :
    UnR X f (rU fun i => .int (g i)) := by
  intro pins s σ H x v Q I rx h
  obtain ⟨i, rfl, q⟩ := h
  obtain ⟨t, rfl⟩ := rx
  exact rule i t s _ _ ⟨.int (g i), H, I.tok _, ⟨_, rfl⟩, q⟩
theorem un_neg : UnR X (unaryOp .USub) (rU fun i => .int (-i)) := unI fun _ _ _ _ _ q => neg_int q
end

def scal : V → V → Bool
  | .non, .non => true | .non, .int _ => true | .int _, .non => true | .non, .bl _ => true | .bl _, .non => true | .non, .str _ => true | .str _, .non => true
  | .int _, .int _ => true | .bl _, .bl _ => true | .str _, .str _ => true | .byt _, .byt _ => true
  | .int _, .str _ => true | .str _, .int _ => true | .bl _, .str _ => true | .str _, .bl _ => true
  | _, _ => false
def rEq : R2 := fun x y H Q => scal x y = true ∧ Q (.bl (decide (x = y))) H
def rNe : R2 := fun x y H Q => scal x y = true ∧ Q (.bl (!decide (x = y))) H

theorem dec_int {i j : Int} : decide (V.int i = V.int j) = (i == j) := by
  rw [Bool.eq_iff_iff]
  simp
theorem dec_bl {i j : Bool} : decide (V.bl i = V.bl j) = (i == j) := by
  rw [Bool.eq_iff_iff]
  simp
theorem dec_str {i j : Str} : decide (V.str i = V.str j) = (i == j) := by
  rw [Bool.eq_iff_iff]
  simp
theorem dec_byt {i j : Array UInt8} : decide (V.byt i = V.byt j) = (i.toList == j.toList) := by
  rw [Bool.eq_iff_iff]
  cases i
  cases j
  simp

section
variable {X : Cx} {a b c : Expr} {ta tb tc : TE} {pos : Pos}
theorem fin_bl {pins : List (Addr × Obj)} {σ : St} {H : Hp} {s : Shared} {Q : VK} {k k' : Bool} (I : Inv X pins σ H s) (q : Q (.bl k) H) (e : k = k') : EP X pins σ Q (.bool k') s := by
  subst e
  exact ⟨.bl k, H, I, rfl, q⟩
theorem op_eq : OpR X (compareOp .Eq) rEq := by
  intro pins s σ H x y v u Q I rx ry h
  obtain ⟨hs, q⟩ := h
  cases x with
  | non =>
    cases rx
    cases y with
    | non => cases ry; exact PySem.EqNone.eq_none_none (fin_bl I q (by simp))
    | bl j => cases ry; exact PySem.EqNone.eq_none_bool (fin_bl I q (by simp))
    | int j => obtain ⟨t', rfl⟩ := ry; exact PySem.EqNone.eq_none_int (fin_bl I q (by simp))
    | str j => obtain ⟨t', rfl⟩ := ry; exact PySem.EqNone.eq_none_str (fin_bl I q (by simp))
    | _ => exact absurd (show false = true from hs) Bool.false_ne_true
  | bl i =>
    cases rx
    cases y with
    | non => cases ry; exact PySem.EqNone.eq_bool_none (fin_bl I q (by simp))
    | bl j => cases ry; exact eq_bool (fin_bl I q dec_bl)
    | str j => obtain ⟨t', rfl⟩ := ry; exact PySem.EqMixed.eq_bool_str (fin_bl I q (by simp))
    | _ => exact absurd (show false = true from hs) Bool.false_ne_true
  | int i =>
    obtain ⟨t, rfl⟩ := rx
    cases y with
    | non => cases ry; exact PySem.EqNone.eq_int_none (fin_bl I q (by simp))
    | int j => obtain ⟨t', rfl⟩ := ry; exact eq_int (fin_bl I q dec_int)
    | str j => obtain ⟨t', rfl⟩ := ry; exact PySem.EqMixed.eq_int_str (fin_bl I q (by simp))
    | _ => exact absurd (show false = true from hs) Bool.false_ne_true
  | str i =>
    obtain ⟨t, rfl⟩ := rx
    cases y with
    | non => cases ry; exact PySem.EqNone.eq_str_none (fin_bl I q (by simp))
    | bl j => cases ry; exact PySem.EqMixed.eq_str_bool (fin_bl I q (by simp))
    | int j => obtain ⟨t', rfl⟩ := ry; exact PySem.EqMixed.eq_str_int (fin_bl I q (by simp))
    | str j => obtain ⟨t', rfl⟩ := ry; exact eq_str (fin_bl I q dec_str)
    | _ => exact absurd (show false = true from hs) Bool.false_ne_true
  | byt i =>
    obtain ⟨t, rfl⟩ := rx
    cases y with
    | byt j => obtain ⟨t', rfl⟩ := ry; exact PySem.W.eq_bytes (fin_bl I q dec_byt)
    | _ => exact absurd (show false = true from hs) Bool.false_ne_true
  | _ => cases y <;> exact absurd (show false = true from hs) Bool.false_ne_true
theorem op_ne : OpR X (compareOp .NotEq) rNe := by
  intro pins s σ H x y v u Q I rx ry h
  obtain ⟨hs, q⟩ := h
  cases x with
  | non =>
    cases rx
    cases y with
    | non => cases ry; exact PySem.EqNone.ne_none_none (fin_bl I q (by simp))
    | bl j => cases ry; exact PySem.EqNone.ne_none_bool (fin_bl I q (by simp))
    | int j => obtain ⟨t', rfl⟩ := ry; exact PySem.EqNone.ne_none_int (fin_bl I q (by simp))
    | str j => obtain ⟨t', rfl⟩ := ry; exact PySem.EqNone.ne_none_str (fin_bl I q (by simp))
    | _ => exact absurd (show false = true from hs) Bool.false_ne_true
  | bl i =>
    cases rx
    cases y with
    | non => cases ry; exact PySem.EqNone.ne_bool_none (fin_bl I q (by simp))
    | bl j => cases ry; exact ne_bool (fin_bl I q (congrArg not dec_bl))
    | str j => obtain ⟨t', rfl⟩ := ry; exact PySem.EqMixed.ne_bool_str (fin_bl I q (by simp))
    | _ => exact absurd (show false = true from hs) Bool.false_ne_true
  | int i =>
    obtain ⟨t, rfl⟩ := rx
    cases y with
    | non => cases ry; exact PySem.EqNone.ne_int_none (fin_bl I q (by simp))
    | int j => obtain ⟨t', rfl⟩ := ry; exact ne_int (fin_bl I q (congrArg not dec_int))
    | str j => obtain ⟨t', rfl⟩ := ry; exact PySem.EqMixed.ne_int_str (fin_bl I q (by simp))
    | _ => exact absurd (show false = true from hs) Bool.false_ne_true
  | str i =>
    obtain ⟨t, rfl⟩ := rx
    cases y with
    | non => cases ry; exact PySem.EqNone.ne_str_none (fin_bl I q (by simp))
    | bl j => cases ry; exact PySem.EqMixed.ne_str_bool (fin_bl I q (by simp))
    | int j => obtain ⟨t', rfl⟩ := ry; exact PySem.EqMixed.ne_str_int (fin_bl I q (by simp))
    | str j => obtain ⟨t', rfl⟩ := ry; exact ne_str (fin_bl I q (congrArg not dec_str))
    | _ => exact absurd (show false = true from hs) Bool.false_ne_true
  | byt i =>
    obtain ⟨t, rfl⟩ := rx
    cases y with
    | byt j => obtain ⟨t', rfl⟩ := ry; exact PySem.W.ne_bytes (fin_bl I q (congrArg not dec_byt))
    | _ => exact absurd (show false = true from hs) Bool.false_ne_true
  | _ => cases y <;> exact absurd (show false = true from hs) Bool.false_ne_true

theorem op_lt : OpR X (compareOp .Lt) (rI0 fun i j => .bl (decide (i < j))) := opB0 fun _ _ _ _ _ _ _ q => lt_int q
theorem op_le : OpR X (compareOp .LtE) (rI0 fun i j => .bl (decide (i ≤ j))) := opB0 fun _ _ _ _ _ _ _ q => le_int q
theorem op_gt : OpR X (compareOp .Gt) (rI0 fun i j => .bl (decide (j < i))) := opB0 fun _ _ _ _ _ _ _ q => gt_int q
theorem op_ge : OpR X (compareOp .GtE) (rI0 fun i j => .bl (decide (j ≤ i))) := opB0 fun _ _ _ _ _ _ _ q => ge_int q
theorem op_isN : OpR X (compareOp .Is) (fun x y H Q => y = .non ∧ Q (.bl (decide (x = .non))) H) := by
  intro pins s σ H x y v u Q I rx ry h
  obtain ⟨rfl, q⟩ := h
  cases ry
  refine is_none_gen (fin_bl I q ?_)
  cases x <;> first
    | (cases rx; rfl)
    | (obtain ⟨t, rfl⟩ := rx; rfl)
theorem op_notN : OpR X (compareOp .IsNot) (fun x y H Q => y = .non ∧ Q (.bl (!decide (x = .non))) H) := by
  intro pins s σ H x y v u Q I rx ry h
  obtain ⟨rfl, q⟩ := h
  cases ry
  refine isnot_none_gen (fin_bl I q ?_)
  cases x <;> first
    | (cases rx; rfl)
    | (obtain ⟨t, rfl⟩ := rx; rfl)

theorem nomark (b : Expr) {op : CmpOp} (h : op ≠ .In := by decide) (h2 : op ≠ .NotIn := by decide) : behindInMarks op b = false := by
  have e1 : (op == CmpOp.In) = false := by cases op <;> first | rfl | exact absurd rfl h
  have e2 : (op == CmpOp.NotIn) = false := by cases op <;> first | rfl | exact absurd rfl h2
  cases b <;> simp [behindInMarks, e1, e2]
theorem pe_cmpR {op : CmpOp} {r : R2} (ho : OpR X (compareOp op) r) (ha : PE X a ta) (hb : PE X b tb) (hm : behindInMarks op b = false) : PE X (.Compare a [op] [b] pos) (tOp r ta tb) := by
  intro pins s σ H Q I h
  exact wpAny_Compare1 (binT ha hb I h fun v u s2 x y H2 I2 rx ry q => ho pins s2 σ H2 x y v u Q I2 rx ry q) hm
def tTest (t : TE) : TT := fun σ H Q => t σ H fun x H' => ∃ k, x = .bl k ∧ Q k H'
theorem pt_cmpR {op : CmpOp} {r : R2} (ho : OpR X (compareOp op) r) (ha : PE X a ta) (hb : PE X b tb) (hm : behindInMarks op b = false) : PT X (.Compare a [op] [b] pos) (tTest (tOp r ta tb)) := by
  intro pins s σ H Q I h
  refine wpAny_isTrue_Compare1 (thn (ha pins s σ H _ I h) fun v s1 ⟨x, H1, I1, r1, q1⟩ => thn (hb pins s1 σ H1 _ I1 q1) fun u s2 ⟨y, H2, I2, r2, q2⟩ =>
    thn (ho pins s2 σ H2 x y v u _ I2 r1 r2 q2) fun c s3 ⟨z, H3, I3, r3, k, e, q3⟩ => ?_) hm
  subst e
  cases r3
  exact wpAny_truthy_bool ⟨H3, I3, q3⟩
def tChain (r r' : R2) (ta tb tc : TE) : TE := fun σ H Q => ta σ H fun x H1 => tb σ H1 fun y H2 => r x y H2 fun z H3 => ∃ k, z = .bl k ∧
  (if k = true then tc σ H3 fun w' H4 => r' y w' H4 Q else Q (.bl false) H3)
theorem pe_chain {op op' : CmpOp} {r r' : R2} (ho : OpR X (compareOp op) r) (ho' : OpR X (compareOp op') r') (ha : PE X a ta) (hb : PE X b tb) (hc : PE X c tc)
    (hm : lastMarks [op, op'] [b, c] = false := by with_unfolding_all rfl) : PE X (.Compare a [op, op'] [b, c] pos) (tChain r r' ta tb tc) := by
  intro pins s σ H Q I h
  refine Compare_chain (thn (ha pins s σ H _ I h) fun v s1 ⟨x, H1, I1, r1, q1⟩ => chain_link (thn (hb pins s1 σ H1 _ I1 q1) fun u s2 ⟨y, H2, I2, r2, q2⟩ =>
    thn (ho pins s2 σ H2 x y v u _ I2 r1 r2 q2) fun d s3 ⟨z, H3, I3, r3, k, e, q3⟩ => ?_)) hm
  subst e
  cases r3
  refine wpAny_truthy_bool ?_
  cases k with
  | false => exact ite_ff ⟨.bl false, H3, I3, rfl, q3⟩
  | true => exact ite_tt (chain_last (thn (hc pins s3 σ H3 _ I3 q3) fun w' s4 ⟨z', H4, I4, r4, q4⟩ => ho' pins s4 σ H4 y z' u w' Q I4 r2 r4 q4))
theorem pt_chain {op op' : CmpOp} {r r' : R2} (ho : OpR X (compareOp op) r) (ho' : OpR X (compareOp op') r') (ha : PE X a ta) (hb : PE X b tb) (hc : PE X c tc)
    (hm : lastMarks [op, op'] [b, c] = false := by with_unfolding_all rfl) : PT X (.Compare a [op, op'] [b, c] pos) (tTest (tChain r r' ta tb tc)) := by
  intro pins s σ H Q I h
  refine isTrue_chain (thn (ha pins s σ H _ I h) fun v s1 ⟨x, H1, I1, r1, q1⟩ => test_link (thn (hb pins s1 σ H1 _ I1 q1) fun u s2 ⟨y, H2, I2, r2, q2⟩ =>
    thn (ho pins s2 σ H2 x y v u _ I2 r1 r2 q2) fun d s3 ⟨z, H3, I3, r3, k, e, q3⟩ => ?_)) hm
  subst e
  cases r3
  refine wpAny_truthy_bool ?_
  cases k with
  | false =>
    obtain ⟨k', e', q'⟩ := q3
    cases e'
    exact ite_ff ⟨H3, I3, q'⟩
  | true =>
    refine ite_tt (test_last (thn (hc pins s3 σ H3 _ I3 q3) fun w' s4 ⟨z', H4, I4, r4, q4⟩ => thn (ho' pins s4 σ H4 y z' u w' _ I4 r2 r4 q4) fun d' s5 ⟨z2, H5, I5, r5, k2, e2, q5⟩ => ?_))
    subst e2
    cases r5
    exact wpAny_truthy_bool ⟨H5, I5, q5⟩

def TruV (K : PySem.W.Frag) (x : V) (H : Hp) (k : Bool) : Prop :=
  match x with
  | .non => k = false
  | .bl b => k = b
  | .int i => k = (i != 0)
  | .str y => y.length ≤ sizeLine ∧ k = ((y.length : Int) != 0)
  | .byt y => y.size ≤ sizeLine ∧ k = ((y.size : Int) != 0)
  | .ref p => (∃ xs, SqL K H p xs ∧ k = !xs.isEmpty) ∨ (∃ xs, SqT K H p xs ∧ k = !xs.isEmpty) ∨ ∃ kvs, H p = some (.dK kvs) ∧ k = !kvs.isEmpty
  | _ => False
theorem isEmpty_kv {κ : Type} {kvs : List (κ × V)} {vs : List (κ × Value)} (r : KV kvs vs) : (!vs.isEmpty) = !kvs.isEmpty := by
  cases r <;> rfl
theorem isEmpty_of {xs : List V} {its : List Value} (r : Vals xs its) : (!its.toArray.isEmpty) = !xs.isEmpty := by
  cases r <;> simp
theorem line63 : (sizeLine : Nat) < 2 ^ 63 := by rw [sizeLine_eq]; decide
theorem tru_ok : TruR X (fun x H Q => ∃ k, TruV X.K x H k ∧ Q k H) := by
  intro pins s σ H x v Q I rx h
  obtain ⟨k, e, q⟩ := h
  have hl := line63
  have hs : sizeLine = 16777216 := sizeLine_eq
  cases x with
  | non =>
    cases rx
    have e' : k = false := e
    subst e'
    exact truthy_none ⟨H, I, q⟩
  | bl b =>
    cases rx
    have e' : k = b := e
    subst e'
    exact wpAny_truthy_bool ⟨H, I, q⟩
  | int i =>
    obtain ⟨t, rfl⟩ := rx
    have e' : k = (i != 0) := e
    subst e'
    exact PySem.P.truthy_int ⟨H, I, q⟩
  | str y =>
    obtain ⟨t, rfl⟩ := rx
    obtain ⟨hy, e'⟩ : y.length ≤ sizeLine ∧ k = ((y.length : Int) != 0) := e
    subst e'
    exact PySem.P.truthy_str (by omega) ⟨H, I.tok _, q⟩
  | byt y =>
    obtain ⟨t, rfl⟩ := rx
    obtain ⟨hy, e'⟩ : y.size ≤ sizeLine ∧ k = ((y.size : Int) != 0) := e
    subst e'
    exact PySem.W.truthy_bytes (by omega) ⟨H, I.tok _, q⟩
  | ref p =>
    cases rx
    have e' : (∃ xs, SqL X.K H p xs ∧ k = !xs.isEmpty) ∨ (∃ xs, SqT X.K H p xs ∧ k = !xs.isEmpty) ∨ ∃ kvs, H p = some (.dK kvs) ∧ k = !kvs.isEmpty := e
    rcases e' with ⟨xs, hx, e'⟩ | ⟨xs, hx, e'⟩ | ⟨kvs, hx, e'⟩
    · subst e'
      obtain ⟨its, r, pl, hz⟩ := I.list hx
      have hlen := r.length
      exact wpAny_truthy_list pl.isList (by simp only [List.size_toArray]; omega) ⟨H, I.tok _, by rw [isEmpty_of r]; exact q⟩
    · subst e'
      obtain ⟨its, r, pl, hz⟩ := I.tuple hx
      have hlen := r.length
      exact truthy_tuple pl (by simp only [List.size_toArray]; omega) ⟨H, I.tok _, by rw [isEmpty_of r]; exact q⟩
    · subst e'
      obtain ⟨hz, hS, vs, r, m⟩ : kvs.length ≤ sizeLine ∧ (p == sysModules) = false ∧ ∃ vs, KV kvs vs ∧ s.heap.DictOf (mixKind X.prog X.w) p vs := I.hok p _ hx
      have hlen : kvs.length = vs.length := Paired.length r
      exact wpAny_truthy_dict hS m (by omega) ⟨H, I.tok _, by rw [isEmpty_kv r]; exact q⟩
  | _ => exact (show False from e).elim
theorem pt_truth (ha : PE X a ta) (he : ∀ whole, isTrue a X.env whole = (do let v ← whole; standAt a.pos; holding [v] (truthy v))) :
    PT X a (fun σ H Q => ta σ H fun x H' => ∃ k, TruV X.K x H' k ∧ Q k H') := by
  intro pins s σ H Q I h
  exact isTrue_plain (thn (ha pins s σ H _ I h) fun v s1 ⟨x, H1, I1, r1, q1⟩ => tru_ok pins s1 σ H1 x v Q I1 r1 q1) (he _)

theorem vals1 {x : V} {us : List Value} (r : Vals [x] us) : ∃ u, us = [u] ∧ RelV x u := by
  cases r with
  | cons r1 r2 => cases r2; exact ⟨_, rfl, r1⟩
theorem vals2 {x y : V} {us : List Value} (r : Vals [x, y] us) : ∃ u w', us = [u, w'] ∧ RelV x u ∧ RelV y w' := by
  cases r with
  | cons r1 r2 =>
    cases r2 with
    | cons r3 r4 => cases r4; exact ⟨_, _, rfl, r1, r3⟩
theorem call_min2 (hc : X.calm = true) : CallR X (.builtin "min") (fun xs H Q => ∃ i j, xs = [.int i, .int j] ∧ Q (.int (if j < i then j else i)) H) := by
  intro pins s σ H xs us Q I r h
  obtain ⟨i, j, rfl, q⟩ := h
  obtain ⟨u, w', rfl, ⟨t, rfl⟩, ⟨t', rfl⟩⟩ := vals2 r
  refine min_two_ints (I.ok.hd hc) fun h' tk k => ⟨_, H, I.kept k, ?_, q⟩
  by_cases hj : j < i
  · rw [if_pos hj, if_pos hj]; exact ⟨_, rfl⟩
  · rw [if_neg hj, if_neg hj]; exact ⟨_, rfl⟩
end
end L2

namespace L2
open PySem PySem.Spec PyProof.Rows

structure ObjM (h : Heap) (x dx C : Addr) (mA : Str → Option Value) : Prop where
  obj : h.get? x = some (PySem.W.instObj C dx)
  ns : h.Ns1 dx mA
  ne : dx ≠ x

theorem lookIn_ns {h : Heap} {dx : Addr} {mA : Str → Option Value} (n : h.Ns1 dx mA) : ∃ od, h.get? dx = some od ∧ ∀ name, PySem.W.lookIn name od = some (mA name) := by
  obtain ⟨o, es, ep, ho, hd, hk, _, hm⟩ := n
  refine ⟨o, ho, fun name => ?_⟩
  have e := hm name
  unfold nsFind findBy at e
  rw [← Array.find?_toList] at e
  unfold PySem.W.lookIn
  rw [hd]
  dsimp only
  split
  · rename_i y q
    rw [q] at e
    exact congrArg some e
  · rename_i q
    rw [q] at e
    have a : es.toList.any (·.refKey) = false := by
      rw [List.any_eq_false]
      intro y hy
      obtain ⟨z, t, hkey⟩ := hk y (Array.mem_toList_iff.mp hy)
      simp [DictEntry.refKey, hkey]
    have a' : ¬ es.toList.any (·.refKey) = true := by rw [a]; exact Bool.false_ne_true
    rw [if_neg a']
    exact congrArg some e

theorem ObjM.look {h : Heap} {x dx C : Addr} {mA : Str → Option Value} (I : ObjM h x dx C mA) : ∃ od, PySem.W.InstAt h x (PySem.W.instObj C dx) C (some od) ∧ ∀ name, PySem.W.lookIn name od = some (mA name) :=
  let ⟨od, ho, hl⟩ := lookIn_ns I.ns
  ⟨od, ⟨I.obj, rfl, rfl, ho⟩, hl⟩

section
variable {prog : Program} {w : World} {A : Around} {E : Value → Shared → Prop} {s : Shared} {K : PySem.W.Frag} {x dx C f : Addr} {mA : Str → Option Value} {name : Str} {v : Value}

theorem get_map {expr : Bool} {Q : Value → Shared → Prop} (X : K.In s.heap) (I : ObjM s.heap x dx C mA) (hg : PySem.W.plainGet K C name = true) (hh : PySem.W.hasDictIn K C = true)
    (ha : PySem.W.findIn K (.ref C) name = some none) (hv : mA name = some v) (hv' : PySem.W.handedIn v = true) (h : Q v { s with toks := s.toks + 1 }) :
    wpAny (model prog w) A (getAttr (.ref x) name expr) Q E s := by
  obtain ⟨od, J, hl⟩ := I.look
  exact PySem.W.get_value X J (PySem.W.plainGet_of hg).1 (PySem.W.findObj_own hh ha rfl (by rw [hl, hv])) hv' h

theorem get_meth {pl : Sem Bool} {Q : Value × List Value → Shared → Prop} (X : K.In s.heap) (I : ObjM s.heap x dx C mA) (hg : PySem.W.plainGet K C name = true)
    (hf : PySem.W.findIn K (.ref C) name = some (some (.ref f))) (ht : PySem.W.isFn K (.ref f) = true) (hv : mA name = none) (h : Q (.ref f, [.ref x]) s) :
    wpAny (model prog w) A (getMethod (.ref x) name pl) Q E s := by
  obtain ⟨od, J, hl⟩ := I.look
  exact PySem.W.method_fn X J (PySem.W.plainGet_of hg).1 (PySem.W.plainGet_of hg).2 hf (beq_iff_eq.mp ht) (by show (PySem.W.lookIn name od).map (·.isSome) = some false; rw [hl, hv]; rfl) h

theorem set_map {ns : List Str} {Q : Unit → Shared → Prop} (X : K.In s.heap) (I : ObjM s.heap x dx C mA)
    (hs : PySem.W.findIn K (.ref C) "__setattr__" = some (some (.builtin "object.__setattr__"))) (hp : PySem.W.plainOver K C = true) (ht : PySem.W.takerIn K C name = some none) (hh : PySem.W.hasDictIn K C = true)
    (hw : PySem.Within mA ns) (hsz : ns.length ≤ sizeLine)
    (h : ∀ h', ObjM h' x dx C (fun y => if y = name then some v else mA y) → Heap.SameBut dx s.heap h' → Q () { s with heap := h', toks := s.toks + 2 }) :
    wpAny (model prog w) A (setAttr (.ref x) name v) Q E s := by
  obtain ⟨od, J, hl⟩ := I.look
  refine PySem.W.set_plain X J hs (PySem.W.osa_open (s := { s with toks := s.toks + 1 }) (r := none) X J hp ht fun b => ?_)
  obtain ⟨cd, hc, hd'⟩ := PySem.W.any_some hh
  have hx : s.heap.get? x = some ⟨.ref C, some dx, .plain, #[]⟩ := I.obj
  refine wpAny_bind (wpAny_pure (wpAny_bind (wpAny_bind (wpAny_loadPart hx (wpAny_bind (PySem.W.Looks.here (s := { s with toks := s.toks + 1 }) (PySem.W.looks_clsIn X hc) ?_))))))
  rw [hd']
  refine wpAny_pure (a := some dx) (wpAny_bind (wpAny_pure (wpAny_bind ?_)))
  refine wpAny_nsSet1 (s := { s with toks := s.toks + 1 }) I.ns fun h' hn2 hs2 => ?_
  obtain ⟨oD, esD, epD, hoD, hdD, hcD⟩ := hn2.count (PySem.Within.cons name v hw)
  refine wpAny_bind (wpAny_lookBehind hoD (by rw [hdD]; exact pastItsLine_dict (Nat.le_trans hcD (by rw [List.length_cons]; omega))) ?_)
  exact wpAny_pure (h _ ⟨(hs2.2 _ (Ne.symm I.ne)).trans I.obj, hn2, I.ne⟩ hs2)

theorem make_map {R : Result → Shared → Prop} {vs : List Value} {kw : List (Str × Value)} (X : K.In s.heap) (hm : PySem.W.makesIn K C = true)
    (hi : PySem.W.findIn K (.ref C) "__init__" = some (some (.ref f))) (hf : PySem.W.typeIn K (.ref f) = some (.type "function"))
    (h : codeAny (model prog w) (A.under (.builtin "type.__call__" ⟨.ref C :: vs, kw⟩)) (.call (.ref f) ⟨.ref (s.heap.objs.size + 1) :: vs, kw⟩) (PySem.W.InitBack (s.heap.objs.size + 1) R)
      { s with heap := (s.heap.push PySem.W.emptyDict).push (PySem.W.instObj C s.heap.objs.size) }) :
    codeAny (model prog w) A (.call (.ref C) ⟨vs, kw⟩) R s := by
  obtain ⟨hh, g, d, t, os⟩ := s
  exact PySem.W.make_core (PySem.W.makes_of X hm) (PySem.W.looks_findIn X hi) (fun self => PySem.W.bind_fn X self hf) (.inl rfl) h
end

def putF (f : Str) (v : V) : List (Str × V) → List (Str × V)
  | [] => [(f, v)]
  | (g, x) :: r => if g = f then (g, v) :: r else (g, x) :: putF f v r
theorem lookup_putF (f g : Str) (v : V) : ∀ fs : List (Str × V), (putF f v fs).lookup g = if g = f then some v else fs.lookup g
  | [] => by
    show List.lookup g [(f, v)] = _
    by_cases h : g = f
    · have hb : (g == f) = true := beq_iff_eq.mpr h
      simp only [List.lookup, hb, if_pos h]
    · have hb : (g == f) = false := beq_eq_false_iff_ne.mpr h
      simp only [List.lookup, hb, if_neg h]
  | (k, x) :: r => by
    have ih := lookup_putF f g v r
    rw [show putF f v ((k, x) :: r) = (if k = f then (k, v) :: r else (k, x) :: putF f v r) from rfl]
    by_cases hk : k = f
    · rw [if_pos hk]
      by_cases h : g = k
      · have hb : (g == k) = true := beq_iff_eq.mpr h
        simp only [List.lookup, hb, if_pos (h.trans hk)]
      · have hb : (g == k) = false := beq_eq_false_iff_ne.mpr h
        simp only [List.lookup, hb, if_neg (fun e : g = f => h (e.trans hk.symm))]
    · rw [if_neg hk]
      by_cases h : g = k
      · have hb : (g == k) = true := beq_iff_eq.mpr h
        simp only [List.lookup, hb, if_neg (fun e : g = f => hk (h.symm.trans e))]
      · have hb : (g == k) = false := beq_eq_false_iff_ne.mpr h
        simp only [List.lookup, hb]
        exact ih
theorem keys_putF (f : Str) (v : V) : ∀ fs : List (Str × V), f ∈ (putF f v fs).map (·.1) ∧ ∀ g, g ∈ fs.map (·.1) → g ∈ (putF f v fs).map (·.1)
  | [] => ⟨by simp [putF], fun g h => by simp at h⟩
  | (k, x) :: r => by
    obtain ⟨i1, i2⟩ := keys_putF f v r
    rw [show putF f v ((k, x) :: r) = (if k = f then (k, v) :: r else (k, x) :: putF f v r) from rfl]
    by_cases hk : k = f
    · rw [if_pos hk]
      subst hk
      exact ⟨by simp, fun g h => by simpa using h⟩
    · rw [if_neg hk]
      refine ⟨?_, fun g h => ?_⟩
      · rw [List.map_cons]
        exact List.mem_cons_of_mem _ i1
      · rw [List.map_cons] at h ⊢
        rcases List.mem_cons.mp h with e | e
        · exact List.mem_cons.mpr (.inl e)
        · exact List.mem_cons_of_mem _ (i2 g e)
theorem length_putF (f : Str) (v : V) : ∀ fs : List (Str × V), (putF f v fs).length ≤ fs.length + 1
  | [] => by simp [putF]
  | (k, x) :: r => by
    have ih := length_putF f v r
    rw [show putF f v ((k, x) :: r) = (if k = f then (k, v) :: r else (k, x) :: putF f v r) from rfl]
    by_cases hk : k = f
    · rw [if_pos hk, List.length_cons, List.length_cons]; omega
    · rw [if_neg hk, List.length_cons, List.length_cons]; omega

theorem RelO.some_of {v : V} {o : Option Value} (r : RelO (some v) o) : ∃ u, o = some u ∧ RelV v u := by
  cases o with
  | none => exact (show False from r).elim
  | some u => exact ⟨u, rfl, r⟩
theorem RelO.none_of {o : Option Value} (r : RelO none o) : o = none := by
  cases o with
  | none => rfl
  | some u => exact (show False from r).elim
theorem handed_of {v : V} {u : Value} (r : RelV v u) : PySem.W.handedIn u = true := by
  cases v with
  | non => cases (show u = Value.none from r); rfl
  | bl b => cases (show u = Value.bool b from r); rfl
  | int i => obtain ⟨t, e⟩ := (show ∃ t, u = Value.int i t from r); cases e; rfl
  | str x => obtain ⟨t, e⟩ := (show ∃ t, u = Value.str x t from r); cases e; rfl
  | byt b => obtain ⟨t, e⟩ := (show ∃ t, u = Value.bytes b t from r); cases e; rfl
  | flt b => obtain ⟨t, e⟩ := (show ∃ t, u = Value.float b t from r); cases e; rfl
  | ref a => cases (show u = Value.ref a from r); rfl
  | ty n => cases (show u = Value.type n from r); rfl

section
variable {P : Program} {w : World} {H H' : Hp} {h h' : Heap} {a C dx : Addr} {fs fs' : List (Str × V)}
theorem ins_get (hok : HOk P w H h) (e : H a = some (.ins C dx fs)) : ∃ mA, ObjM h a dx C mA ∧ (∀ f, RelO (fs.lookup f) (mA f)) ∧ PySem.Within mA (fs.map (·.1)) ∧ fs.length ≤ 1000 ∧ H dx = some (.own a) := by
  obtain ⟨d, z, ne, ob, mA, n, r, q⟩ := (show ObjOk P w H h a (.ins C dx fs) from hok a _ e)
  exact ⟨mA, ⟨ob, n, ne⟩, r, q, z, d⟩
end

structure Cls (K : PySem.W.Frag) (C : Addr) : Prop where
  pg : PySem.W.plainGet K C Str.empty = true
  hd : PySem.W.hasDictIn K C = true
  po : PySem.W.plainOver K C = true
  sa : PySem.W.findIn K (.ref C) "__setattr__" = some (some (.builtin "object.__setattr__"))
theorem Cls.get {K : PySem.W.Frag} {C : Addr} (c : Cls K C) (f : Str) : PySem.W.plainGet K C f = true := c.pg
def NoAttr (K : PySem.W.Frag) (C : Addr) (f : Str) : Prop := PySem.W.findIn K (.ref C) f = some none
theorem NoAttr.taker {K : PySem.W.Frag} {C : Addr} {f : Str} (n : NoAttr K C f) : PySem.W.takerIn K C f = some none := by
  unfold PySem.W.takerIn
  rw [show PySem.W.findIn K (.ref C) f = some none from n]
  rfl
structure Meth (K : PySem.W.Frag) (C : Addr) (m : Str) (f : Addr) : Prop where
  at_ : PySem.W.findIn K (.ref C) m = some (some (.ref f))
  fn : PySem.W.isFn K (.ref f) = true
  kp : PySem.W.keepIn K (.ref f) = true

section
variable {X : Cx} {pins : List (Addr × Obj)} {σ : St} {H : Hp} {s : Shared} {a C dx : Addr} {fs : List (Str × V)} {f : Str} {v : V} {A : Around} {E : Value → Shared → Prop}

theorem getattr_ok {b : Bool} {Q : Value → Shared → Prop} (I : Inv X pins σ H s) (e : H a = some (.ins C dx fs)) (c : Cls X.K C) (n : NoAttr X.K C f) (l : fs.lookup f = some v)
    (h : ∀ u s', Inv X pins σ H s' → RelV v u → Q u s') : wpAny (model X.prog X.w) A (getAttr (.ref a) f b) Q E s := by
  obtain ⟨mA, O, r, _, _, _⟩ := ins_get I.hok e
  obtain ⟨u, hu, ru⟩ := RelO.some_of (v := v) (o := mA f) (by rw [← l]; exact r f)
  exact get_map I.kIn O (c.get f) c.hd n hu (handed_of ru) (h u _ (I.tok _) ru)

theorem getmeth_ok {m : Str} {g : Addr} {pl : Sem Bool} {Q : Value × List Value → Shared → Prop} (I : Inv X pins σ H s) (e : H a = some (.ins C dx fs)) (c : Cls X.K C) (k : Meth X.K C m g) (l : fs.lookup m = none)
    (h : Q (.ref g, [.ref a]) s) : wpAny (model X.prog X.w) A (getMethod (.ref a) m pl) Q E s := by
  obtain ⟨mA, O, r, _, _, _⟩ := ins_get I.hok e
  have hn : mA m = none := RelO.none_of (by rw [← l]; exact r m)
  exact get_meth I.kIn O (c.get m) k.at_ k.fn hn h

theorem setattr_ok {y : V} {u : Value} {Q : Unit → Shared → Prop} (I : Inv X pins σ H s) (e : H a = some (.ins C dx fs)) (c : Cls X.K C) (n : NoAttr X.K C f) (hl : fs.length < 1000) (ry : RelV y u)
    (h : ∀ s', Inv X pins σ (upd H a (.ins C dx (putF f y fs))) s' → Q () s') : wpAny (model X.prog X.w) A (setAttr (.ref a) f u) Q E s := by
  obtain ⟨mA, O, r, wi, _, ho⟩ := ins_get I.hok e
  have hz : (fs.map (·.1)).length ≤ sizeLine := by rw [List.length_map, sizeLine_eq]; omega
  refine set_map I.kIn O c.sa c.po n.taker c.hd wi hz fun h' O' sb => h _ ?_
  have hd : ∃ o, h'.get? dx = some o := let ⟨o, _, _, e', _⟩ := O'.ns; ⟨o, e'⟩
  refine I.write (x := a) (e := dx) (by rw [e]; exact True.intro) (.inr ho) (fun b q hb z => (sb.2 b hb).trans z) hd ?_
  refine ⟨by rw [upd_ne O.ne]; exact ho, ?_, O.ne, O'.obj, _, O'.ns, fun g => ?_, fun g hg => ?_⟩
  · have := length_putF f y fs; omega
  · show RelO ((putF f y fs).lookup g) (if g = f then some u else mA g)
    rw [lookup_putF]
    by_cases q : g = f
    · rw [if_pos q, if_pos q]; exact ry
    · rw [if_neg q, if_neg q]; exact r g
  · by_cases q : g = f
    · rw [q]; exact (keys_putF f y fs).1
    · refine (keys_putF f y fs).2 g (wi g fun z => hg ?_)
      show (if g = f then some u else mA g) = none
      rw [if_neg q]; exact z

theorem Inv.made (I : Inv X pins σ H s) : Inv X pins σ (upd (upd H s.heap.objs.size (.own (s.heap.objs.size + 1))) (s.heap.objs.size + 1) (.ins C s.heap.objs.size []))
    { s with heap := (s.heap.push PySem.W.emptyDict).push (PySem.W.instObj C s.heap.objs.size) } := by
  have e1 : (s.heap.push PySem.W.emptyDict).get? s.heap.objs.size = some PySem.W.emptyDict := Heap.get?_push_size s.heap rfl
  have e2 : ((s.heap.push PySem.W.emptyDict).push (PySem.W.instObj C s.heap.objs.size)).get? (s.heap.objs.size + 1) = some (PySem.W.instObj C s.heap.objs.size) := by
    have := Heap.get?_push_size (s.heap.push PySem.W.emptyDict) (o := PySem.W.instObj C s.heap.objs.size) rfl
    rwa [Heap.size_push] at this
  have e3 : (s.heap.push PySem.W.emptyDict).Ns s.heap.objs.size (fun _ => none) := ⟨PySem.W.emptyDict, #[], _, e1, rfl, (fun e he => absurd he (by simp)), fun _ => rfl⟩
  have I1 := I.laid (a := s.heap.objs.size) (o := .own (s.heap.objs.size + 1)) (h' := s.heap.push PySem.W.emptyDict) (t' := s.toks) (fun b u q => Heap.get?_push_of_some _ q) (Nat.le_refl _) ⟨_, e1⟩
  refine I1.laid (a := s.heap.objs.size + 1) (o := .ins C s.heap.objs.size []) (t' := s.toks) (fun b u q => Heap.get?_push_of_some _ q) (Nat.le_of_eq (Heap.size_push _ _)) ?_
  have ne : s.heap.objs.size ≠ s.heap.objs.size + 1 := Nat.ne_of_lt (Nat.lt_succ_self _)
  refine ⟨by rw [upd_ne ne, upd_same], Nat.zero_le _, ne, e2, fun _ => none, (Heap.Ns1.of_empty e3).at fun o q => Heap.get?_push_of_some _ q, fun _ => True.intro, fun y hy => absurd rfl hy⟩

theorem attr_of {prog : Program} {w : World} {env : Env} {e : Expr} {f : Str} {pos : Pos} {s : Shared} {Q : Value → Shared → Prop} (hb : attributeBase e f env (eval e env) = eval e env)
    (h : wpAny (model prog w) A (eval e env) (fun o s₁ => wpAny (model prog w) A (getAttr o f true) Q E s₁) E s) : wpAny (model prog w) A (eval (.Attribute e f pos) env) Q E s :=
  Attribute_any_ h (by rw [arm_eval_Attribute, hb])
end

def tFld (K : PySem.W.Frag) (ta : TE) (f : Str) : TE := fun σ H Q => ta σ H fun x H1 => ∃ a C dx fs v, x = .ref a ∧ H1 a = some (.ins C dx fs) ∧ Cls K C ∧ NoAttr K C f ∧ fs.lookup f = some v ∧ Q v H1
def sFld (K : PySem.W.Frag) (ta tv : TE) (f : Str) : TS := fun D σ H => tv σ H fun y H1 => ta σ H1 fun x H2 => ∃ a C dx fs, x = .ref a ∧ H2 a = some (.ins C dx fs) ∧ Cls K C ∧ NoAttr K C f ∧ fs.length < 1000 ∧
  D.nx σ (upd H2 a (.ins C dx (putF f y fs)))
section
variable {X : Cx} {o e value : Expr} {f : Str} {pos pos' tpos : Pos} {ta tv : TE}
theorem pe_fld (he : PE X e ta) (hb : attributeBase e f X.env (eval e X.env) = eval e X.env) : PE X (.Attribute e f pos) (tFld X.K ta f) := by
  intro pins s σ H Q I h
  refine attr_of hb (thn (he pins s σ H _ I h) fun u s1 ⟨x, H1, I1, rx, a, C, dx, fs, v, ex, ea, c, n, l, q⟩ => ?_)
  subst ex
  obtain rfl : u = Value.ref a := rx
  exact getattr_ok I1 ea c n l fun u' s2 I2 ru => ⟨v, H1, I2, ru, q⟩
theorem ps_fld (ha : PE X o ta) (hv : PE X value tv) (hs : swapsWith value (some (.Attribute o f pos')) pos.line X.env = pure false) : PS X (.Assign [.Attribute o f pos'] value pos) (sFld X.K ta tv f) := by
  intro pins s σ H D I h
  refine plainObj_wpAny_Assign_Attribute (thn (hv pins s σ H _ I h) fun u s1 ⟨y, H1, I1, ry, q⟩ => thn (ha pins s1 σ H1 _ I1 q) fun ov s2 ⟨x, H2, I2, rx, a, C, dx, fs, ex, ea, c, n, l, q2⟩ => ?_) hs
  subst ex
  obtain rfl : ov = Value.ref a := rx
  exact setattr_ok I2 ea c n l ry fun s3 I3 => ⟨σ, _, I3, q2⟩
end

section
variable {X : Cx} {pins : List (Addr × Obj)} {σ : St} {H : Hp} {s : Shared} {A : Around} {E : Value → Shared → Prop} {Q : Value → Shared → Prop} {c : Value} {b : Bool}
end
end L2

namespace L2
open PySem PySem.Spec PyProof.Rows

structure Room (k : Nat) (A : Around) : Prop where
  hd : A.handled = none
  dp : A.depth + 3 * k + 5 < recursionLimit
  un : A.units + 16 * k + 200 < cLine
theorem Room.mono {j k : Nat} {A : Around} (r : Room k A) (h : j ≤ k) : Room j A := ⟨r.hd, by have := r.dp; omega, by have := r.un; omega⟩
theorem Room.deeper {k : Nat} {A : Around} (r : Room (k + 1) A) (env : Env) : Room k (A.deeper env) :=
  ⟨r.hd, by have := r.dp; show A.depth + 1 + 3 * k + 5 < _; omega, by have := r.un; show A.units + 3 + 16 * k + 200 < _; omega⟩
theorem make_depth {A : Around} {C : Addr} {us : List Value} {kw : List (Str × Value)} : (A.under (.builtin "type.__call__" ⟨.ref C :: us, kw⟩)).depth = A.depth + 1 := by
  first | rfl | simp [Around.under, Code.weight, Code.isCreation, Code.isGuard, Code.isCaller, Code.frames, Code.isFrame, guardIds]
theorem make_units {A : Around} {C : Addr} {us : List Value} {kw : List (Str × Value)} : (A.under (.builtin "type.__call__" ⟨.ref C :: us, kw⟩)).units = A.units + 1 := by
  first | rfl | simp [Around.under, Code.cUnits, Code.frames, Code.isFrame]
theorem Room.make {k : Nat} {A : Around} (r : Room (k + 1) A) (C : Addr) (us : List Value) (kw : List (Str × Value)) : Room k (A.under (.builtin "type.__call__" ⟨.ref C :: us, kw⟩)) :=
  ⟨r.hd, by have := r.dp; rw [make_depth]; omega, by have := r.un; rw [make_units]; omega⟩
theorem Room.depth {k : Nat} {A : Around} (r : Room k A) : A.depth < recursionLimit := by have := r.dp; omega
theorem Room.units {k : Nat} {A : Around} (r : Room k A) : A.units + 64 < cLine := by have := r.un; omega
def tNil : TA := fun _ H Q => Q [] H
def tCons (ta : TE) (tr : TA) : TA := fun σ H Q => ta σ H fun x H1 => tr σ H1 fun xs H2 => Q (x :: xs) H2
section
variable {X : Cx} {e : Expr} {es : List Expr} {te : TE} {t : TA} {pos : Pos}
theorem pa_nil : PA X [] tNil := fun _ _ _ _ H Q I h => Calls.spliced_nil ⟨[], H, I, .nil, h⟩
theorem pa_cons (ha : PE X e te) (hr : PA X es t) (hs : starEach (e :: es) X.env = (false, eval e X.env) :: starEach es X.env := by rfl) : PA X (e :: es) (tCons te t) := by
  intro pos pins s σ H Q I h
  rw [hs]
  show wpAny _ _ (spliced ((false, eval e X.env) :: backTo pos (starEach es X.env))) _ _ s
  refine Calls.spliced_cons (thn (ha pins s σ H _ I h) fun u s1 ⟨x, H1, I1, r1, q1⟩ => ?_)
  exact thn (hr pos pins s1 σ H1 _ I1 q1) fun us s2 ⟨xs, H2, I2, r2, q2⟩ => ⟨x :: xs, H2, I2, .cons r1 r2, q2⟩

def tTup (t : TA) : TE := fun σ H Q => t σ H fun xs H1 => xs.length ≤ sizeLine ∧ ∀ p, H1 p = none → Q (.ref p) (upd H1 p (.tup xs))
def tLst (t : TA) : TE := fun σ H Q => t σ H fun xs H1 => xs.length ≤ sizeLine ∧ ∀ p, H1 p = none → Q (.ref p) (upd H1 p (.lst xs))
theorem pe_tup {x1} (h : PA X es t) : PE X (.Tuple es x1 pos) (tTup t) := by
  intro pins s σ H Q I hq
  refine wpAny_Tuple_spliced (thn (h pos pins s σ H _ I hq) fun us s1 ⟨xs, H1, I1, r, z, q⟩ => ⟨by rw [← r.length]; exact z, ?_⟩)
  have hf : H1 s1.heap.objs.size = none := I1.hok.fresh (Nat.le_refl _)
  refine ⟨.ref s1.heap.objs.size, upd H1 s1.heap.objs.size (.tup xs), I1.laid (t' := s1.toks) (fun b u e => Heap.get?_push_of_some _ e) (Nat.le_refl _) ?_, rfl, q _ hf⟩
  exact ⟨z, us, r, ⟨_, Heap.get?_push_size _ rfl, rfl, _, rfl⟩⟩
theorem pe_lst (h : PA X es t) : PE X (.List es pos) (tLst t) := by
  intro pins s σ H Q I hq
  refine wpAny_List_spliced (thn (h pos pins s σ H _ I hq) fun us s1 ⟨xs, H1, I1, r, z, q⟩ => ⟨by rw [← r.length]; exact z, ?_⟩)
  have hf : H1 s1.heap.objs.size = none := I1.hok.fresh (Nat.le_refl _)
  refine ⟨.ref s1.heap.objs.size, upd H1 s1.heap.objs.size (.lst xs), I1.laid (t' := s1.toks) (fun b u e => Heap.get?_push_of_some _ e) (Nat.le_refl _) ?_, rfl, q _ hf⟩
  exact ⟨z, us, 0, r, Heap.get?_push_size _ rfl⟩
end

abbrev Sp := List V → Hp → VK → XK → Prop
abbrev CXT := List Env → Hp → Shared → XK → Value → Shared → Prop

structure Env0 (P : Program) (w : World) (K : PySem.W.Frag) (mg : Str → Option Value) (base : Heap) (A : Around) (outer : List Env) (s : Shared) (H : Hp) : Prop where
  frames : A.frames = some outer
  mod : Mod K mg base
  bs : ∀ b o, base.get? b = some o → s.heap.get? b = some o ∧ H b = none
  bsz : base.objs.size ≤ s.heap.objs.size
  funs : s.heap.FunFrames base outer
  frf : ∀ b ∈ frs outer, H b = none
  hok : HOk P w H s.heap
  bare : AllBare s.gens
def CE (outer : List Env) (P : Program) (w : World) (H : Hp) (s : Shared) (Q : VK) (u : Value) (s' : Shared) : Prop :=
  ∃ v H', s'.os = s.os ∧ AllBare s'.gens ∧ Un (frs outer) [] H H' s.heap s'.heap ∧ HOk P w H' s'.heap ∧ RelV v u ∧ Q v H'
def CR (CX : CXT) (outer : List Env) (P : Program) (w : World) (H : Hp) (s : Shared) (Q : VK) (E : XK) (r : Result) (s' : Shared) : Prop :=
  match r with
  | .ok (.ret u) => CE outer P w H s Q u s'
  | .ok _ => False
  | .error e => CX outer H s E e s'
structure FnOk (P : Program) (w : World) (K : PySem.W.Frag) (mg : Str → Option Value) (base : Heap) (CX : CXT) (k : Nat) (f : Addr) (fd : FuncData) (ps : List Str) (sp : Sp) : Prop where
  len : ∀ vs H Q E, sp vs H Q E → vs.length = ps.length
  run : ∀ (A : Around) (outer : List Env) (s : Shared) (H : Hp) (args : Args) (us : List Value) (vs : List V) (Q : VK) (E : XK), Room k A → Env0 P w K mg base A outer s H → BindsTo s fd args (ps.zip us) → Vals vs us → sp vs H Q E →
    codeAny (model P w) A (.call (.ref f) args) (CR CX outer P w H s Q E) s
theorem Env0.make {P : Program} {w : World} {K : PySem.W.Frag} {mg : Str → Option Value} {base : Heap} {A : Around} {outer : List Env} {s : Shared} {H : Hp} (e : Env0 P w K mg base A outer s H) (C : Addr) (us : List Value) (kw : List (Str × Value)) :
    Env0 P w K mg base (A.under (.builtin "type.__call__" ⟨.ref C :: us, kw⟩)) outer s H := ⟨by first | exact e.frames | (simpa [Around.under, Code.envs, Code.isFrame, pushEnvs] using e.frames), e.mod, e.bs, e.bsz, e.funs, e.frf, e.hok, e.bare⟩
section
variable {X : Cx} {pins : List (Addr × Obj)} {σ : St} {H : Hp} {s s' : Shared}
theorem Inv.env0 (I : Inv X pins σ H s) : Env0 X.prog X.w X.K X.mg X.base X.A X.stack s H :=
  ⟨I.ok.frames, I.ok.mod, I.bs, Nat.le_trans I.ok.bsz I.sz, I.stack, I.stkFree, I.hok, I.bare⟩
theorem Inv.after {Q : VK} {u : Value} (I : Inv X pins σ H s) (h : CE X.stack X.prog X.w H s Q u s') : EP X pins σ Q u s' := by
  obtain ⟨v, H', os, bare, un, hok, r, q⟩ := h
  obtain ⟨hh, g, d, t, os'⟩ := s'
  obtain rfl : os' = s.os := os
  exact ⟨v, H', I.call (h' := hh) (g' := g) (d' := d) (t' := t) (ch := []) un hok bare (fun b z => absurd z (by simp)), r, q⟩
end

def tCall (sp : Sp) (dvs : List V) (E : XK) (t : TA) : TE := fun σ H Q => t σ H fun vs H1 => sp (vs ++ dvs) H1 Q E
def tMeth (C : Addr) (m : Str) (sp : Sp) (dvs : List V) (E : XK) (ta : TE) (t : TA) : TE := fun σ H Q => ta σ H fun x H1 => ∃ a dx fs, x = .ref a ∧ H1 a = some (.ins C dx fs) ∧ fs.lookup m = none ∧
  t σ H1 fun vs H2 => sp (x :: (vs ++ dvs)) H2 Q E
def tMake (C : Addr) (sp : Sp) (dvs : List V) (E : XK) (t : TA) : TE := fun σ H Q => t σ H fun vs H1 => ∀ x dx, H1 x = none → H1 dx = none → dx ≠ x →
  sp (.ref x :: (vs ++ dvs)) (upd (upd H1 dx (.own x)) x (.ins C dx [])) (fun v H2 => v = .non ∧ Q (.ref x) H2) E

def Binds (K : PySem.W.Frag) (fd : FuncData) (ps : List Str) (ds : List Value) : Prop :=
  ∀ (s : Shared) (us : List Value), K.In s.heap → (us ++ ds).length = ps.length → BindsTo s fd ⟨us, []⟩ (ps.zip (us ++ ds))
theorem Binds.all {K : PySem.W.Frag} {fd : FuncData} {ps : List Str} (h : ∀ us : List Value, us.length = ps.length → bindArgs fd ⟨us, []⟩ = pure (ps.zip us)) : Binds K fd ps [] := fun s us _ hl => by
  rw [List.append_nil] at hl ⊢
  exact .of_eq (h us hl)

def Passes (CX : CXT) (X : Cx) (E : XK) : Prop := ∀ (pins : List (Addr × Obj)) (σ : St) (H : Hp) (s : Shared) (e : Value) (s' : Shared), Inv X pins σ H s → CX X.stack H s E e s' → X.xe e s'

section
variable {X : Cx} {CX : CXT} {k : Nat} {f C : Addr} {fd : FuncData} {ps : List Str} {sp : Sp} {dvs : List V} {ds : List Value} {E : XK} {x m : Str} {p pos apos : Pos} {e o : Expr} {es : List Expr} {ta : TE} {t : TA}

theorem run_fn {pins : List (Addr × Obj)} {σ : St} {H : Hp} {s : Shared} {Q : VK} {us : List Value} {vs : List V} (F : FnOk X.prog X.w X.K X.mg X.base CX k f fd ps sp) (hr : Room k X.A) (hb : Binds X.K fd ps ds) (hd : Vals dvs ds) (hx : Passes CX X E)
    (I : Inv X pins σ H s) (r : Vals vs us) (h : sp (vs ++ dvs) H Q E) : wpAny (model X.prog X.w) X.A (call (.ref f) us) (EP X pins σ Q) X.xe s := by
  have r2 : Vals (vs ++ dvs) (us ++ ds) := r.append hd
  have hl : (us ++ ds).length = ps.length := by rw [← r2.length]; exact F.len _ _ _ _ h
  refine wpAny_call (codeAny_mono (F.run X.A X.stack s H ⟨us, []⟩ (us ++ ds) (vs ++ dvs) Q E hr I.env0 (hb s us I.kIn hl) r2 h) fun r s' hq => ?_)
  cases r with
  | error e => exact hx pins σ H s e s' I hq
  | ok fl =>
    cases fl with
    | ret u => exact I.after hq
    | next => exact False.elim hq
    | brk => exact False.elim hq
    | cont => exact False.elim hq

theorem pe_call (F : FnOk X.prog X.w X.K X.mg X.base CX k f fd ps sp) (hr : Room k X.A) (hg : Gl X x) (hm : X.mg x = some (.ref f)) (hk : PySem.W.keepIn X.K (.ref f) = true) (hb : Binds X.K fd ps ds) (hd : Vals dvs ds) (hx : Passes CX X E)
    (ha : PA X (e :: es) t) (hdb : (x == ("__debug__" : Str)) = false := by decide) (he : starEach (e :: es) X.env = (false, eval e X.env) :: starEach es X.env := by rfl) (hpl : (backTo pos (starEach es X.env)).any (·.1) = false := by rfl) :
    PE X (.Call (.Name x p) (e :: es) [] pos) (tCall sp dvs E t) := by
  intro pins s σ H Q I h
  refine wpAny_Call_Name_kw (ld_glob I hg hm ?_ hdb)
  refine PySem.W.callWith_K (h₀ := X.base) I.ok.mod.kin hk (thn (ha pos pins s σ H _ I h) fun us s1 ⟨vs, H1, I1, r, q⟩ => ⟨I1.kIn, ?_⟩) he hpl
  exact run_fn F hr hb hd hx I1 r q
theorem pe_meth {pl : Sem Bool} (he : PE X o ta) (c : Cls X.K C) (hm : Meth X.K C m f) (F : FnOk X.prog X.w X.K X.mg X.base CX k f fd ps sp) (hr : Room k X.A) (hb : Binds X.K fd ps ds) (hd : Vals dvs ds) (hx : Passes CX X E) (ha : PA X (e :: es) t)
    (hst : starEach (e :: es) X.env = (false, eval e X.env) :: starEach es X.env := by rfl) (hpl : (backTo pos (starEach es X.env)).any (·.1) = false := by rfl)
    (ht : eval (.Call (.Attribute o m apos) (e :: es) [] pos) X.env = (do
      let ov ← eval o X.env
      standAt apos.atName
      let (f, first) ← holding [ov] (getMethod ov m pl)
      callWith pos f first (backTo pos (starEach (e :: es) X.env)) (backToKw pos (keywordEach [] X.env))) := by rfl) :
    PE X (.Call (.Attribute o m apos) (e :: es) [] pos) (tMeth C m sp dvs E ta t) := by
  intro pins s σ H Q I h
  refine PySem.W.methodCall_KW (pl := pl) (thn (he pins s σ H _ I h) fun u s1 ⟨x, H1, I1, rx, a, dx, fs, ex, ea, l, q⟩ => ?_) ht
  subst ex
  obtain rfl : u = Value.ref a := rx
  refine getmeth_ok I1 ea c hm l ?_
  refine PySem.W.callWith_K (first := [.ref a]) (h₀ := X.base) I.ok.mod.kin hm.kp (thn (ha pos pins s1 σ H1 _ I1 q) fun us s2 ⟨vs, H2, I2, r, q2⟩ => ⟨I2.kIn, ?_⟩) hst hpl
  exact run_fn (us := .ref a :: us) (vs := .ref a :: vs) F hr hb hd hx I2 (.cons rfl r) q2
theorem pe_meth0 {pl : Sem Bool} (he : PE X o ta) (c : Cls X.K C) (hm : Meth X.K C m f) (F : FnOk X.prog X.w X.K X.mg X.base CX k f fd ps sp) (hr : Room k X.A) (hb : Binds X.K fd ps ds) (hd : Vals dvs ds) (hx : Passes CX X E)
    (ht : eval (.Call (.Attribute o m apos) [] [] pos) X.env = (do
      let ov ← eval o X.env
      standAt apos.atName
      let (f, first) ← holding [ov] (getMethod ov m pl)
      callWith pos f first (backTo pos (starEach [] X.env)) (backToKw pos (keywordEach [] X.env))) := by rfl) :
    PE X (.Call (.Attribute o m apos) [] [] pos) (tMeth C m sp dvs E ta tNil) := by
  intro pins s σ H Q I h
  refine PySem.W.methodCall_KW (pl := pl) (thn (he pins s σ H _ I h) fun u s1 ⟨x, H1, I1, rx, a, dx, fs, ex, ea, l, q⟩ => ?_) ht
  subst ex
  obtain rfl : u = Value.ref a := rx
  refine getmeth_ok I1 ea c hm l ?_
  exact PySem.W.callWith_K0 (first := [.ref a]) I1.kIn hm.kp (run_fn (us := [.ref a]) (vs := [.ref a]) F hr hb hd hx I1 (.cons rfl .nil) q)

structure Mk (K : PySem.W.Frag) (C f : Addr) : Prop where
  makes : PySem.W.makesIn K C = true
  init : PySem.W.findIn K (.ref C) "__init__" = some (some (.ref f))
  fn : PySem.W.isFn K (.ref f) = true
  kp : PySem.W.keepIn K (.ref C) = true

theorem run_make {pins : List (Addr × Obj)} {σ : St} {H : Hp} {s : Shared} {Q : VK} {us : List Value} {vs : List V} (M : Mk X.K C f) (F : FnOk X.prog X.w X.K X.mg X.base CX k f fd ps sp) (hr : Room (k + 1) X.A) (hb : Binds X.K fd ps ds) (hd : Vals dvs ds)
    (hx : Passes CX X E) (I : Inv X pins σ H s) (r : Vals vs us)
    (h : ∀ x dx, H x = none → H dx = none → dx ≠ x → sp (.ref x :: (vs ++ dvs)) (upd (upd H dx (.own x)) x (.ins C dx [])) (fun v H2 => v = .non ∧ Q (.ref x) H2) E) :
    wpAny (model X.prog X.w) X.A (call (.ref C) us) (EP X pins σ Q) X.xe s := by
  have hq := h (s.heap.objs.size + 1) s.heap.objs.size (I.hok.fresh (Nat.le_succ _)) (I.hok.fresh (Nat.le_refl _)) (Nat.ne_of_lt (Nat.lt_succ_self _))
  have I2 := Inv.made (C := C) I
  have r2 : Vals (V.ref (s.heap.objs.size + 1) :: (vs ++ dvs)) (Value.ref (s.heap.objs.size + 1) :: (us ++ ds)) := .cons rfl (r.append hd)
  have hl : (Value.ref (s.heap.objs.size + 1) :: us ++ ds).length = ps.length := by
    have e := r2.length
    rw [F.len _ _ _ _ hq] at e
    exact e.symm
  refine wpAny_call (make_map (f := f) I.kIn M.makes M.init (beq_iff_eq.mp M.fn) (codeAny_mono (F.run _ X.stack _ _ ⟨Value.ref (s.heap.objs.size + 1) :: us, []⟩ (Value.ref (s.heap.objs.size + 1) :: (us ++ ds)) _ _ E (hr.make C us [])
    (I2.env0.make C us []) (hb _ (Value.ref (s.heap.objs.size + 1) :: us) I2.kIn hl) r2 hq) fun r s' hq' => ?_))
  cases r with
  | error e => exact hx pins σ _ _ e s' I2 hq'
  | ok fl =>
    cases fl with
    | ret u =>
      obtain ⟨v, H', I3, rv, ev, q3⟩ := I2.after hq'
      subst ev
      exact ⟨rv, ⟨V.ref (s.heap.objs.size + 1), H', I3, rfl, q3⟩⟩
    | next => exact False.elim hq'
    | brk => exact False.elim hq'
    | cont => exact False.elim hq'
theorem pe_make (M : Mk X.K C f) (F : FnOk X.prog X.w X.K X.mg X.base CX k f fd ps sp) (hr : Room (k + 1) X.A) (hg : Gl X x) (hm : X.mg x = some (.ref C)) (hb : Binds X.K fd ps ds) (hd : Vals dvs ds) (hx : Passes CX X E)
    (ha : PA X (e :: es) t) (hdb : (x == ("__debug__" : Str)) = false := by decide) (he : starEach (e :: es) X.env = (false, eval e X.env) :: starEach es X.env := by rfl) (hpl : (backTo pos (starEach es X.env)).any (·.1) = false := by rfl) :
    PE X (.Call (.Name x p) (e :: es) [] pos) (tMake C sp dvs E t) := by
  intro pins s σ H Q I h
  refine wpAny_Call_Name_kw (ld_glob I hg hm ?_ hdb)
  refine PySem.W.callWith_K (h₀ := X.base) I.ok.mod.kin M.kp (thn (ha pos pins s σ H _ I h) fun us s1 ⟨vs, H1, I1, r, q⟩ => ⟨I1.kIn, ?_⟩) he hpl
  exact run_make M F hr hb hd hx I1 r q
theorem pe_make0 (M : Mk X.K C f) (F : FnOk X.prog X.w X.K X.mg X.base CX k f fd ps sp) (hr : Room (k + 1) X.A) (hg : Gl X x) (hm : X.mg x = some (.ref C)) (hb : Binds X.K fd ps ds) (hd : Vals dvs ds) (hx : Passes CX X E)
    (hdb : (x == ("__debug__" : Str)) = false := by decide) : PE X (.Call (.Name x p) [] [] pos) (tMake C sp dvs E tNil) := by
  intro pins s σ H Q I h
  refine wpAny_Call_Name_kw (ld_glob I hg hm ?_ hdb)
  exact PySem.W.callWith_K0 I.kIn M.kp (run_make (us := []) M F hr hb hd hx I .nil h)
end

section
variable {X : Cx} {CX : CXT} {k : Nat} {f C : Addr} {fd : FuncData} {ps ks : List Str} {sp : Sp} {E : XK} {x m : Str} {p pos apos kpos : Pos} {e o : Expr} {es : List Expr} {kws : List Keyword} {te ta : TE} {t tk : TA} {nm : Option Str}
variable {g : List Value → List Value → List Value} {gV : List V → List V → List V}
end

structure FnScope (N P : List Str) (sc : Scope) : Prop where
  kind : sc.kind = .function
  co : sc.isCoroutine = false
  gen : sc.isGenerator = false
  nd : N.Nodup
  pre : N.take P.length = P
  par : ∀ x ∈ P, sc.names.lookup x = some .local ∨ sc.names.lookup x = some .cell
  nofree : ∀ y ∈ sc.names, y.2 ≠ .free

theorem bindL_out {kindOf : Str → Option NameKind} {x : Str} : ∀ {binds : List (Str × Value)} {m : Str → Option Value}, (∀ v, (x, v) ∉ binds) → bindL kindOf binds m x = m x
  | [], _, _ => rfl
  | (n, v) :: r, m, h => by
    unfold bindL
    rw [bindL_out fun w hw => h w (List.mem_cons_of_mem _ hw)]
    split
    · have : x ≠ n := by rintro rfl; exact h v List.mem_cons_self
      simp [this]
    · rfl
theorem bindC_out {kindOf : Str → Option NameKind} {x : Str} : ∀ {binds : List (Str × Value)} {m : Str → Option Value}, (∀ v, (x, v) ∉ binds) → bindC kindOf binds m x = m x
  | [], _, _ => rfl
  | (n, v) :: r, m, h => by
    unfold bindC
    rw [bindC_out fun w hw => h w (List.mem_cons_of_mem _ hw)]
    split
    · rfl
    · have : x ≠ n := by rintro rfl; exact h v List.mem_cons_self
      simp [this]
theorem bindL_get {kindOf : Str → Option NameKind} {x : Str} {v : Value} : ∀ {P : List Str} {vs : List Value} {i : Nat} {m : Str → Option Value}, P.Nodup → P[i]? = some x → vs[i]? = some v → kindOf x = some .local →
    bindL kindOf (P.zip vs) m x = some v
  | [], _, _, _, _, h, _, _ => by simp at h
  | _ :: _, [], _, _, _, _, h, _ => by simp at h
  | p :: P, w :: vs, 0, m, nd, h1, h2, hk => by
    simp at h1 h2; subst h1; subst h2
    show bindL kindOf ((p, w) :: P.zip vs) m p = _
    unfold bindL
    rw [bindL_out fun v hv => (List.nodup_cons.mp nd).1 (List.of_mem_zip hv).1, if_pos hk]
    simp
  | p :: P, w :: vs, i + 1, m, nd, h1, h2, hk => by
    show bindL kindOf ((p, w) :: P.zip vs) m x = _
    unfold bindL
    exact bindL_get (i := i) (List.nodup_cons.mp nd).2 (by simpa using h1) (by simpa using h2) hk
theorem bindC_get {kindOf : Str → Option NameKind} {x : Str} {v : Value} : ∀ {P : List Str} {vs : List Value} {i : Nat} {m : Str → Option Value}, P.Nodup → P[i]? = some x → vs[i]? = some v → kindOf x ≠ some .local →
    bindC kindOf (P.zip vs) m x = some v
  | [], _, _, _, _, h, _, _ => by simp at h
  | _ :: _, [], _, _, _, _, h, _ => by simp at h
  | p :: P, w :: vs, 0, m, nd, h1, h2, hk => by
    simp at h1 h2; subst h1; subst h2
    show bindC kindOf ((p, w) :: P.zip vs) m p = _
    unfold bindC
    rw [bindC_out fun v hv => (List.nodup_cons.mp nd).1 (List.of_mem_zip hv).1, if_neg hk]
    simp
  | p :: P, w :: vs, i + 1, m, nd, h1, h2, hk => by
    show bindC kindOf ((p, w) :: P.zip vs) m x = _
    unfold bindC
    exact bindC_get (i := i) (List.nodup_cons.mp nd).2 (by simpa using h1) (by simpa using h2) hk

def start (N : List Str) (vs : List V) : St := vs.map some ++ List.replicate (N.length - vs.length) none

def cxOf (CX : CXT) (P : Program) (w : World) (K : PySem.W.Frag) (mg : Str → Option Value) (base : Heap) (N : List Str) (qual : Str) (scope : Scope) (f : Addr) (cd : Value) (A : Around) (outer : List Env) (s : Shared) (H : Hp) (E : XK) : Cx where
  prog := P
  w := w
  K := K
  mg := mg
  base := base
  A := A.deeper (envOfC qual scope s.heap.objs.size f cd)
  N := N
  s_0 := s
  H_0 := H
  env := envOfC qual scope s.heap.objs.size f cd
  outer := outer
  stack := envOfC qual scope s.heap.objs.size f cd :: outer
  ex := []
  calm := true
  fn := fun _ => true
  pn := []
  xe := fun e s' => wpAny (model P w) (A.deeper (envOfC qual scope s.heap.objs.size f cd)) (leaving (envOfC qual scope s.heap.objs.size f cd) e) (fun _ s'' => CX outer H s E e s'') (fun e' s'' => CX outer H s E e' s'') s'

theorem cell_has {sc : Scope} {n : Nat} {x : Str} (h : sc.names.lookup x = some .cell) : ∃ c, (cellsFrom n sc.names []).lookup x = some c := by
  have q := PySem.W.cellsFrom_some sc.names n [] (.inl h)
  exact Option.isSome_iff_exists.mp q

theorem inv_start {CX : CXT} {P : Program} {w : World} {K : PySem.W.Frag} {mg : Str → Option Value} {base : Heap} {N ps : List Str} {qual : Str} {scope : Scope} {f : Addr} {cd : Value} {A : Around} {outer : List Env} {s s1 : Shared} {H : Hp} {E : XK} {us : List Value} {vs : List V}
    (S : FnScope N ps scope) (hd : A.handled = none) (e0 : Env0 P w K mg base A outer s H) (hl : vs.length = ps.length) (r : Vals vs us)
    (x : InCallC s s.heap.objs.size (bindL (envOfC qual scope s.heap.objs.size f cd).kindOf (ps.zip us) fun _ => none) (cellsFrom (s.heap.objs.size + 1) scope.names []) (bindC (envOfC qual scope s.heap.objs.size f cd).kindOf (ps.zip us) fun _ => none) s1) :
    Inv (cxOf CX P w K mg base N qual scope f cd A outer s H E) [] (start N vs) H s1 := by
  have hpl : ps.length ≤ N.length := by have := congrArg List.length S.pre; rw [List.length_take] at this; omega
  obtain ⟨h1, tk, rfl, hk⟩ := x.done
  have noA : ∀ b : Addr, b ∉ (cxOf CX P w K mg base N qual scope f cd A outer s H E).ex := fun b z => absurd (show b ∈ ([] : List Addr) from z) (by simp)
  refine ⟨⟨e0.mod, S.kind, rfl, rfl, Nat.le_refl _, fun y z c h1 h2 => ?_, fun y hy => ?_, fun y c _ h => ?_, fun _ => hd, Around.frames_deeper e0.frames, .inr ⟨rfl, rfl⟩, fun b z => absurd z (noA b), e0.bs, e0.bsz, fun b _ _ => noA b, fun b z => absurd z (noA b), e0.funs, e0.frf⟩,
    rfl, e0.bare, Un.kept hk, ⟨_, x.toInCall.ns, fun i y v h1 h2 h3 => ?_⟩, fun y c h => ⟨_, x.cell y c h⟩, e0.hok.fresh (Nat.le_refl _), fun y c h => ?_, fun p hp => absurd (show p ∈ ([] : List (Addr × Obj)) from hp) (by simp), e0.hok.kept hk, ?_⟩
  · exact name_of_addr x.apart (PySem.mem_of_lookup h1) (PySem.mem_of_lookup h2)
  · have hy : scope.names.lookup y = some .cell ∨ scope.names.lookup y = some .free := hy
    rcases hy with hy | hy
    · exact cell_has hy
    · exact absurd rfl (S.nofree _ (PySem.mem_of_lookup hy))
  · exact Nat.le_of_lt (x.above y c (PySem.mem_of_lookup h))
  · have hi : i < vs.length := by
      unfold start at h2
      by_cases hi : i < vs.length
      · exact hi
      · rw [List.getElem?_append_right (by simpa using hi)] at h2
        rw [List.getElem?_replicate] at h2
        split at h2 <;> cases h2
    have ha : vs[i]? = some v := by
      unfold start at h2
      rw [List.getElem?_append_left (by simpa using hi), List.getElem?_map] at h2
      cases e : vs[i]? with
      | none => rw [e] at h2; cases h2
      | some a => rw [e] at h2; cases h2; rfl
    obtain ⟨u, hu, rv⟩ := r.get ha
    have hp : ps[i]? = some y := by
      rw [← S.pre, List.getElem?_take_of_lt (by omega)]; exact h1
    have ndP : ps.Nodup := by rw [← S.pre]; exact S.nd.sublist (List.take_sublist _ _)
    refine ⟨u, rv, ?_⟩
    rcases S.par y (List.mem_of_getElem? hp) with k | k
    · exact .inl ⟨k, bindL_get ndP hp hu k⟩
    · obtain ⟨c, e⟩ := cell_has (n := s.heap.objs.size + 1) k
      refine .inr ⟨.inl k, c, e, ?_⟩
      have q := x.cell y c e
      rw [bindC_get ndP hp hu (by show scope.names.lookup y ≠ _; rw [k]; decide)] at q
      exact q
  · exact e0.hok.fresh (Nat.le_of_lt (x.above y c (PySem.mem_of_lookup h)))
  · unfold start
    show _ = N.length
    rw [List.length_append, List.length_map, List.length_replicate]
    omega

theorem fn_of {CX : CXT} {P : Program} {w : World} {K : PySem.W.Frag} {mg : Str → Option Value} {base : Heap} {k : Nat} {f : Addr} {name qual : Str} {params : Arguments} {body : List Stmt} {scope : Scope} {dV kV doc pm cdv ct oc : Value} {an od : Option Addr}
    {osl : Array (Option Value)} {N ps : List Str} {sp : Sp} (lk : K.lookup f = some ⟨oc, od, .func (PySem.W.fnOf name qual params body scope dV kV doc pm an cdv ct), osl⟩) (hcd : PySem.W.codeIn K cdv qual = true) (S : FnScope N ps scope)
    (len : ∀ vs H Q E, sp vs H Q E → vs.length = ps.length)
    (hbody : ∀ (A : Around) (outer : List Env) (s : Shared) (H : Hp) (vs : List V) (Q : VK) (E : XK), Room k (A.deeper (envOfC qual scope s.heap.objs.size f cdv)) → sp vs H Q E →
      ∃ t, PSs (cxOf CX P w K mg base N qual scope f cdv A outer s H E) body t ∧ t { nx := fun _ H' => Q .non H', rt := Q } (start N vs) H) :
    FnOk P w K mg base CX (k + 1) f (PySem.W.fnOf name qual params body scope dV kV doc pm an cdv ct) ps sp := by
  refine ⟨len, fun A outer s H args us vs Q E hr e0 hb r hsp => ?_⟩
  have hl := len _ _ _ _ hsp
  have KX : K.In s.heap := e0.mod.kin.keeps fun b o e => (e0.bs b o e).1
  have lim : s.heap.NoLimit := e0.mod.nolimit.keeps fun b o e => (e0.bs b o e).1
  have hkind : ∀ y ∈ ps.zip us, scope.names.lookup y.1 = some .local ∨ (scope.names.lookup y.1 = some .cell ∧ ((cellsFrom (s.heap.objs.size + 1) scope.names []).lookup y.1).isSome = true) := fun ⟨n, v⟩ hy => by
    rcases S.par n (List.of_mem_zip hy).1 with q | q
    · exact .inl q
    · exact .inr ⟨q, PySem.W.cellsFrom_some _ _ _ (.inl q)⟩
  refine codeAny_call_function hr.depth (KX _ _ lk) rfl S.co S.gen rfl (PySem.W.codeRec_of KX hcd) (hb _ _ _ _ ?_)
  refine wpAny_newFunctionEnv_cells S.kind hkind fun env he s1 x => ?_
  subst he
  refine ⟨lim.keeps x.toInCall.keep, codeAny_func ?_⟩
  obtain ⟨t, ht, hq⟩ := hbody A outer s H vs Q E (hr.deeper _) hsp
  have I : Inv (cxOf CX P w K mg base N qual scope f cdv A outer s H E) [] (start N vs) H s1 := inv_start S hr.hd e0 hl r x
  refine wpAny_mono (ht [] s1 (start N vs) H _ I hq) (fun fl s' hs => ?_) fun e s' hs => hs
  have fin : ∀ {σ' : St} {H' : Hp} {v : V} {u : Value}, Inv (cxOf CX P w K mg base N qual scope f cdv A outer s H E) [] σ' H' s' → RelV v u → Q v H' → CE outer P w H s Q u s' :=
    fun {σ' H' v u} J rv q => ⟨v, H', J.os, J.bare, J.base, J.hok, rv, q⟩
  cases fl with
  | ret u =>
    obtain ⟨v, σ', H', J, rv, q⟩ := hs
    exact fin J rv q
  | next =>
    obtain ⟨σ', H', J, q⟩ := hs
    exact fin (v := V.non) (u := Value.none) J rfl q
  | brk =>
    obtain ⟨_, _, _, q⟩ := hs
    exact False.elim q
  | cont =>
    obtain ⟨_, _, _, q⟩ := hs
    exact False.elim q
end L2

namespace L2
open PySem PySem.Spec PyProof.Rows
section
variable {X : Cx} {x : Str} {p pos : Pos} {e : Expr} {es : List Expr} {t : TA} {id T : String} {r : List V → Hp → VK → Prop}

def tCB (r : List V → Hp → VK → Prop) (t : TA) : TE := fun σ H Q => t σ H fun vs H1 => r vs H1 Q
theorem pe_callB (hc : CallR X (.builtin id) r) (hg : Gl X x) (hm : X.mg x = none) (hv : bootBuiltins x = some (.builtin id)) (ha : PA X (e :: es) t) (hn : x ≠ "__name__" := by decide) (hdb : (x == ("__debug__" : Str)) = false := by decide)
    (he : starEach (e :: es) X.env = (false, eval e X.env) :: starEach es X.env := by rfl) (hpl : (backTo pos (starEach es X.env)).any (·.1) = false := by rfl) : PE X (.Call (.Name x p) (e :: es) [] pos) (tCB r t) := by
  intro pins s σ H Q I h
  refine wpAny_Call_Name_kw (ld_blt I hg hm hv ?_ hn hdb)
  exact PyProof.Rows.callWith_builtin1 (thn (ha pos pins s σ H _ I h) fun us s1 ⟨vs, H1, I1, r1, q1⟩ => hc pins s1 σ H1 vs us Q I1 r1 q1) he hpl
theorem pe_callTy (hc : CallR X (.type T) r) (hg : Gl X x) (hm : X.mg x = none) (hv : bootBuiltins x = some (.type T)) (ha : PA X (e :: es) t) (hn : x ≠ "__name__" := by decide) (hdb : (x == ("__debug__" : Str)) = false := by decide)
    (he : starEach (e :: es) X.env = (false, eval e X.env) :: starEach es X.env := by rfl) (hpl : (backTo pos (starEach es X.env)).any (·.1) = false := by rfl) : PE X (.Call (.Name x p) (e :: es) [] pos) (tCB r t) := by
  intro pins s σ H Q I h
  refine wpAny_Call_Name_kw (ld_blt I hg hm hv ?_ hn hdb)
  exact PyProof.Rows.callWith_type1 (thn (ha pos pins s σ H _ I h) fun us s1 ⟨vs, H1, I1, r1, q1⟩ => hc pins s1 σ H1 vs us Q I1 r1 q1) he hpl
end
end L2

namespace HT
open PySem PyProof.Rows

section
open PySem.SeqAt
open PySem.AutoSeq1 (wpAny_loadPart')
open PySem.MeetsSeq PySem.MeetsSeq2 PySem.MeetsSeq3

end

section
variable {prog : Program} {w : World} {A : Around} {E : Value → Shared → Prop} {s : Shared}

def sIx (n d : Nat) : Option Int → Nat
  | none => d
  | some v => if v < 0 then (v + (n : Int)).toNat else min v.toNat n
theorem sIx_none (n d : Nat) : sIx n d none = d := rfl
theorem sIx_nat (n d k : Nat) : sIx n d (some (k : Int)) = min k n := by
  show (if (k : Int) < 0 then ((k : Int) + (n : Int)).toNat else min (k : Int).toNat n) = min k n
  rw [if_neg (by omega), Int.toNat_natCast]
end
end HT

namespace L2
open PySem PySem.Spec PyProof.Rows

abbrev TO := St → Hp → (Option Int → Hp → Prop) → Prop
def PO (X : Cx) (e : Option Expr) (t : TO) : Prop :=
  ∀ (pins : List (Addr × Obj)) (s : Shared) (σ : St) (H : Hp) (Q : Option Int → Hp → Prop), Inv X pins σ H s → t σ H Q →
    wpAny (model X.prog X.w) X.A (evalPart e X.env) (fun u s' => ∃ o H', Inv X pins σ H' s' ∧ IsPart u o ∧ Q o H') X.xe s
def tNoPart : TO := fun _ H Q => Q none H
def tPart (t : TE) : TO := fun σ H Q => t σ H fun x H1 => ∃ i, x = .int i ∧ Q (some i) H1

section
variable {X : Cx} {e : Expr} {te : TE} {lo hi : Option Expr} {tl th : TO} {pos p2 : Pos}

theorem po_none : PO X none tNoPart := by
  intro pins s σ H Q I h
  rw [evalPart_none]
  exact wpAny_pure ⟨none, H, I, .none, h⟩
theorem po_some (h : PE X e te) : PO X (some e) (tPart te) := by
  intro pins s σ H Q I hw
  rw [evalPart_some]
  refine thn (h pins s σ H _ I hw) fun u s1 ⟨x, H1, I1, r1, q1⟩ => ?_
  obtain ⟨i, rfl, q⟩ := q1
  obtain ⟨t, rfl⟩ := r1
  exact ⟨some i, H1, I1, .int i t, q⟩

def SlR (X : Cx) (r : V → Option Int → Option Int → Hp → VK → Prop) : Prop :=
  ∀ (pins : List (Addr × Obj)) (s : Shared) (σ : St) (H : Hp) (x : V) (v vl vu : Value) (lo hi : Option Int) (sl : Addr) (Q : VK), Inv X pins σ H s → RelV x v → s.heap.IsSliceOf sl vl vu .none → IsPart vl lo → IsPart vu hi → r x lo hi H Q →
    ∃ T id, typeLookup (.type T) "__getitem__" = pure (some (.builtin id)) ∧ s.TypeIs v T ∧ wpAny (model X.prog X.w) X.A (getItem v (.ref sl)) (EP X pins σ Q) X.xe s
def tSl (r : V → Option Int → Option Int → Hp → VK → Prop) (te : TE) (tl th : TO) : TE := fun σ H Q => te σ H fun x H1 => tl σ H1 fun l H2 => th σ H2 fun u H3 => r x l u H3 Q
theorem pe_slice {r : V → Option Int → Option Int → Hp → VK → Prop} (hr : SlR X r) (he : PE X e te) (hl : PO X lo tl) (hu : PO X hi th) : PE X (.Subscript e (.Slice lo hi none p2) pos) (tSl r te tl th) := by
  intro pins s σ H Q I h
  refine Subscript_ (thn (he pins s σ H _ I h) fun v s1 ⟨x, H1, I1, r1, q1⟩ => ?_)
  refine wpAny_Slice (thn (hl pins s1 σ H1 _ I1 q1) fun vl s2 ⟨l, H2, I2, pl, q2⟩ => thn (hu pins s2 σ H2 _ I2 q2) fun vu s3 ⟨u, H3, I3, pu, q3⟩ => ?_)
  rw [evalPart_none]
  refine wpAny_pure ?_
  have I4 : Inv X pins σ H3 { s3 with heap := s3.heap.push { cls := .type "slice", data := .fields #[vl, vu, .none] } } := I3.kept (t' := s3.toks) fun b ob q => Heap.get?_push_of_some _ q
  obtain ⟨T, id, hT, ht, hg⟩ := hr pins { s3 with heap := s3.heap.push { cls := .type "slice", data := .fields #[vl, vu, .none] } } σ H3 x v vl vu l u s3.heap.objs.size Q I4 r1 (Heap.IsSliceOf.new ..) pl pu q3
  show wpAny (model X.prog X.w) X.A (subscriptTail e (.Slice lo hi none p2) v (.ref s3.heap.objs.size)) (EP X pins σ Q) X.xe { s3 with heap := s3.heap.push { cls := .type "slice", data := .fields #[vl, vu, .none] } }
  exact tail_any (ops := [.ref s3.heap.objs.size, v]) ht hT hg (by with_unfolding_all rfl)

def cutV (xs : List V) (lo hi : Option Int) : List V := (xs.drop (HT.sIx xs.length 0 lo)).take (HT.sIx xs.length xs.length hi - HT.sIx xs.length 0 lo)
theorem cutV_length (xs : List V) (lo hi : Option Int) : (cutV xs lo hi).length ≤ xs.length := by
  unfold cutV
  rw [List.length_take, List.length_drop]
  omega
end
end L2

namespace L2
open PySem PySem.Spec PyProof.Rows

def ixN (n : Nat) (i : Int) : Option Nat := if 0 ≤ i then (if i < n then some i.toNat else none) else if -(n : Int) ≤ i then some (i + n).toNat else none
def atI {α : Type} (xs : List α) (i : Int) : Option α := (ixN xs.length i).bind fun j => xs[j]?
theorem ixN_seq {n : Nat} {i : Int} {j : Nat} (h : ixN n i = some j) : seqIndex? i n = some j ∧ j < n ∧ -(n : Int) ≤ i ∧ i < n := by
  unfold ixN at h
  by_cases h0 : 0 ≤ i
  · rw [if_pos h0] at h
    by_cases h1 : i < n
    · rw [if_pos h1] at h
      have e : i.toNat = j := Option.some.inj h
      exact ⟨by rw [seqIndex_of h0 h1, e], by omega, by omega, h1⟩
    · rw [if_neg h1] at h; cases h
  · rw [if_neg h0] at h
    by_cases h1 : -(n : Int) ≤ i
    · rw [if_pos h1] at h
      have e : (i + n).toNat = j := Option.some.inj h
      exact ⟨by rw [seqIndex_neg (by omega) h1, e], by omega, h1, by omega⟩
    · rw [if_neg h1] at h; cases h
theorem atI_get {α : Type} {xs : List α} {i : Int} {v : α} (h : atI xs i = some v) : ∃ j, seqIndex? i xs.length = some j ∧ xs[j]? = some v ∧ j < xs.length ∧ -(xs.length : Int) ≤ i ∧ i < xs.length := by
  unfold atI at h
  cases e : ixN xs.length i with
  | none => rw [e] at h; cases h
  | some j =>
    rw [e] at h
    obtain ⟨h1, h2, h3, h4⟩ := ixN_seq e
    exact ⟨j, h1, h, h2, h3, h4⟩
theorem atI_nat {α : Type} {xs : List α} {j : Nat} {v : α} (h : xs[j]? = some v) : atI xs (j : Int) = some v := by
  have hj : j < xs.length := (List.getElem?_eq_some_iff.mp h).1
  have e : ixN xs.length (j : Int) = some j := by
    unfold ixN
    rw [if_pos (by omega), if_pos (by omega)]; simp
  unfold atI; rw [e]; exact h
def PlainIx (b : Expr) : Prop := ∀ o i, subscripted b false o i = operate [o, i] (getItem o i)
def IxR (X : Cx) (r : R2) : Prop :=
  ∀ (value slice : Expr) (pins : List (Addr × Obj)) (s : Shared) (σ : St) (H : Hp) (x y : V) (v u : Value) (Q : VK), Inv X pins σ H s → RelV x v → RelV y u → r x y H Q →
    subscripted slice false v u = operate [v, u] (getItem v u) → wpAny (model X.prog X.w) X.A (subscriptTail value slice v u) (EP X pins σ Q) X.xe s
def MtR (X : Cx) (id : String) (r : V → List V → Hp → VK → Prop) : Prop :=
  ∀ (pins : List (Addr × Obj)) (s : Shared) (σ : St) (H : Hp) (x : V) (xs : List V) (v : Value) (us : List Value) (Q : VK), Inv X pins σ H s → RelV x v → Vals xs us → r x xs H Q →
    wpAny (model X.prog X.w) X.A (call (.builtin id) (v :: us)) (EP X pins σ Q) X.xe s
section
variable {X : Cx} {a b : Expr} {ta tb : TE} {pos : Pos}
theorem pe_ix {r : R2} (hr : IxR X r) (ha : PE X a ta) (hb : PE X b tb) (hs : PlainIx b) : PE X (.Subscript a b pos) (tOp r ta tb) := by
  intro pins s σ H Q I h
  exact Subscript_ (binT ha hb I h fun v u s2 x y H2 I2 rx ry q => hr a b pins s2 σ H2 x y v u Q I2 rx ry q (hs _ _))

def rIxL (K : PySem.W.Frag) : R2 := fun x y H Q => ∃ p xs i v, x = .ref p ∧ y = .int i ∧ SqL K H p xs ∧ atI xs i = some v ∧ Q v H
def rIxT (K : PySem.W.Frag) : R2 := fun x y H Q => ∃ p xs i v, x = .ref p ∧ y = .int i ∧ SqT K H p xs ∧ atI xs i = some v ∧ Q v H
theorem ix_list : IxR X (rIxL X.K) := by
  intro value slice pins s σ H x y v u Q I rx ry h hs
  obtain ⟨p, xs, i, z, rfl, rfl, hq, he, q⟩ := h
  cases rx
  obtain ⟨t, rfl⟩ := ry
  obtain ⟨its, r, pl, hz⟩ := I.list hq
  obtain ⟨j, h1, h2, h3, h4, h5⟩ := atI_get he
  obtain ⟨w, ew, rw'⟩ := r.get h2
  have hl := r.length
  have hn := line63
  have fin : EP X pins σ Q w s := ⟨z, H, I, rw', q⟩
  by_cases h0 : 0 ≤ i
  · have hj : i.toNat = j := by
      rw [seqIndex_of h0 h5] at h1
      exact Option.some.inj h1
    exact item_listR pl.isList h0 (by omega) (by rw [hj]; simpa using ew) fin hs
  · have hj : (i + (its.toArray.size : Int)).toNat = j := by
      rw [seqIndex_neg (by omega) h4] at h1
      rw [List.size_toArray, ← hl]
      exact Option.some.inj h1
    exact subscriptTail_builtinR (x := w) pl.isList.typeIs slot_list_getitem.lookup
      (wpAny_getItem_list_neg (Q := fun r s' => r = w ∧ EP X pins σ Q r s') pl.isList (by omega) (by rw [List.size_toArray] <;> omega) (by omega) (by rw [hj]; simpa using ew) ⟨rfl, fin⟩) hs
theorem ix_tup : IxR X (rIxT X.K) := by
  intro value slice pins s σ H x y v u Q I rx ry h hs
  obtain ⟨p, xs, i, z, rfl, rfl, hq, he, q⟩ := h
  cases rx
  obtain ⟨t, rfl⟩ := ry
  obtain ⟨its, r, pl, hz⟩ := I.tuple hq
  obtain ⟨j, h1, h2, h3, h4, h5⟩ := atI_get he
  obtain ⟨w, ew, rw'⟩ := r.get h2
  have hl := r.length
  have hn := line63
  have fin : EP X pins σ Q w s := ⟨z, H, I, rw', q⟩
  exact subscriptTail_builtinR (x := w) pl.typeIs slot_tuple_getitem.lookup
    (getItem_tuple (j := j) (Q := fun r s' => r = w ∧ EP X pins σ Q r s') pl (by omega) (by omega) (by rw [List.size_toArray, ← hl]; exact h1) (by simpa using ew) ⟨rfl, fin⟩) hs
theorem mapSeq_set (its : List Value) (n j : Nat) (u : Value) : Obj.mapSeq (·.setIfInBounds j u) { cls := .type "list", data := .seq its.toArray n } = { cls := .type "list", data := .seq (its.set j u).toArray n } := by
  simp [Obj.mapSeq]
theorem Inv.lst {pins : List (Addr × Obj)} {σ : St} {H : Hp} {s : Shared} {p : Addr} {xs : List V} (I : Inv X pins σ H s) (h : H p = some (.lst xs)) :
    ∃ (its : List Value) (n : Nat), Vals xs its ∧ s.heap.get? p = some { cls := .type "list", data := .seq its.toArray n } ∧ xs.length ≤ sizeLine := by
  obtain ⟨z, its, n, r, e⟩ := I.hok p _ h
  exact ⟨its, n, r, e, z⟩
theorem Inv.lstUpd {pins : List (Addr × Obj)} {σ : St} {H : Hp} {s : Shared} {p : Addr} {xs ys : List V} {its its' : List Value} {n n' : Nat} {f : Obj → Obj} (I : Inv X pins σ H s) (h : H p = some (.lst xs))
    (ho : s.heap.get? p = some { cls := .type "list", data := .seq its.toArray n }) (hf : f { cls := .type "list", data := .seq its.toArray n } = { cls := .type "list", data := .seq its'.toArray n' }) (r : Vals ys its') (hz : ys.length ≤ sizeLine) (t : Nat) :
    Inv X pins σ (upd H p (.lst ys)) { s with heap := s.heap.update p f, toks := t } := by
  have e : (s.heap.update p f).get? p = some { cls := .type "list", data := .seq its'.toArray n' } := by
    rw [Heap.get?_update_self f ho (by rw [hf] <;> rfl), hf]
  refine I.write (x := p) (e := p) (by rw [h]; trivial) (.inl rfl) (fun b u hb q => (Heap.get?_update_other _ _ (Ne.symm hb)).trans q) ⟨_, e⟩ ?_
  exact ⟨hz, its', n', r, e⟩
def rSetL : V → V → V → Hp → (Hp → Prop) → Prop := fun o i v H Q => ∃ p xs k j, o = .ref p ∧ i = .int k ∧ H p = some (.lst xs) ∧ ixN xs.length k = some j ∧ Q (upd H p (.lst (xs.set j v)))
theorem set_list : PSet X rSetL := by
  intro pins s σ H o i v ov iv u Q I ro ri rv h
  obtain ⟨p, xs, k, j, rfl, rfl, hp, hj, q⟩ := h
  cases ro
  obtain ⟨t, rfl⟩ := ri
  obtain ⟨its, n, r, ho, hz⟩ := I.lst hp
  obtain ⟨h1, h2, h3, h4⟩ := ixN_seq hj
  have hl := r.length
  have hn := line63
  have I' : Inv X pins σ (upd H p (.lst (xs.set j v))) { s with heap := s.heap.update p (Obj.mapSeq (·.setIfInBounds j u)) } :=
    I.lstUpd hp ho (mapSeq_set its n j u) (r.set rv j) (by rw [List.length_set]; exact hz) s.toks
  by_cases h0 : 0 ≤ k
  · have hk : k.toNat = j := by
      rw [seqIndex_of h0 h4] at h1
      exact Option.some.inj h1
    exact PySem.W.ki_setAt ho h0 (by omega) (by rw [List.size_toArray, ← hl]; exact h4) (by rw [hk]; exact ⟨_, I', q⟩)
  · have hk : (k + (its.toArray.size : Int)).toNat = j := by
      rw [seqIndex_neg (by omega) h3] at h1
      rw [List.size_toArray, ← hl]
      exact Option.some.inj h1
    exact PySem.W.ki_setBack ho (by omega) (by rw [List.size_toArray, ← hl]; exact h3) (by omega) (by rw [hk]; exact ⟨_, I', q⟩)

theorem slice_bounds (lo hi : Option Int) (n : Nat) : (sliceBounds lo hi none n).1 = ((HT.sIx n 0 lo : Nat) : Int) ∧ (sliceBounds lo hi none n).2.1 = ((HT.sIx n n hi : Nat) : Int) ∧ (sliceBounds lo hi none n).2.2 = 1 := by
  refine ⟨?_, ?_, rfl⟩
  · cases lo with
    | none => simp [sliceBounds, HT.sIx]
    | some i =>
      simp only [sliceBounds, HT.sIx, Option.getD_none, show (1 : Int) > 0 by decide, if_true]
      by_cases h : i < 0
      · simp only [h, if_true] <;> omega
      · simp only [h, if_false] <;> omega
  · cases hi with
    | none => simp [sliceBounds, HT.sIx]
    | some i =>
      simp only [sliceBounds, HT.sIx, Option.getD_none, show (1 : Int) > 0 by decide, if_true]
      by_cases h : i < 0
      · simp only [h, if_true] <;> omega
      · simp only [h, if_false] <;> omega
theorem slicePick_cut (its : List Value) (lo hi : Option Int) : slicePick its.toArray lo hi none = ((its.drop (HT.sIx its.length 0 lo)).take (HT.sIx its.length its.length hi - HT.sIx its.length 0 lo)).toArray := by
  obtain ⟨h1, h2, h3⟩ := slice_bounds lo hi its.toArray.size
  unfold slicePick
  rw [h1, h2, h3]
  simp only [sliceRange_one, pick_run, List.size_toArray] <;> rfl
def rSlL (K : PySem.W.Frag) : V → Option Int → Option Int → Hp → VK → Prop := fun x lo hi H Q => ∃ a xs, x = .ref a ∧ SqL K H a xs ∧ ∀ p, H p = none → Q (.ref p) (upd H p (.lst (cutV xs lo hi)))
theorem sl_list : SlR X (rSlL X.K) := by
  intro pins s σ H x v vl vu lo hi sl Q I rx hs pl pu h
  obtain ⟨a, xs, rfl, hx, q⟩ := h
  cases rx
  obtain ⟨its, r, ht, hz⟩ := I.list hx
  have hlen := r.length
  refine ⟨"list", _, slot_list_getitem.lookup, ht.isList.typeIs, ?_⟩
  refine wpAny_getItem_list_slice ht.isList hs pl pu .none (by simp) ?_ (by rw [List.size_toArray] <;> omega)
  rw [slicePick_cut, ← hlen]
  refine ⟨.ref s.heap.objs.size, _, I.laid (t' := s.toks) (o := .lst (cutV xs lo hi)) (fun b ob q => Heap.get?_push_of_some _ q) (Nat.le_refl _) ?_, rfl, q _ (I.hok.fresh (Nat.le_refl _))⟩
  exact ⟨Nat.le_trans (cutV_length xs lo hi) hz, _, 0, (r.drop (HT.sIx xs.length 0 lo)).take (HT.sIx xs.length xs.length hi - HT.sIx xs.length 0 lo), Heap.get?_push_size _ rfl⟩

theorem call_len_seq : CallR X (.builtin "len") (fun xs H Q => ∃ p ys, xs = [.ref p] ∧ (SqL X.K H p ys ∨ SqT X.K H p ys) ∧ Q (.int ys.length) H) := by
  intro pins s σ H xs us Q I r h
  obtain ⟨p, ys, rfl, hq, q⟩ := h
  obtain ⟨u, rfl, rx⟩ := vals1 r
  cases rx
  have hn := line63
  rcases hq with hq | hq
  · obtain ⟨its, r', pl, hz⟩ := I.list hq
    have hlen := r'.length
    exact Calls.call_len_list pl.isList (by simp only [List.size_toArray] <;> omega) ⟨.int ys.length, H, I.tok _, ⟨s.toks + 1, by rw [List.size_toArray, hlen]⟩, q⟩
  · obtain ⟨its, r', pl, hz⟩ := I.tuple hq
    have hlen := r'.length
    exact len_tuple pl (by simp only [List.size_toArray] <;> omega) ⟨.int ys.length, H, I.tok _, ⟨s.toks + 1, by rw [List.size_toArray, hlen]⟩, q⟩
theorem call_tuple_of : CallR X (.type "tuple") (fun xs H Q => ∃ p ys, xs = [.ref p] ∧ ((SqL X.K H p ys ∧ ∀ l, H l = none → Q (.ref l) (upd H l (.tup ys))) ∨ (SqT X.K H p ys ∧ Q (.ref p) H))) := by
  intro pins s σ H xs us Q I r h
  obtain ⟨p, ys, rfl, h⟩ := h
  obtain ⟨u, rfl, rx⟩ := vals1 r
  cases rx
  rcases h with ⟨hq, q⟩ | ⟨hq, q⟩
  · obtain ⟨its, r', pl, hz⟩ := I.list hq
    have hlen := r'.length
    refine call_tuple_list pl.isList (fun h' kp => ?_) (by simp only [List.size_toArray] <;> omega)
    have I1 : Inv X pins σ H { s with heap := h' } := I.kept (t' := s.toks) kp
    have I2 : Inv X pins σ (upd H h'.objs.size (.tup ys)) { s with heap := h'.push { cls := .type "tuple", data := .seq its.toArray } } :=
      I1.laid (t' := s.toks) (fun b o e => Heap.get?_push_of_some _ e) (Nat.le_refl _) (show ObjOk X.prog X.w _ _ _ (.tup ys) from ⟨hz, its, r', IsTup.new _ _⟩)
    exact ⟨.ref h'.objs.size, _, I2, rfl, q _ (I1.hok.fresh (Nat.le_refl _))⟩
  · obtain ⟨its, r', pl, hz⟩ := I.tuple hq
    exact call_tuple_same pl ⟨.ref p, H, I, rfl, q⟩

def tyV (K : PySem.W.Frag) (T : String) (x : V) (H : Hp) : Prop := match x with
  | .str _ => T = "str"
  | .int _ => T = "int"
  | .ref p => (T = "list" ∧ ∃ xs, SqL K H p xs) ∨ (T = "tuple" ∧ ∃ o, K.lookup p = some o ∧ o.cls = .type "tuple" ∧ o.dict = none) ∨
      (T = "dict" ∧ ((∃ kvs, H p = some (.dK kvs)) ∨ ∃ kvs, H p = some (.dT kvs))) ∨ (T = "set" ∧ ∃ S n, H p = some (.set S n))
  | _ => False
theorem tyV_is {pins : List (Addr × Obj)} {σ : St} {H : Hp} {s : Shared} {T : String} {x : V} {v : Value} (I : Inv X pins σ H s) (r : RelV x v) (ty : tyV X.K T x H) :
    s.TypeIs v T ∧ ∀ a, v = .ref a → ∃ ob, s.heap.get? a = some ob ∧ ob.dict = none := by
  cases x with
  | str z =>
    obtain ⟨t, rfl⟩ := r
    cases (show T = "str" from ty)
    exact ⟨typeIs_str s z t, fun _ e => nomatch e⟩
  | int i =>
    obtain ⟨t, rfl⟩ := r
    cases (show T = "int" from ty)
    exact ⟨typeIs_int s i t, fun _ e => nomatch e⟩
  | ref p =>
    cases r
    rcases ty with ⟨rfl, xs, hq⟩ | ⟨rfl, o, hk, hc, hd⟩ | ⟨rfl, hk⟩ | ⟨rfl, S, n, hk⟩
    · obtain ⟨its, _, pl, _⟩ := I.list hq
      refine ⟨pl.isList.typeIs, fun a e => ?_⟩
      cases e
      obtain ⟨o, n, e, c, hd, _⟩ := pl
      exact ⟨o, e, hd⟩
    · refine ⟨⟨o, I.kIn p o hk, hc⟩, fun a e => ?_⟩
      cases e
      exact ⟨o, I.kIn _ o hk, hd⟩
    · have z : ∃ o, s.heap.get? p = some o ∧ o.ExactDict := by
        rcases hk with ⟨kvs, hk⟩ | ⟨kvs, hk⟩
        · obtain ⟨_, _, _, _, o, _, _, e, ex, _⟩ := I.hok p _ hk
          exact ⟨o, e, ex⟩
        · obtain ⟨_, _, _, _, o, _, _, e, ex, _⟩ := I.hok p _ hk
          exact ⟨o, e, ex⟩
      obtain ⟨o, e, ex⟩ := z
      refine ⟨⟨o, e, ex.1⟩, fun a e2 => ?_⟩
      cases e2
      exact ⟨o, e, ex.2.1⟩
    · obtain ⟨o, _, _, _, e, ex, _⟩ := I.hok p _ hk
      refine ⟨⟨o, e, ex.1⟩, fun a e2 => ?_⟩
      cases e2
      exact ⟨o, e, ex.2.1⟩
  | _ => exact False.elim ty
def tBM0 (K : PySem.W.Frag) (T : String) (r : V → List V → Hp → VK → Prop) (to : TE) : TE := fun σ H Q => to σ H fun x H1 => tyV K T x H1 ∧ r x [] H1 Q
def tBM (K : PySem.W.Frag) (T : String) (r : V → List V → Hp → VK → Prop) (to : TE) (t : TA) : TE := fun σ H Q => to σ H fun x H1 => tyV K T x H1 ∧ t σ H1 fun xs H2 => r x xs H2 Q
variable {o e : Expr} {es : List Expr} {to : TE} {t : TA} {name : Str} {apos cpos : Pos} {T id : String} {r : V → List V → Hp → VK → Prop}
theorem pe_bm0 (pa : PlainAttrs T) (slot : Slot T name id) (hty : typeOf (.builtin id) = pure (.type "method_descriptor")) (hm : MtR X id r) (ho : PE X o to)
    (hbase : attributeBase o name X.env (eval o X.env) = eval o X.env := by rfl) (hline : (apos.endLine == cpos.line) = true := by rfl) : PE X (.Call (.Attribute o name apos) [] [] cpos) (tBM0 X.K T r to) := by
  intro pins s σ H Q I h
  refine wpAny_Call_method0_late hbase hline (thn (ho pins s σ H _ I h) fun v s1 ⟨x, H1, I1, r1, ty, q1⟩ => ?_)
  obtain ⟨h1, h2⟩ := tyV_is I1 r1 ty
  exact ⟨T, id, pa, slot, hty, h1, h2, Calls.callWith_builtin rfl (PySem.evalArgs_none (hm pins s1 σ H1 x [] v [] Q I1 r1 .nil q1))⟩
theorem pe_bm (pa : PlainAttrs T) (slot : Slot T name id) (hty : typeOf (.builtin id) = pure (.type "method_descriptor")) (hm : MtR X id r) (ho : PE X o to) (ha : PA X (e :: es) t)
    (hbase : attributeBase o name X.env (eval o X.env) = eval o X.env := by rfl)
    (hfew : ((backTo cpos (starEach (e :: es) X.env)).all (fun x => !x.1) && (backToKw cpos (keywordEach [] X.env)).all (fun x => x.1.isSome)
      && decide ((e :: es).length + ([] : List Keyword).length + (if ([] : List Keyword).isEmpty then 0 else 1) < 30)) = true := by rfl)
    (hline : (apos.endLine == cpos.line) = true := by rfl) (hs : starEach (e :: es) X.env = (false, eval e X.env) :: starEach es X.env := by rfl) (hplain : (backTo cpos (starEach es X.env)).any (·.1) = false := by rfl) :
    PE X (.Call (.Attribute o name apos) (e :: es) [] cpos) (tBM X.K T r to t) := by
  intro pins s σ H Q I h
  refine wpAny_Call_method_late hbase hfew hline rfl (thn (ho pins s σ H _ I h) fun v s1 ⟨x, H1, I1, r1, ty, q1⟩ => ?_)
  obtain ⟨h1, h2⟩ := tyV_is I1 r1 ty
  refine ⟨T, id, pa, slot, hty, h1, h2, ?_⟩
  have hA := ha cpos pins s1 σ H1 _ I1 q1
  rw [hs] at hA ⊢
  refine Calls.callWith_builtin (by show (false || (backTo cpos (starEach es X.env)).any (·.1)) = false; rw [hplain] <;> rfl) (Calls.evalArgs_plain ?_)
  exact thn hA fun us s2 ⟨vs, H2, I2, r2, q2⟩ => hm pins s2 σ H2 x vs v us Q I2 r1 r2 q2
end
end L2

namespace L2
open PySem PySem.Spec PyProof.Rows

def MtM (X : Cx) (id : String) (r : V → List V → Hp → VK → Prop) : Prop :=
  ∀ (pins : List (Addr × Obj)) (s : Shared) (σ : St) (H : Hp) (x : V) (xs : List V) (v : Value) (us : List Value) (Q : VK), Inv X pins σ H s → RelV x v → Vals xs us → r x xs H Q →
    wpAny (model X.prog X.w) X.A (call (.builtin id) (v :: us)) (EP X pins σ Q) X.xe s

theorem Vals.one : ∀ {x : V} {us : List Value}, Vals [x] us → ∃ u, us = [u] ∧ RelV x u
  | _, _, .cons r .nil => ⟨_, rfl, r⟩
theorem Vals.zero : ∀ {us : List Value}, Vals [] us → us = []
  | _, .nil => rfl
theorem Vals.dropLast {xs : List V} {us : List Value} (h : Vals xs us) : Vals xs.dropLast us.dropLast := by
  induction h with
  | nil => exact .nil
  | cons r t ih =>
    cases t with
    | nil => exact .nil
    | cons q t' => exact .cons r ih
theorem Vals.eraseIdx : ∀ {xs : List V} {us : List Value} (i : Nat), Vals xs us → Vals (xs.eraseIdx i) (us.eraseIdx i)
  | _, _, _, .nil => .nil
  | _, _, 0, .cons _ t => t
  | _, _, i + 1, .cons r t => .cons r (Vals.eraseIdx i t)
theorem Vals.rep {xs : List V} {us : List Value} (h : Vals xs us) : ∀ k : Nat, Vals (List.replicate k xs).flatten (List.replicate k us).flatten
  | 0 => .nil
  | k + 1 => by
    rw [List.replicate_succ, List.replicate_succ, List.flatten_cons, List.flatten_cons]
    exact Vals.append h (Vals.rep h k)
theorem erase_last {α : Type} (l : List α) : l.eraseIdx (l.length - 1) = l.dropLast := by
  induction l with
  | nil => rfl
  | cons a r ih =>
    cases r with
    | nil => rfl
    | cons b r =>
      have e : (a :: b :: r).length - 1 = ((b :: r).length - 1) + 1 := by
        have h1 : (a :: b :: r).length = r.length + 2 := rfl
        have h2 : (b :: r).length = r.length + 1 := rfl
        omega
      rw [e, List.eraseIdx_cons_succ, ih]
      all_goals rfl
theorem len_erase {α : Type} : ∀ (l : List α) (i : Nat), (l.eraseIdx i).length ≤ l.length
  | [], _ => Nat.le_refl _
  | _ :: _, 0 => Nat.le_succ _
  | _ :: r, i + 1 => Nat.succ_le_succ (len_erase r i)
theorem foldl_rep (its : List Value) : ∀ (k : Nat) (acc : List Value),
    List.foldl (fun x1 x2 => x1 ++ x2) acc.toArray (List.replicate k its.toArray) = (acc ++ (List.replicate k its).flatten).toArray
  | 0, acc => by simp
  | k + 1, acc => by
    have e : acc.toArray ++ its.toArray = (acc ++ its).toArray := by simp
    have e2 : (acc ++ its) ++ (List.replicate k its).flatten = acc ++ (List.replicate (k + 1) its).flatten := by
      rw [List.replicate_succ, List.flatten_cons, List.append_assoc]
    rw [← e2, ← foldl_rep its k (acc ++ its), ← e, List.replicate_succ, List.foldl_cons]

section
variable {X : Cx} {pins : List (Addr × Obj)} {σ : St} {H : Hp} {s : Shared} {l b : Addr} {xs ys zs : List V}

theorem Inv.lset {its its' : List Value} {n : Nat} {f : Array Value → Array Value} {t' : Nat} (I : Inv X pins σ H s) (hH : H l = some (.lst xs))
    (e : s.heap.get? l = some { cls := .type "list", data := .seq its.toArray n }) (hf : f its.toArray = its'.toArray) (hv : Vals ys its') (hz : ys.length ≤ sizeLine) :
    Inv X pins σ (upd H l (.lst ys)) { s with heap := s.heap.update l (Obj.mapSeq f), toks := t' } := by
  have q := PySem.IsL.update e f
  rw [hf] at q
  refine I.write (x := l) (e := l) (by rw [hH]; exact trivial) (.inl rfl) (fun b' u hb hu => (Heap.get?_update_other s.heap (Obj.mapSeq f) (Ne.symm hb)).trans hu) ⟨_, q⟩ ?_
  exact ⟨hz, its', _, hv, q⟩
theorem Inv.lnew {its : List Value} {t' : Nat} (I : Inv X pins σ H s) (hv : Vals ys its) (hz : ys.length ≤ sizeLine) :
    Inv X pins σ (upd H s.heap.objs.size (.lst ys)) { s with heap := s.heap.push { cls := .type "list", data := .seq its.toArray }, toks := t' } :=
  I.laid (fun _ _ q => Heap.get?_push_of_some _ q) (Nat.le_refl _) ⟨hz, its, 0, hv, Heap.get?_push_size _ rfl⟩
theorem Inv.fresh (I : Inv X pins σ H s) : H s.heap.objs.size = none := I.hok.fresh (Nat.le_refl _)
theorem Inv.lstM (I : Inv X pins σ H s) (hH : H l = some (.lst xs)) : xs.length ≤ sizeLine ∧ ∃ (its : List Value) (n : Nat), Vals xs its ∧ xs.length = its.length ∧ s.heap.get? l = some { cls := .type "list", data := .seq its.toArray n } := by
  obtain ⟨z, its, n, r, e⟩ := I.hok l _ hH
  exact ⟨z, its, n, r, r.length, e⟩

theorem notLongL {n : Nat} (h : n ≤ sizeLine) : Builtin.List.listTooLong n = false := by
  unfold Builtin.List.listTooLong
  exact decide_eq_false (by omega)
end

section
variable {X : Cx}

def rAppend : V → List V → Hp → VK → Prop := fun x vs H Q => ∃ l xs y, x = .ref l ∧ vs = [y] ∧ H l = some (.lst xs) ∧ xs.length < sizeLine ∧ Q .non (upd H l (.lst (xs ++ [y])))
theorem mt_append : MtM X "list.append" rAppend := by
  intro pins s σ H x vs v us Q I rx rv h
  obtain ⟨l, xs, y, rfl, rfl, hH, hz, q⟩ := h
  cases rx
  obtain ⟨u, rfl, ru⟩ := rv.one
  obtain ⟨z, its, n, r, hl, e⟩ := I.lstM hH
  refine call_meets F.slot_list_append ⟨_, e, rfl⟩ F.entry_list_append (F.args_list_append_2 _ _) (PySem.list_append l its.toArray n u (by rw [List.size_toArray]; omega)) ⟨e, ?_⟩
  refine ⟨.non, _, I.lset (its' := its ++ [u]) hH e (by simp) (r.append (.cons ru .nil)) ?_, rfl, q⟩
  rw [List.length_append, List.length_singleton]
  omega

def rExtend : V → List V → Hp → VK → Prop := fun x vs H Q => ∃ l b xs zs, x = .ref l ∧ vs = [.ref b] ∧ H l = some (.lst xs) ∧ H b = some (.lst zs) ∧ xs.length + zs.length ≤ sizeLine ∧ Q .non (upd H l (.lst (xs ++ zs)))
theorem mt_extend : MtM X "list.extend" rExtend := by
  intro pins s σ H x vs v us Q I rx rv h
  obtain ⟨l, b, xs, zs, rfl, rfl, hH, hB, hz, q⟩ := h
  cases rx
  obtain ⟨u, rfl, ru⟩ := rv.one
  cases ru
  obtain ⟨z, its, n, r, hl, e⟩ := I.lstM hH
  obtain ⟨z2, its2, n2, r2, hl2, e2⟩ := I.lstM hB
  have hsz : its.toArray.size + its2.toArray.size ≤ sizeLine := by rw [List.size_toArray, List.size_toArray]; omega
  have hlong : ¬ (!its.toArray.isEmpty && Builtin.List.listTooLong (its.toArray.size + its2.toArray.size)) = true := by
    rw [notLongL hsz, Bool.and_false]
    exact Bool.false_ne_true
  refine call_meets F.slot_list_extend ⟨_, e, rfl⟩ F.entry_list_extend (F.args_list_extend_2 _ _)
    (AutoSeq1.list_extend_list_list_0 l its.toArray n b its2.toArray n2 hlong (by rw [List.size_toArray]; omega) (by omega)) ⟨e, e2, ?_⟩
  refine ⟨.non, _, I.lset (its' := its ++ its2) hH e (by simp) (r.append r2) ?_, rfl, q⟩
  rw [List.length_append]
  omega

def rPop : V → List V → Hp → VK → Prop := fun x vs H Q => ∃ l xs y, x = .ref l ∧ vs = [] ∧ H l = some (.lst xs) ∧ xs[xs.length - 1]? = some y ∧ Q y (upd H l (.lst xs.dropLast))
theorem mt_pop : MtM X "list.pop" rPop := by
  intro pins s σ H x vs v us Q I rx rv h
  obtain ⟨l, xs, y, rfl, rfl, hH, hy, q⟩ := h
  cases rx
  have hus := rv.zero
  subst hus
  obtain ⟨z, its, n, r, hl, e⟩ := I.lstM hH
  obtain ⟨u, hu, ru⟩ := r.get hy
  have hy' : its.toArray[its.toArray.size - 1]? = some u := by
    show its.toArray[its.length - 1]? = some u
    rw [← Array.getElem?_toList, ← hl]
    exact hu
  refine call_meets F.slot_list_pop ⟨_, e, rfl⟩ F.entry_list_pop (F.args_list_pop_1 _) (MeetsSeq.list_pop_last l its.toArray n u hy' (by rw [List.size_toArray]; omega)) ⟨e, ?_⟩
  refine ⟨y, _, I.lset (its' := its.dropLast) hH e ?_ r.dropLast ?_, ru, q⟩
  · show its.toArray.eraseIdxIfInBounds (its.toArray.size - 1) = its.dropLast.toArray
    rw [List.size_toArray, List.eraseIdxIfInBounds_toArray, erase_last]
  · rw [List.length_dropLast]
    omega

def rPopAt : V → List V → Hp → VK → Prop := fun x vs H Q => ∃ l xs i k y, x = .ref l ∧ vs = [.int i] ∧ H l = some (.lst xs) ∧ -(2 ^ 63) ≤ i ∧ i < 2 ^ 63 ∧ seqIndex? i xs.length = some k ∧ xs[k]? = some y ∧ Q y (upd H l (.lst (xs.eraseIdx k)))
theorem mt_popAt : MtM X "list.pop" rPopAt := by
  intro pins s σ H x vs v us Q I rx rv h
  obtain ⟨l, xs, i, k, y, rfl, rfl, hH, h1, h2, hk, hy, q⟩ := h
  cases rx
  obtain ⟨u, rfl, ru⟩ := rv.one
  obtain ⟨t, rfl⟩ := ru
  obtain ⟨z, its, n, r, hl, e⟩ := I.lstM hH
  obtain ⟨w, hw, rw'⟩ := r.get hy
  refine call_meets F.slot_list_pop ⟨_, e, rfl⟩ F.entry_list_pop (F.args_list_pop_2 _ _)
    (MeetsSeq.list_pop_at l its.toArray n i t k w (fitsIndex_both h1 h2) (by rw [List.size_toArray, ← hl]; exact hk) (by rw [← Array.getElem?_toList]; exact hw) (by rw [List.size_toArray]; omega)) ⟨e, ?_⟩
  refine ⟨y, _, I.lset (its' := its.eraseIdx k) hH e ?_ (r.eraseIdx k) ?_, rw', q⟩
  · show its.toArray.eraseIdxIfInBounds k = (its.eraseIdx k).toArray
    rw [List.eraseIdxIfInBounds_toArray]
  · have := len_erase xs k
    omega

def rCat : R2 := fun x y H Q => ∃ l b xs zs, x = .ref l ∧ y = .ref b ∧ H l = some (.lst xs) ∧ H b = some (.lst zs) ∧ xs.length + zs.length ≤ sizeLine ∧ ∀ p, H p = none → Q (.ref p) (upd H p (.lst (xs ++ zs)))
theorem op_cat : OpR X (binaryOp .Add) rCat := by
  intro pins s σ H x y v u Q I rx ry h
  obtain ⟨l, b, xs, zs, rfl, rfl, hH, hB, hz, q⟩ := h
  cases rx
  cases ry
  obtain ⟨z, its, n, r, hl, e⟩ := I.lstM hH
  obtain ⟨z2, its2, n2, r2, hl2, e2⟩ := I.lstM hB
  refine PySem.P.add_list e e2 ?_ (by rw [List.size_toArray, List.size_toArray]; omega)
  have ea : its.toArray ++ its2.toArray = (its ++ its2).toArray := by simp
  rw [ea]
  exact ⟨.ref _, _, I.lnew (t' := s.toks) (r.append r2) (by rw [List.length_append]; omega), rfl, q _ I.fresh⟩
def rRep : R2 := fun x y H Q => ∃ l k xs, x = .ref l ∧ y = .int k ∧ H l = some (.lst xs) ∧ -(2 ^ 63) ≤ k ∧ k < 2 ^ 63 ∧ xs.length * k.toNat ≤ sizeLine ∧
  ∀ p, H p = none → Q (.ref p) (upd H p (.lst (List.replicate k.toNat xs).flatten))
theorem len_rep {α : Type} (xs : List α) (k : Nat) : (List.replicate k xs).flatten.length = k * xs.length := by
  induction k with
  | zero => simp
  | succ k ih => rw [List.replicate_succ, List.flatten_cons, List.length_append, ih, Nat.succ_mul, Nat.add_comm]
theorem op_rep : OpR X (binaryOp .Mult) rRep := by
  intro pins s σ H x y v u Q I rx ry h
  obtain ⟨l, k, xs, rfl, rfl, hH, h1, h2, hz, q⟩ := h
  cases rx
  obtain ⟨t, rfl⟩ := ry
  obtain ⟨z, its, n, r, hl, e⟩ := I.lstM hH
  have hlen : its.toArray.size * k.toNat ≤ sizeLine := by rw [List.size_toArray, ← hl]; exact hz
  have hcap : ¬ its.toArray.size * k.toNat > (2 ^ 63 - 1) / 8 := by
    have : (sizeLine : Nat) ≤ (2 ^ 63 - 1) / 8 := by decide
    omega
  have hfit : ¬ (!Builtin.List.listFitsIndex k) = true := by
    rw [fitsIndex_both h1 h2]
    exact Bool.false_ne_true
  have hlong : ¬ Builtin.List.listTooLong (its.toArray.size * k.toNat) = true := by
    rw [notLongL hlen]
    exact Bool.false_ne_true
  have hnew : List.foldl (fun x1 x2 => x1 ++ x2) #[] (List.replicate (if its.toArray.isEmpty = true then 0 else k.toNat) its.toArray) = (List.replicate k.toNat its).flatten.toArray := by
    have f0 : ∀ m : Nat, List.foldl (fun x1 x2 => x1 ++ x2) #[] (List.replicate m its.toArray) = (List.replicate m its).flatten.toArray := fun m => by
      have := foldl_rep its m []
      rw [List.nil_append] at this
      exact this
    rw [f0]
    cases its with
    | nil => simp
    | cons a r' => rw [if_neg (by simp)]
  refine wpAny_binaryOp_repeat_ref (T := "list") (U := "int") (by decide) ⟨_, e, rfl⟩ (fun s' => typeIs_int s' k t) noFill_list_mul F.fills_int_mul F.slot_int_rmul repeat_list F.slot_int_index.lookup
    (call_meets F.slot_int_rmul (typeIs_int s k t) F.entry_int_rmul (F.args_int_rmul_2 _ _) (int___rmul___int_list k t l its.toArray n)
      ⟨e, rfl, ⟨_, e, rfl⟩, call_meets F.slot_list_mul ⟨_, e, rfl⟩ F.entry_list_mul (F.args_list_mul_2 _ _) (AutoListH.list___mul___list_int_3 l its.toArray n k t hfit hcap hlong) ⟨e, ?_⟩⟩)
  rw [hnew]
  exact ⟨.ref _, _, I.lnew (t' := s.toks) (r.rep k.toNat) (by rw [len_rep, Nat.mul_comm]; exact hz), rfl, q _ I.fresh⟩

end

section
variable {prog : Program} {w : World} {A : Around} {E : Value → Shared → Prop} {s : Shared}
end

section
variable {X : Cx}
end
end L2

namespace L2
open PySem PySem.Spec PyProof.Rows

theorem Vals.bls : ∀ {bs : List Bool} {us : List Value}, Vals (bs.map V.bl) us → us = bs.map Value.bool
  | [], us, h => by
    rw [List.map_nil] at h
    cases h
    rfl
  | b :: bs, us, h => by
    rw [List.map_cons] at h
    cases h with
    | cons r t =>
      cases r
      rw [Vals.bls t, List.map_cons]
theorem Vals.ref1 {a : Addr} {us : List Value} (r : Vals [V.ref a] us) : us = [Value.ref a] := by
  cases r with
  | cons r t =>
    cases t
    cases r
    rfl
section
variable {prog : Program} {w : World} {A : Around} {E : Value → Shared → Prop} {s : Shared} {l : Addr} {its : List Value} {ns : List Int} {Q : Value → Shared → Prop}
end

section
variable {X : Cx}
end

section
variable {X : Cx}
end

section
variable {X : Cx}
end

theorem iter_any {prog : Program} {w : World} {A : Around} {E : Value → Shared → Prop} {s : Shared} {l : Addr} {items : Array Value} {Q : Value → Shared → Prop} (hl : s.heap.IsList l items)
    (h : ∀ s₂ : Shared, s₂ = { s with heap := s.heap.push { cls := .type "list_iterator", data := .fields #[.ref l, .int 0 0] } } →
      (s₂.heap.IsListIter s.heap.objs.size l 0 ∧ s₂.heap.IsList l items) → l ≠ s.heap.objs.size → Q (.ref s.heap.objs.size) s₂) : wpAny (model prog w) A (pyIter (.ref l)) Q E s := by
  have hlt : l < s.heap.objs.size := by obtain ⟨_, e, _⟩ := hl; exact Heap.lt_size e
  exact wpAny_pyIter_list hl (h _ rfl ⟨⟨_, Heap.get?_push_size _ rfl, rfl, rfl⟩, hl.push _⟩ (Nat.ne_of_lt hlt))
theorem truth_bools {prog : Program} {w : World} {A : Around} {bs : List Bool} {its : List Value} (e : its = bs.map Value.bool) :
    TruthOf prog w A (fun i v => its.toArray[i]? = some v) (fun i => bs.getD i false) := fun i v s Q E hv hq => by
  have hv' : its[i]? = some v := by simpa using hv
  rw [e, List.getElem?_map] at hv'
  obtain ⟨b, hb, rfl⟩ := Option.map_eq_some_iff.mp hv'
  have hg : bs.getD i false = b := by rw [List.getD_eq_getElem?_getD, hb] <;> rfl
  have hq' : Q (bs.getD i false) s := hq
  rw [hg] at hq'
  exact wpAny_truthy_bool hq'
theorem all_range : ∀ bs : List Bool, (List.range bs.length).all (fun i => bs.getD i false) = bs.all id
  | [] => rfl
  | b :: bs => by
    rw [List.length_cons, List.range_succ_eq_map, List.all_cons, List.all_map, List.all_cons, ← all_range bs]
    all_goals rfl
section
variable {X : Cx}
def rAll (K : PySem.W.Frag) : List V → Hp → VK → Prop := fun vs H Q => ∃ (a : Addr) (bs : List Bool), vs = [V.ref a] ∧ SqL K H a (bs.map V.bl) ∧ Q (.bl (bs.all id)) H
theorem cr_all (hc : X.calm = true) : CallR X (.builtin "all") (rAll X.K) := by
  intro pins s σ H vs us Q I r h
  obtain ⟨a, bs, rfl, hs, q⟩ := h
  obtain ⟨its, rv, hl, _⟩ := I.list hs
  rw [Vals.ref1 r]
  have hb := rv.bls
  refine call_all_walk (iter_any hl.isList fun s₂ e2 st hne => ?_)
  subst e2
  refine ⟨_, _, _, _, _, _, _, rfl, Walks.list (A := X.A.in1) (I.ok.hd hc) _ a hne its.toArray, st, truth_bools hb, fun h' tk hk => ?_⟩
  refine ⟨.bl _, H, I.kept fun b o eo => hk b o (fun hmem => ?_) (Heap.get?_push_of_some _ eo), ?_, q⟩
  · rcases List.mem_cons.mp hmem with e1 | hmem
    · exact absurd (e1 ▸ Heap.lt_size eo) (Nat.lt_irrefl _)
    · cases hmem
  · show Value.bool _ = Value.bool _
    rw [← all_range, hb, List.size_toArray, List.length_map]
end

mutual
inductive Dp (K : PySem.W.Frag) (H : Hp) : V → PyData → Prop
  | non : Dp K H .non .none
  | bl (b : Bool) : Dp K H (.bl b) (.bool b)
  | int (i : Int) : Dp K H (.int i) (.int i)
  | str (x : Str) : Dp K H (.str x) (.str x)
  | lst {a : Addr} {xs : List V} {ds : List PyData} : SqL K H a xs → DpAll K H xs ds → Dp K H (.ref a) (.list ds)
  | tup {a : Addr} {xs : List V} {ds : List PyData} : SqT K H a xs → DpAll K H xs ds → Dp K H (.ref a) (.tuple ds)
inductive DpAll (K : PySem.W.Frag) (H : Hp) : List V → List PyData → Prop
  | nil : DpAll K H [] []
  | cons {v : V} {vs : List V} {d : PyData} {ds : List PyData} : Dp K H v d → DpAll K H vs ds → DpAll K H (v :: vs) (d :: ds)
end
section
variable {X : Cx} {pins : List (Addr × Obj)} {σ : St} {H : Hp} {s : Shared}
mutual
theorem Dp.reads (I : Inv X pins σ H s) : ∀ (d : PyData) (v : V) (u : Value), Dp X.K H v d → RelV v u → ∃ as, Reads s.heap u d as
  | .none, _, _, h, r => by
    cases h
    cases r
    exact ⟨_, Reads.none⟩
  | .bool b, _, _, h, r => by
    cases h
    cases r
    exact ⟨_, Reads.bool b⟩
  | .int i, _, _, h, r => by
    cases h
    obtain ⟨t, rfl⟩ := r
    exact ⟨_, Reads.int i t⟩
  | .str x, _, _, h, r => by
    cases h
    obtain ⟨t, rfl⟩ := r
    exact ⟨_, Reads.str x t⟩
  | .list ds, _, _, h, r => by
    cases h with
    | lst hs ha =>
      cases r
      obtain ⟨its, rv, ⟨o, n, ho, hc, _, hd⟩, _⟩ := I.list hs
      obtain ⟨as, hr⟩ := Dp.readsAll I ds _ its ha rv
      exact ⟨_, Reads.list ho hc hd hr⟩
  | .tuple ds, _, _, h, r => by
    cases h with
    | tup hs ha =>
      cases r
      obtain ⟨its, rv, ⟨o, ho, hc, n, hd⟩, _⟩ := I.tuple hs
      obtain ⟨as, hr⟩ := Dp.readsAll I ds _ its ha rv
      exact ⟨_, Reads.tuple ho hc hd hr⟩
  | .dict _, _, _, h, _ => by cases h
theorem Dp.readsAll (I : Inv X pins σ H s) : ∀ (ds : List PyData) (vs : List V) (us : List Value), DpAll X.K H vs ds → Vals vs us → ∃ as, ReadsAll s.heap us ds as
  | [], _, _, h, r => by
    cases h
    cases r
    exact ⟨_, ReadsAll.nil⟩
  | d :: ds, _, _, h, r => by
    cases h with
    | cons h1 h2 =>
      cases r with
      | cons r1 r2 =>
        obtain ⟨as, q1⟩ := Dp.reads I d _ _ h1 r1
        obtain ⟨bs, q2⟩ := Dp.readsAll I ds _ _ h2 r2
        exact ⟨_, ReadsAll.cons q1 q2⟩
end
end
section
variable {X : Cx}
def rEqD (K : PySem.W.Frag) : R2 := fun x y H Q => ∃ d e, Dp K H x d ∧ Dp K H y e ∧ SeqAt.shaped d = true ∧ SeqAt.shaped e = true ∧ Q (.bl (PyData.eqv d e)) H
theorem op_eqD (hu : X.A.units + 64 < cLine) : OpR X (compareOp .Eq) (rEqD X.K) := by
  intro pins s σ H x y v u Q I rx ry h
  obtain ⟨d, e, hd, he, sd, se, q⟩ := h
  obtain ⟨as, r1⟩ := Dp.reads I d x v hd rx
  obtain ⟨bs, r2⟩ := Dp.reads I e y u he ry
  exact SeqAt.compareEq_shaped r1 r2 sd se hu ⟨.bl _, H, I, rfl, q⟩
end
end L2

namespace L2
open PySem PySem.Spec PyProof.Rows
abbrev CellAt (h : Heap) (c : Addr) (v : Option Value) : Prop := h.IsCell c v
def relS (scope sc : Scope) : Scope :=
  { scope with names := scope.names.map fun (n, k) => if (k == .free && sc.kind == .function && sc.names.lookup n == some .cell) then (n, .cell) else (n, k) }

def cloFrom (cells : List (Str × Addr)) : List (Str × NameKind) → List (Str × Addr) → List (Str × Addr)
  | [], acc => acc
  | (n, k) :: r, acc => if k == .free then cloFrom cells r ((n, (cells.lookup n).getD 0) :: acc) else cloFrom cells r acc

theorem closure_loop (env : Env) (f : Str × NameKind → List (Str × Addr) → Sem (ForInStep (List (Str × Addr))))
    (hf : ∀ n k c, f (n, k) c = if k == .free then (do let a ← cellOf env n; pure (.yield ((n, a) :: c))) else pure (.yield c)) :
    ∀ (names : List (Str × NameKind)) (acc : List (Str × Addr)), (∀ y ∈ names, y.2 = .free → ∃ c, env.cells.lookup y.1 = some c) → forIn names acc f = pure (cloFrom env.cells names acc)
  | [], acc, _ => by rw [List.forIn_nil]; rfl
  | (n, k) :: r, acc, h => by
    rw [List.forIn_cons, hf]
    have ih := fun acc => closure_loop env f hf r acc fun y hy => h y (List.mem_cons_of_mem _ hy)
    unfold cloFrom
    by_cases hk : (k == NameKind.free) = true
    · rw [if_pos hk, if_pos hk]
      obtain ⟨c, hc⟩ := h (n, k) List.mem_cons_self (by simpa using hk)
      have e : cellOf env n = pure c := by unfold cellOf; rw [hc]
      rw [e]
      have e2 : (env.cells.lookup n).getD 0 = c := by rw [hc]; rfl
      rw [e2]
      exact ih _
    · rw [if_neg hk, if_neg hk]
      exact ih _
theorem closure_ok {scope : Scope} {env : Env} (h : ∀ y ∈ scope.names, y.2 = .free → ∃ c, env.cells.lookup y.1 = some c) : closureFor scope env = pure (cloFrom env.cells scope.names []) := by
  simp only [closureFor]
  rw [closure_loop env _ (fun n k c => rfl) scope.names [] h]
  rfl

theorem mem_lookup {α : Type} : ∀ {l : List (Str × α)} {n : Str} {c : α}, (n, c) ∈ l → ∃ c', l.lookup n = some c'
  | (k, v) :: r, n, c, h => by
    rw [List.lookup_cons]
    cases hb : n == k with
    | true => exact ⟨_, rfl⟩
    | false =>
      rcases List.mem_cons.mp h with e | h
      · cases e; simp at hb
      · exact mem_lookup h

theorem cloFrom_mem {cells : List (Str × Addr)} : ∀ {names : List (Str × NameKind)} {acc : List (Str × Addr)} {n : Str} {c : Addr}, (n, c) ∈ cloFrom cells names acc → (n, c) ∈ acc ∨ ((n, .free) ∈ names ∧ c = (cells.lookup n).getD 0)
  | [], _, _, _, h => .inl h
  | (m, k) :: r, acc, n, c, h => by
    unfold cloFrom at h
    split at h
    · rename_i hk
      have hk : k = .free := by simpa using hk
      rcases cloFrom_mem h with h | ⟨h1, h2⟩
      · rcases List.mem_cons.mp h with e | h
        · cases e; exact .inr ⟨hk ▸ List.mem_cons_self, rfl⟩
        · exact .inl h
      · exact .inr ⟨List.mem_cons_of_mem _ h1, h2⟩
    · rcases cloFrom_mem h with h | ⟨h1, h2⟩
      · exact .inl h
      · exact .inr ⟨List.mem_cons_of_mem _ h1, h2⟩
theorem cloFrom_acc {cells : List (Str × Addr)} : ∀ {names : List (Str × NameKind)} {acc : List (Str × Addr)} {p : Str × Addr}, p ∈ acc → p ∈ cloFrom cells names acc
  | [], _, _, h => h
  | (m, k) :: r, acc, p, h => by
    unfold cloFrom
    split
    · exact cloFrom_acc (List.mem_cons_of_mem _ h)
    · exact cloFrom_acc h
theorem cloFrom_has {cells : List (Str × Addr)} : ∀ {names : List (Str × NameKind)} {acc : List (Str × Addr)} {n : Str}, (n, .free) ∈ names → (n, (cells.lookup n).getD 0) ∈ cloFrom cells names acc
  | (m, k) :: r, acc, n, h => by
    unfold cloFrom
    rcases List.mem_cons.mp h with e | h
    · cases e
      exact cloFrom_acc List.mem_cons_self
    · split
      · exact cloFrom_has h
      · exact cloFrom_has h

theorem cells_mem : ∀ {names : List (Str × NameKind)} {h : Heap} {acc : List (Str × Addr)} {x : Str} {c : Addr}, (x, c) ∈ cellsFrom h.objs.size names acc →
    (x, c) ∈ acc ∨ ((x, .cell) ∈ names ∧ h.objs.size ≤ c ∧ CellAt (pushCells h names) c none)
  | [], _, _, _, _, h => .inl h
  | (n, k) :: r, h, acc, x, c, hm => by
    unfold cellsFrom at hm
    unfold pushCells
    split at hm
    · rename_i hk
      rw [if_pos hk]
      have hk : k = .cell := by simpa using hk
      rw [← Heap.size_push h { cls := .type "cell", data := .cell none }] at hm
      rcases cells_mem hm with hm | ⟨h1, h2, h3⟩
      · rcases List.mem_cons.mp hm with e | hm
        · cases e
          exact .inr ⟨hk ▸ List.mem_cons_self, Nat.le_refl _, _, pushCells_keeps r _ _ _ (Heap.get?_push_size _ rfl), rfl⟩
        · exact .inl hm
      · rw [Heap.size_push] at h2
        exact .inr ⟨List.mem_cons_of_mem _ h1, Nat.le_of_succ_le h2, h3⟩
    · rename_i hk
      rw [if_neg hk]
      rcases cells_mem hm with hm | ⟨h1, h2, h3⟩
      · exact .inl hm
      · exact .inr ⟨List.mem_cons_of_mem _ h1, h2, h3⟩
theorem cells_acc : ∀ {names : List (Str × NameKind)} {n : Nat} {acc : List (Str × Addr)} {p : Str × Addr}, p ∈ acc → p ∈ cellsFrom n names acc
  | [], _, _, _, h => h
  | (m, k) :: r, n, acc, p, h => by
    unfold cellsFrom
    split
    · exact cells_acc (List.mem_cons_of_mem _ h)
    · exact cells_acc h
theorem cells_has : ∀ {names : List (Str × NameKind)} {n : Nat} {acc : List (Str × Addr)} {x : Str}, (x, .cell) ∈ names → ∃ c, (x, c) ∈ cellsFrom n names acc
  | (m, k) :: r, n, acc, x, h => by
    unfold cellsFrom
    rcases List.mem_cons.mp h with e | h
    · cases e
      exact ⟨n, cells_acc List.mem_cons_self⟩
    · split
      · exact cells_has h
      · exact cells_has h
theorem cells_inj : ∀ {names : List (Str × NameKind)} {h : Heap} {acc : List (Str × Addr)} {x y : Str} {c : Addr}, (∀ p ∈ acc, p.2 < h.objs.size) → (∀ x y c, (x, c) ∈ acc → (y, c) ∈ acc → x = y) →
    (x, c) ∈ cellsFrom h.objs.size names acc → (y, c) ∈ cellsFrom h.objs.size names acc → x = y
  | [], _, _, _, _, _, _, hi, h1, h2 => hi _ _ _ h1 h2
  | (n, k) :: r, h, acc, x, y, c, hl, hi, h1, h2 => by
    unfold cellsFrom at h1 h2
    split at h1
    · rename_i hk
      rw [if_pos hk] at h2
      rw [← Heap.size_push h { cls := .type "cell", data := .cell none }] at h1 h2
      refine cells_inj (h := h.push _) (fun p hp => ?_) (fun x y c a b => ?_) h1 h2
      · rw [Heap.size_push]
        rcases List.mem_cons.mp hp with rfl | hp
        · exact Nat.lt_succ_self _
        · exact Nat.lt_succ_of_lt (hl p hp)
      · rcases List.mem_cons.mp a with e | a <;> rcases List.mem_cons.mp b with e' | b
        · cases e; cases e'; rfl
        · cases e; exact absurd (hl _ b) (Nat.lt_irrefl _)
        · cases e'; exact absurd (hl _ a) (Nat.lt_irrefl _)
        · exact hi _ _ _ a b
    · rename_i hk
      rw [if_neg hk] at h2
      exact cells_inj hl hi h1 h2

theorem newEnv_comp {M : Model} {A : Around} {E : Value → Shared → Prop} {s : Shared} {scope : Scope} {globals : Addr} {closure : List (Str × Addr)} {qual : Str} {func : Option Addr} {code : Value} {around : Env} {builtins : Addr} {Q : Env → Shared → Prop}
    (h : Q (newEnv scope s.heap.objs.size globals (cellsFrom (s.heap.objs.size + 1) scope.names closure) qual func code (some around) builtins)
      { s with heap := pushCells (s.heap.push { cls := .type "dict", data := .dict #[] }) scope.names }) :
    wpAny M A (newFunctionEnv scope globals closure [] qual func code (some around) builtins) Q E s := by
  simp only [newFunctionEnv, Option.isSome_some, if_true]
  refine wpAny_bind (wpAny_alloc ?_)
  refine wpAny_bind (wpAny_layCells _ (fun n k c => rfl) scope.names closure _ _ ?_)
  rw [show ({ s with heap := s.heap.push { cls := .type "dict", data := .dict #[] } } : Shared).heap.objs.size = s.heap.objs.size + 1 from Heap.size_push ..]
  rw [List.forIn_nil]
  exact wpAny_bind (wpAny_pure (wpAny_pure h))

theorem lookup_relS {sc : Scope} : ∀ {names : List (Str × NameKind)} {x : Str} {k : NameKind},
    (names.map fun (n, k) => if (k == NameKind.free && sc.kind == .function && sc.names.lookup n == some .cell) then (n, NameKind.cell) else (n, k)).lookup x = some k →
    ∃ k', names.lookup x = some k' ∧ (k = k' ∨ (k' = .free ∧ k = .cell))
  | [], _, _, h => by simp at h
  | (n, k₀) :: r, x, k, h => by
    have ih := @lookup_relS sc r x k
    have h' : List.lookup x ((if (k₀ == NameKind.free && sc.kind == .function && sc.names.lookup n == some .cell) = true then (n, NameKind.cell) else (n, k₀)) :: (r.map _)) = some k := h
    cases hx : x == n with
    | true =>
      simp only [List.lookup_cons, hx]
      by_cases hc : (k₀ == NameKind.free && sc.kind == .function && sc.names.lookup n == some .cell) = true
      · rw [if_pos hc] at h'
        simp only [List.lookup_cons, hx] at h'
        cases h'
        simp only [Bool.and_eq_true, beq_iff_eq] at hc
        exact ⟨k₀, rfl, .inr ⟨hc.1.1, rfl⟩⟩
      · rw [if_neg hc] at h'
        simp only [List.lookup_cons, hx] at h'
        cases h'
        exact ⟨_, rfl, .inl rfl⟩
    | false =>
      simp only [List.lookup_cons, hx]
      by_cases hc : (k₀ == NameKind.free && sc.kind == .function && sc.names.lookup n == some .cell) = true
      · rw [if_pos hc] at h'
        simp only [List.lookup_cons, hx] at h'
        exact ih h'
      · rw [if_neg hc] at h'
        simp only [List.lookup_cons, hx] at h'
        exact ih h'
structure BlkOk (N : List Str) (sc scope : Scope) (own : List (Str × Nat)) : Prop where
  kind : scope.kind = .function
  uniq : ∀ y ∈ scope.names, scope.names.lookup y.1 = some y.2
  ix : ∀ p ∈ own, N[p.2]? = some p.1
  free : ∀ y ∈ scope.names, y.2 = .free → sc.names.lookup y.1 = some .cell ∨ sc.names.lookup y.1 = some .free
  own : ∀ y ∈ scope.names, y.2 = .local ∨ y.2 = .cell → y.1 ∈ own.map (·.1) ∨ y.1 ∉ N
def wipe (σ : St) : List Nat → St
  | [] => σ
  | v :: vs => (wipe σ vs).set v none
theorem wipe_length (σ : St) : ∀ vs : List Nat, (wipe σ vs).length = σ.length
  | [] => rfl
  | v :: vs => by unfold wipe; rw [List.length_set, wipe_length σ vs]
theorem wipe_some {σ : St} {i : Nat} {x : V} : ∀ {vs : List Nat}, (wipe σ vs)[i]? = some (some x) → σ[i]? = some (some x) ∧ i ∉ vs
  | [], h => ⟨h, by simp⟩
  | v :: vs, h => by
    unfold wipe at h
    by_cases hi : v = i
    · subst hi
      by_cases hv : v < (wipe σ vs).length
      · rw [List.getElem?_set_self hv] at h; cases h
      · rw [List.getElem?_eq_none (by simpa using hv)] at h; cases h
    · rw [List.getElem?_set_ne hi] at h
      obtain ⟨h1, h2⟩ := wipe_some h
      exact ⟨h1, by simp only [List.mem_cons, not_or]; exact ⟨fun e => hi e.symm, h2⟩⟩

abbrev Cx.blk (X : Cx) (s : Shared) (H : Hp) (scope : Scope) (cenv : Env) (fp : List Addr) : Cx := { X with s_0 := s, H_0 := H, env := cenv, outer := X.stack, ex := fp, fn := fun x => scope.names.lookup x == some .cell, pn := [], xe := fun _ _ => False }
section
variable {X : Cx} {pins : List (Addr × Obj)} {σ : St} {H : Hp} {s : Shared}
theorem block_start {scope : Scope} {own : List (Str × Nat)} {fp : List Addr} (I : Inv X pins σ H s) (ok : BlkOk X.N X.env.scope scope own) (hN : X.N.Nodup) (hfp : ∀ b ∈ fp, FpOk X pins H b ∧ b < s.heap.objs.size) :
    Inv (X.blk s H scope (compEnvC scope (cellsFrom (s.heap.objs.size + 1) scope.names (cloFrom X.env.cells scope.names [])) s.heap.objs.size X.env) fp) [] (wipe σ (own.map (·.2))) H { s with heap := pushCells (s.heap.push { cls := .type "dict", data := .dict #[] }) scope.names } := by
  have hfree : ∀ y ∈ scope.names, y.2 = .free → ∃ c, X.env.cells.lookup y.1 = some c := fun y hy e => by
    rcases ok.free y hy e with k | k
    · exact I.ok.has _ (.inl k)
    · exact I.ok.has _ (.inr k)
  generalize hcenv : compEnvC scope (cellsFrom (s.heap.objs.size + 1) scope.names (cloFrom X.env.cells scope.names [])) s.heap.objs.size X.env = cenv
  have kp : ∀ b o, s.heap.get? b = some o → (pushCells (s.heap.push { cls := .type "dict", data := .dict #[] }) scope.names).get? b = some o := fun b o e => pushCells_keeps _ _ _ _ (Heap.get?_push_of_some _ e)
  have hL : cenv.locals = s.heap.objs.size := by rw [← hcenv]; rfl
  have hcl : cenv.cells = cellsFrom (s.heap.objs.size + 1) scope.names (cloFrom X.env.cells scope.names []) := by rw [← hcenv]; rfl
  have hsc : cenv.scope = relS scope X.env.scope := by rw [← hcenv]; rfl
  rw [← Heap.size_push s.heap { cls := .type "dict", data := .dict #[] }] at hcl
  have cm : ∀ {y c}, (y, c) ∈ cloFrom X.env.cells scope.names [] → X.env.cells.lookup y = some c ∧ c < s.heap.objs.size := fun {y c} hm => by
    rcases cloFrom_mem hm with hm | ⟨h1, rfl⟩
    · cases hm
    · obtain ⟨c, hc⟩ := hfree _ h1 rfl
      rw [hc]
      obtain ⟨w, z⟩ := I.cell _ _ hc
      exact ⟨rfl, z.lt⟩
  have mem : ∀ {y c}, cenv.cells.lookup y = some c → (X.env.cells.lookup y = some c ∧ c < s.heap.objs.size) ∨ (s.heap.objs.size + 1 ≤ c ∧ CellAt (pushCells (s.heap.push { cls := .type "dict", data := .dict #[] }) scope.names) c none) := fun {y c} e => by
    rw [hcl] at e
    rcases cells_mem (PySem.mem_of_lookup e) with hm | ⟨_, h2, h3⟩
    · exact .inl (cm hm)
    · rw [Heap.size_push] at h2; exact .inr ⟨h2, h3⟩
  have look : ∀ {y}, scope.names.lookup y = some .free → ∃ c, cenv.cells.lookup y = some c ∧ X.env.cells.lookup y = some c := fun {y} hl => by
    have hy : (y, NameKind.free) ∈ scope.names := PySem.mem_of_lookup hl
    obtain ⟨c', e'⟩ := mem_lookup (cells_acc (names := scope.names) (n := (s.heap.push { cls := .type "dict", data := .dict #[] }).objs.size) (cloFrom_has (cells := X.env.cells) (acc := []) hy))
    rw [← hcl] at e'
    refine ⟨c', e', ?_⟩
    rw [hcl] at e'
    rcases cells_mem (PySem.mem_of_lookup e') with hm | ⟨h1, _, _⟩
    · exact (cm hm).1
    · have := ok.uniq _ h1
      rw [hl] at this; cases this
  have okB : (X.blk s H scope cenv fp).Ok := by
    refine ⟨I.ok.mod, by show cenv.scope.kind = _; rw [hsc]; exact ok.kind, by show cenv.globals = _; rw [← hcenv]; exact I.ok.glob, by show cenv.builtins = _; rw [← hcenv]; exact I.ok.blt, by show s.heap.objs.size ≤ cenv.locals; rw [hL]; exact Nat.le_refl _,
      fun y z c e1 e2 => ?_, fun y hy => ?_, fun y c z e => ?_, I.ok.hd, I.ok.frames, .inl rfl, fun b hb => ⟨?_, fun y c e z => ?_⟩, I.bs, Nat.le_trans I.ok.bsz I.sz, fun b o e hb => ?_, fun b hb z => ?_, I.stack, I.stkFree⟩
    · have e1 : cenv.cells.lookup y = some c := e1
      have e2 : cenv.cells.lookup z = some c := e2
      rw [hcl] at e1 e2
      refine cells_inj (fun p hp => ?_) (fun y z c a b => I.ok.inj y z c (cm a).1 (cm b).1) (PySem.mem_of_lookup e1) (PySem.mem_of_lookup e2)
      rw [Heap.size_push]
      exact Nat.lt_succ_of_lt (cm (y := p.1) (c := p.2) hp).2
    · show ∃ c, cenv.cells.lookup y = some c
      have key : ∀ k, cenv.kindOf y = some k → (k = .cell ∨ k = .free) → ∃ c, cenv.cells.lookup y = some c := fun k hk hk' => by
        unfold Env.kindOf at hk
        rw [hsc] at hk
        obtain ⟨k', e, r⟩ := lookup_relS hk
        have : k' = .cell ∨ k' = .free := by
          rcases r with rfl | ⟨rfl, _⟩
          · exact hk'
          · exact .inr rfl
        rcases this with rfl | rfl
        · obtain ⟨c, hm⟩ := cells_has (n := (s.heap.push { cls := .type "dict", data := .dict #[] }).objs.size) (acc := cloFrom X.env.cells scope.names []) (PySem.mem_of_lookup e)
          obtain ⟨c', e'⟩ := mem_lookup hm
          exact ⟨c', by rw [hcl]; exact e'⟩
        · obtain ⟨c, h1, _⟩ := look e
          exact ⟨c, h1⟩
      rcases hy with hy | hy
      · exact key _ hy (.inl rfl)
      · exact key _ hy (.inr rfl)
    · have z : (scope.names.lookup y == some NameKind.cell) = true := z
      have z : scope.names.lookup y = some .cell := by simpa using z
      have e : cenv.cells.lookup y = some c := e
      rw [hcl] at e
      rcases cells_mem (PySem.mem_of_lookup e) with hm | ⟨_, h2, _⟩
      · rcases cloFrom_mem hm with hm | ⟨h1, _⟩
        · cases hm
        · have q := ok.uniq _ h1
          rw [z] at q; cases q
      · rw [Heap.size_push] at h2
        exact Nat.le_of_succ_le h2
    · show b ≠ cenv.locals
      rw [hL]; exact Nat.ne_of_lt (hfp b hb).2
    · have e : cenv.cells.lookup y = some c := e
      rcases mem e with ⟨h1, _⟩ | ⟨h1, _⟩
      · exact (hfp b hb).1.2.2.2.2.1 y c h1 z
      · have h2 : s.heap.objs.size + 1 ≤ b := by rw [← z]; exact h1
        exact absurd (Nat.lt_of_lt_of_le (hfp b hb).2 (Nat.le_of_succ_le h2)) (Nat.lt_irrefl _)
    · rcases (hfp b hb).1.2.2.2.1 with z | z
      · exact I.ok.noex b o e z
      · exact absurd (Nat.lt_of_lt_of_le (Heap.lt_size e) (Nat.le_trans I.ok.bsz z)) (Nat.lt_irrefl _)
    · rcases List.mem_cons.mp (I.stkSub b z) with z | z
      · exact (hfp b hb).1.2.1 z
      · exact (hfp b hb).1.2.2.1 z
  refine ⟨okB, rfl, I.bare, Un.kept kp, ⟨fun _ => none, ?_, fun i y av e1 e2 e3 => ?_⟩, fun y c e => ?_, ?_, fun y c e => ?_, fun p hp => ?_, I.hok.kept kp, by rw [wipe_length]; exact I.len⟩
  · show Heap.Ns _ cenv.locals _
    rw [hL]
    exact Heap.Ns.keeps (Heap.Ns.new ..) fun b o e => pushCells_keeps _ _ _ _ e
  · obtain ⟨e2, hne⟩ := wipe_some e2
    have hfr : scope.names.lookup y = some .free ∧ (cenv.kindOf y = some .cell ∨ cenv.kindOf y = some .free) := by
      have key : ∀ k, cenv.scope.names.lookup y = some k → k = .local ∨ k = .cell ∨ k = .free → scope.names.lookup y = some .free ∧ (cenv.kindOf y = some .cell ∨ cenv.kindOf y = some .free) := fun k hk hk' => by
        have hk0 := hk
        rw [hsc] at hk
        obtain ⟨k', e, r⟩ := lookup_relS hk
        have no : ¬ (k' = .local ∨ k' = .cell) := fun hh => by
          rcases ok.own _ (PySem.mem_of_lookup e) hh with e' | e'
          · obtain ⟨p, hp, hpy⟩ := List.mem_map.mp e'
            have e3 := ok.ix p hp
            have : p.1 = y := hpy
            rw [this] at e3
            exact hne (List.mem_map.mpr ⟨p, hp, nodup_ix hN e3 e1⟩)
          · exact e' (List.mem_of_getElem? e1)
        rcases r with rfl | ⟨rfl, rfl⟩
        · rcases hk' with rfl | rfl | rfl
          · exact absurd (.inl rfl) no
          · exact absurd (.inr rfl) no
          · exact ⟨e, .inr hk0⟩
        · exact ⟨e, .inl hk0⟩
      have e3 : Vis cenv.scope y := e3
      rcases e3 with e3 | e3 | e3
      · exact key _ e3 (.inl rfl)
      · exact key _ e3 (.inr (.inl rfl))
      · exact key _ e3 (.inr (.inr rfl))
    obtain ⟨m, hn, hl⟩ := I.loc
    have hvis : Vis X.env.scope y := (ok.free _ (PySem.mem_of_lookup hfr.1) rfl).elim (fun k => .inr (.inl k)) (fun k => .inr (.inr k))
    obtain ⟨w, r, q⟩ := hl i y av e1 e2 hvis
    refine ⟨w, r, .inr ⟨hfr.2, ?_⟩⟩
    obtain ⟨c, h1, h2⟩ := look hfr.1
    rcases q with ⟨k, _⟩ | ⟨_, c', e', z⟩
    · have k : X.env.scope.names.lookup y = some .local := k
      rcases ok.free _ (PySem.mem_of_lookup hfr.1) rfl with k' | k' <;> rw [show X.env.scope.names.lookup y = _ from k'] at k <;> cases k
    · rw [h2] at e'; cases e'
      exact ⟨c, h1, z.keeps kp⟩
  · have e : cenv.cells.lookup y = some c := e
    rcases mem e with ⟨h1, _⟩ | ⟨_, z⟩
    · obtain ⟨w, z⟩ := I.cell y c h1
      exact ⟨w, z.keeps kp⟩
    · exact ⟨_, z⟩
  · show H cenv.locals = none
    rw [hL]; exact I.hok.fresh (Nat.le_refl _)
  · have e : cenv.cells.lookup y = some c := e
    rcases mem e with ⟨h1, _⟩ | ⟨h1, _⟩
    · exact I.freeC y c h1
    · exact I.hok.fresh (Nat.le_of_succ_le h1)
  · exact absurd (show p ∈ ([] : List (Addr × Obj)) ++ [] from hp) (by simp)

theorem app_ok {E : Value → Shared → Prop} {D : Addr} {xs : List V} {y : V} {v : Value} {Q : Value → Shared → Prop} (I : Inv X pins σ H s) (hD : H D = some (.lst xs)) (hz : xs.length < sizeLine) (r : RelV y v)
    (h : ∀ s', Inv X pins σ (upd H D (.lst (xs ++ [y]))) s' → Q .none s') : wpAny (model X.prog X.w) X.A (call (.builtin "list.append") [.ref D, v]) Q E s := by
  obtain ⟨hz', its, n, ri, e⟩ := I.hok D _ hD
  have hl := ri.length
  refine append_at (hsz := by rw [List.size_toArray]; omega) e fun h' sb ho' => ?_
  refine h { s with heap := h' } (I.write (t' := s.toks) (by rw [hD]; trivial) (.inl rfl) (fun b u hb q => (sb.2 b hb).trans q) ⟨_, ho'⟩ ⟨by rw [List.length_append]; exact hz, its ++ [v], n + 1, ri.append (.cons r .nil), ?_⟩)
  rw [ho']
  simp

def PTs (X : Cx) (ifs : List Expr) (t : TT) : Prop :=
  ∀ (pins : List (Addr × Obj)) (s : Shared) (σ : St) (H : Hp) (Q : Bool → Hp → Prop), Inv X pins σ H s → t σ H Q →
    wpAny (model X.prog X.w) X.A (forIn ifs true fun c r => if r = true then do let ok ← isTrue c X.env (eval c X.env); pure (ForInStep.yield ok) else pure (ForInStep.yield r)) (TP X pins σ Q) X.xe s
def tYes : TT := fun _ H Q => Q true H
theorem pts_nil : PTs X [] tYes := fun _ _ _ H _ I h => wpAny_tests_nil ⟨H, I, h⟩
theorem pts_one {c : Expr} {t : TT} (h : PT X c t) : PTs X [c] t := fun pins s σ H Q I hw => wpAny_tests_one (h pins s σ H Q I hw)
end

theorem thnF {α : Type} {t : Sem α} {Q Q' : α → Shared → Prop} {M : Model} {A : Around} {E : Value → Shared → Prop} {s : Shared} (h : wpAny M A t Q (fun _ _ => False) s) (hQ : ∀ a s, Q a s → Q' a s) : wpAny M A t Q' E s := wpAny_mono h hQ fun _ _ z => False.elim z

theorem compLoop_any {prog : Program} {w : World} {A : Around} {R : Result → Shared → Prop} {s : Shared} {elt target iter : Expr} {ifs : List Expr} {scope : Scope} {pos : Pos} {it acc : Value} {env : Env} (I : Nat → Shared → Prop)
    (turn : ∀ n s, I n s → wpAny (model prog w) A (pyNext it) (fun r s₁ => match r with
      | none => R (.ok .next) s₁
      | some v => wpAny (model prog w) A (letOwnedTupleGo target it v) (fun _ s₁' => wpAny (model prog w) A (assign target env v) (fun _ s₂ =>
          wpAny (model prog w) A (forIn ifs true fun c r => if r = true then do let ok ← isTrue c env (eval c env); pure (ForInStep.yield ok) else pure (ForInStep.yield r)) (fun ok s₃ =>
            if ok = true then wpAny (model prog w) A (eval elt env) (fun x s₄ =>
              wpAny (model prog w) A (call (.builtin "list.append") [acc, x]) (fun _ s₅ => ∃ m, m < n ∧ I m s₅) (notedBy (model prog w) A env fun e s' => R (.error e) s') s₄) (notedBy (model prog w) A env fun e s' => R (.error e) s') s₃
            else ∃ m, m < n ∧ I m s₃) (notedBy (model prog w) A env fun e s' => R (.error e) s') s₂) (notedBy (model prog w) A env fun e s' => R (.error e) s') s₁') (notedBy (model prog w) A env fun e s' => R (.error e) s') s₁) (notedBy (model prog w) A env fun e s' => R (.error e) s') s)
    (n : Nat) (h : I n s) :
    codeAny (model prog w) A (.compLoop (.ListComp elt [⟨target, iter, ifs, 0⟩] scope pos) 0 it acc env) R s := by
  refine codeAny_loop rfl I (fun n s hI => ?_) n h
  show wpAny _ A ((compTurn (.ListComp elt [⟨target, iter, ifs, 0⟩] scope pos) 0 it acc env).onRaise (fun x => do noteFrame x env; theTreesLotGoes x)) _ _ s
  refine wpAny_noted ?_
  rw [compTurn_list]
  refine wpAny_bind (wpAny_standAt (wpAny_bind (wpAny_mono (turn n s hI) (fun r s₁ h₁ => ?_) fun _ _ h' => h')))
  cases r with
  | none => exact wpAny_pure h₁
  | some v =>
    refine wpAny_bind (wpAny_mono h₁ (fun _ s₁' h₁' => ?_) fun _ _ h' => h')
    refine wpAny_bind (wpAny_mono h₁' (fun _ s₂ h₂ => wpAny_bind (wpAny_mono h₂ (fun ok s₃ h₃ => ?_) fun _ _ h' => h')) fun _ _ h' => h')
    cases ok with
    | false => exact wpAny_pure ⟨rfl, h₃⟩
    | true =>
      exact wpAny_bind (wpAny_bind (wpAny_mono h₃ (fun x s₄ h₄ => wpAny_bind (wpAny_mono h₄ (fun _ s₅ h₅ => wpAny_pure (wpAny_pure ⟨rfl, h₅⟩)) fun _ _ h' => h')) fun _ _ h' => h'))

section
variable {X : Cx}
def tLc (wi : TI) (g : TG) (tt : TT) (te : TE) (vs : List Nat) : TE := fun σ H Q => wi σ H fun J H1 => ∀ D, H1 D = none → ∃ W : Nat → Nat → Hp → Prop, (∃ m, W 0 m (upd H1 D (.lst []))) ∧ ∀ i m H, W i m H →
  (J.stop i H ∧ Q (.ref D) H) ∨ (J.go i H ∧ ∃ Nx : Hp → Prop, (∀ H', Nx H' → ∃ m', m' < m ∧ W (i + 1) m' H') ∧ ∀ x H', J.yld i H x H' → g x (wipe σ vs) H' fun σ2 H2 => wipe σ2 vs = wipe σ vs ∧ tt σ2 H2 fun b H3 =>
    if b = true then te σ2 H3 fun y H4 => ∃ acc, H4 D = some (.lst acc) ∧ acc.length < sizeLine ∧ Nx (upd H4 D (.lst (acc ++ [y]))) else Nx H3)
theorem lc_core {pins : List (Addr × Obj)} {s : Shared} {σ : St} {H : Hp} {Q : VK} {elt tg iter : Expr} {ifs : List Expr} {scope : Scope} {own : List (Str × Nat)} {pos pos' : Pos} {wi : TI} {g : TG} {tt : TT} {te : TE} {use : Option (Value → Sem Unit)} {Qf : Value → Shared → Prop}
    (hc : X.calm = true) (hN : X.N.Nodup) (I : Inv X pins σ H s) (hi : PI X tg iter wi) (ok : BlkOk X.N X.env.scope scope own)
    (hg : ∀ (s : Shared) (H : Hp) (C : Addr) (cl : List (Str × Addr)) (fp : List Addr), PG (X.blk s H scope (compEnvC scope cl C X.env) fp) tg g) (ht : ∀ (s : Shared) (H : Hp) (C : Addr) (cl : List (Str × Addr)) (fp : List Addr), PTs (X.blk s H scope (compEnvC scope cl C X.env) fp) ifs tt)
    (he : ∀ (s : Shared) (H : Hp) (C : Addr) (cl : List (Str × Addr)) (fp : List Addr), PE (X.blk s H scope (compEnvC scope cl C X.env) fp) elt te) (hs : ∀ x, foldedSetIterable iter X.env x = pure x)
    (h : tLc wi g tt te (own.map (·.2)) σ H Q)
    (hRR : ∀ D C s' m H', Inv X pins σ H' s' → Q (.ref D) H' → s'.heap.Ns C m → FpOk X pins H' C → compPost (model X.prog X.w) X.A X.xe use Qf (.ref D) C (.ok .next) s') :
    wpAny (model X.prog X.w) X.A (comprehension (.ListComp elt [⟨tg, iter, ifs, 0⟩] scope pos) scope X.env pos' (newList []) false (eval iter X.env) use) Qf X.xe s := by
  have hfree : ∀ y ∈ scope.names, y.2 = .free → ∃ c, X.env.cells.lookup y.1 = some c := fun y hy e => by
    rcases ok.free y hy e with k | k
    · exact I.ok.has _ (.inl k)
    · exact I.ok.has _ (.inr k)
  refine wpAny_comprehension_free (use := use) rfl hs (closure_ok hfree) ok.kind (fun y hy e => by rw [ok.uniq y hy, e])
    (thn (hi pins s σ H _ I h) fun xv s1 hx => thn hx fun itv s2 h2 => ?_)
  obtain ⟨it, fp, tn, J, H2, e, I2, T, st2, f2, q⟩ := h2
  subst e
  refine wpAny_newObj_type (newEnv_comp ?_) (by show 0 ≤ sizeLine; decide)
  generalize hD : s2.heap.objs.size = D
  have hDn : H2 D = none := I2.hok.fresh (Nat.le_of_eq hD)
  obtain ⟨W, ⟨m0, w0⟩, turn⟩ := q D hDn
  -- the new list
  generalize hs3 : ({ s2 with heap := s2.heap.push { cls := .type "list", data := .seq ([] : List Value).toArray } } : Shared) = s3
  have I3 : Inv X pins σ (upd H2 D (.lst [])) s3 := by
    rw [← hs3]
    refine I2.laid (t' := s2.toks) (fun b o e => Heap.get?_push_of_some _ e) (Nat.le_of_eq hD) ⟨Nat.zero_le _, [], 0, .nil, ?_⟩
    rw [← hD]
    exact Heap.get?_push_size _ rfl
  have h3 : s3.heap = s2.heap.push { cls := .type "list", data := .seq ([] : List Value).toArray } := by rw [← hs3]
  have sz : ∀ b ∈ fp, b < s2.heap.objs.size := fun b hb => by
    obtain ⟨o, e, _⟩ := T.obj _ _ st2 b hb
    exact Heap.lt_size e
  have f3 : ∀ b ∈ fp, FpOk X pins (upd H2 D (.lst [])) b ∧ b < s3.heap.objs.size := fun b hb => by
    have hlt := sz b hb
    refine ⟨⟨?_, (f2 b hb).2⟩, by rw [h3, Heap.size_push]; exact Nat.lt_succ_of_lt hlt⟩
    rw [upd_ne (by rw [← hD]; exact Nat.ne_of_lt hlt)]
    exact (f2 b hb).1
  have st3 : tn 0 s3.heap := T.keep _ _ _ st2 fun b _ o e => by rw [h3]; exact Heap.get?_push_of_some _ e
  have I4 := block_start I3 ok hN f3
  have pg := hg s3 (upd H2 D (.lst [])) s3.heap.objs.size (cellsFrom (s3.heap.objs.size + 1) scope.names (cloFrom X.env.cells scope.names [])) fp
  have pt := ht s3 (upd H2 D (.lst [])) s3.heap.objs.size (cellsFrom (s3.heap.objs.size + 1) scope.names (cloFrom X.env.cells scope.names [])) fp
  have pe := he s3 (upd H2 D (.lst [])) s3.heap.objs.size (cellsFrom (s3.heap.objs.size + 1) scope.names (cloFrom X.env.cells scope.names [])) fp
  show codeAny _ _ (.compStart (.ListComp elt [⟨tg, iter, ifs, 0⟩] scope pos) 0 (.ref it) (.ref D) (compEnvC scope (cellsFrom (s3.heap.objs.size + 1) scope.names (cloFrom X.env.cells scope.names [])) s3.heap.objs.size X.env)) (compPost (model X.prog X.w) X.A X.xe use Qf (.ref D) s3.heap.objs.size) { s3 with heap := pushCells (s3.heap.push { cls := .type "dict", data := .dict #[] }) scope.names }
  have nfp : ∀ b ∈ fp, (upd H2 D (.lst [])) b = none := fun b hb => (f3 b hb).1.1
  generalize hce : compEnvC scope (cellsFrom (s3.heap.objs.size + 1) scope.names (cloFrom X.env.cells scope.names [])) s3.heap.objs.size X.env = ce at I4 pg pt pe ⊢
  have cL : ce.locals = s3.heap.objs.size := by subst hce; rfl
  generalize hH3 : upd H2 D (.lst []) = H3 at I3 I4 pg pt pe w0 nfp f3
  generalize hs4 : ({ s3 with heap := pushCells (s3.heap.push { cls := .type "dict", data := .dict #[] }) scope.names } : Shared) = s4 at I4 ⊢
  have st4 : tn 0 s4.heap := T.keep _ _ _ st3 fun b _ o e => by rw [← hs4]; exact pushCells_keeps _ _ _ _ (Heap.get?_push_of_some _ e)
  have stat : ∀ {σ' : St} {H' : Hp} {s' : Shared}, Inv (X.blk s3 H3 scope ce fp) [] σ' H' s' → (∀ b ∈ fp, H' b = none) → ∀ b ∈ fp, FpOk (X.blk s3 H3 scope ce fp) [] H' b := fun {σ' H' s'} I' hn b hb =>
    ⟨hn b hb, (I'.ok.exf b hb).1, I'.ok.exfs b hb, .inl hb, fun x c e => (I'.ok.exf b hb).2 x c e, fun p hp => absurd (show p ∈ ([] : List (Addr × Obj)) ++ [] from hp) (by simp)⟩
  have loop : codeAny (model X.prog X.w) X.A (.compLoop (.ListComp elt [⟨tg, iter, ifs, 0⟩] scope pos) 0 (.ref it) (.ref D) ce) (compPost (model X.prog X.w) X.A X.xe use Qf (.ref D) s3.heap.objs.size) s4 := by
    refine compLoop_any (fun n s' => ∃ i H', Inv (X.blk s3 H3 scope ce fp) [] (wipe σ (own.map (·.2))) H' s' ∧ tn i s'.heap ∧ (∀ b ∈ fp, H' b = none) ∧ W i n H') ?_ m0 ⟨0, H3, I4, st4, nfp, w0⟩
    rintro n s5 ⟨i, H5, I5, st5, n5, w5⟩
    rcases turn i n H5 w5 with ⟨stop, qq⟩ | ⟨go, Nx, hNx, step⟩
    · have td := T.done (X.blk s3 H3 scope ce fp) rfl rfl rfl hc i [] s5 _ H5 (fun _ _ => False) I5 (stat I5 n5) st5 stop
      refine thnF td fun r s6 ⟨hr, I6⟩ => ?_
      subst hr
      -- back in the def's context
      have I7 : Inv X pins σ H5 s6 := I3.call' (ch := fp) I6.os I6.base I6.hok I6.bare fun b hb => ⟨(f3 b hb).1.2.2.2.1, (f3 b hb).1.2.1, (f3 b hb).1.2.2.2.2.1, (f3 b hb).1.2.2.2.2.2⟩
      have nC : H5 s3.heap.objs.size = none := by
        have z : H5 ce.locals = none := I6.free
        rw [cL] at z
        exact z
      obtain ⟨m, hn, _⟩ := I6.loc
      have hn : s6.heap.Ns ce.locals m := hn
      rw [cL] at hn
      exact hRR D s3.heap.objs.size s6 m H5 I7 qq hn (I3.fpOk (Nat.le_refl _) nC)
    · have ti := T.item (X.blk s3 H3 scope ce fp) rfl rfl rfl hc i [] s5 _ H5 (fun _ _ => False) I5 (stat I5 n5) st5 go
      refine thnF ti fun r s6 ⟨u, hr, h6⟩ => ?_
      subst hr
      refine thnF h6 fun _ s7 ⟨x, H7, I7, r7, y7, st7, n7⟩ => ?_
      have I7' := I7.pinned (stat I7 n7) (T.obj _ _ st7)
      refine thnF (pg _ s7 _ H7 x u _ I7' r7 (step x H7 y7)) fun _ s8 ⟨σ8, H8, I8, hw8, q8⟩ => ?_
      refine thnF (pt _ s8 σ8 H8 _ I8 q8) fun b s9 ⟨H9, I9, q9⟩ => ?_
      -- the turn's end
      have fin : ∀ {s' : Shared} {H' : Hp}, Inv (X.blk s3 H3 scope ce fp) ([] ++ pinsAt fp s7.heap) σ8 H' s' → Nx H' → ∃ m, m < n ∧ ∃ i H', Inv (X.blk s3 H3 scope ce fp) [] (wipe σ (own.map (·.2))) H' s' ∧ tn i s'.heap ∧ (∀ b ∈ fp, H' b = none) ∧ W i m H' := fun {s' H'} I' nx => by
        obtain ⟨m', hm, w'⟩ := hNx H' nx
        have pin' : ∀ b ∈ fp, ∀ o, s7.heap.get? b = some o → s'.heap.get? b = some o ∧ H' b = none := fun b hb o e =>
          let z := I'.pin (b, o) (List.mem_append_right _ (List.mem_append_right _ (mem_pinsAt hb e)))
          ⟨z.1, z.2.1⟩
        have hl : (wipe σ (own.map (·.2))).length = σ8.length := by rw [← hw8, wipe_length]
        refine ⟨m', hm, i + 1, H', (I'.unpinned (pins := [])).weak hl (fun j v e => ?_), T.keep _ _ _ st7 fun b hb o e => (pin' b hb o e).1, fun b hb => ?_, w'⟩
        · rw [← hw8] at e
          exact (wipe_some e).1
        · obtain ⟨o, e, _⟩ := T.obj _ _ st7 b hb
          exact (pin' b hb o e).2
      cases b with
      | false =>
        simp only [Bool.false_eq_true, if_false] at q9 ⊢
        exact fin I9 q9
      | true =>
        simp only [if_true] at q9 ⊢
        refine thnF (pe _ s9 σ8 H9 _ I9 q9) fun z s10 ⟨yv, H10, I10, r10, acc, hD10, hz10, nx⟩ => ?_
        exact app_ok (X := X.blk s3 H3 scope ce fp) I10 hD10 hz10 r10 fun s11 I11 => fin I11 nx
  exact codeAny_compStart_list loop (T.self X.A 0 _ _ _ st4 loop)
theorem pe_lc {elt tg iter : Expr} {ifs : List Expr} {scope : Scope} {own : List (Str × Nat)} {pos : Pos} {wi : TI} {g : TG} {tt : TT} {te : TE} (hc : X.calm = true) (hN : X.N.Nodup) (hi : PI X tg iter wi) (ok : BlkOk X.N X.env.scope scope own)
    (hg : ∀ (s : Shared) (H : Hp) (C : Addr) (cl : List (Str × Addr)) (fp : List Addr), PG (X.blk s H scope (compEnvC scope cl C X.env) fp) tg g) (ht : ∀ (s : Shared) (H : Hp) (C : Addr) (cl : List (Str × Addr)) (fp : List Addr), PTs (X.blk s H scope (compEnvC scope cl C X.env) fp) ifs tt)
    (he : ∀ (s : Shared) (H : Hp) (C : Addr) (cl : List (Str × Addr)) (fp : List Addr), PE (X.blk s H scope (compEnvC scope cl C X.env) fp) elt te) (hs : ∀ x, foldedSetIterable iter X.env x = pure x := by intro _; rfl) :
    PE X (.ListComp elt [⟨tg, iter, ifs, 0⟩] scope pos) (tLc wi g tt te (own.map (·.2))) := by
  intro pins s σ H Q I h
  rw [eval_ListComp]
  refine lc_core hc hN I hi ok hg ht he hs h fun D C s' m H' I' q hn f => ⟨m, hn, fun h'' sb => ?_⟩
  obtain ⟨f0, f1, f2, f3, f4, f5⟩ := f
  exact ⟨.ref D, H', I'.turned (t' := s'.toks) (fun b o hb e => (sb.2 b hb).trans e) f0 f1 f3 f4 f5, rfl, q⟩
theorem ps_setLc {i : Nat} {y : Str} {py : Pos} {elt tg iter : Expr} {ifs : List Expr} {scope : Scope} {own : List (Str × Nat)} {pos spos : Pos} {wi : TI} {g : TG} {tt : TT} {te : TE} (hc : X.calm = true) (hN : X.N.Nodup) (hy : X.N[i]? = some y) (hyl : X.env.scope.names.lookup y = some .local)
    (hsw : swapsWith (.ListComp elt [⟨tg, iter, ifs, 0⟩] scope pos) (some (.Name y py)) spos.line X.env = pure true) (hi : PI X tg iter wi) (ok : BlkOk X.N X.env.scope scope own)
    (hg : ∀ (s : Shared) (H : Hp) (C : Addr) (cl : List (Str × Addr)) (fp : List Addr), PG (X.blk s H scope (compEnvC scope cl C X.env) fp) tg g) (ht : ∀ (s : Shared) (H : Hp) (C : Addr) (cl : List (Str × Addr)) (fp : List Addr), PTs (X.blk s H scope (compEnvC scope cl C X.env) fp) ifs tt)
    (he : ∀ (s : Shared) (H : Hp) (C : Addr) (cl : List (Str × Addr)) (fp : List Addr), PE (X.blk s H scope (compEnvC scope cl C X.env) fp) elt te) (hs : ∀ x, foldedSetIterable iter X.env x = pure x := by intro _; rfl) :
    PS X (.Assign [.Name y py] (.ListComp elt [⟨tg, iter, ifs, 0⟩] scope pos) spos) (tAsg (tLc wi g tt te (own.map (·.2))) (gName i)) := by
  intro pins s σ H D I h
  rw [exec_Assign_Name_used _ _ _ _ hsw]
  refine wpAny_bind (wpAny_standAt (wpAny_bind ?_))
  show wpAny _ X.A (do let _ ← comprehension (.ListComp elt [⟨tg, iter, ifs, 0⟩] scope pos) scope X.env (firstIterPos [⟨tg, iter, ifs, 0⟩] pos) (newList []) false (eval iter X.env) (some (assign (.Name y py) X.env))) _ _ s
  have h : tLc wi g tt te (own.map (·.2)) σ H (fun x H1 => gName i x σ H1 D.nx) := h
  refine wpAny_bind (thn (lc_core (Qf := fun _ s' => SP X pins D .next s') hc hN I hi ok hg ht he hs h fun L C s' m H' I' q hn f => ?_) fun _ s' hq => wpAny_pure (wpAny_pure hq))
  show wpAny _ _ (assign (.Name y py) X.env (.ref L)) _ _ _
  refine wpAny_assign_Name (store_ok2 (v := V.ref L) I' hN hy (.inl hyl) rfl (fun s2 I2 ⟨a, sb, ha⟩ => ?_) (.inr hyl))
  obtain ⟨f0, f1, f2, f3, f4, f5⟩ := f
  have haC : C ≠ a := by
    rcases ha with z | z
    · rw [z]; exact f1
    · exact fun e => f4 y a z e.symm
  refine ⟨m, hn.sameBut sb haC, fun h3 sb3 => ?_⟩
  exact ⟨_, H', I2.turned (t' := s2.toks) (fun b o hb e => (sb3.2 b hb).trans e) f0 f1 f3 f4 f5, q⟩
end

end L2

namespace L2
open PySem PySem.Spec PyProof.Rows

section
variable {prog : Program} {w : World} {A : Around} {R : Result → Shared → Prop} {s : Shared} {elt t0 i0 t1 i1 : Expr} {ifs0 ifs1 : List Expr} {scope : Scope} {pos : Pos} {it acc : Value} {env : Env}
end

section
variable {X : Cx}
end
end L2

namespace L2
open PySem PySem.Spec PyProof.Rows

section
variable {κ : Type} [DecidableEq κ]
end


theorem kV_is {P : Program} {w : World} {k : Key} {u : Value} (r : RelV (kV k) u) : (mixKind P w).is k u = true := by
  cases k with
  | inl i => obtain ⟨t, e⟩ := (show ∃ t, u = Value.int i t from r); subst e; exact mixKind_int P w i t
  | inr x => obtain ⟨t, e⟩ := (show ∃ t, u = Value.str x t from r); subst e; exact mixKind_str P w x t
section
variable {P : Program} {w : World} {H : Hp} {h : Heap} {a : Addr}
end

section
variable {X : Cx} {pins : List (Addr × Obj)} {σ : St} {H : Hp} {s : Shared} {a : Addr} {y v : V} {u r : Value} {o : Option V} {A : Around} {E : Value → Shared → Prop}

end

section
variable {X : Cx} {pins : List (Addr × Obj)} {σ : St} {H : Hp} {s : Shared} {a : Addr} {kvs : List (Key × V)} {k : Key} {u : Value} {A : Around} {E : Value → Shared → Prop}
end


def NoSl (i : Expr) : Prop := ∀ ov iv, subscripted i false ov iv = operate [ov, iv] (getItem ov iv)
theorem subD_of {prog : Program} {w : World} {A : Around} {E : Value → Shared → Prop} {s : Shared} {env : Env} {value slice : Expr} {pos : Pos} {T id : String} {Q : Value → Shared → Prop}
    (hl : typeLookup (.type T) "__getitem__" = pure (some (.builtin id))) (hs : NoSl slice)
    (h : wpAny (model prog w) A (eval value env) (fun o s₁ => wpAny (model prog w) A (eval slice env) (fun i s₂ => s₂.TypeIs o T ∧ wpAny (model prog w) A (getItem o i) Q E s₂) E s₁) E s) :
    wpAny (model prog w) A (eval (.Subscript value slice pos) env) Q E s := by
  refine Subscript_ (wpAny_mono h (fun o s₁ h₁ => wpAny_mono h₁ (fun i s₂ h₂ => ?_) fun _ _ x => x) fun _ _ x => x)
  obtain ⟨hT, h₂⟩ := h₂
  unfold subscriptTail
  refine wpAny_bind ?_
  rw [getitemInPython_of_ne hT.not_modules]
  refine wpAny_bind (wpAny_specialOf hT hl ?_)
  have fin : wpAny (model prog w) A (subscripted slice false o i) (fun r s₃ => wpAny (model prog w) A (letTemporaryGo value o r >>= fun _ => pure r) Q E s₃) E s₂ := by
    rw [hs o i]
    exact wpAny_operating (wpAny_mono h₂ (fun r s₃ h₃ => wpAny_bind (wpAny_letTemporaryGo (wpAny_pure h₃))) fun _ _ x => x)
  first
    | exact wpAny_pure (wpAny_bind fin)
    | exact wpAny_bind (wpAny_pure (wpAny_bind fin))
    | exact wpAny_bind fin

section
variable {X : Cx} {o i e value : Expr} {pos pos' tpos : Pos} {td ty tv : TE}
end


section
variable {X : Cx} {pos : Pos}
end

structure M1 (X : Cx) (o : Expr) (m : Str) (apos : Pos) (e : Expr) (cpos : Pos) : Prop where
  base : attributeBase o m X.env (eval o X.env) = eval o X.env
  few : ((backTo cpos (starEach [e] X.env)).all (fun x => !x.1) && (backToKw cpos (keywordEach [] X.env)).all (fun x => x.1.isSome)
    && decide (([e] : List Expr).length + ([] : List Keyword).length + (if ([] : List Keyword).isEmpty then 0 else 1) < 30)) = true
  line : (apos.endLine == cpos.line) = true
  trees : backTo cpos (starEach [e] X.env) = [(false, eval e X.env)]
section
variable {X : Cx} {pins : List (Addr × Obj)} {σ : St} {H : Hp} {s : Shared} {a : Addr} {y d : V} {u r : Value} {o : Option V} {A : Around} {E : Value → Shared → Prop}
end

section
variable {X : Cx} {o e f : Expr} {apos cpos : Pos} {td ty tx : TE}
end

section
variable {X : Cx} {pins : List (Addr × Obj)} {σ : St} {H : Hp} {s : Shared} {a : Addr} {kvs : List (Key × V)} {A : Around} {E : Value → Shared → Prop}
end


section
variable {X : Cx} {pins : List (Addr × Obj)} {σ : St} {H : Hp} {s : Shared} {a : Addr} {y : V} {u : Value} {A : Around} {E : Value → Shared → Prop}
end
end L2

namespace L2
open PySem PySem.Spec PyProof.Rows

section
variable {prog : Program} {w : World} {A : Around} {E : Value → Shared → Prop}
end

section
variable {X : Cx}
end
end L2

namespace L2
open PySem PySem.Spec PyProof.Rows

section
variable {X : Cx} {pins : List (Addr × Obj)} {σ : St} {H : Hp} {s : Shared} {h' : Heap}
theorem Inv.turnedNew {t' : Nat} {ch : List Addr} {T : Addr} {ob : HO} (I : Inv X pins σ H s) (k : ∀ b o, b ∉ ch → s.heap.get? b = some o → h'.get? b = some o) (hf : ∀ b ∈ ch, FpOk X pins H b) (hT : s.heap.objs.size ≤ T)
    (new : ObjOk X.prog X.w (upd H T ob) h' T ob) : Inv X pins σ (upd H T ob) { s with heap := h', toks := t' } := by
  have hn : H T = none := I.hok.fresh hT
  have nit : ∀ b u, H b = some u → b ∉ ch := fun b u e z => by
    have q := (hf b z).1
    rw [q] at e; cases e
  refine I.step (g' := s.gens) (d' := s.drawn) (ch := ch) (fun b hb => ⟨(hf b hb).2.2.2.1, (hf b hb).2.1, (hf b hb).2.2.2.2.1, (hf b hb).2.2.2.2.2⟩) (fun b o _ _ hc e _ => k b o hc e) (fun b o _ _ hc e _ => ⟨o.slots, k b o hc e⟩)
    (fun b o _ e n => ?_) (fun b o hc e => ⟨o, k b o hc e⟩) (fun b xs e => ?_) (fun b o u e => ?_) (fun b ps e => ⟨#[], ?_⟩) (fun m hm => ?_) (fun b u e => ?_) I.bare
  · rw [upd_ne (Nat.ne_of_lt (Nat.lt_of_lt_of_le (Heap.lt_size e) hT))]; exact n
  · rw [upd_ne (ne_of_none e hn)]; exact e
  · rw [upd_ne (ne_of_none e hn)]; exact e
  · rw [upd_ne (ne_of_none e hn), e]; simp
  · obtain ⟨o, es, ep, ho, r⟩ := hm
    exact ⟨o, es, ep, k _ o (fun z => (hf _ z).2.1 rfl) ho, r⟩
  · by_cases hb : b = T
    · subst hb
      rw [upd_same] at e
      cases e
      exact new
    · rw [upd_ne hb] at e
      refine (I.hok b u e).stay (fun c v hc q => k c v ?_ q) (fun c q => by rw [upd_ne (ne_of_none q hn)]; exact q) fun c xs q => by rw [upd_ne (ne_of_none q hn)]; exact q
      rcases hc with z | z
      · rw [z]; exact nit b u e
      · exact nit c _ z

end
section
variable {X : Cx}
theorem pi_one {tg : Expr} {pins : List (Addr × Obj)} {σ : St} {H : Hp} {s : Shared} {R : It → Hp → Prop} {J : It} {tn : Nat → Heap → Prop} {tk : Nat} (I : Inv X pins σ H s) (o : Obj)
    (T : Turn X.prog X.w X.K tg J [s.heap.objs.size] s.heap.objs.size tn) (st : tn 0 (s.heap.push o)) (q : R J H) : PIE X pins σ tg R (.ref s.heap.objs.size) { s with heap := s.heap.push o, toks := tk } := by
  refine ⟨s.heap.objs.size, [s.heap.objs.size], tn, J, H, rfl, I.kept fun b ob e => Heap.get?_push_of_some _ e, T, st, fun b hb => ?_, q⟩
  have e : b = s.heap.objs.size := by simpa using hb
  subst e
  exact I.fpOk (Nat.le_refl _) (I.hok.fresh (Nat.le_refl _))
end

def Itc (lo c : Int) (n : Nat) : It := ⟨fun i _ => i < n, fun i H x H' => H' = H ∧ x = .int (lo + (i : Nat) * c), fun i _ => n ≤ i⟩
theorem turn_rangeC {P : Program} {w : World} {K : PySem.W.Frag} {tg : Expr} (it : Addr) (lo c : Int) (n : Nat) : Turn P w K tg (Itc lo c n) [it] it (fun i h => IsRangeIter h it (lo + (i : Nat) * c) ((n : Int) - (i : Nat)) c) where
  mem := by simp
  obj := fun i h st b hb => by
    have e : b = it := by simpa using hb
    subst e
    exact ⟨_, st, fun v z => nomatch z⟩
  keep := fun i h h' st k => k it (by simp) _ st
  item := by
    intro X hP hw hK hc i pins s σ H E I hf st hg
    subst hP hw hK
    obtain ⟨f0, f1, f2, f3, f4, f5⟩ := hf it (by simp)
    have W := Walks.range (prog := X.prog) (w := X.w) (I.ok.hd hc) it lo c n
    refine W.item i s _ _ hg st fun v h' tk hv st' kk => ?_
    obtain ⟨t, rfl⟩ := hv
    have I1 : Inv X pins σ H { s with heap := h', toks := tk } := I.turned (fun b o hb e => kk b o (by simpa using hb) e) f0 f1 f3 f4 f5
    exact ⟨_, rfl, go_of (s := { s with heap := h', toks := tk }) (n := "range_iterator") st' rfl rfl (by decide) ⟨.int (lo + (i : Nat) * c), H, I1, ⟨t, rfl⟩, ⟨rfl, rfl⟩, st', fun b hb => (hf b hb).1⟩⟩
  done := by
    intro X hP hw hK hc i pins s σ H E I hf st hg
    subst hP hw hK
    obtain ⟨f0, f1, f2, f3, f4, f5⟩ := hf it (by simp)
    exact wpAny_pyNext_range_end (I.ok.hd hc) st (by have : n ≤ i := hg; omega) fun h' eb => ⟨rfl, I.turned (t' := s.toks) (fun b o hb e => eb b o hb e) f0 f1 f3 f4 f5⟩
  self := fun A i s Q E st h => wpAny_pyIter_rangeiter st h
def RgC (i j c : Int) (n : Nat) : Prop := c ≠ 0 ∧ c.natAbs < 1073741824 ∧ Builtin.Range.small i j c = true ∧ Builtin.Range.rangeSize i j c = n
theorem RgC.neg {i j : Int} (ha : -(2 ^ 62) ≤ i) (ha' : i < 2 ^ 62) (hb : -(2 ^ 62) ≤ j) (hb' : j < 2 ^ 62) : RgC i j (-1) (i - j).toNat :=
  ⟨by decide, by decide, PySem.W.small_down ha ha' hb hb', PySem.W.rangeSize_downNat i j⟩
def iRng3 (ta : TA) : TI := fun σ H R => ta σ H fun vs H1 => ∃ (i j c : Int) (n : Nat), vs = [.int i, .int j, .int c] ∧ RgC i j c n ∧ R (Itc i c n) H1
section
variable {X : Cx} {tg : Expr}
theorem pi_range3 {a b c : Expr} {ta : TA} {p pos : Pos} (hg : Gl X "range") (hm : X.mg "range" = none) (ha : PA X [a, b, c] ta)
    (hs : starEach [a, b, c] X.env = (false, eval a X.env) :: starEach [b, c] X.env := by rfl) (hpl : (backTo pos (starEach [b, c] X.env)).any (·.1) = false := by rfl) :
    PI X tg (.Call (.Name "range" p) [a, b, c] [] pos) (iRng3 ta) := by
  intro pins s σ H R I h
  refine Call_ (ld_blt I hg hm boot_range (PyProof.Rows.callWith_type1 (thn (ha pos pins s σ H _ I h) fun us s1 ⟨vs, H1, I1, r1, q1⟩ => ?_) hs hpl))
  obtain ⟨i, j, k, n, e, ⟨c0, c1, c2, c3⟩, q⟩ := q1
  subst e
  cases r1 with
  | cons r rr =>
    cases rr with
    | cons r' rr =>
      cases rr with
      | cons r'' rr =>
        cases rr
        obtain ⟨t, rfl⟩ := r
        obtain ⟨t', rfl⟩ := r'
        obtain ⟨t'', rfl⟩ := r''
        refine call_range_3 c0 ?_ (.inl (PyProof.noPylong_small c1))
        refine wpAny_pyIter_range (IsRange.new ..) c2 ?_
        have I2 : Inv X pins σ H1 { s1 with heap := s1.heap.push { cls := .type "range", data := .fields #[.int i t, .int j t', .int k t''] } } := I1.kept (t' := s1.toks) fun b o e => Heap.get?_push_of_some _ e
        refine pi_one (tk := s1.toks) I2 _ (turn_rangeC _ i k n) ?_ q
        have e1 : i + ((0 : Nat) : Int) * k = i := by simp
        have e2 : (n : Int) - ((0 : Nat) : Int) = Builtin.Range.rangeSize i j k := by rw [c3]; simp
        show IsRangeIter _ _ (i + ((0 : Nat) : Int) * k) ((n : Int) - ((0 : Nat) : Int)) k
        rw [e1, e2]
        exact Heap.get?_push_size _ rfl
end
theorem for_rangeC {lo c : Int} {n : Nat} {g : TG} {tb : TS} {D : Ends} {σ : St} {H : Hp} (Pv : Nat → St → Hp → Prop) (h0 : Pv 0 σ H)
    (hs : ∀ i σ H, i < n → Pv i σ H → g (.int (lo + (i : Nat) * c)) σ H fun σ2 H2 => tb { D with nx := Pv (i + 1), ct := Pv (i + 1), bk := D.nx } σ2 H2) (hd : ∀ σ H, Pv n σ H → D.nx σ H) :
    ∃ W : Nat → Nat → St → Hp → Prop, (∃ m, W 0 m σ H) ∧ ∀ i m σ H, W i m σ H →
      ((Itc lo c n).stop i H ∧ D.nx σ H) ∨ ((Itc lo c n).go i H ∧ ∃ N : St → Hp → Prop, (∀ σ' H', N σ' H' → ∃ m', m' < m ∧ W (i + 1) m' σ' H') ∧ ∀ x H', (Itc lo c n).yld i H x H' → g x σ H' fun σ2 H2 => tb { D with nx := N, ct := N, bk := D.nx } σ2 H2) := by
  refine ⟨fun i m σ H => m = n - i ∧ i ≤ n ∧ Pv i σ H, ⟨n, by simp, Nat.zero_le _, h0⟩, ?_⟩
  rintro i m σ H ⟨rfl, hi, p⟩
  by_cases hlt : i < n
  · refine .inr ⟨hlt, Pv (i + 1), fun σ' H' p' => ⟨n - (i + 1), by omega, rfl, hlt, p'⟩, fun x H' y => ?_⟩
    obtain ⟨e, y⟩ := y
    subst e y
    exact hs i σ _ hlt p
  · have e : i = n := by omega
    subst e
    exact .inl ⟨Nat.le_refl _, hd σ H p⟩

section
variable {X : Cx} {tg : Expr}
end

section
variable {prog : Program} {w : World} {A : Around} {E : Value → Shared → Prop} {s : Shared}
end

section
variable {X : Cx} {pins : List (Addr × Obj)} {σ : St} {H : Hp} {s : Shared} {d : Addr} {o : Obj}
end

section
variable {P : Program} {w : World} {K : PySem.W.Frag} {tg : Expr} {d : Addr} {o : Obj} {es : Array DictEntry} {ep : Nat}
end

section
variable {X : Cx} {tg e : Expr} {td : TE} {apos cpos : Pos}
end

def Ite (K : PySem.W.Frag) (a : Addr) : It :=
  ⟨fun i H => ∃ (xs : List V) (x : V), SqL K H a xs ∧ xs[i]? = some x, fun i H v H' => ∃ T x, v = .ref T ∧ H T = none ∧ H' = upd H T (.tup [.int (i : Nat), x]) ∧ ∀ xs, SqL K H a xs → xs[i]? = some x, fun i H => ∃ xs : List V, SqL K H a xs ∧ xs.length ≤ i⟩
theorem turn_enum {P : Program} {w : World} {K : PySem.W.Frag} {elts : List Expr} {kk : Nat} {tpos : Pos} (a e it : Addr) :
    Turn P w K (.Tuple elts kk tpos) (Ite K a) [e, it] e (fun i h => (∃ old, IsEnum h e it ((i : Nat) : Int) old) ∧ h.IsListIter it a i ∧ e ≠ it) where
  mem := by simp
  obj := fun i h st b hb => by
    obtain ⟨⟨old, he⟩, ⟨o, ho, hc, hd⟩, _⟩ := st
    have e' : b = e ∨ b = it := by simpa using hb
    rcases e' with z | z
    · rw [z]; exact ⟨_, he, fun v q => nomatch q⟩
    · rw [z]; exact ⟨o, ho, fun v q => by rw [hd] at q; cases q⟩
  keep := fun i h h' st k => let ⟨⟨old, he⟩, hi, hne⟩ := st; ⟨⟨old, k e (by simp) _ he⟩, hi.at fun o q => k it (by simp) o q, hne⟩
  item := by
    intro X hP hw hK hc i pins s σ H E I hf st hg
    subst hP hw hK
    obtain ⟨⟨old, he⟩, hit, hne⟩ := st
    obtain ⟨xs, x, hq, hx⟩ := hg
    obtain ⟨its, rv, p, hz⟩ := I.list hq
    obtain ⟨u, hu, ru⟩ := rv.get hx
    have hel : e < s.heap.objs.size := Heap.lt_size he
    have hil : it < s.heap.objs.size := by obtain ⟨_, q, _⟩ := hit; exact Heap.lt_size q
    refine wpAny_pyNext_enum_item he hit p.isList (x := u) (by simpa using hu) hne fun h' ho hit' hT hsz hk => ?_
    refine ⟨_, rfl, wpAny_letOwnedTupleGo_enum (s := { s with heap := h', toks := s.toks + 1 }) ho fun h'' he' sb => ?_⟩
    have hT2 : h''.get? s.heap.objs.size = some { cls := .type "tuple", data := .seq #[.int i s.toks, u] } := (sb.2 _ (Nat.ne_of_gt hel)).trans hT
    have new : ObjOk X.prog X.w (upd H s.heap.objs.size (.tup [.int (i : Nat), x])) h'' s.heap.objs.size (.tup [.int (i : Nat), x]) :=
      ⟨by show 2 ≤ sizeLine; decide, [.int i s.toks, u], .cons ⟨_, rfl⟩ (.cons ru .nil), ⟨_, hT2, rfl, _, rfl⟩⟩
    have I1 : Inv X pins σ (upd H s.heap.objs.size (.tup [.int (i : Nat), x])) { s with heap := h'', toks := s.toks + 1 } :=
      I.turnedNew (ch := [e, it]) (fun b ob hb q => (sb.2 b (fun z => hb (by simp [z]))).trans (hk b ob (fun z => hb (by simp [z])) (fun z => hb (by simp [z])) q)) hf (Nat.le_refl _) new
    refine ⟨.ref s.heap.objs.size, _, I1, rfl, ⟨_, x, rfl, I.hok.fresh (Nat.le_refl _), rfl, fun ys hy => by rw [I.list_inj hy hq]; exact hx⟩, ⟨⟨u, ?_⟩, hit'.at fun o q => (sb.2 it (Ne.symm hne)).trans q, hne⟩, fun b hb => ?_⟩
    · have e1 : ((i + 1 : Nat) : Int) = (i : Int) + 1 := by omega
      rw [e1]; exact he'
    · have hb' : b < s.heap.objs.size := by
        have e' : b = e ∨ b = it := by simpa using hb
        rcases e' with z | z
        · rw [z]; exact hel
        · rw [z]; exact hil
      rw [upd_ne (Nat.ne_of_lt hb')]
      exact (hf b hb).1
  done := by
    intro X hP hw hK hc i pins s σ H E I hf st hg
    subst hP hw hK
    obtain ⟨⟨old, he⟩, hit, hne⟩ := st
    obtain ⟨xs, hq, hx⟩ := hg
    obtain ⟨its, rv, p, hz⟩ := I.list hq
    obtain ⟨f0, f1, f2, f3, f4, f5⟩ := hf it (by simp)
    have hl := rv.length
    exact wpAny_pyNext_enum_end (I.ok.hd hc) he hit p.isList (by simp; omega) fun h' eb => ⟨rfl, I.turned (t' := s.toks) (fun b o hb q => eb b o hb q) f0 f1 f3 f4 f5⟩
  self := fun A i s Q E st h => let ⟨⟨_, he⟩, _⟩ := st; wpAny_pyIter_enum he h
def iEnum (K : PySem.W.Frag) (ta : TA) : TI := fun σ H R => ta σ H fun vs H1 => ∃ a xs, vs = [.ref a] ∧ SqL K H1 a xs ∧ R (Ite K a) H1
theorem pi_enum {X : Cx} {e : Expr} {ta : TA} {p pos tpos : Pos} {elts : List Expr} {kk : Nat} (hg : Gl X "enumerate") (hm : X.mg "enumerate" = none) (ha : PA X [e] ta) (hs : starEach [e] X.env = [(false, eval e X.env)] := by rfl) :
    PI X (.Tuple elts kk tpos) (.Call (.Name "enumerate" p) [e] [] pos) (iEnum X.K ta) := by
  intro pins s σ H R I h
  refine Call_ (ld_blt I hg hm boot_enumerate (PyProof.Rows.callWith_type1 (thn (ha pos pins s σ H _ I h) fun us s1 ⟨vs, H1, I1, r1, q1⟩ => ?_) hs rfl))
  obtain ⟨a, xs, ex, hq, q⟩ := q1
  subst ex
  cases r1 with
  | cons r rr =>
    cases rr
    cases r
    obtain ⟨its, rv, p', hz⟩ := I1.list hq
    refine call_enumerate_list p'.isList fun h' he hit hsz hk => wpAny_pyIter_enum he ?_
    have I2 : Inv X pins σ H1 { s1 with heap := h' } := I1.kept (t' := s1.toks) hk
    refine ⟨s1.heap.objs.size + 1, [s1.heap.objs.size + 1, s1.heap.objs.size], _, _, H1, rfl, I2, turn_enum a (s1.heap.objs.size + 1) s1.heap.objs.size, ⟨⟨.none, he⟩, hit, Nat.succ_ne_self _⟩, fun b hb => ?_, q⟩
    have e' : b = s1.heap.objs.size + 1 ∨ b = s1.heap.objs.size := by simpa using hb
    have hle : s1.heap.objs.size ≤ b := by
      rcases e' with z | z
      · rw [z]; exact Nat.le_add_right _ _
      · rw [z]; exact Nat.le_refl _
    exact I1.fpOk hle (I1.hok.fresh hle)
end L2

section
namespace Bits
open PySem PyProof.Rows

end Bits
end

section
namespace TL
open PySem PySem.Builtin PySem.Builtin.Str PySem.StrLaws

abbrev tl (x : Str) : List Nat := x.cps.toList
def pre (S l : List Nat) : Bool := l.take S.length == S
def par (S : List Nat) : List Nat → List Nat → Option (List Nat × List Nat)
  | _, [] => none
  | acc, c :: r => if pre S (c :: r) = true then some (acc, (c :: r).drop S.length) else par S (acc ++ [c]) r

end TL
end

namespace L2
open PySem PySem.Spec PyProof.Rows

section
variable {X : Cx} {pins : List (Addr × Obj)} {σ : St} {H : Hp} {s : Shared} {Q : VK}
end

section
variable {X : Cx}

end

section
variable {X : Cx} {o e : Expr} {to te : TE}
end
end L2

namespace L2
open PySem PySem.Spec PyProof.Rows

section
variable {X : Cx}
end

end L2

namespace Att
open PySem PySem.W PySem.Calls PyProof.Rows

section
variable {prog : Program} {w : World} {A : Around} {E : Value → Shared → Prop} {s : Shared} {K : Frag}

end
end Att

namespace L2
open PySem PySem.Spec PyProof.Rows

end L2

namespace L2
open PySem PySem.Spec PyProof.Rows

end L2


namespace L2
open PySem PySem.Spec PyProof.Rows

def inClass (s : Stmt) (j : Nat) : Stmt := match s with
  | .ClassDef _ _ _ body _ _ _ _ _ _ _ => body.getD j (.Pass ⟨0, 0, 0, 0⟩)
  | _ => .Pass ⟨0, 0, 0, 0⟩
def defArgs (s : Stmt) : Arguments := match s with
  | .FunctionDef _ a _ _ _ _ _ _ _ _ => a
  | _ => { posonlyargs := [], args := [], vararg := none, kwonlyargs := [], kw_defaults := [], kwarg := none, defaults := [] }
def defBody (s : Stmt) : List Stmt := match s with
  | .FunctionDef _ _ b _ _ _ _ _ _ _ => b
  | _ => []
def defScope (s : Stmt) : Scope := match s with
  | .FunctionDef _ _ _ _ _ _ sc _ _ _ => sc
  | _ => { kind := .function, names := [], isGenerator := false, isCoroutine := false }

abbrev CX0 : CXT := fun _ _ _ _ _ _ => False
abbrev E0 : XK := fun _ _ _ => False
theorem pass0 {X : Cx} : Passes CX0 X E0 := fun _ _ _ _ _ _ _ h => h.elim

structure Fun (K : PySem.W.Frag) (x qual : Str) (st : Stmt) (f : Addr) (fd : FuncData) : Prop where
  ex : ∃ (oc : Value) (od : Option Addr) (kV doc pm : Value) (an : Option Addr) (cdv ct : Value) (osl : Array (Option Value)),
    fd = PySem.W.fnOf x qual (defArgs st) (defBody st) (defScope st) .none kV doc pm an cdv ct ∧ K.lookup f = some ⟨oc, od, .func fd, osl⟩ ∧ PySem.W.codeIn K cdv qual = true
  kp : PySem.W.keepIn K (.ref f) = true
section
variable {P : Program} {w : World} {K : PySem.W.Frag} {mg : Str → Option Value} {base : Heap}
theorem Fun.ok {x qual : Str} {st : Stmt} {f : Addr} {fd : FuncData} {N ps : List Str} {k : Nat} {sp : Sp} (F : Fun K x qual st f fd) (S : FnScope N ps (defScope st)) (len : ∀ vs H Q E, sp vs H Q E → vs.length = ps.length)
    (hbody : ∀ (cdv : Value) (A : Around) (outer : List Env) (s : Shared) (H : Hp) (vs : List V) (Q : VK) (E : XK), Room k (A.deeper (envOfC qual (defScope st) s.heap.objs.size f cdv)) → sp vs H Q E →
      ∃ t, PSs (cxOf CX0 P w K mg base N qual (defScope st) f cdv A outer s H E).nox (defBody st) t ∧ t { nx := fun _ H' => Q .non H', rt := Q } (start N vs) H) : FnOk P w K mg base CX0 (k + 1) f fd ps sp := by
  obtain ⟨oc, od, kV, doc, pm, an, cdv, ct, osl, rfl, lk, hcd⟩ := F.ex
  refine fn_of lk hcd S len fun A outer s H vs Q E hr hsp => ?_
  obtain ⟨t, h, q⟩ := hbody cdv A outer s H vs Q E hr hsp
  exact ⟨t, h.nox, q⟩
theorem Fun.binds {x qual : Str} {st : Stmt} {f : Addr} {fd : FuncData} {ps : List Str} (F : Fun K x qual st f fd)
    (h : ∀ (kV doc pm : Value) (an : Option Addr) (cdv ct : Value) (us : List Value), us.length = ps.length → bindArgs (PySem.W.fnOf x qual (defArgs st) (defBody st) (defScope st) .none kV doc pm an cdv ct) ⟨us, []⟩ = pure (ps.zip us)) : Binds K fd ps [] := by
  obtain ⟨oc, od, kV, doc, pm, an, cdv, ct, osl, rfl, lk, hcd⟩ := F.ex
  exact .all (h kV doc pm an cdv ct)
theorem fun_mk {x qual : Str} {st : Stmt} {f : Addr} {oc : Value} {od an : Option Addr} {osl : Array (Option Value)} {kV doc pm cdv ct : Value} (l : K.lookup f = some ⟨oc, od, .func (PySem.W.fnOf x qual (defArgs st) (defBody st) (defScope st) .none kV doc pm an cdv ct), osl⟩)
    (c : PySem.W.codeIn K cdv qual = true) (k : PySem.W.keepIn K (.ref f) = true) : Fun K x qual st f (PySem.W.fnOf x qual (defArgs st) (defBody st) (defScope st) .none kV doc pm an cdv ct) := ⟨⟨oc, od, kV, doc, pm, an, cdv, ct, osl, rfl, l, c⟩, k⟩
end
section
variable {X : Cx}
theorem pv (i : Nat) {x : Str} {pos : Pos} (hN : X.N[i]? = some x := by rfl) (hv : Vis X.env.scope x := by first | exact Or.inl rfl | exact Or.inr (Or.inl rfl) | exact Or.inr (Or.inr rfl)) (hd : (x == ("__debug__" : Str)) = false := by decide)
    (hcd : (x == ("__classdict__" : Str)) = false := by decide) : PE X (.Name x pos) (tVar i) := pe_var hN hv hd hcd
end

theorem iteF {A B : Prop} (h : B) : if false = true then A else B := by
  rw [if_neg Bool.false_ne_true]
  exact h
theorem iteT {A B : Prop} (h : A) : if true = true then A else B := by
  rw [if_pos rfl]
  exact h
theorem ite2 {c A B : Prop} [Decidable c] (h1 : c → A) (h2 : ¬ c → B) : if c then A else B := by
  by_cases h : c
  · rw [if_pos h]
    exact h1 h
  · rw [if_neg h]
    exact h2 h
def Same (H H' : Hp) : Prop := ∀ b o, H b = some o → H' b = some o
theorem Same.trans {H H1 H2 : Hp} (a : Same H H1) (b : Same H1 H2) : Same H H2 := fun c o h => b c o (a c o h)
theorem Same.free {H H' : Hp} (e : Same H H') {l : Addr} (h : H' l = Option.none) : H l = Option.none := by
  cases q : H l with
  | none => rfl
  | some o =>
    rw [e l o q] at h
    cases h
theorem Same.seq {K : PySem.W.Frag} {H H' : Hp} {a : Addr} {xs : List V} (e : Same H H') (h : SqL K H a xs) : SqL K H' a xs := by
  rcases h with (h | ⟨o, h⟩) | h
  · exact .inl (.inl (e _ _ h))
  · exact .inl (.inr ⟨o, e _ _ h⟩)
  · exact .inr h

section
variable {κ : Type} [DecidableEq κ]
end
theorem at_of {xs : List V} {z : Int} {j : Nat} {v : V} (e : z = (j : Int)) (h : xs[j]? = some v) : atI xs z = some v := by
  rw [e]
  exact atI_nat h
theorem nd_ix {α : Type} {l : List α} (hN : l.Nodup) {i j : Nat} {x : α} (a : l[i]? = some x) (b : l[j]? = some x) : i = j := by
  obtain ⟨h1, e1⟩ := List.getElem?_eq_some_iff.mp a
  obtain ⟨h2, e2⟩ := List.getElem?_eq_some_iff.mp b
  exact (List.getElem_inj hN).mp (e1.trans e2.symm)
theorem Same.made {H H1 : Hp} {x dx C : Addr} (nx : H x = Option.none) (nd : H dx = Option.none) (k : ∀ b o, (upd (upd H dx (.own x)) x (.ins C dx [])) b = some o → b ≠ x → H1 b = some o) : Same H H1 := fun b o e =>
  k b o (by rw [upd_ne (ne_of_none e nx), upd_ne (ne_of_none e nd)]; exact e) (ne_of_none e nx)
end L2


end
section
set_option Elab.async false
set_option linter.all false
set_option maxRecDepth 100000
set_option maxHeartbeats 2000000
namespace L2
open PySem PySem.Spec PyProof.Rows
open PySem.W (WData Codec OpenSpec Well WellAll ReadsW ReadsAllW)
mutual
inductive Dw (K : PySem.W.Frag) (H : Hp) : V → WData → Prop
  | non : Dw K H .non .none
  | bl (b : Bool) : Dw K H (.bl b) (.bool b)
  | int (i : Int) : Dw K H (.int i) (.int i)
  | str (x : Str) : Dw K H (.str x) (.str x)
  | byt (b : Array UInt8) : Dw K H (.byt b) (.bytes b.toList)
  | lst {a : Addr} {xs : List V} {ds : List WData} : SqL K H a xs → DwAll K H xs ds → Dw K H (.ref a) (.list ds)
  | tup {a : Addr} {xs : List V} {ds : List WData} : SqT K H a xs → DwAll K H xs ds → Dw K H (.ref a) (.tuple ds)
inductive DwAll (K : PySem.W.Frag) (H : Hp) : List V → List WData → Prop
  | nil : DwAll K H [] []
  | cons {v : V} {vs : List V} {d : WData} {ds : List WData} : Dw K H v d → DwAll K H vs ds → DwAll K H (v :: vs) (d :: ds)
end
theorem dw_ints {K : PySem.W.Frag} {H : Hp} : ∀ ns : List Int, DwAll K H (ns.map V.int) (ns.map WData.int)
  | [] => .nil
  | n :: r => .cons (.int n) (dw_ints r)
theorem ints_dw {K : PySem.W.Frag} {H : Hp} : ∀ (ns : List Int) (xs : List V), DwAll K H xs (ns.map WData.int) → xs = ns.map V.int
  | [], xs, h => by
    cases h
    rfl
  | n :: r, xs, h => by
    cases h with
    | cons h1 h2 =>
      cases h1
      rw [ints_dw r _ h2] <;> rfl
section
variable {P : Program} {w : World} {K : PySem.W.Frag} {H : Hp} {h : Heap} {R : PySem.W.WRecords} {cl : Str → Option Addr}
theorem sqL_at {a : Addr} {xs : List V} (hok : HOk P w H h) (KX : K.In h) (q : SqL K H a xs) : ∃ (its : List Value) (o : Obj) (n : Nat), Vals xs its ∧ h.get? a = some o ∧ o.cls = .type "list" ∧ o.data = .seq its.toArray n := by
  rcases q with q | ⟨o, its, n, e, hc, _, hd, _, hv⟩
  · obtain ⟨_, its, n, hv, e⟩ := (show ObjOk P w H h a (.lst xs) from q.ok hok)
    exact ⟨its, _, n, hv, e, rfl, rfl⟩
  · exact ⟨its.toList, o, n, hv, KX _ _ e, hc, by simp [hd]⟩
theorem sqT_at {a : Addr} {xs : List V} (hok : HOk P w H h) (KX : K.In h) (q : SqT K H a xs) : ∃ (its : List Value) (o : Obj) (n : Nat), Vals xs its ∧ h.get? a = some o ∧ o.cls = .type "tuple" ∧ o.data = .seq its.toArray n := by
  rcases q with q | ⟨o, its, n, e, hc, hd, _, hv⟩
  · obtain ⟨_, its, hv, o, e, hc, n, hd⟩ := (show ObjOk P w H h a (.tup xs) from q.ok hok)
    exact ⟨its, o, n, hv, e, hc, hd⟩
  · exact ⟨its.toList, o, n, hv, KX _ _ e, hc, by simp [hd]⟩
mutual
theorem Dw.reads (hok : HOk P w H h) (KX : K.In h) : ∀ (d : WData) (v : V) (u : Value), Dw K H v d → RelV v u → ∃ as, ReadsW R cl h u d as
  | .none, _, _, x, r => by
    cases x
    cases r
    exact ⟨_, ReadsW.none⟩
  | .bool b, _, _, x, r => by
    cases x
    cases r
    exact ⟨_, ReadsW.bool b⟩
  | .int i, _, _, x, r => by
    cases x
    obtain ⟨t, rfl⟩ := r
    exact ⟨_, ReadsW.int i t⟩
  | .str s, _, _, x, r => by
    cases x
    obtain ⟨t, rfl⟩ := r
    exact ⟨_, ReadsW.str s t⟩
  | .bytes b, _, _, x, r => by
    cases x
    obtain ⟨t, rfl⟩ := r
    exact ⟨_, ReadsW.bytes _ t⟩
  | .list ds, _, _, x, r => by
    cases x with
    | lst hs ha =>
      cases r
      obtain ⟨its, o, n, rv, ho, hc, hd⟩ := sqL_at hok KX hs
      obtain ⟨as, hr⟩ := Dw.readsAll hok KX ds _ its ha rv
      exact ⟨_, ReadsW.list ho hc hd hr⟩
  | .tuple ds, _, _, x, r => by
    cases x with
    | tup hs ha =>
      cases r
      obtain ⟨its, o, n, rv, ho, hc, hd⟩ := sqT_at hok KX hs
      obtain ⟨as, hr⟩ := Dw.readsAll hok KX ds _ its ha rv
      exact ⟨_, ReadsW.tuple ho hc hd hr⟩
  | .float _, _, _, x, _ => by cases x
  | .dict _, _, _, x, _ => by cases x
  | .bytearray _, _, _, x, _ => by cases x
  | .set _, _, _, x, _ => by cases x
  | .frozenset _, _, _, x, _ => by cases x
  | .obj _ _, _, _, x, _ => by cases x
theorem Dw.readsAll (hok : HOk P w H h) (KX : K.In h) : ∀ (ds : List WData) (vs : List V) (us : List Value), DwAll K H vs ds → Vals vs us → ∃ as, ReadsAllW R cl h us ds as
  | [], _, _, x, r => by
    cases x
    cases r
    exact ⟨_, ReadsAllW.nil⟩
  | d :: ds, _, _, x, r => by
    cases x with
    | cons h1 h2 =>
      cases r with
      | cons r1 r2 =>
        obtain ⟨as, q1⟩ := Dw.reads hok KX d _ _ h1 r1
        obtain ⟨bs, q2⟩ := Dw.readsAll hok KX ds _ _ h2 r2
        exact ⟨_, ReadsAllW.cons q1 q2⟩
end
end
mutual
def plW : WData → Bool
  | .none => true
  | .bool _ => true
  | .int _ => true
  | .str _ => true
  | .bytes _ => true
  | .list xs => plWs xs
  | .tuple xs => plWs xs
  | _ => false
def plWs : List WData → Bool
  | [] => true
  | x :: r => plW x && plWs r
end
theorem plWs_map {α : Type} {f : α → WData} (h : ∀ a, plW (f a) = true) : ∀ l : List α, plWs (l.map f) = true
  | [] => rfl
  | x :: r => by
    show (plW (f x) && plWs (r.map f)) = true
    rw [h x, plWs_map h r] <;> rfl
theorem pl_enc : ∀ (c : Codec) (a : c.denote), plW (c.enc a) = true
  | .unit, _ => rfl
  | .bool, _ => rfl
  | .int _ _, _ => rfl
  | .nat _ _, _ => rfl
  | .u8, _ => rfl
  | .bytes _ _, _ => rfl
  | .text _ _ _ _, _ => rfl
  | .list _ _ c, a => plWs_map (fun x => pl_enc c x) a
  | .pair c d, a => by
    show (plW (c.enc a.1) && (plW (d.enc a.2) && true)) = true
    rw [pl_enc c a.1, pl_enc d a.2] <;> rfl
  | .triple c d e, a => by
    show (plW (c.enc a.1) && (plW (d.enc a.2.1) && (plW (e.enc a.2.2) && true))) = true
    rw [pl_enc c a.1, pl_enc d a.2.1, pl_enc e a.2.2] <;> rfl
  | .option c, none => rfl
  | .option c, some x => pl_enc c x
theorem pl_encAll : ∀ (cs : List Codec) (a : Codec.denoteAll cs), plWs (Codec.encAll cs a) = true
  | [], _ => rfl
  | c :: cs, a => by
    show (plW (c.enc a.1) && plWs (Codec.encAll cs a.2)) = true
    rw [pl_enc c a.1, pl_encAll cs a.2] <;> rfl
theorem weight_mem : ∀ {xs : List WData} {d : WData}, d ∈ xs → d.weight ≤ WData.weightAll xs
  | [], d, h => absurd h (by simp)
  | x :: r, d, h => by
    show d.weight ≤ x.weight + 1 + WData.weightAll r
    rcases List.mem_cons.mp h with e | m
    · rw [e]
      omega
    · have z := weight_mem m
      omega
def toV : Value → V
  | .none => .non
  | .bool b => .bl b
  | .int i _ => .int i
  | .str x _ => .str x
  | .bytes b _ => .byt b
  | .ref a => .ref a
  | _ => .non
def OkU (A : List Addr) : Value → Prop
  | .none => True
  | .bool _ => True
  | .int _ _ => True
  | .str _ _ => True
  | .bytes _ _ => True
  | .ref a => a ∈ A
  | _ => False
theorem OkU.mono {A B : List Addr} (h : ∀ a ∈ A, a ∈ B) : ∀ {u : Value}, OkU A u → OkU B u := fun {u} x => by
  cases u with
  | ref a => exact h a x
  | none => trivial
  | bool b => trivial
  | int i t => trivial
  | str s t => trivial
  | bytes b t => trivial
  | _ => exact False.elim x
theorem relV_toV {A : List Addr} {u : Value} (x : OkU A u) : RelV (toV u) u := by
  cases u with
  | ref a => rfl
  | none => rfl
  | bool b => rfl
  | int i t => exact ⟨t, rfl⟩
  | str s t => exact ⟨t, rfl⟩
  | bytes b t => exact ⟨t, rfl⟩
  | _ => exact False.elim x
theorem vals_toV {A : List Addr} : ∀ {vs : List Value}, (∀ u ∈ vs, OkU A u) → Vals (vs.map toV) vs
  | [], _ => .nil
  | u :: r, h => .cons (relV_toV (h u (List.mem_cons_self ..))) (vals_toV fun x hx => h x (List.mem_cons_of_mem _ hx))
def ArgOb (h : Heap) (A : List Addr) (a : Addr) : Prop := ∃ vs : List Value, vs.length ≤ sizeLine ∧ (∀ u ∈ vs, OkU A u) ∧
  (h.get? a = some { cls := .type "list", data := .seq vs.toArray } ∨ h.get? a = some { cls := .type "tuple", data := .seq vs.toArray })
theorem ArgOb.mono {h : Heap} {A B : List Addr} {a : Addr} (k : ∀ a ∈ A, a ∈ B) (x : ArgOb h A a) : ArgOb h B a := by
  obtain ⟨vs, h1, h2, h3⟩ := x
  exact ⟨vs, h1, fun u hu => (h2 u hu).mono k, h3⟩
theorem wellAll_len {P : Params} {h : Heap} : ∀ {vs : List Value} {ds : List WData}, WellAll P h vs ds → vs.length = ds.length
  | _, _, .nil => rfl
  | _, _, .cons _ b => by
    show _ + 1 = _ + 1
    rw [wellAll_len b]
theorem well_list {P : Params} {h : Heap} {v : Value} {ds : List WData} (x : Well P h v (.list ds)) : ∃ (a : Addr) (vs : List Value), v = .ref a ∧ h.get? a = some { cls := .type "list", data := .seq vs.toArray } ∧ WellAll P h vs ds := by
  cases x with
  | list ho hall => exact ⟨_, _, rfl, ho, hall⟩
theorem well_tuple {P : Params} {h : Heap} {v : Value} {ds : List WData} (x : Well P h v (.tuple ds)) : ∃ (a : Addr) (vs : List Value), v = .ref a ∧ h.get? a = some { cls := .type "tuple", data := .seq vs.toArray } ∧ WellAll P h vs ds := by
  cases x with
  | tuple ho hall => exact ⟨_, _, rfl, ho, hall⟩
theorem well_cons {P : Params} {h : Heap} {us : List Value} {d : WData} {ds : List WData} (x : WellAll P h us (d :: ds)) : ∃ (v : Value) (vs : List Value), us = v :: vs ∧ Well P h v d ∧ WellAll P h vs ds := by
  cases x with
  | cons a b => exact ⟨_, _, rfl, a, b⟩
theorem line_of {n : Nat} (h : n ≤ 1048576) : n ≤ sizeLine := Nat.le_trans h (by decide)
section
variable {P : Params} {h : Heap}
mutual
theorem area_one : ∀ (d : WData) (v : Value), Well P h v d → plW d = true → d.weight ≤ 1048576 → ∃ A : List Addr, OkU A v ∧ ∀ a ∈ A, ArgOb h A a
  | .none, _, x, _, _ => by
    cases x
    exact ⟨[], trivial, fun a m => absurd m (by simp)⟩
  | .bool b, _, x, _, _ => by
    cases x
    exact ⟨[], trivial, fun a m => absurd m (by simp)⟩
  | .int i, _, x, _, _ => by
    cases x
    exact ⟨[], trivial, fun a m => absurd m (by simp)⟩
  | .str s, _, x, _, _ => by
    cases x
    exact ⟨[], trivial, fun a m => absurd m (by simp)⟩
  | .bytes b, _, x, _, _ => by
    cases x
    exact ⟨[], trivial, fun a m => absurd m (by simp)⟩
  | .list ds, _, x, p, z => by
    obtain ⟨a, vs, rfl, ho, hall⟩ := well_list x
    have z2 : WData.weightAll ds ≤ 1048576 := z
    obtain ⟨A, h1, h2⟩ := area_all ds _ hall p fun d hd => Nat.le_trans (weight_mem hd) z2
    have k : ∀ b ∈ A, b ∈ a :: A := fun b hb => List.mem_cons_of_mem _ hb
    refine ⟨a :: A, List.mem_cons_self .., fun b hb => ?_⟩
    rcases List.mem_cons.mp hb with e | m
    · rw [e]
      exact ⟨vs, line_of (by rw [wellAll_len hall]; exact Nat.le_trans (PySem.W.length_le_weightAllW ds) z2), fun u hu => (h1 u hu).mono k, .inl ho⟩
    · exact (h2 b m).mono k
  | .tuple ds, _, x, p, z => by
    obtain ⟨a, vs, rfl, ho, hall⟩ := well_tuple x
    have z2 : WData.weightAll ds ≤ 1048576 := z
    obtain ⟨A, h1, h2⟩ := area_all ds _ hall p fun d hd => Nat.le_trans (weight_mem hd) z2
    have k : ∀ b ∈ A, b ∈ a :: A := fun b hb => List.mem_cons_of_mem _ hb
    refine ⟨a :: A, List.mem_cons_self .., fun b hb => ?_⟩
    rcases List.mem_cons.mp hb with e | m
    · rw [e]
      exact ⟨vs, line_of (by rw [wellAll_len hall]; exact Nat.le_trans (PySem.W.length_le_weightAllW ds) z2), fun u hu => (h1 u hu).mono k, .inr ho⟩
    · exact (h2 b m).mono k
  | .float _, _, _, p, _ => Bool.noConfusion (show false = true from p)
  | .dict _, _, _, p, _ => Bool.noConfusion (show false = true from p)
  | .bytearray _, _, _, p, _ => Bool.noConfusion (show false = true from p)
  | .set _, _, _, p, _ => Bool.noConfusion (show false = true from p)
  | .frozenset _, _, _, p, _ => Bool.noConfusion (show false = true from p)
  | .obj _ _, _, _, p, _ => Bool.noConfusion (show false = true from p)
theorem area_all : ∀ (ds : List WData) (vs : List Value), WellAll P h vs ds → plWs ds = true → (∀ d ∈ ds, d.weight ≤ 1048576) → ∃ A : List Addr, (∀ u ∈ vs, OkU A u) ∧ ∀ a ∈ A, ArgOb h A a
  | [], _, x, _, _ => by
    cases x
    exact ⟨[], fun u m => absurd m (by simp), fun a m => absurd m (by simp)⟩
  | d :: ds, _, x, p, z => by
    obtain ⟨v, vs, rfl, x1, x2⟩ := well_cons x
    have q : plW d = true ∧ plWs ds = true := Bool.and_eq_true_iff.mp p
    obtain ⟨A, a1, a2⟩ := area_one d v x1 q.1 (z d (List.mem_cons_self ..))
    obtain ⟨B, b1, b2⟩ := area_all ds vs x2 q.2 fun e he => z e (List.mem_cons_of_mem _ he)
    have kA : ∀ b ∈ A, b ∈ A ++ B := fun b hb => List.mem_append.mpr (.inl hb)
    have kB : ∀ b ∈ B, b ∈ A ++ B := fun b hb => List.mem_append.mpr (.inr hb)
    refine ⟨A ++ B, fun u hu => ?_, fun b hb => ?_⟩
    · rcases List.mem_cons.mp hu with e | m
      · rw [e]
        exact a1.mono kA
      · exact (b1 u m).mono kB
    · rcases List.mem_append.mp hb with m | m
      · exact (a2 b m).mono kA
      · exact (b2 b m).mono kB
end
end
def hoOf (o : Obj) : Option HO := match o.data with
  | .seq vs _ => if (o.cls == Value.type "list") = true then some (.frz o (.lst (vs.toList.map toV))) else some (.frz o (.tup (vs.toList.map toV)))
  | _ => none
def argH (K : PySem.W.Frag) (h : Heap) (A : List Addr) : Hp := fun b => if b ∈ A then (if (K.lookup b).isNone = true then (h.get? b).bind hoOf else none) else none
def OnlyF (H : Hp) : Prop := ∀ b, H b = none ∨ ∃ o u, H b = some (.frz o u)
theorem hoOf_lst (vs : List Value) : hoOf { cls := .type "list", data := .seq vs.toArray } = some (.frz { cls := .type "list", data := .seq vs.toArray } (.lst (vs.map toV))) := by
  show (if (Value.type "list" == Value.type "list") = true then some (HO.frz { cls := .type "list", data := .seq vs.toArray } (.lst (vs.toArray.toList.map toV))) else some (HO.frz { cls := .type "list", data := .seq vs.toArray } (.tup (vs.toArray.toList.map toV)))) = _
  rw [if_pos (beq_self_eq_true _)]
theorem hoOf_tup (vs : List Value) : hoOf { cls := .type "tuple", data := .seq vs.toArray } = some (.frz { cls := .type "tuple", data := .seq vs.toArray } (.tup (vs.map toV))) := by
  show (if (Value.type "tuple" == Value.type "list") = true then some (HO.frz { cls := .type "tuple", data := .seq vs.toArray } (.lst (vs.toArray.toList.map toV))) else some (HO.frz { cls := .type "tuple", data := .seq vs.toArray } (.tup (vs.toArray.toList.map toV)))) = _
  rw [if_neg (by decide)]
section
variable {P : Program} {w : World} {K : PySem.W.Frag} {h : Heap} {A : List Addr}
theorem argH_at {b : Addr} {o : Obj} (hb : b ∈ A) (hk : K.lookup b = none) (e : h.get? b = some o) : argH K h A b = hoOf o := by
  unfold argH
  rw [if_pos hb, hk, if_pos (show (none : Option Obj).isNone = true from rfl), e] <;> rfl
theorem of_argH {b : Addr} {u : HO} (q : argH K h A b = some u) : b ∈ A ∧ K.lookup b = none := by
  unfold argH at q
  by_cases hb : b ∈ A
  · rw [if_pos hb] at q
    cases hk : K.lookup b with
    | none => exact ⟨hb, rfl⟩
    | some o =>
      rw [hk, if_neg (by simp)] at q
      cases q
  · rw [if_neg hb] at q
    cases q
theorem argH_is (ar : ∀ a ∈ A, ArgOb h A a) {b : Addr} {u : HO} (q : argH K h A b = some u) : K.lookup b = none ∧ ∃ vs : List Value, vs.length ≤ sizeLine ∧ (∀ u ∈ vs, OkU A u) ∧
    ((h.get? b = some { cls := .type "list", data := .seq vs.toArray } ∧ u = .frz { cls := .type "list", data := .seq vs.toArray } (.lst (vs.map toV))) ∨
     (h.get? b = some { cls := .type "tuple", data := .seq vs.toArray } ∧ u = .frz { cls := .type "tuple", data := .seq vs.toArray } (.tup (vs.map toV)))) := by
  obtain ⟨hb, hk⟩ := of_argH q
  obtain ⟨vs, h1, h2, h3⟩ := ar b hb
  refine ⟨hk, vs, h1, h2, ?_⟩
  rcases h3 with e | e
  · rw [argH_at hb hk e, hoOf_lst] at q
    exact .inl ⟨e, (Option.some.inj q).symm⟩
  · rw [argH_at hb hk e, hoOf_tup] at q
    exact .inr ⟨e, (Option.some.inj q).symm⟩
theorem argH_only (ar : ∀ a ∈ A, ArgOb h A a) : OnlyF (argH K h A) := fun b => by
  cases q : argH K h A b with
  | none => exact .inl rfl
  | some u =>
    obtain ⟨_, vs, _, _, ⟨_, e⟩ | ⟨_, e⟩⟩ := argH_is ar q
    · exact .inr ⟨_, _, by rw [e]⟩
    · exact .inr ⟨_, _, by rw [e]⟩
theorem argH_ok (ar : ∀ a ∈ A, ArgOb h A a) : HOk P w (argH K h A) h := fun b u q => by
  obtain ⟨_, vs, h1, h2, ⟨e, rfl⟩ | ⟨e, rfl⟩⟩ := argH_is ar q
  · exact ⟨e, by rw [List.length_map]; exact h1, vs, _, vals_toV h2, e⟩
  · exact ⟨e, by rw [List.length_map]; exact h1, vs, vals_toV h2, _, e, rfl, _, rfl⟩
theorem seq_inj {c c' : Value} {vs us : List Value} (e : (some { cls := c, data := .seq vs.toArray } : Option Obj) = some { cls := c', data := .seq us.toArray }) : c = c' ∧ vs = us := by
  have e1 := Option.some.inj e
  have e2 : c = c' := congrArg Obj.cls e1
  have e3 : Data.seq vs.toArray = Data.seq us.toArray := congrArg Obj.data e1
  injection e3 with e4
  refine ⟨e2, ?_⟩
  have e5 := congrArg Array.toList e4
  simpa using e5
theorem argL (KX : K.In h) (ar : ∀ a ∈ A, ArgOb h A a) {a : Addr} {vs : List Value} (ha : a ∈ A) (e : h.get? a = some { cls := .type "list", data := .seq vs.toArray }) : (∀ u ∈ vs, OkU A u) ∧ SqL K (argH K h A) a (vs.map toV) := by
  obtain ⟨us, h1, h2, h3⟩ := ar a ha
  have hu : us = vs := by
    rcases h3 with q | q
    · rw [e] at q
      exact (seq_inj q).2.symm
    · rw [e] at q
      exact absurd (Value.type.inj (seq_inj q).1) (by decide)
  subst hu
  refine ⟨h2, ?_⟩
  cases hk : K.lookup a with
  | none => exact .inl (.inr ⟨_, by rw [argH_at ha hk e, hoOf_lst]⟩)
  | some o =>
    have e2 := KX a o hk
    rw [e] at e2
    obtain rfl := Option.some.inj e2
    exact .inr ⟨_, us.toArray, _, hk, rfl, rfl, rfl, by rw [List.size_toArray]; exact h1, by simpa using vals_toV h2⟩
theorem argT (KX : K.In h) (ar : ∀ a ∈ A, ArgOb h A a) {a : Addr} {vs : List Value} (ha : a ∈ A) (e : h.get? a = some { cls := .type "tuple", data := .seq vs.toArray }) : (∀ u ∈ vs, OkU A u) ∧ SqT K (argH K h A) a (vs.map toV) := by
  obtain ⟨us, h1, h2, h3⟩ := ar a ha
  have hu : us = vs := by
    rcases h3 with q | q
    · rw [e] at q
      exact absurd (Value.type.inj (seq_inj q).1) (by decide)
    · rw [e] at q
      exact (seq_inj q).2.symm
  subst hu
  refine ⟨h2, ?_⟩
  cases hk : K.lookup a with
  | none => exact .inl (.inr ⟨_, by rw [argH_at ha hk e, hoOf_tup]⟩)
  | some o =>
    have e2 := KX a o hk
    rw [e] at e2
    obtain rfl := Option.some.inj e2
    exact .inr ⟨_, us.toArray, _, hk, rfl, rfl, by rw [List.size_toArray]; exact h1, by simpa using vals_toV h2⟩
mutual
theorem dw_one {Pm : Params} (KX : K.In h) (ar : ∀ a ∈ A, ArgOb h A a) : ∀ (d : WData) (v : Value), Well Pm h v d → plW d = true → OkU A v → Dw K (argH K h A) (toV v) d
  | .none, _, x, _, _ => by
    cases x
    exact .non
  | .bool b, _, x, _, _ => by
    cases x
    exact .bl b
  | .int i, _, x, _, _ => by
    cases x
    exact .int i
  | .str s, _, x, _, _ => by
    cases x
    exact .str s
  | .bytes b, _, x, _, _ => by
    cases x
    have z := Dw.byt (K := K) (H := argH K h A) b.toArray
    exact z
  | .list ds, _, x, p, hu => by
    obtain ⟨a, vs, rfl, ho, hall⟩ := well_list x
    obtain ⟨h2, hs⟩ := argL KX ar hu ho
    exact .lst hs (dw_all KX ar ds _ hall p h2)
  | .tuple ds, _, x, p, hu => by
    obtain ⟨a, vs, rfl, ho, hall⟩ := well_tuple x
    obtain ⟨h2, hs⟩ := argT KX ar hu ho
    exact .tup hs (dw_all KX ar ds _ hall p h2)
  | .float _, _, _, p, _ => Bool.noConfusion (show false = true from p)
  | .dict _, _, _, p, _ => Bool.noConfusion (show false = true from p)
  | .bytearray _, _, _, p, _ => Bool.noConfusion (show false = true from p)
  | .set _, _, _, p, _ => Bool.noConfusion (show false = true from p)
  | .frozenset _, _, _, p, _ => Bool.noConfusion (show false = true from p)
  | .obj _ _, _, _, p, _ => Bool.noConfusion (show false = true from p)
theorem dw_all {Pm : Params} (KX : K.In h) (ar : ∀ a ∈ A, ArgOb h A a) : ∀ (ds : List WData) (vs : List Value), WellAll Pm h vs ds → plWs ds = true → (∀ u ∈ vs, OkU A u) → DwAll K (argH K h A) (vs.map toV) ds
  | [], _, x, _, _ => by
    cases x
    exact .nil
  | d :: ds, _, x, p, hu => by
    obtain ⟨v, vs, rfl, x1, x2⟩ := well_cons x
    have q : plW d = true ∧ plWs ds = true := Bool.and_eq_true_iff.mp p
    exact .cons (dw_one KX ar d v x1 q.1 (hu _ (List.mem_cons_self ..))) (dw_all KX ar ds vs x2 q.2 fun u m => hu u (List.mem_cons_of_mem _ m))
end
end
theorem spec_call {P : Program} {w : World} {K : PySem.W.Frag} {mg mb : Str → Option Value} {CX : CXT} {k : Nat} {fa : Addr} {fd : FuncData} {ps : List Str} {sp : Sp} {s₁ : Shared} {vals : List Value} {ds : List WData} {R : PySem.W.WRecords} {cl : Str → Option Addr} {d0 : WData}
    (KX : K.In s₁.heap) (hns : s₁.heap.Ns mainGlobals mg) (hb : s₁.heap.Ns builtinsNs mb) (hbb : ∀ x : Str, x ≠ "__name__" → mb x = bootBuiltins x) (hlim : s₁.heap.NoLimit) (hg : s₁.gens = #[])
    (hwl : WellAll w.params s₁.heap vals ds) (hpl : plWs ds = true) (hwt : ∀ d ∈ ds, d.weight ≤ 1048576) (hr : Room k callerA)
    (F : ∀ base : Heap, K.In base → base.Ns mainGlobals mg → FnOk P w K mg base CX k fa fd ps sp) (hbind : ∀ (s : Shared) (us : List Value), us.length = ps.length → BindsTo s fd ⟨us, []⟩ (ps.zip us)) (hlen : ds.length = ps.length)
    (hsp : ∀ (H : Hp) (xs : List V), OnlyF H → DwAll K H xs ds → sp xs H (fun v H' => Dw K H' v d0) fun _ _ _ => False)
    (hCX : ∀ H e s', CX [] H s₁ (fun _ _ _ => False) e s' → False) :
    codeAny (model P w) callerA (.call (.ref fa) ⟨vals, []⟩) (fun r s' => ∃ u as, r = .ok (.ret u) ∧ ReadsW R cl s'.heap u d0 as ∧ OldK s₁.heap s'.heap ∧ s'.os = s₁.os ∧ AllBare s'.gens) s₁ := by
  obtain ⟨A, ho, ar⟩ := area_all ds vals hwl hpl hwt
  have hO : OnlyF (argH K s₁.heap A) := argH_only ar
  have hok : HOk P w (argH K s₁.heap A) s₁.heap := argH_ok ar
  have hS := dw_all KX ar ds vals hwl hpl ho
  have hV := vals_toV ho
  have hK : ∀ b u, argH K s₁.heap A b = some u → K.lookup b = none := fun b u q => (argH_is ar q).1
  have noA : ∀ {b : Addr} {o : Obj} {es : Array DictEntry} {ep : Nat}, s₁.heap.get? b = some o → o.data = .dict es ep → argH K s₁.heap A b = none := fun {b o es ep} e d => by
    cases q : argH K s₁.heap A b with
    | none => rfl
    | some u =>
      obtain ⟨_, vs, _, _, ⟨e2, _⟩ | ⟨e2, _⟩⟩ := argH_is ar q
      · rw [e2] at e
        cases e
        have d' : Data.seq vs.toArray _ = Data.dict es ep := d
        cases d'
      · rw [e2] at e
        cases e
        have d' : Data.seq vs.toArray _ = Data.dict es ep := d
        cases d'
  generalize argH K s₁.heap A = H at hO hok hS hK noA
  have base_of : ∀ {b : Addr} {o : Obj}, s₁.heap.get? b = some o → H b = none → (hidT s₁.heap H).get? b = some o := fun e n => hidT_get e n
  have nsK : ∀ {b : Addr} {m : Str → Option Value}, s₁.heap.Ns b m → (hidT s₁.heap H).Ns b m := fun {b m} ⟨o, es, ep, e, d, r⟩ => ⟨o, es, ep, base_of e (noA e d), d, r⟩
  have nK : ∀ b o, K.lookup b = some o → H b = none := fun b o e => by
    cases q : H b with
    | none => rfl
    | some u =>
      rw [hK b u q] at e
      cases e
  have hKb : K.In (hidT s₁.heap H) := fun b o e => base_of (KX b o e) (nK b o e)
  have hM : Mod K mg (hidT s₁.heap H) := ⟨hKb, nsK hns, ⟨mb, nsK hb, hbb⟩, let ⟨mc, h1, h2⟩ := hlim; ⟨mc, nsK h1, h2⟩⟩
  have e0 : Env0 P w K mg (hidT s₁.heap H) callerA [] s₁ H := ⟨rfl, hM, fun b o e => of_hidT e, Nat.le_of_eq (hidT_size _ _), trivial, fun b hb => absurd (show b ∈ ([] : List Addr) from hb) (by simp), hok, .of_eq hg⟩
  have hl : vals.length = ps.length := by rw [wellAll_len hwl]; exact hlen
  refine codeAny_mono ((F _ hKb (nsK hns)).run callerA [] s₁ H ⟨vals, []⟩ vals (vals.map toV) _ _ hr e0 (hbind s₁ vals hl) hV (hsp H _ hO hS)) fun r s' x => ?_
  cases r with
  | error e => exact (hCX H e s' x).elim
  | ok fl =>
    cases fl with
    | next => exact False.elim x
    | brk => exact False.elim x
    | cont => exact False.elim x
    | ret u =>
      obtain ⟨v, H', os, bare, un, hok', r', q⟩ := x
      have kept : ∀ b o, s₁.heap.get? b = some o → s'.heap.get? b = some o := fun b o e => by
        cases q2 : H b with
        | none => exact un.keep b o e q2 (by intro z; exact absurd (show b ∈ ([] : List Addr) from z) (by simp)) (by simp)
        | some u2 =>
          rcases hO b with z | ⟨ob, u3, z⟩
          · rw [q2] at z
            cases z
          · have z2 := un.frzs b ob _ z
            obtain ⟨e1, _⟩ := hok b _ z
            obtain ⟨e2, _⟩ := hok' b _ z2
            rw [e] at e1
            cases e1
            exact e2
      have KX' : K.In s'.heap := fun b o e => kept b o (KX b o e)
      obtain ⟨as, hrd⟩ := Dw.reads (R := R) (cl := cl) hok' KX' d0 v u q r'
      exact ⟨u, as, rfl, hrd, OldK.of_keep kept, os, bare⟩
theorem layable_weight {ds : List WData} (h : WData.layableAll ds = true) : ∀ d ∈ ds, d.weight ≤ 1048576 := fun d hd =>
  (PySem.W.layableW_iff.mp (List.all_eq_true.mp h d hd)).2.2
theorem encAll_len : ∀ (cs : List Codec) (a : Codec.denoteAll cs), (Codec.encAll cs a).length = cs.length
  | [], _ => rfl
  | c :: cs, a => by
    show (Codec.encAll cs a.2).length + 1 = cs.length + 1
    rw [encAll_len cs a.2]
theorem walk_spec {r : OpenSpec} {k : Nat} {q : Program} {loose : List Str} {XP : (Str → Option Value) → Heap → Prop} {YP : World → Heap → Prop} {d : DefRec} {K : Params → PySem.W.Frag} {CX : World → CXT} {ps : List Str} {sp : World → Sp}
    (hwell : r.wellSaid = true) (hdf : d.params.defaults = []) (hlen : r.args.length = ps.length) (hr : Room k callerA)
    (hY : ∀ (w : World) (h : Heap), YP w h → (K w.params).In h)
    (F : ∀ (w : World) (mg : Str → Option Value) (fa : Addr) (h : Heap), YP w h → (K w.params).In h → h.Ns mainGlobals mg → mg d.name = some (.ref fa) →
      ∃ fd : FuncData, (∀ (s : Shared) (us : List Value), us.length = ps.length → BindsTo s fd ⟨us, []⟩ (ps.zip us)) ∧
        ∀ base : Heap, (K w.params).In base → base.Ns mainGlobals mg → FnOk r.prog w (K w.params) mg base (CX w) k fa fd ps (sp w))
    (hsp : ∀ (w : World) (H : Hp) (xs : List V) (a : Codec.denoteAll r.args), OnlyF H → Codec.withinAll r.args a = true → Codec.app r.args r.asked a = true → DwAll (K w.params) H xs (Codec.encAll r.args a) →
      sp w xs H (fun v H' => Dw (K w.params) H' v (r.ret.enc (Codec.app r.args r.f a))) fun _ _ _ => False)
    (hCX : ∀ (w : World) (H : Hp) (s : Shared) (e : Value) (s' : Shared), CX w [] H s (fun _ _ _ => False) e s' → False) :
    PySem.W.WalkOS q loose XP YP r d [] (fun f vs => PySem.call f vs) := by
  intro w s_0 s₁ mg mb G Y fa o pm cd doc dV kV ho hd hcd hD hmg hg args vals as hpre hlay hrd hwl hlo
  obtain ⟨a, e1, e2⟩ := PySem.W.os_pre_some hpre
  obtain ⟨e3, hwi⟩ := Codec.encAll_of_decAll r.args args a e1
  subst e3
  have KX := hY w _ Y
  obtain ⟨fd, hb, hF⟩ := F w mg fa _ Y KX G.T.g hmg
  refine PySem.W.enter_call (codeAny_mono (spec_call (R := []) (cl := classAt s_0.heap) (d0 := r.ret.enc (Codec.app r.args r.f a)) KX G.T.g G.T.b G.T.builtins G.T.nolimit hg hwl (pl_encAll _ _) (layable_weight hlay) hr hF hb (by rw [encAll_len]; exact hlen)
    (fun H xs hO hS => hsp w H xs a hO hwi e2 hS) fun H e s' => hCX w H s₁ e s') fun r' s' hq => ?_)
  obtain ⟨u, as', rfl, h1, h2, h3, h4⟩ := hq
  exact ⟨.inl ⟨u, _, as', rfl, fun _ => rfl, h1, (OpenSpec.post_iff hwell hwi _ _).mpr rfl, fun z => Bool.noConfusion (show false = true from z)⟩, h2, h3, h4⟩
theorem walk_specK {r : OpenSpec} {k : Nat} {q : Program} {loose : List Str} {XP : (Str → Option Value) → Heap → Prop} {YP : World → Heap → Prop} {d : DefRec} {K : Params → PySem.W.Frag} {CX : CXT} {ps : List Str} {sp : PySem.W.Frag → Sp}
    (hwell : r.wellSaid = true) (hdf : d.params.defaults = []) (hlen : r.args.length = ps.length) (hr : Room k callerA)
    (hY : ∀ (w : World) (h : Heap), YP w h → (K w.params).In h)
    (F : ∀ (w : World) (mg : Str → Option Value) (fa : Addr) (h : Heap), YP w h → (K w.params).In h → h.Ns mainGlobals mg → mg d.name = some (.ref fa) →
      ∃ fd : FuncData, (∀ (s : Shared) (us : List Value), us.length = ps.length → BindsTo s fd ⟨us, []⟩ (ps.zip us)) ∧
        ∀ base : Heap, (K w.params).In base → base.Ns mainGlobals mg → FnOk r.prog w (K w.params) mg base CX k fa fd ps (sp (K w.params)))
    (hsp : ∀ (K : PySem.W.Frag) (H : Hp) (xs : List V) (a : Codec.denoteAll r.args), OnlyF H → Codec.withinAll r.args a = true → Codec.app r.args r.asked a = true → DwAll K H xs (Codec.encAll r.args a) →
      sp K xs H (fun v H' => Dw K H' v (r.ret.enc (Codec.app r.args r.f a))) fun _ _ _ => False)
    (hCX : ∀ (H : Hp) (s : Shared) (e : Value) (s' : Shared), CX [] H s (fun _ _ _ => False) e s' → False) :
    PySem.W.WalkOS q loose XP YP r d [] (fun f vs => PySem.call f vs) :=
  walk_spec (K := K) (CX := fun _ => CX) (sp := fun w => sp (K w.params)) hwell hdf hlen hr hY F (fun w H xs a h1 h2 h3 h4 => hsp (K w.params) H xs a h1 h2 h3 h4) fun _ H s e s' => hCX H s e s'
end L2
-- rests on (row put in by the clerk, for the bench that shows a file only what it spells): KE.SpHead KE.OsShapes
end

set_option Elab.async false
set_option linter.all false
set_option maxRecDepth 100000
set_option maxHeartbeats 2000000
section
namespace SL
open PySem PySem.Spec PyProof.Rows L2
def TC (mg : Str → Option Value) (x : Str) (v : V) : Prop := ∃ u, mg x = some u ∧ RelV v u
theorem tc_int {K : PySem.W.Frag} {h : Heap} {mg : Str → Option Value} {x : Str} {n : Int} {t : Tok} (X : K.In h) (G : h.Ns mainGlobals mg) (e : PySem.W.nsIn K mainGlobals x = some (some (.int n t))) : TC mg x (.int n) :=
  ⟨_, PySem.W.mg_of X G e, _, rfl⟩
theorem pe_gc {X : Cx} {x : Str} {v : V} {pos : Pos} (hg : Gl X x) (c : TC X.mg x v) (hd : (x == ("__debug__" : Str)) = false := by decide) : PE X (.Name x pos) (tC v) := by
  obtain ⟨u, hm, r⟩ := c
  exact pe_glob hg hm r hd
def TF (K : PySem.W.Frag) (mg : Str → Option Value) (x : Str) (st : Stmt) (ps : List Str) : Prop := ∃ f fd, Fun K x x st f fd ∧ mg x = some (.ref f) ∧ Binds K fd ps []
theorem tf_mk {K : PySem.W.Frag} {h : Heap} {mg : Str → Option Value} {x : Str} {st : Stmt} {ps : List Str} {f : Addr} {oc kV dc pm cd ct : Value} {od an : Option Addr} {sl : Array (Option Value)} (X : K.In h) (G : h.Ns mainGlobals mg)
    (hb : ∀ (kV doc pm : Value) (an : Option Addr) (cdv ct : Value) (us : List Value), us.length = ps.length → bindArgs (PySem.W.fnOf x x (defArgs st) (defBody st) (defScope st) .none kV doc pm an cdv ct) ⟨us, []⟩ = pure (ps.zip us))
    (a : PySem.W.nsIn K mainGlobals x = some (some (.ref f))) (l : K.lookup f = some ⟨oc, od, .func (PySem.W.fnOf x x (defArgs st) (defBody st) (defScope st) .none kV dc pm an cd ct), sl⟩)
    (c : PySem.W.codeIn K cd x = true) (k : PySem.W.keepIn K (.ref f) = true) : TF K mg x st ps :=
  ⟨f, _, fun_mk l c k, PySem.W.mg_of X G a, (fun_mk l c k).binds hb⟩
def Df (P : Program) (w : World) (K : PySem.W.Frag) (mg : Str → Option Value) (base : Heap) (x : Str) (k : Nat) (ps : List Str) (sp : Sp) : Prop :=
  ∃ f fd, FnOk P w K mg base CX0 k f fd ps sp ∧ mg x = some (.ref f) ∧ PySem.W.keepIn K (.ref f) = true ∧ Binds K fd ps []
section
variable {X : Cx} {k : Nat} {ps : List Str} {sp : Sp} {x : Str} {p pos : Pos} {e : Expr} {es : List Expr} {t : TA}
theorem pe_df (D : Df X.prog X.w X.K X.mg X.base x k ps sp) (hr : Room k X.A) (hg : Gl X x) (ha : PA X (e :: es) t) (hdb : (x == ("__debug__" : Str)) = false := by decide)
    (he : starEach (e :: es) X.env = (false, eval e X.env) :: starEach es X.env := by rfl) (hpl : (backTo pos (starEach es X.env)).any (·.1) = false := by rfl) : PE X (.Call (.Name x p) (e :: es) [] pos) (tCall sp [] E0 t) := by
  obtain ⟨f, fd, F, hm, hk, hb⟩ := D
  exact pe_call F hr hg hm hk hb .nil pass0 ha hdb he hpl
end
section
variable {P : Program} {w : World} {K : PySem.W.Frag} {mg : Str → Option Value} {base : Heap}
theorem df_of {x : Str} {st : Stmt} {N ps : List Str} {k : Nat} {sp : Sp} (F : TF K mg x st ps) (S : FnScope N ps (defScope st)) (len : ∀ vs H Q E, sp vs H Q E → vs.length = ps.length)
    (hbody : ∀ (f : Addr) (cdv : Value) (A : Around) (outer : List Env) (s : Shared) (H : Hp) (vs : List V) (Q : VK) (E : XK), Room k (A.deeper (envOfC x (defScope st) s.heap.objs.size f cdv)) → sp vs H Q E →
      ∃ t, PSs (cxOf CX0 P w K mg base N x (defScope st) f cdv A outer s H E).nox (defBody st) t ∧ t { nx := fun _ H' => Q .non H', rt := Q } (start N vs) H) : Df P w K mg base x (k + 1) ps sp := by
  obtain ⟨f, fd, F, hm, hb⟩ := F
  exact ⟨f, fd, F.ok S len (hbody f), hm, F.kp, hb⟩
end
theorem _root_.L2.Same.rfl' {H : Hp} : Same H H := fun _ _ e => e
theorem _root_.L2.Same.new {H : Hp} {p : Addr} {o : HO} (h : H p = none) : Same H (upd H p o) := fun b u e => by
  rw [upd_ne (ne_of_none e h)]
  exact e
theorem _root_.L2.Same.tr_new {H H' : Hp} {p : Addr} {o : HO} (s : Same H H') (h : H' p = none) : Same H (upd H' p o) := s.trans (Same.new h)
theorem _root_.L2.Same.upd {H H' : Hp} {p : Addr} {o : HO} (s : Same H H') (h : H p = none) : Same H (upd H' p o) := fun b u e => by
  rw [upd_ne (ne_of_none e h)]
  exact s b u e
def vN (t : List Nat) : List V := t.map fun (n : Nat) => V.int (n : Int)
theorem vN_len (t : List Nat) : (vN t).length = t.length := List.length_map _
theorem vN_app (t u : List Nat) : vN (t ++ u) = vN t ++ vN u := List.map_append
theorem vN_get {t : List Nat} {i : Nat} {c : Nat} (h : t[i]? = some c) : (vN t)[i]? = some (.int c) := by
  unfold vN
  rw [List.getElem?_map, h]
  rfl
theorem vN_of {t : List Nat} {i : Nat} {v : V} (h : (vN t)[i]? = some v) : ∃ c, t[i]? = some c ∧ v = .int c := by
  unfold vN at h
  rw [List.getElem?_map] at h
  cases e : t[i]? with
  | none => rw [e] at h; cases h
  | some c => rw [e] at h; exact ⟨c, rfl, (Option.some.inj h).symm⟩
theorem vI_of {t : List Int} {i : Nat} {v : V} (h : (t.map V.int)[i]? = some v) : ∃ c, t[i]? = some c ∧ v = .int c := by
  rw [List.getElem?_map] at h
  cases e : t[i]? with
  | none => rw [e] at h; cases h
  | some c => rw [e] at h; exact ⟨c, rfl, (Option.some.inj h).symm⟩
def LL (H : Hp) (p : Addr) (ts : List (List Nat)) : Prop := ∃ as : List Addr, H p = some (.lst (as.map V.ref)) ∧ Paired (fun a t => H a = some (.lst (vN t))) as ts
theorem Paired.same {α β : Type} {F G : α → β → Prop} {l : List α} {m : List β} (h : Paired F l m) (f : ∀ a b, F a b → G a b) : Paired G l m := Paired.mapP h f
theorem LL.same {H H' : Hp} {p : Addr} {ts : List (List Nat)} (h : LL H p ts) (s : Same H H') : LL H' p ts := by
  obtain ⟨as, h1, h2⟩ := h
  exact ⟨as, s _ _ h1, Paired.same h2 fun a t e => s _ _ e⟩
theorem Paired.get {α β : Type} {F : α → β → Prop} : ∀ {l : List α} {m : List β} {i : Nat} {b : β}, Paired F l m → m[i]? = some b → ∃ a, l[i]? = some a ∧ F a b
  | _, _, _, _, .nil, h => by simp at h
  | _, _, 0, _, .cons r _, h => by simp at h; subst h; exact ⟨_, rfl, r⟩
  | _, _, i + 1, b, .cons _ t, h => by
    obtain ⟨a, h1, h2⟩ := Paired.get (i := i) (b := b) t (by simpa using h)
    exact ⟨a, by simpa using h1, h2⟩
theorem Paired.getL {α β : Type} {F : α → β → Prop} : ∀ {l : List α} {m : List β} {i : Nat} {a : α}, Paired F l m → l[i]? = some a → ∃ b, m[i]? = some b ∧ F a b
  | _, _, _, _, .nil, h => by simp at h
  | _, _, 0, _, .cons r _, h => by simp at h; subst h; exact ⟨_, rfl, r⟩
  | _, _, i + 1, a, .cons _ t, h => by
    obtain ⟨b, h1, h2⟩ := Paired.getL (i := i) (a := a) t (by simpa using h)
    exact ⟨b, by simpa using h1, h2⟩
theorem Paired.app {α β : Type} {F : α → β → Prop} : ∀ {l l' : List α} {m m' : List β}, Paired F l m → Paired F l' m' → Paired F (l ++ l') (m ++ m')
  | _, _, _, _, .nil, h => h
  | _, _, _, _, .cons r t, h => .cons r (Paired.app t h)
theorem Paired.one {α β : Type} {F : α → β → Prop} {a : α} {b : β} (h : F a b) : Paired F [a] [b] := .cons h .nil
theorem refs_of {as : List Addr} {i : Nat} {v : V} (h : (as.map V.ref)[i]? = some v) : ∃ a, as[i]? = some a ∧ v = .ref a := by
  rw [List.getElem?_map] at h
  cases e : as[i]? with
  | none => rw [e] at h; cases h
  | some c => rw [e] at h; exact ⟨c, rfl, (Option.some.inj h).symm⟩
theorem q_bl {Q : VK} {H : Hp} {a b : Bool} (e : a = b) (h : Q (.bl b) H) : Q (.bl a) H := e ▸ h
theorem line_big : 100000 < sizeLine := by rw [sizeLine_eq]; decide
end SL
namespace SL
open PySem PySem.Spec PyProof.Rows L2
theorem blk1 {N : List Str} {sc scope : Scope} {x : Str} {i : Nat} (hk : scope.kind = .function) (hi : N[i]? = some x)
    (h : (scope.names.all fun y => (scope.names.lookup y.1 == some y.2) && ((y.2 != .free || sc.names.lookup y.1 == some .cell || sc.names.lookup y.1 == some .free) && ((y.2 != .local && y.2 != .cell) || y.1 == x || !N.contains y.1))) = true) : BlkOk N sc scope [(x, i)] := by
  rw [List.all_eq_true] at h
  refine ⟨hk, fun y hy => ?_, fun p hp => ?_, fun y hy e => ?_, fun y hy e => ?_⟩
  · have q := h y hy
    simp only [Bool.and_eq_true] at q
    simpa using q.1
  · have e : p = (x, i) := by simpa using hp
    subst e
    exact hi
  · have q := h y hy
    simp only [Bool.and_eq_true, Bool.or_eq_true, e] at q
    simpa using q.2.1
  · have q := h y hy
    simp only [Bool.and_eq_true, Bool.or_eq_true] at q
    rcases q.2.2 with (q | q) | q
    · rcases e with e | e <;> rw [e] at q <;> simp at q
    · left
      have : y.1 = x := by simpa using q
      simp [this]
    · right
      simpa using q
theorem lc_map {K : PySem.W.Frag} {tl te : TE} {i : Nat} {σ : L2.St} {H : Hp} {Q : VK} {a : Addr} {xs : List V} (f : V → V) (hl : ∀ R : VK, R (.ref a) H → tl σ H R) (hS : SqL K H a xs) (hn : xs.length ≤ sizeLine)
    (step : ∀ (j : Nat) (x : V), xs[j]? = some x → ∀ H', Same H H' → ∀ R : VK, (∀ H'', Same H' H'' → R (f x) H'') → te ((σ.set i none).set i (some x)) H' R)
    (fin : ∀ (D : Addr) (H' : Hp), Same H H' → H D = none → H' D = some (.lst (xs.map f)) → Q (.ref D) H') : tLc (iList K tl) (gName i) tYes te [i] σ H Q := by
  refine hl _ ⟨a, rfl, ⟨xs, hS⟩, fun D hD => ⟨fun j m H' => m = xs.length - j ∧ j ≤ xs.length ∧ Same H H' ∧ H' D = some (.lst ((xs.take j).map f)), ⟨_, rfl, Nat.zero_le _, Same.new hD, upd_same⟩, ?_⟩⟩
  rintro j m H1 ⟨rfl, hj, s1, h1⟩
  have q := s1.seq hS
  by_cases hlt : j < xs.length
  · refine .inr ⟨⟨xs, xs[j], q, by simp [hlt]⟩, fun H' => (j + 1) ≤ xs.length ∧ Same H H' ∧ H' D = some (.lst ((xs.take (j + 1)).map f)), fun H' ⟨a1, a2, a3⟩ => ⟨xs.length - (j + 1), by omega, rfl, a1, a2, a3⟩, fun x H' y => ?_⟩
    obtain ⟨e, y⟩ := y
    subst e
    have hx : xs[j]? = some x := y xs q
    refine ⟨?_, ?_⟩
    · show wipe ((wipe σ [i]).set i (some x)) [i] = wipe σ [i]
      show ((σ.set i none).set i (some x)).set i none = σ.set i none
      rw [List.set_set, List.set_set]
    · unfold tYes
      dsimp only
      rw [if_pos rfl]
      refine (step j x hx _ s1 _ fun H2 s2 => ⟨_, s2 _ _ h1, ?_, hlt, ?_, ?_⟩)
      · rw [List.length_map, List.length_take]
        omega
      · exact (s1.trans s2).upd hD
      · rw [upd_same, List.take_add_one, hx, List.map_append]
        rfl
  · have e : j = xs.length := by omega
    subst e
    rw [List.take_length] at h1
    exact .inl ⟨⟨xs, q, Nat.le_refl _⟩, fin D H1 s1 hD h1⟩
end SL
namespace SL
open PySem PySem.Spec PyProof.Rows L2
def clsOf (mg : Str → Option Value) (x : Str) : Addr := match mg x with
  | some (.ref a) => a
  | _ => 0
theorem clsOf_eq {mg : Str → Option Value} {x : Str} {C : Addr} (h : mg x = some (.ref C)) : clsOf mg x = C := by
  unfold clsOf
  rw [h]
structure KlsT (K : PySem.W.Frag) (mg : Str → Option Value) (x qual : Str) (st : Stmt) (ps : List Str) : Prop where
  mgC : mg x = some (.ref (clsOf mg x))
  cl : Cls K (clsOf mg x)
  ini : ∃ fI fd, Mk K (clsOf mg x) fI ∧ Fun K "__init__" qual st fI fd ∧ Binds K fd ps []
def MT (K : PySem.W.Frag) (mg : Str → Option Value) (x m qual : Str) (st : Stmt) (ps : List Str) : Prop := ∃ f fd, Fun K m qual st f fd ∧ Binds K fd ps [] ∧ Meth K (clsOf mg x) m f
def MkD (P : Program) (w : World) (K : PySem.W.Frag) (mg : Str → Option Value) (base : Heap) (x : Str) (k : Nat) (ps : List Str) (sp : Sp) : Prop :=
  ∃ fI fd, Mk K (clsOf mg x) fI ∧ FnOk P w K mg base CX0 k fI fd ps sp ∧ mg x = some (.ref (clsOf mg x)) ∧ Binds K fd ps []
def MdD (P : Program) (w : World) (K : PySem.W.Frag) (mg : Str → Option Value) (base : Heap) (x m : Str) (k : Nat) (ps : List Str) (sp : Sp) : Prop :=
  ∃ f fd, Cls K (clsOf mg x) ∧ Meth K (clsOf mg x) m f ∧ FnOk P w K mg base CX0 k f fd ps sp ∧ Binds K fd ps []
section
variable {X : Cx} {k : Nat} {ps : List Str} {sp : Sp} {x m : Str} {p pos apos : Pos} {e o : Expr} {es : List Expr} {t : TA} {ta : TE}
theorem pe_mk (M : MkD X.prog X.w X.K X.mg X.base x k ps sp) (hr : Room (k + 1) X.A) (hg : Gl X x) (ha : PA X (e :: es) t) (hdb : (x == ("__debug__" : Str)) = false := by decide)
    (he : starEach (e :: es) X.env = (false, eval e X.env) :: starEach es X.env := by rfl) (hpl : (backTo pos (starEach es X.env)).any (·.1) = false := by rfl) : PE X (.Call (.Name x p) (e :: es) [] pos) (tMake (clsOf X.mg x) sp [] E0 t) := by
  obtain ⟨f, fd, M, F, hm, hb⟩ := M
  exact pe_make M F hr hg hm hb .nil pass0 ha hdb he hpl
theorem pe_mk0 (M : MkD X.prog X.w X.K X.mg X.base x k ps sp) (hr : Room (k + 1) X.A) (hg : Gl X x) (hdb : (x == ("__debug__" : Str)) = false := by decide) : PE X (.Call (.Name x p) [] [] pos) (tMake (clsOf X.mg x) sp [] E0 tNil) := by
  obtain ⟨f, fd, M, F, hm, hb⟩ := M
  exact pe_make0 M F hr hg hm hb .nil pass0 hdb
theorem pe_dm {pl : Sem Bool} (ho : PE X o ta) (M : MdD X.prog X.w X.K X.mg X.base x m k ps sp) (hr : Room k X.A) (ha : PA X (e :: es) t)
    (hst : starEach (e :: es) X.env = (false, eval e X.env) :: starEach es X.env := by rfl) (hpl : (backTo pos (starEach es X.env)).any (·.1) = false := by rfl)
    (ht : eval (.Call (.Attribute o m apos) (e :: es) [] pos) X.env = (do
      let ov ← eval o X.env
      standAt apos.atName
      let (f, first) ← holding [ov] (getMethod ov m pl)
      callWith pos f first (backTo pos (starEach (e :: es) X.env)) (backToKw pos (keywordEach [] X.env))) := by rfl) :
    PE X (.Call (.Attribute o m apos) (e :: es) [] pos) (tMeth (clsOf X.mg x) m sp [] E0 ta t) := by
  obtain ⟨f, fd, c, hm, F, hb⟩ := M
  exact pe_meth ho c hm F hr hb .nil pass0 ha hst hpl ht
theorem pe_dm0 {pl : Sem Bool} (ho : PE X o ta) (M : MdD X.prog X.w X.K X.mg X.base x m k ps sp) (hr : Room k X.A)
    (ht : eval (.Call (.Attribute o m apos) [] [] pos) X.env = (do
      let ov ← eval o X.env
      standAt apos.atName
      let (f, first) ← holding [ov] (getMethod ov m pl)
      callWith pos f first (backTo pos (starEach [] X.env)) (backToKw pos (keywordEach [] X.env))) := by rfl) :
    PE X (.Call (.Attribute o m apos) [] [] pos) (tMeth (clsOf X.mg x) m sp [] E0 ta tNil) := by
  obtain ⟨f, fd, c, hm, F, hb⟩ := M
  exact pe_meth0 ho c hm F hr hb .nil pass0 ht
end
section
variable {P : Program} {w : World} {K : PySem.W.Frag} {mg : Str → Option Value} {base : Heap}
theorem mk_of {x qual : Str} {st : Stmt} {N ps : List Str} {k : Nat} {sp : Sp} (F : KlsT K mg x qual st ps) (S : FnScope N ps (defScope st)) (len : ∀ vs H Q E, sp vs H Q E → vs.length = ps.length)
    (hbody : ∀ (f : Addr) (cdv : Value) (A : Around) (outer : List Env) (s : Shared) (H : Hp) (vs : List V) (Q : VK) (E : XK), Room k (A.deeper (envOfC qual (defScope st) s.heap.objs.size f cdv)) → sp vs H Q E →
      ∃ t, PSs (cxOf CX0 P w K mg base N qual (defScope st) f cdv A outer s H E).nox (defBody st) t ∧ t { nx := fun _ H' => Q .non H', rt := Q } (start N vs) H) : MkD P w K mg base x (k + 1) ps sp := by
  obtain ⟨f, fd, M, F1, hb⟩ := F.ini
  exact ⟨f, fd, M, F1.ok S len (hbody f), F.mgC, hb⟩
theorem md_of {x m qual : Str} {st : Stmt} {N ps : List Str} {k : Nat} {sp : Sp} (c : Cls K (clsOf mg x)) (F : MT K mg x m qual st ps) (S : FnScope N ps (defScope st)) (len : ∀ vs H Q E, sp vs H Q E → vs.length = ps.length)
    (hbody : ∀ (f : Addr) (cdv : Value) (A : Around) (outer : List Env) (s : Shared) (H : Hp) (vs : List V) (Q : VK) (E : XK), Room k (A.deeper (envOfC qual (defScope st) s.heap.objs.size f cdv)) → sp vs H Q E →
      ∃ t, PSs (cxOf CX0 P w K mg base N qual (defScope st) f cdv A outer s H E).nox (defBody st) t ∧ t { nx := fun _ H' => Q .non H', rt := Q } (start N vs) H) : MdD P w K mg base x m (k + 1) ps sp := by
  obtain ⟨f, fd, F1, hb, hm⟩ := F
  exact ⟨f, fd, c, hm, F1.ok S len (hbody f), hb⟩
end
theorem _root_.L2.Room.m {k j : Nat} {A : Around} (h : Room k A) (e : j ≤ k := by decide) : Room j A := h.mono e
theorem fn_of {N P : List Str} {sc : Scope} (k : sc.kind = .function) (c : sc.isCoroutine = false) (g : sc.isGenerator = false) (p : N.take P.length = P) (h : (decide N.Nodup && (P.all (fun x => sc.names.lookup x == some .local || sc.names.lookup x == some .cell) && sc.names.all fun y => y.2 != .free)) = true) : FnScope N P sc := by
  simp only [Bool.and_eq_true, decide_eq_true_eq, List.all_eq_true, Bool.or_eq_true] at h
  refine ⟨k, c, g, h.1, p, fun x hx => ?_, fun y hy => ?_⟩
  · rcases h.2.1 x hx with z | z
    · exact .inl (by simpa using z)
    · exact .inr (by simpa using z)
  · simpa using h.2.2 y hy
end SL
end
section
namespace SL
open PySem PySem.Spec PyProof.Rows L2
def hide (M : List Addr) (H : Hp) : Hp := fun b => if b ∈ M then none else H b
def back (M : List Addr) (H G : Hp) : Hp := fun b => if b ∈ M then H b else G b
def insOf : HO → Option Addr
  | .ins _ dx _ => some dx
  | .frz _ u => insOf u
  | _ => none
theorem stay2 {P : Program} {w : World} {H H' : Hp} {h h' : Heap} {a : Addr} {o : HO} (x : ObjOk P w H h a o) (k : ∀ b u, (b = a ∨ (insOf o = some b ∧ H b = some (.own a))) → h.get? b = some u → h'.get? b = some u)
    (ho : ∀ b, insOf o = some b → H b = some (.own a) → H' b = some (.own a)) (ht : ∀ b xs, H b = some (.tup xs) → H' b = some (.tup xs)) : ObjOk P w H' h' a o := by
  induction o with
  | lst xs => obtain ⟨z, its, n, r, e⟩ := x; exact ⟨z, its, n, r, k _ _ (.inl rfl) e⟩
  | tup xs => obtain ⟨z, its, r, ob, e, c⟩ := x; exact ⟨z, its, r, ob, k _ _ (.inl rfl) e, c⟩
  | dK kvs => obtain ⟨z, y, vs, r, ob, es, ep, e, c⟩ := x; exact ⟨z, y, vs, r, ob, es, ep, k _ _ (.inl rfl) e, c⟩
  | dT kvs =>
    obtain ⟨z, y, xs, r, ob, es, ep, e, c⟩ := x
    exact ⟨z, y, xs, Paired.mapP r fun p q z => ⟨z.1, ht _ _ z.2.1, z.2.2⟩, ob, es, ep, k _ _ (.inl rfl) e, c⟩
  | set S n => obtain ⟨ob, es, ep, t, e, c⟩ := x; exact ⟨ob, es, ep, t, k _ _ (.inl rfl) e, c⟩
  | ins C dx fs =>
    obtain ⟨d, z, ne, e, mA, ⟨od, es, ep, e2, c⟩, r⟩ := x
    exact ⟨ho _ rfl d, z, ne, k _ _ (.inl rfl) e, mA, ⟨od, es, ep, k _ _ (.inr ⟨rfl, d⟩) e2, c⟩, r⟩
  | own y => obtain ⟨ob, e⟩ := x; exact ⟨ob, k _ _ (.inl rfl) e⟩
  | xd fs => obtain ⟨mA, ⟨od, es, ep, e, c⟩, r⟩ := x; exact ⟨mA, ⟨od, es, ep, k _ _ (.inl rfl) e, c⟩, r⟩
  | rng lo hi => obtain ⟨t, u, v, e⟩ := x; exact ⟨t, u, v, k _ _ (.inl rfl) e⟩
  | frz ob u ih => obtain ⟨e, q⟩ := x; exact ⟨k _ _ (.inl rfl) e, ih q k ho⟩
  | tbl ps =>
    have e : h.get? a = some { cls := .none, data := .fields ps } := x
    show h'.get? a = some { cls := .none, data := .fields ps }
    exact k a _ (.inl rfl) e
  | met f y =>
    have e : h.get? a = some (PySem.W.methodObj (.ref f) (.ref y)) := x
    show h'.get? a = some (PySem.W.methodObj (.ref f) (.ref y))
    exact k a _ (.inl rfl) e
  | ext φ => obtain ⟨p, ⟨o, e⟩, st⟩ := x; exact ⟨st _ _ p fun o q => k _ _ (.inl rfl) q, ⟨o, k _ _ (.inl rfl) e⟩, st⟩
theorem obj_there {P : Program} {w : World} {H : Hp} {h : Heap} {a : Addr} {o : HO} (x : ObjOk P w H h a o) : ∃ ob, h.get? a = some ob := by
  cases o with
  | lst xs => obtain ⟨_, _, _, _, e⟩ := x; exact ⟨_, e⟩
  | tup xs => obtain ⟨_, _, _, ob, e, _⟩ := x; exact ⟨_, e⟩
  | dK kvs => obtain ⟨_, _, _, _, o, _, _, e, _⟩ := x; exact ⟨_, e⟩
  | dT kvs => obtain ⟨_, _, _, _, o, _, _, e, _⟩ := x; exact ⟨_, e⟩
  | set S n => obtain ⟨o, _, _, _, e, _⟩ := x; exact ⟨_, e⟩
  | ins C dx fs => obtain ⟨_, _, _, e, _⟩ := x; exact ⟨_, e⟩
  | own y => obtain ⟨_, e⟩ := x; exact ⟨_, e⟩
  | xd fs => obtain ⟨_, ⟨_, _, _, e, _⟩, _⟩ := x; exact ⟨_, e⟩
  | rng lo hi => obtain ⟨_, _, _, e⟩ := x; exact ⟨_, e⟩
  | frz ob u => obtain ⟨e, _⟩ := x; exact ⟨_, e⟩
  | tbl ps => exact ⟨_, (show h.get? a = some _ from x)⟩
  | met f y => exact ⟨_, (show h.get? a = some _ from x)⟩
  | ext φ => obtain ⟨_, ⟨_, e⟩, _⟩ := x; exact ⟨_, e⟩
structure MOk (M : List Addr) (H : Hp) : Prop where
  there : ∀ b ∈ M, H b ≠ none
  own : ∀ a o dx, H a = some o → insOf o = some dx → H dx = some (.own a) → (a ∈ M ↔ dx ∈ M)
  tup : ∀ b ∈ M, ∀ xs, H b ≠ some (.tup xs)
theorem hide_in {M : List Addr} {H : Hp} {b : Addr} (h : b ∈ M) : hide M H b = none := if_pos h
theorem hide_out {M : List Addr} {H : Hp} {b : Addr} (h : b ∉ M) : hide M H b = H b := if_neg h
theorem back_in {M : List Addr} {H G : Hp} {b : Addr} (h : b ∈ M) : back M H G b = H b := if_pos h
theorem back_out {M : List Addr} {H G : Hp} {b : Addr} (h : b ∉ M) : back M H G b = G b := if_neg h
theorem hide_some {M : List Addr} {H : Hp} {b : Addr} {o : HO} (h : hide M H b = some o) : b ∉ M ∧ H b = some o := by
  unfold hide at h
  split at h
  · cases h
  · rename_i q
    exact ⟨q, h⟩
theorem hide_same {M : List Addr} {H : Hp} : Same (hide M H) H := fun b o e => (hide_some e).2
theorem hide_back {M : List Addr} {H G : Hp} (h : ∀ b ∈ M, G b = none) : hide M (back M H G) = G := by
  funext b
  unfold hide back
  by_cases q : b ∈ M
  · rw [if_pos q, h b q]
  · rw [if_neg q, if_neg q]
theorem back_same {M : List Addr} {H G : Hp} (h : ∀ b ∈ M, G b = none) : Same G (back M H G) := fun b o e => by
  by_cases q : b ∈ M
  · rw [h b q] at e
    cases e
  · rw [back_out q]
    exact e
theorem hide_upd {M : List Addr} {H : Hp} {p : Addr} {o : HO} (h : p ∈ M) : hide M (upd H p o) = hide M H := by
  funext b
  unfold hide
  by_cases q : b ∈ M
  · rw [if_pos q, if_pos q]
  · rw [if_neg q, if_neg q, upd_ne (fun z => q (by rw [z]; exact h))]
theorem hide_new {M : List Addr} {H : Hp} {p : Addr} {o : HO} (h : p ∉ M) : hide M (upd H p o) = upd (hide M H) p o := by
  funext b
  by_cases e : b = p
  · subst e
    rw [hide_out h, upd_same, upd_same]
  · by_cases q : b ∈ M
    · rw [hide_in q, upd_ne e, hide_in q]
    · rw [hide_out q, upd_ne e, upd_ne e, hide_out q]
theorem same_hide {M : List Addr} {H H' : Hp} (s : Same H H') (h : ∀ b ∈ M, H b = none) : Same H (hide M H') := fun b o e => by
  rw [hide_out (fun q => by rw [h b q] at e; cases e)]
  exact s b o e
theorem same_hide2 {M : List Addr} {H H' : Hp} (s : Same H H') : Same (hide M H) (hide M H') := fun b o e => by
  obtain ⟨h1, h2⟩ := hide_some e
  rw [hide_out h1]
  exact s b o h2
theorem hide_none {H : Hp} {p : Addr} (h : H p = none) : hide [p] H = H := by
  funext b
  by_cases z : b = p
  · rw [hide_in (by simp [z]), z, h]
  · rw [hide_out (by simp [z])]
def fr (sp : Sp) : Sp := fun vs H Q E => ∃ M, MOk M H ∧ sp vs (hide M H) (fun v G => (∀ b ∈ M, G b = none) → Q v (back M H G)) E
theorem fn_frame {P : Program} {w : World} {K : PySem.W.Frag} {mg : Str → Option Value} {base : Heap} {k : Nat} {f : Addr} {fd : FuncData} {ps : List Str} {sp : Sp} (F : FnOk P w K mg base CX0 k f fd ps sp) :
    FnOk P w K mg base CX0 k f fd ps (fr sp) := by
  refine ⟨fun vs H Q E ⟨M, _, h⟩ => F.len _ _ _ _ h, fun A outer s H args us vs Q E hr e0 hb hv ⟨M, mo, hs⟩ => ?_⟩
  have lt : ∀ {b : Addr}, b ∈ M → ∃ ob, s.heap.get? b = some ob := fun {b} hb => by
    cases q : H b with
    | none => exact absurd q (mo.there b hb)
    | some o => exact obj_there (e0.hok b o q)
  have ht : ∀ b xs, H b = some (.tup xs) → hide M H b = some (.tup xs) := fun b xs e => by
    rw [hide_out (fun q => mo.tup b q xs e)]
    exact e
  have e1 : Env0 P w K mg base A outer s (hide M H) := by
    refine ⟨e0.frames, e0.mod, fun b o e => ⟨(e0.bs b o e).1, hide_same.free (e0.bs b o e).2⟩, e0.bsz, e0.funs, fun b hb => hide_same.free (e0.frf b hb), fun a o e => ?_, e0.bare⟩
    obtain ⟨q, e⟩ := hide_some e
    refine stay2 (e0.hok a o e) (fun _ _ _ z => z) (fun b i z => ?_) ht
    rw [hide_out (fun y => q ((mo.own a o b e i z).mpr y))]
    exact z
  refine codeAny_mono (F.run A outer s (hide M H) args us vs _ E hr e1 hb hv hs) fun r s' x => ?_
  cases r with
  | error e => exact x
  | ok fl =>
    cases fl with
    | next => exact x
    | brk => exact x
    | cont => exact x
    | ret u =>
      obtain ⟨v, G, os, bare, un, hok, rv, q⟩ := x
      have gm : ∀ b ∈ M, G b = none := fun b hb => by
        obtain ⟨ob, hob⟩ := lt hb
        exact un.free b ob hob (hide_in hb) (by simp)
      have ht2 : ∀ b xs, H b = some (.tup xs) → back M H G b = some (.tup xs) := fun b xs e => by
        rw [back_out (fun y => mo.tup b y xs e)]
        exact un.tups b xs (ht b xs e)
      refine ⟨v, back M H G, os, bare, ⟨?_, ?_, ?_, un.there, ht2, ?_, ?_⟩, fun a o e => ?_, rv, q gm⟩
      · exact fun b o h1 h2 h3 h4 => un.keep b o h1 (hide_same.free h2) h3 h4
      · exact fun b o h1 h2 h3 h4 => un.slot b o h1 (hide_same.free h2) h3 h4
      · intro b o h1 h2 h3
        by_cases y : b ∈ M
        · rw [back_in y]
          exact h2
        · rw [back_out y]
          exact un.free b o h1 (hide_same.free h2) h3
      · intro b o u' e
        by_cases y : b ∈ M
        · rw [back_in y]
          exact e
        · rw [back_out y]
          exact un.frzs b o u' (by rw [hide_out y]; exact e)
      · intro b ps' e
        by_cases y : b ∈ M
        · rw [back_in y]
          exact ⟨#[], by rw [e]; simp⟩
        · rw [back_out y]
          exact un.tbls b ps' (by rw [hide_out y]; exact e)
      · by_cases y : a ∈ M
        · rw [back_in y] at e
          refine stay2 (e0.hok a o e) (fun b u' hb' hu => ?_) (fun b i z => ?_) ht2
          · have bm : b ∈ M := by
              rcases hb' with z | z
              · rw [z]
                exact y
              · exact (mo.own a o b e z.1 z.2).mp y
            refine un.keep b u' hu (hide_in bm) (fun z => ?_) (by simp)
            exact mo.there b bm (e0.frf b z)
          · rw [back_in ((mo.own a o b e i z).mp y)]
            exact z
        · rw [back_out y] at e
          exact stay2 (hok a o e) (fun _ _ _ z => z) (fun b i z => back_same gm b _ z) (fun b xs z => back_same gm b _ z)
section
variable {P : Program} {w : World} {K : PySem.W.Frag} {mg : Str → Option Value} {base : Heap}
theorem Df.fr {x : Str} {ps : List Str} {k : Nat} {sp : Sp} (F : Df P w K mg base x k ps sp) : Df P w K mg base x k ps (fr sp) := by
  obtain ⟨f, fd, F, r⟩ := F
  exact ⟨f, fd, fn_frame F, r⟩
end
theorem mok_lst {H : Hp} {p : Addr} {xs : List V} (h : H p = some (.lst xs)) : MOk [p] H := by
  refine ⟨fun b hb => ?_, fun a o dx e i d => ⟨fun z => ?_, fun z => ?_⟩, fun b hb xs e => ?_⟩
  · have q : b = p := by simpa using hb
    rw [q, h]
    simp
  · have q : a = p := by simpa using z
    rw [q, h] at e
    cases e
    cases i
  · have q : dx = p := by simpa using z
    rw [q, h] at d
    cases d
  · have q : b = p := by simpa using hb
    rw [q, h] at e
    cases e
end SL
end
section
namespace SL
open PySem PySem.Spec PyProof.Rows L2
def top (i : Nat) : Stmt := PySem.Challenge.pw_seasonland_s01_answers.main.body.getD i (.Pass ⟨0, 0, 0, 0⟩)
abbrev s_are_bytes : Stmt := top 18
theorem sc_are_bytes : FnScope ["signs", "most", "sign"] ["signs", "most"] (defScope s_are_bytes) := fn_of rfl rfl rfl rfl (by decide +kernel)
abbrev s_are_plain : Stmt := top 19
theorem sc_are_plain : FnScope ["signs", "sign"] ["signs"] (defScope s_are_plain) := fn_of rfl rfl rfl rfl (by decide +kernel)
abbrev s_is_digit : Stmt := top 20
theorem sc_is_digit : FnScope ["sign"] ["sign"] (defScope s_is_digit) := fn_of rfl rfl rfl rfl (by decide +kernel)
abbrev s_is_capital : Stmt := top 21
theorem sc_is_capital : FnScope ["sign"] ["sign"] (defScope s_is_capital) := fn_of rfl rfl rfl rfl (by decide +kernel)
abbrev s_is_name : Stmt := top 22
theorem sc_is_name : FnScope ["signs", "sign"] ["signs"] (defScope s_is_name) := fn_of rfl rfl rfl rfl (by decide +kernel)
abbrev s_number_told : Stmt := top 23
theorem sc_number_told : FnScope ["signs", "sign", "number"] ["signs"] (defScope s_number_told) := fn_of rfl rfl rfl rfl (by decide +kernel)
abbrev s_parted : Stmt := top 24
theorem sc_parted : FnScope ["signs", "mark", "pieces", "piece", "sign"] ["signs", "mark"] (defScope s_parted) := fn_of rfl rfl rfl rfl (by decide +kernel)
abbrev s_lines_parted : Stmt := top 36
theorem sc_lines_parted : FnScope ["text", "pieces"] ["text"] (defScope s_lines_parted) := fn_of rfl rfl rfl rfl (by decide +kernel)
abbrev s_read_line : Stmt := top 37
theorem sc_read_line : FnScope ["signs", "fields"] ["signs"] (defScope s_read_line) := fn_of rfl rfl rfl rfl (by decide +kernel)
abbrev s_is_note : Stmt := top 38
theorem sc_is_note : FnScope ["signs"] ["signs"] (defScope s_is_note) := fn_of rfl rfl rfl rfl (by decide +kernel)
abbrev s_read_place_line : Stmt := top 39
theorem sc_read_place_line : FnScope ["signs", "fields"] ["signs", "fields"] (defScope s_read_place_line) := fn_of rfl rfl rfl rfl (by decide +kernel)
abbrev s_read_leg_line : Stmt := top 40
theorem sc_read_leg_line : FnScope ["signs", "fields", "windows"] ["signs", "fields"] (defScope s_read_leg_line) := fn_of rfl rfl rfl rfl (by decide +kernel)
abbrev s_read_no_stay_line : Stmt := top 41
theorem sc_read_no_stay_line : FnScope ["signs", "fields", "stretch"] ["signs", "fields"] (defScope s_read_no_stay_line) := fn_of rfl rfl rfl rfl (by decide +kernel)
abbrev s_read_windows : Stmt := top 42
theorem sc_read_windows : FnScope ["signs", "pieces", "windows", "piece", "window"] ["signs"] (defScope s_read_windows) := fn_of rfl rfl rfl rfl (by decide +kernel)
abbrev s_read_window : Stmt := top 43
theorem sc_read_window : FnScope ["signs", "halves", "stretch", "under_way"] ["signs"] (defScope s_read_window) := fn_of rfl rfl rfl rfl (by decide +kernel)
abbrev s_read_stretch : Stmt := top 44
theorem sc_read_stretch : FnScope ["signs", "halves", "first", "last"] ["signs"] (defScope s_read_stretch) := fn_of rfl rfl rfl rfl (by decide +kernel)
abbrev s_land_told : Stmt := top 50
theorem sc_land_told : FnScope ["lines"] ["lines"] (defScope s_land_told) := fn_of rfl rfl rfl rfl (by decide +kernel)
abbrev s_place_names : Stmt := top 51
theorem sc_place_names : FnScope ["lines", "names", "line"] ["lines"] (defScope s_place_names) := fn_of rfl rfl rfl rfl (by decide +kernel)
abbrev s_is_too_much : Stmt := top 52
theorem sc_is_too_much : FnScope ["lines"] ["lines"] (defScope s_is_too_much) := fn_of rfl rfl rfl rfl (by decide +kernel)
abbrev s_legs_told : Stmt := top 53
theorem sc_legs_told : FnScope ["lines", "names", "legs", "line"] ["lines"] (defScope s_legs_told) := fn_of rfl rfl rfl rfl (by decide +kernel)
abbrev s_legs_of_line : Stmt := top 54
theorem sc_legs_of_line : FnScope ["line", "names", "first", "second", "legs"] ["line", "names"] (defScope s_legs_of_line) := fn_of rfl rfl rfl rfl (by decide +kernel)
abbrev s_arrival : Stmt := top 55
theorem sc_arrival : FnScope ["leg", "day", "window"] ["leg", "day"] (defScope s_arrival) := fn_of rfl rfl rfl rfl (by decide +kernel)
abbrev s_stays_told : Stmt := top 56
theorem sc_stays_told : FnScope ["lines", "names", "stays", "name", "line", "place", "day"] ["lines"] (defScope s_stays_told) := fn_of rfl rfl rfl rfl (by decide +kernel)
abbrev s_days_there : Stmt := top 59
theorem sc_days_there : FnScope ["land", "place", "days", "goal", "reached", "stays", "day"] ["land", "place", "days", "goal"] (defScope s_days_there) := fn_of rfl rfl rfl rfl (by decide +kernel)
abbrev s_go_on : Stmt := top 60
theorem sc_go_on : FnScope ["land", "reached", "day", "place", "leg", "arrived"] ["land", "reached", "day"] (defScope s_go_on) := fn_of rfl rfl rfl rfl (by decide +kernel)
abbrev s_days_in_time : Stmt := top 61
theorem sc_days_in_time : FnScope ["land", "place", "goal", "last", "needed", "day"] ["land", "place", "goal", "last"] (defScope s_days_in_time) := fn_of rfl rfl rfl rfl (by decide +kernel)
abbrev s_starts_needed : Stmt := top 62
theorem sc_starts_needed : FnScope ["land", "goal", "days", "needed", "stays", "day"] ["land", "goal", "days"] (defScope s_starts_needed) := fn_of rfl rfl rfl rfl (by decide +kernel)
abbrev s_look_ahead : Stmt := top 63
theorem sc_look_ahead : FnScope ["land", "needed", "day", "place", "leg", "arrived"] ["land", "needed", "day"] (defScope s_look_ahead) := fn_of rfl rfl rfl rfl (by decide +kernel)
abbrev s_way_to : Stmt := top 64
theorem sc_way_to : FnScope ["land", "place", "day", "goal", "goal_day", "needed", "starts", "start", "leg"] ["land", "place", "day", "goal", "goal_day"] (defScope s_way_to) := fn_of rfl rfl rfl rfl (by decide +kernel)
abbrev s_next_start : Stmt := top 65
theorem sc_next_start : FnScope ["land", "place", "day", "needed", "left", "number", "leg"] ["land", "place", "day", "needed"] (defScope s_next_start) := fn_of rfl rfl rfl rfl (by decide +kernel)
abbrev s_leads_to : Stmt := top 66
theorem sc_leads_to : FnScope ["leg", "day", "needed", "left", "arrived"] ["leg", "day", "needed", "left"] (defScope s_leads_to) := fn_of rfl rfl rfl rfl (by decide +kernel)
abbrev s_day_behind_start : Stmt := top 67
theorem sc_day_behind_start : FnScope ["land", "place", "day", "start_day", "number"] ["land", "place", "day", "start_day", "number"] (defScope s_day_behind_start) := fn_of rfl rfl rfl rfl (by decide +kernel)
abbrev s_days_behind_stay : Stmt := top 68
theorem sc_days_behind_stay : FnScope ["land", "place", "days", "count", "day"] ["land", "place", "days", "count"] (defScope s_days_behind_stay) := fn_of rfl rfl rfl rfl (by decide +kernel)
abbrev s_stretches : Stmt := top 69
theorem sc_stretches : FnScope ["days", "ends", "day"] ["days"] (defScope s_stretches) := fn_of rfl rfl rfl rfl (by decide +kernel)
abbrev s_call_text : Stmt := top 83
theorem sc_call_text : FnScope ["sheet", "numbers", "row", "lines", "signs", "line"] ["sheet", "numbers", "row"] (defScope s_call_text) := fn_of rfl rfl rfl rfl (by decide +kernel)
abbrev s_call_put : Stmt := top 84
theorem sc_call_put : FnScope ["sheet", "numbers", "row", "k", "line"] ["sheet", "numbers", "row"] (defScope s_call_put) := fn_of rfl rfl rfl rfl (by decide +kernel)
abbrev s_change_if_fitting : Stmt := top 85
theorem sc_change_if_fitting : FnScope ["sheet", "lines"] ["sheet", "lines"] (defScope s_change_if_fitting) := fn_of rfl rfl rfl rfl (by decide +kernel)
abbrev s_call_cut : Stmt := top 86
theorem sc_call_cut : FnScope ["sheet", "numbers", "row", "k"] ["sheet", "numbers", "row"] (defScope s_call_cut) := fn_of rfl rfl rfl rfl (by decide +kernel)
abbrev s_call_undo : Stmt := top 87
theorem sc_call_undo : FnScope ["sheet", "numbers", "row"] ["sheet", "numbers", "row"] (defScope s_call_undo) := fn_of rfl rfl rfl rfl (by decide +kernel)
abbrev s_call_redo : Stmt := top 88
theorem sc_call_redo : FnScope ["sheet", "numbers", "row"] ["sheet", "numbers", "row"] (defScope s_call_redo) := fn_of rfl rfl rfl rfl (by decide +kernel)
abbrev s_call_print : Stmt := top 89
theorem sc_call_print : FnScope ["sheet", "numbers", "row", "printed", "line"] ["sheet", "numbers", "row"] (defScope s_call_print) := fn_of rfl rfl rfl rfl (by decide +kernel)
abbrev s_call_places : Stmt := top 90
theorem sc_call_places : FnScope ["sheet", "numbers", "row", "names", "answer", "name"] ["sheet", "numbers", "row"] (defScope s_call_places) := fn_of rfl rfl rfl rfl (by decide +kernel)
abbrev s_call_legs : Stmt := top 91
theorem sc_call_legs : FnScope ["sheet", "numbers", "row", "legs", "answer", "leg"] ["sheet", "numbers", "row"] (defScope s_call_legs) := fn_of rfl rfl rfl rfl (by decide +kernel)
abbrev s_call_leg : Stmt := top 92
theorem sc_call_leg : FnScope ["sheet", "numbers", "row", "i", "legs", "answer", "window"] ["sheet", "numbers", "row"] (defScope s_call_leg) := fn_of rfl rfl rfl rfl (by decide +kernel)
abbrev s_leg_numbers : Stmt := top 93
theorem sc_leg_numbers : FnScope ["leg"] ["leg"] (defScope s_leg_numbers) := fn_of rfl rfl rfl rfl (by decide +kernel)
abbrev s_are_days : Stmt := top 94
theorem sc_are_days : FnScope ["numbers", "number"] ["numbers"] (defScope s_are_days) := fn_of rfl rfl rfl rfl (by decide +kernel)
abbrev s_are_places : Stmt := top 95
theorem sc_are_places : FnScope ["land", "numbers", "number"] ["land", "numbers"] (defScope s_are_places) := fn_of rfl rfl rfl rfl (by decide +kernel)
abbrev s_days_there_asked : Stmt := top 96
theorem sc_days_there_asked : FnScope ["land", "numbers", "x", "t", "y"] ["land", "numbers"] (defScope s_days_there_asked) := fn_of rfl rfl rfl rfl (by decide +kernel)
abbrev s_call_when : Stmt := top 97
theorem sc_call_when : FnScope ["sheet", "numbers", "row", "days"] ["sheet", "numbers", "row"] (defScope s_call_when) := fn_of rfl rfl rfl rfl (by decide +kernel)
abbrev s_call_days : Stmt := top 98
theorem sc_call_days : FnScope ["sheet", "numbers", "row"] ["sheet", "numbers", "row"] (defScope s_call_days) := fn_of rfl rfl rfl rfl (by decide +kernel)
abbrev s_stretches_answered : Stmt := top 99
theorem sc_stretches_answered : FnScope ["days", "ends"] ["days"] (defScope s_stretches_answered) := fn_of rfl rfl rfl rfl (by decide +kernel)
abbrev s_days_in_time_asked : Stmt := top 100
theorem sc_days_in_time_asked : FnScope ["land", "numbers", "x", "y", "last"] ["land", "numbers"] (defScope s_days_in_time_asked) := fn_of rfl rfl rfl rfl (by decide +kernel)
abbrev s_call_latest : Stmt := top 101
theorem sc_call_latest : FnScope ["sheet", "numbers", "row", "days"] ["sheet", "numbers", "row"] (defScope s_call_latest) := fn_of rfl rfl rfl rfl (by decide +kernel)
abbrev s_call_safe : Stmt := top 102
theorem sc_call_safe : FnScope ["sheet", "numbers", "row"] ["sheet", "numbers", "row"] (defScope s_call_safe) := fn_of rfl rfl rfl rfl (by decide +kernel)
abbrev s_call_way : Stmt := top 103
theorem sc_call_way : FnScope ["sheet", "numbers", "row", "land", "days", "starts", "answer", "start"] ["sheet", "numbers", "row"] (defScope s_call_way) := fn_of rfl rfl rfl rfl (by decide +kernel)
abbrev s_call_check : Stmt := top 104
theorem sc_call_check : FnScope ["sheet", "numbers", "row", "land", "place", "day", "at", "arrived"] ["sheet", "numbers", "row"] (defScope s_call_check) := fn_of rfl rfl rfl rfl (by decide +kernel)
abbrev s_are_starts : Stmt := top 105
theorem sc_are_starts : FnScope ["row", "number"] ["row"] (defScope s_are_starts) := fn_of rfl rfl rfl rfl (by decide +kernel)
abbrev s_call_around : Stmt := top 106
theorem sc_call_around : FnScope ["sheet", "numbers", "row", "land", "x", "t", "y", "stay", "last", "leaving", "back"] ["sheet", "numbers", "row"] (defScope s_call_around) := fn_of rfl rfl rfl rfl (by decide +kernel)
abbrev s_call_open_legs : Stmt := top 107
theorem sc_call_open_legs : FnScope ["sheet", "numbers", "row", "d", "found", "i", "leg"] ["sheet", "numbers", "row"] (defScope s_call_open_legs) := fn_of rfl rfl rfl rfl (by decide +kernel)
abbrev s_call_stay : Stmt := top 108
theorem sc_call_stay : FnScope ["sheet", "numbers", "row", "land", "x", "d"] ["sheet", "numbers", "row"] (defScope s_call_stay) := fn_of rfl rfl rfl rfl (by decide +kernel)
abbrev s_answers : Stmt := top 110
theorem sc_answers : FnScope ["calls", "sheet", "told", "at", "form", "numbers", "row", "call", "answer"] ["calls"] (defScope s_answers) := fn_of rfl rfl rfl rfl (by decide +kernel)
abbrev s_Sheet_init : Stmt := inClass (top 2) 0
theorem sc_Sheet_init : FnScope ["self"] ["self"] (defScope s_Sheet_init) := fn_of rfl rfl rfl rfl (by decide +kernel)
abbrev s_Sheet_change : Stmt := inClass (top 2) 1
theorem sc_Sheet_change : FnScope ["self", "lines"] ["self", "lines"] (defScope s_Sheet_change) := fn_of rfl rfl rfl rfl (by decide +kernel)
abbrev s_Sheet_undo : Stmt := inClass (top 2) 2
theorem sc_Sheet_undo : FnScope ["self"] ["self"] (defScope s_Sheet_undo) := fn_of rfl rfl rfl rfl (by decide +kernel)
abbrev s_Sheet_redo : Stmt := inClass (top 2) 3
theorem sc_Sheet_redo : FnScope ["self"] ["self"] (defScope s_Sheet_redo) := fn_of rfl rfl rfl rfl (by decide +kernel)
abbrev s_Line_init : Stmt := inClass (top 35) 0
theorem sc_Line_init : FnScope ["self", "signs", "kind", "names", "windows", "stretch"] ["self", "signs", "kind", "names", "windows", "stretch"] (defScope s_Line_init) := fn_of rfl rfl rfl rfl (by decide +kernel)
abbrev s_Leg_init : Stmt := inClass (top 48) 0
theorem sc_Leg_init : FnScope ["self", "begin", "end", "windows"] ["self", "begin", "end", "windows"] (defScope s_Leg_init) := fn_of rfl rfl rfl rfl (by decide +kernel)
abbrev s_Land_init : Stmt := inClass (top 49) 0
theorem sc_Land_init : FnScope ["self", "legs", "stays"] ["self", "legs", "stays"] (defScope s_Land_init) := fn_of rfl rfl rfl rfl (by decide +kernel)
abbrev s_Land_can_stay : Stmt := inClass (top 49) 1
theorem sc_Land_can_stay : FnScope ["self", "place", "first", "behind"] ["self", "place", "first", "behind"] (defScope s_Land_can_stay) := fn_of rfl rfl rfl rfl (by decide +kernel)
structure Txt (K : PySem.W.Frag) (mg : Str → Option Value) : Prop where
  c_MOST_UNDOABLE : TC mg "MOST_UNDOABLE" (.int (20))
  c_LINE_END : TC mg "LINE_END" (.int (10))
  c_BLANK : TC mg "BLANK" (.int (32))
  c_HASH : TC mg "HASH" (.int (35))
  c_COMMA : TC mg "COMMA" (.int (44))
  c_DASH : TC mg "DASH" (.int (45))
  c_ZERO : TC mg "ZERO" (.int (48))
  c_NINE : TC mg "NINE" (.int (57))
  c_COLON : TC mg "COLON" (.int (58))
  c_CAPITAL_A : TC mg "CAPITAL_A" (.int (65))
  c_CAPITAL_Z : TC mg "CAPITAL_Z" (.int (90))
  c_LAST_PLAIN : TC mg "LAST_PLAIN" (.int (126))
  c_LAST_BYTE : TC mg "LAST_BYTE" (.int (255))
  c_MOST_NAME_SIGNS : TC mg "MOST_NAME_SIGNS" (.int (6))
  c_MOST_DIGITS : TC mg "MOST_DIGITS" (.int (3))
  c_LAST_DAY : TC mg "LAST_DAY" (.int (400))
  c_MOST_NOTE_SIGNS : TC mg "MOST_NOTE_SIGNS" (.int (60))
  c_MOST_WINDOWS : TC mg "MOST_WINDOWS" (.int (6))
  c_MOST_DAYS_UNDER_WAY : TC mg "MOST_DAYS_UNDER_WAY" (.int (30))
  c_NOTE : TC mg "NOTE" (.int (35))
  c_BOTH_WAYS : TC mg "BOTH_WAYS" (.int (66))
  c_ONE_WAY : TC mg "ONE_WAY" (.int (76))
  c_NO_STAY : TC mg "NO_STAY" (.int (78))
  c_PLACE : TC mg "PLACE" (.int (80))
  c_MOST_LINES : TC mg "MOST_LINES" (.int (40))
  c_MOST_PLACES : TC mg "MOST_PLACES" (.int (12))
  c_NO_WAY : TC mg "NO_WAY" (.int (1000))
  c_MOST_TEXT_BYTES : TC mg "MOST_TEXT_BYTES" (.int (2000))
  c_MOST_LINE_BYTES : TC mg "MOST_LINE_BYTES" (.int (200))
  c_MOST_LEG_NUMBER : TC mg "MOST_LEG_NUMBER" (.int (100))
  c_MOST_STARTS : TC mg "MOST_STARTS" (.int (30))
  c_MOST_START_NUMBER : TC mg "MOST_START_NUMBER" (.int (400))
  c_MOST_STAY : TC mg "MOST_STAY" (.int (100))
  c_OUT_OF_RANGE : TC mg "OUT_OF_RANGE" (.int (-1))
  c_NOT_A_LINE : TC mg "NOT_A_LINE" (.int (-2))
  c_NOT_THERE : TC mg "NOT_THERE" (.int (-4))
  c_TOO_MUCH : TC mg "TOO_MUCH" (.int (-5))
  c_NO_DAY : TC mg "NO_DAY" (.int (-9))
  c_WRONG_LINE : TC mg "WRONG_LINE" (.int (-100))
  b_all : mg "all" = none
  b_enumerate : mg "enumerate" = none
  b_len : mg "len" = none
  b_list : mg "list" = none
  b_min : mg "min" = none
  b_range : mg "range" = none
  b_tuple : mg "tuple" = none
  f_are_bytes : TF K mg "are_bytes" s_are_bytes ["signs", "most"]
  f_are_plain : TF K mg "are_plain" s_are_plain ["signs"]
  f_is_digit : TF K mg "is_digit" s_is_digit ["sign"]
  f_is_capital : TF K mg "is_capital" s_is_capital ["sign"]
  f_is_name : TF K mg "is_name" s_is_name ["signs"]
  f_number_told : TF K mg "number_told" s_number_told ["signs"]
  f_parted : TF K mg "parted" s_parted ["signs", "mark"]
  f_lines_parted : TF K mg "lines_parted" s_lines_parted ["text"]
  f_read_line : TF K mg "read_line" s_read_line ["signs"]
  f_is_note : TF K mg "is_note" s_is_note ["signs"]
  f_read_place_line : TF K mg "read_place_line" s_read_place_line ["signs", "fields"]
  f_read_leg_line : TF K mg "read_leg_line" s_read_leg_line ["signs", "fields"]
  f_read_no_stay_line : TF K mg "read_no_stay_line" s_read_no_stay_line ["signs", "fields"]
  f_read_windows : TF K mg "read_windows" s_read_windows ["signs"]
  f_read_window : TF K mg "read_window" s_read_window ["signs"]
  f_read_stretch : TF K mg "read_stretch" s_read_stretch ["signs"]
  f_land_told : TF K mg "land_told" s_land_told ["lines"]
  f_place_names : TF K mg "place_names" s_place_names ["lines"]
  f_is_too_much : TF K mg "is_too_much" s_is_too_much ["lines"]
  f_legs_told : TF K mg "legs_told" s_legs_told ["lines"]
  f_legs_of_line : TF K mg "legs_of_line" s_legs_of_line ["line", "names"]
  f_arrival : TF K mg "arrival" s_arrival ["leg", "day"]
  f_stays_told : TF K mg "stays_told" s_stays_told ["lines"]
  f_days_there : TF K mg "days_there" s_days_there ["land", "place", "days", "goal"]
  f_go_on : TF K mg "go_on" s_go_on ["land", "reached", "day"]
  f_days_in_time : TF K mg "days_in_time" s_days_in_time ["land", "place", "goal", "last"]
  f_starts_needed : TF K mg "starts_needed" s_starts_needed ["land", "goal", "days"]
  f_look_ahead : TF K mg "look_ahead" s_look_ahead ["land", "needed", "day"]
  f_way_to : TF K mg "way_to" s_way_to ["land", "place", "day", "goal", "goal_day"]
  f_next_start : TF K mg "next_start" s_next_start ["land", "place", "day", "needed"]
  f_leads_to : TF K mg "leads_to" s_leads_to ["leg", "day", "needed", "left"]
  f_day_behind_start : TF K mg "day_behind_start" s_day_behind_start ["land", "place", "day", "start_day", "number"]
  f_days_behind_stay : TF K mg "days_behind_stay" s_days_behind_stay ["land", "place", "days", "count"]
  f_stretches : TF K mg "stretches" s_stretches ["days"]
  f_call_text : TF K mg "call_text" s_call_text ["sheet", "numbers", "row"]
  f_call_put : TF K mg "call_put" s_call_put ["sheet", "numbers", "row"]
  f_change_if_fitting : TF K mg "change_if_fitting" s_change_if_fitting ["sheet", "lines"]
  f_call_cut : TF K mg "call_cut" s_call_cut ["sheet", "numbers", "row"]
  f_call_undo : TF K mg "call_undo" s_call_undo ["sheet", "numbers", "row"]
  f_call_redo : TF K mg "call_redo" s_call_redo ["sheet", "numbers", "row"]
  f_call_print : TF K mg "call_print" s_call_print ["sheet", "numbers", "row"]
  f_call_places : TF K mg "call_places" s_call_places ["sheet", "numbers", "row"]
  f_call_legs : TF K mg "call_legs" s_call_legs ["sheet", "numbers", "row"]
  f_call_leg : TF K mg "call_leg" s_call_leg ["sheet", "numbers", "row"]
  f_leg_numbers : TF K mg "leg_numbers" s_leg_numbers ["leg"]
  f_are_days : TF K mg "are_days" s_are_days ["numbers"]
  f_are_places : TF K mg "are_places" s_are_places ["land", "numbers"]
  f_days_there_asked : TF K mg "days_there_asked" s_days_there_asked ["land", "numbers"]
  f_call_when : TF K mg "call_when" s_call_when ["sheet", "numbers", "row"]
  f_call_days : TF K mg "call_days" s_call_days ["sheet", "numbers", "row"]
  f_stretches_answered : TF K mg "stretches_answered" s_stretches_answered ["days"]
  f_days_in_time_asked : TF K mg "days_in_time_asked" s_days_in_time_asked ["land", "numbers"]
  f_call_latest : TF K mg "call_latest" s_call_latest ["sheet", "numbers", "row"]
  f_call_safe : TF K mg "call_safe" s_call_safe ["sheet", "numbers", "row"]
  f_call_way : TF K mg "call_way" s_call_way ["sheet", "numbers", "row"]
  f_call_check : TF K mg "call_check" s_call_check ["sheet", "numbers", "row"]
  f_are_starts : TF K mg "are_starts" s_are_starts ["row"]
  f_call_around : TF K mg "call_around" s_call_around ["sheet", "numbers", "row"]
  f_call_open_legs : TF K mg "call_open_legs" s_call_open_legs ["sheet", "numbers", "row"]
  f_call_stay : TF K mg "call_stay" s_call_stay ["sheet", "numbers", "row"]
  f_answers : TF K mg "answers" s_answers ["calls"]
  k_Sheet : KlsT K mg "Sheet" "Sheet.__init__" s_Sheet_init ["self"]
  m_Sheet_change : MT K mg "Sheet" "change" "Sheet.change" s_Sheet_change ["self", "lines"]
  m_Sheet_undo : MT K mg "Sheet" "undo" "Sheet.undo" s_Sheet_undo ["self"]
  m_Sheet_redo : MT K mg "Sheet" "redo" "Sheet.redo" s_Sheet_redo ["self"]
  n_Sheet_lines : NoAttr K (clsOf mg "Sheet") "lines"
  n_Sheet_earlier : NoAttr K (clsOf mg "Sheet") "earlier"
  n_Sheet_undone : NoAttr K (clsOf mg "Sheet") "undone"
  k_Line : KlsT K mg "Line" "Line.__init__" s_Line_init ["self", "signs", "kind", "names", "windows", "stretch"]
  n_Line_signs : NoAttr K (clsOf mg "Line") "signs"
  n_Line_kind : NoAttr K (clsOf mg "Line") "kind"
  n_Line_names : NoAttr K (clsOf mg "Line") "names"
  n_Line_windows : NoAttr K (clsOf mg "Line") "windows"
  n_Line_stretch : NoAttr K (clsOf mg "Line") "stretch"
  k_Leg : KlsT K mg "Leg" "Leg.__init__" s_Leg_init ["self", "begin", "end", "windows"]
  n_Leg_begin : NoAttr K (clsOf mg "Leg") "begin"
  n_Leg_end : NoAttr K (clsOf mg "Leg") "end"
  n_Leg_windows : NoAttr K (clsOf mg "Leg") "windows"
  k_Land : KlsT K mg "Land" "Land.__init__" s_Land_init ["self", "legs", "stays"]
  m_Land_can_stay : MT K mg "Land" "can_stay" "Land.can_stay" s_Land_can_stay ["self", "place", "first", "behind"]
  n_Land_legs : NoAttr K (clsOf mg "Land") "legs"
  n_Land_stays : NoAttr K (clsOf mg "Land") "stays"
end SL
end
section
namespace SL
open Vbexaa
def digs (n : Nat) : List Nat := if n < 10 then [48 + n] else if n < 100 then [48 + n / 10, 48 + n % 10] else [48 + n / 100, 48 + n / 10 % 10, 48 + n % 10]
theorem dec_all : ((List.range 1000).all fun n => decimal n == digs n) = true := by decide +kernel
theorem dec_digs {n : Nat} (h : n < 1000) : decimal n = digs n := by
  have q := List.all_eq_true.mp dec_all n (List.mem_range.mpr h)
  exact eq_of_beq q
theorem dig_of {c : Nat} (h : isDigit c = true) : 48 ≤ c ∧ c ≤ 57 := by
  unfold isDigit at h
  simpa using h
theorem number_shown {t : Text} {n : Nat} (h : numberOf t = some n) : decimal n = t ∧ n < 1000 := by
  unfold numberOf at h
  split at h
  · cases h
  · rename_i hc
    simp only [not_or, not_and, Classical.not_not] at hc
    obtain ⟨h1, h2, h3, h4⟩ := hc
    have hall : t.all isDigit = true := by simpa using h1
    have e : n = valueOf t := (Option.some.inj h).symm
    subst e
    match t, h2, h3, h4, hall with
    | [a], _, _, _, hall =>
      simp at hall
      have ha := dig_of hall
      have e : valueOf [a] = a - 48 := by simp [valueOf]
      rw [e]
      refine ⟨?_, by omega⟩
      rw [dec_digs (by omega), digs, if_pos (by omega)]
      congr 1
      omega
    | [a, b], _, _, h4, hall =>
      simp at hall
      have ha := dig_of hall.1
      have hb := dig_of hall.2
      have hz : a ≠ 48 := fun z => by
        have := h4 (by rw [z]; rfl)
        simp at this
      have e : valueOf [a, b] = 10 * (a - 48) + (b - 48) := by simp [valueOf]
      rw [e]
      refine ⟨?_, by omega⟩
      rw [dec_digs (by omega), digs, if_neg (by omega), if_pos (by omega)]
      congr 1
      · omega
      · congr 1
        omega
    | [a, b, c], _, _, h4, hall =>
      simp at hall
      have ha := dig_of hall.1
      have hb := dig_of hall.2.1
      have hc := dig_of hall.2.2
      have hz : a ≠ 48 := fun z => by
        have := h4 (by rw [z]; rfl)
        simp at this
      have e : valueOf [a, b, c] = 10 * (10 * (a - 48) + (b - 48)) + (c - 48) := by simp [valueOf]
      rw [e]
      refine ⟨?_, by omega⟩
      rw [dec_digs (by omega), digs, if_neg (by omega), if_neg (by omega)]
      congr 1
      · omega
      · congr 1
        · omega
        · congr 1
          omega
    | [], h2, _, _, _ => exact absurd rfl h2
    | _ :: _ :: _ :: _ :: _, _, h3, _, _ =>
      simp at h3
theorem upTo_shown {lo hi n : Nat} {t : Text} (h : upTo lo hi t = some n) : decimal n = t ∧ lo ≤ n ∧ n ≤ hi := by
  unfold upTo at h
  split at h
  · rename_i m e
    split at h
    · rename_i hc
      have z := Option.some.inj h
      subst z
      exact ⟨(number_shown e).1, hc⟩
    · cases h
  · cases h
theorem joined_pieces (m : Nat) : ∀ t : Text, joinedBy m (pieces m t) = t
  | [] => rfl
  | c :: r => by
    have ih := joined_pieces m r
    rw [pieces]
    by_cases h : c = m
    · rw [if_pos h]
      cases e : pieces m r with
      | nil =>
        rw [e] at ih
        cases r with
        | nil => simp [pieces] at e
        | cons d r' =>
          simp only [joinedBy] at ih
          cases ih
      | cons w l =>
        rw [e] at ih
        show [] ++ (m :: joinedBy m (w :: l)) = c :: r
        rw [ih, h]
        rfl
    · rw [if_neg h]
      cases e : pieces m r with
      | nil =>
        rw [e] at ih
        simp only [joinedBy] at ih
        subst ih
        rfl
      | cons w l =>
        rw [e] at ih
        dsimp only
        cases l with
        | nil =>
          show c :: w = c :: r
          have q : w = r := ih
          rw [q]
        | cons u l =>
          show c :: w ++ (m :: joinedBy m (u :: l)) = c :: r
          have q : w ++ (m :: joinedBy m (u :: l)) = r := ih
          rw [← q]
          rfl
theorem span_shown {t : Text} {x : Nat × Nat} (h : spanOf t = some x) : shownSpan x.1 x.2 = t ∧ x.1 ≤ x.2 ∧ x.2 ≤ 400 := by
  unfold spanOf at h
  split at h
  · rename_i a b e
    have j := joined_pieces 45 t
    rw [e] at j
    split at h
    · rename_i y z h1 h2
      split at h
      · rename_i hle
        have q := Option.some.inj h
        subst q
        obtain ⟨d1, _, _⟩ := upTo_shown h1
        obtain ⟨d2, _, hi⟩ := upTo_shown h2
        refine ⟨?_, hle, hi⟩
        show decimal y ++ (45 :: decimal z) = t
        rw [d1, d2]
        exact j
      · cases h
    · cases h
  · cases h
def shownWin (x : Window) : Text := shownSpan x.first x.last ++ (58 :: decimal x.days)
structure WinOk (x : Window) : Prop where
  le : x.first ≤ x.last
  hi : x.last ≤ 400
  d1 : 1 ≤ x.days
  d2 : x.days ≤ 30
theorem window_shown {t : Text} {x : Window} (h : windowOf t = some x) : shownWin x = t ∧ WinOk x := by
  unfold windowOf at h
  split at h
  · rename_i a b e
    have j := joined_pieces 58 t
    rw [e] at j
    split at h
    · rename_i y z h1 h2
      have q := Option.some.inj h
      subst q
      obtain ⟨s1, s2, s3⟩ := span_shown h1
      obtain ⟨d2, lo, hi⟩ := upTo_shown h2
      refine ⟨?_, s2, s3, lo, hi⟩
      show shownSpan y.1 y.2 ++ (58 :: decimal z) = t
      rw [s1, d2]
      exact j
    · cases h
  · cases h
theorem allOf_shown : ∀ {l : List Text} {r : List Window}, allOf windowOf l = some r → r.map shownWin = l ∧ ∀ x ∈ r, WinOk x
  | [], r, h => by
    have q := Option.some.inj h
    subst q
    exact ⟨rfl, fun x hx => by cases hx⟩
  | t :: l, r, h => by
    rw [allOf] at h
    split at h
    · rename_i y s h1 h2
      have q := Option.some.inj h
      subst q
      obtain ⟨e1, k1⟩ := window_shown h1
      obtain ⟨e2, k2⟩ := allOf_shown h2
      refine ⟨by rw [List.map_cons, e1, e2], fun x hx => ?_⟩
      rcases List.mem_cons.mp hx with q | q
      · rw [q]
        exact k1
      · exact k2 x q
    · cases h
theorem windows_shown {t : Text} {l : List Window} (h : windowsOf t = some l) : joinedBy 44 (l.map shownWin) = t ∧ l.length ≤ 6 ∧ ∀ x ∈ l, WinOk x := by
  unfold windowsOf at h
  split at h
  · rename_i r e
    split at h
    · rename_i hl
      have q := Option.some.inj h
      subst q
      obtain ⟨e1, k⟩ := allOf_shown e
      rw [e1]
      exact ⟨joined_pieces 44 t, hl, k⟩
    · cases h
  · cases h
def LineOk : Line → Prop
  | .place n => isName n = true
  | .leg _ a b w => isName a = true ∧ isName b = true ∧ a ≠ b ∧ w.length ≤ 6 ∧ ∀ x ∈ w, WinOk x
  | .nostay n a b => isName n = true ∧ a ≤ b ∧ b ≤ 400
  | .note t => t.length ≤ 60
theorem readLine_shown {t : Text} {x : Line} (h : readLine t = some x) : shownLine x = t ∧ LineOk x := by
  unfold readLine at h
  split at h
  · split at h
    · rename_i hc
      have q := Option.some.inj h
      subst q
      exact ⟨rfl, hc.1⟩
    · cases h
  · have j := joined_pieces 32 t
    split at h
    · rename_i n e
      rw [e] at j
      split at h
      · rename_i hn
        have q := Option.some.inj h
        subst q
        exact ⟨j, hn⟩
      · cases h
    · rename_i a b w e
      rw [e] at j
      split at h
      · rename_i hn
        simp only [Bool.and_eq_true, bne_iff_ne, ne_eq] at hn
        cases ew : windowsOf w with
        | none =>
          rw [ew] at h
          cases h
        | some l =>
          rw [ew] at h
          have q := Option.some.inj h
          subst q
          obtain ⟨s1, s2, s3⟩ := windows_shown ew
          refine ⟨?_, hn.1, hn.2.1, hn.2.2, s2, s3⟩
          show joinedBy 32 [[76], a, b, joinedBy 44 (l.map shownWin)] = t
          rw [s1]
          exact j
      · cases h
    · rename_i a b w e
      rw [e] at j
      split at h
      · rename_i hn
        simp only [Bool.and_eq_true, bne_iff_ne, ne_eq] at hn
        cases ew : windowsOf w with
        | none =>
          rw [ew] at h
          cases h
        | some l =>
          rw [ew] at h
          have q := Option.some.inj h
          subst q
          obtain ⟨s1, s2, s3⟩ := windows_shown ew
          refine ⟨?_, hn.1, hn.2.1, hn.2.2, s2, s3⟩
          show joinedBy 32 [[66], a, b, joinedBy 44 (l.map shownWin)] = t
          rw [s1]
          exact j
      · cases h
    · rename_i n s e
      rw [e] at j
      split at h
      · rename_i hn
        cases ew : spanOf s with
        | none =>
          rw [ew] at h
          cases h
        | some y =>
          rw [ew] at h
          have q := Option.some.inj h
          subst q
          obtain ⟨s1, s2, s3⟩ := span_shown ew
          refine ⟨?_, hn, s2, s3⟩
          show joinedBy 32 [[78], n, shownSpan y.1 y.2] = t
          rw [s1]
          exact j
      · cases h
    · cases h
end SL
end
section
namespace SL
theorem shape_cases {p : Int} {n k : Nat} (h : PyVbexaa.shape p = some (n, k)) : (p = 0 ∧ n = 0 ∧ k = 1) ∨ (p = 1 ∧ n = 1 ∧ k = 1) ∨ (p = 2 ∧ n = 1 ∧ k = 0) ∨ (p = 3 ∧ n = 0 ∧ k = 0) ∨ (p = 4 ∧ n = 0 ∧ k = 0) ∨ (p = 5 ∧ n = 0 ∧ k = 0) ∨ (p = 6 ∧ n = 0 ∧ k = 0) ∨ (p = 7 ∧ n = 0 ∧ k = 0) ∨ (p = 8 ∧ n = 1 ∧ k = 0) ∨ (p = 9 ∧ n = 3 ∧ k = 0) ∨ (p = 10 ∧ n = 3 ∧ k = 0) ∨ (p = 11 ∧ n = 3 ∧ k = 0) ∨ (p = 12 ∧ n = 3 ∧ k = 0) ∨ (p = 13 ∧ n = 3 ∧ k = 0) ∨ (p = 14 ∧ n = 2 ∧ k = 1) ∨ (p = 15 ∧ n = 5 ∧ k = 0) ∨ (p = 16 ∧ n = 1 ∧ k = 0) ∨ (p = 17 ∧ n = 2 ∧ k = 0) := by
  unfold PyVbexaa.shape at h
  by_cases h0 : p = 0
  · rw [if_pos h0] at h
    cases h
    exact .inl ⟨h0, rfl, rfl⟩
  rw [if_neg h0] at h
  by_cases h1 : p = 1
  · rw [if_pos h1] at h
    cases h
    exact .inr (.inl ⟨h1, rfl, rfl⟩)
  rw [if_neg h1] at h
  by_cases h2 : p = 2
  · rw [if_pos h2] at h
    cases h
    exact .inr (.inr (.inl ⟨h2, rfl, rfl⟩))
  rw [if_neg h2] at h
  by_cases h3 : p = 3
  · rw [if_pos h3] at h
    cases h
    exact .inr (.inr (.inr (.inl ⟨h3, rfl, rfl⟩)))
  rw [if_neg h3] at h
  by_cases h4 : p = 4
  · rw [if_pos h4] at h
    cases h
    exact .inr (.inr (.inr (.inr (.inl ⟨h4, rfl, rfl⟩))))
  rw [if_neg h4] at h
  by_cases h5 : p = 5
  · rw [if_pos h5] at h
    cases h
    exact .inr (.inr (.inr (.inr (.inr (.inl ⟨h5, rfl, rfl⟩)))))
  rw [if_neg h5] at h
  by_cases h6 : p = 6
  · rw [if_pos h6] at h
    cases h
    exact .inr (.inr (.inr (.inr (.inr (.inr (.inl ⟨h6, rfl, rfl⟩))))))
  rw [if_neg h6] at h
  by_cases h7 : p = 7
  · rw [if_pos h7] at h
    cases h
    exact .inr (.inr (.inr (.inr (.inr (.inr (.inr (.inl ⟨h7, rfl, rfl⟩)))))))
  rw [if_neg h7] at h
  by_cases h8 : p = 8
  · rw [if_pos h8] at h
    cases h
    exact .inr (.inr (.inr (.inr (.inr (.inr (.inr (.inr (.inl ⟨h8, rfl, rfl⟩))))))))
  rw [if_neg h8] at h
  by_cases h9 : p = 9
  · rw [if_pos h9] at h
    cases h
    exact .inr (.inr (.inr (.inr (.inr (.inr (.inr (.inr (.inr (.inl ⟨h9, rfl, rfl⟩)))))))))
  rw [if_neg h9] at h
  by_cases h10 : p = 10
  · rw [if_pos h10] at h
    cases h
    exact .inr (.inr (.inr (.inr (.inr (.inr (.inr (.inr (.inr (.inr (.inl ⟨h10, rfl, rfl⟩))))))))))
  rw [if_neg h10] at h
  by_cases h11 : p = 11
  · rw [if_pos h11] at h
    cases h
    exact .inr (.inr (.inr (.inr (.inr (.inr (.inr (.inr (.inr (.inr (.inr (.inl ⟨h11, rfl, rfl⟩)))))))))))
  rw [if_neg h11] at h
  by_cases h12 : p = 12
  · rw [if_pos h12] at h
    cases h
    exact .inr (.inr (.inr (.inr (.inr (.inr (.inr (.inr (.inr (.inr (.inr (.inr (.inl ⟨h12, rfl, rfl⟩))))))))))))
  rw [if_neg h12] at h
  by_cases h13 : p = 13
  · rw [if_pos h13] at h
    cases h
    exact .inr (.inr (.inr (.inr (.inr (.inr (.inr (.inr (.inr (.inr (.inr (.inr (.inr (.inl ⟨h13, rfl, rfl⟩)))))))))))))
  rw [if_neg h13] at h
  by_cases h14 : p = 14
  · rw [if_pos h14] at h
    cases h
    exact .inr (.inr (.inr (.inr (.inr (.inr (.inr (.inr (.inr (.inr (.inr (.inr (.inr (.inr (.inl ⟨h14, rfl, rfl⟩))))))))))))))
  rw [if_neg h14] at h
  by_cases h15 : p = 15
  · rw [if_pos h15] at h
    cases h
    exact .inr (.inr (.inr (.inr (.inr (.inr (.inr (.inr (.inr (.inr (.inr (.inr (.inr (.inr (.inr (.inl ⟨h15, rfl, rfl⟩)))))))))))))))
  rw [if_neg h15] at h
  by_cases h16 : p = 16
  · rw [if_pos h16] at h
    cases h
    exact .inr (.inr (.inr (.inr (.inr (.inr (.inr (.inr (.inr (.inr (.inr (.inr (.inr (.inr (.inr (.inr (.inl ⟨h16, rfl, rfl⟩))))))))))))))))
  rw [if_neg h16] at h
  by_cases h17 : p = 17
  · rw [if_pos h17] at h
    cases h
    exact .inr (.inr (.inr (.inr (.inr (.inr (.inr (.inr (.inr (.inr (.inr (.inr (.inr (.inr (.inr (.inr (.inr (⟨h17, rfl, rfl⟩)))))))))))))))))
  rw [if_neg h17] at h
  cases h
theorem shape_k {p : Int} {n k : Nat} (h : PyVbexaa.shape p = some (n, k)) : n ≤ 5 ∧ k ≤ 1 := by
  have := shape_cases h
  omega
structure Head (p : Int) (r : List Int) (n k : Nat) (row t : List Int) : Prop where
  sh : PyVbexaa.shape p = some (n, k)
  le : n ≤ r.length
  k0 : k = 0 → row = [] ∧ t = r.drop n
  k1 : k = 1 → ∃ m rr, r.drop n = (m : Int) :: rr ∧ 0 ≤ m ∧ m.toNat ≤ rr.length ∧ row = rr.take m.toNat ∧ t = rr.drop m.toNat
def callOf (p : Int) (ns row : List Int) (k : Nat) : List (List Int) := (p :: ns) :: (if k = 1 then [row] else [])
theorem calls_cons {f : Nat} {p : Int} {r : List Int} {cs : List (List (List Int))} (h : PyFlat.calls PyVbexaa.shape f (p :: r) = some cs) :
    ∃ n k row t cs' f', Head p r n k row t ∧ PyFlat.calls PyVbexaa.shape f' t = some cs' ∧ cs = callOf p (r.take n) row k :: cs' := by
  cases f with
  | zero => simp [PyFlat.calls] at h
  | succ f =>
    rw [PyFlat.calls] at h
    cases hc : PyFlat.call PyVbexaa.shape (p :: r) with
    | none =>
      rw [hc] at h
      cases h
    | some ct =>
      obtain ⟨c, t⟩ := ct
      rw [hc] at h
      dsimp only at h
      cases ht : PyFlat.calls PyVbexaa.shape f t with
      | none =>
        rw [ht] at h
        cases h
      | some cs' =>
        rw [ht] at h
        have e := Option.some.inj h
        subst e
        rw [PyFlat.call] at hc
        cases hs : PyVbexaa.shape p with
        | none =>
          rw [hs] at hc
          cases hc
        | some nk =>
          obtain ⟨n, k⟩ := nk
          rw [hs] at hc
          dsimp only at hc
          by_cases hl : r.length < n
          · rw [if_pos hl] at hc
            cases hc
          · rw [if_neg hl] at hc
            have hk := (shape_k hs).2
            cases k with
            | zero =>
              rw [PyFlat.rows] at hc
              have e := Option.some.inj hc
              cases e
              exact ⟨n, 0, [], r.drop n, cs', f, ⟨hs, by omega, fun _ => ⟨rfl, rfl⟩, fun z => (by cases z)⟩, ht, rfl⟩
            | succ k =>
              have k0 : k = 0 := by omega
              subst k0
              rw [PyFlat.rows] at hc
              cases hr : PyFlat.row (r.drop n) with
              | none =>
                rw [hr] at hc
                cases hc
              | some xs =>
                obtain ⟨x, s⟩ := xs
                rw [hr] at hc
                dsimp only at hc
                rw [PyFlat.rows] at hc
                have e := Option.some.inj hc
                cases e
                cases hd : r.drop n with
                | nil =>
                  rw [hd] at hr
                  cases hr
                | cons m rr =>
                  rw [hd, PyFlat.row] at hr
                  by_cases hm : 0 ≤ m ∧ m.toNat ≤ rr.length
                  · rw [if_pos hm] at hr
                    have e := Option.some.inj hr
                    cases e
                    exact ⟨n, 1, rr.take m.toNat, rr.drop m.toNat, cs', f, ⟨hs, by omega, fun z => (by cases z), fun _ => ⟨m, rr, hd, hm.1, hm.2, rfl, rfl⟩⟩, ht, rfl⟩
                  · rw [if_neg hm] at hr
                    cases hr
def restTold (st : Vbexaa.St) (cs : List (List (List Int))) : List Int := PyFlat.told (PyFlat.played VbexaaNeutral.step st (cs.map PyVbexaa.whole))
theorem restTold_cons (st : Vbexaa.St) (c : List (List Int)) (cs : List (List (List Int))) : restTold st (c :: cs) = (((VbexaaNeutral.step st (PyVbexaa.whole c)).2.length : Int) :: (VbexaaNeutral.step st (PyVbexaa.whole c)).2) ++ restTold (VbexaaNeutral.step st (PyVbexaa.whole c)).1 cs := by
  unfold restTold
  rw [List.map_cons, PyFlat.played, PyFlat.told, List.flatMap_cons]
  rfl
end SL
end
section
namespace SL
open PySem PySem.Spec PyProof.Rows L2
section
variable {P : Program} {w : World} {K : PySem.W.Frag} {mg : Str → Option Value} {base : Heap}
def spSign (p : Int → Bool) : Sp := fun vs H Q _ => ∃ z : Int, vs = [.int z] ∧ Q (.bl (p z)) H
theorem ok_is_digit (T : Txt K mg) : Df P w K mg base "is_digit" 1 ["sign"] (spSign fun z => decide (48 ≤ z) && decide (z ≤ 57)) := by
  have sc := sc_is_digit
  refine df_of T.f_is_digit sc (fun vs H Q E h => ?_) (fun f cdv A outer s H vs Q E hr h => ?_)
  · obtain ⟨z, rfl, _⟩ := h
    rfl
  · obtain ⟨z, rfl, k⟩ := h
    refine ⟨_, (pss_one (ps_ret (pe_chain op_le op_le (pe_gc rfl T.c_ZERO) (pv 0) (pe_gc rfl T.c_NINE)))), ?_⟩
    refine ⟨_, rfl, _, _, rfl, rfl, _, rfl, ite2 (fun h => ⟨_, _, rfl, rfl, ?_⟩) (fun h => ?_)⟩
    · exact q_bl (Q := Q) (by simp [h]) k
    · exact q_bl (Q := Q) (by simp [h]) k
theorem ok_is_capital (T : Txt K mg) : Df P w K mg base "is_capital" 1 ["sign"] (spSign fun z => decide (65 ≤ z) && decide (z ≤ 90)) := by
  have sc := sc_is_capital
  refine df_of T.f_is_capital sc (fun vs H Q E h => ?_) (fun f cdv A outer s H vs Q E hr h => ?_)
  · obtain ⟨z, rfl, _⟩ := h
    rfl
  · obtain ⟨z, rfl, k⟩ := h
    refine ⟨_, (pss_one (ps_ret (pe_chain op_le op_le (pe_gc rfl T.c_CAPITAL_A) (pv 0) (pe_gc rfl T.c_CAPITAL_Z)))), ?_⟩
    refine ⟨_, rfl, _, _, rfl, rfl, _, rfl, ite2 (fun h => ⟨_, _, rfl, rfl, ?_⟩) (fun h => ?_)⟩
    · exact q_bl (Q := Q) (by simp [h]) k
    · exact q_bl (Q := Q) (by simp [h]) k
def bF (p : Int → Bool) : V → V
  | .int c => .bl (p c)
  | _ => .non
theorem ok_are_bytes (T : Txt K mg) : Df P w K mg base "are_bytes" 1 ["signs", "most"] (fun vs H Q _ => ∃ (a : Addr) (ns : List Int) (m : Int), vs = [.ref a, .int m] ∧ H a = some (.lst (ns.map V.int)) ∧ ns.length ≤ sizeLine ∧
    ∀ H', Same H H' → Q (.bl (decide ((ns.length : Int) ≤ m) && ns.all fun c => decide (0 ≤ c) && decide (c ≤ 255))) H') := by
  have sc := sc_are_bytes
  refine df_of T.f_are_bytes sc (fun vs H Q E h => ?_) (fun f cdv A outer s H vs Q E hr h => ?_)
  · obtain ⟨a, ns, m, rfl, _⟩ := h
    rfl
  · obtain ⟨a, ns, m, rfl, ha, hl, k⟩ := h
    refine ⟨_, (pss_cons (ps_if (pt_cmpR op_gt (pe_callB call_len_seq (by rfl) T.b_len PySem.boot_len (pa_cons (pv 0) pa_nil)) (pv 1) (nomark _))
        (pss_one (ps_ret pe_bl))
        pss_nil)
      (pss_one (ps_ret (pe_callB (cr_all rfl) (by rfl) T.b_all boot_all (pa_cons (pe_lc (own := [("sign", 2)]) rfl sc.nd (pi_list (pv 0)) (blk1 rfl rfl rfl) (fun _ _ _ _ _ => pg_name (i := 2) sc.nd rfl (Or.inl rfl)) (fun _ _ _ _ _ => pts_nil) (fun _ _ _ _ _ => (pe_chain op_le op_le pe_int (pv 2) (pe_gc rfl T.c_LAST_BYTE)))) pa_nil))))), ?_⟩
    refine ⟨_, rfl, a, _, rfl, .inl (SqL.of ha), _, rfl, _, _, rfl, rfl, _, rfl, ite2 (fun h => ?_) (fun h => ?_)⟩
    · refine q_bl (Q := Q) ?_ (k _ Same.rfl')
      simp only [List.length_map, decide_eq_true_eq] at h
      rw [decide_eq_false (by omega)]
      rfl
    · dsimp only [tNext, tRet, tCB, tCons]
      refine lc_map (a := a) (xs := ns.map V.int) (bF fun c => decide (0 ≤ c) && decide (c ≤ 255)) (fun R h => ⟨_, rfl, h⟩) (SqL.of ha) (by rw [List.length_map]; exact hl) (fun j x hx H' s' R hR => ?_) (fun D H' s' hD0 hD => ?_)
      · obtain ⟨c, hc, rfl⟩ := vI_of hx
        refine ⟨_, rfl, _, _, rfl, rfl, _, rfl, ite2 (fun h => ⟨_, _, rfl, rfl, ?_⟩) (fun h => ?_)⟩
        · exact q_bl (Q := R) (by simp [h]) (hR _ Same.rfl')
        · exact q_bl (Q := R) (by simp [h]) (hR _ Same.rfl')
      · refine ⟨D, ns.map fun c => decide (0 ≤ c) && decide (c ≤ 255), rfl, SqL.of ?_, ?_⟩
        · rw [hD, List.map_map, List.map_map]
          rfl
        · refine q_bl (Q := Q) ?_ (k _ s')
          simp only [List.length_map, decide_eq_true_eq] at h
          rw [decide_eq_true (by omega), List.all_map]
          rfl
theorem dec_cast (a b : Nat) : decide ((a : Int) ≤ (b : Int)) = decide (a ≤ b) := decide_eq_decide.mpr (by omega)
theorem ok_are_plain (T : Txt K mg) : Df P w K mg base "are_plain" 1 ["signs"] (fun vs H Q _ => ∃ (a : Addr) (t : List Nat), vs = [.ref a] ∧ H a = some (.lst (vN t)) ∧ t.length ≤ sizeLine ∧
    ∀ H', Same H H' → Q (.bl (t.all Vbexaa.isPlain)) H') := by
  have sc := sc_are_plain
  refine df_of T.f_are_plain sc (fun vs H Q E h => ?_) (fun f cdv A outer s H vs Q E hr h => ?_)
  · obtain ⟨a, t, rfl, _⟩ := h
    rfl
  · obtain ⟨a, t, rfl, ha, hl, k⟩ := h
    refine ⟨_, (pss_one (ps_ret (pe_callB (cr_all rfl) (by rfl) T.b_all boot_all (pa_cons (pe_lc (own := [("sign", 1)]) rfl sc.nd (pi_list (pv 0)) (blk1 rfl rfl rfl) (fun _ _ _ _ _ => pg_name (i := 1) sc.nd rfl (Or.inl rfl)) (fun _ _ _ _ _ => pts_nil) (fun _ _ _ _ _ => (pe_chain op_le op_le (pe_gc rfl T.c_BLANK) (pv 1) (pe_gc rfl T.c_LAST_PLAIN)))) pa_nil)))), ?_⟩
    dsimp only [tNext, tRet, tCB, tCons]
    refine lc_map (a := a) (xs := vN t) (bF fun c => decide (32 ≤ c) && decide (c ≤ 126)) (fun R h => ⟨_, rfl, h⟩) (SqL.of ha) (by rw [vN_len]; exact hl) (fun j x hx H' s' R hR => ?_) (fun D H' s' hD0 hD => ?_)
    · obtain ⟨c, hc, rfl⟩ := vN_of hx
      refine ⟨_, rfl, _, _, rfl, rfl, _, rfl, ite2 (fun h => ⟨_, _, rfl, rfl, ?_⟩) (fun h => ?_)⟩
      · exact q_bl (Q := R) (by simp [h]) (hR _ Same.rfl')
      · exact q_bl (Q := R) (by simp [h]) (hR _ Same.rfl')
    · refine ⟨D, t.map Vbexaa.isPlain, rfl, SqL.of ?_, ?_⟩
      · rw [hD, vN, List.map_map, List.map_map]
        refine congrArg (fun z => some (HO.lst z)) (List.map_congr_left fun c _ => ?_)
        show V.bl (decide ((32 : Int) ≤ (c : Int)) && decide ((c : Int) ≤ (126 : Int))) = V.bl (decide (32 ≤ c) && decide (c ≤ 126))
        rw [← dec_cast, ← dec_cast]
        rfl
      · refine q_bl (Q := Q) ?_ (k _ s')
        rw [List.all_map]
        rfl
theorem isLetter_i (c : Nat) : (decide ((65 : Int) ≤ (c : Int)) && decide ((c : Int) ≤ (90 : Int))) = Vbexaa.isLetter c := by
  unfold Vbexaa.isLetter
  rw [← dec_cast, ← dec_cast]
  rfl
theorem isDigit_i (c : Nat) : (decide ((48 : Int) ≤ (c : Int)) && decide ((c : Int) ≤ (57 : Int))) = Vbexaa.isDigit c := by
  unfold Vbexaa.isDigit
  rw [← dec_cast, ← dec_cast]
  rfl
theorem ok_is_name (T : Txt K mg) : Df P w K mg base "is_name" 2 ["signs"] (fun vs H Q _ => ∃ (a : Addr) (t : List Nat), vs = [.ref a] ∧ H a = some (.lst (vN t)) ∧
    ∀ H', Same H H' → Q (.bl (Vbexaa.isName t)) H') := by
  have sc := sc_is_name
  have D_is_capital := ok_is_capital (P := P) (w := w) (base := base) T
  have D_is_digit := ok_is_digit (P := P) (w := w) (base := base) T
  refine df_of T.f_is_name sc (fun vs H Q E h => ?_) (fun f cdv A outer s H vs Q E hr h => ?_)
  · obtain ⟨a, t, rfl, _⟩ := h
    rfl
  · obtain ⟨a, t, rfl, ha, k⟩ := h
    refine ⟨_, (pss_cons (ps_if (PW.pt (pw_or (pt_cmpR op_lt (pe_callB call_len_seq (by rfl) T.b_len PySem.boot_len (pa_cons (pv 0) pa_nil)) pe_int (nomark _)) (pw_or1 (pt_cmpR op_gt (pe_callB call_len_seq (by rfl) T.b_len PySem.boot_len (pa_cons (pv 0) pa_nil)) (pe_gc rfl T.c_MOST_NAME_SIGNS) (nomark _)))))
        (pss_one (ps_ret pe_bl))
        pss_nil)
      (pss_cons (ps_if (pt_not (pt_truth (pe_df D_is_capital hr.m rfl (pa_cons (pe_ix ix_list (pv 0) pe_int (fun _ _ => rfl)) pa_nil)) (fun _ => rfl)))
        (pss_one (ps_ret pe_bl))
        pss_nil)
      (pss_one (ps_ret (pe_callB (cr_all rfl) (by rfl) T.b_all boot_all (pa_cons (pe_lc (own := [("sign", 1)]) rfl sc.nd (pi_list (pv 0)) (blk1 rfl rfl rfl) (fun _ _ _ _ _ => pg_name (i := 1) sc.nd rfl (Or.inl rfl)) (fun _ _ _ _ _ => pts_nil) (fun _ _ _ _ _ => (pe_or (pe_df D_is_capital hr.m rfl (pa_cons (pv 1) pa_nil)) (pe_one (pe_df D_is_digit hr.m rfl (pa_cons (pv 1) pa_nil)))))) pa_nil)))))), ?_⟩
    have no : ∀ {H' : Hp} {b : Bool}, Same H H' → b = Vbexaa.isName t → Q (.bl b) H' := fun s e => q_bl (Q := Q) e (k _ s)
    refine ⟨_, rfl, a, _, rfl, .inl (SqL.of ha), _, _, rfl, rfl, _, rfl, ite2 (fun h => iteT ?_) (fun h => ⟨_, rfl, a, _, rfl, .inl (SqL.of ha), _, _, rfl, rfl, _, rfl, ite2 (fun h2 => ?_) (fun h2 => ?_)⟩)⟩
    · rw [vN_len, decide_eq_true_eq] at h
      have e : t = [] := List.length_eq_zero_iff.mp (by omega)
      subst e
      exact no Same.rfl' rfl
    · rw [vN_len, decide_eq_true_eq] at h2
      refine no Same.rfl' ?_
      cases t with
      | nil => rfl
      | cons c r =>
        have q : ¬ r.length ≤ 5 := by rw [List.length_cons] at h2; omega
        simp [Vbexaa.isName, q]
    · rw [vN_len, decide_eq_true_eq] at h h2
      obtain ⟨c, r, rfl⟩ : ∃ c r, t = c :: r := by
        cases t with
        | nil => exact absurd (show ((0 : Nat) : Int) < 1 by decide) h
        | cons c r => exact ⟨c, r, rfl⟩
      have hr5 : r.length ≤ 5 := by rw [List.length_cons] at h2; omega
      refine ⟨_, rfl, a, _, _, _, rfl, rfl, SqL.of ha, at_of (j := 0) rfl rfl, _, rfl, _, rfl, ?_⟩
      refine ite2 (fun h3 => ?_) (fun h3 => ?_)
      · simp only [isLetter_i] at h3
        refine no Same.rfl' ?_
        simp at h3
        simp [Vbexaa.isName, h3]
      · simp only [isLetter_i] at h3
        simp at h3
        dsimp only [tNext, tRet, tCB, tCons]
        refine lc_map (a := a) (xs := vN (c :: r)) (bF fun c => (decide (65 ≤ c) && decide (c ≤ 90)) || (decide (48 ≤ c) && decide (c ≤ 57))) (fun R h => ⟨_, rfl, h⟩) (SqL.of ha)
          (by have := line_big; rw [vN_len, List.length_cons]; omega) (fun j x hx H' s' R hR => ?_) (fun D H' s' hD0 hD => ?_)
        · obtain ⟨d, hd, rfl⟩ := vN_of hx
          refine ⟨_, rfl, _, rfl, _, rfl, ite2 (fun h => ?_) (fun h => ⟨_, rfl, _, rfl, ?_⟩)⟩
          · exact q_bl (Q := R) (by simp only [h, Bool.true_or]) (hR _ Same.rfl')
          · exact q_bl (Q := R) (by simp only [Bool.not_eq_true] at h; simp only [h, Bool.false_or]) (hR _ Same.rfl')
        · refine ⟨D, (c :: r).map fun d => Vbexaa.isLetter d || Vbexaa.isDigit d, rfl, SqL.of ?_, ?_⟩
          · rw [hD, vN, List.map_map, List.map_map]
            refine congrArg (fun z => some (HO.lst z)) (List.map_congr_left fun d _ => ?_)
            show V.bl _ = V.bl _
            simp only [isLetter_i, isDigit_i]
          · refine no s' ?_
            rw [List.all_map]
            simp [Vbexaa.isName, h3, hr5]
def oV : Option Nat → V
  | none => .non
  | some n => .int n
theorem val_snoc (t : List Nat) (c : Nat) : Vbexaa.valueOf (t ++ [c]) = 10 * Vbexaa.valueOf t + (c - 48) := by
  unfold Vbexaa.valueOf
  rw [List.foldl_append]
  rfl
theorem take_one {α : Type} {t : List α} {i : Nat} {c : α} (h : t[i]? = some c) : t.take (i + 1) = t.take i ++ [c] := by
  rw [List.take_add_one, h]
  rfl
theorem ok_number_told (T : Txt K mg) : Df P w K mg base "number_told" 2 ["signs"] (fun vs H Q _ => ∃ (a : Addr) (t : List Nat), vs = [.ref a] ∧ H a = some (.lst (vN t)) ∧
    ∀ H', Same H H' → Q (oV (Vbexaa.numberOf t)) H') := by
  have sc := sc_number_told
  have D_is_digit := ok_is_digit (P := P) (w := w) (base := base) T
  refine df_of T.f_number_told sc (fun vs H Q E h => ?_) (fun f cdv A outer s H vs Q E hr h => ?_)
  · obtain ⟨a, t, rfl, _⟩ := h
    rfl
  · obtain ⟨a, t, rfl, ha, k⟩ := h
    refine ⟨_, (pss_cons (ps_if (PW.pt (pw_or (pt_cmpR op_lt (pe_callB call_len_seq (by rfl) T.b_len PySem.boot_len (pa_cons (pv 0) pa_nil)) pe_int (nomark _)) (pw_or1 (pt_cmpR op_gt (pe_callB call_len_seq (by rfl) T.b_len PySem.boot_len (pa_cons (pv 0) pa_nil)) (pe_gc rfl T.c_MOST_DIGITS) (nomark _)))))
        (pss_one (ps_ret pe_non))
        pss_nil)
      (pss_cons (ps_if (pt_not (pt_truth (pe_callB (cr_all rfl) (by rfl) T.b_all boot_all (pa_cons (pe_lc (own := [("sign", 1)]) rfl sc.nd (pi_list (pv 0)) (blk1 rfl rfl rfl) (fun _ _ _ _ _ => pg_name (i := 1) sc.nd rfl (Or.inl rfl)) (fun _ _ _ _ _ => pts_nil) (fun _ _ _ _ _ => (pe_df D_is_digit hr.m rfl (pa_cons (pv 1) pa_nil)))) pa_nil)) (fun _ => rfl)))
        (pss_one (ps_ret pe_non))
        pss_nil)
      (pss_cons (ps_if (PW.pt (pw_and (pt_cmpR op_eq (pe_ix ix_list (pv 0) pe_int (fun _ _ => rfl)) (pe_gc rfl T.c_ZERO) (nomark _)) (pw_and1 (pt_cmpR op_gt (pe_callB call_len_seq (by rfl) T.b_len PySem.boot_len (pa_cons (pv 0) pa_nil)) pe_int (nomark _)))))
        (pss_one (ps_ret pe_non))
        pss_nil)
      (pss_cons (ps_set (i := 2) sc.nd rfl (Or.inl rfl) pe_int)
      (pss_cons (ps_for PassesOwn.never rfl (pi_list (pv 0)) (pg_name (i := 1) sc.nd rfl (Or.inl rfl))
        (pss_one (ps_set (i := 2) sc.nd rfl (Or.inl rfl) (pe_op op_sub (pe_op op_add (pe_op op_mul (pv 2) pe_int) (pv 1)) (pe_gc rfl T.c_ZERO)))))
      (pss_one (ps_ret (pv 2)))))))), ?_⟩
    have no : ∀ {H' : Hp} {b : V}, Same H H' → b = oV (Vbexaa.numberOf t) → Q b H' := fun s e => e ▸ k _ s
    refine ⟨_, rfl, a, _, rfl, .inl (SqL.of ha), _, _, rfl, rfl, _, rfl, ite2 (fun h => iteT ?_) (fun h => ⟨_, rfl, a, _, rfl, .inl (SqL.of ha), _, _, rfl, rfl, _, rfl, ite2 (fun h2 => ?_) (fun h2 => ?_)⟩)⟩
    · rw [vN_len, decide_eq_true_eq] at h
      have e : t = [] := List.length_eq_zero_iff.mp (by omega)
      subst e
      exact no Same.rfl' rfl
    · rw [vN_len, decide_eq_true_eq] at h2
      refine no Same.rfl' ?_
      rw [Vbexaa.numberOf, if_pos (.inr (.inr (.inl (by omega))))]
      rfl
    · rw [vN_len, decide_eq_true_eq] at h h2
      have ht : t ≠ [] := fun e => h (by rw [e]; decide)
      have h3 : ¬ 3 < t.length := by omega
      dsimp only [tNext, tSeq, tIfS, tNot, tCB, tCons]
      refine lc_map (a := a) (xs := vN t) (bF fun c => decide (48 ≤ c) && decide (c ≤ 57)) (fun R h => ⟨_, rfl, h⟩) (SqL.of ha) (by have := line_big; rw [vN_len]; omega) (fun j x hx H' s' R hR => ?_) (fun D H' s' hD0 hD => ?_)
      · obtain ⟨d, hd, rfl⟩ := vN_of hx
        exact ⟨_, rfl, _, rfl, hR _ Same.rfl'⟩
      · refine ⟨D, t.map Vbexaa.isDigit, rfl, SqL.of ?_, _, rfl, ite2 (fun h4 => ?_) (fun h4 => ?_)⟩
        · rw [hD, vN, List.map_map, List.map_map]
          refine congrArg (fun z => some (HO.lst z)) (List.map_congr_left fun d _ => ?_)
          show V.bl _ = V.bl _
          simp only [isDigit_i]
        · refine no s' ?_
          have q : t.all Vbexaa.isDigit = false := by rw [List.all_map] at h4; simpa using h4
          rw [Vbexaa.numberOf, if_pos (.inl q)]
          rfl
        · have q : t.all Vbexaa.isDigit = true := by rw [List.all_map] at h4; simpa using h4
          obtain ⟨c, r, rfl⟩ : ∃ c r, t = c :: r := by
            cases t with
            | nil => exact absurd rfl ht
            | cons c r => exact ⟨c, r, rfl⟩
          have ha' := s' _ _ ha
          have go : ¬ (c = 48 ∧ (c :: r).length ≠ 1) → Vbexaa.numberOf (c :: r) = some (Vbexaa.valueOf (c :: r)) := fun z => by
            rw [Vbexaa.numberOf, if_neg]
            rintro (z1 | z1 | z1 | z1)
            · rw [q] at z1
              cases z1
            · cases z1
            · exact h3 z1
            · exact z ⟨Option.some.inj z1.1, z1.2⟩
          have fin : ¬ (c = 48 ∧ (c :: r).length ≠ 1) → tFor (iList K (tVar 0)) (gName 1) (tAsg (tOp (rI0 fun i j => V.int (i - j)) (tOp (rI0 fun i j => V.int (i + j)) (tOp (rI CMul fun i j => V.int (i * j)) (tVar 2) (tC (V.int 10))) (tVar 1)) (tC (V.int 48))) (gName 2))
              { nx := tRet (tVar 2) { nx := fun _ H' => Q .non H', rt := Q }, rt := Q } [some (.ref a), none, some (.int 0)] H' := fun z => by
            refine ⟨_, rfl, a, rfl, ⟨_, SqL.of ha'⟩, for_list (K := K) (a := a) (xs := vN (c :: r)) (fun i σ H1 => ∃ v : Option V, σ = [some (.ref a), v, some (.int (Vbexaa.valueOf ((c :: r).take i)))] ∧ Same H' H1) ⟨none, rfl, Same.rfl'⟩ (fun i σ H1 _ ⟨_, _, s5⟩ => SqL.of (s5 _ _ ha')) ?_ ?_⟩
            · rintro i y σ H1 hi ⟨v, rfl, s5⟩
              obtain ⟨d, hd, rfl⟩ := vN_of hi
              refine ⟨_, rfl, _, _, rfl, rfl, .inr ⟨by decide, by decide⟩, _, rfl, _, _, rfl, rfl, _, _, rfl, rfl, ⟨some (.int d), ?_, s5⟩⟩
              have hdig : Vbexaa.isDigit d = true := List.all_eq_true.mp q d (List.mem_of_getElem? hd)
              have h48 : 48 ≤ d := by
                unfold Vbexaa.isDigit at hdig
                simp at hdig
                exact hdig.1
              rw [take_one hd, val_snoc]
              have e : ((10 * Vbexaa.valueOf (List.take i (c :: r)) + (d - 48) : Nat) : Int) = (Vbexaa.valueOf (List.take i (c :: r)) : Int) * 10 + (d : Int) - 48 := by omega
              rw [e]
              rfl
            · rintro σ H1 ⟨v, rfl, s5⟩
              refine ⟨_, rfl, no (s'.trans s5) ?_⟩
              rw [go z, vN_len, List.take_length]
              rfl
          refine ⟨_, rfl, a, _, _, _, rfl, rfl, SqL.of ha', at_of (j := 0) rfl rfl, rfl, _, rfl, ite2 (fun h5 => ⟨_, rfl, a, _, rfl, .inl (SqL.of ha'), _, _, rfl, rfl, _, rfl, ite2 (fun h6 => ?_) (fun h6 => ?_)⟩) (fun h5 => iteF ?_)⟩
          · refine no s' ?_
            have e5 : c = 48 := by
              simp at h5
              omega
            rw [vN_len, decide_eq_true_eq] at h6
            rw [Vbexaa.numberOf, if_pos (.inr (.inr (.inr ⟨by rw [e5]; rfl, by omega⟩)))]
            rfl
          · rw [vN_len, decide_eq_true_eq] at h6
            exact fin fun z => z.2 (by rw [List.length_cons] at h6 ⊢; omega)
          · exact fin fun z => by
              simp at h5
              omega
end
end SL
end
section
namespace SL
open PySem PySem.Spec PyProof.Rows L2
theorem pieces_ne (m : Nat) : ∀ t : List Nat, ∃ w l, Vbexaa.pieces m t = w :: l
  | [] => ⟨_, _, rfl⟩
  | c :: r => by
    obtain ⟨w, l, e⟩ := pieces_ne m r
    rw [Vbexaa.pieces]
    by_cases h : c = m
    · rw [if_pos h]
      exact ⟨_, _, rfl⟩
    · rw [if_neg h, e]
      exact ⟨_, _, rfl⟩
def pJoin (done : List (List Nat)) (cur : List Nat) : List (List Nat) → List (List Nat)
  | [] => done ++ [cur]
  | w :: l => done ++ (cur ++ w) :: l
theorem pJoin_start (m : Nat) (t : List Nat) : pJoin [] [] (Vbexaa.pieces m t) = Vbexaa.pieces m t := by
  obtain ⟨w, l, e⟩ := pieces_ne m t
  rw [e]
  rfl
theorem pJoin_mark (m : Nat) (done : List (List Nat)) (cur r : List Nat) : pJoin done cur (Vbexaa.pieces m (m :: r)) = pJoin (done ++ [cur]) [] (Vbexaa.pieces m r) := by
  obtain ⟨w, l, e⟩ := pieces_ne m r
  rw [Vbexaa.pieces, if_pos rfl, e]
  simp [pJoin]
theorem pJoin_sign (m : Nat) (done : List (List Nat)) (cur r : List Nat) {c : Nat} (h : ¬ c = m) : pJoin done cur (Vbexaa.pieces m (c :: r)) = pJoin done (cur ++ [c]) (Vbexaa.pieces m r) := by
  obtain ⟨w, l, e⟩ := pieces_ne m r
  rw [Vbexaa.pieces, if_neg h, e]
  simp [pJoin]
theorem drop_one {α : Type} {t : List α} {i : Nat} {c : α} (h : t[i]? = some c) : t.drop i = c :: t.drop (i + 1) := by
  obtain ⟨h1, h2⟩ := List.getElem?_eq_some_iff.mp h
  rw [List.drop_eq_getElem_cons h1, h2]
section
variable {P : Program} {w : World} {K : PySem.W.Frag} {mg : Str → Option Value} {base : Heap}
structure PartInv (H : Hp) (m : Nat) (t : List Nat) (p : Addr) (i : Nat) (q : Addr) (H' : Hp) (as : List Addr) (done : List (List Nat)) (cur : List Nat) : Prop where
  same : Same H H'
  np : H p = none
  nq : H q = none
  pq : p ≠ q
  lst : H' p = some (.lst (as.map V.ref))
  hcur : H' q = some (.lst (vN cur))
  at_ : Paired (fun a u => H' a = some (.lst (vN u)) ∧ a ≠ p ∧ a ≠ q) as done
  eq : pJoin done cur (Vbexaa.pieces m (t.drop i)) = Vbexaa.pieces m t
  l1 : done.length ≤ i
  l2 : cur.length ≤ i
def spParted : Sp := fun vs H Q _ => ∃ (a : Addr) (t : List Nat) (m : Nat), vs = [.ref a, .int m] ∧ H a = some (.lst (vN t)) ∧ t.length ≤ 100000 ∧
    ∀ H' p, Same H H' → H p = none → LL H' p (Vbexaa.pieces m t) → Q (.ref p) H'
theorem paired_len {α β : Type} {F : α → β → Prop} : ∀ {l : List α} {m : List β}, Paired F l m → l.length = m.length := fun h => Paired.length h
theorem ok_parted (T : Txt K mg) : Df P w K mg base "parted" 1 ["signs", "mark"] spParted := by
  have sc := sc_parted
  refine df_of T.f_parted sc (fun vs H Q E h => ?_) (fun f cdv A outer s H vs Q E hr h => ?_)
  · obtain ⟨a, t, m, rfl, _⟩ := h
    rfl
  · obtain ⟨a, t, m, rfl, ha, hl, k⟩ := h
    have big := line_big
    refine ⟨_, (pss_cons (ps_set (i := 2) sc.nd rfl (Or.inl rfl) (pe_lst pa_nil))
      (pss_cons (ps_set (i := 3) sc.nd rfl (Or.inl rfl) (pe_lst pa_nil))
      (pss_cons (ps_for PassesOwn.never rfl (pi_list (pv 0)) (pg_name (i := 4) sc.nd rfl (Or.inl rfl))
        (pss_one (ps_if (pt_cmpR op_eq (pv 4) (pv 1) (nomark _))
          (pss_cons (ps_expr (pe_bm PySem.F.plainAttrs_list PySem.F.slot_list_append PySem.F.type_list_append mt_append (pv 2) (pa_cons (pv 3) pa_nil)))
          (pss_one (ps_set (i := 3) sc.nd rfl (Or.inl rfl) (pe_lst pa_nil))))
          (pss_one (ps_expr (pe_bm PySem.F.plainAttrs_list PySem.F.slot_list_append PySem.F.type_list_append mt_append (pv 3) (pa_cons (pv 4) pa_nil)))))))
      (pss_cons (ps_expr (pe_bm PySem.F.plainAttrs_list PySem.F.slot_list_append PySem.F.type_list_append mt_append (pv 2) (pa_cons (pv 3) pa_nil)))
      (pss_one (ps_ret (pv 2))))))), ?_⟩
    refine ⟨Nat.zero_le _, fun p hp => ⟨Nat.zero_le _, fun q hq => ?_⟩⟩
    have hqn : H q = none := (Same.new (o := .lst []) hp).free hq
    have pq : p ≠ q := ne_of_none (upd_same (H := H) (o := .lst [])) hq
    have I0 : PartInv H m t p 0 q (upd (upd H p (.lst [])) q (.lst [])) [] [] [] :=
      ⟨(Same.new hp).tr_new hq, hp, hqn, pq, by rw [upd_ne pq, upd_same]; rfl, upd_same, .nil, pJoin_start m t, Nat.le_refl _, Nat.le_refl _⟩
    refine ⟨_, rfl, a, rfl, ⟨_, SqL.of (I0.same _ _ ha)⟩, for_list (K := K) (a := a) (xs := vN t) (fun i σ H' => ∃ v q' as done cur, σ = [some (.ref a), some (.int m), some (.ref p), some (.ref q'), v] ∧ PartInv H m t p i q' H' as done cur)
      ⟨none, q, [], [], [], rfl, I0⟩ (fun i σ H' _ ⟨_, _, _, _, _, _, I⟩ => SqL.of (I.same _ _ ha)) ?_ ?_⟩
    · rintro i y σ H' hi ⟨v, q', as, done, cur, rfl, I⟩
      obtain ⟨c, hc, rfl⟩ := vN_of hi
      have hi' : i < t.length := (List.getElem?_eq_some_iff.mp hc).1
      refine ⟨_, rfl, _, rfl, rfl, _, rfl, ite2 (fun h => ?_) (fun h => ?_)⟩
      · -- a mark
        have e : c = m := by
          simp at h
          omega
        subst e
        have hlen := paired_len I.at_
        refine ⟨_, rfl, .inl ⟨rfl, _, SqL.of I.lst⟩, _, rfl, p, _, _, rfl, rfl, I.lst, ?_, ⟨Nat.zero_le _, fun r hr' => ?_⟩⟩
        · have := I.l1
          rw [List.length_map]
          omega
        · have hrp : r ≠ p := fun z => by rw [z, upd_same] at hr'; cases hr'
          rw [upd_ne hrp] at hr'
          refine ⟨some (.int c), r, as ++ [q'], done ++ [cur], [], rfl, ?_⟩
          have nr : ∀ {b : Addr} {o : HO}, H' b = some o → b ≠ r := fun e => ne_of_none e hr'
          refine ⟨(I.same.upd I.np).upd (I.same.free hr'), I.np, I.same.free hr', Ne.symm hrp, ?_, upd_same, ?_, ?_, ?_, Nat.zero_le _⟩
          · rw [upd_ne (Ne.symm hrp), upd_same, List.map_append]
            rfl
          · refine Paired.app (Paired.same I.at_ fun b u ⟨e1, e2, e3⟩ => ⟨?_, e2, nr e1⟩) (Paired.one ⟨?_, Ne.symm I.pq, nr I.hcur⟩)
            · rw [upd_ne (nr e1), upd_ne e2]
              exact e1
            · rw [upd_ne (nr I.hcur), upd_ne (Ne.symm I.pq)]
              exact I.hcur
          · rw [← I.eq, drop_one hc, pJoin_mark]
          · have := I.l1
            rw [List.length_append]
            exact Nat.succ_le_succ this
      · -- another sign
        have ne : ¬ c = m := fun z => h (by rw [z]; simp)
        refine ⟨_, rfl, .inl ⟨rfl, _, SqL.of I.hcur⟩, _, rfl, q', _, _, rfl, rfl, I.hcur, ?_, ?_⟩
        · have := I.l2
          rw [vN_len]
          omega
        · refine ⟨some (.int c), q', as, done, cur ++ [c], rfl, I.same.upd I.nq, I.np, I.nq, I.pq, ?_, ?_, ?_, ?_, ?_, ?_⟩
          · rw [upd_ne I.pq]
            exact I.lst
          · rw [upd_same, vN_app]
            rfl
          · exact Paired.same I.at_ fun b u ⟨e1, e2, e3⟩ => ⟨by rw [upd_ne e3]; exact e1, e2, e3⟩
          · rw [← I.eq, drop_one hc, pJoin_sign m done cur _ ne]
          · exact Nat.le_succ_of_le I.l1
          · have := I.l2
            rw [List.length_append]
            exact Nat.succ_le_succ this
    · rintro σ H' ⟨v, q', as, done, cur, rfl, I⟩
      have hlen := paired_len I.at_
      rw [vN_len] at I
      refine ⟨_, rfl, .inl ⟨rfl, _, SqL.of I.lst⟩, _, rfl, p, _, _, rfl, rfl, I.lst, ?_, ?_⟩
      · have := I.l1
        rw [List.length_map]
        omega
      · refine ⟨_, rfl, k _ p (I.same.upd I.np) hp ?_⟩
        have e := I.eq
        rw [List.drop_length] at e
        have e2 : pJoin done cur (Vbexaa.pieces m []) = done ++ [cur] := by simp [pJoin, Vbexaa.pieces]
        rw [e2] at e
        rw [← e]
        refine ⟨as ++ [q'], by rw [upd_same, List.map_append]; rfl, Paired.app (Paired.same I.at_ fun b u ⟨e1, e2, e3⟩ => ?_) (Paired.one ?_)⟩
        · rw [upd_ne e2]
          exact e1
        · rw [upd_ne (Ne.symm I.pq)]
          exact I.hcur
theorem atI_last {xs : List V} {v : V} (h : xs[xs.length - 1]? = some v) : atI xs (-1) = some v := by
  have hl : 0 < xs.length := by
    cases xs with
    | nil => simp at h
    | cons _ _ => simp
  unfold atI ixN
  rw [if_neg (by decide), if_pos (by omega)]
  have e : (-1 + (xs.length : Int)).toNat = xs.length - 1 := by omega
  rw [e]
  exact h
theorem Paired.dropLast {α β : Type} {F : α → β → Prop} : ∀ {l : List α} {m : List β}, Paired F l m → Paired F l.dropLast m.dropLast
  | _, _, .nil => .nil
  | _, _, .cons r .nil => .nil
  | _, _, .cons r (.cons r' t) => .cons r (Paired.dropLast (.cons r' t))
theorem vN_ne_refs {as : List Addr} {y : List Nat} (h : as ≠ []) (e : vN y = as.map V.ref) : False := by
  cases as with
  | nil => exact h rfl
  | cons a as =>
    cases y with
    | nil => simp [vN] at e
    | cons c y => simp [vN] at e
theorem ok_lines_parted (T : Txt K mg) : Df P w K mg base "lines_parted" 2 ["text"] (fun vs H Q _ => ∃ (a : Addr) (t : List Nat), vs = [.ref a] ∧ H a = some (.lst (vN t)) ∧ t.length ≤ 100000 ∧
    ∀ H' p, Same H H' → H p = none → LL H' p (Vbexaa.linesOf t) → Q (.ref p) H') := by
  have sc := sc_lines_parted
  have D_parted := ok_parted (P := P) (w := w) (base := base) T
  refine df_of T.f_lines_parted sc (fun vs H Q E h => ?_) (fun f cdv A outer s H vs Q E hr h => ?_)
  · obtain ⟨a, t, rfl, _⟩ := h
    rfl
  · obtain ⟨a, t, rfl, ha, hl, k⟩ := h
    refine ⟨_, (pss_cons (ps_set (i := 1) sc.nd rfl (Or.inl rfl) (pe_df D_parted hr.m rfl (pa_cons (pv 0) (pa_cons (pe_gc rfl T.c_LINE_END) pa_nil))))
      (pss_cons (ps_if (pt_not (pt_truth (pe_ix ix_list (pv 1) (pe_un un_neg pe_int) (fun _ _ => rfl)) (fun _ => rfl)))
        (pss_one (ps_expr (pe_bm0 PySem.F.plainAttrs_list PySem.F.slot_list_pop PySem.F.type_list_pop mt_pop (pv 1))))
        pss_nil)
      (pss_one (ps_ret (pv 1))))), ?_⟩
    refine ⟨_, rfl, a, t, 10, rfl, ha, hl, fun H1 p s1 hp L => ?_⟩
    obtain ⟨as, h1, h2⟩ := L
    obtain ⟨u0, l0, e0⟩ := pieces_ne 10 t
    obtain ⟨u, hu⟩ : ∃ u, (Vbexaa.pieces 10 t)[(Vbexaa.pieces 10 t).length - 1]? = some u := by
      rw [e0]
      exact ⟨_, List.getElem?_eq_getElem (by simp)⟩
    have hlen := paired_len h2
    obtain ⟨b, hb, hbu⟩ := Paired.get h2 hu
    have hg : (Vbexaa.pieces 10 t).getLast? = some u := by rw [List.getLast?_eq_getElem?]; exact hu
    have hbv : (as.map V.ref)[(as.map V.ref).length - 1]? = some (V.ref b) := by rw [List.length_map, hlen, List.getElem?_map, hb]; rfl
    refine ⟨_, rfl, 1, rfl, p, _, _, _, rfl, rfl, SqL.of h1, atI_last hbv, !(vN u).isEmpty, .inl ⟨_, SqL.of hbu, rfl⟩, ite2 (fun h => ?_) (fun h => ?_)⟩
    · have e : u = [] := by
        cases u with
        | nil => rfl
        | cons _ _ => simp [vN] at h
      subst e
      refine ⟨_, rfl, .inl ⟨rfl, _, SqL.of h1⟩, p, _, _, rfl, rfl, h1, hbv, ?_⟩
      refine ⟨_, rfl, k _ p (s1.upd hp) hp ?_⟩
      unfold Vbexaa.linesOf
      dsimp only
      rw [if_pos hg]
      refine ⟨as.dropLast, by rw [upd_same, List.map_dropLast], Paired.same (Paired.dropLast h2) fun x y e => ?_⟩
      rw [upd_ne]
      · exact e
      · exact ne_of e h1 (fun z => vN_ne_refs (by rintro rfl; simp at hb) (HO.lst.inj z))
    · refine ⟨_, rfl, k _ p s1 hp ?_⟩
      unfold Vbexaa.linesOf
      dsimp only
      rw [if_neg]
      · exact ⟨as, h1, h2⟩
      · intro z
        rw [hg] at z
        have e := Option.some.inj z
        subst e
        exact h rfl
end
end SL
end
section
namespace SL
open PySem PySem.Spec PyProof.Rows L2
def StrAt (H : Hp) (v : V) : Option (Nat × Nat) → Prop
  | none => v = .non
  | some x => ∃ p, v = .ref p ∧ H p = some (.tup (vN [x.1, x.2]))
theorem StrAt.same {H H' : Hp} {v : V} {o : Option (Nat × Nat)} (h : StrAt H v o) (s : Same H H') : StrAt H' v o := by
  cases o with
  | none => exact h
  | some x =>
    obtain ⟨p, e, h⟩ := h
    exact ⟨p, e, s _ _ h⟩
def WinAt (H : Hp) (v : V) : Option Vbexaa.Window → Prop
  | none => v = .non
  | some x => ∃ p, v = .ref p ∧ H p = some (.tup (vN [x.first, x.last, x.days]))
def WsAt (H : Hp) (p : Addr) (ws : List Vbexaa.Window) : Prop := ∃ as : List Addr, H p = some (.lst (as.map V.ref)) ∧ Paired (fun a (x : Vbexaa.Window) => H a = some (.tup (vN [x.first, x.last, x.days]))) as ws
theorem WsAt.same {H H' : Hp} {p : Addr} {ws : List Vbexaa.Window} (h : WsAt H p ws) (s : Same H H') : WsAt H' p ws := by
  obtain ⟨as, h1, h2⟩ := h
  exact ⟨as, s _ _ h1, Paired.same h2 fun a t e => s _ _ e⟩
def WinsAt (H : Hp) (v : V) : Option (List Vbexaa.Window) → Prop
  | none => v = .non
  | some ws => ∃ p, v = .ref p ∧ WsAt H p ws
theorem LL.two {H : Hp} {p : Addr} {a b : List Nat} (h : LL H p [a, b]) : ∃ x y, H p = some (.lst [.ref x, .ref y]) ∧ H x = some (.lst (vN a)) ∧ H y = some (.lst (vN b)) := by
  obtain ⟨as, h1, h2⟩ := h
  cases h2 with
  | cons r1 t =>
    cases t with
    | cons r2 t =>
      cases t
      exact ⟨_, _, h1, r1, r2⟩
theorem LL.len {H : Hp} {p : Addr} {ts : List (List Nat)} (h : LL H p ts) : ∃ xs : List V, H p = some (.lst xs) ∧ xs.length = ts.length := by
  obtain ⟨as, h1, h2⟩ := h
  exact ⟨_, h1, by rw [List.length_map]; exact paired_len h2⟩
theorem pieces_small (m : Nat) : ∀ (t : List Nat), ∀ u ∈ Vbexaa.pieces m t, u.length ≤ t.length
  | [], u, h => by
    simp [Vbexaa.pieces] at h
    subst h
    exact Nat.le_refl _
  | c :: r, u, h => by
    obtain ⟨w, l, e⟩ := pieces_ne m r
    have ih := pieces_small m r
    rw [e] at ih
    rw [Vbexaa.pieces] at h
    by_cases hc : c = m
    · rw [if_pos hc, e] at h
      rcases List.mem_cons.mp h with z | z
      · subst z
        exact Nat.zero_le _
      · exact Nat.le_succ_of_le (ih u z)
    · rw [if_neg hc, e] at h
      rcases List.mem_cons.mp h with z | z
      · subst z
        exact Nat.succ_le_succ (ih w (List.mem_cons_self ..))
      · exact Nat.le_succ_of_le (ih u (List.mem_cons_of_mem _ z))
theorem span_no {t : List Nat} (h : (Vbexaa.pieces 45 t).length ≠ 2) : Vbexaa.spanOf t = none := by
  unfold Vbexaa.spanOf
  split
  · rename_i a b e
    rw [e] at h
    exact absurd rfl h
  · rfl
theorem list_two {α : Type} {l : List α} (h : l.length = 2) : ∃ a b, l = [a, b] := by
  match l, h with
  | [a, b], _ => exact ⟨a, b, rfl⟩
theorem span_yes {t a b : List Nat} (h : Vbexaa.pieces 45 t = [a, b]) : Vbexaa.spanOf t = match Vbexaa.numberOf a, Vbexaa.numberOf b with
    | some x, some y => if x ≤ y ∧ y ≤ 400 then some (x, y) else none
    | _, _ => none := by
  unfold Vbexaa.spanOf Vbexaa.upTo
  rw [h]
  dsimp only
  cases Vbexaa.numberOf a with
  | none => rfl
  | some x =>
    cases Vbexaa.numberOf b with
    | none =>
      dsimp only
      split <;> rename_i q <;> (try split at q) <;> simp_all
    | some y =>
      dsimp only
      unfold Vbexaa.LAST
      by_cases h2 : y ≤ 400
      · rw [if_pos (⟨Nat.zero_le _, h2⟩ : 0 ≤ y ∧ y ≤ 400)]
        by_cases h1 : x ≤ 400
        · rw [if_pos (⟨Nat.zero_le _, h1⟩ : 0 ≤ x ∧ x ≤ 400)]
          dsimp only
          by_cases h3 : x ≤ y
          · rw [if_pos h3, if_pos ⟨h3, h2⟩]
          · rw [if_neg h3, if_neg (fun z => h3 z.1)]
        · rw [if_neg (fun z => h1 z.2)]
          dsimp only
          rw [if_neg (by omega)]
      · rw [if_neg (show ¬ (0 ≤ y ∧ y ≤ 400) from fun z => h2 z.2), if_neg (show ¬ (x ≤ y ∧ y ≤ 400) from fun z => h2 z.2)]
        split <;> simp_all
section
variable {P : Program} {w : World} {K : PySem.W.Frag} {mg : Str → Option Value} {base : Heap}
theorem ok_read_stretch (T : Txt K mg) : Df P w K mg base "read_stretch" 3 ["signs"] (fun vs H Q _ => ∃ (a : Addr) (t : List Nat), vs = [.ref a] ∧ H a = some (.lst (vN t)) ∧ t.length ≤ 100000 ∧
    ∀ H' v, Same H H' → StrAt H' v (Vbexaa.spanOf t) → Q v H') := by
  have sc := sc_read_stretch
  have D_parted := ok_parted (P := P) (w := w) (base := base) T
  have D_number_told := ok_number_told (P := P) (w := w) (base := base) T
  refine df_of T.f_read_stretch sc (fun vs H Q E h => ?_) (fun f cdv A outer s H vs Q E hr h => ?_)
  · obtain ⟨a, t, rfl, _⟩ := h
    rfl
  · obtain ⟨a, t, rfl, ha, hl, k⟩ := h
    refine ⟨_, (pss_cons (ps_set (i := 1) sc.nd rfl (Or.inl rfl) (pe_df D_parted hr.m rfl (pa_cons (pv 0) (pa_cons (pe_gc rfl T.c_DASH) pa_nil))))
      (pss_cons (ps_if (pt_cmpR op_ne (pe_callB call_len_seq (by rfl) T.b_len PySem.boot_len (pa_cons (pv 1) pa_nil)) pe_int (nomark _))
        (pss_one (ps_ret pe_non))
        pss_nil)
      (pss_cons (ps_set (i := 2) sc.nd rfl (Or.inl rfl) (pe_df D_number_told hr.m rfl (pa_cons (pe_ix ix_list (pv 1) pe_int (fun _ _ => rfl)) pa_nil)))
      (pss_cons (ps_set (i := 3) sc.nd rfl (Or.inl rfl) (pe_df D_number_told hr.m rfl (pa_cons (pe_ix ix_list (pv 1) pe_int (fun _ _ => rfl)) pa_nil)))
      (pss_cons (ps_if (PW.pt (pw_or (pt_cmpR op_isN (pv 2) pe_non (nomark _)) (pw_or1 (pt_cmpR op_isN (pv 3) pe_non (nomark _)))))
        (pss_one (ps_ret pe_non))
        pss_nil)
      (pss_cons (ps_if (PW.pt (pw_or (pt_cmpR op_gt (pv 2) (pv 3) (nomark _)) (pw_or1 (pt_cmpR op_gt (pv 3) (pe_gc rfl T.c_LAST_DAY) (nomark _)))))
        (pss_one (ps_ret pe_non))
        pss_nil)
      (pss_one (ps_ret (pe_tup (pa_cons (pv 2) (pa_cons (pv 3) pa_nil))))))))))), ?_⟩
    refine ⟨_, rfl, a, t, 45, rfl, ha, hl, fun H1 p s1 hp L => ?_⟩
    obtain ⟨xs, hxs, hlen⟩ := L.len
    have no : ∀ {H' : Hp}, Same H H' → Vbexaa.spanOf t = none → Q .non H' := fun s e => k _ _ s (by rw [e]; rfl)
    refine ⟨_, rfl, p, _, rfl, .inl (SqL.of hxs), rfl, _, rfl, ite2 (fun h => ?_) (fun h => ?_)⟩
    · refine no s1 (span_no ?_)
      rw [← hlen]
      simp at h
      omega
    · have h2 : (Vbexaa.pieces 45 t).length = 2 := by
        rw [← hlen]
        simp at h
        omega
      obtain ⟨ta, tb, e2⟩ := list_two h2
      rw [e2] at L
      obtain ⟨x, y, hp2, hx, hy⟩ := L.two
      have sp := span_yes e2
      refine ⟨_, rfl, p, _, _, _, rfl, rfl, SqL.of hp2, at_of (j := 0) rfl rfl, x, ta, rfl, hx, fun H2 s2 => ?_⟩
      refine ⟨_, rfl, p, _, _, _, rfl, rfl, SqL.of (s2 _ _ hp2), at_of (j := 1) rfl rfl, y, tb, rfl, s2 _ _ hy, fun H3 s3 => ?_⟩
      have s13 := (s1.trans s2).trans s3
      cases ea : Vbexaa.numberOf ta with
      | none =>
        rw [ea] at sp
        exact ⟨_, rfl, rfl, _, rfl, iteT (iteT (no s13 sp))⟩
      | some n =>
        refine ⟨_, rfl, rfl, _, rfl, iteF ⟨_, rfl, rfl, _, rfl, ?_⟩⟩
        cases eb : Vbexaa.numberOf tb with
        | none =>
          rw [ea, eb] at sp
          exact iteT (no s13 sp)
        | some m =>
          rw [ea, eb] at sp
          dsimp only at sp
          refine iteF ?_
          refine ⟨_, rfl, _, rfl, _, _, rfl, rfl, _, rfl, ite2 (fun h3 => iteT (no s13 ?_)) (fun h3 => ⟨_, rfl, _, _, rfl, rfl, _, rfl, ite2 (fun h4 => no s13 ?_) (fun h4 => ?_)⟩)⟩
          · rw [sp, if_neg]
            simp at h3
            omega
          · rw [sp, if_neg]
            simp at h4
            omega
          · refine ⟨_, rfl, _, rfl, (by show 2 ≤ sizeLine; have := line_big; omega), fun q hq => k _ _ (s13.tr_new hq) ?_⟩
            rw [sp, if_pos (by simp at h3 h4; omega)]
            exact ⟨q, rfl, upd_same⟩
theorem window_no {t : List Nat} (h : (Vbexaa.pieces 58 t).length ≠ 2) : Vbexaa.windowOf t = none := by
  unfold Vbexaa.windowOf
  split
  · rename_i a b e
    rw [e] at h
    exact absurd rfl h
  · rfl
theorem window_yes {t a b : List Nat} (h : Vbexaa.pieces 58 t = [a, b]) : Vbexaa.windowOf t = match Vbexaa.spanOf a, Vbexaa.numberOf b with
    | some x, some y => if 1 ≤ y ∧ y ≤ 30 then some ⟨x.1, x.2, y⟩ else none
    | _, _ => none := by
  unfold Vbexaa.windowOf Vbexaa.upTo
  rw [h]
  dsimp only
  cases Vbexaa.spanOf a with
  | none => rfl
  | some x =>
    cases Vbexaa.numberOf b with
    | none => rfl
    | some y =>
      dsimp only
      by_cases h2 : 1 ≤ y ∧ y ≤ 30
      · rw [if_pos h2, if_pos h2]
      · rw [if_neg h2, if_neg h2]
theorem mem_two {a b : List Nat} {m : Nat} {t : List Nat} (h : Vbexaa.pieces m t = [a, b]) : a.length ≤ t.length ∧ b.length ≤ t.length := by
  have q := pieces_small m t
  rw [h] at q
  exact ⟨q a (by simp), q b (by simp)⟩
theorem ok_read_window (T : Txt K mg) : Df P w K mg base "read_window" 4 ["signs"] (fun vs H Q _ => ∃ (a : Addr) (t : List Nat), vs = [.ref a] ∧ H a = some (.lst (vN t)) ∧ t.length ≤ 100000 ∧
    ∀ H' v, Same H H' → WinAt H' v (Vbexaa.windowOf t) → Q v H') := by
  have sc := sc_read_window
  have D_parted := ok_parted (P := P) (w := w) (base := base) T
  have D_number_told := ok_number_told (P := P) (w := w) (base := base) T
  have D_read_stretch := ok_read_stretch (P := P) (w := w) (base := base) T
  refine df_of T.f_read_window sc (fun vs H Q E h => ?_) (fun f cdv A outer s H vs Q E hr h => ?_)
  · obtain ⟨a, t, rfl, _⟩ := h
    rfl
  · obtain ⟨a, t, rfl, ha, hl, k⟩ := h
    refine ⟨_, (pss_cons (ps_set (i := 1) sc.nd rfl (Or.inl rfl) (pe_df D_parted hr.m rfl (pa_cons (pv 0) (pa_cons (pe_gc rfl T.c_COLON) pa_nil))))
      (pss_cons (ps_if (pt_cmpR op_ne (pe_callB call_len_seq (by rfl) T.b_len PySem.boot_len (pa_cons (pv 1) pa_nil)) pe_int (nomark _))
        (pss_one (ps_ret pe_non))
        pss_nil)
      (pss_cons (ps_set (i := 2) sc.nd rfl (Or.inl rfl) (pe_df D_read_stretch hr.m rfl (pa_cons (pe_ix ix_list (pv 1) pe_int (fun _ _ => rfl)) pa_nil)))
      (pss_cons (ps_set (i := 3) sc.nd rfl (Or.inl rfl) (pe_df D_number_told hr.m rfl (pa_cons (pe_ix ix_list (pv 1) pe_int (fun _ _ => rfl)) pa_nil)))
      (pss_cons (ps_if (PW.pt (pw_or (pt_cmpR op_isN (pv 2) pe_non (nomark _)) (pw_or1 (pt_cmpR op_isN (pv 3) pe_non (nomark _)))))
        (pss_one (ps_ret pe_non))
        pss_nil)
      (pss_cons (ps_if (PW.pt (pw_or (pt_cmpR op_lt (pv 3) pe_int (nomark _)) (pw_or1 (pt_cmpR op_gt (pv 3) (pe_gc rfl T.c_MOST_DAYS_UNDER_WAY) (nomark _)))))
        (pss_one (ps_ret pe_non))
        pss_nil)
      (pss_one (ps_ret (pe_tup (pa_cons (pe_ix ix_tup (pv 2) pe_int (fun _ _ => rfl)) (pa_cons (pe_ix ix_tup (pv 2) pe_int (fun _ _ => rfl)) (pa_cons (pv 3) pa_nil)))))))))))), ?_⟩
    refine ⟨_, rfl, a, t, 58, rfl, ha, hl, fun H1 p s1 hp L => ?_⟩
    obtain ⟨xs, hxs, hlen⟩ := L.len
    have no : ∀ {H' : Hp}, Same H H' → Vbexaa.windowOf t = none → Q .non H' := fun s e => k _ _ s (by rw [e]; rfl)
    refine ⟨_, rfl, p, _, rfl, .inl (SqL.of hxs), rfl, _, rfl, ite2 (fun h => ?_) (fun h => ?_)⟩
    · refine no s1 (window_no ?_)
      rw [← hlen]
      simp at h
      omega
    · have h2 : (Vbexaa.pieces 58 t).length = 2 := by
        rw [← hlen]
        simp at h
        omega
      obtain ⟨ta, tb, e2⟩ := list_two h2
      have ml := mem_two e2
      rw [e2] at L
      obtain ⟨x, y, hp2, hx, hy⟩ := L.two
      have sp := window_yes e2
      refine ⟨_, rfl, p, _, _, _, rfl, rfl, SqL.of hp2, at_of (j := 0) rfl rfl, x, ta, rfl, hx, by omega, fun H2 v2 s2 hv2 => ?_⟩
      refine ⟨_, rfl, p, _, _, _, rfl, rfl, SqL.of (s2 _ _ hp2), at_of (j := 1) rfl rfl, y, tb, rfl, s2 _ _ hy, fun H3 s3 => ?_⟩
      have s13 := (s1.trans s2).trans s3
      cases ea : Vbexaa.spanOf ta with
      | none =>
        rw [ea] at sp hv2
        obtain rfl : v2 = .non := hv2
        exact ⟨_, rfl, rfl, _, rfl, iteT (iteT (no s13 sp))⟩
      | some n =>
        rw [ea] at hv2
        obtain ⟨q2, rfl, hq2⟩ := hv2
        have hq3 := s3 _ _ hq2
        refine ⟨_, rfl, rfl, _, rfl, iteF ⟨_, rfl, rfl, _, rfl, ?_⟩⟩
        cases eb : Vbexaa.numberOf tb with
        | none =>
          rw [ea, eb] at sp
          exact iteT (no s13 sp)
        | some m =>
          rw [ea, eb] at sp
          dsimp only at sp
          refine iteF ?_
          refine ⟨_, rfl, _, _, rfl, rfl, _, rfl, ite2 (fun h3 => iteT (no s13 ?_)) (fun h3 => ⟨_, rfl, _, _, rfl, rfl, _, rfl, ite2 (fun h4 => no s13 ?_) (fun h4 => ?_)⟩)⟩
          · rw [sp, if_neg]
            simp at h3
            omega
          · rw [sp, if_neg]
            simp at h4
            omega
          · refine ⟨_, rfl, q2, _, _, _, rfl, rfl, SqT.of hq3, at_of (j := 0) rfl rfl, _, rfl, q2, _, _, _, rfl, rfl, SqT.of hq3, at_of (j := 1) rfl rfl, _, rfl, (by show 3 ≤ sizeLine; have := line_big; omega), fun q hq => k _ _ (s13.tr_new hq) ?_⟩
            rw [sp, if_pos (by simp at h3 h4; omega)]
            exact ⟨q, rfl, upd_same⟩
theorem allOf_cons (t : List Nat) (l : List (List Nat)) : Vbexaa.allOf Vbexaa.windowOf (t :: l) = match Vbexaa.windowOf t, Vbexaa.allOf Vbexaa.windowOf l with
    | some y, some r => some (y :: r)
    | _, _ => none := by
  rw [Vbexaa.allOf]
  cases Vbexaa.windowOf t <;> cases Vbexaa.allOf Vbexaa.windowOf l <;> rfl
theorem allOf_app : ∀ (l m : List (List Nat)), Vbexaa.allOf Vbexaa.windowOf (l ++ m) = match Vbexaa.allOf Vbexaa.windowOf l, Vbexaa.allOf Vbexaa.windowOf m with
    | some x, some y => some (x ++ y)
    | _, _ => none
  | [], m => by
    show Vbexaa.allOf Vbexaa.windowOf m = _
    cases Vbexaa.allOf Vbexaa.windowOf m <;> rfl
  | t :: l, m => by
    show Vbexaa.allOf Vbexaa.windowOf (t :: (l ++ m)) = _
    rw [allOf_cons, allOf_cons, allOf_app l m]
    cases Vbexaa.windowOf t <;> cases Vbexaa.allOf Vbexaa.windowOf l <;> cases Vbexaa.allOf Vbexaa.windowOf m <;> rfl
theorem allOf_len : ∀ {l : List (List Nat)} {r : List Vbexaa.Window}, Vbexaa.allOf Vbexaa.windowOf l = some r → r.length = l.length
  | [], r, h => by
    have q := Option.some.inj h
    subst q
    rfl
  | t :: l, r, h => by
    rw [allOf_cons] at h
    split at h
    · rename_i y s h1 h2
      have q := Option.some.inj h
      subst q
      rw [List.length_cons, List.length_cons, allOf_len h2]
    · cases h
theorem ok_read_windows (T : Txt K mg) : Df P w K mg base "read_windows" 5 ["signs"] (fun vs H Q _ => ∃ (a : Addr) (t : List Nat), vs = [.ref a] ∧ H a = some (.lst (vN t)) ∧ t.length ≤ 100000 ∧
    ∀ H' v, Same H H' → WinsAt H' v (Vbexaa.windowsOf t) → Q v H') := by
  have sc := sc_read_windows
  have D_parted := ok_parted (P := P) (w := w) (base := base) T
  have D_read_window := ok_read_window (P := P) (w := w) (base := base) T
  refine df_of T.f_read_windows sc (fun vs H Q E h => ?_) (fun f cdv A outer s H vs Q E hr h => ?_)
  · obtain ⟨a, t, rfl, _⟩ := h
    rfl
  · obtain ⟨a, t, rfl, ha, hl, k⟩ := h
    refine ⟨_, (pss_cons (ps_set (i := 1) sc.nd rfl (Or.inl rfl) (pe_df D_parted hr.m rfl (pa_cons (pv 0) (pa_cons (pe_gc rfl T.c_COMMA) pa_nil))))
      (pss_cons (ps_if (pt_cmpR op_gt (pe_callB call_len_seq (by rfl) T.b_len PySem.boot_len (pa_cons (pv 1) pa_nil)) (pe_gc rfl T.c_MOST_WINDOWS) (nomark _))
        (pss_one (ps_ret pe_non))
        pss_nil)
      (pss_cons (ps_set (i := 2) sc.nd rfl (Or.inl rfl) (pe_lst pa_nil))
      (pss_cons (ps_for PassesOwn.never rfl (pi_list (pv 1)) (pg_name (i := 3) sc.nd rfl (Or.inl rfl))
        (pss_cons (ps_set (i := 4) sc.nd rfl (Or.inl rfl) (pe_df D_read_window hr.m rfl (pa_cons (pv 3) pa_nil)))
        (pss_cons (ps_if (pt_cmpR op_isN (pv 4) pe_non (nomark _))
          (pss_one (ps_ret pe_non))
          pss_nil)
        (pss_one (ps_expr (pe_bm PySem.F.plainAttrs_list PySem.F.slot_list_append PySem.F.type_list_append mt_append (pv 2) (pa_cons (pv 4) pa_nil)))))))
      (pss_one (ps_ret (pv 2))))))), ?_⟩
    refine ⟨_, rfl, a, t, 44, rfl, ha, hl, fun H1 p s1 hp L => ?_⟩
    have no : ∀ {H' : Hp}, Same H H' → Vbexaa.windowsOf t = none → Q .non H' := fun s e => k _ _ s (by rw [e]; rfl)
    have hsm := pieces_small 44 t
    obtain ⟨as, h1, h2⟩ := L
    have hlen := paired_len h2
    refine ⟨_, rfl, p, _, rfl, .inl (SqL.of h1), _, _, rfl, rfl, _, rfl, ite2 (fun h => ?_) (fun h => ?_)⟩
    · refine no s1 ?_
      rw [List.length_map, hlen, decide_eq_true_eq] at h
      unfold Vbexaa.windowsOf
      cases e : Vbexaa.allOf Vbexaa.windowOf (Vbexaa.pieces 44 t) with
      | none => rfl
      | some r =>
        dsimp only
        rw [if_neg]
        rw [allOf_len e]
        unfold Vbexaa.WINDOWS
        omega
    · rw [List.length_map, hlen, decide_eq_true_eq] at h
      have h6 : (Vbexaa.pieces 44 t).length ≤ 6 := by omega
      refine ⟨Nat.zero_le _, fun d hd => ?_⟩
      have hdn : H d = none := s1.free hd
      have dn : ∀ {b : Addr} {o : HO}, H1 b = some o → b ≠ d := fun e => ne_of_none e hd
      refine ⟨_, rfl, p, rfl, ⟨_, SqL.of ((Same.new hd) _ _ h1)⟩, for_list (K := K) (a := p) (xs := as.map V.ref) (fun i σ H' => ∃ v4 v5 bs r, σ = [some (.ref a), some (.ref p), some (.ref d), v4, v5] ∧ Same H1 H' ∧ H' d = some (.lst (bs.map V.ref)) ∧
          Paired (fun b (x : Vbexaa.Window) => H' b = some (.tup (vN [x.first, x.last, x.days]))) bs r ∧ Vbexaa.allOf Vbexaa.windowOf ((Vbexaa.pieces 44 t).take i) = some r)
        ⟨none, none, [], [], rfl, Same.new hd, upd_same, .nil, rfl⟩ (fun i σ H' _ ⟨_, _, _, _, _, s5, _⟩ => SqL.of (s5 _ _ h1)) ?_ ?_⟩
      · rintro i y σ H' hi ⟨v4, v5, bs, r, rfl, s5, hd', hb, hr'⟩
        obtain ⟨b, hbi, rfl⟩ := refs_of hi
        obtain ⟨u, hu, hub⟩ := Paired.getL h2 hbi
        have hule : u.length ≤ 100000 := Nat.le_trans (hsm u (List.mem_of_getElem? hu)) hl
        refine ⟨_, rfl, b, u, rfl, s5 _ _ hub, hule, fun H2 v2 s2 hv2 => ?_⟩
        have s12 := (s1.trans s5).trans s2
        have tk := take_one hu
        have ap := allOf_app ((Vbexaa.pieces 44 t).take i) [u]
        rw [← tk, hr', allOf_cons] at ap
        cases eu : Vbexaa.windowOf u with
        | none =>
          rw [eu] at hv2 ap
          obtain rfl : v2 = .non := hv2
          refine ⟨_, rfl, rfl, _, rfl, iteT (no s12 ?_)⟩
          have whole := allOf_app ((Vbexaa.pieces 44 t).take (i + 1)) ((Vbexaa.pieces 44 t).drop (i + 1))
          rw [List.take_append_drop, ap] at whole
          unfold Vbexaa.windowsOf
          rw [whole]
        | some x =>
          rw [eu] at hv2 ap
          obtain ⟨q2, rfl, hq2⟩ := hv2
          have hrl : r.length ≤ 6 := by
            rw [allOf_len hr', List.length_take]
            omega
          have hbl := paired_len hb
          refine ⟨_, rfl, rfl, _, rfl, iteF ⟨_, rfl, .inl ⟨rfl, _, SqL.of (s2 _ _ hd')⟩, _, rfl, d, _, _, rfl, rfl, s2 _ _ hd', ?_, ?_⟩⟩
          · have := line_big
            rw [List.length_map]
            omega
          · refine ⟨_, _, bs ++ [q2], r ++ [x], rfl, (s5.trans s2).upd hd, by rw [upd_same, List.map_append]; rfl, Paired.app (Paired.same hb fun c z e => ?_) (Paired.one ?_), ap⟩
            · rw [upd_ne (ne_of (s2 _ _ e) (s2 _ _ hd') (by intro z; cases z))]
              exact s2 _ _ e
            · rw [upd_ne (ne_of hq2 (s2 _ _ hd') (by intro z; cases z))]
              exact hq2
      · rintro σ H' ⟨v4, v5, bs, r, rfl, s5, hd', hb, hr'⟩
        rw [List.length_map, hlen, List.take_length] at hr'
        refine ⟨_, rfl, k _ _ (s1.trans s5) ?_⟩
        have e : Vbexaa.windowsOf t = some r := by
          unfold Vbexaa.windowsOf
          rw [hr']
          dsimp only
          rw [if_pos]
          rw [allOf_len hr']
          exact h6
        rw [e]
        exact ⟨d, rfl, bs, hd', hb⟩
theorem ok_is_note (T : Txt K mg) : Df P w K mg base "is_note" 2 ["signs"] (fun vs H Q _ => ∃ (a : Addr) (t : List Nat), vs = [.ref a] ∧ H a = some (.lst (vN t)) ∧
    ∀ H', Same H H' → Q (.bl (decide (t = []) || (t.head? == some 35 && (decide (t.length ≤ 60) && t.all Vbexaa.isPlain)))) H') := by
  have sc := sc_is_note
  have D_are_plain := ok_are_plain (P := P) (w := w) (base := base) T
  refine df_of T.f_is_note sc (fun vs H Q E h => ?_) (fun f cdv A outer s H vs Q E hr h => ?_)
  · obtain ⟨a, t, rfl, _⟩ := h
    rfl
  · obtain ⟨a, t, rfl, ha, k⟩ := h
    refine ⟨_, (pss_cons (ps_if (pt_not (pt_truth (pv 0) (fun _ => rfl)))
        (pss_one (ps_ret pe_bl))
        pss_nil)
      (pss_one (ps_ret (pe_and (pe_cmpR op_eq (pe_ix ix_list (pv 0) pe_int (fun _ _ => rfl)) (pe_gc rfl T.c_HASH) (nomark _)) (pe_and (pe_cmpR op_le (pe_callB call_len_seq (by rfl) T.b_len PySem.boot_len (pa_cons (pv 0) pa_nil)) (pe_gc rfl T.c_MOST_NOTE_SIGNS) (nomark _)) (pe_one (pe_df D_are_plain hr.m rfl (pa_cons (pv 0) pa_nil)))))))), ?_⟩
    refine ⟨_, rfl, !(vN t).isEmpty, .inl ⟨_, SqL.of ha, rfl⟩, ite2 (fun h => ?_) (fun h => ?_)⟩
    · have e : t = [] := by
        cases t with
        | nil => rfl
        | cons _ _ => simp [vN] at h
      subst e
      exact k _ Same.rfl'
    · obtain ⟨c, r, rfl⟩ : ∃ c r, t = c :: r := by
        cases t with
        | nil => exact absurd rfl h
        | cons c r => exact ⟨c, r, rfl⟩
      refine ⟨_, rfl, a, _, _, _, rfl, rfl, SqL.of ha, at_of (j := 0) rfl rfl, rfl, _, rfl, ite2 (fun h1 => ⟨_, rfl, a, _, rfl, .inl (SqL.of ha), _, _, rfl, rfl, _, rfl, ite2 (fun h2 => ?_) (fun h2 => ?_)⟩) (fun h1 => ?_)⟩
      · have e1 : c = 35 := by
          simp at h1
          omega
        rw [vN_len, decide_eq_true_eq] at h2
        have h3 : (c :: r).length ≤ 60 := by omega
        refine ⟨_, rfl, a, c :: r, rfl, ha, by have := line_big; omega, fun H' s' => q_bl (Q := Q) ?_ (k _ s')⟩
        rw [e1] at h3 ⊢
        simp at h3
        simp [h3]
      · rw [vN_len, decide_eq_true_eq] at h2
        refine q_bl (Q := Q) ?_ (k _ Same.rfl')
        have h3 : ¬ (c :: r).length ≤ 60 := by omega
        simp at h3
        simp
        intro _ z
        omega
      · refine q_bl (Q := Q) ?_ (k _ Same.rfl')
        have e1 : c ≠ 35 := fun z => h1 (by rw [z]; simp)
        simp [e1]
end
end SL
end
section
namespace SL
open PySem PySem.Spec PyProof.Rows L2
def dNs (t : List Nat) : List PyData := t.map fun (n : Nat) => PyData.int (n : Int)
theorem dpAll_vN {K : PySem.W.Frag} {H : Hp} : ∀ t : List Nat, DpAll K H (vN t) (dNs t)
  | [] => .nil
  | n :: t => .cons (.int n) (dpAll_vN t)
theorem eqvAll_ns : ∀ t u : List Nat, PyData.eqvAll (dNs t) (dNs u) = decide (t = u)
  | [], [] => by rw [dNs, List.map_nil, PyData.eqvAll]; rfl
  | [], b :: u => by rw [dNs, List.map_nil, dNs, List.map_cons, PyData.eqvAll]; rfl
  | a :: t, [] => by rw [dNs, List.map_cons, dNs, List.map_nil, PyData.eqvAll]; rfl
  | a :: t, b :: u => by
    have ih := eqvAll_ns t u
    rw [dNs, List.map_cons, dNs, List.map_cons, PyData.eqvAll, PyData.eqv]
    unfold dNs at ih
    rw [ih]
    by_cases h1 : a = b
    · subst h1
      by_cases h2 : t = u <;> simp [h2]
    · have h3 : ¬ (a : Int) = (b : Int) := by omega
      simp [h1, h3]
theorem canLay_ns : ∀ t : List Nat, PyData.canLayAll0 (dNs t) = true
  | [] => by rw [dNs, List.map_nil, PyData.canLayAll0]
  | a :: t => by
    have ih := canLay_ns t
    rw [dNs, List.map_cons, PyData.canLayAll0, PyData.canLay0]
    exact ih
theorem depth_ns : ∀ t : List Nat, PyData.depthAll (dNs t) = 0
  | [] => by rw [dNs, List.map_nil, PyData.depthAll]
  | a :: t => by
    have ih := depth_ns t
    rw [dNs, List.map_cons, PyData.depthAll, PyData.depth]
    unfold dNs at ih
    rw [ih]
    rfl
def dT (t : List Nat) : PyData := .tuple (dNs t)
theorem shaped_l (t : List Nat) : SeqAt.shaped (.list (dNs t)) = true := by
  unfold SeqAt.shaped
  rw [PyData.canLay0, canLay_ns, PyData.depth, depth_ns]
  rfl
theorem canLay_t (t : List Nat) : (dT t).canLay0 = true := by rw [dT, PyData.canLay0, canLay_ns]
theorem depth_t (t : List Nat) : (dT t).depth = 1 := by rw [dT, PyData.depth, depth_ns]
theorem canLay_ts : ∀ ts : List (List Nat), PyData.canLayAll0 (ts.map dT) = true
  | [] => by rw [List.map_nil, PyData.canLayAll0]
  | a :: t => by rw [List.map_cons, PyData.canLayAll0, canLay_t, canLay_ts t]; rfl
theorem eqv_tt (t u : List Nat) : PyData.eqv (dT t) (dT u) = decide (t = u) := by rw [dT, dT, PyData.eqv, eqvAll_ns]
def TupsAt (H : Hp) (p : Addr) (ts : List (List Nat)) : Prop := ∃ as : List Addr, H p = some (.lst (as.map V.ref)) ∧ Paired (fun a t => H a = some (.tup (vN t))) as ts
theorem TupsAt.same {H H' : Hp} {p : Addr} {ts : List (List Nat)} (h : TupsAt H p ts) (s : Same H H') : TupsAt H' p ts := by
  obtain ⟨as, h1, h2⟩ := h
  exact ⟨as, s _ _ h1, Paired.same h2 fun a t e => s _ _ e⟩
theorem dp_tups {K : PySem.W.Frag} {H : Hp} : ∀ {as : List Addr} {ts : List (List Nat)}, Paired (fun a t => H a = some (.tup (vN t))) as ts → DpAll K H (as.map V.ref) (ts.map dT)
  | _, _, .nil => .nil
  | _, _, .cons r t => .cons (.tup (SqT.of r) (dpAll_vN _)) (dp_tups t)
theorem any_tt (ts : List (List Nat)) (t : List Nat) : ((ts.map dT).any fun y => PyData.eqv y (dT t)) = decide (t ∈ ts) := by
  rw [List.any_map]
  induction ts with
  | nil => rfl
  | cons u ts ih =>
    rw [List.any_cons, ih]
    show (PyData.eqv (dT u) (dT t) || _) = _
    rw [eqv_tt]
    by_cases h : u = t
    · subst h
      simp
    · have h' : ¬ t = u := fun z => h z.symm
      simp [h, h']
section
variable {X : Cx}
def rEqL (K : PySem.W.Frag) : R2 := fun x y H Q => ∃ a b t u, x = .ref a ∧ y = .ref b ∧ SqL K H a (vN t) ∧ SqL K H b (vN u) ∧ Q (.bl (decide (t = u))) H
theorem op_eqL (hu : X.A.units + 64 < cLine) : OpR X (compareOp .Eq) (rEqL X.K) := by
  intro pins s σ H x y v u Q I rx ry h
  obtain ⟨a, b, t, z, rfl, rfl, h1, h2, q⟩ := h
  refine op_eqD hu pins s σ H _ _ v u Q I rx ry ⟨_, _, .lst h1 (dpAll_vN t), .lst h2 (dpAll_vN z), shaped_l t, shaped_l z, ?_⟩
  rw [PyData.eqv, eqvAll_ns]
  exact q
def rInT (neg : Bool) : R2 := fun x y H Q => ∃ a p t ts, x = .ref a ∧ y = .ref p ∧ H a = some (.tup (vN t)) ∧ TupsAt H p ts ∧ Q (.bl (if neg = true then !decide (t ∈ ts) else decide (t ∈ ts))) H
theorem op_in_tups (hu : X.A.units + 64 < cLine) : OpR X (compareOp .In) (rInT false) := by
  intro pins s σ H x y v u Q I rx ry h
  obtain ⟨a, p, t, ts, rfl, rfl, h1, ⟨as, h2, h3⟩, q⟩ := h
  obtain ⟨as1, r1⟩ := Dp.reads I (dT t) _ v (.tup (SqT.of h1) (dpAll_vN t)) rx
  obtain ⟨as2, r2⟩ := Dp.reads I (.list (ts.map dT)) _ u (.lst (SqL.of h2) (dp_tups h3)) ry
  refine SeqAt.in_list_reads r2 r1 (canLay_ts ts) (canLay_t t) ?_ ⟨.bl _, H, I, rfl, ?_⟩
  · rw [depth_t]
    have := Nat.min_le_right (PyData.depthAll (ts.map dT)) 1
    omega
  · rw [any_tt]
    exact q
theorem op_notIn_tups (hu : X.A.units + 64 < cLine) : OpR X (compareOp .NotIn) (rInT true) := by
  intro pins s σ H x y v u Q I rx ry h
  obtain ⟨a, p, t, ts, rfl, rfl, h1, ⟨as, h2, h3⟩, q⟩ := h
  obtain ⟨as1, r1⟩ := Dp.reads I (dT t) _ v (.tup (SqT.of h1) (dpAll_vN t)) rx
  obtain ⟨as2, r2⟩ := Dp.reads I (.list (ts.map dT)) _ u (.lst (SqL.of h2) (dp_tups h3)) ry
  refine SeqAt.notIn_list_reads r2 r1 (canLay_ts ts) (canLay_t t) ?_ ⟨.bl _, H, I, rfl, ?_⟩
  · rw [depth_t]
    have := Nat.min_le_right (PyData.depthAll (ts.map dT)) 1
    omega
  · rw [any_tt]
    exact q
def rIdxT : V → List V → Hp → VK → Prop := fun x xs H Q => ∃ a p t ts, x = .ref p ∧ xs = [.ref a] ∧ H a = some (.tup (vN t)) ∧ TupsAt H p ts ∧ t ∈ ts ∧ Q (.int ((ts.findIdx fun m => m == t : Nat) : Int)) H
theorem mt_index_tups (hu : X.A.units + 64 < cLine) : MtR X "list.index" rIdxT := by
  intro pins s σ H x xs v us Q I rx rxs h
  obtain ⟨a, p, t, ts, rfl, rfl, h1, ⟨as, h2, h3⟩, hm, q⟩ := h
  cases rxs with
  | cons ry rt =>
    rename_i uy ut
    cases rt
    obtain ⟨as1, r1⟩ := Dp.reads I (dT t) _ uy (.tup (SqT.of h1) (dpAll_vN t)) ry
    obtain ⟨as2, r2⟩ := Dp.reads I (.list (ts.map dT)) _ v (.lst (SqL.of h2) (dp_tups h3)) rx
    cases rx
    obtain ⟨its, rv, ⟨⟨cls, dd, data, sl⟩, n, ho, hc, hdn, hd⟩, hlen⟩ := I.list (SqL.of h2)
    simp only at hc hd
    subst hc hd
    cases r2 with
    | list g1 g2 g3 g4 =>
      rw [ho] at g1
      have g1' := Option.some.inj g1
      subst g1'
      have g3' : Data.seq its.toArray n = Data.seq _ _ := g3
      injection g3' with g5 g6
      subst g5
      have hj : (ts.findIdx fun m => m == t) < ts.length := List.findIdx_lt_length_of_exists ⟨t, hm, by simp⟩
      have hvl := rv.length
      have hpl := paired_len h3
      have hmap := SeqAt.readsAll_map _ _ _ (canLay_ts ts) g4
      have hsl := sizeLine_eq
      have hil : its.length = ts.length := by rw [← hvl, List.length_map, hpl]
      have hjs : (ts.findIdx fun m => m == t) < its.toArray.size := by simp; omega
      have at_ : ∀ (m : Nat) (hm' : m < its.toArray.size), PyData.eqv (SeqAt.readOf s.heap its.toArray[m]) (dT t) = decide (ts[m]'(by simp at hm'; omega) = t) := fun m hm' => by
        have hm2 : m < its.length := by simpa using hm'
        have e : (its.map (SeqAt.readOf s.heap))[m]? = (ts.map dT)[m]? := by
          have hmap' : its.map (SeqAt.readOf s.heap) = ts.map dT := by simpa using hmap
          rw [hmap']
        rw [List.getElem?_map, List.getElem?_map, List.getElem?_eq_getElem hm2, List.getElem?_eq_getElem (by omega)] at e
        have e' := Option.some.inj e
        have e2 : its.toArray[m] = its[m] := by simp
        rw [e2, e', eqv_tt]
      refine call_meets PySem.F.slot_list_index ⟨_, ho, rfl⟩ PySem.F.entry_list_index (PySem.F.args_list_index_2 _ _)
        (SeqAt.list_indexAt p its.toArray n dd sl uy (fun y => PyData.eqv (SeqAt.readOf s.heap y) (dT t)) (ts.findIdx fun m => m == t) hjs (by omega) ?_ ?_) ⟨ho, SeqAt.items_eqAt g4 r1 (canLay_ts ts) (canLay_t t) ?_, ?_⟩
      · rw [at_ _ hjs]
        have := List.findIdx_getElem (xs := ts) (p := fun m => m == t) (w := hj)
        simpa using this
      · intro m hm' hlt
        rw [at_ m hm']
        have := List.not_of_lt_findIdx hlt
        simpa using this
      · rw [depth_t]
        have := Nat.min_le_right (PyData.depthAll (ts.map dT)) 1
        omega
      · exact ⟨.int _, H, I.tok _, ⟨_, rfl⟩, q⟩
end
end SL
end
section
namespace SL
open PySem PySem.Spec PyProof.Rows L2
def lnF (s k n w st : V) : List (Str × V) := [("signs", s), ("kind", k), ("names", n), ("windows", w), ("stretch", st)]
def kindOf : Vbexaa.Line → Nat
  | .place _ => 80
  | .leg both _ _ _ => if both = true then 66 else 76
  | .nostay _ _ _ => 78
  | .note _ => 35
def namesOf : Vbexaa.Line → List (List Nat)
  | .place n => [n]
  | .leg _ a b _ => [a, b]
  | .nostay n _ _ => [n]
  | .note _ => []
def winsOf : Vbexaa.Line → List Vbexaa.Window
  | .leg _ _ _ w => w
  | _ => []
def strOf : Vbexaa.Line → Option (Nat × Nat)
  | .nostay _ a b => some (a, b)
  | _ => none
def LineAt (C : Addr) (H : Hp) (a : Addr) (x : Vbexaa.Line) : Prop := ∃ dx s n w st, H a = some (.ins C dx (lnF (.ref s) (.int (kindOf x)) (.ref n) (.ref w) st)) ∧ H s = some (.lst (vN (Vbexaa.shownLine x))) ∧
  TupsAt H n (namesOf x) ∧ WsAt H w (winsOf x) ∧ StrAt H st (strOf x) ∧ LineOk x ∧ (Vbexaa.shownLine x).length ≤ 100000
theorem LineAt.same {C : Addr} {H H' : Hp} {a : Addr} {x : Vbexaa.Line} (h : LineAt C H a x) (z : Same H H') : LineAt C H' a x := by
  obtain ⟨dx, s, n, w, st, h1, h2, h3, h4, h5, h6⟩ := h
  exact ⟨dx, s, n, w, st, z _ _ h1, z _ _ h2, h3.same z, h4.same z, h5.same z, h6⟩
def LineO (C : Addr) (H : Hp) (v : V) : Option Vbexaa.Line → Prop
  | none => v = .non
  | some x => ∃ a, v = .ref a ∧ LineAt C H a x
section
variable {P : Program} {w : World} {K : PySem.W.Frag} {mg : Str → Option Value} {base : Heap}
def spLine (C : Addr) : Sp := fun vs H Q _ => ∃ (p dx : Addr) (s k n w st : V), vs = [.ref p, s, k, n, w, st] ∧ H p = some (.ins C dx []) ∧ ∀ H' : Hp, H' p = some (.ins C dx (lnF s k n w st)) → (∀ b o, H b = some o → b ≠ p → H' b = some o) → Q .non H'
theorem ok_Line (T : Txt K mg) : MkD P w K mg base "Line" 1 ["self", "signs", "kind", "names", "windows", "stretch"] (spLine (clsOf mg "Line")) := by
  have sc := sc_Line_init
  refine mk_of T.k_Line sc (fun vs H Q E h => ?_) (fun f cdv A outer s H vs Q E hr h => ?_)
  · obtain ⟨p, dx, s, k, n, w, st, rfl, _⟩ := h
    rfl
  · obtain ⟨p, dx, s, k, n, w, st, rfl, hp, kk⟩ := h
    refine ⟨_, (pss_cons (ps_fld (pv 0) (pv 1) rfl)
      (pss_cons (ps_fld (pv 0) (pv 2) rfl)
      (pss_cons (ps_fld (pv 0) (pv 3) rfl)
      (pss_cons (ps_fld (pv 0) (pv 4) rfl)
      (pss_one (ps_fld (pv 0) (pv 5) rfl)))))), ?_⟩
    refine ⟨_, rfl, _, rfl, p, _, dx, _, rfl, hp, T.k_Line.cl, T.n_Line_signs, (by decide), ?_⟩
    refine ⟨_, rfl, _, rfl, p, _, dx, _, rfl, upd_same, T.k_Line.cl, T.n_Line_kind, (by show 1 < 1000; decide), ?_⟩
    refine ⟨_, rfl, _, rfl, p, _, dx, _, rfl, upd_same, T.k_Line.cl, T.n_Line_names, (by show 2 < 1000; decide), ?_⟩
    refine ⟨_, rfl, _, rfl, p, _, dx, _, rfl, upd_same, T.k_Line.cl, T.n_Line_windows, (by show 3 < 1000; decide), ?_⟩
    refine ⟨_, rfl, _, rfl, p, _, dx, _, rfl, upd_same, T.k_Line.cl, T.n_Line_stretch, (by show 4 < 1000; decide), ?_⟩
    refine kk _ upd_same fun b o e hb => ?_
    rw [upd_ne hb, upd_ne hb, upd_ne hb, upd_ne hb, upd_ne hb]
    exact e
theorem mk_line {C : Addr} {H1 : Hp} {s k n w st : V} {Q : VK} (h : ∀ x dx H2, Same H1 H2 → H1 x = none → H2 x = some (.ins C dx (lnF s k n w st)) → Q (.ref x) H2) :
    ∀ x dx, H1 x = none → H1 dx = none → dx ≠ x → spLine C (.ref x :: ([s, k, n, w, st] ++ [])) (upd (upd H1 dx (.own x)) x (.ins C dx [])) (fun v H2 => v = .non ∧ Q (.ref x) H2) E0 := by
  intro x dx nx nd ne
  exact ⟨x, dx, s, k, n, w, st, rfl, upd_same, fun H2 e kp => ⟨rfl, h x dx H2 (Same.made nx nd kp) nx e⟩⟩
theorem read_note {t : List Nat} : (decide (t = []) || (t.head? == some 35 && (decide (t.length ≤ 60) && t.all Vbexaa.isPlain))) = true → Vbexaa.readLine t = some (.note t) := by
  intro h
  unfold Vbexaa.readLine
  by_cases e : t = []
  · subst e
    rfl
  · simp [e] at h
    rw [if_pos (.inr h.1), if_pos ⟨h.2.1, by simpa using h.2.2⟩]
theorem note_ok {t : List Nat} : (decide (t = []) || (t.head? == some 35 && (decide (t.length ≤ 60) && t.all Vbexaa.isPlain))) = true → LineOk (.note t) := by
  intro h
  exact (readLine_shown (read_note h)).2
theorem not_note {t : List Nat} (h : ¬ (decide (t = []) || (t.head? == some 35 && (decide (t.length ≤ 60) && t.all Vbexaa.isPlain))) = true) : t ≠ [] ∧ (t.head? = some 35 → Vbexaa.readLine t = none) := by
  have e : t ≠ [] := fun z => h (by rw [z]; rfl)
  refine ⟨e, fun z => ?_⟩
  unfold Vbexaa.readLine
  rw [if_pos (.inr z), if_neg]
  rintro ⟨h1, h2⟩
  exact h (by simp [z, h1, h2])
theorem first_sign {c : Nat} {r : List Nat} (h : ¬ c = 32) : ∃ w l, Vbexaa.pieces 32 (c :: r) = (c :: w) :: l := by
  obtain ⟨w, l, e⟩ := pieces_ne 32 r
  rw [Vbexaa.pieces, if_neg h, e]
  exact ⟨w, l, rfl⟩
theorem not_hash {t p : List Nat} {l : List (List Nat)} (e : Vbexaa.pieces 32 t = p :: l) (h : p.head? ≠ some 35) : t.head? ≠ some 35 := by
  intro z
  cases t with
  | nil => cases z
  | cons c r =>
    have hc : c = 35 := Option.some.inj z
    subst hc
    obtain ⟨w, l', e'⟩ := first_sign (c := 35) (r := r) (by decide)
    rw [e] at e'
    cases e'
    exact h rfl
def rdP : List (List Nat) → Option Vbexaa.Line
  | [n] => if Vbexaa.isName n = true then some (.place n) else none
  | _ => none
def rdLB (both : Bool) : List (List Nat) → Option Vbexaa.Line
  | [a, b, w] => if (Vbexaa.isName a && (Vbexaa.isName b && a != b)) = true then (Vbexaa.windowsOf w).map fun l => .leg both a b l else none
  | _ => none
def rdN : List (List Nat) → Option Vbexaa.Line
  | [n, s] => if Vbexaa.isName n = true then (Vbexaa.spanOf s).map fun x => .nostay n x.1 x.2 else none
  | _ => none
theorem read_P {t : List Nat} {l : List (List Nat)} (ht : t ≠ []) (e : Vbexaa.pieces 32 t = [80] :: l) : Vbexaa.readLine t = rdP l := by
  have h35 := not_hash e (by decide)
  unfold Vbexaa.readLine
  rw [if_neg (fun z => z.elim ht h35), e]
  match l with
  | [] => rfl
  | [n] => rfl
  | [_, _] => rfl
  | [_, _, _] => rfl
  | _ :: _ :: _ :: _ :: _ => rfl
theorem read_LB {t : List Nat} {l : List (List Nat)} {k : Nat} {both : Bool} (hk : k = if both = true then 66 else 76) (ht : t ≠ []) (e : Vbexaa.pieces 32 t = [k] :: l) : Vbexaa.readLine t = rdLB both l := by
  have h35 := not_hash e (by subst hk; cases both <;> decide)
  unfold Vbexaa.readLine
  rw [if_neg (fun z => z.elim ht h35), e]
  cases both
  · obtain rfl : k = 76 := hk
    match l with
    | [] => rfl
    | [n] => rfl
    | [_, _] => rfl
    | [_, _, _] => rfl
    | _ :: _ :: _ :: _ :: _ => rfl
  · obtain rfl : k = 66 := hk
    match l with
    | [] => rfl
    | [n] => rfl
    | [_, _] => rfl
    | [_, _, _] => rfl
    | _ :: _ :: _ :: _ :: _ => rfl
theorem read_N {t : List Nat} {l : List (List Nat)} (ht : t ≠ []) (e : Vbexaa.pieces 32 t = [78] :: l) : Vbexaa.readLine t = rdN l := by
  have h35 := not_hash e (by decide)
  unfold Vbexaa.readLine
  rw [if_neg (fun z => z.elim ht h35), e]
  match l with
  | [] => rfl
  | [n] => rfl
  | [_, _] => rfl
  | [_, _, _] => rfl
  | _ :: _ :: _ :: _ :: _ => rfl
theorem read_other {t p : List Nat} {l : List (List Nat)} (ht : t ≠ []) (h35 : t.head? ≠ some 35) (e : Vbexaa.pieces 32 t = p :: l) (h1 : p ≠ [80]) (h2 : p ≠ [76]) (h3 : p ≠ [66]) (h4 : p ≠ [78]) : Vbexaa.readLine t = none := by
  unfold Vbexaa.readLine
  rw [if_neg (fun z => z.elim ht h35), e]
  split
  · rename_i q
    cases q
    exact absurd rfl h1
  · rename_i q
    cases q
    exact absurd rfl h2
  · rename_i q
    cases q
    exact absurd rfl h3
  · rename_i q
    cases q
    exact absurd rfl h4
  · rfl
theorem LL.cons {H : Hp} {p : Addr} {a : List Nat} {l : List (List Nat)} (h : LL H p (a :: l)) : ∃ x as, H p = some (.lst ((x :: as).map V.ref)) ∧ H x = some (.lst (vN a)) ∧ Paired (fun a t => H a = some (.lst (vN t))) as l := by
  obtain ⟨as, h1, h2⟩ := h
  cases h2 with
  | cons r t => exact ⟨_, _, h1, r, t⟩
def spRead (C : Addr) (k : List Nat → Prop) : Sp := fun vs H Q _ => ∃ (a p : Addr) (t u : List Nat) (l : List (List Nat)), vs = [.ref a, .ref p] ∧ H a = some (.lst (vN t)) ∧ t.length ≤ 100000 ∧ t ≠ [] ∧ Vbexaa.pieces 32 t = u :: l ∧ k u ∧ LL H p (u :: l) ∧
    ∀ H' v, Same H H' → LineO C H' v (Vbexaa.readLine t) → Q v H'
theorem ok_read_place_line (T : Txt K mg) : Df P w K mg base "read_place_line" 4 ["signs", "fields"] (spRead (clsOf mg "Line") fun u => u = [80]) := by
  have sc := sc_read_place_line
  have D_is_name := ok_is_name (P := P) (w := w) (base := base) T
  have M_Line := ok_Line (P := P) (w := w) (base := base) T
  refine df_of T.f_read_place_line sc (fun vs H Q E h => ?_) (fun f cdv A outer s H vs Q E hr h => ?_)
  · obtain ⟨a, p, t, u, l, rfl, _⟩ := h
    rfl
  · obtain ⟨a, p, t, u, l, rfl, ha, hl, ht, e, rfl, L, k⟩ := h
    refine ⟨_, (pss_cons (ps_if (PW.pt (pw_or (pt_cmpR op_ne (pe_callB call_len_seq (by rfl) T.b_len PySem.boot_len (pa_cons (pv 1) pa_nil)) pe_int (nomark _)) (pw_or1 (pt_not (pt_truth (pe_df D_is_name hr.m rfl (pa_cons (pe_ix ix_list (pv 1) pe_int (fun _ _ => rfl)) pa_nil)) (fun _ => rfl))))))
        (pss_one (ps_ret pe_non))
        pss_nil)
      (pss_one (ps_ret (pe_mk M_Line hr.m rfl (pa_cons (pv 0) (pa_cons (pe_gc rfl T.c_PLACE) (pa_cons (pe_lst (pa_cons (pe_callTy call_tuple_of (by rfl) T.b_tuple PyProof.Rows.boot_tuple (pa_cons (pe_ix ix_list (pv 1) pe_int (fun _ _ => rfl)) pa_nil)) pa_nil)) (pa_cons (pe_lst pa_nil) (pa_cons pe_non pa_nil))))))))), ?_⟩
    have rd := read_P ht e
    have no : ∀ {H' : Hp}, Same H H' → Vbexaa.readLine t = none → Q .non H' := fun s e => k _ _ s (by rw [e]; rfl)
    obtain ⟨x, as, hp, hx, h2⟩ := L.cons
    have hlen := paired_len h2
    refine ⟨_, rfl, p, _, rfl, .inl (SqL.of hp), rfl, _, rfl, ite2 (fun h => iteT (no Same.rfl' ?_)) (fun h => ?_)⟩
    · rw [List.length_map, List.length_cons, hlen] at h
      rw [rd]
      match l with
      | [] => rfl
      | [n] => simp at h
      | _ :: _ :: _ => rfl
    · rw [List.length_map, List.length_cons, hlen] at h
      obtain ⟨n, rfl⟩ : ∃ n, l = [n] := by
        match l with
        | [] => simp at h
        | [n] => exact ⟨n, rfl⟩
        | _ :: _ :: _ =>
          simp at h
          omega
      cases h2 with
      | cons r1 tt =>
        cases tt
        rename_i y
        rw [rdP] at rd
        refine ⟨_, rfl, p, _, _, _, rfl, rfl, SqL.of hp, at_of (j := 1) rfl rfl, y, n, rfl, r1, fun H2 s2 => ⟨_, rfl, ite2 (fun h3 => no s2 ?_) (fun h3 => ?_)⟩⟩
        · rw [rd, if_neg]
          simpa using h3
        · have hn : Vbexaa.isName n = true := by simpa using h3
          rw [if_pos hn] at rd
          refine ⟨_, rfl, _, rfl, p, _, _, _, rfl, rfl, SqL.of (s2 _ _ hp), at_of (j := 1) rfl rfl, y, _, rfl, .inl ⟨SqL.of (s2 _ _ r1), fun q hq => ⟨(by show 1 ≤ sizeLine; have := line_big; omega), fun q2 hq2 => ⟨Nat.zero_le _, fun q3 hq3 => mk_line fun x dx H3 s3 nx hx3 => ?_⟩⟩⟩⟩
          have s23 := (((s2.tr_new hq).tr_new hq2).tr_new hq3).trans s3
          refine k _ _ s23 ?_
          rw [rd]
          have sh := readLine_shown rd
          have e1 := s3 _ _ (upd_same (H := upd (upd H2 q (HO.tup (vN n))) q2 (HO.lst [V.ref q])) (a := q3) (o := .lst []))
          have e2 := s3 _ _ (Same.new hq3 _ _ (upd_same (H := upd H2 q (HO.tup (vN n))) (a := q2) (o := HO.lst [V.ref q])))
          have e3 := s3 _ _ (Same.new hq3 _ _ (Same.new hq2 _ _ (upd_same (H := H2) (a := q) (o := HO.tup (vN n)))))
          refine ⟨x, rfl, dx, a, q2, q3, .non, hx3, ?_, ⟨[q], e2, Paired.one e3⟩, ⟨[], e1, .nil⟩, rfl, sh.2, by rw [sh.1]; exact hl⟩
          rw [sh.1]
          exact s23 _ _ ha
end
end SL
end
section
namespace SL
open PySem PySem.Spec PyProof.Rows L2
theorem head_of {t u : List Nat} {l : List (List Nat)} {c : Nat} (e : Vbexaa.pieces 32 t = (c :: u) :: l) : t[0]? = some c := by
  have j := joined_pieces 32 t
  rw [e] at j
  cases l with
  | nil =>
    have q : c :: u = t := j
    rw [← q]
    rfl
  | cons v l =>
    have q : c :: u ++ (32 :: Vbexaa.joinedBy 32 (v :: l)) = t := j
    rw [← q]
    rfl
section
variable {P : Program} {w : World} {K : PySem.W.Frag} {mg : Str → Option Value} {base : Heap}
theorem ok_read_leg_line (T : Txt K mg) : Df P w K mg base "read_leg_line" 6 ["signs", "fields"] (spRead (clsOf mg "Line") fun u => ∃ both : Bool, u = [if both = true then 66 else 76]) := by
  have sc := sc_read_leg_line
  have D_is_name := ok_is_name (P := P) (w := w) (base := base) T
  have D_read_windows := ok_read_windows (P := P) (w := w) (base := base) T
  have M_Line := ok_Line (P := P) (w := w) (base := base) T
  refine df_of T.f_read_leg_line sc (fun vs H Q E h => ?_) (fun f cdv A outer s H vs Q E hr h => ?_)
  · obtain ⟨a, p, t, u, l, rfl, _⟩ := h
    rfl
  · obtain ⟨a, p, t, u, l, rfl, ha, hl, ht, e, ⟨both, rfl⟩, L, k⟩ := h
    have hu := hr.units
    refine ⟨_, (pss_cons (ps_if (PW.pt (pw_or (pt_cmpR op_ne (pe_callB call_len_seq (by rfl) T.b_len PySem.boot_len (pa_cons (pv 1) pa_nil)) pe_int (nomark _)) (pw_or (pt_not (pt_truth (pe_df D_is_name hr.m rfl (pa_cons (pe_ix ix_list (pv 1) pe_int (fun _ _ => rfl)) pa_nil)) (fun _ => rfl))) (pw_or1 (pt_not (pt_truth (pe_df D_is_name hr.m rfl (pa_cons (pe_ix ix_list (pv 1) pe_int (fun _ _ => rfl)) pa_nil)) (fun _ => rfl)))))))
        (pss_one (ps_ret pe_non))
        pss_nil)
      (pss_cons (ps_if (pt_cmpR (op_eqL hu) (pe_ix ix_list (pv 1) pe_int (fun _ _ => rfl)) (pe_ix ix_list (pv 1) pe_int (fun _ _ => rfl)) (nomark _))
        (pss_one (ps_ret pe_non))
        pss_nil)
      (pss_cons (ps_set (i := 2) sc.nd rfl (Or.inl rfl) (pe_df D_read_windows hr.m rfl (pa_cons (pe_ix ix_list (pv 1) pe_int (fun _ _ => rfl)) pa_nil)))
      (pss_cons (ps_if (pt_cmpR op_isN (pv 2) pe_non (nomark _))
        (pss_one (ps_ret pe_non))
        pss_nil)
      (pss_one (ps_ret (pe_mk M_Line hr.m rfl (pa_cons (pv 0) (pa_cons (pe_ix ix_list (pv 0) pe_int (fun _ _ => rfl)) (pa_cons (pe_lst (pa_cons (pe_callTy call_tuple_of (by rfl) T.b_tuple PyProof.Rows.boot_tuple (pa_cons (pe_ix ix_list (pv 1) pe_int (fun _ _ => rfl)) pa_nil)) (pa_cons (pe_callTy call_tuple_of (by rfl) T.b_tuple PyProof.Rows.boot_tuple (pa_cons (pe_ix ix_list (pv 1) pe_int (fun _ _ => rfl)) pa_nil)) pa_nil))) (pa_cons (pv 2) (pa_cons pe_non pa_nil)))))))))))), ?_⟩
    have rd := read_LB rfl ht e
    have no : ∀ {H' : Hp}, Same H H' → Vbexaa.readLine t = none → Q .non H' := fun s e => k _ _ s (by rw [e]; rfl)
    have hsm := pieces_small 32 t
    rw [e] at hsm
    have h0 := head_of e
    obtain ⟨x, as, hp, hx, h2⟩ := L.cons
    have hlen := paired_len h2
    refine ⟨_, rfl, p, _, rfl, .inl (SqL.of hp), rfl, _, rfl, ite2 (fun h => iteT (no Same.rfl' ?_)) (fun h => ?_)⟩
    · rw [List.length_map, List.length_cons, hlen] at h
      rw [rd]
      match l with
      | [] => rfl
      | [_] => rfl
      | [_, _] => rfl
      | [_, _, _] => simp at h
      | _ :: _ :: _ :: _ :: _ => rfl
    · rw [List.length_map, List.length_cons, hlen] at h
      obtain ⟨n, m, ww, rfl⟩ : ∃ n m ww, l = [n, m, ww] := by
        match l with
        | [] => simp at h
        | [_] => simp at h
        | [_, _] => simp at h
        | [n, m, ww] => exact ⟨n, m, ww, rfl⟩
        | _ :: _ :: _ :: _ :: _ =>
          simp at h
          omega
      cases h2 with
      | cons r1 tt =>
        cases tt with
        | cons r2 tt =>
          cases tt with
          | cons r3 tt =>
            cases tt
            rename_i y1 y2 y3
            rw [rdLB] at rd
            refine ⟨_, rfl, p, _, _, _, rfl, rfl, SqL.of hp, at_of (j := 1) rfl rfl, y1, n, rfl, r1, fun H2 s2 => ⟨_, rfl, ite2 (fun h3 => iteT (no s2 ?_)) (fun h3 => ?_)⟩⟩
            · rw [rd, if_neg]
              have h4 : Vbexaa.isName n = false := by simpa using h3
              simp [h4]
            · have hn : Vbexaa.isName n = true := by simpa using h3
              refine ⟨_, rfl, p, _, _, _, rfl, rfl, SqL.of (s2 _ _ hp), at_of (j := 2) rfl rfl, y2, m, rfl, s2 _ _ r2, fun H3 s3 => ⟨_, rfl, ite2 (fun h4 => no (s2.trans s3) ?_) (fun h4 => ?_)⟩⟩
              · rw [rd, if_neg]
                have h5 : Vbexaa.isName m = false := by simpa using h4
                simp [h5]
              · have hm : Vbexaa.isName m = true := by simpa using h4
                have s23 := s2.trans s3
                refine ⟨_, rfl, p, _, _, _, rfl, rfl, SqL.of (s23 _ _ hp), at_of (j := 1) rfl rfl, _, rfl, p, _, _, _, rfl, rfl, SqL.of (s23 _ _ hp), at_of (j := 2) rfl rfl, y1, y2, n, m, rfl, rfl, SqL.of (s23 _ _ r1), SqL.of (s23 _ _ r2), _, rfl, ite2 (fun h5 => no s23 ?_) (fun h5 => ?_)⟩
                · rw [rd, if_neg]
                  have h6 : n = m := by simpa using h5
                  simp [h6]
                · have hnm : n ≠ m := by simpa using h5
                  rw [if_pos (by simp [hn, hm, hnm])] at rd
                  refine ⟨_, rfl, p, _, _, _, rfl, rfl, SqL.of (s23 _ _ hp), at_of (j := 3) rfl rfl, y3, ww, rfl, s23 _ _ r3, Nat.le_trans (hsm ww (by simp)) hl, fun H4 v4 s4 hv4 => ?_⟩
                  have s24 := s23.trans s4
                  cases ew : Vbexaa.windowsOf ww with
                  | none =>
                    rw [ew] at rd hv4
                    obtain rfl : v4 = .non := hv4
                    exact ⟨_, rfl, rfl, _, rfl, iteT (no s24 rd)⟩
                  | some ws =>
                    rw [ew] at rd hv4
                    obtain ⟨pw, rfl, hw⟩ := hv4
                    refine ⟨_, rfl, rfl, _, rfl, iteF ?_⟩
                    refine ⟨_, rfl, _, rfl, a, _, _, _, rfl, rfl, SqL.of (s24 _ _ ha), at_of (j := 0) rfl (vN_get h0), ?_⟩
                    refine ⟨_, rfl, p, _, _, _, rfl, rfl, SqL.of (s24 _ _ hp), at_of (j := 1) rfl rfl, y1, _, rfl, .inl ⟨SqL.of (s24 _ _ r1), fun q hq => ?_⟩⟩
                    have s5 := s24.tr_new (o := .tup (vN n)) hq
                    refine ⟨_, rfl, p, _, _, _, rfl, rfl, SqL.of (s5 _ _ hp), at_of (j := 2) rfl rfl, y2, _, rfl, .inl ⟨SqL.of (s5 _ _ r2), fun q2 hq2 => ⟨(by show 2 ≤ sizeLine; have := line_big; omega), fun q3 hq3 => ?_⟩⟩⟩
                    refine ⟨_, rfl, mk_line fun x dx H6 s6 nx hx6 => ?_⟩
                    have s26 := ((s5.tr_new hq2).tr_new hq3).trans s6
                    refine k _ _ s26 ?_
                    rw [rd]
                    have sh := readLine_shown rd
                    have e1 := s6 _ _ (upd_same (H := upd (upd H4 q (HO.tup (vN n))) q2 (HO.tup (vN m))) (a := q3) (o := .lst [V.ref q, V.ref q2]))
                    have e2 := s6 _ _ (Same.new hq3 _ _ (upd_same (H := upd H4 q (HO.tup (vN n))) (a := q2) (o := HO.tup (vN m))))
                    have e3 := s6 _ _ (Same.new hq3 _ _ (Same.new hq2 _ _ (upd_same (H := H4) (a := q) (o := HO.tup (vN n)))))
                    have s46 := (((Same.new (o := .tup (vN n)) hq).tr_new (o := .tup (vN m)) hq2).tr_new (o := .lst [V.ref q, V.ref q2]) hq3).trans s6
                    refine ⟨x, rfl, dx, a, q3, pw, .non, hx6, ?_, ⟨[q, q2], e1, .cons e3 (.cons e2 .nil)⟩, hw.same s46, rfl, sh.2, by rw [sh.1]; exact hl⟩
                    rw [sh.1]
                    exact s26 _ _ ha
theorem ok_read_no_stay_line (T : Txt K mg) : Df P w K mg base "read_no_stay_line" 4 ["signs", "fields"] (spRead (clsOf mg "Line") fun u => u = [78]) := by
  have sc := sc_read_no_stay_line
  have D_is_name := ok_is_name (P := P) (w := w) (base := base) T
  have D_read_stretch := ok_read_stretch (P := P) (w := w) (base := base) T
  have M_Line := ok_Line (P := P) (w := w) (base := base) T
  refine df_of T.f_read_no_stay_line sc (fun vs H Q E h => ?_) (fun f cdv A outer s H vs Q E hr h => ?_)
  · obtain ⟨a, p, t, u, l, rfl, _⟩ := h
    rfl
  · obtain ⟨a, p, t, u, l, rfl, ha, hl, ht, e, rfl, L, k⟩ := h
    refine ⟨_, (pss_cons (ps_if (PW.pt (pw_or (pt_cmpR op_ne (pe_callB call_len_seq (by rfl) T.b_len PySem.boot_len (pa_cons (pv 1) pa_nil)) pe_int (nomark _)) (pw_or1 (pt_not (pt_truth (pe_df D_is_name hr.m rfl (pa_cons (pe_ix ix_list (pv 1) pe_int (fun _ _ => rfl)) pa_nil)) (fun _ => rfl))))))
        (pss_one (ps_ret pe_non))
        pss_nil)
      (pss_cons (ps_set (i := 2) sc.nd rfl (Or.inl rfl) (pe_df D_read_stretch hr.m rfl (pa_cons (pe_ix ix_list (pv 1) pe_int (fun _ _ => rfl)) pa_nil)))
      (pss_cons (ps_if (pt_cmpR op_isN (pv 2) pe_non (nomark _))
        (pss_one (ps_ret pe_non))
        pss_nil)
      (pss_one (ps_ret (pe_mk M_Line hr.m rfl (pa_cons (pv 0) (pa_cons (pe_gc rfl T.c_NO_STAY) (pa_cons (pe_lst (pa_cons (pe_callTy call_tuple_of (by rfl) T.b_tuple PyProof.Rows.boot_tuple (pa_cons (pe_ix ix_list (pv 1) pe_int (fun _ _ => rfl)) pa_nil)) pa_nil)) (pa_cons (pe_lst pa_nil) (pa_cons (pv 2) pa_nil))))))))))), ?_⟩
    have rd := read_N ht e
    have no : ∀ {H' : Hp}, Same H H' → Vbexaa.readLine t = none → Q .non H' := fun s e => k _ _ s (by rw [e]; rfl)
    have hsm := pieces_small 32 t
    rw [e] at hsm
    obtain ⟨x, as, hp, hx, h2⟩ := L.cons
    have hlen := paired_len h2
    refine ⟨_, rfl, p, _, rfl, .inl (SqL.of hp), rfl, _, rfl, ite2 (fun h => iteT (no Same.rfl' ?_)) (fun h => ?_)⟩
    · rw [List.length_map, List.length_cons, hlen] at h
      rw [rd]
      match l with
      | [] => rfl
      | [_] => rfl
      | [_, _] => simp at h
      | _ :: _ :: _ :: _ => rfl
    · rw [List.length_map, List.length_cons, hlen] at h
      obtain ⟨n, m, rfl⟩ : ∃ n m, l = [n, m] := by
        match l with
        | [] => simp at h
        | [_] => simp at h
        | [n, m] => exact ⟨n, m, rfl⟩
        | _ :: _ :: _ :: _ =>
          simp at h
          omega
      cases h2 with
      | cons r1 tt =>
        cases tt with
        | cons r2 tt =>
          cases tt
          rename_i y1 y2
          rw [rdN] at rd
          refine ⟨_, rfl, p, _, _, _, rfl, rfl, SqL.of hp, at_of (j := 1) rfl rfl, y1, n, rfl, r1, fun H2 s2 => ⟨_, rfl, ite2 (fun h3 => no s2 ?_) (fun h3 => ?_)⟩⟩
          · rw [rd, if_neg]
            have h4 : Vbexaa.isName n = false := by simpa using h3
            simp [h4]
          · have hn : Vbexaa.isName n = true := by simpa using h3
            rw [if_pos hn] at rd
            refine ⟨_, rfl, p, _, _, _, rfl, rfl, SqL.of (s2 _ _ hp), at_of (j := 2) rfl rfl, y2, m, rfl, s2 _ _ r2, Nat.le_trans (hsm m (by simp)) hl, fun H4 v4 s4 hv4 => ?_⟩
            have s24 := s2.trans s4
            cases ew : Vbexaa.spanOf m with
            | none =>
              rw [ew] at rd hv4
              obtain rfl : v4 = .non := hv4
              exact ⟨_, rfl, rfl, _, rfl, iteT (no s24 rd)⟩
            | some ws =>
              rw [ew] at rd hv4
              obtain ⟨pw, rfl, hw⟩ := hv4
              refine ⟨_, rfl, rfl, _, rfl, iteF ?_⟩
              refine ⟨_, rfl, _, rfl, p, _, _, _, rfl, rfl, SqL.of (s24 _ _ hp), at_of (j := 1) rfl rfl, y1, _, rfl, .inl ⟨SqL.of (s24 _ _ r1), fun q hq => ⟨(by show 1 ≤ sizeLine; have := line_big; omega), fun q2 hq2 => ⟨Nat.zero_le _, fun q3 hq3 => ?_⟩⟩⟩⟩
              refine ⟨_, rfl, mk_line fun x dx H6 s6 nx hx6 => ?_⟩
              have s46 := (((Same.new (o := .tup (vN n)) hq).tr_new (o := .lst [V.ref q]) hq2).tr_new (o := .lst []) hq3).trans s6
              have s26 := s24.trans s46
              refine k _ _ s26 ?_
              rw [rd]
              have sh := readLine_shown rd
              have e1 := s6 _ _ (upd_same (H := upd (upd H4 q (HO.tup (vN n))) q2 (HO.lst [V.ref q])) (a := q3) (o := .lst []))
              have e2 := s6 _ _ (Same.new hq3 _ _ (upd_same (H := upd H4 q (HO.tup (vN n))) (a := q2) (o := HO.lst [V.ref q])))
              have e3 := s6 _ _ (Same.new hq3 _ _ (Same.new hq2 _ _ (upd_same (H := H4) (a := q) (o := HO.tup (vN n)))))
              refine ⟨x, rfl, dx, a, q2, q3, .ref pw, hx6, ?_, ⟨[q], e2, Paired.one e3⟩, ⟨[], e1, .nil⟩, ⟨pw, rfl, s46 _ _ hw⟩, sh.2, by rw [sh.1]; exact hl⟩
              rw [sh.1]
              exact s26 _ _ ha
def spReadLine (C : Addr) : Sp := fun vs H Q _ => ∃ (a : Addr) (t : List Nat), vs = [.ref a] ∧ H a = some (.lst (vN t)) ∧ t.length ≤ 100000 ∧ ∀ H' v, Same H H' → LineO C H' v (Vbexaa.readLine t) → Q v H'
theorem ok_read_line (T : Txt K mg) : Df P w K mg base "read_line" 7 ["signs"] (spReadLine (clsOf mg "Line")) := by
  have sc := sc_read_line
  have D_is_note := ok_is_note (P := P) (w := w) (base := base) T
  have D_parted := ok_parted (P := P) (w := w) (base := base) T
  have D_read_place_line := ok_read_place_line (P := P) (w := w) (base := base) T
  have D_read_leg_line := ok_read_leg_line (P := P) (w := w) (base := base) T
  have D_read_no_stay_line := ok_read_no_stay_line (P := P) (w := w) (base := base) T
  have M_Line := ok_Line (P := P) (w := w) (base := base) T
  refine df_of T.f_read_line sc (fun vs H Q E h => ?_) (fun f cdv A outer s H vs Q E hr h => ?_)
  · obtain ⟨a, t, rfl, _⟩ := h
    rfl
  · obtain ⟨a, t, rfl, ha, hl, k⟩ := h
    have hu := hr.units
    refine ⟨_, (pss_cons (ps_if (pt_truth (pe_df D_is_note hr.m rfl (pa_cons (pv 0) pa_nil)) (fun _ => rfl))
        (pss_one (ps_ret (pe_mk M_Line hr.m rfl (pa_cons (pv 0) (pa_cons (pe_gc rfl T.c_NOTE) (pa_cons (pe_lst pa_nil) (pa_cons (pe_lst pa_nil) (pa_cons pe_non pa_nil))))))))
        pss_nil)
      (pss_cons (ps_set (i := 1) sc.nd rfl (Or.inl rfl) (pe_df D_parted hr.m rfl (pa_cons (pv 0) (pa_cons (pe_gc rfl T.c_BLANK) pa_nil))))
      (pss_cons (ps_if (pt_cmpR (op_eqL hu) (pe_ix ix_list (pv 1) pe_int (fun _ _ => rfl)) (pe_lst (pa_cons (pe_gc rfl T.c_PLACE) pa_nil)) (nomark _))
        (pss_one (ps_ret (pe_df D_read_place_line hr.m rfl (pa_cons (pv 0) (pa_cons (pv 1) pa_nil)))))
        pss_nil)
      (pss_cons (ps_if (PW.pt (pw_or (pt_cmpR (op_eqL hu) (pe_ix ix_list (pv 1) pe_int (fun _ _ => rfl)) (pe_lst (pa_cons (pe_gc rfl T.c_ONE_WAY) pa_nil)) (nomark _)) (pw_or1 (pt_cmpR (op_eqL hu) (pe_ix ix_list (pv 1) pe_int (fun _ _ => rfl)) (pe_lst (pa_cons (pe_gc rfl T.c_BOTH_WAYS) pa_nil)) (nomark _)))))
        (pss_one (ps_ret (pe_df D_read_leg_line hr.m rfl (pa_cons (pv 0) (pa_cons (pv 1) pa_nil)))))
        pss_nil)
      (pss_cons (ps_if (pt_cmpR (op_eqL hu) (pe_ix ix_list (pv 1) pe_int (fun _ _ => rfl)) (pe_lst (pa_cons (pe_gc rfl T.c_NO_STAY) pa_nil)) (nomark _))
        (pss_one (ps_ret (pe_df D_read_no_stay_line hr.m rfl (pa_cons (pv 0) (pa_cons (pv 1) pa_nil)))))
        pss_nil)
      (pss_one (ps_ret pe_non))))))), ?_⟩
    have one : 1 ≤ sizeLine := by have := line_big; omega
    refine ⟨_, rfl, a, t, rfl, ha, fun H1 s1 => ⟨_, rfl, ite2 (fun h => ?_) (fun h => ?_)⟩⟩
    · refine ⟨_, rfl, ⟨Nat.zero_le _, fun q hq => ⟨Nat.zero_le _, fun q2 hq2 => mk_line fun x dx H3 s3 nx hx3 => ?_⟩⟩⟩
      have s13 := ((s1.tr_new hq).tr_new hq2).trans s3
      refine k _ _ s13 ?_
      rw [read_note h]
      have e1 := s3 _ _ (upd_same (H := upd H1 q (.lst [])) (a := q2) (o := .lst []))
      have e2 := s3 _ _ (Same.new hq2 _ _ (upd_same (H := H1) (a := q) (o := .lst [])))
      exact ⟨x, rfl, dx, a, q, q2, .non, hx3, s13 _ _ ha, ⟨[], e2, .nil⟩, ⟨[], e1, .nil⟩, rfl, note_ok h, hl⟩
    · obtain ⟨ht, hh⟩ := not_note h
      refine ⟨_, rfl, a, t, 32, rfl, s1 _ _ ha, hl, fun H2 p s2 hp L => ?_⟩
      have s12 := s1.trans s2
      obtain ⟨u, l, e⟩ := pieces_ne 32 t
      rw [e] at L
      obtain ⟨x, as, hp2, hx, h2⟩ := L.cons
      refine ⟨_, rfl, p, _, _, _, rfl, rfl, SqL.of hp2, at_of (j := 0) rfl rfl, one, fun q hq => ⟨x, q, u, [80], rfl, rfl, SqL.of (Same.new hq _ _ hx), SqL.of upd_same, _, rfl, ite2 (fun h3 => ?_) (fun h3 => ?_)⟩⟩
      · have s3 := s12.tr_new (o := .lst [.int 80]) hq
        have h4 : u = [80] := by simpa using h3
        exact ⟨_, rfl, _, rfl, a, p, t, u, l, rfl, s3 _ _ ha, hl, ht, e, h4, L.same (Same.new hq), fun H' v s' hv => k _ _ (s3.trans s') hv⟩
      · have s3 := s12.tr_new (o := .lst [.int 80]) hq
        have z3 := Same.new (o := .lst [.int 80]) hq
        have n80 : u ≠ [80] := by simpa using h3
        refine ⟨_, rfl, p, _, _, _, rfl, rfl, SqL.of (z3 _ _ hp2), at_of (j := 0) rfl rfl, one, fun q2 hq2 => ⟨x, q2, u, [76], rfl, rfl, SqL.of (Same.new hq2 _ _ (z3 _ _ hx)), SqL.of upd_same, _, rfl, ite2 (fun h4 => iteT ?_) (fun h4 => ?_)⟩⟩
        · have s4 := s3.tr_new (o := .lst [.int 76]) hq2
          have h5 : u = [76] := by simpa using h4
          exact ⟨_, rfl, _, rfl, a, p, t, u, l, rfl, s4 _ _ ha, hl, ht, e, ⟨false, h5⟩, (L.same z3).same (Same.new hq2), fun H' v s' hv => k _ _ (s4.trans s') hv⟩
        · have s4 := s3.tr_new (o := .lst [.int 76]) hq2
          have z4 := z3.tr_new (o := .lst [.int 76]) hq2
          have n76 : u ≠ [76] := by simpa using h4
          refine ⟨_, rfl, p, _, _, _, rfl, rfl, SqL.of (z4 _ _ hp2), at_of (j := 0) rfl rfl, one, fun q3 hq3 => ⟨x, q3, u, [66], rfl, rfl, SqL.of (Same.new hq3 _ _ (z4 _ _ hx)), SqL.of upd_same, _, rfl, ite2 (fun h5 => ?_) (fun h5 => ?_)⟩⟩
          · have s5 := s4.tr_new (o := .lst [.int 66]) hq3
            have h6 : u = [66] := by simpa using h5
            exact ⟨_, rfl, _, rfl, a, p, t, u, l, rfl, s5 _ _ ha, hl, ht, e, ⟨true, h6⟩, (L.same z4).same (Same.new hq3), fun H' v s' hv => k _ _ (s5.trans s') hv⟩
          · have s5 := s4.tr_new (o := .lst [.int 66]) hq3
            have z5 := z4.tr_new (o := .lst [.int 66]) hq3
            have n66 : u ≠ [66] := by simpa using h5
            refine ⟨_, rfl, p, _, _, _, rfl, rfl, SqL.of (z5 _ _ hp2), at_of (j := 0) rfl rfl, one, fun q4 hq4 => ⟨x, q4, u, [78], rfl, rfl, SqL.of (Same.new hq4 _ _ (z5 _ _ hx)), SqL.of upd_same, _, rfl, ite2 (fun h6 => ?_) (fun h6 => ?_)⟩⟩
            · have s6 := s5.tr_new (o := .lst [.int 78]) hq4
              have h7 : u = [78] := by simpa using h6
              exact ⟨_, rfl, _, rfl, a, p, t, u, l, rfl, s6 _ _ ha, hl, ht, e, h7, (L.same z5).same (Same.new hq4), fun H' v s' hv => k _ _ (s6.trans s') hv⟩
            · have s6 := s5.tr_new (o := .lst [.int 78]) hq4
              have n78 : u ≠ [78] := by simpa using h6
              refine k _ _ s6 ?_
              have rd : Vbexaa.readLine t = none := by
                by_cases h35 : t.head? = some 35
                · exact hh h35
                · exact read_other ht h35 e n80 n76 n66 n78
              rw [rd]
              rfl
end
end SL
end
section
namespace SL
open PySem PySem.Spec PyProof.Rows L2
def addOnce (acc : List (List Nat)) (n : List Nat) : List (List Nat) := if n ∈ acc then acc else acc ++ [n]
theorem once_fold : ∀ (l acc : List (List Nat)), l.foldl addOnce acc = acc ++ (Vbexaa.once l).filter fun y => decide (y ∉ acc)
  | [], acc => by simp [Vbexaa.once]
  | x :: l, acc => by
    rw [List.foldl_cons, once_fold l, Vbexaa.once]
    unfold addOnce
    by_cases h : x ∈ acc
    · rw [if_pos h, List.filter_cons, if_neg (by simp [h]), List.filter_filter]
      refine congrArg (acc ++ ·) (List.filter_congr fun y _ => ?_)
      by_cases hy : y ∈ acc
      · simp [hy]
      · have : y ≠ x := fun z => hy (z ▸ h)
        simp [hy, this]
    · rw [if_neg h, List.filter_cons, if_pos (by simp [h]), List.filter_filter, List.append_assoc]
      refine congrArg (acc ++ ·) ?_
      show x :: _ = x :: _
      refine congrArg (x :: ·) (List.filter_congr fun y _ => ?_)
      by_cases hy : y ∈ acc
      · simp [hy]
      · by_cases hx : y = x
        · simp [hx]
        · simp [hy, hx]
def placeOf : Vbexaa.Line → Option (List Nat)
  | .place n => some n
  | _ => none
theorem places_fm (l : List Vbexaa.Line) : Vbexaa.placesOf l = Vbexaa.once (l.filterMap placeOf) := by
  unfold Vbexaa.placesOf
  refine congrArg Vbexaa.once (congrArg (fun f => l.filterMap f) ?_)
  funext x
  cases x <;> rfl
theorem places_fold (l : List Vbexaa.Line) : (l.filterMap placeOf).foldl addOnce [] = Vbexaa.placesOf l := by
  rw [once_fold, places_fm, List.nil_append, List.filter_eq_self.mpr (by simp)]
theorem places_snoc (l : List Vbexaa.Line) (x : Vbexaa.Line) : Vbexaa.placesOf (l ++ [x]) = match placeOf x with
    | some n => addOnce (Vbexaa.placesOf l) n
    | none => Vbexaa.placesOf l := by
  rw [← places_fold, ← places_fold, List.filterMap_append]
  cases e : placeOf x with
  | none => simp [e]
  | some n => simp [e]
theorem places_len (l : List Vbexaa.Line) : (Vbexaa.placesOf l).length ≤ l.length := by
  rw [← places_fold]
  have h : ∀ (m acc : List (List Nat)), (m.foldl addOnce acc).length ≤ acc.length + m.length := by
    intro m
    induction m with
    | nil => intro acc; simp
    | cons x m ih =>
      intro acc
      rw [List.foldl_cons]
      refine Nat.le_trans (ih _) ?_
      unfold addOnce
      split
      · simp
      · simp
        omega
  refine Nat.le_trans (h _ _) ?_
  simp only [List.length_nil, Nat.zero_add]
  exact List.length_filterMap_le ..
def LinesAt (C : Addr) (H : Hp) (p : Addr) (ls : List Vbexaa.Line) : Prop := ∃ as : List Addr, H p = some (.lst (as.map V.ref)) ∧ Paired (LineAt C H) as ls
theorem LinesAt.same {C : Addr} {H H' : Hp} {p : Addr} {ls : List Vbexaa.Line} (h : LinesAt C H p ls) (s : Same H H') : LinesAt C H' p ls := by
  obtain ⟨as, h1, h2⟩ := h
  exact ⟨as, s _ _ h1, Paired.same h2 fun a t e => e.same s⟩
section
variable {P : Program} {w : World} {K : PySem.W.Frag} {mg : Str → Option Value} {base : Heap}
theorem ok_place_names (T : Txt K mg) : Df P w K mg base "place_names" 1 ["lines"] (fun vs H Q _ => ∃ (a : Addr) (ls : List Vbexaa.Line), vs = [.ref a] ∧ LinesAt (clsOf mg "Line") H a ls ∧ ls.length ≤ 100000 ∧
    ∀ H' p, Same H H' → H p = none → TupsAt H' p (Vbexaa.placesOf ls) → Q (.ref p) H') := by
  have sc := sc_place_names
  refine df_of T.f_place_names sc (fun vs H Q E h => ?_) (fun f cdv A outer s H vs Q E hr h => ?_)
  · obtain ⟨a, ls, rfl, _⟩ := h
    rfl
  · obtain ⟨a, ls, rfl, ⟨as, h1, h2⟩, hl, k⟩ := h
    have hu := hr.units
    have big := line_big
    refine ⟨_, (pss_cons (ps_set (i := 1) sc.nd rfl (Or.inl rfl) (pe_lst pa_nil))
      (pss_cons (ps_for PassesOwn.never rfl (pi_list (pv 0)) (pg_name (i := 2) sc.nd rfl (Or.inl rfl))
        (pss_one (ps_if (PW.pt (pw_and (pt_cmpR op_eq (pe_fld (pv 2) rfl) (pe_gc rfl T.c_PLACE) (nomark _)) (pw_and1 (pt_cmpR (op_notIn_tups hu) (pe_ix ix_list (pe_fld (pv 2) rfl) pe_int (fun _ _ => rfl)) (pv 1) (by with_unfolding_all rfl)))))
          (pss_one (ps_expr (pe_bm PySem.F.plainAttrs_list PySem.F.slot_list_append PySem.F.type_list_append mt_append (pv 1) (pa_cons (pe_ix ix_list (pe_fld (pv 2) rfl) pe_int (fun _ _ => rfl)) pa_nil))))
          pss_nil)))
      (pss_one (ps_ret (pv 1))))), ?_⟩
    refine ⟨Nat.zero_le _, fun p hp => ?_⟩
    refine ⟨_, rfl, a, rfl, ⟨_, SqL.of (Same.new hp _ _ h1)⟩, for_list (K := K) (a := a) (xs := as.map V.ref) (fun i σ H' => ∃ v, σ = [some (.ref a), some (.ref p), v] ∧ Same H H' ∧ TupsAt H' p (Vbexaa.placesOf (ls.take i)))
      ⟨none, rfl, Same.new hp, ⟨[], upd_same, .nil⟩⟩ (fun i σ H' _ ⟨_, _, s5, _⟩ => SqL.of (s5 _ _ h1)) ?_ ?_⟩
    · rintro i y σ H' hi ⟨v, rfl, s5, bs, h3, h4⟩
      obtain ⟨b, hb, rfl⟩ := refs_of hi
      obtain ⟨x, hx, dx, sa, na, wa, st, e1, e2, ⟨cs, e3, e3'⟩, _⟩ := Paired.getL h2 hb
      have tk := take_one hx
      have ps := places_snoc (ls.take i) x
      rw [← tk] at ps
      have f1 := s5 _ _ e1
      have T1 : TupsAt H' p (Vbexaa.placesOf (ls.take i)) := ⟨bs, h3, h4⟩
      refine ⟨_, rfl, b, _, dx, _, _, rfl, f1, T.k_Line.cl, T.n_Line_kind, rfl, rfl, _, rfl, ite2 (fun h => ?_) (fun h => iteF ?_)⟩
      · cases x with
        | place n =>
          cases e3' with
          | cons r1 tt =>
            cases tt
            rename_i q
            refine ⟨_, rfl, b, _, dx, _, _, rfl, f1, T.k_Line.cl, T.n_Line_names, rfl, na, _, _, _, rfl, rfl, SqL.of (s5 _ _ e3), at_of (j := 0) rfl rfl, _, rfl, q, p, n, _, rfl, rfl, s5 _ _ r1, T1, _, rfl, ite2 (fun h5 => ?_) (fun h5 => ?_)⟩
            · have hlen := paired_len h4
              have hpl := places_len (ls.take i)
              rw [List.length_take] at hpl
              refine ⟨_, rfl, .inl ⟨rfl, _, SqL.of h3⟩, _, rfl, b, _, dx, _, _, rfl, f1, T.k_Line.cl, T.n_Line_names, rfl, na, _, _, _, rfl, rfl, SqL.of (s5 _ _ e3), at_of (j := 0) rfl rfl, p, _, _, rfl, rfl, h3, by rw [List.length_map]; omega, ?_⟩
              have nm : n ∉ Vbexaa.placesOf (ls.take i) := by simpa using h5
              refine ⟨_, rfl, s5.upd hp, ?_⟩
              rw [ps]
              show TupsAt _ p (addOnce _ n)
              rw [addOnce, if_neg nm]
              refine ⟨bs ++ [q], by rw [upd_same, List.map_append]; rfl, Paired.app (Paired.same h4 fun c u e => ?_) (Paired.one ?_)⟩
              · rw [upd_ne (ne_of e h3 (by intro z; cases z))]
                exact e
              · rw [upd_ne (ne_of (s5 _ _ r1) h3 (by intro z; cases z))]
                exact s5 _ _ r1
            · have nm : n ∈ Vbexaa.placesOf (ls.take i) := by simpa using h5
              refine ⟨_, rfl, s5, ?_⟩
              rw [ps]
              show TupsAt _ p (addOnce _ n)
              rw [addOnce, if_pos nm]
              exact T1
        | leg both _ _ _ => cases both <;> simp [kindOf] at h
        | nostay _ _ _ => simp [kindOf] at h
        | note _ => simp [kindOf] at h
      · refine ⟨_, rfl, s5, ?_⟩
        rw [ps]
        cases x with
        | place n => simp [kindOf] at h
        | leg both _ _ _ => exact T1
        | nostay _ _ _ => exact T1
        | note _ => exact T1
    · rintro σ H' ⟨v, rfl, s5, T1⟩
      rw [List.length_map, paired_len h2, List.take_length] at T1
      exact ⟨_, rfl, k _ _ s5 hp T1⟩
theorem TupsAt.len {H : Hp} {p : Addr} {ts : List (List Nat)} (h : TupsAt H p ts) : ∃ xs : List V, H p = some (.lst xs) ∧ xs.length = ts.length := by
  obtain ⟨as, h1, h2⟩ := h
  exact ⟨_, h1, by rw [List.length_map]; exact paired_len h2⟩
theorem ok_is_too_much (T : Txt K mg) : Df P w K mg base "is_too_much" 2 ["lines"] (fun vs H Q _ => ∃ (a : Addr) (ls : List Vbexaa.Line), vs = [.ref a] ∧ LinesAt (clsOf mg "Line") H a ls ∧ ls.length ≤ 100000 ∧
    ∀ H', Same H H' → Q (.bl (Vbexaa.tooMany ls)) H') := by
  have sc := sc_is_too_much
  have D_place_names := ok_place_names (P := P) (w := w) (base := base) T
  refine df_of T.f_is_too_much sc (fun vs H Q E h => ?_) (fun f cdv A outer s H vs Q E hr h => ?_)
  · obtain ⟨a, ls, rfl, _⟩ := h
    rfl
  · obtain ⟨a, ls, rfl, L, hl, k⟩ := h
    refine ⟨_, (pss_one (ps_ret (pe_or (pe_cmpR op_gt (pe_callB call_len_seq (by rfl) T.b_len PySem.boot_len (pa_cons (pv 0) pa_nil)) (pe_gc rfl T.c_MOST_LINES) (nomark _)) (pe_one (pe_cmpR op_gt (pe_callB call_len_seq (by rfl) T.b_len PySem.boot_len (pa_cons (pe_df D_place_names hr.m rfl (pa_cons (pv 0) pa_nil)) pa_nil)) (pe_gc rfl T.c_MOST_PLACES) (nomark _)))))), ?_⟩
    obtain ⟨as, h1, h2⟩ := L
    refine ⟨_, rfl, a, _, rfl, .inl (SqL.of h1), _, _, rfl, rfl, _, rfl, ite2 (fun h => ?_) (fun h => ?_)⟩
    · refine q_bl (Q := Q) ?_ (k _ Same.rfl')
      rw [List.length_map, paired_len h2, decide_eq_true_eq] at h
      unfold Vbexaa.tooMany Vbexaa.LINES
      rw [decide_eq_true (show 40 < ls.length by omega)]
      rfl
    · refine ⟨_, rfl, a, ls, rfl, ⟨as, h1, h2⟩, hl, fun H' p s' hp tt => ?_⟩
      obtain ⟨xs, hx, hlen⟩ := tt.len
      refine ⟨p, _, rfl, .inl (SqL.of hx), _, _, rfl, rfl, q_bl (Q := Q) ?_ (k _ s')⟩
      rw [List.length_map, paired_len h2, decide_eq_true_eq] at h
      unfold Vbexaa.tooMany Vbexaa.LINES Vbexaa.PLACES
      rw [decide_eq_false (show ¬ 40 < ls.length by omega), hlen, Bool.false_or]
      exact decide_eq_decide.mpr (by omega)
end
end SL
end
section
namespace SL
open PySem PySem.Spec PyProof.Rows L2
def lgF (b e w : V) : List (Str × V) := [("begin", b), ("end", e), ("windows", w)]
def LegAt (C : Addr) (H : Hp) (a : Addr) (g : Vbexaa.Leg) : Prop := ∃ dx w, H a = some (.ins C dx (lgF (.int g.from_) (.int g.to_) (.ref w))) ∧ WsAt H w g.windows
theorem LegAt.same {C : Addr} {H H' : Hp} {a : Addr} {g : Vbexaa.Leg} (h : LegAt C H a g) (z : Same H H') : LegAt C H' a g := by
  obtain ⟨dx, w, h1, h2⟩ := h
  exact ⟨dx, w, z _ _ h1, h2.same z⟩
def LegsAt (C : Addr) (H : Hp) (p : Addr) (gs : List Vbexaa.Leg) : Prop := ∃ as : List Addr, H p = some (.lst (as.map V.ref)) ∧ Paired (LegAt C H) as gs
theorem LegsAt.same {C : Addr} {H H' : Hp} {p : Addr} {ls : List Vbexaa.Leg} (h : LegsAt C H p ls) (s : Same H H') : LegsAt C H' p ls := by
  obtain ⟨as, h1, h2⟩ := h
  exact ⟨as, s _ _ h1, Paired.same h2 fun a t e => e.same s⟩
def lineLegs (ps : List (List Nat)) : Vbexaa.Line → List Vbexaa.Leg
  | .leg both a b w => if (ps.contains a && ps.contains b) = true then ⟨Vbexaa.indexOf ps a, Vbexaa.indexOf ps b, w⟩ :: (if both = true then [⟨Vbexaa.indexOf ps b, Vbexaa.indexOf ps a, w⟩] else []) else []
  | _ => []
theorem legs_fm (l : List Vbexaa.Line) : Vbexaa.legsOf l = l.flatMap (lineLegs (Vbexaa.placesOf l)) := by
  unfold Vbexaa.legsOf
  dsimp only
  refine congrArg (fun f => l.flatMap f) ?_
  funext x
  cases x <;> rfl
theorem lineLegs_len (ps : List (List Nat)) (x : Vbexaa.Line) : (lineLegs ps x).length ≤ 2 := by
  cases x with
  | leg both a b w =>
    rw [lineLegs]
    split
    · cases both <;> simp
    · simp
  | _ => simp [lineLegs]
theorem flat_len (ps : List (List Nat)) : ∀ l : List Vbexaa.Line, (l.flatMap (lineLegs ps)).length ≤ 2 * l.length
  | [] => by simp
  | x :: l => by
    have := flat_len ps l
    have := lineLegs_len ps x
    rw [List.flatMap_cons, List.length_append, List.length_cons]
    omega
section
variable {P : Program} {w : World} {K : PySem.W.Frag} {mg : Str → Option Value} {base : Heap}
def spLeg (C : Addr) : Sp := fun vs H Q _ => ∃ (p dx : Addr) (b e w : V), vs = [.ref p, b, e, w] ∧ H p = some (.ins C dx []) ∧ ∀ H' : Hp, H' p = some (.ins C dx (lgF b e w)) → (∀ b o, H b = some o → b ≠ p → H' b = some o) → Q .non H'
theorem ok_Leg (T : Txt K mg) : MkD P w K mg base "Leg" 1 ["self", "begin", "end", "windows"] (spLeg (clsOf mg "Leg")) := by
  have sc := sc_Leg_init
  refine mk_of T.k_Leg sc (fun vs H Q E h => ?_) (fun f cdv A outer s H vs Q E hr h => ?_)
  · obtain ⟨p, dx, b, e, w, rfl, _⟩ := h
    rfl
  · obtain ⟨p, dx, b, e, w, rfl, hp, kk⟩ := h
    refine ⟨_, (pss_cons (ps_fld (pv 0) (pv 1) rfl)
      (pss_cons (ps_fld (pv 0) (pv 2) rfl)
      (pss_one (ps_fld (pv 0) (pv 3) rfl)))), ?_⟩
    refine ⟨_, rfl, _, rfl, p, _, dx, _, rfl, hp, T.k_Leg.cl, T.n_Leg_begin, (by decide), ?_⟩
    refine ⟨_, rfl, _, rfl, p, _, dx, _, rfl, upd_same, T.k_Leg.cl, T.n_Leg_end, (by show 1 < 1000; decide), ?_⟩
    refine ⟨_, rfl, _, rfl, p, _, dx, _, rfl, upd_same, T.k_Leg.cl, T.n_Leg_windows, (by show 2 < 1000; decide), ?_⟩
    refine kk _ upd_same fun b o e hb => ?_
    rw [upd_ne hb, upd_ne hb, upd_ne hb]
    exact e
theorem ok_legs_of_line (T : Txt K mg) : Df P w K mg base "legs_of_line" 3 ["line", "names"] (fun vs H Q _ => ∃ (a p : Addr) (x : Vbexaa.Line) (ps : List (List Nat)), vs = [.ref a, .ref p] ∧ LineAt (clsOf mg "Line") H a x ∧ (kindOf x = 66 ∨ kindOf x = 76) ∧ TupsAt H p ps ∧
    ∀ H' q, Same H H' → H q = none → LegsAt (clsOf mg "Leg") H' q (lineLegs ps x) → Q (.ref q) H') := by
  have sc := sc_legs_of_line
  have M_Leg := ok_Leg (P := P) (w := w) (base := base) T
  refine df_of T.f_legs_of_line sc (fun vs H Q E h => ?_) (fun f cdv A outer s H vs Q E hr h => ?_)
  · obtain ⟨a, p, x, ps, rfl, _⟩ := h
    rfl
  · obtain ⟨a, p, x, ps, rfl, LA, hk, TP, k⟩ := h
    have hu := hr.units
    have big := line_big
    obtain ⟨both, n, m, ws, rfl⟩ : ∃ both n m ws, x = .leg both n m ws := by
      cases x with
      | leg both n m ws => exact ⟨both, n, m, ws, rfl⟩
      | _ => simp [kindOf] at hk
    obtain ⟨dx, sa, na, wa, st, e1, e2, ⟨cs, e3, e3'⟩, hw, _⟩ := LA
    cases e3' with
    | cons r1 tt =>
      cases tt with
      | cons r2 tt =>
        cases tt
        rename_i y1 y2
        refine ⟨_, (pss_cons (ps_if (PW.pt (pw_or (pt_cmpR (op_notIn_tups hu) (pe_ix ix_list (pe_fld (pv 0) rfl) pe_int (fun _ _ => rfl)) (pv 1) (by with_unfolding_all rfl)) (pw_or1 (pt_cmpR (op_notIn_tups hu) (pe_ix ix_list (pe_fld (pv 0) rfl) pe_int (fun _ _ => rfl)) (pv 1) (by with_unfolding_all rfl)))))
        (pss_one (ps_ret (pe_lst pa_nil)))
        pss_nil)
      (pss_cons (ps_set (i := 2) sc.nd rfl (Or.inl rfl) (pe_bm PySem.F.plainAttrs_list PySem.F.slot_list_index PySem.F.type_list_index (mt_index_tups hu) (pv 1) (pa_cons (pe_ix ix_list (pe_fld (pv 0) rfl) pe_int (fun _ _ => rfl)) pa_nil)))
      (pss_cons (ps_set (i := 3) sc.nd rfl (Or.inl rfl) (pe_bm PySem.F.plainAttrs_list PySem.F.slot_list_index PySem.F.type_list_index (mt_index_tups hu) (pv 1) (pa_cons (pe_ix ix_list (pe_fld (pv 0) rfl) pe_int (fun _ _ => rfl)) pa_nil)))
      (pss_cons (ps_set (i := 4) sc.nd rfl (Or.inl rfl) (pe_lst (pa_cons (pe_mk M_Leg hr.m rfl (pa_cons (pv 2) (pa_cons (pv 3) (pa_cons (pe_fld (pv 0) rfl) pa_nil)))) pa_nil)))
      (pss_cons (ps_if (pt_cmpR op_eq (pe_fld (pv 0) rfl) (pe_gc rfl T.c_BOTH_WAYS) (nomark _))
        (pss_one (ps_expr (pe_bm PySem.F.plainAttrs_list PySem.F.slot_list_append PySem.F.type_list_append mt_append (pv 4) (pa_cons (pe_mk M_Leg hr.m rfl (pa_cons (pv 3) (pa_cons (pv 2) (pa_cons (pe_fld (pv 0) rfl) pa_nil)))) pa_nil))))
        pss_nil)
      (pss_one (ps_ret (pv 4)))))))), ?_⟩
        have none_ : (ps.contains n && ps.contains m) = false → ∀ q, H q = none → Q (.ref q) (upd H q (.lst [])) := fun z q hq => by
          refine k _ q (Same.new hq) hq ⟨[], upd_same, ?_⟩
          rw [lineLegs, z]
          exact .nil
        refine ⟨_, rfl, a, _, dx, _, _, rfl, e1, T.k_Line.cl, T.n_Line_names, rfl, na, _, _, _, rfl, rfl, SqL.of e3, at_of (j := 0) rfl rfl, _, rfl, y1, p, n, ps, rfl, rfl, r1, TP, _, rfl, ite2 (fun h => iteT ⟨Nat.zero_le _, fun q hq => none_ ?_ q hq⟩) (fun h => ?_)⟩
        · have : n ∉ ps := by simpa using h
          simp [this]
        · have hn : n ∈ ps := by simpa using h
          refine ⟨_, rfl, a, _, dx, _, _, rfl, e1, T.k_Line.cl, T.n_Line_names, rfl, na, _, _, _, rfl, rfl, SqL.of e3, at_of (j := 1) rfl rfl, _, rfl, y2, p, m, ps, rfl, rfl, r2, TP, _, rfl, ite2 (fun h => ⟨Nat.zero_le _, fun q hq => none_ ?_ q hq⟩) (fun h => ?_)⟩
          · have : m ∉ ps := by simpa using h
            simp [this]
          · have hm : m ∈ ps := by simpa using h
            obtain ⟨as, h1, h2⟩ := TP
            have TP : TupsAt H p ps := ⟨as, h1, h2⟩
            have cc : (ps.contains n && ps.contains m) = true := by simp [hn, hm]
            refine ⟨_, rfl, .inl ⟨rfl, _, SqL.of h1⟩, _, rfl, a, _, dx, _, _, rfl, e1, T.k_Line.cl, T.n_Line_names, rfl, na, _, _, _, rfl, rfl, SqL.of e3, at_of (j := 0) rfl rfl, y1, p, n, ps, rfl, rfl, r1, TP, hn, ?_⟩
            refine ⟨_, rfl, .inl ⟨rfl, _, SqL.of h1⟩, _, rfl, a, _, dx, _, _, rfl, e1, T.k_Line.cl, T.n_Line_names, rfl, na, _, _, _, rfl, rfl, SqL.of e3, at_of (j := 1) rfl rfl, y2, p, m, ps, rfl, rfl, r2, TP, hm, ?_⟩
            refine ⟨_, rfl, _, rfl, _, rfl, a, _, dx, _, _, rfl, e1, T.k_Line.cl, T.n_Line_windows, rfl, fun g1 dg1 ng1 nd1 _ => ⟨g1, dg1, _, _, _, rfl, upd_same, fun H2 hg1 kp1 => ⟨rfl, (by show 1 ≤ sizeLine; omega), fun q hq => ?_⟩⟩⟩
            have s2 := Same.made ng1 nd1 kp1
            have s3 := s2.tr_new (o := .lst [.ref g1]) hq
            have hqn : H q = none := s2.free hq
            have f1 := s3 _ _ e1
            have L1 : LegAt (clsOf mg "Leg") (upd H2 q (.lst [.ref g1])) g1 ⟨Vbexaa.indexOf ps n, Vbexaa.indexOf ps m, ws⟩ := ⟨dg1, wa, Same.new hq _ _ hg1, hw.same s3⟩
            refine ⟨_, rfl, a, _, dx, _, _, rfl, f1, T.k_Line.cl, T.n_Line_kind, rfl, rfl, _, rfl, ite2 (fun h => ?_) (fun h => ?_)⟩
            · have hb : both = true := by
                cases both with
                | true => rfl
                | false => simp [kindOf] at h
              refine ⟨_, rfl, .inl ⟨rfl, _, SqL.of upd_same⟩, _, rfl, _, rfl, _, rfl, a, _, dx, _, _, rfl, f1, T.k_Line.cl, T.n_Line_windows, rfl, fun g2 dg2 ng2 nd2 _ => ⟨g2, dg2, _, _, _, rfl, upd_same, fun H4 hg2 kp2 => ⟨rfl, ?_⟩⟩⟩
              have s4 := Same.made ng2 nd2 kp2
              have s34 := s3.trans s4
              have hq4 := s4 _ _ (upd_same (H := H2) (a := q) (o := .lst [.ref g1]))
              refine ⟨q, _, _, rfl, rfl, hq4, (by show 1 < sizeLine; omega), _, rfl, k _ q (s34.upd hqn) hqn ?_⟩
              rw [lineLegs, if_pos cc, if_pos hb]
              have nq : ∀ {b : Addr} {C dx : Addr} {fs : List (Str × V)}, H4 b = some (.ins C dx fs) → b ≠ q := fun e => ne_of e hq4 (by intro z; cases z)
              have keep : ∀ {g : Addr} {G : Vbexaa.Leg}, LegAt (clsOf mg "Leg") H4 g G → WsAt H wa G.windows → (∃ d, H4 g = some (.ins (clsOf mg "Leg") d (lgF (.int G.from_) (.int G.to_) (.ref wa)))) → LegAt (clsOf mg "Leg") (upd H4 q (.lst ([.ref g1] ++ [.ref g2]))) g G := fun _ hw' ⟨d, hd⟩ =>
                ⟨d, wa, by rw [upd_ne (nq hd)]; exact hd, hw'.same (s34.upd hqn)⟩
              refine ⟨[g1, g2], upd_same, .cons (keep (L1.same s4) hw ⟨dg1, s4 _ _ (Same.new hq _ _ hg1)⟩) (.cons (keep ⟨dg2, wa, hg2, hw.same s34⟩ hw ⟨dg2, hg2⟩) .nil)⟩
            · have hb : both = false := by
                cases both with
                | false => rfl
                | true => simp [kindOf] at h
              refine ⟨_, rfl, k _ q s3 hqn ?_⟩
              rw [lineLegs, if_pos cc, hb]
              exact ⟨[g1], upd_same, .cons L1 .nil⟩
theorem ok_legs_told (T : Txt K mg) : Df P w K mg base "legs_told" 4 ["lines"] (fun vs H Q _ => ∃ (a : Addr) (ls : List Vbexaa.Line), vs = [.ref a] ∧ LinesAt (clsOf mg "Line") H a ls ∧ ls.length ≤ 10000 ∧
    ∀ H' p, Same H H' → H p = none → LegsAt (clsOf mg "Leg") H' p (Vbexaa.legsOf ls) → Q (.ref p) H') := by
  have sc := sc_legs_told
  have D_place_names := ok_place_names (P := P) (w := w) (base := base) T
  have D_legs_of_line := ok_legs_of_line (P := P) (w := w) (base := base) T
  refine df_of T.f_legs_told sc (fun vs H Q E h => ?_) (fun f cdv A outer s H vs Q E hr h => ?_)
  · obtain ⟨a, ls, rfl, _⟩ := h
    rfl
  · obtain ⟨a, ls, rfl, L, hl, k⟩ := h
    have hu := hr.units
    have big := line_big
    refine ⟨_, (pss_cons (ps_set (i := 1) sc.nd rfl (Or.inl rfl) (pe_df D_place_names hr.m rfl (pa_cons (pv 0) pa_nil)))
      (pss_cons (ps_set (i := 2) sc.nd rfl (Or.inl rfl) (pe_lst pa_nil))
      (pss_cons (ps_for PassesOwn.never rfl (pi_list (pv 0)) (pg_name (i := 3) sc.nd rfl (Or.inl rfl))
        (pss_one (ps_if (PW.pt (pw_or (pt_cmpR op_eq (pe_fld (pv 3) rfl) (pe_gc rfl T.c_ONE_WAY) (nomark _)) (pw_or1 (pt_cmpR op_eq (pe_fld (pv 3) rfl) (pe_gc rfl T.c_BOTH_WAYS) (nomark _)))))
          (pss_one (ps_expr (pe_bm PySem.F.plainAttrs_list PySem.F.slot_list_extend PySem.F.type_list_extend mt_extend (pv 2) (pa_cons (pe_df D_legs_of_line.fr hr.m rfl (pa_cons (pv 3) (pa_cons (pv 1) pa_nil))) pa_nil))))
          pss_nil)))
      (pss_one (ps_ret (pv 2)))))), ?_⟩
    refine ⟨_, rfl, a, ls, rfl, L, by omega, fun H1 pn s1 hpn TP => ⟨Nat.zero_le _, fun p hp => ?_⟩⟩
    obtain ⟨as, h1, h2⟩ := L
    have hpn' : H p = none := s1.free hp
    have hp1 : ∀ b ∈ [p], H1 b = none := fun b hb => by
      have q : b = p := by simpa using hb
      rw [q]
      exact hp
    refine ⟨_, rfl, a, rfl, ⟨_, SqL.of (Same.new hp _ _ (s1 _ _ h1))⟩, for_list (K := K) (a := a) (xs := as.map V.ref) (fun i σ H' => ∃ v cs, σ = [some (.ref a), some (.ref pn), some (.ref p), v] ∧ Same H1 (hide [p] H') ∧ H' p = some (.lst (cs.map V.ref)) ∧ Paired (LegAt (clsOf mg "Leg") (hide [p] H')) cs ((ls.take i).flatMap (lineLegs (Vbexaa.placesOf ls))))
      ⟨none, [], rfl, same_hide (Same.new hp) hp1, upd_same, .nil⟩ (fun i σ H' _ ⟨_, _, _, s5, _⟩ => SqL.of (hide_same _ _ (s5 _ _ (s1 _ _ h1)))) ?_ ?_⟩
    · rintro i y σ H' hi ⟨v, cs, rfl, s5, hp', G⟩
      obtain ⟨b, hb, rfl⟩ := refs_of hi
      obtain ⟨x, hx, LA⟩ := Paired.getL h2 hb
      have s15 := s1.trans s5
      have LA' := LA.same s15
      obtain ⟨dx, sa, na, wa, st, e1, _⟩ := LA'
      have e1 := hide_same _ _ e1
      have LA' := LA.same s15
      have tk := take_one hx
      have hi' : i < ls.length := (List.getElem?_eq_some_iff.mp hx).1
      have fl := flat_len (Vbexaa.placesOf ls) (ls.take i)
      have fl1 := lineLegs_len (Vbexaa.placesOf ls) x
      rw [List.length_take] at fl
      have l1 := paired_len G
      refine ⟨_, rfl, b, _, dx, _, _, rfl, e1, T.k_Line.cl, T.n_Line_kind, rfl, rfl, _, rfl, ?_⟩
      have go : (kindOf x = 66 ∨ kindOf x = 76) → tDrop (tBM K "list" rExtend (tVar 2) (tCons (tCall (SL.fr (fun vs H Q _ => ∃ (a p : Addr) (x : Vbexaa.Line) (ps : List (List Nat)), vs = [.ref a, .ref p] ∧ LineAt (clsOf mg "Line") H a x ∧ (kindOf x = 66 ∨ kindOf x = 76) ∧ TupsAt H p ps ∧
            ∀ H' q, Same H H' → H q = none → LegsAt (clsOf mg "Leg") H' q (lineLegs ps x) → Q (.ref q) H')) [] E0 (tCons (tVar 3) (tCons (tVar 1) tNil))) tNil))
          { nx := fun σ H' => ∃ v cs, σ = [some (.ref a), some (.ref pn), some (.ref p), v] ∧ Same H1 (hide [p] H') ∧ H' p = some (.lst (cs.map V.ref)) ∧ Paired (LegAt (clsOf mg "Leg") (hide [p] H')) cs ((ls.take (i + 1)).flatMap (lineLegs (Vbexaa.placesOf ls))), rt := Q }
          [some (.ref a), some (.ref pn), some (.ref p), some (.ref b)] H' := fun hk => by
        refine ⟨_, rfl, .inl ⟨rfl, _, SqL.of hp'⟩, _, rfl, _, rfl, [p], mok_lst hp', b, pn, x, _, rfl, LA', hk, TP.same s5, fun G' q s6 hq ⟨ds, g3, g4⟩ hm => ?_⟩
        have hpm : p ∈ [p] := by simp
        have l2 := paired_len g4
        have hqp : q ≠ p := fun z => by
          have := hm p hpm
          rw [← z, g3] at this
          cases this
        refine ⟨p, q, _, _, rfl, rfl, (by rw [back_in hpm]; exact hp'), (by rw [back_out (by simpa using hqp)]; exact g3), by rw [List.length_map, List.length_map]; omega, _, cs ++ ds, rfl, ?_, by rw [upd_same, List.map_append], ?_⟩
        · rw [hide_upd hpm, hide_back hm]
          exact s5.trans s6
        · rw [hide_upd hpm, hide_back hm, tk, List.flatMap_append, List.flatMap_cons, List.flatMap_nil, List.append_nil]
          exact Paired.app (Paired.same G fun g G' e => e.same s6) g4
      refine ite2 (fun h => iteT (go (.inr ?_))) (fun h => ⟨_, rfl, b, _, dx, _, _, rfl, e1, T.k_Line.cl, T.n_Line_kind, rfl, rfl, _, rfl, ite2 (fun h2 => go (.inl ?_)) (fun h2 => ?_)⟩)
      · simp at h
        omega
      · simp at h2
        omega
      · refine ⟨_, cs, rfl, s5, hp', ?_⟩
        rw [tk, List.flatMap_append, List.flatMap_cons, List.flatMap_nil, List.append_nil]
        have e : lineLegs (Vbexaa.placesOf ls) x = [] := by
          cases x with
          | leg both _ _ _ => cases both <;> simp [kindOf] at h h2
          | _ => rfl
        rw [e, List.append_nil]
        exact G
    · rintro σ H' ⟨v, cs, rfl, s5, hp', G⟩
      rw [List.length_map, paired_len h2, List.take_length, ← legs_fm] at G
      exact ⟨_, rfl, k _ _ ((s1.trans s5).trans hide_same) hpn' ⟨cs, hp', Paired.same G fun g G' e => e.same hide_same⟩⟩
end
end SL
end
section
namespace SL
open PySem PySem.Spec PyProof.Rows L2
section
open MeetsSeq AutoSeq1
theorem ext_tup (l b : Addr) (xs ys : Array Value) (n m : Nat) (dd : Option Addr) (sl : Array (Option Value)) (h0 : ¬ (!xs.isEmpty && Builtin.List.listTooLong (xs.size + ys.size)) = true) (h1 : xs.size ≤ sizeLine) (h2 : xs.size + ys.size ≤ sizeLine + 1) :
    Meets (Builtin.«list.extend» ⟨[.ref l, .ref b], []⟩) (fun _ R s => s.heap.get? l = some { cls := .type "list", dict := none, data := .seq xs n, slots := #[] } ∧ s.heap.get? b = some { cls := .type "tuple", dict := dd, data := .seq ys m, slots := sl } ∧
      R (.ok (.ret Value.none)) { s with heap := s.heap.update l (Obj.mapSeq fun x => x ++ ys), toks := s.toks }) :=
  .of_wp fun prog w A R s h => by
    obtain ⟨hp, g, d, tk, os⟩ := s
    obtain ⟨hl, hb, h⟩ := h
    have f1 := idx_int
    have f2 := AutoSeq1.sub_tuple_tuple
    have f3 := AutoSeq1.sub_list_list
    have f4 := AutoSeq1.sub_tuple_list
    have f5 := AutoSeq1.sub_list_tuple
    have hz' : (xs ++ ys).size ≤ sizeLine + 1 := by
      rw [Array.size_append]
      exact h2
    wp_walk using (wpAny_updateSeq hl rfl (hz := h1) (_hz' := hz')), wpAny_loadPart' hl, wpAny_loadPart' hb
    exact ⟨_, rfl, h⟩
end
section
variable {X : Cx}
def rExtT (K : PySem.W.Frag) : V → List V → Hp → VK → Prop := fun x vs H Q => ∃ l b xs zs, x = .ref l ∧ vs = [.ref b] ∧ H l = some (.lst xs) ∧ SqT K H b zs ∧ xs.length + zs.length ≤ sizeLine ∧ Q .non (upd H l (.lst (xs ++ zs)))
theorem mt_extT : MtM X "list.extend" (rExtT X.K) := by
  intro pins s σ H x vs v us Q I rx rv h
  obtain ⟨l, b, xs, zs, rfl, rfl, hH, hB, hz, q⟩ := h
  cases rx
  obtain ⟨u, rfl, ru⟩ := rv.one
  cases ru
  obtain ⟨z, its, n, r, hl, e⟩ := I.lstM hH
  obtain ⟨its2, r2, ⟨⟨c2, d2, t2, sl2⟩, e2, hc2, n2, hd2⟩, hl2⟩ := I.tuple hB
  simp only at hc2 hd2
  subst hc2 hd2
  have hl3 := r2.length
  have hsz : its.toArray.size + its2.toArray.size ≤ sizeLine := by rw [List.size_toArray, List.size_toArray]; omega
  have hlong : ¬ (!its.toArray.isEmpty && Builtin.List.listTooLong (its.toArray.size + its2.toArray.size)) = true := by
    rw [notLongL hsz, Bool.and_false]
    exact Bool.false_ne_true
  refine call_meets F.slot_list_extend ⟨_, e, rfl⟩ F.entry_list_extend (F.args_list_extend_2 _ _) (ext_tup l b its.toArray its2.toArray n n2 d2 sl2 hlong (by rw [List.size_toArray]; omega) (by omega)) ⟨e, e2, ?_⟩
  refine ⟨.non, _, I.lset (its' := its ++ its2) hH e (by simp) (r.append r2) ?_, rfl, q⟩
  rw [List.length_append]
  omega
end
def tJoin (t u : TS) : TS := fun D σ H => ∃ J : L2.St → Hp → Prop, t { D with nx := J } σ H ∧ ∀ σ' H', J σ' H' → u D σ' H'
theorem pss_join {X : Cx} {st : Stmt} {rest : List Stmt} {t u : TS} (h1 : PS X st t) (h2 : PSs X rest u) : PSs X (st :: rest) (tJoin t u) := by
  intro pins s σ H D I h
  obtain ⟨J, h, hJ⟩ := h
  refine wpAny_execs_cons (thn (h1 pins s σ H { D with nx := J } I h) fun f s1 q => ?_)
  cases f with
  | next =>
    obtain ⟨σ', H', I', q⟩ := q
    exact h2 pins s1 σ' H' D I' (hJ σ' H' q)
  | ret v => exact q
  | brk => exact q
  | cont => exact q
end SL
end
section
namespace SL
open PySem PySem.Spec PyProof.Rows L2
def shF (l e u : V) : List (Str × V) := [("lines", l), ("earlier", e), ("undone", u)]
abbrev shM (sh dx e u : Addr) : List Addr := [sh, dx, e, u]
structure ShA (CL CS : Addr) (H : Hp) (sh dx l e u : Addr) (es us : List Addr) (st : Vbexaa.St) : Prop where
  obj : H sh = some (.ins CS dx (shF (.ref l) (.ref e) (.ref u)))
  own : H dx = some (.own sh)
  ear : H e = some (.lst (es.map V.ref))
  und : H u = some (.lst (us.map V.ref))
  eu : e ≠ u
  now : LinesAt CL (hide (shM sh dx e u) H) l st.lines
  past : Paired (LinesAt CL (hide (shM sh dx e u) H)) es.reverse st.past
  fut : Paired (LinesAt CL (hide (shM sh dx e u) H)) us.reverse st.future
  n : st.past.length + st.future.length ≤ 20
  s0 : Vbexaa.tooMany st.lines = false
  s1 : ∀ ls ∈ st.past, Vbexaa.tooMany ls = false
  s2 : ∀ ls ∈ st.future, Vbexaa.tooMany ls = false
def Sheet (CL CS : Addr) (H : Hp) (sh : Addr) (M : List Addr) (st : Vbexaa.St) : Prop := ∃ dx l e u es us, M = shM sh dx e u ∧ ShA CL CS H sh dx l e u es us st
section
variable {CL CS : Addr} {H H' : Hp} {sh dx l e u : Addr} {es us : List Addr} {st : Vbexaa.St} {M : List Addr}
theorem mem4 {b : Addr} : b ∈ shM sh dx e u ↔ b = sh ∨ b = dx ∨ b = e ∨ b = u := by simp
theorem ShA.mok (S : ShA CL CS H sh dx l e u es us st) : MOk (shM sh dx e u) H := by
  refine ⟨fun b hb => ?_, fun a o d ha i hd => ⟨fun z => ?_, fun z => ?_⟩, fun b hb xs ex => ?_⟩
  · rcases mem4.mp hb with rfl | rfl | rfl | rfl
    · rw [S.obj]; simp
    · rw [S.own]; simp
    · rw [S.ear]; simp
    · rw [S.und]; simp
  · rcases mem4.mp z with rfl | rfl | rfl | rfl
    · rw [S.obj] at ha
      cases ha
      have q : dx = d := Option.some.inj i
      exact mem4.mpr (.inr (.inl q.symm))
    · rw [S.own] at ha; cases ha; cases i
    · rw [S.ear] at ha; cases ha; cases i
    · rw [S.und] at ha; cases ha; cases i
  · rcases mem4.mp z with rfl | rfl | rfl | rfl
    · rw [S.obj] at hd; cases hd
    · rw [S.own] at hd
      cases hd
      exact mem4.mpr (.inl rfl)
    · rw [S.ear] at hd; cases hd
    · rw [S.und] at hd; cases hd
  · rcases mem4.mp hb with rfl | rfl | rfl | rfl
    · rw [S.obj] at ex; cases ex
    · rw [S.own] at ex; cases ex
    · rw [S.ear] at ex; cases ex
    · rw [S.und] at ex; cases ex
theorem ShA.ext (S : ShA CL CS H sh dx l e u es us st) (k : ∀ b ∈ shM sh dx e u, H' b = H b) (s : Same (hide (shM sh dx e u) H) (hide (shM sh dx e u) H')) : ShA CL CS H' sh dx l e u es us st :=
  ⟨(k _ (by simp)).trans S.obj, (k _ (by simp)).trans S.own, (k _ (by simp)).trans S.ear, (k _ (by simp)).trans S.und, S.eu, S.now.same s, Paired.same S.past fun _ _ z => z.same s, Paired.same S.fut fun _ _ z => z.same s, S.n, S.s0, S.s1, S.s2⟩
theorem Sheet.mok (S : Sheet CL CS H sh M st) : MOk M H := by
  obtain ⟨dx, l, e, u, es, us, rfl, S⟩ := S
  exact S.mok
theorem Sheet.ext (S : Sheet CL CS H sh M st) (k : ∀ b ∈ M, H' b = H b) (s : Same (hide M H) (hide M H')) : Sheet CL CS H' sh M st := by
  obtain ⟨dx, l, e, u, es, us, rfl, S⟩ := S
  exact ⟨dx, l, e, u, es, us, rfl, S.ext k s⟩
theorem Sheet.back {G : Hp} (S : Sheet CL CS H sh M st) (g : ∀ b ∈ M, G b = none) (s : Same (hide M H) G) : Sheet CL CS (SL.back M H G) sh M st :=
  S.ext (fun b hb => back_in hb) (by rw [hide_back g]; exact s)
theorem Sheet.new {p : Addr} {o : HO} (S : Sheet CL CS H sh M st) (h : H p = none) : Sheet CL CS (upd H p o) sh M st ∧ hide M (upd H p o) = upd (hide M H) p o := by
  have hp : p ∉ M := fun z => S.mok.there p z h
  refine ⟨S.ext (fun b hb => upd_ne (fun z => hp (z ▸ hb))) ?_, hide_new hp⟩
  rw [hide_new hp]
  exact Same.new (hide_same.free h)
end
theorem too_len {ls : List Vbexaa.Line} (h : Vbexaa.tooMany ls = false) : ls.length ≤ 40 ∧ (Vbexaa.placesOf ls).length ≤ 12 := by
  unfold Vbexaa.tooMany Vbexaa.LINES Vbexaa.PLACES at h
  simp at h
  exact h
theorem Paired.take {α β : Type} {F : α → β → Prop} : ∀ {l : List α} {m : List β} (n : Nat), Paired F l m → Paired F (l.take n) (m.take n)
  | _, _, 0, _ => by simp only [List.take_zero]; exact .nil
  | _, _, _ + 1, .nil => .nil
  | _, _, n + 1, .cons r t => .cons r (Paired.take n t)
theorem Paired.snoc_inv {α β : Type} {F : α → β → Prop} {l : List α} {x : β} {m : List β} (h : Paired F l.reverse (x :: m)) : ∃ l' a, l = l' ++ [a] ∧ F a x ∧ Paired F l'.reverse m := by
  cases e : l.reverse with
  | nil =>
    rw [e] at h
    cases h
  | cons a r =>
    rw [e] at h
    cases h with
    | cons r1 r2 =>
      have q : l = (a :: r).reverse := by rw [← e, List.reverse_reverse]
      refine ⟨r.reverse, a, by rw [q]; simp, r1, by rw [List.reverse_reverse]; exact r2⟩
section
variable {P : Program} {w : World} {K : PySem.W.Frag} {mg : Str → Option Value} {base : Heap}
def spSheet (C : Addr) : Sp := fun vs H Q _ => ∃ (p dx : Addr), vs = [.ref p] ∧ H p = some (.ins C dx []) ∧ ∀ (H' : Hp) (l e u : Addr), H' p = some (.ins C dx (shF (.ref l) (.ref e) (.ref u))) → H' l = some (.lst []) → H' e = some (.lst []) → H' u = some (.lst []) → l ≠ e → l ≠ u → e ≠ u →
  H l = none → H e = none → H u = none → (∀ b o, H b = some o → b ≠ p → H' b = some o) → Q .non H'
theorem ok_Sheet (T : Txt K mg) : MkD P w K mg base "Sheet" 1 ["self"] (spSheet (clsOf mg "Sheet")) := by
  have sc := sc_Sheet_init
  refine mk_of T.k_Sheet sc (fun vs H Q E h => ?_) (fun f cdv A outer s H vs Q E hr h => ?_)
  · obtain ⟨p, dx, rfl, _⟩ := h
    rfl
  · obtain ⟨p, dx, rfl, hp, kk⟩ := h
    refine ⟨_, (pss_cons (ps_fld (pv 0) (pe_lst pa_nil) rfl)
      (pss_cons (ps_fld (pv 0) (pe_lst pa_nil) rfl)
      (pss_one (ps_fld (pv 0) (pe_lst pa_nil) rfl)))), ?_⟩
    refine ⟨Nat.zero_le _, fun l hl => ⟨_, rfl, p, _, dx, _, rfl, Same.new hl _ _ hp, T.k_Sheet.cl, T.n_Sheet_lines, (by decide), ?_⟩⟩
    refine ⟨Nat.zero_le _, fun e he => ⟨_, rfl, p, _, dx, _, rfl, Same.new he _ _ upd_same, T.k_Sheet.cl, T.n_Sheet_earlier, (by show 1 < 1000; decide), ?_⟩⟩
    refine ⟨Nat.zero_le _, fun u hu => ⟨_, rfl, p, _, dx, _, rfl, Same.new hu _ _ upd_same, T.k_Sheet.cl, T.n_Sheet_undone, (by show 2 < 1000; decide), ?_⟩⟩
    have lp : l ≠ p := Ne.symm (ne_of_none hp hl)
    have ep : e ≠ p := fun z => by rw [z, upd_same] at he; cases he
    have up : u ≠ p := fun z => by rw [z, upd_same] at hu; cases hu
    rw [upd_ne ep] at he
    rw [upd_ne up] at hu
    have le : l ≠ e := ne_of_none upd_same he
    have eu : e ≠ u := ne_of_none upd_same hu
    have ue : u ≠ e := Ne.symm eu
    rw [upd_ne ue, upd_ne up] at hu
    have lu : l ≠ u := ne_of_none upd_same hu
    have he' := (Same.new (o := .lst []) hl).free he
    have hu' := (Same.new (o := .lst []) hl).free hu
    refine kk _ l e u upd_same ?_ ?_ ?_ le lu eu hl he' hu' fun b o eb hb => ?_
    · rw [upd_ne lp, upd_ne lu, upd_ne lp, upd_ne le, upd_ne lp, upd_same]
    · rw [upd_ne ep, upd_ne eu, upd_ne ep, upd_same]
    · rw [upd_ne up, upd_same]
    · rw [upd_ne hb, upd_ne (ne_of_none eb hu'), upd_ne hb, upd_ne (ne_of_none eb he'), upd_ne hb, upd_ne (ne_of_none eb hl)]
      exact eb
def spChange (CL CS : Addr) : Sp := fun vs H Q _ => ∃ (sh p : Addr) (M : List Addr) (st : Vbexaa.St) (ls : List Vbexaa.Line), vs = [.ref sh, .ref p] ∧ Sheet CL CS H sh M st ∧ LinesAt CL (hide M H) p ls ∧ Vbexaa.tooMany ls = false ∧
  ∀ H' M', Sheet CL CS H' sh M' (Vbexaa.changed st ls) → Same (hide M H) (hide M' H') → Q .non H'
theorem ok_change (T : Txt K mg) : MdD P w K mg base "Sheet" "change" 1 ["self", "lines"] (spChange (clsOf mg "Line") (clsOf mg "Sheet")) := by
  have sc := sc_Sheet_change
  refine md_of T.k_Sheet.cl T.m_Sheet_change sc (fun vs H Q E h => ?_) (fun f cdv A outer s H vs Q E hr h => ?_)
  · obtain ⟨sh, p, M, st, ls, rfl, _⟩ := h
    rfl
  · obtain ⟨sh, p, M, st, ls, rfl, ⟨dx, l, e, u, es, us, rfl, S⟩, LP, hls, k⟩ := h
    have big := line_big
    refine ⟨_, (pss_cons (ps_expr (pe_bm PySem.F.plainAttrs_list PySem.F.slot_list_append PySem.F.type_list_append mt_append (pe_fld (pv 0) rfl) (pa_cons (pe_fld (pv 0) rfl) pa_nil)))
      (pss_cons (ps_if (pt_cmpR op_gt (pe_callB call_len_seq (by rfl) T.b_len PySem.boot_len (pa_cons (pe_fld (pv 0) rfl) pa_nil)) (pe_gc rfl T.c_MOST_UNDOABLE) (nomark _))
        (pss_one (ps_expr (pe_bm PySem.F.plainAttrs_list PySem.F.slot_list_pop PySem.F.type_list_pop mt_popAt (pe_fld (pv 0) rfl) (pa_cons pe_int pa_nil))))
        pss_nil)
      (pss_cons (ps_fld (pv 0) (pe_lst pa_nil) rfl)
      (pss_one (ps_fld (pv 0) (pv 1) rfl))))), ?_⟩
    have ne_sh_e : sh ≠ e := ne_of S.obj S.ear (by intro z; cases z)
    have ne_sh_u : sh ≠ u := ne_of S.obj S.und (by intro z; cases z)
    have ne_dx_e : dx ≠ e := ne_of S.own S.ear (by intro z; cases z)
    have ne_dx_u : dx ≠ u := ne_of S.own S.und (by intro z; cases z)
    have ne_sh_dx : sh ≠ dx := ne_of S.obj S.own (by intro z; cases z)
    have hel := paired_len S.past
    rw [List.length_reverse] at hel
    have hn := S.n
    refine ⟨_, rfl, sh, _, dx, _, _, rfl, S.obj, T.k_Sheet.cl, T.n_Sheet_earlier, rfl, .inl ⟨rfl, _, SqL.of S.ear⟩, _, rfl, sh, _, dx, _, _, rfl, S.obj, T.k_Sheet.cl, T.n_Sheet_lines, rfl, e, _, _, rfl, rfl, S.ear, by rw [List.length_map]; omega, ?_⟩
    -- the rest, whatever stands in earlier
    have rest : ∀ (es' : List Addr), Paired (LinesAt (clsOf mg "Line") (hide (shM sh dx e u) H)) es'.reverse ((st.lines :: st.past).take 20) → ∀ H1, (∀ b, b ≠ e → H1 b = H b) → H1 e = some (.lst (es'.map V.ref)) →
        tSeq (sFld K (tVar 0) (tLst tNil) "undone") (sFld K (tVar 0) (tVar 1) "lines") { nx := fun _ H' => Q .non H', rt := Q } [some (.ref sh), some (.ref p)] H1 := fun es' hes H1 k1 he1 => by
      have o1 : H1 sh = some (.ins (clsOf mg "Sheet") dx (shF (.ref l) (.ref e) (.ref u))) := (k1 sh ne_sh_e).trans S.obj
      refine ⟨Nat.zero_le _, fun u' hu' => ⟨_, rfl, sh, _, dx, _, rfl, Same.new hu' _ _ o1, T.k_Sheet.cl, T.n_Sheet_undone, (by show 3 < 1000; decide), ?_⟩⟩
      refine ⟨_, rfl, _, rfl, sh, _, dx, _, rfl, upd_same, T.k_Sheet.cl, T.n_Sheet_lines, (by show 3 < 1000; decide), ?_⟩
      have nu : ∀ {b : Addr} {o : HO}, H1 b = some o → b ≠ u' := fun z => ne_of_none z hu'
      have ue : u' ≠ e := Ne.symm (nu he1)
      have hu0 : H u' = none := by rw [← k1 u' ue]; exact hu'
      have nu0 : ∀ {b : Addr} {o : HO}, H b = some o → b ≠ u' := fun z => ne_of_none z hu0
      have fin : ∀ b, b ≠ sh → b ≠ u' → b ≠ e → (upd (upd (upd H1 u' (.lst [])) sh (.ins (clsOf mg "Sheet") dx (putF "undone" (.ref u') (shF (.ref l) (.ref e) (.ref u))))) sh (.ins (clsOf mg "Sheet") dx (putF "lines" (.ref p) (putF "undone" (.ref u') (shF (.ref l) (.ref e) (.ref u)))))) b = H b := fun b h1 h2 h3 => by
        rw [upd_ne h1, upd_ne h1, upd_ne h2, k1 b h3]
      generalize hH2 : upd (upd (upd H1 u' (.lst [])) sh (.ins (clsOf mg "Sheet") dx (putF "undone" (.ref u') (shF (.ref l) (.ref e) (.ref u))))) sh (.ins (clsOf mg "Sheet") dx (putF "lines" (.ref p) (putF "undone" (.ref u') (shF (.ref l) (.ref e) (.ref u))))) = H2 at fin
      show Q .non _
      have hH2' := hH2
      have sm : Same (hide (shM sh dx e u) H) (hide (shM sh dx e u') H2) := fun b o eb => by
        obtain ⟨hb, eb⟩ := hide_some eb
        have z1 : b ≠ sh := fun z => hb (by simp [z])
        have z2 : b ≠ dx := fun z => hb (by simp [z])
        have z3 : b ≠ e := fun z => hb (by simp [z])
        rw [hide_out (by simp [z1, z2, z3, nu0 eb]), fin b z1 (nu0 eb) z3]
        exact eb
      refine k H2 (shM sh dx e u') ⟨dx, p, e, u', es', [], rfl, ?_⟩ sm
      refine ⟨?_, ?_, ?_, ?_, Ne.symm ue, LP.same sm, Paired.same hes fun _ _ z => z.same sm, .nil, ?_, hls, ?_, ?_⟩
      · rw [← hH2, upd_same]
        rfl
      · rw [fin dx (Ne.symm ne_sh_dx) (nu0 S.own) ne_dx_e]
        exact S.own
      · rw [← hH2, upd_ne (Ne.symm ne_sh_e), upd_ne (Ne.symm ne_sh_e), upd_ne (Ne.symm ue)]
        exact he1
      · have us : u' ≠ sh := Ne.symm (nu0 S.obj)
        rw [← hH2, upd_ne us, upd_ne us, upd_same]
        rfl
      · show ((st.lines :: st.past).take 20).length + 0 ≤ 20
        rw [List.length_take]
        omega
      · intro ls' hm
        have hm : ls' ∈ (st.lines :: st.past).take 20 := hm
        rcases List.mem_cons.mp (List.mem_of_mem_take hm) with z | z
        · rw [z]
          exact S.s0
        · exact S.s1 ls' z
      · intro ls' hm
        cases hm
    have app : Paired (LinesAt (clsOf mg "Line") (hide (shM sh dx e u) H)) (es ++ [l]).reverse (st.lines :: st.past) := by
      rw [List.reverse_append]
      exact .cons S.now S.past
    have f1 : (upd H e (.lst (es.map V.ref ++ [V.ref l]))) sh = some (.ins (clsOf mg "Sheet") dx (shF (.ref l) (.ref e) (.ref u))) := by rw [upd_ne ne_sh_e]; exact S.obj
    refine ⟨_, rfl, sh, _, dx, _, _, rfl, f1, T.k_Sheet.cl, T.n_Sheet_earlier, rfl, e, _, rfl, .inl (SqL.of upd_same), _, _, rfl, rfl, _, rfl, ite2 (fun h => ?_) (fun h => ?_)⟩
    · have hl21 : es.length = 20 := by
        simp at h
        omega
      obtain ⟨a0, r0, ea⟩ : ∃ a0 r0, es ++ [l] = a0 :: r0 := by
        cases es with
        | nil => exact ⟨l, [], rfl⟩
        | cons a r => exact ⟨a, r ++ [l], rfl⟩
      have em : es.map V.ref ++ [V.ref l] = (a0 :: r0).map V.ref := by rw [← ea, List.map_append]; rfl
      have hr0 : r0.length = 20 := by
        have := congrArg List.length ea
        simp at this
        omega
      refine ⟨_, rfl, sh, _, dx, _, _, rfl, f1, T.k_Sheet.cl, T.n_Sheet_earlier, rfl, .inl ⟨rfl, _, SqL.of upd_same⟩, e, _, 0, 0, .ref a0, rfl, rfl, upd_same, by decide, by decide, ?_, by rw [em]; rfl, ?_⟩
      · rw [em]
        simp [seqIndex?]
      · refine rest r0 ?_ _ (fun b hb => by rw [upd_ne hb, upd_ne hb]) (by rw [upd_same, em]; rfl)
        rw [ea] at app
        have q := Paired.take 20 app
        rw [List.reverse_cons, List.take_append_of_le_length (by rw [List.length_reverse]; omega), List.take_of_length_le (by rw [List.length_reverse]; omega)] at q
        exact q
    · have hl20 : es.length < 20 := by
        simp at h
        omega
      refine rest (es ++ [l]) ?_ _ (fun b hb => by rw [upd_ne hb]) (by rw [upd_same, List.map_append]; rfl)
      rw [List.take_of_length_le (by rw [List.length_cons]; omega)]
      exact app
end
end SL
end
section
namespace SL
open PySem PySem.Spec PyProof.Rows L2
section
variable {P : Program} {w : World} {K : PySem.W.Frag} {mg : Str → Option Value} {base : Heap}
theorem last_ref (l' : List Addr) (a : Addr) : ((l' ++ [a]).map V.ref)[((l' ++ [a]).map V.ref).length - 1]? = some (V.ref a) := by simp
theorem drop_ref (l' : List Addr) (a : Addr) : ((l' ++ [a]).map V.ref).dropLast = l'.map V.ref := by simp
theorem ShA.moved {CL CS : Addr} {H H2 : Hp} {sh dx l e u l2 : Addr} {es us es2 us2 : List Addr} {st st2 : Vbexaa.St} (S : ShA CL CS H sh dx l e u es us st) (k : ∀ b, b ≠ sh → b ≠ e → b ≠ u → H2 b = H b)
    (o2 : H2 sh = some (.ins CS dx (shF (.ref l2) (.ref e) (.ref u)))) (e2 : H2 e = some (.lst (es2.map V.ref))) (u2 : H2 u = some (.lst (us2.map V.ref)))
    (n2 : LinesAt CL (hide (shM sh dx e u) H) l2 st2.lines) (p2 : Paired (LinesAt CL (hide (shM sh dx e u) H)) es2.reverse st2.past) (f2 : Paired (LinesAt CL (hide (shM sh dx e u) H)) us2.reverse st2.future)
    (hn : st2.past.length + st2.future.length ≤ 20) (t0 : Vbexaa.tooMany st2.lines = false) (t1 : ∀ ls ∈ st2.past, Vbexaa.tooMany ls = false) (t2 : ∀ ls ∈ st2.future, Vbexaa.tooMany ls = false) :
    Sheet CL CS H2 sh (shM sh dx e u) st2 ∧ Same (hide (shM sh dx e u) H) (hide (shM sh dx e u) H2) := by
  have ne1 : dx ≠ sh := ne_of S.own S.obj (by intro z; cases z)
  have ne2 : dx ≠ e := ne_of S.own S.ear (by intro z; cases z)
  have ne3 : dx ≠ u := ne_of S.own S.und (by intro z; cases z)
  have sm : Same (hide (shM sh dx e u) H) (hide (shM sh dx e u) H2) := fun b o eb => by
    obtain ⟨hb, eb⟩ := hide_some eb
    rw [hide_out hb, k b (fun z => hb (by simp [z])) (fun z => hb (by simp [z])) (fun z => hb (by simp [z]))]
    exact eb
  exact ⟨⟨dx, l2, e, u, es2, us2, rfl, o2, (k dx ne1 ne2 ne3).trans S.own, e2, u2, S.eu, n2.same sm, Paired.same p2 fun _ _ z => z.same sm, Paired.same f2 fun _ _ z => z.same sm, hn, t0, t1, t2⟩, sm⟩
def spUndo (CL CS : Addr) : Sp := fun vs H Q _ => ∃ (sh : Addr) (M : List Addr) (st : Vbexaa.St) (x : List Vbexaa.Line) (r : List (List Vbexaa.Line)), vs = [.ref sh] ∧ Sheet CL CS H sh M st ∧ st.past = x :: r ∧
  ∀ H' M', Sheet CL CS H' sh M' ⟨x, r, st.lines :: st.future⟩ → Same (hide M H) (hide M' H') → Q .non H'
theorem ok_undo (T : Txt K mg) : MdD P w K mg base "Sheet" "undo" 1 ["self"] (spUndo (clsOf mg "Line") (clsOf mg "Sheet")) := by
  have sc := sc_Sheet_undo
  refine md_of T.k_Sheet.cl T.m_Sheet_undo sc (fun vs H Q E h => ?_) (fun f cdv A outer s H vs Q E hr h => ?_)
  · obtain ⟨sh, M, st, x, r, rfl, _⟩ := h
    rfl
  · obtain ⟨sh, M, st, x, r, rfl, ⟨dx, l, e, u, es, us, rfl, S⟩, hp, k⟩ := h
    have big := line_big
    refine ⟨_, (pss_cons (ps_expr (pe_bm PySem.F.plainAttrs_list PySem.F.slot_list_append PySem.F.type_list_append mt_append (pe_fld (pv 0) rfl) (pa_cons (pe_fld (pv 0) rfl) pa_nil)))
      (pss_one (ps_fld (pv 0) (pe_bm0 PySem.F.plainAttrs_list PySem.F.slot_list_pop PySem.F.type_list_pop mt_pop (pe_fld (pv 0) rfl)) rfl))), ?_⟩
    have ne_sh_e : sh ≠ e := ne_of S.obj S.ear (by intro z; cases z)
    have ne_sh_u : sh ≠ u := ne_of S.obj S.und (by intro z; cases z)
    have hn := S.n
    have hul := paired_len S.fut
    rw [List.length_reverse] at hul
    have hpast := S.past
    rw [hp] at hpast
    obtain ⟨es', a, rfl, ha, hes⟩ := Paired.snoc_inv hpast
    refine ⟨_, rfl, sh, _, dx, _, _, rfl, S.obj, T.k_Sheet.cl, T.n_Sheet_undone, rfl, .inl ⟨rfl, _, SqL.of S.und⟩, _, rfl, sh, _, dx, _, _, rfl, S.obj, T.k_Sheet.cl, T.n_Sheet_lines, rfl, u, _, _, rfl, rfl, S.und, by rw [List.length_map]; omega, ?_⟩
    have f1 : (upd H u (.lst (us.map V.ref ++ [V.ref l]))) sh = some (.ins (clsOf mg "Sheet") dx (shF (.ref l) (.ref e) (.ref u))) := by rw [upd_ne ne_sh_u]; exact S.obj
    have f2 : (upd H u (.lst (us.map V.ref ++ [V.ref l]))) e = some (.lst ((es' ++ [a]).map V.ref)) := by rw [upd_ne S.eu]; exact S.ear
    refine ⟨_, rfl, sh, _, dx, _, _, rfl, f1, T.k_Sheet.cl, T.n_Sheet_earlier, rfl, .inl ⟨rfl, _, SqL.of f2⟩, e, _, _, rfl, rfl, f2, last_ref es' a, ?_⟩
    refine ⟨_, rfl, sh, _, dx, _, rfl, by rw [upd_ne ne_sh_e]; exact f1, T.k_Sheet.cl, T.n_Sheet_lines, (by show 3 < 1000; decide), ?_⟩
    obtain ⟨z1, z2⟩ := S.moved (H2 := upd (upd (upd H u (.lst (us.map V.ref ++ [V.ref l]))) e (.lst ((es' ++ [a]).map V.ref).dropLast)) sh (.ins (clsOf mg "Sheet") dx (putF "lines" (.ref a) (shF (.ref l) (.ref e) (.ref u))))) (l2 := a) (es2 := es') (us2 := us ++ [l]) (st2 := ⟨x, r, st.lines :: st.future⟩)
      (fun b h1 h2 h3 => by rw [upd_ne h1, upd_ne h2, upd_ne h3]) (by rw [upd_same]; rfl) (by rw [upd_ne (Ne.symm ne_sh_e), upd_same, drop_ref]) (by rw [upd_ne (Ne.symm ne_sh_u), upd_ne (Ne.symm S.eu), upd_same, List.map_append]; rfl)
      ha hes (by rw [List.reverse_append]; exact .cons S.now S.fut) (by rw [hp] at hn; simp at hn ⊢; omega) (S.s1 x (by rw [hp]; simp)) (fun ls hm => S.s1 ls (by rw [hp]; exact List.mem_cons_of_mem _ hm))
      (fun ls hm => by
        rcases List.mem_cons.mp hm with z | z
        · rw [z]
          exact S.s0
        · exact S.s2 ls z)
    exact k _ _ z1 z2
def spRedo (CL CS : Addr) : Sp := fun vs H Q _ => ∃ (sh : Addr) (M : List Addr) (st : Vbexaa.St) (x : List Vbexaa.Line) (r : List (List Vbexaa.Line)), vs = [.ref sh] ∧ Sheet CL CS H sh M st ∧ st.future = x :: r ∧
  ∀ H' M', Sheet CL CS H' sh M' ⟨x, (st.lines :: st.past).take 20, r⟩ → Same (hide M H) (hide M' H') → Q .non H'
theorem ok_redo (T : Txt K mg) : MdD P w K mg base "Sheet" "redo" 1 ["self"] (spRedo (clsOf mg "Line") (clsOf mg "Sheet")) := by
  have sc := sc_Sheet_redo
  refine md_of T.k_Sheet.cl T.m_Sheet_redo sc (fun vs H Q E h => ?_) (fun f cdv A outer s H vs Q E hr h => ?_)
  · obtain ⟨sh, M, st, x, r, rfl, _⟩ := h
    rfl
  · obtain ⟨sh, M, st, x, r, rfl, ⟨dx, l, e, u, es, us, rfl, S⟩, hp, k⟩ := h
    have big := line_big
    refine ⟨_, (pss_cons (ps_expr (pe_bm PySem.F.plainAttrs_list PySem.F.slot_list_append PySem.F.type_list_append mt_append (pe_fld (pv 0) rfl) (pa_cons (pe_fld (pv 0) rfl) pa_nil)))
      (pss_one (ps_fld (pv 0) (pe_bm0 PySem.F.plainAttrs_list PySem.F.slot_list_pop PySem.F.type_list_pop mt_pop (pe_fld (pv 0) rfl)) rfl))), ?_⟩
    have ne_sh_e : sh ≠ e := ne_of S.obj S.ear (by intro z; cases z)
    have ne_sh_u : sh ≠ u := ne_of S.obj S.und (by intro z; cases z)
    have hn := S.n
    have hel := paired_len S.past
    rw [List.length_reverse] at hel
    have hfut := S.fut
    rw [hp] at hfut
    have hn' : st.past.length + 1 + r.length ≤ 20 := by rw [hp] at hn; simp at hn; omega
    obtain ⟨us', a, rfl, ha, hus⟩ := Paired.snoc_inv hfut
    refine ⟨_, rfl, sh, _, dx, _, _, rfl, S.obj, T.k_Sheet.cl, T.n_Sheet_earlier, rfl, .inl ⟨rfl, _, SqL.of S.ear⟩, _, rfl, sh, _, dx, _, _, rfl, S.obj, T.k_Sheet.cl, T.n_Sheet_lines, rfl, e, _, _, rfl, rfl, S.ear, by rw [List.length_map]; omega, ?_⟩
    have f1 : (upd H e (.lst (es.map V.ref ++ [V.ref l]))) sh = some (.ins (clsOf mg "Sheet") dx (shF (.ref l) (.ref e) (.ref u))) := by rw [upd_ne ne_sh_e]; exact S.obj
    have f2 : (upd H e (.lst (es.map V.ref ++ [V.ref l]))) u = some (.lst ((us' ++ [a]).map V.ref)) := by rw [upd_ne (Ne.symm S.eu)]; exact S.und
    refine ⟨_, rfl, sh, _, dx, _, _, rfl, f1, T.k_Sheet.cl, T.n_Sheet_undone, rfl, .inl ⟨rfl, _, SqL.of f2⟩, u, _, _, rfl, rfl, f2, last_ref us' a, ?_⟩
    refine ⟨_, rfl, sh, _, dx, _, rfl, by rw [upd_ne ne_sh_u]; exact f1, T.k_Sheet.cl, T.n_Sheet_lines, (by show 3 < 1000; decide), ?_⟩
    have tk : (st.lines :: st.past).take 20 = st.lines :: st.past := List.take_of_length_le (by rw [List.length_cons]; omega)
    obtain ⟨z1, z2⟩ := S.moved (H2 := upd (upd (upd H e (.lst (es.map V.ref ++ [V.ref l]))) u (.lst ((us' ++ [a]).map V.ref).dropLast)) sh (.ins (clsOf mg "Sheet") dx (putF "lines" (.ref a) (shF (.ref l) (.ref e) (.ref u))))) (l2 := a) (es2 := es ++ [l]) (us2 := us') (st2 := ⟨x, (st.lines :: st.past).take 20, r⟩)
      (fun b h1 h2 h3 => by rw [upd_ne h1, upd_ne h3, upd_ne h2]) (by rw [upd_same]; rfl) (by rw [upd_ne (Ne.symm ne_sh_e), upd_ne S.eu, upd_same, List.map_append]; rfl) (by rw [upd_ne (Ne.symm ne_sh_u), upd_same, drop_ref])
      ha (by rw [tk, List.reverse_append]; exact .cons S.now S.past) hus (by rw [tk]; simp; omega) (S.s2 x (by rw [hp]; simp))
      (fun ls hm => by
        rw [tk] at hm
        rcases List.mem_cons.mp hm with z | z
        · rw [z]
          exact S.s0
        · exact S.s1 ls z)
      (fun ls hm => S.s2 ls (by rw [hp]; exact List.mem_cons_of_mem _ hm))
    exact k _ _ z1 z2
end
end SL
end
section
namespace SL
open PySem PySem.Spec PyProof.Rows L2
section
variable {P : Program} {w : World} {K : PySem.W.Frag} {mg : Str → Option Value} {base : Heap}
abbrev cL (mg : Str → Option Value) : Addr := clsOf mg "Line"
abbrev cS (mg : Str → Option Value) : Addr := clsOf mg "Sheet"
abbrev cG (mg : Str → Option Value) : Addr := clsOf mg "Leg"
def Told (mg : Str → Option Value) (sh : Addr) (M : List Addr) (H : Hp) (r : Vbexaa.St × List Int) (Q : VK) : Prop :=
  ∀ H' M' p, Sheet (cL mg) (cS mg) H' sh M' r.1 → Same (hide M H) (hide M' H') → hide M H p = none → hide M' H' p = some (.lst (r.2.map V.int)) → Q (.ref p) H'
theorem told_new {sh p : Addr} {M M1 : List Addr} {H H1 : Hp} {r : Vbexaa.St × List Int} {Q : VK} (T : Told mg sh M H r Q) (S : Sheet (cL mg) (cS mg) H1 sh M1 r.1) (sm : Same (hide M H) (hide M1 H1)) (hp : H1 p = none) {xs : List V} (e : xs = r.2.map V.int) : Q (.ref p) (upd H1 p (.lst xs)) := by
  obtain ⟨S2, e2⟩ := S.new (o := .lst xs) hp
  have hp' : hide M1 H1 p = none := hide_same.free hp
  refine T _ M1 p S2 ?_ (sm.free hp') ?_
  · rw [e2]
    exact sm.tr_new hp'
  · rw [e2, upd_same, e]
def fitted (st : Vbexaa.St) (ls : List Vbexaa.Line) : Vbexaa.St × List Int := if Vbexaa.tooMany ls = true then (st, [-5]) else (Vbexaa.changed st ls, [(ls.length : Int)])
theorem LinesAt.len {C : Addr} {H : Hp} {p : Addr} {ls : List Vbexaa.Line} (h : LinesAt C H p ls) : ∃ xs : List V, H p = some (.lst xs) ∧ xs.length = ls.length := by
  obtain ⟨as, h1, h2⟩ := h
  exact ⟨_, h1, by rw [List.length_map]; exact paired_len h2⟩
theorem Sheet.lines {CL CS : Addr} {H : Hp} {sh : Addr} {M : List Addr} {st : Vbexaa.St} (S : Sheet CL CS H sh M st) : ∃ dx l e u, H sh = some (.ins CS dx (shF (.ref l) e u)) ∧ LinesAt CL (hide M H) l st.lines ∧ Vbexaa.tooMany st.lines = false := by
  obtain ⟨dx, l, e, u, es, us, rfl, S⟩ := S
  exact ⟨dx, l, _, _, S.obj, S.now, S.s0⟩
theorem ne_mem {p b : Addr} {M : List Addr} (hp : p ∉ M) (hb : b ∈ M) : b ≠ p := fun z => hp (by rw [← z]; exact hb)
theorem one_size : 1 ≤ sizeLine := by have := line_big; omega
theorem ok_change_if_fitting (T : Txt K mg) : Df P w K mg base "change_if_fitting" 3 ["sheet", "lines"] (fun vs H Q _ => ∃ (sh p : Addr) (M : List Addr) (st : Vbexaa.St) (ls : List Vbexaa.Line), vs = [.ref sh, .ref p] ∧ Sheet (cL mg) (cS mg) H sh M st ∧
    LinesAt (cL mg) (hide M H) p ls ∧ ls.length ≤ 10000 ∧ Told mg sh M H (fitted st ls) Q) := by
  have sc := sc_change_if_fitting
  have D_is_too_much := ok_is_too_much (P := P) (w := w) (base := base) T
  have M_Sheet_change := ok_change (P := P) (w := w) (base := base) T
  refine df_of T.f_change_if_fitting sc (fun vs H Q E h => ?_) (fun f cdv A outer s H vs Q E hr h => ?_)
  · obtain ⟨sh, p, M, st, ls, rfl, _⟩ := h
    rfl
  · obtain ⟨sh, p, M, st, ls, rfl, S, L, hl, k⟩ := h
    refine ⟨_, (pss_cons (ps_if (pt_truth (pe_df D_is_too_much.fr hr.m rfl (pa_cons (pv 1) pa_nil)) (fun _ => rfl))
        (pss_one (ps_ret (pe_lst (pa_cons (pe_gc rfl T.c_TOO_MUCH) pa_nil))))
        pss_nil)
      (pss_cons (ps_expr (pe_dm (pv 0) M_Sheet_change hr.m (pa_cons (pv 1) pa_nil)))
      (pss_one (ps_ret (pe_lst (pa_cons (pe_callB call_len_seq (by rfl) T.b_len PySem.boot_len (pa_cons (pe_fld (pv 0) rfl) pa_nil)) pa_nil)))))), ?_⟩
    refine ⟨_, rfl, M, S.mok, p, ls, rfl, L, by omega, fun G s1 gm => ⟨_, rfl, ite2 (fun h => ?_) (fun h => ?_)⟩⟩
    · have S1 := S.back gm s1
      refine ⟨one_size, fun q hq => ?_⟩
      have e : fitted st ls = (st, [-5]) := if_pos h
      rw [e] at k
      exact told_new k S1 (by rw [hide_back gm]; exact s1) hq rfl
    · have S1 := S.back gm s1
      have hf : Vbexaa.tooMany ls = false := by simpa using h
      have e : fitted st ls = (Vbexaa.changed st ls, [(ls.length : Int)]) := if_neg h
      rw [e] at k
      obtain ⟨dx, l, e1, u1, o1, _⟩ := S1.lines
      refine ⟨_, rfl, sh, dx, _, rfl, o1, rfl, _, rfl, sh, p, M, st, ls, rfl, S1, by rw [hide_back gm]; exact L.same s1, hf, fun H3 M3 S3 sm3 => ?_⟩
      rw [hide_back gm] at sm3
      obtain ⟨dx3, l3, e3, u3, o3, L3, _⟩ := S3.lines
      obtain ⟨xs, hx, hlen⟩ := L3.len
      refine ⟨_, rfl, sh, _, dx3, _, _, rfl, o3, T.k_Sheet.cl, T.n_Sheet_lines, rfl, l3, _, rfl, .inl (SqL.of (hide_same _ _ hx)), one_size, fun q hq => ?_⟩
      refine told_new k S3 (s1.trans sm3) hq ?_
      rw [hlen]
      rfl
def spCall (mg : Str → Option Value) (g : Vbexaa.St → List Int → List Int → Vbexaa.St × List Int) (pre : List Int → List Int → Prop) : Sp := fun vs H Q _ => ∃ (sh nb rw : Addr) (M : List Addr) (st : Vbexaa.St) (ns row : List Int), vs = [.ref sh, .ref nb, .ref rw] ∧
  Sheet (cL mg) (cS mg) H sh M st ∧ hide M H nb = some (.lst (ns.map V.int)) ∧ hide M H rw = some (.lst (row.map V.int)) ∧ pre ns row ∧ Told mg sh M H (g st ns row) Q
theorem nats_of {row : List Int} (h : (row.all fun c => decide (0 ≤ c) && decide (c ≤ 255)) = true) : row.map V.int = vN (Vbexaa.nats row) := by
  unfold vN Vbexaa.nats
  rw [List.map_map]
  refine List.map_congr_left fun c hc => ?_
  have q := List.all_eq_true.mp h c hc
  simp at q
  show V.int c = V.int ((c.toNat : Nat) : Int)
  rw [Int.toNat_of_nonneg q.1]
theorem areBytes_eq (row : List Int) (m : Nat) : (decide ((row.length : Int) ≤ (m : Int)) && row.all fun c => decide (0 ≤ c) && decide (c ≤ 255)) = Vbexaa.areBytes row m := by
  unfold Vbexaa.areBytes
  rw [dec_cast]
  rfl
theorem mok_cons {M : List Addr} {H : Hp} {p : Addr} {xs : List V} (m : MOk M H) (h : H p = some (.lst xs)) : MOk (p :: M) H := by
  have q := mok_lst h
  refine ⟨fun b hb => ?_, fun a o dx e i d => ⟨fun z => ?_, fun z => ?_⟩, fun b hb xs e => ?_⟩
  · rcases List.mem_cons.mp hb with z | z
    · exact q.there b (by rw [z]; simp)
    · exact m.there b z
  · rcases List.mem_cons.mp z with z | z
    · rw [z, h] at e
      cases e
      cases i
    · exact List.mem_cons_of_mem _ ((m.own a o dx e i d).mp z)
  · rcases List.mem_cons.mp z with z | z
    · rw [z, h] at d
      cases d
    · exact List.mem_cons_of_mem _ ((m.own a o dx e i d).mpr z)
  · rcases List.mem_cons.mp hb with z | z
    · rw [z, h] at e
      cases e
    · exact m.tup b z xs e
theorem hide_cons {M : List Addr} {H : Hp} {p : Addr} : Same (hide (p :: M) H) (hide M H) := fun b o e => by
  obtain ⟨h1, h2⟩ := hide_some e
  rw [hide_out (fun z => h1 (List.mem_cons_of_mem _ z))]
  exact h2
theorem readFrom_cons (i : Nat) (done : List Vbexaa.Line) (t : List Nat) (l : List (List Nat)) : Vbexaa.readFrom i done (t :: l) = match Vbexaa.readLine t with
    | none => .error i
    | some x => Vbexaa.readFrom (i + 1) (done ++ [x]) l := by
  rw [Vbexaa.readFrom]
  cases Vbexaa.readLine t <;> rfl
def gText (st : Vbexaa.St) (_ns row : List Int) : Vbexaa.St × List Int := Vbexaa.step st (.text row)
theorem step_no {st : Vbexaa.St} {c : Vbexaa.Call} (h : Vbexaa.ranged st c = false) : Vbexaa.step st c = (st, [-1]) := by
  unfold Vbexaa.step
  rw [if_pos h]
theorem step_yes {st : Vbexaa.St} {c : Vbexaa.Call} (h : Vbexaa.ranged st c = true) : Vbexaa.step st c = Vbexaa.act st c := by
  unfold Vbexaa.step
  rw [if_neg (by rw [h]; simp)]
theorem text_no {st : Vbexaa.St} {ns row : List Int} (h : Vbexaa.areBytes row 2000 = false) : gText st ns row = (st, [-1]) := step_no (c := .text row) h
theorem text_yes {st : Vbexaa.St} {ns row : List Int} (h : Vbexaa.areBytes row 2000 = true) : gText st ns row = match Vbexaa.readText (Vbexaa.nats row) with
    | .error i => (st, [-100 - (i : Int)])
    | .ok l => fitted st l := by
  unfold gText
  rw [step_yes (c := .text row) h]
  unfold Vbexaa.act fitted
  dsimp only
  cases Vbexaa.readText (Vbexaa.nats row) <;> rfl
theorem linesOf_small (t : List Nat) : ∀ u ∈ Vbexaa.linesOf t, u.length ≤ t.length := fun u hu => by
  unfold Vbexaa.linesOf at hu
  dsimp only at hu
  split at hu
  · exact pieces_small 10 t u ((List.dropLast_sublist _).subset hu)
  · exact pieces_small 10 t u hu
theorem pieces_count (m : Nat) : ∀ t : List Nat, (Vbexaa.pieces m t).length ≤ t.length + 1
  | [] => by simp [Vbexaa.pieces]
  | c :: r => by
    have ih := pieces_count m r
    obtain ⟨w, l, e⟩ := pieces_ne m r
    rw [Vbexaa.pieces]
    split
    · simp
      omega
    · rw [e] at ih ⊢
      simp at ih ⊢
      omega
theorem linesOf_count (t : List Nat) : (Vbexaa.linesOf t).length ≤ t.length + 1 := by
  have := pieces_count 10 t
  unfold Vbexaa.linesOf
  dsimp only
  split
  · rw [List.length_dropLast]
    omega
  · exact this
theorem ok_call_text (T : Txt K mg) : Df P w K mg base "call_text" 8 ["sheet", "numbers", "row"] (spCall mg gText fun _ row => row.length ≤ 2010) := by
  have sc := sc_call_text
  have D_are_bytes := ok_are_bytes (P := P) (w := w) (base := base) T
  have D_lines_parted := ok_lines_parted (P := P) (w := w) (base := base) T
  have D_read_line := ok_read_line (P := P) (w := w) (base := base) T
  have D_change_if_fitting := ok_change_if_fitting (P := P) (w := w) (base := base) T
  refine df_of T.f_call_text sc (fun vs H Q E h => ?_) (fun f cdv A outer s H vs Q E hr h => ?_)
  · obtain ⟨sh, nb, rw, M, st, ns, row, rfl, _⟩ := h
    rfl
  · obtain ⟨sh, nb, rw, M, st, ns, row, rfl, S, hnb, hrw, pre, k⟩ := h
    have big := line_big
    refine ⟨_, (pss_cons (ps_if (pt_not (pt_truth (pe_df D_are_bytes.fr hr.m rfl (pa_cons (pv 2) (pa_cons (pe_gc rfl T.c_MOST_TEXT_BYTES) pa_nil))) (fun _ => rfl)))
        (pss_one (ps_ret (pe_lst (pa_cons (pe_gc rfl T.c_OUT_OF_RANGE) pa_nil))))
        pss_nil)
      (pss_cons (ps_set (i := 3) sc.nd rfl (Or.inl rfl) (pe_lst pa_nil))
      (pss_cons (ps_for PassesOwn.never rfl (pi_list (pe_df D_lines_parted.fr hr.m rfl (pa_cons (pv 2) pa_nil))) (pg_name (i := 4) sc.nd rfl (Or.inl rfl))
        (pss_cons (ps_set (i := 5) sc.nd rfl (Or.inl rfl) (pe_df D_read_line.fr hr.m rfl (pa_cons (pv 4) pa_nil)))
        (pss_cons (ps_if (pt_cmpR op_isN (pv 5) pe_non (nomark _))
          (pss_one (ps_ret (pe_lst (pa_cons (pe_op op_sub (pe_op op_sub (pe_gc rfl T.c_WRONG_LINE) (pe_callB call_len_seq (by rfl) T.b_len PySem.boot_len (pa_cons (pv 3) pa_nil))) pe_int) pa_nil))))
          pss_nil)
        (pss_one (ps_expr (pe_bm PySem.F.plainAttrs_list PySem.F.slot_list_append PySem.F.type_list_append mt_append (pv 3) (pa_cons (pv 5) pa_nil)))))))
      (pss_one (ps_ret (pe_df D_change_if_fitting hr.m rfl (pa_cons (pv 0) (pa_cons (pv 3) pa_nil)))))))), ?_⟩
    refine ⟨_, rfl, M, S.mok, rw, row, 2000, rfl, hrw, by omega, fun G s1 gm => ⟨_, rfl, ite2 (fun h => ?_) (fun h => ?_)⟩⟩
    · have hb : Vbexaa.areBytes row 2000 = false := by
        have q : (decide ((row.length : Int) ≤ 2000) && row.all fun c => decide (0 ≤ c) && decide (c ≤ 255)) = Vbexaa.areBytes row 2000 := areBytes_eq row 2000
        rw [← q]
        simpa only [Bool.not_eq_true'] using h
      rw [text_no hb] at k
      refine ⟨one_size, fun q hq => ?_⟩
      exact told_new k (S.back gm s1) (by rw [hide_back gm]; exact s1) hq rfl
    · have hb : Vbexaa.areBytes row 2000 = true := by
        have q : (decide ((row.length : Int) ≤ 2000) && row.all fun c => decide (0 ≤ c) && decide (c ≤ 255)) = Vbexaa.areBytes row 2000 := areBytes_eq row 2000
        rw [← q]
        simpa only [Bool.not_eq_true', Bool.not_eq_false] using h
      have hall : (row.all fun c => decide (0 ≤ c) && decide (c ≤ 255)) = true := by
        have q := areBytes_eq row 2000
        rw [hb] at q
        simp only [Bool.and_eq_true] at q
        exact q.2
      rw [text_yes hb] at k
      have S1 := S.back gm s1
      have g1 : hide M (back M H G) = G := hide_back gm
      have hvn := nats_of hall
      have hlen : (Vbexaa.nats row).length = row.length := List.length_map _
      generalize htt : Vbexaa.nats row = t at k hvn hlen
      refine ⟨Nat.zero_le _, fun p hp => ?_⟩
      have hpM : p ∉ M := fun z => S1.mok.there p z hp
      have hpm : p ∈ p :: M := by simp
      generalize hH2 : upd (back M H G) p (.lst []) = H2
      have hH2p : H2 p = some (.lst []) := by rw [← hH2]; exact upd_same
      have k2 : ∀ b ∈ M, H2 b = H b := fun b hb => by rw [← hH2, upd_ne (ne_mem hpM hb), back_in hb]
      have gg : hide (p :: M) H2 = G := by
        funext b
        by_cases z : b = p
        · subst z
          rw [hide_in (by simp)]
          exact ((back_same gm).free hp).symm
        · by_cases y : b ∈ M
          · rw [hide_in (by simp [y]), gm b y]
          · rw [hide_out (by simp [z, y]), ← hH2, upd_ne z, back_out y]
      have sM : ∀ {H'}, Same G (hide (p :: M) H') → Same (hide M H) (hide M H') := fun z => (s1.trans z).trans hide_cons
      have SS : ∀ {H'}, (∀ b ∈ M, H' b = H b) → Same G (hide (p :: M) H') → Sheet (cL mg) (cS mg) H' sh M st := fun k z => S.ext k (sM z)
      have hrw2 : hide (p :: M) H2 rw = some (.lst (vN t)) := by
        rw [gg, ← hvn]
        exact s1 _ _ hrw
      refine ⟨_, rfl, p :: M, mok_cons (SS k2 (by rw [gg]; exact Same.rfl')).mok hH2p, rw, t, rfl, hrw2, by omega, fun G3 q s3 hq LLq gm3 => ?_⟩
      rw [gg] at s3
      have g3 : hide (p :: M) (back (p :: M) H2 G3) = G3 := hide_back gm3
      have k3 : ∀ b ∈ M, back (p :: M) H2 G3 b = H b := fun b hb => by rw [back_in (List.mem_cons_of_mem _ hb)]; exact k2 b hb
      have hp3 : back (p :: M) H2 G3 p = some (.lst []) := by rw [back_in hpm]; exact hH2p
      generalize hH3 : back (p :: M) H2 G3 = H3 at k3 hp3 g3
      obtain ⟨as, hq1, hq2⟩ := LLq
      have hql := paired_len hq2
      have cnt := linesOf_count t
      have kk : ∀ {r}, (match Vbexaa.readText t with
        | .error i => (st, [-100 - (i : Int)])
        | .ok l => fitted st l) = r → Told mg sh M H r Q := fun z => z ▸ k
      refine ⟨q, rfl, ⟨_, SqL.of (hide_same (M := p :: M) _ _ (by rw [g3]; exact hq1))⟩, for_list (K := K) (a := q) (xs := as.map V.ref) (fun i σ H' => ∃ v4 v5 cs done, σ = [some (.ref sh), some (.ref nb), some (.ref rw), some (.ref p), v4, v5] ∧ (∀ b ∈ M, H' b = H b) ∧ H' p = some (.lst (cs.map V.ref)) ∧ Same G3 (hide (p :: M) H') ∧
          Paired (LineAt (cL mg) (hide (p :: M) H')) cs done ∧ done.length = i ∧ Vbexaa.readFrom (i + 1) done ((Vbexaa.linesOf t).drop i) = Vbexaa.readText t)
        ⟨none, none, [], [], rfl, k3, hp3, by rw [g3]; exact Same.rfl', .nil, rfl, rfl⟩ (fun i σ H' _ ⟨_, _, _, _, _, _, _, s5, _⟩ => SqL.of (hide_same _ _ (s5 _ _ hq1))) ?_ ?_⟩
      · rintro i y σ H' hi ⟨v4, v5, cs, done, rfl, k5, hp5, s5, C5, hd5, e5⟩
        obtain ⟨b, hbi, rfl⟩ := refs_of hi
        obtain ⟨u, hu, hub⟩ := Paired.getL hq2 hbi
        have hiu : i < (Vbexaa.linesOf t).length := (List.getElem?_eq_some_iff.mp hu).1
        have hul := linesOf_small t u (List.mem_of_getElem? hu)
        rw [drop_one hu, readFrom_cons] at e5
        have hcl := paired_len C5
        refine ⟨_, rfl, p :: M, mok_cons (SS k5 (s3.trans s5)).mok hp5, b, u, rfl, s5 _ _ hub, by omega, fun G6 v6 s6 hv6 gm6 => ?_⟩
        have g6 : hide (p :: M) (back (p :: M) H' G6) = G6 := hide_back gm6
        have k6 : ∀ b ∈ M, back (p :: M) H' G6 b = H b := fun b hb => by rw [back_in (List.mem_cons_of_mem _ hb)]; exact k5 b hb
        have hp6 : back (p :: M) H' G6 p = some (.lst (cs.map V.ref)) := by rw [back_in hpm]; exact hp5
        generalize hH6 : back (p :: M) H' G6 = H6 at k6 hp6 g6
        have s36 : Same G (hide (p :: M) H6) := by rw [g6]; exact s3.trans (s5.trans s6)
        cases er : Vbexaa.readLine u with
        | none =>
          rw [er] at hv6 e5
          obtain rfl : v6 = .non := hv6
          refine ⟨_, rfl, rfl, _, rfl, iteT ?_⟩
          refine ⟨_, rfl, p, _, rfl, .inl (SqL.of hp6), _, _, rfl, rfl, _, _, rfl, rfl, one_size, fun q2 hq2' => ?_⟩
          have e7 : Vbexaa.readText t = .error (i + 1) := e5.symm
          refine told_new (kk (by rw [e7])) (SS k6 s36) (sM s36) hq2' ?_
          show [V.int (-100 - ((cs.map V.ref).length : Int) - 1)] = [V.int (-100 - ((i + 1 : Nat) : Int))]
          rw [List.length_map, hcl, hd5]
          congr 2
          omega
        | some x =>
          rw [er] at hv6 e5
          obtain ⟨a6, rfl, ha6⟩ := hv6
          refine ⟨_, rfl, rfl, _, rfl, iteF ?_⟩
          refine ⟨_, rfl, .inl ⟨rfl, _, SqL.of hp6⟩, _, rfl, p, _, _, rfl, rfl, hp6, by rw [List.length_map]; omega, ?_⟩
          refine ⟨_, _, cs ++ [a6], done ++ [x], rfl, fun b hb => by rw [upd_ne (ne_mem hpM hb)]; exact k6 b hb, by rw [upd_same, List.map_append]; rfl, ?_, ?_, by rw [List.length_append, hd5]; rfl, e5⟩
          · rw [hide_upd hpm, g6]
            exact s5.trans s6
          · rw [hide_upd hpm, g6]
            exact Paired.app (Paired.same C5 fun _ _ z => z.same s6) (Paired.one ha6)
      · rintro σ H' ⟨v4, v5, cs, done, rfl, k5, hp5, s5, C5, hd5, e5⟩
        rw [List.length_map, hql, List.drop_length] at e5
        have e7 : Vbexaa.readText t = .ok done := e5.symm
        refine ⟨_, rfl, _, rfl, sh, p, M, st, done, rfl, SS k5 (s3.trans s5), ⟨cs, by rw [hide_out hpM]; exact hp5, Paired.same C5 fun _ _ z => z.same hide_cons⟩, ?_, ?_⟩
        · rw [hd5, List.length_map, hql]
          omega
        · intro H8 M8 p8 S8 sm8 hn8 ha8
          exact kk (by rw [e7]) H8 M8 p8 S8 ((sM (s3.trans s5)).trans sm8) ((sM (s3.trans s5)).free hn8) ha8
end
end SL
end
section
namespace SL
open PySem PySem.Spec PyProof.Rows L2
theorem cut_take (xs : List V) (k : Nat) (h : k ≤ xs.length) : cutV xs none (some (k : Int)) = xs.take k := by
  unfold cutV
  rw [HT.sIx_none, HT.sIx_nat, Nat.min_eq_left h]
  simp
theorem cut_drop (xs : List V) (k : Nat) : cutV xs (some (k : Int)) none = xs.drop k := by
  unfold cutV
  rw [HT.sIx_none, HT.sIx_nat]
  rcases Nat.le_total k xs.length with h | h
  · rw [Nat.min_eq_left h, List.take_of_length_le (by rw [List.length_drop]; exact Nat.le_refl _)]
  · rw [Nat.min_eq_right h]
    simp [h]
theorem Paired.drop {α β : Type} {F : α → β → Prop} : ∀ {l : List α} {m : List β} (n : Nat), Paired F l m → Paired F (l.drop n) (m.drop n)
  | _, _, 0, h => h
  | _, _, _ + 1, .nil => .nil
  | _, _, n + 1, .cons _ t => Paired.drop n t
section
variable {P : Program} {w : World} {K : PySem.W.Frag} {mg : Str → Option Value} {base : Heap}
def gPut (st : Vbexaa.St) (ns row : List Int) : Vbexaa.St × List Int := Vbexaa.step st (.put (ns.headD 0) row)
theorem put_no {st : Vbexaa.St} {k : Int} {row : List Int} (h : (Vbexaa.within k 0 (st.lines.length : Int) && Vbexaa.areBytes row 200) = false) : gPut st [k] row = (st, [-1]) := step_no (c := .put k row) h
theorem put_yes {st : Vbexaa.St} {k : Int} {row : List Int} (h : (Vbexaa.within k 0 (st.lines.length : Int) && Vbexaa.areBytes row 200) = true) : gPut st [k] row = match Vbexaa.readLine (Vbexaa.nats row) with
    | none => (st, [-2])
    | some x => fitted st (st.lines.take k.toNat ++ (x :: st.lines.drop k.toNat)) := by
  unfold gPut
  rw [List.headD_cons, step_yes (c := .put k row) h]
  unfold Vbexaa.act fitted
  dsimp only
  cases Vbexaa.readLine (Vbexaa.nats row) <;> rfl
theorem ok_call_put (T : Txt K mg) : Df P w K mg base "call_put" 8 ["sheet", "numbers", "row"] (spCall mg gPut fun ns row => (∃ k, ns = [k]) ∧ row.length ≤ 210) := by
  have sc := sc_call_put
  have D_are_bytes := ok_are_bytes (P := P) (w := w) (base := base) T
  have D_read_line := ok_read_line (P := P) (w := w) (base := base) T
  have D_change_if_fitting := ok_change_if_fitting (P := P) (w := w) (base := base) T
  refine df_of T.f_call_put sc (fun vs H Q E h => ?_) (fun f cdv A outer s H vs Q E hr h => ?_)
  · obtain ⟨sh, nb, rw, M, st, ns, row, rfl, _⟩ := h
    rfl
  · obtain ⟨sh, nb, rw, M, st, ns, row, rfl, S, hnb, hrw, ⟨⟨kk, rfl⟩, pre⟩, k⟩ := h
    have big := line_big
    refine ⟨_, (pss_cons (ps_set (i := 3) sc.nd rfl (Or.inl rfl) (pe_ix ix_list (pv 1) pe_int (fun _ _ => rfl)))
      (pss_cons (ps_if (PW.pt (pw_or (pt_cmpR op_lt (pv 3) pe_int (nomark _)) (pw_or (pt_cmpR op_gt (pv 3) (pe_callB call_len_seq (by rfl) T.b_len PySem.boot_len (pa_cons (pe_fld (pv 0) rfl) pa_nil)) (nomark _)) (pw_or1 (pt_not (pt_truth (pe_df D_are_bytes.fr hr.m rfl (pa_cons (pv 2) (pa_cons (pe_gc rfl T.c_MOST_LINE_BYTES) pa_nil))) (fun _ => rfl)))))))
        (pss_one (ps_ret (pe_lst (pa_cons (pe_gc rfl T.c_OUT_OF_RANGE) pa_nil))))
        pss_nil)
      (pss_cons (ps_set (i := 4) sc.nd rfl (Or.inl rfl) (pe_df D_read_line.fr hr.m rfl (pa_cons (pv 2) pa_nil)))
      (pss_cons (ps_if (pt_cmpR op_isN (pv 4) pe_non (nomark _))
        (pss_one (ps_ret (pe_lst (pa_cons (pe_gc rfl T.c_NOT_A_LINE) pa_nil))))
        pss_nil)
      (pss_one (ps_ret (pe_df D_change_if_fitting hr.m rfl (pa_cons (pv 0) (pa_cons (pe_op op_cat (pe_op op_cat (pe_slice sl_list (pe_fld (pv 0) rfl) po_none (po_some (pv 3))) (pe_lst (pa_cons (pv 4) pa_nil))) (pe_slice sl_list (pe_fld (pv 0) rfl) (po_some (pv 3)) po_none)) pa_nil))))))))), ?_⟩
    obtain ⟨dx, l, e1, u1, o1, ⟨as, hl1, hl2⟩, too⟩ := S.lines
    have hal := paired_len hl2
    have hsz := (too_len too).1
    have no : ∀ {H'}, (∀ b ∈ M, H' b = H b) → Same (hide M H) (hide M H') → (Vbexaa.within kk 0 (st.lines.length : Int) && Vbexaa.areBytes row 200) = false → tRet (tLst (tCons (tC (V.int (-1))) tNil)) { nx := fun _ H' => Q .non H', rt := Q } [some (.ref sh), some (.ref nb), some (.ref rw), some (.int kk), none] H' := fun {H'} k1 s1 hb => by
      refine ⟨one_size, fun q hq => ?_⟩
      rw [put_no hb] at k
      exact told_new k (S.ext k1 s1) s1 hq rfl
    refine ⟨_, rfl, nb, _, _, _, rfl, rfl, SqL.of (hide_same _ _ hnb), at_of (j := 0) rfl rfl, ?_⟩
    refine ⟨_, rfl, _, _, rfl, rfl, _, rfl, ite2 (fun h => iteT (no (fun _ _ => rfl) Same.rfl' ?_)) (fun h => ?_)⟩
    · rw [decide_eq_true_eq] at h
      unfold Vbexaa.within
      rw [decide_eq_false (show ¬ 0 ≤ kk by omega)]
      rfl
    · rw [decide_eq_true_eq] at h
      refine ⟨_, rfl, _, rfl, sh, _, dx, _, _, rfl, o1, T.k_Sheet.cl, T.n_Sheet_lines, rfl, l, _, rfl, .inl (SqL.of (hide_same _ _ hl1)), _, _, rfl, rfl, _, rfl, ite2 (fun h2 => iteT (no (fun _ _ => rfl) Same.rfl' ?_)) (fun h2 => ?_)⟩
      · rw [List.length_map, hal, decide_eq_true_eq] at h2
        unfold Vbexaa.within
        rw [decide_eq_false (show ¬ kk ≤ (st.lines.length : Int) by omega), Bool.and_false]
        rfl
      · rw [List.length_map, hal, decide_eq_true_eq] at h2
        have hw : Vbexaa.within kk 0 (st.lines.length : Int) = true := by
          unfold Vbexaa.within
          rw [decide_eq_true (show 0 ≤ kk by omega), decide_eq_true (show kk ≤ (st.lines.length : Int) by omega)]
          rfl
        refine ⟨_, rfl, M, S.mok, rw, row, 200, rfl, hrw, by omega, fun G s1 gm => ⟨_, rfl, ite2 (fun h3 => ?_) (fun h3 => ?_)⟩⟩
        · refine no (fun b hb => back_in hb) (by rw [hide_back gm]; exact s1) ?_
          have q : (decide ((row.length : Int) ≤ 200) && row.all fun c => decide (0 ≤ c) && decide (c ≤ 255)) = Vbexaa.areBytes row 200 := areBytes_eq row 200
          rw [← q]
          have h4 := (Bool.not_eq_true' _).mp h3
          rw [h4, Bool.and_false]
        · have q : (decide ((row.length : Int) ≤ 200) && row.all fun c => decide (0 ≤ c) && decide (c ≤ 255)) = Vbexaa.areBytes row 200 := areBytes_eq row 200
          have hb : Vbexaa.areBytes row 200 = true := by
            rw [← q]
            simpa only [Bool.not_eq_true', Bool.not_eq_false] using h3
          have hall : (row.all fun c => decide (0 ≤ c) && decide (c ≤ 255)) = true := by
            rw [hb] at q
            simp only [Bool.and_eq_true] at q
            exact q.2
          rw [put_yes (by rw [hw, hb]; rfl)] at k
          have hvn := nats_of hall
          have hlen : (Vbexaa.nats row).length = row.length := List.length_map _
          generalize htt : Vbexaa.nats row = t at k hvn hlen
          have S1 := S.back gm s1
          have g1 : hide M (back M H G) = G := hide_back gm
          have kM1 : ∀ b ∈ M, back M H G b = H b := fun b hb => back_in hb
          generalize hH1 : back M H G = H1 at S1 g1 kM1
          refine ⟨_, rfl, M, S1.mok, rw, t, rfl, by rw [g1, ← hvn]; exact s1 _ _ hrw, by omega, fun G2 v2 s2 hv2 gm2 => ?_⟩
          rw [g1] at s2
          have s12 := s1.trans s2
          have g2 : hide M (back M H1 G2) = G2 := hide_back gm2
          have kM2 : ∀ b ∈ M, back M H1 G2 b = H b := fun b hb => by rw [back_in hb]; exact kM1 b hb
          generalize hH2 : back M H1 G2 = H2 at g2 kM2
          have s2' : Same (hide M H) (hide M H2) := by rw [g2]; exact s12
          have S2 := S.ext kM2 s2'
          cases er : Vbexaa.readLine t with
          | none =>
            rw [er] at hv2 k
            obtain rfl : v2 = .non := hv2
            refine ⟨_, rfl, rfl, _, rfl, iteT ⟨one_size, fun q hq => ?_⟩⟩
            exact told_new k S2 s2' hq rfl
          | some x =>
            rw [er] at hv2 k
            obtain ⟨a2, rfl, ha2⟩ := hv2
            obtain ⟨n, rfl⟩ : ∃ n : Nat, kk = (n : Int) := ⟨kk.toNat, by omega⟩
            rw [Int.toNat_natCast] at k
            have hn : n ≤ as.length := by omega
            have o2 : H2 sh = some (.ins (cS mg) dx (shF (.ref l) e1 u1)) := by
              have q : sh ∈ M := by
                obtain ⟨_, _, _, _, _, _, rfl, _⟩ := S
                simp
              rw [kM2 sh q]
              exact o1
            have ll2 : hide M H2 l = some (.lst (as.map V.ref)) := s2' _ _ hl1
            refine ⟨_, rfl, rfl, _, rfl, iteF ?_⟩
            -- sheet.lines[:k]
            refine ⟨_, rfl, _, rfl, sh, _, dx, _, _, rfl, o2, T.k_Sheet.cl, T.n_Sheet_lines, rfl, _, rfl, _, rfl, l, _, rfl, SqL.of (hide_same _ _ ll2), fun p1 hp1 => ?_⟩
            rw [cut_take _ _ (by rw [List.length_map]; exact hn)]
            obtain ⟨S3, g3⟩ := S2.new (o := .lst ((as.map V.ref).take n)) hp1
            -- [line]
            refine ⟨_, rfl, one_size, fun p2 hp2 => ?_⟩
            obtain ⟨S4, g4⟩ := S3.new (o := .lst [V.ref a2]) hp2
            have n12 : p1 ≠ p2 := ne_of_none upd_same hp2
            refine ⟨p1, p2, _, _, rfl, rfl, Same.new hp2 _ _ upd_same, upd_same, ?_, fun p3 hp3 => ?_⟩
            · rw [List.length_take, List.length_map, List.length_singleton]
              omega
            obtain ⟨S5, g5⟩ := S4.new (o := .lst ((as.map V.ref).take n ++ [V.ref a2])) hp3
            -- sheet.lines[k:]
            have z5 : Same H2 (upd (upd (upd H2 p1 (.lst ((as.map V.ref).take n))) p2 (.lst [V.ref a2])) p3 (.lst ((as.map V.ref).take n ++ [V.ref a2]))) := ((Same.new hp1).tr_new hp2).tr_new hp3
            refine ⟨_, rfl, sh, _, dx, _, _, rfl, z5 _ _ o2, T.k_Sheet.cl, T.n_Sheet_lines, rfl, _, rfl, _, rfl, l, _, rfl, SqL.of (z5 _ _ (hide_same _ _ ll2)), fun p4 hp4 => ?_⟩
            rw [cut_drop]
            obtain ⟨S6, g6⟩ := S5.new (o := .lst ((as.map V.ref).drop n)) hp4
            refine ⟨p3, p4, _, _, rfl, rfl, Same.new hp4 _ _ upd_same, upd_same, ?_, fun p5 hp5 => ?_⟩
            · rw [List.length_append, List.length_take, List.length_drop, List.length_map, List.length_singleton]
              omega
            obtain ⟨S7, g7⟩ := S6.new (o := .lst ((as.map V.ref).take n ++ [V.ref a2] ++ (as.map V.ref).drop n)) hp5
            have gz : hide M (upd (upd (upd (upd (upd H2 p1 (.lst ((as.map V.ref).take n))) p2 (.lst [V.ref a2])) p3 (.lst ((as.map V.ref).take n ++ [V.ref a2]))) p4 (.lst ((as.map V.ref).drop n))) p5 (.lst ((as.map V.ref).take n ++ [V.ref a2] ++ (as.map V.ref).drop n))) = _ := g7
            have sz : Same (hide M H2) (hide M (upd (upd (upd (upd (upd H2 p1 (.lst ((as.map V.ref).take n))) p2 (.lst [V.ref a2])) p3 (.lst ((as.map V.ref).take n ++ [V.ref a2]))) p4 (.lst ((as.map V.ref).drop n))) p5 (.lst ((as.map V.ref).take n ++ [V.ref a2] ++ (as.map V.ref).drop n)))) := same_hide2 ((z5.tr_new hp4).tr_new hp5)
            refine ⟨sh, p5, M, st, st.lines.take n ++ (x :: st.lines.drop n), rfl, S7, ⟨as.take n ++ (a2 :: as.drop n), ?_, ?_⟩, ?_, ?_⟩
            · rw [gz, upd_same, List.map_append, List.map_cons, List.map_take, List.map_drop, List.append_assoc]
              rfl
            · have la : ∀ a y, LineAt (cL mg) (hide M H) a y → LineAt (cL mg) (hide M (upd (upd (upd (upd (upd H2 p1 (.lst ((as.map V.ref).take n))) p2 (.lst [V.ref a2])) p3 (.lst ((as.map V.ref).take n ++ [V.ref a2]))) p4 (.lst ((as.map V.ref).drop n))) p5 (.lst ((as.map V.ref).take n ++ [V.ref a2] ++ (as.map V.ref).drop n)))) a y := fun a y z => (z.same s2').same sz
              refine Paired.app (Paired.same (Paired.take n hl2) la) (.cons ?_ (Paired.same (Paired.drop n hl2) la))
              have q : LineAt (cL mg) (hide M H2) a2 x := by rw [g2]; exact ha2
              exact q.same sz
            · rw [List.length_append, List.length_take, List.length_cons, List.length_drop]
              omega
            · intro H8 M8 p8 S8 sm8 hn8 ha8
              exact k H8 M8 p8 S8 ((s2'.trans sz).trans sm8) ((s2'.trans sz).free hn8) ha8
end
end SL
end
section
namespace SL
open PySem PySem.Spec PyProof.Rows L2
theorem len_le_sub : ∀ (a b : List (List Nat)), a.Nodup → (∀ x ∈ a, x ∈ b) → a.length ≤ b.length
  | [], _, _, _ => Nat.zero_le _
  | x :: a, b, hn, hs => by
    have hx : x ∈ b := hs x (List.mem_cons_self ..)
    have hn' := List.nodup_cons.mp hn
    have ih := len_le_sub a (b.erase x) hn'.2 fun y hy => (List.mem_erase_of_ne (fun z : y = x => hn'.1 (by rw [← z]; exact hy))).mpr (hs y (List.mem_cons_of_mem _ hy))
    rw [List.length_erase_of_mem hx] at ih
    have : 0 < b.length := List.length_pos_of_mem hx
    rw [List.length_cons]
    omega
theorem mem_once : ∀ (l : List (List Nat)) (x : List Nat), x ∈ Vbexaa.once l ↔ x ∈ l
  | [], x => by simp [Vbexaa.once]
  | y :: l, x => by
    have ih := mem_once l x
    rw [Vbexaa.once, List.mem_cons, List.mem_cons, List.mem_filter, ih]
    by_cases h : x = y <;> simp [h]
theorem nodup_once : ∀ (l : List (List Nat)), (Vbexaa.once l).Nodup
  | [] => List.Pairwise.nil
  | y :: l => by
    rw [Vbexaa.once, List.nodup_cons]
    refine ⟨?_, List.Pairwise.filter _ (nodup_once l)⟩
    rw [List.mem_filter]
    simp
theorem places_le {l m : List Vbexaa.Line} (h : ∀ x ∈ l, x ∈ m) : (Vbexaa.placesOf l).length ≤ (Vbexaa.placesOf m).length := by
  rw [places_fm, places_fm]
  refine len_le_sub _ _ (nodup_once _) fun x hx => ?_
  rw [mem_once] at hx ⊢
  obtain ⟨y, hy, e⟩ := List.mem_filterMap.mp hx
  exact List.mem_filterMap.mpr ⟨y, h y hy, e⟩
theorem too_erase {l : List Vbexaa.Line} (h : Vbexaa.tooMany l = false) (k : Nat) : Vbexaa.tooMany (l.eraseIdx k) = false := by
  obtain ⟨h1, h2⟩ := too_len h
  have e1 : (l.eraseIdx k).length ≤ l.length := List.length_eraseIdx_le ..
  have e2 := places_le (l := l.eraseIdx k) (m := l) fun x hx => (List.eraseIdx_sublist l k).subset hx
  unfold Vbexaa.tooMany Vbexaa.LINES Vbexaa.PLACES
  rw [decide_eq_false (by omega), decide_eq_false (by omega)]
  rfl
section
variable {P : Program} {w : World} {K : PySem.W.Frag} {mg : Str → Option Value} {base : Heap}
def gCut (st : Vbexaa.St) (ns _row : List Int) : Vbexaa.St × List Int := Vbexaa.step st (.cut (ns.headD 0))
theorem cut_no {st : Vbexaa.St} {k : Int} {row : List Int} (h : Vbexaa.within k 0 40 = false) : gCut st [k] row = (st, [-1]) := step_no (c := .cut k) h
theorem cut_yes {st : Vbexaa.St} {k : Int} {row : List Int} (h : Vbexaa.within k 0 40 = true) : gCut st [k] row = if st.lines.length ≤ k.toNat then (st, [-4]) else (Vbexaa.changed st (st.lines.eraseIdx k.toNat), [((st.lines.length - 1 : Nat) : Int)]) := step_yes (c := .cut k) h
theorem ok_call_cut (T : Txt K mg) : Df P w K mg base "call_cut" 8 ["sheet", "numbers", "row"] (spCall mg gCut fun ns _ => ∃ k, ns = [k]) := by
  have sc := sc_call_cut
  have M_Sheet_change := ok_change (P := P) (w := w) (base := base) T
  refine df_of T.f_call_cut sc (fun vs H Q E h => ?_) (fun f cdv A outer s H vs Q E hr h => ?_)
  · obtain ⟨sh, nb, rw, M, st, ns, row, rfl, _⟩ := h
    rfl
  · obtain ⟨sh, nb, rw, M, st, ns, row, rfl, S, hnb, hrw, ⟨kk, rfl⟩, k⟩ := h
    have big := line_big
    refine ⟨_, (pss_cons (ps_set (i := 3) sc.nd rfl (Or.inl rfl) (pe_ix ix_list (pv 1) pe_int (fun _ _ => rfl)))
      (pss_cons (ps_if (PW.pt (pw_or (pt_cmpR op_lt (pv 3) pe_int (nomark _)) (pw_or1 (pt_cmpR op_gt (pv 3) (pe_gc rfl T.c_MOST_LINES) (nomark _)))))
        (pss_one (ps_ret (pe_lst (pa_cons (pe_gc rfl T.c_OUT_OF_RANGE) pa_nil))))
        pss_nil)
      (pss_cons (ps_if (pt_cmpR op_ge (pv 3) (pe_callB call_len_seq (by rfl) T.b_len PySem.boot_len (pa_cons (pe_fld (pv 0) rfl) pa_nil)) (nomark _))
        (pss_one (ps_ret (pe_lst (pa_cons (pe_gc rfl T.c_NOT_THERE) pa_nil))))
        pss_nil)
      (pss_cons (ps_expr (pe_dm (pv 0) M_Sheet_change hr.m (pa_cons (pe_op op_cat (pe_slice sl_list (pe_fld (pv 0) rfl) po_none (po_some (pv 3))) (pe_slice sl_list (pe_fld (pv 0) rfl) (po_some (pe_op op_add (pv 3) pe_int)) po_none)) pa_nil)))
      (pss_one (ps_ret (pe_lst (pa_cons (pe_callB call_len_seq (by rfl) T.b_len PySem.boot_len (pa_cons (pe_fld (pv 0) rfl) pa_nil)) pa_nil)))))))), ?_⟩
    obtain ⟨dx, l, e1, u1, o1, ⟨as, hl1, hl2⟩, too⟩ := S.lines
    have hal := paired_len hl2
    have hsz := (too_len too).1
    refine ⟨_, rfl, nb, _, _, _, rfl, rfl, SqL.of (hide_same _ _ hnb), at_of (j := 0) rfl rfl, ?_⟩
    refine ⟨_, rfl, _, _, rfl, rfl, _, rfl, ite2 (fun h => iteT ⟨one_size, fun q hq => ?_⟩) (fun h => ?_)⟩
    · rw [decide_eq_true_eq] at h
      have hb : Vbexaa.within kk 0 40 = false := by
        unfold Vbexaa.within
        rw [decide_eq_false (show ¬ 0 ≤ kk by omega)]
        rfl
      rw [cut_no hb] at k
      exact told_new k S Same.rfl' hq rfl
    · rw [decide_eq_true_eq] at h
      refine ⟨_, rfl, _, _, rfl, rfl, _, rfl, ite2 (fun h2 => ⟨one_size, fun q hq => ?_⟩) (fun h2 => ?_)⟩
      · rw [decide_eq_true_eq] at h2
        have hb : Vbexaa.within kk 0 40 = false := by
          unfold Vbexaa.within
          rw [decide_eq_false (show ¬ kk ≤ 40 by omega), Bool.and_false]
        rw [cut_no hb] at k
        exact told_new k S Same.rfl' hq rfl
      · rw [decide_eq_true_eq] at h2
        have hb : Vbexaa.within kk 0 40 = true := by
          unfold Vbexaa.within
          rw [decide_eq_true (show 0 ≤ kk by omega), decide_eq_true (show kk ≤ 40 by omega)]
          rfl
        rw [cut_yes hb] at k
        obtain ⟨n, rfl⟩ : ∃ n : Nat, kk = (n : Int) := ⟨kk.toNat, by omega⟩
        rw [Int.toNat_natCast] at k
        refine ⟨_, rfl, _, rfl, sh, _, dx, _, _, rfl, o1, T.k_Sheet.cl, T.n_Sheet_lines, rfl, l, _, rfl, .inl (SqL.of (hide_same _ _ hl1)), _, _, rfl, rfl, _, rfl, ite2 (fun h3 => ⟨one_size, fun q hq => ?_⟩) (fun h3 => ?_)⟩
        · rw [List.length_map, hal, decide_eq_true_eq] at h3
          rw [if_pos (by omega)] at k
          exact told_new k S Same.rfl' hq rfl
        · rw [List.length_map, hal, decide_eq_true_eq] at h3
          rw [if_neg (by omega)] at k
          have hn : n ≤ as.length := by omega
          have n1 : ((n : Int) + 1) = ((n + 1 : Nat) : Int) := by omega
          -- sheet.change(sheet.lines[:k] + sheet.lines[k + 1:])
          refine ⟨_, rfl, sh, dx, _, rfl, o1, rfl, _, rfl, sh, _, dx, _, _, rfl, o1, T.k_Sheet.cl, T.n_Sheet_lines, rfl, _, rfl, _, rfl, l, _, rfl, SqL.of (hide_same _ _ hl1), fun p1 hp1 => ?_⟩
          rw [cut_take _ _ (by rw [List.length_map]; exact hn)]
          obtain ⟨S3, g3⟩ := S.new (o := .lst ((as.map V.ref).take n)) hp1
          have z3 : Same H (upd H p1 (.lst ((as.map V.ref).take n))) := Same.new hp1
          refine ⟨_, rfl, sh, _, dx, _, _, rfl, z3 _ _ o1, T.k_Sheet.cl, T.n_Sheet_lines, rfl, _, rfl, _, _, rfl, rfl, _, rfl, l, _, rfl, SqL.of (z3 _ _ (hide_same _ _ hl1)), fun p2 hp2 => ?_⟩
          rw [n1, cut_drop]
          obtain ⟨S4, g4⟩ := S3.new (o := .lst ((as.map V.ref).drop (n + 1))) hp2
          refine ⟨p1, p2, _, _, rfl, rfl, Same.new hp2 _ _ upd_same, upd_same, ?_, fun p3 hp3 => ?_⟩
          · rw [List.length_take, List.length_drop, List.length_map]
            omega
          obtain ⟨S5, g5⟩ := S4.new (o := .lst ((as.map V.ref).take n ++ (as.map V.ref).drop (n + 1))) hp3
          have sz := same_hide2 (M := M) ((z3.tr_new (o := .lst ((as.map V.ref).drop (n + 1))) hp2).tr_new (o := .lst ((as.map V.ref).take n ++ (as.map V.ref).drop (n + 1))) hp3)
          refine ⟨sh, p3, M, st, st.lines.eraseIdx n, rfl, S5, ⟨as.take n ++ as.drop (n + 1), ?_, ?_⟩, too_erase too n, fun H6 M6 S6 sm6 => ?_⟩
          · rw [g5, upd_same, List.map_append, List.map_take, List.map_drop]
          · rw [List.eraseIdx_eq_take_drop_succ]
            exact Paired.app (Paired.same (Paired.take n hl2) fun a y z => z.same sz) (Paired.same (Paired.drop (n + 1) hl2) fun a y z => z.same sz)
          · obtain ⟨dx6, l6, e6, u6, o6, L6, _⟩ := S6.lines
            obtain ⟨xs, hx, hlen⟩ := L6.len
            refine ⟨_, rfl, sh, _, dx6, _, _, rfl, o6, T.k_Sheet.cl, T.n_Sheet_lines, rfl, l6, _, rfl, .inl (SqL.of (hide_same _ _ hx)), one_size, fun q hq => ?_⟩
            refine told_new k S6 (sz.trans sm6) hq ?_
            have e7 : xs.length = st.lines.length - 1 := by
              rw [hlen]
              show (st.lines.eraseIdx n).length = _
              rw [List.length_eraseIdx, if_pos (by omega)]
            rw [e7]
            rfl
def gUndo (st : Vbexaa.St) (_ns _row : List Int) : Vbexaa.St × List Int := Vbexaa.step st .undo
def gRedo (st : Vbexaa.St) (_ns _row : List Int) : Vbexaa.St × List Int := Vbexaa.step st .redo
theorem undo_no {st : Vbexaa.St} {ns row : List Int} (h : st.past = []) : gUndo st ns row = (st, [-4]) := by
  unfold gUndo
  rw [step_yes (c := .undo) rfl]
  unfold Vbexaa.act
  dsimp only
  rw [h]
theorem undo_yes {st : Vbexaa.St} {ns row : List Int} {x : List Vbexaa.Line} {r : List (List Vbexaa.Line)} (h : st.past = x :: r) : gUndo st ns row = (⟨x, r, st.lines :: st.future⟩, [(x.length : Int)]) := by
  unfold gUndo
  rw [step_yes (c := .undo) rfl]
  unfold Vbexaa.act
  dsimp only
  rw [h]
theorem redo_no {st : Vbexaa.St} {ns row : List Int} (h : st.future = []) : gRedo st ns row = (st, [-4]) := by
  unfold gRedo
  rw [step_yes (c := .redo) rfl]
  unfold Vbexaa.act
  dsimp only
  rw [h]
theorem redo_yes {st : Vbexaa.St} {ns row : List Int} {x : List Vbexaa.Line} {r : List (List Vbexaa.Line)} (h : st.future = x :: r) : gRedo st ns row = (⟨x, (st.lines :: st.past).take 20, r⟩, [(x.length : Int)]) := by
  unfold gRedo
  rw [step_yes (c := .redo) rfl]
  unfold Vbexaa.act
  dsimp only
  rw [h]
  rfl
theorem ok_call_undo (T : Txt K mg) : Df P w K mg base "call_undo" 8 ["sheet", "numbers", "row"] (spCall mg gUndo fun _ _ => True) := by
  have sc := sc_call_undo
  have M_Sheet_undo := ok_undo (P := P) (w := w) (base := base) T
  refine df_of T.f_call_undo sc (fun vs H Q E h => ?_) (fun f cdv A outer s H vs Q E hr h => ?_)
  · obtain ⟨sh, nb, rw, M, st, ns, row, rfl, _⟩ := h
    rfl
  · obtain ⟨sh, nb, rw, M, st, ns, row, rfl, S, hnb, hrw, _, k⟩ := h
    refine ⟨_, (pss_cons (ps_if (pt_not (pt_truth (pe_fld (pv 0) rfl) (fun _ => rfl)))
        (pss_one (ps_ret (pe_lst (pa_cons (pe_gc rfl T.c_NOT_THERE) pa_nil))))
        pss_nil)
      (pss_cons (ps_expr (pe_dm0 (pv 0) M_Sheet_undo hr.m))
      (pss_one (ps_ret (pe_lst (pa_cons (pe_callB call_len_seq (by rfl) T.b_len PySem.boot_len (pa_cons (pe_fld (pv 0) rfl) pa_nil)) pa_nil)))))), ?_⟩
    have S0 := S
    obtain ⟨dx, l, e, u, es, us, rfl, A⟩ := S
    have hel := paired_len A.past
    rw [List.length_reverse] at hel
    refine ⟨_, rfl, sh, _, dx, _, _, rfl, A.obj, T.k_Sheet.cl, T.n_Sheet_earlier, rfl, !(es.map V.ref).isEmpty, .inl ⟨_, SqL.of A.ear, rfl⟩, ite2 (fun h => ⟨one_size, fun q hq => ?_⟩) (fun h => ?_)⟩
    · have e0 : st.past = [] := by
        cases es with
        | nil => exact List.length_eq_zero_iff.mp hel.symm
        | cons _ _ => simp at h
      rw [undo_no e0] at k
      exact told_new k S0 Same.rfl' hq rfl
    · obtain ⟨x, r, hp⟩ : ∃ x r, st.past = x :: r := by
        cases e0 : st.past with
        | nil =>
          rw [e0] at hel
          have : es = [] := List.length_eq_zero_iff.mp hel
          rw [this] at h
          exact absurd rfl h
        | cons x r => exact ⟨x, r, rfl⟩
      rw [undo_yes hp] at k
      refine ⟨_, rfl, sh, dx, _, rfl, A.obj, rfl, sh, _, st, x, r, rfl, S0, hp, fun H6 M6 S6 sm6 => ?_⟩
      obtain ⟨dx6, l6, e6, u6, o6, L6, _⟩ := S6.lines
      obtain ⟨xs, hx, hlen⟩ := L6.len
      refine ⟨_, rfl, sh, _, dx6, _, _, rfl, o6, T.k_Sheet.cl, T.n_Sheet_lines, rfl, l6, _, rfl, .inl (SqL.of (hide_same _ _ hx)), one_size, fun q hq => ?_⟩
      refine told_new k S6 sm6 hq ?_
      rw [hlen]
      rfl
theorem ok_call_redo (T : Txt K mg) : Df P w K mg base "call_redo" 8 ["sheet", "numbers", "row"] (spCall mg gRedo fun _ _ => True) := by
  have sc := sc_call_redo
  have M_Sheet_redo := ok_redo (P := P) (w := w) (base := base) T
  refine df_of T.f_call_redo sc (fun vs H Q E h => ?_) (fun f cdv A outer s H vs Q E hr h => ?_)
  · obtain ⟨sh, nb, rw, M, st, ns, row, rfl, _⟩ := h
    rfl
  · obtain ⟨sh, nb, rw, M, st, ns, row, rfl, S, hnb, hrw, _, k⟩ := h
    refine ⟨_, (pss_cons (ps_if (pt_not (pt_truth (pe_fld (pv 0) rfl) (fun _ => rfl)))
        (pss_one (ps_ret (pe_lst (pa_cons (pe_gc rfl T.c_NOT_THERE) pa_nil))))
        pss_nil)
      (pss_cons (ps_expr (pe_dm0 (pv 0) M_Sheet_redo hr.m))
      (pss_one (ps_ret (pe_lst (pa_cons (pe_callB call_len_seq (by rfl) T.b_len PySem.boot_len (pa_cons (pe_fld (pv 0) rfl) pa_nil)) pa_nil)))))), ?_⟩
    have S0 := S
    obtain ⟨dx, l, e, u, es, us, rfl, A⟩ := S
    have hel := paired_len A.fut
    rw [List.length_reverse] at hel
    refine ⟨_, rfl, sh, _, dx, _, _, rfl, A.obj, T.k_Sheet.cl, T.n_Sheet_undone, rfl, !(us.map V.ref).isEmpty, .inl ⟨_, SqL.of A.und, rfl⟩, ite2 (fun h => ⟨one_size, fun q hq => ?_⟩) (fun h => ?_)⟩
    · have e0 : st.future = [] := by
        cases us with
        | nil => exact List.length_eq_zero_iff.mp hel.symm
        | cons _ _ => simp at h
      rw [redo_no e0] at k
      exact told_new k S0 Same.rfl' hq rfl
    · obtain ⟨x, r, hp⟩ : ∃ x r, st.future = x :: r := by
        cases e0 : st.future with
        | nil =>
          rw [e0] at hel
          have : us = [] := List.length_eq_zero_iff.mp hel
          rw [this] at h
          exact absurd rfl h
        | cons x r => exact ⟨x, r, rfl⟩
      rw [redo_yes hp] at k
      refine ⟨_, rfl, sh, dx, _, rfl, A.obj, rfl, sh, _, st, x, r, rfl, S0, hp, fun H6 M6 S6 sm6 => ?_⟩
      obtain ⟨dx6, l6, e6, u6, o6, L6, _⟩ := S6.lines
      obtain ⟨xs, hx, hlen⟩ := L6.len
      refine ⟨_, rfl, sh, _, dx6, _, _, rfl, o6, T.k_Sheet.cl, T.n_Sheet_lines, rfl, l6, _, rfl, .inl (SqL.of (hide_same _ _ hx)), one_size, fun q hq => ?_⟩
      refine told_new k S6 sm6 hq ?_
      rw [hlen]
      rfl
end
end SL
end
section
namespace SL
open PySem PySem.Spec PyProof.Rows L2
theorem LinesAt.ok {C : Addr} {H : Hp} {p : Addr} {ls : List Vbexaa.Line} (h : LinesAt C H p ls) : ∀ x ∈ ls, LineOk x ∧ (Vbexaa.shownLine x).length ≤ 100000 := fun x hx => by
  obtain ⟨as, _, h2⟩ := h
  obtain ⟨i, hi⟩ := List.getElem?_of_mem hx
  obtain ⟨a, _, _, _, _, _, _, _, _, _, _, _, h6, h7⟩ := Paired.get h2 hi
  exact ⟨h6, h7⟩
theorem shown_snoc (l : List Vbexaa.Line) (x : Vbexaa.Line) : Vbexaa.shown (l ++ [x]) = Vbexaa.shown l ++ Vbexaa.shownLine x ++ [10] := by
  unfold Vbexaa.shown
  rw [List.flatMap_append, List.flatMap_cons, List.flatMap_nil, List.append_nil, List.append_assoc]
theorem shown_len : ∀ (l : List Vbexaa.Line), (∀ x ∈ l, (Vbexaa.shownLine x).length ≤ 100000) → (Vbexaa.shown l).length ≤ 100001 * l.length
  | [], _ => by simp [Vbexaa.shown]
  | x :: l, h => by
    have ih := shown_len l fun y hy => h y (List.mem_cons_of_mem _ hy)
    have hx := h x (List.mem_cons_self ..)
    unfold Vbexaa.shown at ih ⊢
    rw [List.flatMap_cons, List.length_append, List.length_append, List.length_singleton, List.length_cons]
    omega
theorem ints_v (t : List Nat) : (Vbexaa.ints t).map V.int = vN t := by
  unfold Vbexaa.ints vN
  rw [List.map_map]
  rfl
theorem place_small {ls : List Vbexaa.Line} (h : ∀ x ∈ ls, LineOk x) : ∀ n ∈ Vbexaa.placesOf ls, n.length ≤ 6 := fun n hn => by
  rw [places_fm, mem_once] at hn
  obtain ⟨y, hy, e⟩ := List.mem_filterMap.mp hn
  cases y with
  | place m =>
    have z : m = n := Option.some.inj e
    subst z
    have q : Vbexaa.isName m = true := h _ hy
    cases m with
    | nil => simp
    | cons c r =>
      simp [Vbexaa.isName] at q
      simp
      omega
  | leg _ _ _ _ => cases e
  | nostay _ _ _ => cases e
  | note _ => cases e
theorem leg_small {ls : List Vbexaa.Line} (h : ∀ x ∈ ls, LineOk x) : ∀ g ∈ Vbexaa.legsOf ls, g.windows.length ≤ 6 := fun g hg => by
  rw [legs_fm] at hg
  obtain ⟨y, hy, e⟩ := List.mem_flatMap.mp hg
  cases y with
  | leg both a b w =>
    have q : LineOk (.leg both a b w) := h _ hy
    have q4 : w.length ≤ 6 := q.2.2.2.1
    rw [lineLegs] at e
    split at e
    · rcases List.mem_cons.mp e with z | z
      · rw [z]
        exact q4
      · split at z
        · have z' := List.mem_singleton.mp z
          rw [z']
          exact q4
        · cases z
    · cases e
  | place _ => cases e
  | nostay _ _ _ => cases e
  | note _ => cases e
section
variable {P : Program} {w : World} {K : PySem.W.Frag} {mg : Str → Option Value} {base : Heap}
def gPrint (st : Vbexaa.St) (_ns _row : List Int) : Vbexaa.St × List Int := Vbexaa.step st .print
theorem print_eq {st : Vbexaa.St} {ns row : List Int} : gPrint st ns row = (st, Vbexaa.listed (Vbexaa.ints (Vbexaa.shown st.lines))) := step_yes (c := .print) rfl
structure Own (H : Hp) (M : List Addr) (p : Addr) (xs : List V) (H' : Hp) : Prop where
  kM : ∀ b ∈ M, H' b = H b
  at_ : H' p = some (.lst xs)
  same : Same (hide M H) (hide (p :: M) H')
  np : p ∉ M
  n0 : H p = none
theorem Own.sheet {CL CS : Addr} {H H' : Hp} {sh p : Addr} {M : List Addr} {st : Vbexaa.St} {xs : List V} (O : Own H M p xs H') (S : Sheet CL CS H sh M st) : Sheet CL CS H' sh M st := S.ext O.kM (O.same.trans hide_cons)
theorem Own.first {CL CS : Addr} {H : Hp} {sh p : Addr} {M : List Addr} {st : Vbexaa.St} {xs : List V} (S : Sheet CL CS H sh M st) (hp : H p = none) : Own H M p xs (upd H p (.lst xs)) := by
  have np : p ∉ M := fun z => S.mok.there p z hp
  refine ⟨fun b hb => upd_ne (ne_mem np hb), upd_same, ?_, np, hp⟩
  rw [hide_upd (by simp)]
  exact same_hide hide_same fun b hb => by
    rcases List.mem_cons.mp hb with z | z
    · rw [z]
      exact hide_same.free hp
    · exact hide_in z
theorem Own.next {H H' : Hp} {p : Addr} {M : List Addr} {xs ys : List V} (O : Own H M p xs H') : Own H M p ys (upd H' p (.lst ys)) :=
  ⟨fun b hb => by rw [upd_ne (ne_mem O.np hb)]; exact O.kM b hb, upd_same, by rw [hide_upd (by simp)]; exact O.same, O.np, O.n0⟩
theorem Own.more {H H' H2 : Hp} {p : Addr} {M : List Addr} {xs : List V} (O : Own H M p xs H') (s : Same H' H2) (hM : ∀ b ∈ M, H b ≠ none) : Own H M p xs H2 := by
  refine ⟨fun b hb => ?_, s _ _ O.at_, O.same.trans (same_hide2 s), O.np, O.n0⟩
  cases e : H b with
  | none => exact absurd e (hM b hb)
  | some o => exact s _ _ (by rw [O.kM b hb]; exact e)
theorem Own.old {H H' : Hp} {p b : Addr} {M : List Addr} {xs : List V} {o : HO} (O : Own H M p xs H') (h : hide M H b = some o) : H' b = some o := hide_same _ _ (O.same _ _ h)
theorem Own.told {H H' : Hp} {sh p : Addr} {M : List Addr} {xs : List V} {r : Vbexaa.St × List Int} {Q : VK} (O : Own H M p xs H') (k : Told mg sh M H r Q) (S : Sheet (cL mg) (cS mg) H sh M r.1) (e : xs = r.2.map V.int) : Q (.ref p) H' := by
  refine k H' M p (O.sheet S) (O.same.trans hide_cons) (hide_same.free O.n0) ?_
  rw [hide_out O.np, O.at_, e]
theorem Sheet.there {CL CS : Addr} {H : Hp} {sh : Addr} {M : List Addr} {st : Vbexaa.St} (S : Sheet CL CS H sh M st) : ∀ b ∈ M, H b ≠ none := S.mok.there
theorem ok_call_print (T : Txt K mg) : Df P w K mg base "call_print" 8 ["sheet", "numbers", "row"] (spCall mg gPrint fun _ _ => True) := by
  have sc := sc_call_print
  refine df_of T.f_call_print sc (fun vs H Q E h => ?_) (fun f cdv A outer s H vs Q E hr h => ?_)
  · obtain ⟨sh, nb, rw, M, st, ns, row, rfl, _⟩ := h
    rfl
  · obtain ⟨sh, nb, rw, M, st, ns, row, rfl, S, hnb, hrw, _, k⟩ := h
    have big : sizeLine = 16777216 := sizeLine_eq
    refine ⟨_, (pss_cons (ps_set (i := 3) sc.nd rfl (Or.inl rfl) (pe_lst pa_nil))
      (pss_cons (ps_for PassesOwn.never rfl (pi_list (pe_fld (pv 0) rfl)) (pg_name (i := 4) sc.nd rfl (Or.inl rfl))
        (pss_cons (ps_expr (pe_bm PySem.F.plainAttrs_list PySem.F.slot_list_extend PySem.F.type_list_extend mt_extend (pv 3) (pa_cons (pe_fld (pv 4) rfl) pa_nil)))
        (pss_one (ps_expr (pe_bm PySem.F.plainAttrs_list PySem.F.slot_list_append PySem.F.type_list_append mt_append (pv 3) (pa_cons (pe_gc rfl T.c_LINE_END) pa_nil))))))
      (pss_one (ps_ret (pe_op op_cat (pe_lst (pa_cons (pe_callB call_len_seq (by rfl) T.b_len PySem.boot_len (pa_cons (pv 3) pa_nil)) pa_nil)) (pv 3)))))), ?_⟩
    obtain ⟨dx, l, e1, u1, o1, L, too⟩ := S.lines
    have hok := L.ok
    obtain ⟨as, hl1, hl2⟩ := L
    have hal := paired_len hl2
    have hsz := (too_len too).1
    rw [print_eq] at k
    refine ⟨Nat.zero_le _, fun p hp => ?_⟩
    have O0 := Own.first (xs := []) S hp
    refine ⟨_, rfl, sh, _, dx, _, _, rfl, Same.new hp _ _ o1, T.k_Sheet.cl, T.n_Sheet_lines, rfl, l, rfl, ⟨_, SqL.of (O0.old hl1)⟩, for_list (K := K) (a := l) (xs := as.map V.ref) (fun i σ H' => ∃ v, σ = [some (.ref sh), some (.ref nb), some (.ref rw), some (.ref p), v] ∧ Own H M p (vN (Vbexaa.shown (st.lines.take i))) H')
      ⟨none, rfl, O0⟩ (fun i σ H' _ ⟨_, _, O⟩ => SqL.of (O.old hl1)) ?_ ?_⟩
    · rintro i y σ H' hi ⟨v, rfl, O⟩
      obtain ⟨b, hb, rfl⟩ := refs_of hi
      obtain ⟨x, hx, dl, sa, na, wa, sta, f1, f2, _⟩ := Paired.getL hl2 hb
      have tk := take_one hx
      have hi' : i < st.lines.length := (List.getElem?_eq_some_iff.mp hx).1
      have sl := shown_len (st.lines.take i) fun z hz => (hok z (List.mem_of_mem_take hz)).2
      rw [List.length_take] at sl
      have sx := (hok x (List.mem_of_getElem? hx)).2
      refine ⟨_, rfl, .inl ⟨rfl, _, SqL.of O.at_⟩, _, rfl, b, _, dl, _, _, rfl, O.old f1, T.k_Line.cl, T.n_Line_signs, rfl, p, sa, _, _, rfl, rfl, O.at_, O.old f2, by rw [vN_len, vN_len]; omega, ?_⟩
      have O2 := O.next (ys := vN (Vbexaa.shown (st.lines.take i)) ++ vN (Vbexaa.shownLine x))
      refine ⟨_, rfl, .inl ⟨rfl, _, SqL.of O2.at_⟩, p, _, _, rfl, rfl, O2.at_, by rw [List.length_append, vN_len, vN_len]; omega, ?_⟩
      refine ⟨_, rfl, ?_⟩
      have e : vN (Vbexaa.shown (st.lines.take (i + 1))) = vN (Vbexaa.shown (st.lines.take i)) ++ vN (Vbexaa.shownLine x) ++ [V.int 10] := by
        rw [tk, shown_snoc, vN_app, vN_app]
        rfl
      rw [e]
      exact O2.next
    · rintro σ H' ⟨v, rfl, O⟩
      rw [List.length_map, hal, List.take_length] at O
      have sl := shown_len st.lines fun z hz => (hok z hz).2
      refine ⟨_, rfl, p, _, rfl, .inl (SqL.of O.at_), one_size, fun q hq => ⟨_, rfl, q, p, _, _, rfl, rfl, upd_same, Same.new hq _ _ O.at_, ?_, fun q2 hq2 => ?_⟩⟩
      · rw [vN_len, List.length_singleton]
        omega
      · have S1 := O.sheet S
        obtain ⟨S2, g2⟩ := S1.new (o := .lst [V.int ((vN (Vbexaa.shown st.lines)).length : Int)]) hq
        refine told_new k S2 ?_ hq2 ?_
        · rw [g2]
          exact (O.same.trans hide_cons).tr_new (hide_same.free hq)
        · rw [vN_len]
          unfold Vbexaa.listed
          rw [List.map_cons, ints_v]
          have e : (Vbexaa.ints (Vbexaa.shown st.lines)).length = (Vbexaa.shown st.lines).length := by unfold Vbexaa.ints; rw [List.length_map]
          rw [e]
          rfl
def gPlaces (st : Vbexaa.St) (_ns _row : List Int) : Vbexaa.St × List Int := Vbexaa.step st .places
def placesTold (ps : List (List Nat)) : List Int := ps.flatMap fun n => Vbexaa.listed (Vbexaa.ints n)
theorem places_eq {st : Vbexaa.St} {ns row : List Int} : gPlaces st ns row = (st, ((Vbexaa.placesOf st.lines).length : Int) :: placesTold (Vbexaa.placesOf st.lines)) := step_yes (c := .places) rfl
theorem listed_v (n : List Nat) : (Vbexaa.listed (Vbexaa.ints n)).map V.int = V.int (n.length : Int) :: vN n := by
  unfold Vbexaa.listed
  rw [List.map_cons, ints_v]
  have e : (Vbexaa.ints n).length = n.length := by unfold Vbexaa.ints; rw [List.length_map]
  rw [e]
theorem placesTold_snoc (ps : List (List Nat)) (n : List Nat) : (placesTold (ps ++ [n])).map V.int = (placesTold ps).map V.int ++ [V.int (n.length : Int)] ++ vN n := by
  unfold placesTold
  rw [List.flatMap_append, List.flatMap_cons, List.flatMap_nil, List.append_nil, List.map_append, listed_v, List.append_assoc]
  rfl
theorem placesTold_len : ∀ (ps : List (List Nat)), (∀ n ∈ ps, n.length ≤ 6) → (placesTold ps).length ≤ 7 * ps.length
  | [], _ => by simp [placesTold]
  | n :: ps, h => by
    have ih := placesTold_len ps fun y hy => h y (List.mem_cons_of_mem _ hy)
    have hn := h n (List.mem_cons_self ..)
    unfold placesTold at ih ⊢
    rw [List.flatMap_cons, List.length_append, List.length_cons]
    have e : (Vbexaa.listed (Vbexaa.ints n)).length = n.length + 1 := by unfold Vbexaa.listed Vbexaa.ints; simp
    omega
theorem ok_call_places (T : Txt K mg) : Df P w K mg base "call_places" 8 ["sheet", "numbers", "row"] (spCall mg gPlaces fun _ _ => True) := by
  have sc := sc_call_places
  have D_place_names := ok_place_names (P := P) (w := w) (base := base) T
  refine df_of T.f_call_places sc (fun vs H Q E h => ?_) (fun f cdv A outer s H vs Q E hr h => ?_)
  · obtain ⟨sh, nb, rw, M, st, ns, row, rfl, _⟩ := h
    rfl
  · obtain ⟨sh, nb, rw, M, st, ns, row, rfl, S, hnb, hrw, _, k⟩ := h
    have big : sizeLine = 16777216 := sizeLine_eq
    refine ⟨_, (pss_cons (ps_set (i := 3) sc.nd rfl (Or.inl rfl) (pe_df D_place_names.fr hr.m rfl (pa_cons (pe_fld (pv 0) rfl) pa_nil)))
      (pss_cons (ps_set (i := 4) sc.nd rfl (Or.inl rfl) (pe_lst (pa_cons (pe_callB call_len_seq (by rfl) T.b_len PySem.boot_len (pa_cons (pv 3) pa_nil)) pa_nil)))
      (pss_cons (ps_for PassesOwn.never rfl (pi_list (pv 3)) (pg_name (i := 5) sc.nd rfl (Or.inl rfl))
        (pss_cons (ps_expr (pe_bm PySem.F.plainAttrs_list PySem.F.slot_list_append PySem.F.type_list_append mt_append (pv 4) (pa_cons (pe_callB call_len_seq (by rfl) T.b_len PySem.boot_len (pa_cons (pv 5) pa_nil)) pa_nil)))
        (pss_one (ps_expr (pe_bm PySem.F.plainAttrs_list PySem.F.slot_list_extend PySem.F.type_list_extend mt_extT (pv 4) (pa_cons (pv 5) pa_nil))))))
      (pss_one (ps_ret (pv 4)))))), ?_⟩
    obtain ⟨dx, l, e1, u1, o1, L, too⟩ := S.lines
    have hok := L.ok
    have hsz := too_len too
    have hsm := place_small fun x hx => (hok x hx).1
    rw [places_eq] at k
    refine ⟨_, rfl, sh, _, dx, _, _, rfl, o1, T.k_Sheet.cl, T.n_Sheet_lines, rfl, M, S.mok, l, _, rfl, L, by omega, fun G pn s1 hpn TP gm => ?_⟩
    have S1 := S.back gm s1
    have g1 : hide M (back M H G) = G := hide_back gm
    generalize hH1 : back M H G = H1 at S1 g1
    have k1 : Told mg sh M H1 (st, ((Vbexaa.placesOf st.lines).length : Int) :: placesTold (Vbexaa.placesOf st.lines)) Q := fun H' M' p' a1 a2 a3 a4 => k H' M' p' a1 ((s1.trans (by rw [← g1]; exact a2))) (s1.free (by rw [← g1]; exact a3)) a4
    rw [← g1] at TP
    generalize hps : Vbexaa.placesOf st.lines = ps at TP k1 hsm hsz
    obtain ⟨as, t1, t2⟩ := TP
    have htl := paired_len t2
    refine ⟨_, rfl, pn, _, rfl, .inl (SqL.of (hide_same _ _ t1)), one_size, fun p hp => ?_⟩
    have O0 : Own H1 M p [V.int (ps.length : Int)] (upd H1 p (.lst [V.int ((as.map V.ref).length : Int)])) := by
      rw [List.length_map, htl]
      exact Own.first S1 hp
    refine ⟨_, rfl, pn, rfl, ⟨_, SqL.of (O0.old t1)⟩, for_list (K := K) (a := pn) (xs := as.map V.ref) (fun i σ H' => ∃ v, σ = [some (.ref sh), some (.ref nb), some (.ref rw), some (.ref pn), some (.ref p), v] ∧ Own H1 M p (V.int (ps.length : Int) :: (placesTold (ps.take i)).map V.int) H')
      ⟨none, rfl, O0⟩ (fun i σ H' _ ⟨_, _, O⟩ => SqL.of (O.old t1)) ?_ ?_⟩
    · rintro i y σ H' hi ⟨v, rfl, O⟩
      obtain ⟨b, hb, rfl⟩ := refs_of hi
      obtain ⟨x, hx, f1⟩ := Paired.getL t2 hb
      have tk := take_one hx
      have hi' : i < ps.length := (List.getElem?_eq_some_iff.mp hx).1
      have sl := placesTold_len (ps.take i) fun z hz => hsm z (List.mem_of_mem_take hz)
      rw [List.length_take] at sl
      have sx := hsm x (List.mem_of_getElem? hx)
      refine ⟨_, rfl, .inl ⟨rfl, _, SqL.of O.at_⟩, _, rfl, b, _, rfl, .inr (SqT.of (O.old f1)), p, _, _, rfl, rfl, O.at_, by rw [List.length_cons, List.length_map]; omega, ?_⟩
      have O2 := O.next (ys := V.int (ps.length : Int) :: (placesTold (ps.take i)).map V.int ++ [V.int ((vN x).length : Int)])
      refine ⟨_, rfl, .inl ⟨rfl, _, SqL.of O2.at_⟩, _, rfl, p, b, _, _, rfl, rfl, O2.at_, SqT.of (O2.old f1), by rw [vN_len, List.length_append, List.length_cons, List.length_map, List.length_singleton]; omega, ?_⟩
      refine ⟨_, rfl, ?_⟩
      have e : V.int (ps.length : Int) :: (placesTold (ps.take (i + 1))).map V.int = V.int (ps.length : Int) :: (placesTold (ps.take i)).map V.int ++ [V.int ((vN x).length : Int)] ++ vN x := by
        rw [tk, placesTold_snoc, vN_len]
        rfl
      rw [e]
      exact O2.next
    · rintro σ H' ⟨v, rfl, O⟩
      rw [List.length_map, htl, List.take_length] at O
      exact ⟨_, rfl, O.told k1 S1 rfl⟩
end
end SL
end
section
namespace SL
open PySem PySem.Spec PyProof.Rows L2
section
variable {P : Program} {w : World} {K : PySem.W.Frag} {mg : Str → Option Value} {base : Heap}
theorem WsAt.len {H : Hp} {p : Addr} {ws : List Vbexaa.Window} (h : WsAt H p ws) : ∃ xs : List V, H p = some (.lst xs) ∧ xs.length = ws.length := by
  obtain ⟨as, h1, h2⟩ := h
  exact ⟨_, h1, by rw [List.length_map]; exact paired_len h2⟩
theorem legRow_v (g : Vbexaa.Leg) : (Vbexaa.legRow g).map V.int = [V.int g.from_, V.int g.to_, V.int g.windows.length] := rfl
theorem ok_leg_numbers (T : Txt K mg) : Df P w K mg base "leg_numbers" 1 ["leg"] (fun vs H Q _ => ∃ (a : Addr) (g : Vbexaa.Leg), vs = [.ref a] ∧ LegAt (cG mg) H a g ∧
    ∀ H' q, Same H H' → H q = none → H' q = some (.lst ((Vbexaa.legRow g).map V.int)) → Q (.ref q) H') := by
  have sc := sc_leg_numbers
  refine df_of T.f_leg_numbers sc (fun vs H Q E h => ?_) (fun f cdv A outer s H vs Q E hr h => ?_)
  · obtain ⟨a, g, rfl, _⟩ := h
    rfl
  · obtain ⟨a, g, rfl, ⟨dx, wa, e1, hw⟩, k⟩ := h
    refine ⟨_, (pss_one (ps_ret (pe_lst (pa_cons (pe_fld (pv 0) rfl) (pa_cons (pe_fld (pv 0) rfl) (pa_cons (pe_callB call_len_seq (by rfl) T.b_len PySem.boot_len (pa_cons (pe_fld (pv 0) rfl) pa_nil)) pa_nil)))))), ?_⟩
    obtain ⟨xs, hx, hlen⟩ := hw.len
    refine ⟨_, rfl, a, _, dx, _, _, rfl, e1, T.k_Leg.cl, T.n_Leg_begin, rfl, _, rfl, a, _, dx, _, _, rfl, e1, T.k_Leg.cl, T.n_Leg_end, rfl, _, rfl, a, _, dx, _, _, rfl, e1, T.k_Leg.cl, T.n_Leg_windows, rfl, wa, _, rfl, .inl (SqL.of hx), (by show 3 ≤ sizeLine; have := line_big; omega), fun q hq => ?_⟩
    refine k _ q (Same.new hq) hq ?_
    rw [upd_same, legRow_v, hlen]
def gLegs (st : Vbexaa.St) (_ns _row : List Int) : Vbexaa.St × List Int := Vbexaa.step st .legs
def legsTold (gs : List Vbexaa.Leg) : List Int := gs.flatMap Vbexaa.legRow
theorem legs_eq {st : Vbexaa.St} {ns row : List Int} : gLegs st ns row = (st, ((Vbexaa.legsOf st.lines).length : Int) :: legsTold (Vbexaa.legsOf st.lines)) := step_yes (c := .legs) rfl
theorem legsTold_snoc (gs : List Vbexaa.Leg) (g : Vbexaa.Leg) : (legsTold (gs ++ [g])).map V.int = (legsTold gs).map V.int ++ (Vbexaa.legRow g).map V.int := by
  unfold legsTold
  rw [List.flatMap_append, List.flatMap_cons, List.flatMap_nil, List.append_nil, List.map_append]
theorem legsTold_len : ∀ (gs : List Vbexaa.Leg), (legsTold gs).length = 3 * gs.length
  | [] => rfl
  | g :: gs => by
    have ih := legsTold_len gs
    unfold legsTold at ih ⊢
    rw [List.flatMap_cons, List.length_append, List.length_cons, ih]
    have e : (Vbexaa.legRow g).length = 3 := rfl
    omega
theorem legs_count {ls : List Vbexaa.Line} (h : ls.length ≤ 40) : (Vbexaa.legsOf ls).length ≤ 80 := by
  have := flat_len (Vbexaa.placesOf ls) ls
  rw [legs_fm]
  omega
theorem told_from {sh : Addr} {M : List Addr} {H H1 G : Hp} {r : Vbexaa.St × List Int} {Q : VK} (k : Told mg sh M H r Q) (s1 : Same (hide M H) G) (g1 : hide M H1 = G) : Told mg sh M H1 r Q :=
  fun H' M' p' a1 a2 a3 a4 => k H' M' p' a1 ((s1.trans (by rw [← g1]; exact a2))) (s1.free (by rw [← g1]; exact a3)) a4
theorem ok_call_legs (T : Txt K mg) : Df P w K mg base "call_legs" 8 ["sheet", "numbers", "row"] (spCall mg gLegs fun _ _ => True) := by
  have sc := sc_call_legs
  have D_legs_told := ok_legs_told (P := P) (w := w) (base := base) T
  have D_leg_numbers := ok_leg_numbers (P := P) (w := w) (base := base) T
  refine df_of T.f_call_legs sc (fun vs H Q E h => ?_) (fun f cdv A outer s H vs Q E hr h => ?_)
  · obtain ⟨sh, nb, rw, M, st, ns, row, rfl, _⟩ := h
    rfl
  · obtain ⟨sh, nb, rw, M, st, ns, row, rfl, S, hnb, hrw, _, k⟩ := h
    have big : sizeLine = 16777216 := sizeLine_eq
    refine ⟨_, (pss_cons (ps_set (i := 3) sc.nd rfl (Or.inl rfl) (pe_df D_legs_told.fr hr.m rfl (pa_cons (pe_fld (pv 0) rfl) pa_nil)))
      (pss_cons (ps_set (i := 4) sc.nd rfl (Or.inl rfl) (pe_lst (pa_cons (pe_callB call_len_seq (by rfl) T.b_len PySem.boot_len (pa_cons (pv 3) pa_nil)) pa_nil)))
      (pss_cons (ps_for PassesOwn.never rfl (pi_list (pv 3)) (pg_name (i := 5) sc.nd rfl (Or.inl rfl))
        (pss_one (ps_expr (pe_bm PySem.F.plainAttrs_list PySem.F.slot_list_extend PySem.F.type_list_extend mt_extend (pv 4) (pa_cons (pe_df D_leg_numbers hr.m rfl (pa_cons (pv 5) pa_nil)) pa_nil)))))
      (pss_one (ps_ret (pv 4)))))), ?_⟩
    obtain ⟨dx, l, e1, u1, o1, L, too⟩ := S.lines
    have hsz := too_len too
    have hct := legs_count hsz.1
    rw [legs_eq] at k
    refine ⟨_, rfl, sh, _, dx, _, _, rfl, o1, T.k_Sheet.cl, T.n_Sheet_lines, rfl, M, S.mok, l, _, rfl, L, by omega, fun G pn s1 hpn TP gm => ?_⟩
    have S1 := S.back gm s1
    have g1 : hide M (back M H G) = G := hide_back gm
    generalize hH1 : back M H G = H1 at S1 g1
    have k1 := told_from k s1 g1
    rw [← g1] at TP
    generalize hps : Vbexaa.legsOf st.lines = gs at TP k1 hct
    obtain ⟨as, t1, t2⟩ := TP
    have htl := paired_len t2
    refine ⟨_, rfl, pn, _, rfl, .inl (SqL.of (hide_same _ _ t1)), one_size, fun p hp => ?_⟩
    have O0 : Own H1 M p [V.int (gs.length : Int)] (upd H1 p (.lst [V.int ((as.map V.ref).length : Int)])) := by
      rw [List.length_map, htl]
      exact Own.first S1 hp
    refine ⟨_, rfl, pn, rfl, ⟨_, SqL.of (O0.old t1)⟩, for_list (K := K) (a := pn) (xs := as.map V.ref) (fun i σ H' => ∃ v, σ = [some (.ref sh), some (.ref nb), some (.ref rw), some (.ref pn), some (.ref p), v] ∧ Own H1 M p (V.int (gs.length : Int) :: (legsTold (gs.take i)).map V.int) H')
      ⟨none, rfl, O0⟩ (fun i σ H' _ ⟨_, _, O⟩ => SqL.of (O.old t1)) ?_ ?_⟩
    · rintro i y σ H' hi ⟨v, rfl, O⟩
      obtain ⟨b, hb, rfl⟩ := refs_of hi
      obtain ⟨x, hx, f1⟩ := Paired.getL t2 hb
      have tk := take_one hx
      have hi' : i < gs.length := (List.getElem?_eq_some_iff.mp hx).1
      have sl := legsTold_len (gs.take i)
      rw [List.length_take] at sl
      refine ⟨_, rfl, .inl ⟨rfl, _, SqL.of O.at_⟩, _, rfl, b, x, rfl, f1.same (O.same.trans hide_same), fun H2 q s2 hq hq2 => ?_⟩
      have O2 := O.more s2 S1.there
      refine ⟨p, q, _, _, rfl, rfl, O2.at_, hq2, by rw [List.length_cons, List.length_map, List.length_map]; have e : (Vbexaa.legRow x).length = 3 := rfl; omega, ?_⟩
      refine ⟨_, rfl, ?_⟩
      have e : V.int (gs.length : Int) :: (legsTold (gs.take (i + 1))).map V.int = V.int (gs.length : Int) :: (legsTold (gs.take i)).map V.int ++ (Vbexaa.legRow x).map V.int := by
        rw [tk, legsTold_snoc]
        rfl
      rw [e]
      exact O2.next
    · rintro σ H' ⟨v, rfl, O⟩
      rw [List.length_map, htl, List.take_length] at O
      exact ⟨_, rfl, O.told k1 S1 rfl⟩
def gLeg (st : Vbexaa.St) (ns _row : List Int) : Vbexaa.St × List Int := Vbexaa.step st (.leg (ns.headD 0))
def winTold (ws : List Vbexaa.Window) : List Int := ws.flatMap fun x => Vbexaa.ints [x.first, x.last, x.days]
theorem leg_no {st : Vbexaa.St} {k : Int} {row : List Int} (h : Vbexaa.within k 0 100 = false) : gLeg st [k] row = (st, [-1]) := step_no (c := .leg k) h
theorem leg_yes {st : Vbexaa.St} {k : Int} {row : List Int} (h : Vbexaa.within k 0 100 = true) : gLeg st [k] row = (st, match (Vbexaa.legsOf st.lines)[k.toNat]? with
    | none => [-4]
    | some g => Vbexaa.legRow g ++ winTold g.windows) := by
  unfold gLeg
  rw [List.headD_cons, step_yes (c := .leg k) h]
  unfold Vbexaa.act Vbexaa.landOf
  dsimp only
  cases (Vbexaa.legsOf st.lines)[k.toNat]? <;> rfl
theorem winTold_snoc (ws : List Vbexaa.Window) (x : Vbexaa.Window) : (winTold (ws ++ [x])).map V.int = (winTold ws).map V.int ++ vN [x.first, x.last, x.days] := by
  unfold winTold
  rw [List.flatMap_append, List.flatMap_cons, List.flatMap_nil, List.append_nil, List.map_append, ints_v]
theorem winTold_len : ∀ (ws : List Vbexaa.Window), (winTold ws).length = 3 * ws.length
  | [] => rfl
  | x :: ws => by
    have ih := winTold_len ws
    unfold winTold at ih ⊢
    rw [List.flatMap_cons, List.length_append, List.length_cons, ih]
    have e : (Vbexaa.ints [x.first, x.last, x.days]).length = 3 := rfl
    omega
theorem ok_call_leg (T : Txt K mg) : Df P w K mg base "call_leg" 8 ["sheet", "numbers", "row"] (spCall mg gLeg fun ns _ => ∃ k, ns = [k]) := by
  have sc := sc_call_leg
  have D_legs_told := ok_legs_told (P := P) (w := w) (base := base) T
  have D_leg_numbers := ok_leg_numbers (P := P) (w := w) (base := base) T
  refine df_of T.f_call_leg sc (fun vs H Q E h => ?_) (fun f cdv A outer s H vs Q E hr h => ?_)
  · obtain ⟨sh, nb, rw, M, st, ns, row, rfl, _⟩ := h
    rfl
  · obtain ⟨sh, nb, rw, M, st, ns, row, rfl, S, hnb, hrw, ⟨kk, rfl⟩, k⟩ := h
    have big : sizeLine = 16777216 := sizeLine_eq
    refine ⟨_, (pss_cons (ps_set (i := 3) sc.nd rfl (Or.inl rfl) (pe_ix ix_list (pv 1) pe_int (fun _ _ => rfl)))
      (pss_cons (ps_if (PW.pt (pw_or (pt_cmpR op_lt (pv 3) pe_int (nomark _)) (pw_or1 (pt_cmpR op_gt (pv 3) (pe_gc rfl T.c_MOST_LEG_NUMBER) (nomark _)))))
        (pss_one (ps_ret (pe_lst (pa_cons (pe_gc rfl T.c_OUT_OF_RANGE) pa_nil))))
        pss_nil)
      (pss_cons (ps_set (i := 4) sc.nd rfl (Or.inl rfl) (pe_df D_legs_told.fr hr.m rfl (pa_cons (pe_fld (pv 0) rfl) pa_nil)))
      (pss_cons (ps_if (pt_cmpR op_ge (pv 3) (pe_callB call_len_seq (by rfl) T.b_len PySem.boot_len (pa_cons (pv 4) pa_nil)) (nomark _))
        (pss_one (ps_ret (pe_lst (pa_cons (pe_gc rfl T.c_NOT_THERE) pa_nil))))
        pss_nil)
      (pss_cons (ps_set (i := 5) sc.nd rfl (Or.inl rfl) (pe_df D_leg_numbers hr.m rfl (pa_cons (pe_ix ix_list (pv 4) (pv 3) (fun _ _ => rfl)) pa_nil)))
      (pss_cons (ps_for PassesOwn.never rfl (pi_list (pe_fld (pe_ix ix_list (pv 4) (pv 3) (fun _ _ => rfl)) rfl)) (pg_name (i := 6) sc.nd rfl (Or.inl rfl))
        (pss_one (ps_expr (pe_bm PySem.F.plainAttrs_list PySem.F.slot_list_extend PySem.F.type_list_extend mt_extT (pv 5) (pa_cons (pv 6) pa_nil)))))
      (pss_one (ps_ret (pv 5))))))))), ?_⟩
    refine ⟨_, rfl, nb, _, _, _, rfl, rfl, SqL.of (hide_same _ _ hnb), at_of (j := 0) rfl rfl, ?_⟩
    refine ⟨_, rfl, _, _, rfl, rfl, _, rfl, ite2 (fun h => iteT ⟨one_size, fun q hq => ?_⟩) (fun h => ?_)⟩
    · rw [decide_eq_true_eq] at h
      have hb : Vbexaa.within kk 0 100 = false := by
        unfold Vbexaa.within
        rw [decide_eq_false (show ¬ 0 ≤ kk by omega)]
        rfl
      rw [leg_no hb] at k
      exact told_new k S Same.rfl' hq rfl
    · rw [decide_eq_true_eq] at h
      refine ⟨_, rfl, _, _, rfl, rfl, _, rfl, ite2 (fun h2 => ⟨one_size, fun q hq => ?_⟩) (fun h2 => ?_)⟩
      · rw [decide_eq_true_eq] at h2
        have hb : Vbexaa.within kk 0 100 = false := by
          unfold Vbexaa.within
          rw [decide_eq_false (show ¬ kk ≤ 100 by omega), Bool.and_false]
        rw [leg_no hb] at k
        exact told_new k S Same.rfl' hq rfl
      · rw [decide_eq_true_eq] at h2
        have hb : Vbexaa.within kk 0 100 = true := by
          unfold Vbexaa.within
          rw [decide_eq_true (show 0 ≤ kk by omega), decide_eq_true (show kk ≤ 100 by omega)]
          rfl
        rw [leg_yes hb] at k
        obtain ⟨n, rfl⟩ : ∃ n : Nat, kk = (n : Int) := ⟨kk.toNat, by omega⟩
        rw [Int.toNat_natCast] at k
        obtain ⟨dx, l, e1, u1, o1, L, too⟩ := S.lines
        have hok := L.ok
        have hsz := too_len too
        have hct := legs_count hsz.1
        have hws := leg_small fun x hx => (hok x hx).1
        refine ⟨_, rfl, sh, _, dx, _, _, rfl, o1, T.k_Sheet.cl, T.n_Sheet_lines, rfl, M, S.mok, l, _, rfl, L, by omega, fun G pn s1 hpn TP gm => ?_⟩
        have S1 := S.back gm s1
        have g1 : hide M (back M H G) = G := hide_back gm
        generalize hH1 : back M H G = H1 at S1 g1
        have k1 := told_from k s1 g1
        rw [← g1] at TP
        generalize hps : Vbexaa.legsOf st.lines = gs at TP k1 hct hws
        obtain ⟨as, t1, t2⟩ := TP
        have htl := paired_len t2
        refine ⟨_, rfl, _, rfl, pn, _, rfl, .inl (SqL.of (hide_same _ _ t1)), _, _, rfl, rfl, _, rfl, ite2 (fun h3 => ⟨one_size, fun q hq => ?_⟩) (fun h3 => ?_)⟩
        · rw [List.length_map, htl, decide_eq_true_eq] at h3
          have e : gs[n]? = none := List.getElem?_eq_none_iff.mpr (by omega)
          rw [e] at k1
          exact told_new k1 S1 Same.rfl' hq rfl
        · rw [List.length_map, htl, decide_eq_true_eq] at h3
          obtain ⟨g, hg⟩ : ∃ g, gs[n]? = some g := ⟨_, List.getElem?_eq_getElem (by omega)⟩
          rw [hg] at k1
          dsimp only at k1
          obtain ⟨b, hb', f1⟩ := Paired.get t2 hg
          have hbv : (as.map V.ref)[n]? = some (V.ref b) := by rw [List.getElem?_map, hb']; rfl
          have hwl := hws g (List.mem_of_getElem? hg)
          refine ⟨_, rfl, _, rfl, pn, _, _, _, rfl, rfl, SqL.of (hide_same _ _ t1), at_of rfl hbv, b, g, rfl, f1.same hide_same, fun H2 q s2 hq hq2 => ?_⟩
          -- the answer's list is q
          have np : q ∉ M := fun z => S1.there q z hq
          have O0 : Own H1 M q ((Vbexaa.legRow g).map V.int) H2 := by
            refine ⟨fun x hx => ?_, hq2, ?_, np, hq⟩
            · cases e : H1 x with
              | none => exact absurd e (S1.there x hx)
              | some o => exact s2 _ _ e
            · refine same_hide (fun x o hx => s2 x o (hide_same _ _ hx)) fun x hx => ?_
              rcases List.mem_cons.mp hx with z | z
              · rw [z]
                exact hide_same.free hq
              · exact hide_in z
          obtain ⟨dg, wa, f2, ws, w1, w2⟩ := f1
          have hwn := paired_len w2
          refine ⟨_, rfl, _, rfl, pn, _, _, _, rfl, rfl, SqL.of (O0.old t1), at_of rfl hbv, b, _, dg, _, _, rfl, O0.old f2, T.k_Leg.cl, T.n_Leg_windows, rfl, wa, rfl, ⟨_, SqL.of (O0.old w1)⟩, for_list (K := K) (a := wa) (xs := ws.map V.ref) (fun i σ H' => ∃ v, σ = [some (.ref sh), some (.ref nb), some (.ref rw), some (.int n), some (.ref pn), some (.ref q), v] ∧ Own H1 M q ((Vbexaa.legRow g).map V.int ++ (winTold (g.windows.take i)).map V.int) H')
            ⟨none, rfl, by rw [List.take_zero]; unfold winTold; rw [List.flatMap_nil, List.map_nil, List.append_nil]; exact O0⟩ (fun i σ H' _ ⟨_, _, O⟩ => SqL.of (O.old w1)) ?_ ?_⟩
          · rintro i y σ H' hi ⟨v, rfl, O⟩
            obtain ⟨c, hc, rfl⟩ := refs_of hi
            obtain ⟨x, hx, c1⟩ := Paired.getL w2 hc
            have tk := take_one hx
            have hi' : i < g.windows.length := (List.getElem?_eq_some_iff.mp hx).1
            have sl := winTold_len (g.windows.take i)
            rw [List.length_take] at sl
            have e3 : (Vbexaa.legRow g).length = 3 := rfl
            refine ⟨_, rfl, .inl ⟨rfl, _, SqL.of O.at_⟩, _, rfl, q, c, _, _, rfl, rfl, O.at_, SqT.of (O.old c1), by rw [vN_len, List.length_append, List.length_map, List.length_map]; simp only [List.length_cons, List.length_nil]; omega, ?_⟩
            refine ⟨_, rfl, ?_⟩
            rw [tk, winTold_snoc, ← List.append_assoc]
            exact O.next
          · rintro σ H' ⟨v, rfl, O⟩
            rw [List.length_map, hwn, List.take_length] at O
            exact ⟨_, rfl, O.told k1 S1 (by rw [List.map_append])⟩
end
end SL
end
section
namespace SL
open PySem PySem.Spec PyProof.Rows L2
def okE (e : DictEntry) : Bool := match e.key with
  | .int k _ => decide (e.hash = hashInt k)
  | _ => false
def TD (P : Program) (w : World) (K : PySem.W.Frag) (d : Addr) (f : Key → Option Value) : Prop := ∀ h : Heap, K.In h → h.MapOf (mixKind P w) d f
theorem td_mk {P : Program} {w : World} {K : PySem.W.Frag} {d : Addr} {es : Array DictEntry} {ep : Nat} (l : K.lookup d = some ⟨.type "dict", none, .dict es ep, #[]⟩) (ko : es.toList.all okE = true) :
    TD P w K d fun k => findBy (mixKind P w).is es k := fun h X => by
  refine ⟨_, es, ep, X d _ l, ⟨rfl, rfl, rfl⟩, rfl, fun e he => ?_, fun k => rfl⟩
  have q := List.all_eq_true.mp ko e (by simpa using he)
  unfold okE at q
  split at q
  · rename_i k t ek
    refine ⟨.inl k, ?_, of_decide_eq_true q⟩
    rw [ek]
    exact mixKind_int P w k t
  · cases q
section
variable {X : Cx}
def tTopD (f : Key → Option Value) (ty : TE) : TE := fun σ H Q => ty σ H fun y H1 => ∃ i u v, y = .int i ∧ f (.inl i) = some u ∧ RelV v u ∧ Q v H1
theorem pe_topd {x : Str} {d : Addr} {f : Key → Option Value} {i : Expr} {ty : TE} {p pos : Pos} (hg : Gl X x) (hm : X.mg x = some (.ref d)) (D : TD X.prog X.w X.K d f) (hi : PE X i ty) (hs : NoSl i) (hd : (x == ("__debug__" : Str)) = false := by decide) : PE X (.Subscript (.Name x p) i pos) (tTopD f ty) := by
  intro pins s σ H Q I h
  refine subD_of PySem.F.slot_dict_getitem.lookup hs (ld_glob I hg hm (thn (hi pins s σ H _ I h) fun iv s2 ⟨y, H2, I2, ry, k, u, v, ex, hf, rv, q2⟩ => ?_) hd)
  subst ex
  have mm := D s2.heap I2.kIn
  exact ⟨mm.typeIs, wpAny_getItem_of (kV_is (k := .inl k) ry) mm hf ⟨v, H2, I2.tok _, rv, q2⟩⟩
def Cal (P : Program) (w : World) (K : PySem.W.Frag) (mg : Str → Option Value) (base : Heap) (f : Addr) (k : Nat) (ps : List Str) (sp : Sp) : Prop := ∃ fd, FnOk P w K mg base CX0 k f fd ps sp ∧ PySem.W.keepIn K (.ref f) = true ∧ Binds K fd ps []
theorem Cal.fr {P : Program} {w : World} {K : PySem.W.Frag} {mg : Str → Option Value} {base : Heap} {f : Addr} {k : Nat} {ps : List Str} {sp : Sp} (h : Cal P w K mg base f k ps sp) : Cal P w K mg base f k ps (SL.fr sp) := by
  obtain ⟨fd, F, r⟩ := h
  exact ⟨fd, fn_frame F, r⟩
def tCallV (X : Cx) (k : Nat) (ps : List Str) (tf : TE) (t : TA) : TE := fun σ H Q => tf σ H fun x H1 => ∃ f sp, x = .ref f ∧ Cal X.prog X.w X.K X.mg X.base f k ps sp ∧ t σ H1 fun vs H2 => sp (vs ++ []) H2 Q E0
theorem pe_callv {k : Nat} {ps : List Str} {x : Str} {p pos : Pos} {e : Expr} {es : List Expr} {tf : TE} {t : TA} (hr : Room k X.A) (hf : PE X (.Name x p) tf) (ha : PA X (e :: es) t)
    (he : starEach (e :: es) X.env = (false, eval e X.env) :: starEach es X.env := by rfl) (hpl : (backTo pos (starEach es X.env)).any (·.1) = false := by rfl) : PE X (.Call (.Name x p) (e :: es) [] pos) (tCallV X k ps tf t) := by
  intro pins s σ H Q I h
  refine wpAny_Call_Name_kw (thn (hf pins s σ H _ I h) fun u s1 ⟨y, H1, I1, ry, f, sp, ey, ⟨fd, F, hk, hb⟩, q1⟩ => ?_)
  subst ey
  obtain rfl : u = Value.ref f := ry
  refine PySem.W.callWith_K (h₀ := X.base) I.ok.mod.kin hk (thn (ha pos pins s1 σ H1 _ I1 q1) fun us s2 ⟨vs, H2, I2, r, q⟩ => ⟨I2.kIn, ?_⟩) he hpl
  exact run_fn F hr hb .nil pass0 I2 r q
end
end SL
end
section
namespace SL
open PySem PySem.Spec PyProof.Rows L2
theorem cut_mid (xs : List V) (a b : Nat) (h1 : a ≤ b) (h2 : b ≤ xs.length) : cutV xs (some (a : Int)) (some (b : Int)) = (xs.drop a).take (b - a) := by
  unfold cutV
  rw [HT.sIx_nat, HT.sIx_nat, Nat.min_eq_left h2, Nat.min_eq_left (Nat.le_trans h1 h2)]
def TupK (K : PySem.W.Frag) (a : Addr) (xs : List V) : Prop := ∃ (o : Obj) (its : Array Value) (n : Nat), K.lookup a = some o ∧ o.cls = .type "tuple" ∧ o.data = .seq its n ∧ its.size ≤ sizeLine ∧ Vals xs its.toList
theorem TupK.sq {K : PySem.W.Frag} {a : Addr} {xs : List V} (h : TupK K a xs) {H : Hp} : SqT K H a xs := .inr h
def Ent (P : Program) (w : World) (K : PySem.W.Frag) (mg : Str → Option Value) (base : Heap) (f : Key → Option Value) (p : Int) (n k : Nat) : Prop :=
  ∃ ta fa g pre, f (.inl p) = some (.ref ta) ∧ TupK K ta [.int n, .bl (k == 1), .ref fa] ∧ Cal P w K mg base fa 8 ["sheet", "numbers", "row"] (spCall mg g pre) ∧
    ∀ st ns row, ns.length = n → (k = 0 → row = []) → PyInside.call PyVbexaa.bound (callOf p ns row k) = true → pre ns row ∧ VbexaaNeutral.step st (PyVbexaa.whole (callOf p ns row k)) = g st ns row
structure Desk (P : Program) (w : World) (K : PySem.W.Frag) (mg : Str → Option Value) (base : Heap) (d : Addr) (f : Key → Option Value) : Prop where
  mgD : mg "CALLS" = some (.ref d)
  td : TD P w K d f
  ent : ∀ p n k, PyVbexaa.shape p = some (n, k) → Ent P w K mg base f p n k
theorem sheet_new {mg : Str → Option Value} {H1 : Hp} {sh dx l e u : Addr} (o : H1 sh = some (.ins (cS mg) dx (shF (.ref l) (.ref e) (.ref u)))) (ho : H1 dx = some (.own sh)) (hl : H1 l = some (.lst [])) (he : H1 e = some (.lst [])) (hu : H1 u = some (.lst [])) (le : l ≠ e) (lu : l ≠ u) (eu : e ≠ u) :
    Sheet (cL mg) (cS mg) H1 sh (shM sh dx e u) Vbexaa.start := by
  have n1 : l ≠ sh := ne_of hl o (by intro z; cases z)
  have n2 : l ≠ dx := ne_of hl ho (by intro z; cases z)
  refine ⟨dx, l, e, u, [], [], rfl, o, ho, he, hu, eu, ⟨[], ?_, .nil⟩, .nil, .nil, by show 0 + 0 ≤ 20; omega, rfl, fun _ h => (by cases h), fun _ h => (by cases h)⟩
  rw [hide_out (by simp [n1, n2, le, lu])]
  exact hl
section
variable {P : Program} {w : World} {K : PySem.W.Frag} {mg : Str → Option Value} {base : Heap}
def atOf (σ : L2.St) : Nat := match σ[3]? with
  | some (some (V.int z)) => z.toNat
  | _ => 0
structure Turn (mg : Str → Option Value) (K : PySem.W.Frag) (a sh p : Addr) (l : List Int) (i : Nat) (H' : Hp) : Prop where
  ex : ∃ (st : Vbexaa.St) (cs : List (List (List Int))) (f : Nat) (M : List Addr) (done : List Int), PyFlat.calls PyVbexaa.shape f (l.drop i) = some cs ∧ (∀ c ∈ cs, PyInside.call PyVbexaa.bound c = true) ∧ Sheet (cL mg) (cS mg) (hide [p] H') sh M st ∧
    H' p = some (.lst (done.map V.int)) ∧ SqL K (hide M (hide [p] H')) a (l.map V.int) ∧ done ++ restTold st cs = PyVbexaa.answers l
  le : i ≤ l.length
def spAns (K : PySem.W.Frag) : Sp := fun vs H Q _ => ∃ (a : Addr) (l : List Int), vs = [.ref a] ∧ SqL K H a (l.map V.int) ∧ PyVbexaa.answers_asked l = true ∧ ∀ (H' : Hp) (p : Addr), H' p = some (.lst ((PyVbexaa.answers l).map V.int)) → Q (.ref p) H'
theorem asked_parts {l : List Int} (h : PyVbexaa.answers_asked l = true) : ∃ cs, PyFlat.calls PyVbexaa.shape l.length l = some cs ∧ (∀ c ∈ cs, PyInside.call PyVbexaa.bound c = true) ∧ (PyVbexaa.answers l).length ≤ 10000000 ∧ restTold Vbexaa.start cs = PyVbexaa.answers l := by
  unfold PyVbexaa.answers_asked at h
  cases hc : PyFlat.calls PyVbexaa.shape l.length l with
  | none =>
    rw [hc] at h
    cases h
  | some cs =>
    rw [hc] at h
    simp only [Bool.and_eq_true] at h
    obtain ⟨⟨⟨⟨h1, h2⟩, h3⟩, h4⟩, h5⟩ := h
    refine ⟨cs, rfl, fun c hc' => List.all_eq_true.mp h3 c hc', of_decide_eq_true h5, ?_⟩
    unfold PyVbexaa.answers PyVbexaa.calls
    rw [hc]
    rfl
theorem ok_answers (T : Txt K mg) {d : Addr} {f : Key → Option Value} (DK : Desk P w K mg base d f) {fa : Addr} {fd : FuncData} (F : Fun K "answers" "answers" s_answers fa fd) : FnOk P w K mg base CX0 9 fa fd ["calls"] (spAns K) := by
  have sc := sc_answers
  have M_Sheet := ok_Sheet (P := P) (w := w) (base := base) T
  refine F.ok sc (fun vs H Q E h => ?_) (fun cdv A outer s H vs Q E hr h => ?_)
  · obtain ⟨a, l, rfl, _⟩ := h
    rfl
  · obtain ⟨a, l, rfl, hS, hask, k⟩ := h
    have big : sizeLine = 16777216 := sizeLine_eq
    obtain ⟨cs0, hc0, hb0, hlen0, hr0⟩ := asked_parts hask
    refine ⟨_, (pss_cons (ps_set (i := 1) sc.nd rfl (Or.inl rfl) (pe_mk0 M_Sheet hr.m rfl))
      (pss_cons (ps_set (i := 2) sc.nd rfl (Or.inl rfl) (pe_lst pa_nil))
      (pss_cons (ps_set (i := 3) sc.nd rfl (Or.inl rfl) pe_int)
      (pss_cons (ps_while PassesOwn.never (pt_cmpR op_lt (pv 3) (pe_callB call_len_seq (by rfl) T.b_len PySem.boot_len (pa_cons (pv 0) pa_nil)) (nomark _))
        (pss_cons (ps_set (i := 4) sc.nd rfl (Or.inl rfl) (pe_topd rfl DK.mgD DK.td (pe_ix ix_list (pv 0) (pv 3) (fun _ _ => rfl)) (fun _ _ => rfl)))
        (pss_cons (ps_aug (i := 3) sc.nd rfl (Or.inl rfl) pe_int ip_add)
        (pss_cons (ps_set (i := 5) sc.nd rfl (Or.inl rfl) (pe_slice sl_list (pv 0) (po_some (pv 3)) (po_some (pe_op op_add (pv 3) (pe_ix ix_tup (pv 4) pe_int (fun _ _ => rfl))))))
        (pss_cons (ps_aug (i := 3) sc.nd rfl (Or.inl rfl) (pe_ix ix_tup (pv 4) pe_int (fun _ _ => rfl)) ip_add)
        (pss_cons (ps_set (i := 6) sc.nd rfl (Or.inl rfl) (pe_lst pa_nil))
        (pss_join (ps_if (pt_truth (pe_ix ix_tup (pv 4) pe_int (fun _ _ => rfl)) (fun _ => rfl))
          (pss_cons (ps_set (i := 6) sc.nd rfl (Or.inl rfl) (pe_slice sl_list (pv 0) (po_some (pe_op op_add (pv 3) pe_int)) (po_some (pe_op op_add (pe_op op_add (pv 3) pe_int) (pe_ix ix_list (pv 0) (pv 3) (fun _ _ => rfl))))))
          (pss_one (ps_aug (i := 3) sc.nd rfl (Or.inl rfl) (pe_op op_add pe_int (pe_ix ix_list (pv 0) (pv 3) (fun _ _ => rfl))) ip_add)))
          pss_nil)
        (pss_cons (ps_set (i := 7) sc.nd rfl (Or.inl rfl) (pe_ix ix_tup (pv 4) pe_int (fun _ _ => rfl)))
        (pss_cons (ps_set (i := 8) sc.nd rfl (Or.inl rfl) (pe_callv (k := 8) (ps := ["sheet", "numbers", "row"]) hr.m (pv 7) (pa_cons (pv 1) (pa_cons (pv 5) (pa_cons (pv 6) pa_nil)))))
        (pss_cons (ps_expr (pe_bm PySem.F.plainAttrs_list PySem.F.slot_list_append PySem.F.type_list_append mt_append (pv 2) (pa_cons (pe_callB call_len_seq (by rfl) T.b_len PySem.boot_len (pa_cons (pv 8) pa_nil)) pa_nil)))
        (pss_one (ps_expr (pe_bm PySem.F.plainAttrs_list PySem.F.slot_list_extend PySem.F.type_list_extend mt_extend (pv 2) (pa_cons (pv 8) pa_nil))))))))))))))
      (pss_one (ps_ret (pv 2))))))), ?_⟩
    intro sh dx nsh ndx nex
    refine ⟨sh, dx, rfl, upd_same, fun H1 lv ev uv o1 hl1 he1 hu1 le lu eu hl0 he0 hu0 kp => ⟨rfl, Nat.zero_le _, fun p hp => ?_⟩⟩
    -- a new sheet, an empty list
    have own1 : H1 dx = some (.own sh) := kp dx _ (by rw [upd_ne nex, upd_same]) nex
    have S1 := sheet_new (mg := mg) o1 own1 hl1 he1 hu1 le lu eu
    have sm0 : Same H (hide (shM sh dx ev uv) H1) := by
      have nl : ∀ {b : Addr}, (upd (upd H dx (.own sh)) sh (.ins (clsOf mg "Sheet") dx [])) b = none → H b = none := fun {b} z => by
        by_cases h1 : b = sh
        · rw [h1]
          exact nsh
        · by_cases h2 : b = dx
          · rw [h2]
            exact ndx
          · rw [upd_ne h1, upd_ne h2] at z
            exact z
      refine same_hide (Same.made nsh ndx kp) fun b hb => ?_
      rcases mem4.mp hb with z | z | z | z
      · rw [z]
        exact nsh
      · rw [z]
        exact ndx
      · rw [z]
        exact nl he0
      · rw [z]
        exact nl hu0
    have T0 : Turn mg K a sh p l 0 (upd H1 p (.lst [])) := by
      have z : hide [p] (upd H1 p (.lst [])) = H1 := by rw [hide_upd (by simp), hide_none hp]
      refine ⟨⟨Vbexaa.start, cs0, l.length, shM sh dx ev uv, [], hc0, hb0, by rw [z]; exact S1, upd_same, ?_, hr0⟩, Nat.zero_le _⟩
      rw [z]
      exact sm0.seq hS
    refine while_by (fun σ H' => ∃ i v4 v5 v6 v7 v8, σ = [some (.ref a), some (.ref sh), some (.ref p), some (.int ((i : Nat) : Int)), v4, v5, v6, v7, v8] ∧ Turn mg K a sh p l i H') (fun σ _ => l.length - atOf σ) ⟨0, none, none, none, none, none, rfl, T0⟩ ?_ ?_
    · rintro σ H' ⟨i, v4, v5, v6, v7, v8, rfl, ⟨st, cs, fu, M, done, hc, hb, S, hp', hS', hd⟩, hle⟩
      have hsG : Same (hide M (hide [p] H')) H' := hide_same.trans hide_same
      have pm : p ∈ [p] := by simp
      refine ⟨_, rfl, _, rfl, a, _, rfl, .inl (hsG.seq hS'), _, _, rfl, rfl, _, rfl, ite2 (fun hlt => ?_) (fun hge => ?_)⟩
      · rw [List.length_map, decide_eq_true_eq] at hlt
        have hi : i < l.length := by omega
        obtain ⟨x, hx⟩ : ∃ x, l[i]? = some x := ⟨_, List.getElem?_eq_getElem hi⟩
        rw [drop_one hx] at hc
        obtain ⟨n, kk, row, t, cs', f2, hd2, hc2, rfl⟩ := calls_cons hc
        obtain ⟨ta, fa, g, pre, hf, htu, hcal, hstep⟩ := DK.ent x n kk hd2.sh
        have hk1 := (shape_k hd2.sh).2
        have hn5 := (shape_k hd2.sh).1
        have hnl : ((l.drop (i + 1)).take n).length = n := by
          rw [List.length_take, Nat.min_eq_left hd2.le]
        have hle1 : i + 1 + n ≤ l.length := by
          have := hd2.le
          rw [List.length_drop] at this
          omega
        have hxv : (l.map V.int)[i]? = some (V.int x) := by rw [List.getElem?_map, hx]; rfl
        have hall : PyInside.call PyVbexaa.bound (callOf x ((l.drop (i + 1)).take n) row kk) = true := hb _ (List.mem_cons_self ..)
        obtain ⟨hpre, hst⟩ := hstep st ((l.drop (i + 1)).take n) row hnl (fun z => (hd2.k0 z).1) hall
        have hs0 : SqL K H' a (l.map V.int) := hsG.seq hS'
        -- form = CALLS[calls[at]]
        refine ⟨_, rfl, _, rfl, a, _, _, _, rfl, rfl, hs0, at_of rfl hxv, x, _, .ref ta, rfl, hf, rfl, ?_⟩
        -- at += 1
        refine ⟨_, rfl, _, _, rfl, rfl, ?_⟩
        -- numbers = calls[at:at + form[0]]
        have e1 : ((i : Int) + 1) = ((i + 1 : Nat) : Int) := by omega
        have e2 : ((i : Int) + 1 + (n : Int)) = ((i + 1 + n : Nat) : Int) := by omega
        refine ⟨_, rfl, _, rfl, _, rfl, _, rfl, _, rfl, ta, _, _, _, rfl, rfl, htu.sq, at_of (j := 0) rfl rfl, _, _, rfl, rfl, _, rfl, a, _, rfl, hs0, fun pn hpn => ?_⟩
        have cut1 : cutV (l.map V.int) (some ((i : Int) + 1)) (some ((i : Int) + 1 + (n : Int))) = ((l.drop (i + 1)).take n).map V.int := by
          rw [e2, e1, cut_mid _ _ _ (by omega) (by rw [List.length_map]; omega), ← List.map_drop, ← List.map_take]
          congr 2
          omega
        rw [cut1]
        have npn : pn ∉ [p] := by
          have z : p ≠ pn := ne_of_none hp' hpn
          simpa using Ne.symm z
        have hpnG : hide [p] H' pn = none := hide_same.free hpn
        obtain ⟨S3, g3⟩ := S.new (o := .lst (((l.drop (i + 1)).take n).map V.int)) hpnG
        -- at += form[0]
        refine ⟨_, rfl, _, rfl, ta, _, _, _, rfl, rfl, htu.sq, at_of (j := 0) rfl rfl, _, _, rfl, rfl, ?_⟩
        -- row = []
        refine ⟨Nat.zero_le _, fun pr hpr => ?_⟩
        have npr : pr ∉ [p] := by
          have z : p ≠ pr := ne_of_none (Same.new hpn _ _ hp') hpr
          simpa using Ne.symm z
        have gp3 : hide [p] (upd H' pn (.lst (((l.drop (i + 1)).take n).map V.int))) = upd (hide [p] H') pn (.lst (((l.drop (i + 1)).take n).map V.int)) := hide_new npn
        have hprG : upd (hide [p] H') pn (.lst (((l.drop (i + 1)).take n).map V.int)) pr = none := by rw [← gp3]; exact hide_same.free hpr
        obtain ⟨S4, g4⟩ := S3.new (o := .lst []) hprG
        have gp4 : hide [p] (upd (upd H' pn (.lst (((l.drop (i + 1)).take n).map V.int))) pr (.lst [])) = upd (upd (hide [p] H') pn (.lst (((l.drop (i + 1)).take n).map V.int))) pr (.lst []) := by rw [hide_new npr, gp3]
        have hp4 : upd (upd H' pn (.lst (((l.drop (i + 1)).take n).map V.int))) pr (.lst []) p = some (.lst (done.map V.int)) := Same.new hpr _ _ (Same.new hpn _ _ hp')
        rw [← gp4] at S4 g4
        have hpnM : hide M (hide [p] H') pn = none := hide_same.free hpnG
        have s24 : Same (hide M (hide [p] H')) (hide M (hide [p] (upd (upd H' pn (.lst (((l.drop (i + 1)).take n).map V.int))) pr (.lst [])))) := by
          rw [g4, g3]
          refine (Same.new hpnM).tr_new ?_
          rw [← g3]
          exact hide_same.free hprG
        have hpn4 : hide M (hide [p] (upd (upd H' pn (.lst (((l.drop (i + 1)).take n).map V.int))) pr (.lst []))) pn = some (.lst (((l.drop (i + 1)).take n).map V.int)) := by
          rw [g4, upd_ne (ne_of_none upd_same hpr), g3, upd_same]
        have hpr4 : hide M (hide [p] (upd (upd H' pn (.lst (((l.drop (i + 1)).take n).map V.int))) pr (.lst []))) pr = some (.lst []) := by rw [g4, upd_same]
        generalize hH4 : upd (upd H' pn (.lst (((l.drop (i + 1)).take n).map V.int))) pr (.lst []) = H4 at S4 s24 hpn4 hpr4 hp4
        have hsG4 : Same (hide M (hide [p] H4)) H4 := hide_same.trans hide_same
        -- if form[1]: the row
        refine ⟨fun σ5 H5 => ∃ (j : Nat) (pr' : Addr), σ5 = [some (.ref a), some (.ref sh), some (.ref p), some (.int (j : Int)), some (.ref ta), some (.ref pn), some (.ref pr'), v7, v8] ∧ i < j ∧ j ≤ l.length ∧ l.drop j = t ∧ Sheet (cL mg) (cS mg) (hide [p] H5) sh M st ∧ H5 p = some (.lst (done.map V.int)) ∧ Same (hide M (hide [p] H')) (hide M (hide [p] H5)) ∧
            hide M (hide [p] H5) pn = some (.lst (((l.drop (i + 1)).take n).map V.int)) ∧ hide M (hide [p] H5) pr' = some (.lst (row.map V.int)), ⟨_, rfl, ta, _, _, _, rfl, rfl, htu.sq, at_of (j := 1) rfl rfl, _, rfl, ite2 (fun hk => ?_) (fun hk => ?_)⟩, ?_⟩
        · have hk' : kk = 1 := by simpa using hk
          obtain ⟨m, rr, hm0, hm1, hm2, hm3, hm4⟩ := hd2.k1 hk'
          obtain ⟨mn, rfl⟩ : ∃ mn : Nat, m = (mn : Int) := ⟨m.toNat, by omega⟩
          rw [Int.toNat_natCast] at hm2 hm3 hm4
          rw [List.drop_drop] at hm0
          have hm0' : l.drop (i + 1 + n) = (mn : Int) :: rr := by
            have z : i + 1 + n = n + (i + 1) := by omega
            first
              | exact hm0
              | (rw [z]; exact hm0)
          have hmx : l[i + 1 + n]? = some (mn : Int) := by
            have q : (l.drop (i + 1 + n))[0]? = some (mn : Int) := by rw [hm0']; rfl
            rw [List.getElem?_drop] at q
            exact q
          have hrr : rr = l.drop (i + 1 + n + 1) := by
            have q := drop_one hmx
            rw [hm0'] at q
            exact (List.cons.inj q).2
          have hrl : rr.length = l.length - (i + 1 + n + 1) := by rw [hrr, List.length_drop]
          have hlt2 : i + 1 + n < l.length := (List.getElem?_eq_some_iff.mp hmx).1
          have hmv : (l.map V.int)[i + 1 + n]? = some (V.int (mn : Int)) := by rw [List.getElem?_map, hmx]; rfl
          have hs4 : SqL K H4 a (l.map V.int) := hsG4.seq (s24.seq hS')
          refine ⟨_, rfl, _, rfl, _, _, rfl, rfl, _, rfl, _, rfl, _, _, rfl, rfl, _, rfl, _, rfl, a, _, _, _, rfl, rfl, hs4, at_of e2 hmv, _, _, rfl, rfl, _, rfl, a, _, rfl, hs4, fun pr2 hpr2 => ?_⟩
          have e3 : ((i : Int) + 1 + (n : Int) + 1) = ((i + 1 + n + 1 : Nat) : Int) := by omega
          have e4 : ((i : Int) + 1 + (n : Int) + 1 + (mn : Int)) = ((i + 1 + n + 1 + mn : Nat) : Int) := by omega
          have cut2 : cutV (l.map V.int) (some ((i : Int) + 1 + (n : Int) + 1)) (some ((i : Int) + 1 + (n : Int) + 1 + (mn : Int))) = row.map V.int := by
            rw [e4, e3, cut_mid _ _ _ (by omega) (by rw [List.length_map]; omega), ← List.map_drop, ← List.map_take, hm3, hrr]
            congr 2
            omega
          rw [cut2]
          have hpr2G : hide [p] H4 pr2 = none := hide_same.free hpr2
          have npr2 : pr2 ∉ [p] := by
            have z : p ≠ pr2 := ne_of_none hp4 hpr2
            simpa using Ne.symm z
          obtain ⟨S5, g5⟩ := S4.new (o := .lst (row.map V.int)) hpr2G
          have gp5 : hide [p] (upd H4 pr2 (.lst (row.map V.int))) = upd (hide [p] H4) pr2 (.lst (row.map V.int)) := hide_new npr2
          rw [← gp5] at S5 g5
          have s5 : Same (hide M (hide [p] H')) (hide M (hide [p] (upd H4 pr2 (.lst (row.map V.int))))) := by
            rw [g5]
            exact s24.tr_new (hide_same.free hpr2G)
          have hs5 : SqL K (upd H4 pr2 (.lst (row.map V.int))) a (l.map V.int) := (hide_same.trans hide_same).seq (s5.seq hS')
          refine ⟨_, rfl, _, rfl, _, rfl, a, _, _, _, rfl, rfl, hs5, at_of e2 hmv, _, _, rfl, rfl, _, _, rfl, rfl, ?_⟩
          have e5 : ((i : Int) + 1 + (n : Int) + (1 + (mn : Int))) = ((i + 1 + n + 1 + mn : Nat) : Int) := by omega
          refine ⟨i + 1 + n + 1 + mn, pr2, ?_, by omega, by omega, ?_, S5, Same.new hpr2 _ _ hp4, s5, ?_, ?_⟩
          · rw [← e5]
            rfl
          · rw [hm4, hrr, List.drop_drop]
          · rw [g5, upd_ne (fun z => by rw [z] at hpn4; rw [hide_same.free hpr2G] at hpn4; cases hpn4)]
            exact hpn4
          · rw [g5, upd_same]
        · have hk' : kk = 0 := by
            have : ¬ kk = 1 := by simpa using hk
            omega
          obtain ⟨z1, z2⟩ := hd2.k0 hk'
          refine ⟨i + 1 + n, pr, ?_, by omega, hle1, ?_, S4, hp4, s24, hpn4, ?_⟩
          · rw [← e2]
            rfl
          · rw [z2, List.drop_drop]
          · rw [z1]
            exact hpr4
        · rintro σ5 H5 ⟨j, pr', rfl, hij, hjl, hjt, S5, hp5, s5, hpn5, hpr5⟩
          -- call = form[2]; answer = call(sheet, numbers, row)
          refine ⟨_, rfl, ta, _, _, _, rfl, rfl, htu.sq, at_of (j := 2) rfl rfl, ?_⟩
          refine ⟨_, rfl, fa, _, rfl, hcal.fr, _, rfl, _, rfl, _, rfl, [p], mok_lst hp5, sh, pn, pr', M, st, _, row, rfl, S5, hpn5, hpr5, hpre, fun G6 M6 q S6 sm6 hq6 ha6 gm6 => ?_⟩
          -- told.append(len(answer)); told.extend(answer)
          rw [← hst] at S6 ha6
          have sm := s5.trans sm6
          have g6 : hide [p] (back [p] H5 G6) = G6 := hide_back gm6
          have hp6 : back [p] H5 G6 p = some (.lst (done.map V.int)) := by rw [back_in pm]; exact hp5
          have ha6' := (hide_some ha6).2
          have hqp : q ≠ p := fun z => by
            have z1 := gm6 p pm
            rw [← z, ha6'] at z1
            cases z1
          have ha7 : back [p] H5 G6 q = some (.lst ((VbexaaNeutral.step st (PyVbexaa.whole (callOf x ((l.drop (i + 1)).take n) row kk))).2.map V.int)) := by
            rw [back_out (by simpa using hqp)]
            exact ha6'
          rw [restTold_cons] at hd
          generalize hH6 : back [p] H5 G6 = H6 at g6 hp6 ha7
          generalize hrs : VbexaaNeutral.step st (PyVbexaa.whole (callOf x ((l.drop (i + 1)).take n) row kk)) = rs at S6 ha6 ha6' ha7 hd
          have hlen : done.length + 1 + rs.2.length ≤ 10000000 := by
            have z := congrArg List.length hd
            rw [List.length_append, List.length_append, List.length_cons] at z
            omega
          refine ⟨_, rfl, .inl ⟨rfl, _, SqL.of hp6⟩, _, rfl, q, _, rfl, .inl (SqL.of ha7), p, _, _, rfl, rfl, hp6, by rw [List.length_map]; omega, ?_⟩
          refine ⟨_, rfl, .inl ⟨rfl, _, SqL.of upd_same⟩, _, rfl, p, q, _, _, rfl, rfl, upd_same, by rw [upd_ne hqp]; exact ha7, by rw [List.length_append, List.length_map, List.length_map, List.length_singleton]; omega, ?_⟩
          refine ⟨⟨j, _, _, _, _, _, rfl, ⟨rs.1, cs', f2, M6, done ++ ((rs.2.length : Int) :: rs.2), by rw [hjt]; exact hc2, fun c hc' => hb c (List.mem_cons_of_mem _ hc'), ?_, ?_, ?_, ?_⟩, hjl⟩, ?_⟩
          · rw [hide_upd pm, hide_upd pm, g6]
            exact S6
          · rw [upd_same, List.map_append, List.map_cons, List.append_assoc, List.length_map]
            rfl
          · rw [hide_upd pm, hide_upd pm, g6]
            exact sm.seq hS'
          · rw [← hd, List.append_assoc]
          · show l.length - atOf _ < l.length - atOf _
            have a1 : atOf [some (V.ref a), some (.ref sh), some (.ref p), some (.int (j : Int)), some (.ref ta), some (.ref pn), some (.ref pr'), some (.ref fa), some (.ref q)] = j := rfl
            have a2 : atOf [some (V.ref a), some (.ref sh), some (.ref p), some (.int (i : Int)), v4, v5, v6, v7, v8] = i := rfl
            show l.length - atOf [some (V.ref a), some (.ref sh), some (.ref p), some (.int (j : Int)), some (.ref ta), some (.ref pn), some (.ref pr'), some (.ref fa), some (.ref q)] < l.length - atOf [some (V.ref a), some (.ref sh), some (.ref p), some (.int (i : Int)), v4, v5, v6, v7, v8]
            rw [a1, a2]
            omega
      · rw [List.length_map, decide_eq_true_eq] at hge
        have hi : i = l.length := by omega
        rw [hi, List.drop_length] at hc
        have e0 : cs = [] := by
          cases fu <;> (rw [PyFlat.calls] at hc; exact (Option.some.inj hc).symm)
        rw [e0] at hd
        have e1 : restTold st [] = [] := rfl
        rw [e1, List.append_nil] at hd
        refine ⟨_, rfl, k H' p ?_⟩
        rw [← hd]
        exact hp'
    · intro σ H' Q1 Q2 hq h
      obtain ⟨v, e, v2, e2, a2, ys, e3, hs2, i2, j2, e4, e5, b, e6, q⟩ := h
      exact ⟨v, e, v2, e2, a2, ys, e3, hs2, i2, j2, e4, e5, b, e6, hq _ _ q⟩
end
end SL
end
section
namespace SL
open PySem PySem.Spec PyProof.Rows L2
def StepOk (p : Int) (n k : Nat) (g : Vbexaa.St → List Int → List Int → Vbexaa.St × List Int) (pre : List Int → List Int → Prop) : Prop :=
  ∀ st ns row, ns.length = n → (k = 0 → row = []) → PyInside.call PyVbexaa.bound (callOf p ns row k) = true → pre ns row ∧ VbexaaNeutral.step st (PyVbexaa.whole (callOf p ns row k)) = g st ns row
theorem len0 {ns : List Int} (h : ns.length = 0) : ns = [] := List.length_eq_zero_iff.mp h
theorem len1 {ns : List Int} (h : ns.length = 1) : ∃ a, ns = [a] := by
  match ns, h with
  | [a], _ => exact ⟨a, rfl⟩
theorem step_text : StepOk 0 0 1 gText fun _ row => row.length ≤ 2010 := fun st ns row h1 _ h3 => by
  obtain rfl := len0 h1
  refine ⟨?_, rfl⟩
  have q : (decide (0 ≤ row.length) && decide (row.length ≤ 2010) && row.all (PyInside.within (-1000000000000000000) 1000000000000000000) && true) = true := h3
  simp only [Bool.and_eq_true, decide_eq_true_eq] at q
  exact q.1.1.2
theorem step_put : StepOk 1 1 1 gPut fun ns row => (∃ k, ns = [k]) ∧ row.length ≤ 210 := fun st ns row h1 _ h3 => by
  obtain ⟨a, rfl⟩ := len1 h1
  refine ⟨⟨⟨a, rfl⟩, ?_⟩, rfl⟩
  have q : ((PyInside.within (-1000000000000000000) 1000000000000000000 a && true) && (decide (0 ≤ row.length) && decide (row.length ≤ 210) && row.all (PyInside.within (-1000000000000000000) 1000000000000000000) && true)) = true := h3
  simp only [Bool.and_eq_true, decide_eq_true_eq] at q
  exact q.2.1.1.2
theorem step_cut : StepOk 2 1 0 gCut fun ns _ => ∃ k, ns = [k] := fun st ns row h1 h2 _ => by
  obtain ⟨a, rfl⟩ := len1 h1
  exact ⟨⟨a, rfl⟩, rfl⟩
theorem step_undo : StepOk 3 0 0 gUndo fun _ _ => True := fun st ns row h1 h2 _ => by
  obtain rfl := len0 h1
  exact ⟨trivial, rfl⟩
theorem step_redo : StepOk 4 0 0 gRedo fun _ _ => True := fun st ns row h1 h2 _ => by
  obtain rfl := len0 h1
  exact ⟨trivial, rfl⟩
theorem step_print : StepOk 5 0 0 gPrint fun _ _ => True := fun st ns row h1 h2 _ => by
  obtain rfl := len0 h1
  exact ⟨trivial, rfl⟩
theorem step_places : StepOk 6 0 0 gPlaces fun _ _ => True := fun st ns row h1 h2 _ => by
  obtain rfl := len0 h1
  exact ⟨trivial, rfl⟩
theorem step_legs : StepOk 7 0 0 gLegs fun _ _ => True := fun st ns row h1 h2 _ => by
  obtain rfl := len0 h1
  exact ⟨trivial, rfl⟩
theorem step_leg : StepOk 8 1 0 gLeg fun ns _ => ∃ k, ns = [k] := fun st ns row h1 h2 _ => by
  obtain ⟨a, rfl⟩ := len1 h1
  exact ⟨⟨a, rfl⟩, rfl⟩
theorem ent_mk {P : Program} {w : World} {K : PySem.W.Frag} {h : Heap} {mg : Str → Option Value} {base : Heap} {es : Array DictEntry} {p : Int} {n k : Nat} {x : Str} {g : Vbexaa.St → List Int → List Int → Vbexaa.St × List Int} {pre : List Int → List Int → Prop}
    {ta fa : Addr} {od : Option Addr} {sl : Array (Option Value)} {tk : Tok} {m : Nat} (X : K.In h) (G : h.Ns mainGlobals mg) (e : findBy (mixKind P w).is es (.inl p) = some (.ref ta)) (t : K.lookup ta = some ⟨.type "tuple", od, .seq #[.int n tk, .bool (k == 1), .ref fa] m, sl⟩)
    (mx : PySem.W.nsIn K mainGlobals x = some (some (.ref fa))) (D : Df P w K mg base x 8 ["sheet", "numbers", "row"] (spCall mg g pre)) (S : StepOk p n k g pre) : Ent P w K mg base (fun k => findBy (mixKind P w).is es k) p n k := by
  obtain ⟨f, fd, F, hm, hk, hb⟩ := D
  have q := PySem.W.mg_of X G mx
  rw [hm] at q
  cases q
  refine ⟨ta, fa, g, pre, e, ⟨_, _, m, t, rfl, rfl, by show 3 ≤ sizeLine; have := line_big; omega, ?_⟩, ⟨fd, F, hk, hb⟩, S⟩
  exact .cons ⟨_, rfl⟩ (.cons rfl (.cons rfl .nil))
theorem kls_mk {K : PySem.W.Frag} {h : Heap} {mg : Str → Option Value} {x qual : Str} {st : Stmt} {ps : List Str} {C f : Addr} {oc kV dc pm cd ct : Value} {od an : Option Addr} {sl : Array (Option Value)} (X : K.In h) (G : h.Ns mainGlobals mg)
    (hb : ∀ (kV doc pm : Value) (an : Option Addr) (cdv ct : Value) (us : List Value), us.length = ps.length → bindArgs (PySem.W.fnOf "__init__" qual (defArgs st) (defBody st) (defScope st) .none kV doc pm an cdv ct) ⟨us, []⟩ = pure (ps.zip us))
    (aC : PySem.W.nsIn K mainGlobals x = some (some (.ref C))) (a1 : PySem.W.findIn K (.ref C) "__init__" = some (some (.ref f))) (i1 : PySem.W.isFn K (.ref f) = true)
    (l1 : K.lookup f = some ⟨oc, od, .func (PySem.W.fnOf "__init__" qual (defArgs st) (defBody st) (defScope st) .none kV dc pm an cd ct), sl⟩) (c1 : PySem.W.codeIn K cd qual = true) (k1 : PySem.W.keepIn K (.ref f) = true)
    (pg : PySem.W.plainGet K C Str.empty = true) (hd : PySem.W.hasDictIn K C = true) (po : PySem.W.plainOver K C = true) (sa : PySem.W.findIn K (.ref C) "__setattr__" = some (some (.builtin "object.__setattr__"))) (mk : PySem.W.makesIn K C = true) (kc : PySem.W.keepIn K (.ref C) = true) :
    KlsT K mg x qual st ps := by
  have m := PySem.W.mg_of X G aC
  have e := clsOf_eq m
  refine ⟨by rw [e]; exact m, by rw [e]; exact ⟨pg, hd, po, sa⟩, f, _, by rw [e]; exact ⟨mk, a1, i1, kc⟩, fun_mk l1 c1 k1, (fun_mk l1 c1 k1).binds hb⟩
theorem met_mk {K : PySem.W.Frag} {h : Heap} {mg : Str → Option Value} {x m qual : Str} {st : Stmt} {ps : List Str} {C f : Addr} {oc kV dc pm cd ct : Value} {od an : Option Addr} {sl : Array (Option Value)} (X : K.In h) (G : h.Ns mainGlobals mg)
    (hb : ∀ (kV doc pm : Value) (an : Option Addr) (cdv ct : Value) (us : List Value), us.length = ps.length → bindArgs (PySem.W.fnOf m qual (defArgs st) (defBody st) (defScope st) .none kV doc pm an cdv ct) ⟨us, []⟩ = pure (ps.zip us))
    (aC : PySem.W.nsIn K mainGlobals x = some (some (.ref C))) (a1 : PySem.W.findIn K (.ref C) m = some (some (.ref f))) (i1 : PySem.W.isFn K (.ref f) = true)
    (l1 : K.lookup f = some ⟨oc, od, .func (PySem.W.fnOf m qual (defArgs st) (defBody st) (defScope st) .none kV dc pm an cd ct), sl⟩) (c1 : PySem.W.codeIn K cd qual = true) (k1 : PySem.W.keepIn K (.ref f) = true) : MT K mg x m qual st ps := by
  have e := clsOf_eq (PySem.W.mg_of X G aC)
  exact ⟨f, _, fun_mk l1 c1 k1, (fun_mk l1 c1 k1).binds hb, by rw [e]; exact ⟨a1, i1, k1⟩⟩
theorem noa_mk {K : PySem.W.Frag} {h : Heap} {mg : Str → Option Value} {x a : Str} {C : Addr} (X : K.In h) (G : h.Ns mainGlobals mg) (aC : PySem.W.nsIn K mainGlobals x = some (some (.ref C))) (n : PySem.W.findIn K (.ref C) a = some none) : NoAttr K (clsOf mg x) a := by
  rw [clsOf_eq (PySem.W.mg_of X G aC)]
  exact n
def TxtC {K : PySem.W.Frag} {h : Heap} (_ : K.In h) (mg : Str → Option Value) : Prop := Txt K mg
def CTC {K : PySem.W.Frag} {h : Heap} (_ : K.In h) (mg : Str → Option Value) (x : Str) (n : Int) : Prop := TC mg x (.int n)
def TFC {K : PySem.W.Frag} {h : Heap} (_ : K.In h) (mg : Str → Option Value) (x : Str) (st : Stmt) (ps : List Str) : Prop := TF K mg x st ps
def KlC {K : PySem.W.Frag} {h : Heap} (_ : K.In h) (mg : Str → Option Value) (x qual : Str) (st : Stmt) (ps : List Str) : Prop := KlsT K mg x qual st ps
def MTC {K : PySem.W.Frag} {h : Heap} (_ : K.In h) (mg : Str → Option Value) (x m qual : Str) (st : Stmt) (ps : List Str) : Prop := MT K mg x m qual st ps
def NoC {K : PySem.W.Frag} {h : Heap} (_ : K.In h) (mg : Str → Option Value) (x a : Str) : Prop := NoAttr K (clsOf mg x) a
end SL
end
section
namespace SL
open Vbexaa
structure LandOk (w : Land) : Prop where
  fr : ∀ g ∈ w.legs, g.from_ < w.places.length
  to : ∀ g ∈ w.legs, g.to_ < w.places.length
  tk : ∀ g ∈ w.legs, ∀ d n, takes g d = some n → 1 ≤ n ∧ n ≤ 30
def row (w : Land) (b : Nat → List Nat) (d : Nat) : List Nat := (rowsUpTo w b d).headD []
theorem rows_len (w : Land) (b : Nat → List Nat) : ∀ d, (rowsUpTo w b d).length = d + 1
  | 0 => rfl
  | d + 1 => by
    rw [rowsUpTo]
    show (rowsUpTo w b d).length + 1 = d + 1 + 1
    rw [rows_len w b d]
theorem rows_get (w : Land) (b : Nat → List Nat) : ∀ d i, i ≤ d → (rowsUpTo w b d).getD i [] = row w b (d - i)
  | 0, i, h => by
    have e : i = 0 := by omega
    subst e
    rfl
  | d + 1, 0, _ => rfl
  | d + 1, i + 1, h => by
    have e : (rowsUpTo w b (d + 1)).getD (i + 1) [] = (rowsUpTo w b d).getD i [] := by
      rw [rowsUpTo]
      rfl
    rw [e, rows_get w b d i (by omega)]
    congr 1
    omega
theorem reach_get (w : Land) (b : Nat → List Nat) {d : Nat} (h : d ≤ 400) : (reach w b).getD d [] = row w b d := by
  unfold reach LAST
  have hl := rows_len w b 400
  have h1 : d < (rowsUpTo w b 400).reverse.length := by rw [List.length_reverse, hl]; omega
  rw [List.getD_eq_getElem?_getD, List.getElem?_reverse (by rw [hl]; omega), hl, ← List.getD_eq_getElem?_getD, rows_get w b 400 _ (by omega)]
  congr 1
  omega
theorem reach_len (w : Land) (b : Nat → List Nat) : (reach w b).length = 401 := by
  unfold reach LAST
  rw [List.length_reverse, rows_len]
theorem mem_row0 (w : Land) (b : Nat → List Nat) (p : Nat) : p ∈ row w b 0 ↔ p < w.places.length ∧ p ∈ b 0 := by
  unfold row
  rw [rowsUpTo]
  show p ∈ nextRow w (b 0) [] 0 ↔ _
  unfold nextRow
  rw [List.mem_filter, List.mem_range]
  simp
theorem mem_rowS {w : Land} (ok : LandOk w) (b : Nat → List Nat) (p d : Nat) : p ∈ row w b (d + 1) ↔ p < w.places.length ∧ (p ∈ b (d + 1) ∨ (p ∈ row w b d ∧ stays w p d = true) ∨ ∃ g ∈ w.legs, ∃ e n, e + n = d + 1 ∧ g.to_ = p ∧ g.from_ ∈ row w b e ∧ takes g e = some n) := by
  have hr : row w b (d + 1) = nextRow w (b (d + 1)) ((rowsUpTo w b d).take 30) (d + 1) := by
    unfold row
    rw [rowsUpTo]
    rfl
  have hget : ∀ i, i < 30 → i ≤ d → ((rowsUpTo w b d).take 30).getD i [] = row w b (d - i) := fun i h1 h2 => by
    rw [List.getD_eq_getElem?_getD, List.getElem?_take_of_lt h1, ← List.getD_eq_getElem?_getD, rows_get w b d i h2]
  rw [hr]
  unfold nextRow
  rw [List.mem_filter, List.mem_range]
  refine and_congr_right fun hp => ?_
  rw [Bool.or_eq_true, Bool.or_eq_true, List.contains_iff_mem]
  refine or_congr_right (or_congr ?_ ?_)
  · rw [hget 0 (by omega) (by omega)]
    simp
  · rw [List.any_eq_true]
    constructor
    · rintro ⟨g, hg, h⟩
      rw [Bool.and_eq_true, List.any_eq_true] at h
      obtain ⟨h1, i, hi, h2⟩ := h
      rw [List.mem_range, List.length_take, rows_len] at hi
      simp only [Bool.and_eq_true, decide_eq_true_eq, List.contains_iff_mem, beq_iff_eq] at h1 h2
      obtain ⟨h3, h4, h5⟩ := h2
      rw [hget i (by omega) (by omega)] at h4
      have e : d + 1 - (i + 1) = d - i := by omega
      rw [e] at h5
      exact ⟨g, hg, d - i, i + 1, by omega, h1, h4, h5⟩
    · rintro ⟨g, hg, e, n, hen, ht, hf, hk⟩
      have hn := ok.tk g hg e n hk
      refine ⟨g, hg, ?_⟩
      rw [Bool.and_eq_true, List.any_eq_true]
      refine ⟨by simpa using ht, n - 1, ?_, ?_⟩
      · rw [List.mem_range, List.length_take, rows_len]
        omega
      · simp only [Bool.and_eq_true, decide_eq_true_eq, List.contains_iff_mem, beq_iff_eq]
        rw [hget (n - 1) (by omega) (by omega)]
        have e1 : d - (n - 1) = e := by omega
        have e2 : n - 1 + 1 = n := by omega
        have e3 : d + 1 - (n - 1 + 1) = e := by omega
        rw [e1, e3, e2]
        exact ⟨by omega, hf, hk⟩
inductive CanBe (w : Land) (S : Nat → Nat → Prop) : Nat → Nat → Prop
  | start {p d : Nat} : S p d → CanBe w S p d
  | stay {p d : Nat} : CanBe w S p d → stays w p d = true → CanBe w S p (d + 1)
  | go {d n : Nat} {g : Leg} : g ∈ w.legs → CanBe w S g.from_ d → takes g d = some n → CanBe w S g.to_ (d + n)
theorem canBe_place {w : Land} (ok : LandOk w) {S : Nat → Nat → Prop} (hS : ∀ p d, S p d → p < w.places.length) {p d : Nat} (h : CanBe w S p d) : p < w.places.length := by
  induction h with
  | start h => exact hS _ _ h
  | stay _ _ ih => exact ih
  | go hg _ _ _ => exact ok.to _ hg
theorem row_canBe {w : Land} (ok : LandOk w) (b : Nat → List Nat) {p d : Nat} : p ∈ row w b d → CanBe w (fun p d => p ∈ b d) p d := by
  induction d using Nat.strongRecOn generalizing p with
  | _ d ih =>
    intro h
    cases d with
    | zero => exact .start ((mem_row0 w b p).mp h).2
    | succ d =>
      rcases ((mem_rowS ok b p d).mp h).2 with h | ⟨h, hs⟩ | ⟨g, hg, e, n, hen, rfl, hf, hk⟩
      · exact .start h
      · exact .stay (ih d (by omega) h) hs
      · have hn := ok.tk g hg e n hk
        rw [← hen]
        exact .go hg (ih e (by omega) hf) hk
theorem canBe_row {w : Land} (ok : LandOk w) (b : Nat → List Nat) (hb : ∀ p d, p ∈ b d → p < w.places.length) {p d : Nat} (h : CanBe w (fun p d => p ∈ b d) p d) : p ∈ row w b d := by
  induction h with
  | @start p d h =>
    cases d with
    | zero => exact (mem_row0 w b p).mpr ⟨hb _ _ h, h⟩
    | succ d => exact (mem_rowS ok b p d).mpr ⟨hb _ _ h, .inl h⟩
  | @stay p d h hs ih => exact (mem_rowS ok b p d).mpr ⟨canBe_place ok hb h, .inr (.inl ⟨ih, hs⟩)⟩
  | @go d n g hg h hk ih =>
    have hn := ok.tk g hg d n hk
    obtain ⟨m, hm⟩ : ∃ m, d + n = m + 1 := ⟨d + n - 1, by omega⟩
    rw [hm]
    exact (mem_rowS ok b _ m).mpr ⟨ok.to g hg, .inr (.inr ⟨g, hg, d, n, by omega, rfl, ih, hk⟩)⟩
theorem mem_daysAt {w : Land} (ok : LandOk w) (b : Nat → List Nat) (hb : ∀ p d, p ∈ b d → p < w.places.length) (y d : Nat) : d ∈ daysAt (reach w b) y ↔ d ≤ 400 ∧ CanBe w (fun p d => p ∈ b d) y d := by
  unfold daysAt
  rw [List.mem_filter, List.mem_range, reach_len, List.contains_iff_mem]
  constructor
  · rintro ⟨h1, h2⟩
    rw [reach_get w b (by omega)] at h2
    exact ⟨by omega, row_canBe ok b h2⟩
  · rintro ⟨h1, h2⟩
    rw [reach_get w b h1]
    exact ⟨by omega, canBe_row ok b hb h2⟩
theorem daysAt_filter {w : Land} (ok : LandOk w) (b : Nat → List Nat) (hb : ∀ p d, p ∈ b d → p < w.places.length) (y : Nat) (q : Nat → Bool) (hq : ∀ d, d ≤ 400 → (q d = true ↔ CanBe w (fun p d => p ∈ b d) y d)) : daysAt (reach w b) y = (List.range 401).filter q := by
  unfold daysAt
  rw [reach_len]
  refine List.filter_congr fun d hd => ?_
  have hd' : d ≤ 400 := by
    rw [List.mem_range] at hd
    omega
  rw [reach_get w b hd', Bool.eq_iff_iff, List.contains_iff_mem, hq d hd']
  exact ⟨row_canBe ok b, canBe_row ok b hb⟩
def brow (w : Land) (y last : Nat) (k : Nat) : List Nat := (backTo w y last k).headD []
theorem back_get (w : Land) (y last : Nat) : ∀ k i, i ≤ k → (backTo w y last k).getD i [] = brow w y last (k - i)
  | 0, i, h => by
    have e : i = 0 := by omega
    subst e
    rfl
  | k + 1, 0, _ => rfl
  | k + 1, i + 1, h => by
    have e : (backTo w y last (k + 1)).getD (i + 1) [] = (backTo w y last k).getD i [] := by
      rw [backTo]
      rfl
    rw [e, back_get w y last k i (by omega)]
    congr 1
    omega
inductive CanEnd (w : Land) (y last : Nat) : Nat → Nat → Prop
  | here {d : Nat} : d ≤ last → CanEnd w y last y d
  | stay {p d : Nat} : stays w p d = true → CanEnd w y last p (d + 1) → CanEnd w y last p d
  | go {d n : Nat} {g : Leg} : g ∈ w.legs → takes g d = some n → CanEnd w y last g.to_ (d + n) → CanEnd w y last g.from_ d
theorem canEnd_le {w : Land} {y last p d : Nat} (h : CanEnd w y last p d) : d ≤ last := by
  induction h with
  | here h => exact h
  | stay _ _ ih => omega
  | go _ _ _ ih => omega
theorem mem_brow {w : Land} (ok : LandOk w) {y last : Nat} : ∀ k, k ≤ last → ∀ p, p ∈ brow w y last k ↔ p < w.places.length ∧ CanEnd w y last p (last - k) := by
  intro k
  induction k using Nat.strongRecOn with
  | _ k ih =>
    intro hk p
    have hr : ∃ rows : List (List Nat), brow w y last k = backRow w y last rows (last - k) ∧ ∀ i, i < k → rows.getD i [] = brow w y last (k - 1 - i) := by
      cases k with
      | zero => exact ⟨[], rfl, fun i hi => by omega⟩
      | succ k =>
        refine ⟨backTo w y last k, rfl, fun i hi => ?_⟩
        rw [back_get w y last k i (by omega)]
        congr 1
    obtain ⟨rows, e, hg⟩ := hr
    rw [e]
    unfold backRow
    rw [List.mem_filter, List.mem_range]
    refine and_congr_right fun hp => ?_
    rw [Bool.or_eq_true, Bool.or_eq_true, beq_iff_eq, Bool.and_eq_true, decide_eq_true_eq, Bool.and_eq_true, List.contains_iff_mem, List.any_eq_true]
    constructor
    · rintro (h | ⟨h1, h2, h3⟩ | ⟨g, hgm, h⟩)
      · rw [h]
        exact .here (by omega)
      · have hk0 : 0 < k := by omega
        rw [hg 0 hk0, ih (k - 1 - 0) (by omega) (by omega)] at h2
        refine .stay h3 ?_
        have e2 : last - (k - 1 - 0) = last - k + 1 := by omega
        rw [← e2]
        exact h2.2
      · rw [Bool.and_eq_true, beq_iff_eq] at h
        obtain ⟨h1, h2⟩ := h
        cases ht : takes g (last - k) with
        | none =>
          rw [ht] at h2
          cases h2
        | some n =>
          rw [ht] at h2
          simp only [Bool.and_eq_true, decide_eq_true_eq, List.contains_iff_mem] at h2
          have hn := ok.tk g hgm _ n ht
          have hnk : n ≤ k := by omega
          rw [hg (n - 1) (by omega), ih (k - 1 - (n - 1)) (by omega) (by omega)] at h2
          rw [← h1]
          refine .go hgm ht ?_
          have e2 : last - (k - 1 - (n - 1)) = last - k + n := by omega
          rw [← e2]
          exact h2.2.2
    · intro h
      generalize hd : last - k = d at h
      cases h with
      | here _ => exact .inl rfl
      | stay hs h =>
        have hl := canEnd_le h
        have hk0 : 0 < k := by omega
        refine .inr (.inl ⟨by omega, ?_, hs⟩)
        rw [hg 0 hk0, ih (k - 1 - 0) (by omega) (by omega)]
        refine ⟨hp, ?_⟩
        have e2 : last - (k - 1 - 0) = d + 1 := by omega
        rw [e2]
        exact h
      | @go _ n g hgm ht h =>
        have hl := canEnd_le h
        have hn := ok.tk g hgm _ n ht
        refine .inr (.inr ⟨g, hgm, ?_⟩)
        rw [Bool.and_eq_true, beq_iff_eq, ht]
        refine ⟨rfl, ?_⟩
        simp only [Bool.and_eq_true, decide_eq_true_eq, List.contains_iff_mem]
        rw [hg (n - 1) (by omega), ih (k - 1 - (n - 1)) (by omega) (by omega)]
        refine ⟨by omega, ok.to g hgm, ?_⟩
        have e2 : last - (k - 1 - (n - 1)) = d + n := by omega
        rw [e2]
        exact h
theorem safeDays_filter {w : Land} (ok : LandOk w) {x y last : Nat} (hx : x < w.places.length) (q : Nat → Bool) (hq : ∀ d, d ≤ last → (q d = true ↔ CanEnd w y last x d)) : safeDays w x y last = (List.range (last + 1)).filter q := by
  unfold safeDays
  dsimp only
  refine List.filter_congr fun d hd => ?_
  have hd' : d ≤ last := by
    rw [List.mem_range] at hd
    omega
  rw [back_get w y last last d hd', Bool.eq_iff_iff, List.contains_iff_mem, mem_brow ok (last - d) (by omega), hq d hd']
  have e : last - (last - d) = d := by omega
  rw [e]
  exact ⟨fun h => h.2, fun h => ⟨hx, h⟩⟩
end SL
end
section
namespace SL
open Vbexaa
theorem index_lt {ps : List Text} {n : Text} (h : n ∈ ps) : indexOf ps n < ps.length := by
  unfold indexOf
  exact List.findIdx_lt_length_of_exists ⟨n, h, by simp⟩
theorem mem_legs {ls : List Line} {g : Leg} (h : g ∈ legsOf ls) : ∃ both a b w, Line.leg both a b w ∈ ls ∧ a ∈ placesOf ls ∧ b ∈ placesOf ls ∧ g.windows = w ∧ ((g.from_ = indexOf (placesOf ls) a ∧ g.to_ = indexOf (placesOf ls) b) ∨ (g.from_ = indexOf (placesOf ls) b ∧ g.to_ = indexOf (placesOf ls) a)) := by
  rw [legs_fm] at h
  obtain ⟨y, hy, e⟩ := List.mem_flatMap.mp h
  cases y with
  | leg both a b w =>
    rw [lineLegs] at e
    split at e
    · rename_i hc
      simp only [Bool.and_eq_true, List.contains_iff_mem] at hc
      refine ⟨both, a, b, w, hy, hc.1, hc.2, ?_⟩
      rcases List.mem_cons.mp e with z | z
      · rw [z]
        exact ⟨rfl, .inl ⟨rfl, rfl⟩⟩
      · split at z
        · have z' := List.mem_singleton.mp z
          rw [z']
          exact ⟨rfl, .inr ⟨rfl, rfl⟩⟩
        · cases z
    · cases e
  | place _ => cases e
  | nostay _ _ _ => cases e
  | note _ => cases e
theorem takes_win {g : Leg} {d n : Nat} (h : takes g d = some n) : ∃ x ∈ g.windows, x.days = n ∧ x.first ≤ d ∧ d ≤ x.last := by
  unfold takes at h
  obtain ⟨x, hx, e⟩ := Option.map_eq_some_iff.mp h
  have q := List.find?_some hx
  simp at q
  exact ⟨x, List.mem_of_find?_eq_some hx, e, q⟩
theorem land_ok {ls : List Line} (h : ∀ x ∈ ls, LineOk x) : LandOk (landOf ls) := by
  refine ⟨fun g hg => ?_, fun g hg => ?_, fun g hg d n hk => ?_⟩
  · obtain ⟨both, a, b, w, _, ha, hb, _, z | z⟩ := mem_legs (show g ∈ legsOf ls from hg)
    · rw [z.1]
      exact index_lt ha
    · rw [z.1]
      exact index_lt hb
  · obtain ⟨both, a, b, w, _, ha, hb, _, z | z⟩ := mem_legs (show g ∈ legsOf ls from hg)
    · rw [z.2]
      exact index_lt hb
    · rw [z.2]
      exact index_lt ha
  · obtain ⟨both, a, b, w, hl, _, _, hw, _⟩ := mem_legs (show g ∈ legsOf ls from hg)
    obtain ⟨x, hx, e, _⟩ := takes_win hk
    have q : LineOk (.leg both a b w) := h _ hl
    have wx := q.2.2.2.2 x (by rw [← hw]; exact hx)
    rw [← e]
    exact ⟨wx.d1, wx.d2⟩
def addDay (s : List (Nat × Nat)) (d : Nat) : List (Nat × Nat) := match s.getLast? with
  | some x => if d = x.2 + 1 then s.dropLast ++ [(x.1, d)] else s ++ [(d, d)]
  | none => [(d, d)]
def ahead (d : Nat) : List (Nat × Nat) → List (Nat × Nat)
  | (a, b) :: r => if a = d + 1 then (d, b) :: r else (d, d) :: (a, b) :: r
  | [] => [(d, d)]
theorem stretches_cons (d : Nat) (l : List Nat) : stretches (d :: l) = ahead d (stretches l) := by
  rw [stretches]
  cases stretches l with
  | nil => rfl
  | cons x r => rfl
theorem ahead_add (x d : Nat) (s : List (Nat × Nat)) : ahead x (addDay s d) = addDay (ahead x s) d := by
  cases s with
  | nil =>
    show ahead x [(d, d)] = addDay [(x, x)] d
    unfold ahead addDay
    simp only [List.getLast?_singleton]
    by_cases h : d = x + 1
    · rw [if_pos h, if_pos h]
      rfl
    · rw [if_neg h, if_neg h]
      rfl
  | cons ab r =>
    obtain ⟨a, b⟩ := ab
    cases r with
    | nil =>
      unfold addDay
      simp only [List.getLast?_singleton]
      by_cases h : d = b + 1
      · rw [if_pos h]
        unfold ahead
        by_cases h2 : a = x + 1
        · simp [h2, h]
        · simp [h2, h]
      · rw [if_neg h]
        unfold ahead
        by_cases h2 : a = x + 1
        · simp [h2, h]
        · simp [h2, h]
    | cons c r =>
      have e1 : ((a, b) :: c :: r).getLast? = (c :: r).getLast? := by simp
      obtain ⟨z, hz⟩ : ∃ z, (c :: r).getLast? = some z := ⟨_, List.getLast?_eq_some_getLast (by simp)⟩
      unfold addDay
      rw [e1, hz]
      dsimp only
      by_cases h : d = z.2 + 1
      · rw [if_pos h]
        by_cases h2 : a = x + 1
        · have l1 : ahead x ((a, b) :: c :: r) = (x, b) :: c :: r := if_pos h2
          have e2 : ((x, b) :: c :: r).getLast? = (c :: r).getLast? := by simp
          rw [l1, e2, hz]
          dsimp only
          rw [if_pos h]
          simp [ahead, h2]
        · have l1 : ahead x ((a, b) :: c :: r) = (x, x) :: (a, b) :: c :: r := if_neg h2
          have e2 : ((x, x) :: (a, b) :: c :: r).getLast? = (c :: r).getLast? := by simp
          rw [l1, e2, hz]
          dsimp only
          rw [if_pos h]
          simp [ahead, h2]
      · rw [if_neg h]
        by_cases h2 : a = x + 1
        · have l1 : ahead x ((a, b) :: c :: r) = (x, b) :: c :: r := if_pos h2
          have e2 : ((x, b) :: c :: r).getLast? = (c :: r).getLast? := by simp
          rw [l1, e2, hz]
          dsimp only
          rw [if_neg h]
          simp [ahead, h2]
        · have l1 : ahead x ((a, b) :: c :: r) = (x, x) :: (a, b) :: c :: r := if_neg h2
          have e2 : ((x, x) :: (a, b) :: c :: r).getLast? = (c :: r).getLast? := by simp
          rw [l1, e2, hz]
          dsimp only
          rw [if_neg h]
          simp [ahead, h2]
theorem stretches_snoc : ∀ (l : List Nat) (d : Nat), stretches (l ++ [d]) = addDay (stretches l) d
  | [], d => rfl
  | x :: l, d => by
    rw [List.cons_append, stretches_cons, stretches_cons, stretches_snoc l d, ahead_add]
end SL
end
section
namespace SL
open PySem PySem.Spec PyProof.Rows L2
theorem blk2 {N : List Str} {sc scope : Scope} {x x2 : Str} {i i2 : Nat} (hk : scope.kind = .function) (hi : N[i]? = some x) (hi2 : N[i2]? = some x2)
    (h : (scope.names.all fun y => (scope.names.lookup y.1 == some y.2) && ((y.2 != .free || sc.names.lookup y.1 == some .cell || sc.names.lookup y.1 == some .free) && ((y.2 != .local && y.2 != .cell) || (y.1 == x || y.1 == x2) || !N.contains y.1))) = true) : BlkOk N sc scope [(x, i), (x2, i2)] := by
  rw [List.all_eq_true] at h
  refine ⟨hk, fun y hy => ?_, fun p hp => ?_, fun y hy e => ?_, fun y hy e => ?_⟩
  · have q := h y hy
    simp only [Bool.and_eq_true] at q
    simpa using q.1
  · rcases List.mem_cons.mp hp with e | e
    · subst e
      exact hi
    · have e : p = (x2, i2) := by simpa using e
      subst e
      exact hi2
  · have q := h y hy
    simp only [Bool.and_eq_true, Bool.or_eq_true, e] at q
    simpa using q.2.1
  · have q := h y hy
    simp only [Bool.and_eq_true, Bool.or_eq_true] at q
    rcases q.2.2 with (q | q) | q
    · rcases e with e | e <;> rw [e] at q <;> simp at q
    · left
      rcases q with q | q
      · have : y.1 = x := by simpa using q
        simp [this]
      · have : y.1 = x2 := by simpa using q
        simp [this]
    · right
      simpa using q
section
variable {X : Cx}
theorem pe_lcI {elt tg iter c : Expr} {scope : Scope} {own : List (Str × Nat)} {pos : Pos} {wi : TI} {g : TG} {tt : TT} {te : TE} (hc : X.calm = true) (hN : X.N.Nodup) (hi : PI X tg iter wi) (ok : BlkOk X.N X.env.scope scope own)
    (hg : ∀ (s : Shared) (H : Hp) (C : Addr) (cl : List (Str × Addr)) (fp : List Addr), PG (X.blk s H scope (compEnvC scope cl C X.env) fp) tg g) (ht : ∀ (s : Shared) (H : Hp) (C : Addr) (cl : List (Str × Addr)) (fp : List Addr), PT (X.blk s H scope (compEnvC scope cl C X.env) fp) c tt)
    (he : ∀ (s : Shared) (H : Hp) (C : Addr) (cl : List (Str × Addr)) (fp : List Addr), PE (X.blk s H scope (compEnvC scope cl C X.env) fp) elt te) (hs : ∀ x, foldedSetIterable iter X.env x = pure x := by intro _; rfl) :
    PE X (.ListComp elt [⟨tg, iter, [c], 0⟩] scope pos) (tLc wi g tt te (own.map (·.2))) := pe_lc hc hN hi ok hg (fun s H C cl fp => pts_one (ht s H C cl fp)) he hs
theorem ps_setLcI {i : Nat} {y : Str} {py : Pos} {elt tg iter c : Expr} {scope : Scope} {own : List (Str × Nat)} {pos spos : Pos} {wi : TI} {g : TG} {tt : TT} {te : TE} (hc : X.calm = true) (hN : X.N.Nodup) (hy : X.N[i]? = some y) (hyl : X.env.scope.names.lookup y = some .local)
    (hsw : swapsWith (.ListComp elt [⟨tg, iter, [c], 0⟩] scope pos) (some (.Name y py)) spos.line X.env = pure true) (hi : PI X tg iter wi) (ok : BlkOk X.N X.env.scope scope own)
    (hg : ∀ (s : Shared) (H : Hp) (C : Addr) (cl : List (Str × Addr)) (fp : List Addr), PG (X.blk s H scope (compEnvC scope cl C X.env) fp) tg g) (ht : ∀ (s : Shared) (H : Hp) (C : Addr) (cl : List (Str × Addr)) (fp : List Addr), PT (X.blk s H scope (compEnvC scope cl C X.env) fp) c tt)
    (he : ∀ (s : Shared) (H : Hp) (C : Addr) (cl : List (Str × Addr)) (fp : List Addr), PE (X.blk s H scope (compEnvC scope cl C X.env) fp) elt te) (hs : ∀ x, foldedSetIterable iter X.env x = pure x := by intro _; rfl) :
    PS X (.Assign [.Name y py] (.ListComp elt [⟨tg, iter, [c], 0⟩] scope pos) spos) (tAsg (tLc wi g tt te (own.map (·.2))) (gName i)) := ps_setLc hc hN hy hyl hsw hi ok hg (fun s H C cl fp => pts_one (ht s H C cl fp)) he hs
end
section
variable {X : Cx} {K : PySem.W.Frag} {mg : Str → Option Value}
theorem ix_listK (h : X.K = K) : IxR X (rIxL K) := by subst h; exact ix_list
theorem pt_truthK {a : Expr} {ta : TE} (h : X.K = K) (ha : PE X a ta) (he : ∀ whole, isTrue a X.env whole = (do let v ← whole; standAt a.pos; holding [v] (truthy v))) :
    PT X a (fun σ H Q => ta σ H fun x H' => ∃ k, TruV K x H' k ∧ Q k H') := by subst h; exact pt_truth ha he
theorem pe_fldK {e : Expr} {ta : TE} {f : Str} {pos : Pos} (h : X.K = K) (he : PE X e ta) (hb : attributeBase e f X.env (eval e X.env) = eval e X.env) : PE X (.Attribute e f pos) (tFld K ta f) := by subst h; exact pe_fld he hb
theorem call_len_seqK (h : X.K = K) : CallR X (.builtin "len") (fun xs H Q => ∃ p ys, xs = [.ref p] ∧ (SqL K H p ys ∨ SqT K H p ys) ∧ Q (.int ys.length) H) := by subst h; exact call_len_seq
theorem pg_tupK {es : List Expr} {k : Nat} {t : TGs} {n : Nat} {pos : Pos} (h : X.K = K) (hc : X.calm = true) (hp : PGs X es t)
    (hn : (assignEach es X.env).length = n := by rfl) (hst : (assignEach es X.env).findIdx? (·.1) = none := by rfl) : PG X (.Tuple es k pos) (gTup K n t) := by subst h; exact pg_tup hc hp hn hst
theorem pe_dmK {k : Nat} {ps : List Str} {sp : Sp} {x m : Str} {pos apos : Pos} {e o : Expr} {es : List Expr} {t : TA} {ta : TE} {pl : Sem Bool} (h : X.mg = mg) (ho : PE X o ta) (M : MdD X.prog X.w X.K mg X.base x m k ps sp) (hr : Room k X.A) (ha : PA X (e :: es) t)
    (hst : starEach (e :: es) X.env = (false, eval e X.env) :: starEach es X.env := by rfl) (hpl : (backTo pos (starEach es X.env)).any (·.1) = false := by rfl)
    (ht : eval (.Call (.Attribute o m apos) (e :: es) [] pos) X.env = (do
      let ov ← eval o X.env
      standAt apos.atName
      let (f, first) ← holding [ov] (getMethod ov m pl)
      callWith pos f first (backTo pos (starEach (e :: es) X.env)) (backToKw pos (keywordEach [] X.env))) := by rfl) :
    PE X (.Call (.Attribute o m apos) (e :: es) [] pos) (tMeth (clsOf mg x) m sp [] E0 ta t) := by subst h; exact pe_dm ho M hr ha hst hpl ht
end
section
variable {X : Cx}
theorem vals_get : ∀ {xs : List V} {us : List Value}, xs.length = us.length → (∀ i, i < xs.length → ∃ v u, xs[i]? = some v ∧ us[i]? = some u ∧ RelV v u) → Vals xs us
  | [], [], _, _ => .nil
  | x :: xs, u :: us, hl, h => by
    obtain ⟨v, w, e1, e2, r⟩ := h 0 (by simp)
    simp at e1 e2
    subst e1 e2
    refine .cons r (vals_get (by simpa using hl) fun i hi => ?_)
    obtain ⟨v, w, e1, e2, r⟩ := h (i + 1) (by simpa using hi)
    exact ⟨v, w, by simpa using e1, by simpa using e2, r⟩
theorem call_rng1 : CallR X (.type "range") (fun xs H Q => ∃ j : Int, xs = [.int j] ∧ ∀ p, H p = none → Q (.ref p) (upd H p (.rng 0 j))) := by
  intro pins s σ H xs us Q I r h
  obtain ⟨j, rfl, q⟩ := h
  obtain ⟨u, rfl, t, rfl⟩ := vals1 r
  refine call_range_1 ?_
  refine ⟨.ref s.heap.objs.size, _, I.laid (fun b o e => Heap.get?_push_of_some _ e) (Nat.le_refl _) (show ObjOk X.prog X.w _ _ _ (.rng 0 j) from ⟨_, _, _, Heap.get?_push_size _ rfl⟩), rfl, q _ (I.hok.fresh (Nat.le_refl _))⟩
theorem call_list_rng (hc : X.calm = true) : CallR X (.type "list") (fun xs H Q => ∃ (p : Addr) (j : Nat), xs = [.ref p] ∧ H p = some (.rng 0 j) ∧ j ≤ 100000 ∧ ∀ l, H l = none → Q (.ref l) (upd H l (.lst (vN (List.range j))))) := by
  intro pins s σ H xs us Q I r h
  obtain ⟨p, j, rfl, hp, hj, q⟩ := h
  obtain ⟨u, rfl, rx⟩ := vals1 r
  cases rx
  obtain ⟨t, u, v, e⟩ := (show ∃ t u v, s.heap.get? p = some { cls := .type "range", data := .fields #[.int 0 t, .int (j : Int) u, .int 1 v] } from I.hok p _ hp)
  have big := line_big
  have hsz : Builtin.Range.rangeSize 0 (j : Int) 1 = (j : Int) := by rw [rangeSize_one]; split <;> omega
  refine call_list_range (I.ok.hd hc) (show IsRange s.heap p 0 (j : Int) 1 t u v from e) (small_one (by decide) (by decide) (by omega) (by omega)) hsz (by omega) fun h' tk acc' c' hk hS' hacc => ?_
  have hl : acc'.toList.length = j := by simpa using hacc.1
  have hv : Vals (vN (List.range j)) acc'.toList := by
    refine vals_get (by rw [vN_len, List.length_range, hl]) fun i hi => ?_
    have h1 : i < acc'.size := by rw [hacc.1]; rw [vN_len, List.length_range] at hi; exact hi
    obtain ⟨tk, e2⟩ := hacc.2 i acc'[i] (by simp [h1])
    refine ⟨.int ((i : Nat) : Int), acc'[i], ?_, by simp [h1], ?_⟩
    · rw [vN_get (c := i)]
      rw [List.getElem?_range]
      rw [vN_len, List.length_range] at hi
      exact hi
    · rw [e2]
      exact ⟨tk, by simp⟩
  refine ⟨.ref s.heap.objs.size, _, I.laid hk (Nat.le_refl _) (show ObjOk X.prog X.w _ h' _ (.lst (vN (List.range j))) from ⟨by rw [vN_len, List.length_range]; omega, acc'.toList, c', hv, by simpa using hS'⟩), rfl, q _ (I.hok.fresh (Nat.le_refl _))⟩
end
end SL
end
section
namespace SL
open PySem PySem.Spec PyProof.Rows L2
structure WalkOk (J : It) (H1 : Hp) (n : Nat) (Y : Nat → V → Hp → Prop) : Prop where
  go : ∀ H' i, Same H1 H' → i < n → J.go i H'
  yld : ∀ H' i x H'', Same H1 H' → i < n → J.yld i H' x H'' → Same H' H'' ∧ Y i x H''
  stop : ∀ H', Same H1 H' → J.stop n H'
theorem walk_list {K : PySem.W.Frag} {H : Hp} {a : Addr} {xs : List V} (h : SqL K H a xs) : WalkOk (Itl K a) H xs.length (fun i x _ => xs[i]? = some x) := by
  refine ⟨fun H' i s hi => ⟨xs, xs[i], s.seq h, by simp [hi]⟩, fun H' i x H'' s hi y => ?_, fun H' s => ⟨xs, s.seq h, Nat.le_refl _⟩⟩
  obtain ⟨e, y⟩ := y
  subst e
  exact ⟨Same.rfl', y xs (s.seq h)⟩
theorem walk_range {H : Hp} {lo : Int} {n : Nat} : WalkOk (Itr lo n) H n (fun i x _ => x = .int (lo + i)) := by
  refine ⟨fun H' i s hi => hi, fun H' i x H'' s hi y => ?_, fun H' s => Nat.le_refl _⟩
  obtain ⟨e, y⟩ := y
  subst e
  exact ⟨Same.rfl', y⟩
theorem walk_enum {K : PySem.W.Frag} {H : Hp} {a : Addr} {xs : List V} (h : SqL K H a xs) : WalkOk (Ite K a) H xs.length (fun i x H'' => ∃ T y, x = .ref T ∧ xs[i]? = some y ∧ H'' T = some (.tup [.int (i : Nat), y])) := by
  refine ⟨fun H' i s hi => ⟨xs, xs[i], s.seq h, by simp [hi]⟩, fun H' i x H'' s hi y => ?_, fun H' s => ⟨xs, s.seq h, Nat.le_refl _⟩⟩
  obtain ⟨T, y, rfl, hT, rfl, hy⟩ := y
  exact ⟨Same.new hT, T, y, rfl, hy xs (s.seq h), upd_same⟩
theorem fm_succ {α : Type} (fo : Nat → Option α) (n : Nat) : (List.range (n + 1)).filterMap fo = (List.range n).filterMap fo ++ (match fo n with | some y => [y] | none => []) := by
  rw [List.range_succ, List.filterMap_append]
  cases e : fo n with
  | none => simp [e]
  | some y => simp [e]
theorem fm_len {α : Type} (fo : Nat → Option α) (n : Nat) : ((List.range n).filterMap fo).length ≤ n := by
  have := List.length_filterMap_le fo (List.range n)
  simpa using this
theorem lc_fm {J : It} {n : Nat} {H1 : Hp} {Y : Nat → V → Hp → Prop} (wk : WalkOk J H1 n Y) (hn : n ≤ sizeLine) {g : TG} {tt : TT} {te : TE} {vs : List Nat} {σ : L2.St} {Q : VK} {wi : TI} {H : Hp} (hw : ∀ R : It → Hp → Prop, R J H1 → wi σ H R) (fo : Nat → Option V)
    (step : ∀ i x H', i < n → Same H1 H' → Y i x H' → ∀ R : Option V → Hp → Prop, (∀ H'', Same H' H'' → R (fo i) H'') → g x (wipe σ vs) H' fun σ2 H2 => wipe σ2 vs = wipe σ vs ∧ tt σ2 H2 fun b H3 => if b = true then te σ2 H3 fun y H4 => R (some y) H4 else R none H3)
    (fin : ∀ H' D, Same H1 H' → H1 D = none → H' D = some (.lst ((List.range n).filterMap fo)) → Q (.ref D) H') : tLc wi g tt te vs σ H Q := by
  refine hw _ fun D hD => ?_
  refine ⟨fun i m H' => m = n - i ∧ i ≤ n ∧ Same H1 H' ∧ H' D = some (.lst ((List.range i).filterMap fo)), ⟨_, rfl, Nat.zero_le _, Same.new hD, upd_same⟩, ?_⟩
  rintro i m H ⟨rfl, hi, s1, h1⟩
  by_cases hlt : i < n
  · refine .inr ⟨wk.go H i s1 hlt, fun H' => (i + 1) ≤ n ∧ Same H1 H' ∧ H' D = some (.lst ((List.range (i + 1)).filterMap fo)), fun H' ⟨a1, a2, a3⟩ => ⟨n - (i + 1), by omega, rfl, a1, a2, a3⟩, fun x H' y => ?_⟩
    obtain ⟨s2, y⟩ := wk.yld H i x H' s1 hlt y
    have hl := fm_len fo i
    have hs := fm_succ fo i
    refine step i x H' hlt (s1.trans s2) y (fun o H4 => match o with
      | some y => ∃ acc, H4 D = some (.lst acc) ∧ acc.length < sizeLine ∧ (i + 1 ≤ n ∧ Same H1 (upd H4 D (.lst (acc ++ [y]))) ∧ (upd H4 D (.lst (acc ++ [y]))) D = some (.lst ((List.range (i + 1)).filterMap fo)))
      | none => i + 1 ≤ n ∧ Same H1 H4 ∧ H4 D = some (.lst ((List.range (i + 1)).filterMap fo))) (fun H4 s4 => ?_)
    cases e4 : fo i with
    | some v =>
      refine ⟨_, s4 _ _ (s2 _ _ h1), by omega, hlt, ((s1.trans s2).trans s4).upd hD, ?_⟩
      rw [upd_same, hs, e4]
    | none =>
      refine ⟨hlt, (s1.trans s2).trans s4, ?_⟩
      rw [hs, e4, List.append_nil]
      exact s4 _ _ (s2 _ _ h1)
  · have e : i = n := by omega
    subst e
    exact .inl ⟨wk.stop H s1, fin H D s1 hD h1⟩
theorem lc_src {wi : TI} {g : TG} {tt : TT} {te : TE} {vs : List Nat} {σ : L2.St} {H : Hp} {Q : VK} (C : It → Hp → Prop) (h1 : ∀ R : It → Hp → Prop, (∀ J H1, C J H1 → R J H1) → wi σ H R) (h2 : ∀ J H1, C J H1 → tLc (fun _ _ R => R J H1) g tt te vs σ H Q) : tLc wi g tt te vs σ H Q :=
  h1 _ fun J H1 c => h2 J H1 c
theorem lc_rows {J : It} {n : Nat} {H1 : Hp} {Y : Nat → V → Hp → Prop} (wk : WalkOk J H1 n Y) (hn : n ≤ sizeLine) {g : TG} {te : TE} {vs : List Nat} {σ : L2.St} {Q : VK} {wi : TI} {H : Hp} (hw : ∀ R : It → Hp → Prop, R J H1 → wi σ H R) (ro : List V)
    (step : ∀ i x H', i < n → Same H1 H' → Y i x H' → ∀ R : VK, (∀ H'' r, Same H' H'' → H' r = none → H'' r = some (.lst ro) → R (.ref r) H'') → g x (wipe σ vs) H' fun σ2 H2 => wipe σ2 vs = wipe σ vs ∧ te σ2 H2 R)
    (fin : ∀ (H' : Hp) (D : Addr) (rs : List Addr), Same H1 H' → H1 D = none → H' D = some (.lst (rs.map V.ref)) → rs.length = n → rs.Nodup → (∀ r ∈ rs, H1 r = none ∧ r ≠ D ∧ H' r = some (.lst ro)) → Q (.ref D) H') : tLc wi g tYes te vs σ H Q := by
  refine hw _ fun D hD => ?_
  refine ⟨fun i m H' => m = n - i ∧ i ≤ n ∧ ∃ rs : List Addr, Same H1 H' ∧ H' D = some (.lst (rs.map V.ref)) ∧ rs.length = i ∧ rs.Nodup ∧ ∀ r ∈ rs, H1 r = none ∧ r ≠ D ∧ H' r = some (.lst ro), ⟨_, rfl, Nat.zero_le _, [], Same.new hD, upd_same, rfl, List.Pairwise.nil, fun r hr => by cases hr⟩, ?_⟩
  rintro i m H ⟨rfl, hi, rs, s1, h1, hl, hnd, hrs⟩
  by_cases hlt : i < n
  · refine .inr ⟨wk.go H i s1 hlt, fun H' => (i + 1) ≤ n ∧ ∃ rs : List Addr, Same H1 H' ∧ H' D = some (.lst (rs.map V.ref)) ∧ rs.length = i + 1 ∧ rs.Nodup ∧ ∀ r ∈ rs, H1 r = none ∧ r ≠ D ∧ H' r = some (.lst ro), fun H' ⟨a1, a2⟩ => ⟨n - (i + 1), by omega, rfl, a1, a2⟩, fun x H' y => ?_⟩
    obtain ⟨s2, y⟩ := wk.yld H i x H' s1 hlt y
    refine step i x H' hlt (s1.trans s2) y _ (fun H4 r s4 hr h4 => ?_)
    have s12 := s1.trans s2
    have rD : r ≠ D := fun z => by rw [z, s2 _ _ h1] at hr; cases hr
    refine ⟨_, s4 _ _ (s2 _ _ h1), by rw [List.length_map]; omega, hlt, rs ++ [r], (s12.trans s4).upd hD, by rw [upd_same, List.map_append]; rfl, by rw [List.length_append, hl]; rfl, ?_, fun q hq => ?_⟩
    · refine List.nodup_append.mpr ⟨hnd, by simp, fun a ha b hb => ?_⟩
      have e : b = r := by simpa using hb
      subst e
      intro z
      subst z
      rw [s2 _ _ (hrs _ ha).2.2] at hr
      cases hr
    · rcases List.mem_append.mp hq with z | z
      · obtain ⟨q1, q2, q3⟩ := hrs q z
        refine ⟨q1, q2, ?_⟩
        rw [upd_ne q2]
        exact s4 _ _ (s2 _ _ q3)
      · have e : q = r := by simpa using z
        subst e
        refine ⟨s12.free hr, rD, ?_⟩
        rw [upd_ne rD]
        exact h4
  · have e : i = n := by omega
    subst e
    exact .inl ⟨wk.stop H s1, fin H D rs s1 hD h1 hl hnd hrs⟩
def setG {α : Type} (f : Nat → Nat → α) (p e : Nat) (v : α) : Nat → Nat → α := fun p' e' => if p' = p ∧ e' = e then v else f p' e'
theorem setG_same {α : Type} {f : Nat → Nat → α} {p e : Nat} {v : α} : setG f p e v p e = v := if_pos ⟨rfl, rfl⟩
theorem setG_ne {α : Type} {f : Nat → Nat → α} {p e p' e' : Nat} {v : α} (h : ¬ (p' = p ∧ e' = e)) : setG f p e v p' e' = f p' e' := if_neg h
def days (f : Nat → V) : List V := (List.range 401).map f
theorem days_len (f : Nat → V) : (days f).length = 401 := by unfold days; rw [List.length_map, List.length_range]
theorem days_get (f : Nat → V) {d : Nat} (h : d ≤ 400) : (days f)[d]? = some (f d) := by
  unfold days
  rw [List.getElem?_map, List.getElem?_range (by omega)]
  rfl
theorem days_set (f : Nat → V) {d : Nat} {v : V} : (days f).set d v = days (fun e => if e = d then v else f e) := by
  refine List.ext_getElem? fun i => ?_
  rw [List.getElem?_set]
  unfold days
  by_cases hi : i < 401
  · rw [List.getElem?_map, List.getElem?_map, List.getElem?_range hi, List.length_map, List.length_range]
    by_cases h : d = i
    · subst h
      simp [hi]
    · have h' : ¬ i = d := fun z => h z.symm
      simp [h, h']
  · rw [List.getElem?_eq_none (by simpa using hi), List.getElem?_eq_none (by simpa using hi), List.length_map, List.length_range]
    by_cases h : d = i
    · subst h
      simp [hi]
    · simp [h]
theorem ix_days {f : Nat → V} {z : Int} {d : Nat} (e : z = (d : Int)) (h : d ≤ 400) : ixN (days f).length z = some d := by
  rw [days_len, e]
  unfold ixN
  rw [if_pos (by omega), if_pos (by omega), Int.toNat_natCast]
structure GridAt (H : Hp) (p : Addr) (rs : List Addr) (n : Nat) (f : Nat → Nat → V) : Prop where
  top : H p = some (.lst (rs.map V.ref))
  len : rs.length = n
  nd : rs.Nodup
  out : p ∉ rs
  row : ∀ i r, rs[i]? = some r → H r = some (.lst (days (f i)))
theorem GridAt.same {H H' : Hp} {p : Addr} {rs : List Addr} {n : Nat} {f : Nat → Nat → V} (g : GridAt H p rs n f) (s : Same H H') : GridAt H' p rs n f :=
  ⟨s _ _ g.top, g.len, g.nd, g.out, fun i r h => s _ _ (g.row i r h)⟩
theorem GridAt.at_ {H : Hp} {p : Addr} {rs : List Addr} {n : Nat} {f : Nat → Nat → V} (g : GridAt H p rs n f) {i : Nat} (hi : i < n) : ∃ r, rs[i]? = some r ∧ r ∈ rs ∧ (rs.map V.ref)[i]? = some (.ref r) ∧ H r = some (.lst (days (f i))) := by
  have hl : i < rs.length := by rw [g.len]; exact hi
  refine ⟨rs[i], by simp [hl], List.getElem_mem _, by simp [hl], g.row i _ (by simp [hl])⟩
theorem GridAt.set {H : Hp} {p r : Addr} {rs : List Addr} {n : Nat} {f : Nat → Nat → V} (g : GridAt H p rs n f) {i d : Nat} {v : V} (hr : rs[i]? = some r) : GridAt (upd H r (.lst ((days (f i)).set d v))) p rs n (setG f i d v) := by
  have hm : r ∈ rs := List.mem_of_getElem? hr
  refine ⟨?_, g.len, g.nd, g.out, fun j q hj => ?_⟩
  · rw [upd_ne (fun z : p = r => g.out (by rw [z]; exact hm))]
    exact g.top
  · by_cases h : j = i
    · subst h
      rw [hr] at hj
      cases hj
      rw [upd_same, days_set]
      congr 2
      unfold days
      refine List.map_congr_left fun e _ => ?_
      unfold setG
      by_cases h2 : e = d
      · simp [h2]
      · simp [h2]
    · have hq : q ≠ r := fun z => by
        subst z
        exact h (nd_ix g.nd hj hr)
      rw [upd_ne hq, g.row j q hj]
      congr 2
      unfold days
      refine List.map_congr_left fun e _ => ?_
      rw [setG_ne (fun z => h z.1)]
end SL
end
section
namespace SL
open PySem PySem.Spec PyProof.Rows L2
def arr (g : Vbexaa.Leg) (d : Nat) : Option Nat := (Vbexaa.takes g d).map fun n => d + n
theorem find_take_none {α : Type} {p : α → Bool} {l : List α} {i : Nat} {x : α} (h : ∀ y ∈ l.take i, p y = false) (hx : l[i]? = some x) (hp : p x = true) : l.find? p = some x := by
  have hi : i < l.length := (List.getElem?_eq_some_iff.mp hx).1
  have e : l = l.take i ++ x :: l.drop (i + 1) := by
    have h1 := List.take_append_drop i l
    have h2 : l.drop i = x :: l.drop (i + 1) := by
      rw [List.drop_eq_getElem_cons hi]
      rw [List.getElem?_eq_getElem hi] at hx
      rw [Option.some.inj hx]
    rw [h2] at h1
    exact h1.symm
  rw [e, List.find?_append, List.find?_eq_none.mpr (fun y hy => by rw [h y hy]; simp)]
  simp [hp]
section
variable {P : Program} {w : World} {K : PySem.W.Frag} {mg : Str → Option Value} {base : Heap}
def spArr (C : Addr) : Sp := fun vs H Q _ => ∃ (a : Addr) (g : Vbexaa.Leg) (d : Nat), vs = [.ref a, .int d] ∧ LegAt C H a g ∧ Q (oV (arr g d)) H
theorem ok_arrival (T : Txt K mg) : Df P w K mg base "arrival" 1 ["leg", "day"] (spArr (clsOf mg "Leg")) := by
  have sc := sc_arrival
  refine df_of T.f_arrival sc (fun vs H Q E h => ?_) (fun f cdv A outer s H vs Q E hr h => ?_)
  · obtain ⟨a, g, d, rfl, _⟩ := h
    rfl
  · obtain ⟨a, g, d, rfl, ⟨dx, wa, e1, ws, w1, w2⟩, k⟩ := h
    refine ⟨_, (pss_cons (ps_for PassesOwn.never rfl (pi_list (pe_fld (pv 0) rfl)) (pg_name (i := 2) sc.nd rfl (Or.inl rfl))
        (pss_one (ps_if (pt_chain op_le op_le (pe_ix ix_tup (pv 2) pe_int (fun _ _ => rfl)) (pv 1) (pe_ix ix_tup (pv 2) pe_int (fun _ _ => rfl)))
          (pss_one (ps_ret (pe_op op_add (pv 1) (pe_ix ix_tup (pv 2) pe_int (fun _ _ => rfl)))))
          pss_nil)))
      (pss_one (ps_ret pe_non))), ?_⟩
    have hwn := paired_len w2
    refine ⟨_, rfl, a, _, dx, _, _, rfl, e1, T.k_Leg.cl, T.n_Leg_windows, rfl, wa, rfl, ⟨_, SqL.of w1⟩, for_list (K := K) (a := wa) (xs := ws.map V.ref) (fun i σ H' => ∃ v, σ = [some (.ref a), some (.int d), v] ∧ H' = H ∧ ∀ y ∈ g.windows.take i, (decide (y.first ≤ d) && decide (d ≤ y.last)) = false)
      ⟨none, rfl, rfl, fun y hy => by simp at hy⟩ (fun i σ H' _ ⟨_, _, e, _⟩ => by rw [e]; exact SqL.of w1) ?_ ?_⟩
    · rintro i y σ H' hi ⟨v, rfl, rfl, hn⟩
      obtain ⟨c, hc, rfl⟩ := refs_of hi
      obtain ⟨x, hx, c1⟩ := Paired.getL w2 hc
      have no : (decide (x.first ≤ d) && decide (d ≤ x.last)) = false → ∀ y ∈ g.windows.take (i + 1), (decide (y.first ≤ d) && decide (d ≤ y.last)) = false := fun z y hy => by
        rw [take_one hx] at hy
        rcases List.mem_append.mp hy with q | q
        · exact hn y q
        · have e : y = x := by simpa using q
          rw [e]
          exact z
      refine ⟨_, rfl, c, _, _, _, rfl, rfl, SqT.of c1, at_of (j := 0) rfl rfl, _, rfl, _, _, rfl, rfl, _, rfl, ite2 (fun h => ?_) (fun h => ?_)⟩
      · refine ⟨_, rfl, c, _, _, _, rfl, rfl, SqT.of c1, at_of (j := 1) rfl rfl, _, _, rfl, rfl, _, rfl, ite2 (fun h2 => ?_) (fun h2 => ?_)⟩
        · refine ⟨_, rfl, _, rfl, c, _, _, _, rfl, rfl, SqT.of c1, at_of (j := 2) rfl rfl, _, _, rfl, rfl, ?_⟩
          have h3 : (decide (x.first ≤ d) && decide (d ≤ x.last)) = true := by
            simp at h h2
            simp
            omega
          have h4 : arr g d = some (d + x.days) := by
            unfold arr Vbexaa.takes
            rw [find_take_none (p := fun w => decide (w.first ≤ d) && decide (d ≤ w.last)) hn hx h3]
            rfl
          rw [h4] at k
          exact k
        · refine ⟨_, rfl, rfl, no ?_⟩
          simp at h h2
          simp
          omega
      · refine ⟨_, rfl, iteF ⟨_, rfl, rfl, no ?_⟩⟩
        simp at h
        simp
        omega
    · rintro σ H' ⟨v, rfl, rfl, hn⟩
      rw [List.length_map, hwn, List.take_length] at hn
      have h4 : arr g d = none := by
        unfold arr Vbexaa.takes
        rw [List.find?_eq_none.mpr (fun y hy => by rw [hn y hy]; simp)]
        rfl
      rw [h4] at k
      exact k
end
end SL
end
section
namespace SL
open PySem PySem.Spec PyProof.Rows L2
theorem rep_days (v : V) : (List.replicate 401 [v]).flatten = days (fun _ => v) := by
  unfold days
  rw [List.map_const', List.length_range]
  simp
theorem grid_new {H : Hp} {D : Addr} {rs : List Addr} {n : Nat} {v : V} {H1 : Hp} (h1 : H D = some (.lst (rs.map V.ref))) (hl : rs.length = n) (hnd : rs.Nodup) (hrs : ∀ r ∈ rs, H1 r = none ∧ r ≠ D ∧ H r = some (.lst (days fun _ => v))) : GridAt H D rs n (fun _ _ => v) :=
  ⟨h1, hl, hnd, fun z => (hrs D z).2.1 rfl, fun i r hr => (hrs r (List.mem_of_getElem? hr)).2.2⟩
def freeOf (ps : List (List Nat)) (p d : Nat) : Vbexaa.Line → Bool
  | .nostay n a b => Vbexaa.indexOf ps n != p || !(ps.contains n) || (decide (d < a) || decide (b < d))
  | _ => true
theorem canStay_all (l : List Vbexaa.Line) (ps : List (List Nat)) (p d : Nat) : Vbexaa.canStay l ps p d = l.all (freeOf ps p d) := by
  unfold Vbexaa.canStay
  refine congrArg (fun f => l.all f) ?_
  funext x
  cases x <;> rfl
theorem canStay_snoc (l : List Vbexaa.Line) (x : Vbexaa.Line) (ps : List (List Nat)) (p d : Nat) : Vbexaa.canStay (l ++ [x]) ps p d = (Vbexaa.canStay l ps p d && freeOf ps p d x) := by
  rw [canStay_all, canStay_all, List.all_append]
  simp
def ldF (l s : V) : List (Str × V) := [("legs", l), ("stays", s)]
def LandAt (mg : Str → Option Value) (H : Hp) (a : Addr) (w : Vbexaa.Land) : Prop := ∃ dx l s ss, H a = some (.ins (clsOf mg "Land") dx (ldF (.ref l) (.ref s))) ∧ LegsAt (clsOf mg "Leg") H l w.legs ∧ GridAt H s ss w.places.length (fun p d => .bl (Vbexaa.stays w p d))
theorem LandAt.same {mg : Str → Option Value} {H H' : Hp} {a : Addr} {w : Vbexaa.Land} (h : LandAt mg H a w) (s : Same H H') : LandAt mg H' a w := by
  obtain ⟨dx, l, st, ss, h1, h2, h3⟩ := h
  exact ⟨dx, l, st, ss, s _ _ h1, h2.same s, h3.same s⟩
section
variable {P : Program} {w : World} {K : PySem.W.Frag} {mg : Str → Option Value} {base : Heap}
theorem ok_stays_told (T : Txt K mg) : Df P w K mg base "stays_told" 2 ["lines"] (fun vs H Q _ => ∃ (a : Addr) (ls : List Vbexaa.Line), vs = [.ref a] ∧ LinesAt (clsOf mg "Line") H a ls ∧ ls.length ≤ 100000 ∧
    ∀ H' p rs, Same H H' → GridAt H' p rs (Vbexaa.placesOf ls).length (fun p d => .bl (Vbexaa.canStay ls (Vbexaa.placesOf ls) p d)) → Q (.ref p) H') := by
  have sc := sc_stays_told
  have D_place_names := ok_place_names (P := P) (w := w) (base := base) T
  refine df_of T.f_stays_told sc (fun vs H Q E h => ?_) (fun f cdv A outer s H vs Q E hr h => ?_)
  · obtain ⟨a, ls, rfl, _⟩ := h
    rfl
  · obtain ⟨a, ls, rfl, L, hl, k⟩ := h
    have hu := hr.units
    have big := line_big
    refine ⟨_, (pss_cons (ps_set (i := 1) sc.nd rfl (Or.inl rfl) (pe_df D_place_names hr.m rfl (pa_cons (pv 0) pa_nil)))
      (pss_cons (ps_setLc (i := 2) (own := [("name", 3)]) rfl sc.nd rfl rfl rfl (pi_list (pv 1)) (blk1 rfl rfl rfl) (fun _ _ _ _ _ => pg_name (i := 3) sc.nd rfl (Or.inl rfl)) (fun _ _ _ _ _ => pts_nil) (fun _ _ _ _ _ => (pe_op op_rep (pe_lst (pa_cons pe_bl pa_nil)) (pe_op op_add (pe_gc rfl T.c_LAST_DAY) pe_int))))
      (pss_cons (ps_for PassesOwn.never rfl (pi_list (pv 0)) (pg_name (i := 4) sc.nd rfl (Or.inl rfl))
        (pss_one (ps_if (PW.pt (pw_and (pt_cmpR op_eq (pe_fld (pv 4) rfl) (pe_gc rfl T.c_NO_STAY) (nomark _)) (pw_and1 (pt_cmpR (op_in_tups hu) (pe_ix ix_list (pe_fld (pv 4) rfl) pe_int (fun _ _ => rfl)) (pv 1) (by with_unfolding_all rfl)))))
          (pss_cons (ps_set (i := 5) sc.nd rfl (Or.inl rfl) (pe_bm PySem.F.plainAttrs_list PySem.F.slot_list_index PySem.F.type_list_index (mt_index_tups hu) (pv 1) (pa_cons (pe_ix ix_list (pe_fld (pv 4) rfl) pe_int (fun _ _ => rfl)) pa_nil)))
          (pss_one (ps_for PassesOwn.never rfl (pi_range2 rfl T.b_range (pa_cons (pe_ix ix_tup (pe_fld (pv 4) rfl) pe_int (fun _ _ => rfl)) (pa_cons (pe_op op_add (pe_ix ix_tup (pe_fld (pv 4) rfl) pe_int (fun _ _ => rfl)) pe_int) pa_nil))) (pg_name (i := 6) sc.nd rfl (Or.inl rfl))
            (pss_one (ps_asg pe_bl (pg_sub (pe_ix ix_list (pv 2) (pv 5) (fun _ _ => rfl)) (pv 6) set_list))))))
          pss_nil)))
      (pss_one (ps_ret (pv 2)))))), ?_⟩
    refine ⟨_, rfl, a, ls, rfl, L, hl, fun H1 pn s1 hpn TP => ?_⟩
    obtain ⟨as, h1, h2⟩ := L
    have hpl := places_len ls
    generalize hps : Vbexaa.placesOf ls = ps at k TP hpl
    have TP0 := TP
    obtain ⟨bs, t1, t2⟩ := TP
    have hbl := paired_len t2
    dsimp only [gName, tSeq, tAsg]
    refine lc_rows (walk_list (K := K) (SqL.of t1)) (by rw [List.length_map]; omega) (fun R h => ⟨_, rfl, pn, rfl, ⟨_, SqL.of t1⟩, h⟩) (days fun _ => .bl true) ?_ ?_
    · intro i x H' hi s2 _ R hR
      refine ⟨rfl, one_size, fun l hl' => ⟨_, _, rfl, rfl, l, _, _, rfl, rfl, upd_same, by decide, by decide, ?_, fun r hr' => ?_⟩⟩
      · show 1 * 401 ≤ sizeLine
        omega
      · refine hR _ r ((Same.new hl').tr_new hr') ((Same.new hl').free hr') ?_
        rw [upd_same]
        exact congrArg (fun z => some (HO.lst z)) (rep_days (.bl true))
    · intro H2 D rs s2 hD hD2 hrl hnd hrs
      rw [List.length_map, hbl] at hrl
      have G0 := grid_new hD2 hrl hnd hrs
      refine ⟨_, rfl, a, rfl, ⟨_, SqL.of (s2 _ _ (s1 _ _ h1))⟩, for_list (K := K) (a := a) (xs := as.map V.ref) (fun i σ H' => ∃ v4 v5 v6, σ = [some (.ref a), some (.ref pn), some (.ref D), none, v4, v5, v6] ∧ Same H1 H' ∧ GridAt H' D rs ps.length (fun p d => .bl (Vbexaa.canStay (ls.take i) ps p d)))
        ⟨none, none, none, rfl, s2, G0⟩ (fun i σ H' _ ⟨_, _, _, _, s5, _⟩ => SqL.of (s5 _ _ (s1 _ _ h1))) ?_ ?_⟩
      · rintro i y σ H' hi ⟨v4, v5, v6, rfl, s5, G⟩
        obtain ⟨b, hb, rfl⟩ := refs_of hi
        obtain ⟨x, hx, dx, sa, na, wa, st, e1, e2, ⟨cs, e3, e3'⟩, _, e4, lok, _⟩ := Paired.getL h2 hb
        have tk := take_one hx
        have s15 := s1.trans s5
        have f1 := s15 _ _ e1
        have skip : (∀ p d, freeOf ps p d x = true) → ∃ v4' v5' v6', [some (V.ref a), some (.ref pn), some (.ref D), none, some (.ref b), v5, v6] = [some (V.ref a), some (.ref pn), some (.ref D), none, v4', v5', v6'] ∧ Same H1 H' ∧ GridAt H' D rs ps.length (fun p d => .bl (Vbexaa.canStay (ls.take (i + 1)) ps p d)) := fun z => by
          refine ⟨_, _, _, rfl, s5, ?_⟩
          have e : (fun p d => V.bl (Vbexaa.canStay (ls.take (i + 1)) ps p d)) = fun p d => .bl (Vbexaa.canStay (ls.take i) ps p d) := by
            funext p d
            rw [tk, canStay_snoc, z, Bool.and_true]
          rw [e]
          exact G
        refine ⟨_, rfl, b, _, dx, _, _, rfl, f1, T.k_Line.cl, T.n_Line_kind, rfl, rfl, _, rfl, ite2 (fun h => ?_) (fun h => iteF ?_)⟩
        · cases x with
          | nostay n x0 x1 =>
            cases e3' with
            | cons r1 tt =>
              cases tt
              rename_i q
              obtain ⟨sp, rfl, hsp⟩ := e4
              refine ⟨_, rfl, b, _, dx, _, _, rfl, f1, T.k_Line.cl, T.n_Line_names, rfl, na, _, _, _, rfl, rfl, SqL.of (s15 _ _ e3), at_of (j := 0) rfl rfl, _, rfl, q, pn, n, ps, rfl, rfl, s15 _ _ r1, TP0.same s5, _, rfl, ite2 (fun h5 => ?_) (fun h5 => skip ?_)⟩
              · have hn : n ∈ ps := by simpa using h5
                refine ⟨_, rfl, .inl ⟨rfl, _, SqL.of (s5 _ _ t1)⟩, _, rfl, b, _, dx, _, _, rfl, f1, T.k_Line.cl, T.n_Line_names, rfl, na, _, _, _, rfl, rfl, SqL.of (s15 _ _ e3), at_of (j := 0) rfl rfl, q, pn, n, ps, rfl, rfl, s15 _ _ r1, TP0.same s5, hn, ?_⟩
                have hx1 : x0 ≤ x1 ∧ x1 ≤ 400 := lok.2
                refine ⟨_, rfl, b, _, dx, _, _, rfl, f1, T.k_Line.cl, T.n_Line_stretch, rfl, sp, _, _, _, rfl, rfl, SqT.of (s15 _ _ hsp), at_of (j := 0) rfl rfl, _, rfl, b, _, dx, _, _, rfl, f1, T.k_Line.cl, T.n_Line_stretch, rfl, sp, _, _, _, rfl, rfl, SqT.of (s15 _ _ hsp), at_of (j := 1) rfl rfl, _, _, rfl, rfl, _, _, rfl, ⟨by omega, by omega, by omega, by omega⟩, ?_⟩
                have en : ((x1 : Int) + 1 - (x0 : Int)).toNat = x1 + 1 - x0 := by omega
                have hix : Vbexaa.indexOf ps n < ps.length := index_lt hn
                have e0 : (ps.findIdx fun m => m == n) = Vbexaa.indexOf ps n := rfl
                rw [e0]
                have fin : ∀ p d, Vbexaa.canStay (ls.take (i + 1)) ps p d = (Vbexaa.canStay (ls.take i) ps p d && !(decide (p = Vbexaa.indexOf ps n) && (decide (x0 ≤ d) && decide (d < x0 + (x1 + 1 - x0))))) := fun p d => by
                  rw [tk, canStay_snoc]
                  congr 1
                  unfold freeOf
                  dsimp only
                  have hc : ps.contains n = true := by simpa using hn
                  rw [hc, Bool.not_true, Bool.or_false, Bool.eq_iff_iff]
                  simp only [Bool.or_eq_true, bne_iff_ne, ne_eq, decide_eq_true_eq, Bool.not_eq_true', Bool.and_eq_false_iff, decide_eq_false_iff_not]
                  constructor
                  · rintro (z | z | z)
                    · exact .inl fun y => z y.symm
                    · exact .inr (.inl (by omega))
                    · exact .inr (.inr (by omega))
                  · rintro (z | z | z)
                    · exact .inl fun y => z y.symm
                    · exact .inr (.inl (by omega))
                    · exact .inr (.inr (by omega))
                generalize Vbexaa.indexOf ps n = ix at hix fin
                refine for_range (fun j σ H'' => ∃ v6', σ = [some (V.ref a), some (.ref pn), some (.ref D), none, some (.ref b), some (.int ix), v6'] ∧ Same H1 H'' ∧ GridAt H'' D rs ps.length (fun p d => .bl (Vbexaa.canStay (ls.take i) ps p d && !(decide (p = ix) && (decide (x0 ≤ d) && decide (d < x0 + j))))))
                  ⟨_, rfl, s5, ?_⟩ ?_ ?_
                · have e : (fun p d => V.bl (Vbexaa.canStay (ls.take i) ps p d && !(decide (p = ix) && (decide (x0 ≤ d) && decide (d < x0 + 0))))) = fun p d => .bl (Vbexaa.canStay (ls.take i) ps p d) := by
                    funext p d
                    have : (decide (x0 ≤ d) && decide (d < x0 + 0)) = false := by
                      simp
                    rw [this]
                    simp
                  rw [e]
                  exact G
                · rintro j σ H'' hj ⟨v6', rfl, s6, G6⟩
                  obtain ⟨r, hr1, hr2, hr3, hr4⟩ := G6.at_ hix
                  refine ⟨_, rfl, _, rfl, D, _, _, _, rfl, rfl, SqL.of G6.top, at_of (j := ix) rfl hr3, _, rfl, r, _, _, _, rfl, rfl, hr4, ix_days (d := x0 + j) (by omega) (by omega), _, rfl, s6.upd (hrs r hr2).1, ?_⟩
                  have G7 := G6.set (d := x0 + j) (v := .bl false) hr1
                  have e : (fun p d => V.bl (Vbexaa.canStay (ls.take i) ps p d && !(decide (p = ix) && (decide (x0 ≤ d) && decide (d < x0 + (j + 1)))))) = setG (fun p d => V.bl (Vbexaa.canStay (ls.take i) ps p d && !(decide (p = ix) && (decide (x0 ≤ d) && decide (d < x0 + j))))) ix (x0 + j) (.bl false) := by
                    funext p d
                    unfold setG
                    by_cases h7 : p = ix ∧ d = x0 + j
                    · rw [if_pos h7, h7.1, h7.2]
                      simp
                    · rw [if_neg h7]
                      by_cases h8 : p = ix
                      · have h9 : d ≠ x0 + j := fun z => h7 ⟨h8, z⟩
                        have h10 : decide (d < x0 + (j + 1)) = decide (d < x0 + j) := decide_eq_decide.mpr (by omega)
                        rw [h10]
                      · simp [h8]
                  rw [e]
                  exact G7
                · rintro σ H'' ⟨v6', rfl, s6, G6⟩
                  rw [en] at G6
                  refine ⟨_, _, _, rfl, s6, ?_⟩
                  have e : (fun p d => V.bl (Vbexaa.canStay (ls.take (i + 1)) ps p d)) = fun p d => V.bl (Vbexaa.canStay (ls.take i) ps p d && !(decide (p = ix) && (decide (x0 ≤ d) && decide (d < x0 + (x1 + 1 - x0))))) := by
                    funext p d
                    rw [fin]
                  rw [e]
                  exact G6
              · intro p d
                have hn : n ∉ ps := by simpa using h5
                simp [freeOf, hn]
          | leg both _ _ _ => cases both <;> simp [kindOf] at h
          | place _ => simp [kindOf] at h
          | note _ => simp [kindOf] at h
        · refine skip fun p d => ?_
          cases x with
          | nostay _ _ _ => simp [kindOf] at h
          | leg both _ _ _ => rfl
          | place _ => rfl
          | note _ => rfl
      · rintro σ H' ⟨v4, v5, v6, rfl, s5, G⟩
        rw [List.length_map, paired_len h2, List.take_length] at G
        exact ⟨_, rfl, k _ _ rs (s1.trans s5) G⟩
end
end SL
end
section
namespace SL
open Vbexaa
def markStep {α : Type} (d : Nat) (a : (Nat → Bool) → α → Option (Nat × Nat)) (f : Nat → Nat → Bool) (x : α) : Nat → Nat → Bool := match a (fun p => f p d) x with
  | some c => setG f c.1 c.2 true
  | none => f
theorem mark_fold {α : Type} (d : Nat) (a : (Nat → Bool) → α → Option (Nat × Nat)) : ∀ (l : List α) (f : Nat → Nat → Bool), (∀ x ∈ l, ∀ r c, a r x = some c → c.2 ≠ d) →
    (∀ p, (l.foldl (markStep d a) f) p d = f p d) ∧ ∀ p e, (l.foldl (markStep d a) f) p e = true ↔ f p e = true ∨ ∃ x ∈ l, a (fun p => f p d) x = some (p, e)
  | [], f, _ => ⟨fun p => rfl, fun p e => by simp⟩
  | x :: l, f, ha => by
    have h1 : ∀ p, markStep d a f x p d = f p d := fun p => by
      unfold markStep
      cases h : a (fun p => f p d) x with
      | none => rfl
      | some c =>
        dsimp only
        exact setG_ne fun z => ha x (by simp) _ c h z.2.symm
    have h2 : ∀ p e, markStep d a f x p e = true ↔ f p e = true ∨ a (fun p => f p d) x = some (p, e) := fun p e => by
      unfold markStep
      cases h : a (fun p => f p d) x with
      | none => simp
      | some c =>
        dsimp only
        by_cases h3 : p = c.1 ∧ e = c.2
        · rw [h3.1, h3.2, setG_same]
          simp
        · rw [setG_ne h3]
          have : ¬ (c = (p, e)) := fun z => h3 (by rw [z]; exact ⟨rfl, rfl⟩)
          simp [this]
    have ih := mark_fold d a l (markStep d a f x) fun y hy => ha y (List.mem_cons_of_mem _ hy)
    rw [List.foldl_cons]
    have e : (fun p => markStep d a f x p d) = fun p => f p d := funext h1
    rw [e] at ih
    refine ⟨fun p => (ih.1 p).trans (h1 p), fun p e => ?_⟩
    rw [ih.2, h2]
    constructor
    · rintro ((h | h) | ⟨y, hy, h⟩)
      · exact .inl h
      · exact .inr ⟨x, by simp, h⟩
      · exact .inr ⟨y, List.mem_cons_of_mem _ hy, h⟩
    · rintro (h | ⟨y, hy, h⟩)
      · exact .inl (.inl h)
      · rcases List.mem_cons.mp hy with z | z
        · rw [z] at h
          exact .inl (.inr h)
        · exact .inr ⟨y, z, h⟩
def stayA (w : Land) (d : Nat) (r : Nat → Bool) (p : Nat) : Option (Nat × Nat) := if (r p && stays w p d) = true then some (p, d + 1) else none
def goA (d : Nat) (r : Nat → Bool) (g : Leg) : Option (Nat × Nat) := if r g.from_ = true then (match arr g d with
  | some e => if e ≤ 400 then some (g.to_, e) else none
  | none => none) else none
def goOn (w : Land) (d : Nat) (f : Nat → Nat → Bool) : Nat → Nat → Bool := w.legs.foldl (markStep d (goA d)) ((List.range w.places.length).foldl (markStep d (stayA w d)) f)
theorem goA_some {d : Nat} {r : Nat → Bool} {g : Leg} {c : Nat × Nat} : goA d r g = some c ↔ r g.from_ = true ∧ ∃ n, takes g d = some n ∧ d + n ≤ 400 ∧ c = (g.to_, d + n) := by
  unfold goA arr
  by_cases h : r g.from_ = true
  · rw [if_pos h]
    cases ht : takes g d with
    | none => simp
    | some n =>
      dsimp only [Option.map_some]
      by_cases h2 : d + n ≤ 400
      · rw [if_pos h2]
        constructor
        · intro e
          exact ⟨h, n, rfl, h2, (Option.some.inj e).symm⟩
        · rintro ⟨_, m, e1, _, e2⟩
          cases e1
          rw [e2]
      · rw [if_neg h2]
        constructor
        · intro e
          cases e
        · rintro ⟨_, m, e1, e3, e2⟩
          cases e1
          exact absurd e3 h2
  · rw [if_neg h]
    constructor
    · intro e
      cases e
    · rintro ⟨z, _⟩
      exact absurd z h
theorem goOn_iff {w : Land} (ok : LandOk w) (d : Nat) (f : Nat → Nat → Bool) (p e : Nat) : goOn w d f p e = true ↔ f p e = true ∨ (p < w.places.length ∧ e = d + 1 ∧ f p d = true ∧ stays w p d = true) ∨ ∃ g ∈ w.legs, ∃ n, f g.from_ d = true ∧ takes g d = some n ∧ d + n ≤ 400 ∧ p = g.to_ ∧ e = d + n := by
  have m1 := mark_fold d (stayA w d) (List.range w.places.length) f fun x _ r c h => by
    unfold stayA at h
    split at h
    · cases h
      show d + 1 ≠ d
      omega
    · cases h
  have m2 := mark_fold d (goA d) w.legs ((List.range w.places.length).foldl (markStep d (stayA w d)) f) fun g hg r c h => by
    obtain ⟨_, n, hn, _, rfl⟩ := goA_some.mp h
    have := ok.tk g hg d n hn
    show d + n ≠ d
    omega
  unfold goOn
  rw [m2.2, m1.2, funext m1.1, or_assoc]
  refine or_congr_right (or_congr ?_ ?_)
  · constructor
    · rintro ⟨x, hx, h⟩
      rw [List.mem_range] at hx
      unfold stayA at h
      split at h
      · rename_i hc
        cases h
        simp only [Bool.and_eq_true] at hc
        exact ⟨hx, rfl, hc.1, hc.2⟩
      · cases h
    · rintro ⟨h1, h2, h3, h4⟩
      refine ⟨p, List.mem_range.mpr h1, ?_⟩
      unfold stayA
      rw [if_pos (by simp [h3, h4]), h2]
  · constructor
    · rintro ⟨g, hg, h⟩
      obtain ⟨h1, n, h2, h3, h4⟩ := goA_some.mp h
      cases h4
      exact ⟨g, hg, n, h1, h2, h3, rfl, rfl⟩
    · rintro ⟨g, hg, n, h1, h2, h3, h4, h5⟩
      exact ⟨g, hg, goA_some.mpr ⟨h1, n, h2, h3, by rw [h4, h5]⟩⟩
def PBy (w : Land) (S : Nat → Nat → Prop) (d p e : Nat) : Prop := S p e ∨ (∃ e', e' < d ∧ e = e' + 1 ∧ CanBe w S p e' ∧ stays w p e' = true) ∨ ∃ g ∈ w.legs, ∃ e' n, e' < d ∧ e = e' + n ∧ p = g.to_ ∧ CanBe w S g.from_ e' ∧ takes g e' = some n
theorem pby_canBe {w : Land} {S : Nat → Nat → Prop} {d p e : Nat} (h : PBy w S d p e) : CanBe w S p e := by
  rcases h with h | ⟨e', _, rfl, h, hs⟩ | ⟨g, hg, e', n, _, rfl, rfl, h, hk⟩
  · exact .start h
  · exact .stay h hs
  · exact .go hg h hk
theorem canBe_pby {w : Land} (ok : LandOk w) {S : Nat → Nat → Prop} {d p e : Nat} (h : CanBe w S p e) (he : e ≤ d) : PBy w S d p e := by
  cases h with
  | start h => exact .inl h
  | @stay _ e' h hs => exact .inr (.inl ⟨e', by omega, rfl, h, hs⟩)
  | @go e' n g hg h hk =>
    have := ok.tk g hg e' n hk
    exact .inr (.inr ⟨g, hg, e', n, by omega, rfl, rfl, h, hk⟩)
theorem goOn_ok {w : Land} (ok : LandOk w) {S : Nat → Nat → Prop} {d : Nat} {f : Nat → Nat → Bool} (hf : ∀ p, p < w.places.length → ∀ e, e ≤ 400 → (f p e = true ↔ PBy w S d p e)) (hd : d < 400) :
    ∀ p, p < w.places.length → ∀ e, e ≤ 400 → (goOn w d f p e = true ↔ PBy w S (d + 1) p e) := by
  intro p hp e he
  have at_ : ∀ q, q < w.places.length → (f q d = true ↔ CanBe w S q d) := fun q hq => by
    rw [hf q hq d (by omega)]
    exact ⟨pby_canBe, fun h => canBe_pby ok h (Nat.le_refl _)⟩
  rw [goOn_iff ok, hf p hp e he]
  constructor
  · rintro ((h | ⟨e', h1, h2⟩ | ⟨g, hg, e', n, h1, h2⟩) | ⟨_, h1, h2, h3⟩ | ⟨g, hg, n, h1, h2, h3, h4, h5⟩)
    · exact .inl h
    · exact .inr (.inl ⟨e', by omega, h2⟩)
    · exact .inr (.inr ⟨g, hg, e', n, by omega, h2⟩)
    · exact .inr (.inl ⟨d, by omega, h1, (at_ p hp).mp h2, h3⟩)
    · exact .inr (.inr ⟨g, hg, d, n, by omega, h5, h4, (at_ _ (ok.fr g hg)).mp h1, h2⟩)
  · rintro (h | ⟨e', h1, h2, h3, h4⟩ | ⟨g, hg, e', n, h1, h2, h3, h4, h5⟩)
    · exact .inl (.inl h)
    · by_cases z : e' = d
      · subst z
        exact .inr (.inl ⟨hp, h2, (at_ p hp).mpr h3, h4⟩)
      · exact .inl (.inr (.inl ⟨e', by omega, h2, h3, h4⟩))
    · by_cases z : e' = d
      · subst z
        exact .inr (.inr ⟨g, hg, n, (at_ _ (ok.fr g hg)).mpr h4, h5, by omega, h3, h2⟩)
      · exact .inl (.inr (.inr ⟨g, hg, e', n, by omega, h2, h3, h4, h5⟩))
theorem canBe_upto {w : Land} (ok : LandOk w) {S S' : Nat → Nat → Prop} {D : Nat} (h : ∀ p d, d ≤ D → S p d → S' p d) {p d : Nat} (hc : CanBe w S p d) : d ≤ D → CanBe w S' p d := by
  induction hc with
  | start hs => exact fun hd => .start (h _ _ hd hs)
  | stay _ hs ih => exact fun hd => .stay (ih (by omega)) hs
  | @go d n g hg _ hk ih =>
    have := ok.tk g hg d n hk
    exact fun hd => .go hg (ih (by omega)) hk
theorem marked_days {w : Land} (ok : LandOk w) {b : Nat → List Nat} (hb : ∀ p d, p ∈ b d → p < w.places.length) {S : Nat → Nat → Prop} (hS : ∀ p d, d ≤ 400 → (p ∈ b d ↔ S p d)) {F : Nat → Nat → Bool} (hF : ∀ p, p < w.places.length → ∀ e, e ≤ 400 → (F p e = true ↔ PBy w S 400 p e)) {y : Nat} (hy : y < w.places.length) :
    daysAt (reach w b) y = (List.range 401).filter (F y) := by
  refine daysAt_filter ok b hb y (F y) fun d hd => ?_
  rw [hF y hy d hd]
  constructor
  · intro h
    exact canBe_upto ok (D := 400) (fun p d hd h => (hS p d hd).mpr h) (pby_canBe h) hd
  · intro h
    exact canBe_pby ok (canBe_upto ok (D := 400) (fun p d hd h => (hS p d hd).mp h) h hd) hd
end SL
end
section
namespace SL
open PySem PySem.Spec PyProof.Rows L2
theorem days_cut (f : Nat → V) {a b : Nat} (h1 : a ≤ b) (h2 : b ≤ 400) : cutV (days f) (some (a : Int)) (some (b : Int)) = (List.range (b - a)).map fun k => f (a + k) := by
  rw [cut_mid _ _ _ h1 (by rw [days_len]; omega)]
  refine List.ext_getElem? fun i => ?_
  rw [List.getElem?_take, List.getElem?_map]
  by_cases h : i < b - a
  · rw [if_pos h, List.getElem?_drop, days_get _ (by omega), List.getElem?_range h]
    rfl
  · rw [if_neg h, List.getElem?_eq_none (by simp; omega)]
    rfl
section
variable {P : Program} {w : World} {K : PySem.W.Frag} {mg : Str → Option Value} {base : Heap}
def spLand (C : Addr) : Sp := fun vs H Q _ => ∃ (p dx : Addr) (l s : V), vs = [.ref p, l, s] ∧ H p = some (.ins C dx []) ∧ ∀ H' : Hp, H' p = some (.ins C dx (ldF l s)) → (∀ b o, H b = some o → b ≠ p → H' b = some o) → Q .non H'
theorem ok_Land (T : Txt K mg) : MkD P w K mg base "Land" 1 ["self", "legs", "stays"] (spLand (clsOf mg "Land")) := by
  have sc := sc_Land_init
  refine mk_of T.k_Land sc (fun vs H Q E h => ?_) (fun f cdv A outer s H vs Q E hr h => ?_)
  · obtain ⟨p, dx, b, e, rfl, _⟩ := h
    rfl
  · obtain ⟨p, dx, b, e, rfl, hp, kk⟩ := h
    refine ⟨_, (pss_cons (ps_fld (pv 0) (pv 1) rfl)
      (pss_one (ps_fld (pv 0) (pv 2) rfl))), ?_⟩
    refine ⟨_, rfl, _, rfl, p, _, dx, _, rfl, hp, T.k_Land.cl, T.n_Land_legs, (by decide), ?_⟩
    refine ⟨_, rfl, _, rfl, p, _, dx, _, rfl, upd_same, T.k_Land.cl, T.n_Land_stays, (by show 1 < 1000; decide), ?_⟩
    refine kk _ upd_same fun b o e hb => ?_
    rw [upd_ne hb, upd_ne hb]
    exact e
theorem ok_can_stay (T : Txt K mg) : MdD P w K mg base "Land" "can_stay" 1 ["self", "place", "first", "behind"] (fun vs H Q _ => ∃ (a : Addr) (wl : Vbexaa.Land) (p x y : Nat), vs = [.ref a, .int p, .int x, .int y] ∧ LandAt mg H a wl ∧ p < wl.places.length ∧ x ≤ y ∧ y ≤ 400 ∧
    ∀ H', Same H H' → Q (.bl ((List.range (y - x)).all fun k => Vbexaa.stays wl p (x + k))) H') := by
  have sc := sc_Land_can_stay
  refine md_of T.k_Land.cl T.m_Land_can_stay sc (fun vs H Q E h => ?_) (fun f cdv A outer s H vs Q E hr h => ?_)
  · obtain ⟨a, wl, p, x, y, rfl, _⟩ := h
    rfl
  · obtain ⟨a, wl, p, x, y, rfl, ⟨dx, l, st, ss, e1, e2, G⟩, hp, hxy, hy, k⟩ := h
    refine ⟨_, (pss_one (ps_ret (pe_callB (cr_all rfl) (by rfl) T.b_all boot_all (pa_cons (pe_slice sl_list (pe_ix ix_list (pe_fld (pv 0) rfl) (pv 1) (fun _ _ => rfl)) (po_some (pv 2)) (po_some (pv 3))) pa_nil)))), ?_⟩
    obtain ⟨r, hr1, hr2, hr3, hr4⟩ := G.at_ hp
    refine ⟨_, rfl, a, _, dx, _, _, rfl, e1, T.k_Land.cl, T.n_Land_stays, rfl, _, rfl, st, _, _, _, rfl, rfl, SqL.of G.top, at_of (j := p) rfl hr3, ?_⟩
    refine ⟨_, rfl, _, rfl, _, rfl, _, rfl, r, _, rfl, SqL.of hr4, fun q hq => ?_⟩
    refine ⟨q, (List.range (y - x)).map fun k => Vbexaa.stays wl p (x + k), rfl, SqL.of ?_, ?_⟩
    · rw [upd_same, days_cut _ hxy hy, List.map_map]
      rfl
    · refine q_bl (Q := Q) ?_ (k _ (Same.new hq))
      rw [List.all_map]
      rfl
theorem ok_land_told (T : Txt K mg) : Df P w K mg base "land_told" 5 ["lines"] (fun vs H Q _ => ∃ (a : Addr) (ls : List Vbexaa.Line), vs = [.ref a] ∧ LinesAt (clsOf mg "Line") H a ls ∧ ls.length ≤ 10000 ∧
    ∀ H' p, Same H H' → LandAt mg H' p (Vbexaa.landOf ls) → Q (.ref p) H') := by
  have sc := sc_land_told
  have D_legs_told := ok_legs_told (P := P) (w := w) (base := base) T
  have D_stays_told := ok_stays_told (P := P) (w := w) (base := base) T
  have M_Land := ok_Land (P := P) (w := w) (base := base) T
  refine df_of T.f_land_told sc (fun vs H Q E h => ?_) (fun f cdv A outer s H vs Q E hr h => ?_)
  · obtain ⟨a, ls, rfl, _⟩ := h
    rfl
  · obtain ⟨a, ls, rfl, L, hl, k⟩ := h
    refine ⟨_, (pss_one (ps_ret (pe_mk M_Land hr.m rfl (pa_cons (pe_df D_legs_told hr.m rfl (pa_cons (pv 0) pa_nil)) (pa_cons (pe_df D_stays_told hr.m rfl (pa_cons (pv 0) pa_nil)) pa_nil))))), ?_⟩
    refine ⟨_, rfl, a, ls, rfl, L, hl, fun H1 p1 s1 hp1 G1 => ?_⟩
    refine ⟨_, rfl, a, ls, rfl, L.same s1, by omega, fun H2 p2 rs s2 G2 => ?_⟩
    refine fun g1 dg1 ng1 nd1 _ => ⟨g1, dg1, _, _, rfl, upd_same, fun H3 hg1 kp1 => ⟨rfl, ?_⟩⟩
    have s3 := Same.made ng1 nd1 kp1
    exact k _ _ ((s1.trans s2).trans s3) ⟨dg1, p1, p2, rs, hg1, G1.same (s2.trans s3), G2.same s3⟩
end
end SL
end
section
namespace SL
open PySem PySem.Spec PyProof.Rows L2
def blG (f : Nat → Nat → Bool) : Nat → Nat → V := fun p e => .bl (f p e)
theorem setG_bl (f : Nat → Nat → Bool) (i d : Nat) (b : Bool) : setG (blG f) i d (.bl b) = blG (setG f i d b) := by
  funext p e
  unfold setG blG
  dsimp only
  split <;> rfl
theorem range_foldl {α : Type} (F : α → Nat → α) (a : α) (i : Nat) : (List.range (i + 1)).foldl F a = F ((List.range i).foldl F a) i := by
  rw [List.range_succ, List.foldl_append]
  rfl
theorem take_foldl {α β : Type} (F : α → β → α) (a : α) {l : List β} {i : Nat} {x : β} (h : l[i]? = some x) : (l.take (i + 1)).foldl F a = F ((l.take i).foldl F a) x := by
  rw [take_one h, List.foldl_append]
  rfl
section
variable {P : Program} {w : World} {K : PySem.W.Frag} {mg : Str → Option Value} {base : Heap}
theorem ok_go_on (T : Txt K mg) : Df P w K mg base "go_on" 2 ["land", "reached", "day"] (fun vs H Q _ => ∃ (lo p : Addr) (rs : List Addr) (wl : Vbexaa.Land) (f : Nat → Nat → Bool) (d : Nat), vs = [.ref lo, .ref p, .int d] ∧ LandAt mg (hide rs H) lo wl ∧ GridAt H p rs wl.places.length (blG f) ∧ d < 400 ∧ LandOk wl ∧ wl.places.length ≤ 1000 ∧
    ∀ H', Same (hide rs H) (hide rs H') → GridAt H' p rs wl.places.length (blG (goOn wl d f)) → Q .non H') := by
  have sc := sc_go_on
  have D_arrival := ok_arrival (P := P) (w := w) (base := base) T
  refine df_of T.f_go_on sc (fun vs H Q E h => ?_) (fun f cdv A outer s H vs Q E hr h => ?_)
  · obtain ⟨lo, p, rs, wl, f, d, rfl, _⟩ := h
    rfl
  · obtain ⟨lo, p, rs, wl, f, d, rfl, ⟨dx, l, st, ss, e1, ⟨as, e2, e3⟩, GS⟩, G, hd, ok, hpl, k⟩ := h
    have big := line_big
    refine ⟨_, (pss_cons (ps_for PassesOwn.never rfl (pi_range1 rfl T.b_range (pa_cons (pe_callB call_len_seq (by rfl) T.b_len PySem.boot_len (pa_cons (pv 1) pa_nil)) pa_nil)) (pg_name (i := 3) sc.nd rfl (Or.inl rfl))
        (pss_one (ps_if (PW.pt (pw_and (pt_truth (pe_ix ix_list (pe_ix ix_list (pv 1) (pv 3) (fun _ _ => rfl)) (pv 2) (fun _ _ => rfl)) (fun _ => rfl)) (pw_and1 (pt_truth (pe_ix ix_list (pe_ix ix_list (pe_fld (pv 0) rfl) (pv 3) (fun _ _ => rfl)) (pv 2) (fun _ _ => rfl)) (fun _ => rfl)))))
          (pss_one (ps_asg pe_bl (pg_sub (pe_ix ix_list (pv 1) (pv 3) (fun _ _ => rfl)) (pe_op op_add (pv 2) pe_int) set_list)))
          pss_nil)))
      (pss_one (ps_for PassesOwn.never rfl (pi_list (pe_fld (pv 0) rfl)) (pg_name (i := 4) sc.nd rfl (Or.inl rfl))
        (pss_one (ps_if (pt_truth (pe_ix ix_list (pe_ix ix_list (pv 1) (pe_fld (pv 4) rfl) (fun _ _ => rfl)) (pv 2) (fun _ _ => rfl)) (fun _ => rfl))
          (pss_cons (ps_set (i := 5) sc.nd rfl (Or.inl rfl) (pe_df D_arrival hr.m rfl (pa_cons (pv 4) (pa_cons (pv 2) pa_nil))))
          (pss_one (ps_if (PW.pt (pw_and (pt_cmpR op_notN (pv 5) pe_non (nomark _)) (pw_and1 (pt_cmpR op_le (pv 5) (pe_gc rfl T.c_LAST_DAY) (nomark _)))))
            (pss_one (ps_asg pe_bl (pg_sub (pe_ix ix_list (pv 1) (pe_fld (pv 4) rfl) (fun _ _ => rfl)) (pv 5) set_list)))
            pss_nil)))
          pss_nil))))), ?_⟩
    have hal := paired_len e3
    refine ⟨_, rfl, p, _, rfl, .inl (SqL.of G.top), _, rfl, by omega, by rw [List.length_map, G.len]; omega, for_range (fun i σ H' => ∃ v3, σ = [some (.ref lo), some (.ref p), some (.int d), v3, none, none] ∧ Same (hide rs H) (hide rs H') ∧ GridAt H' p rs wl.places.length (blG ((List.range i).foldl (markStep d (stayA wl d)) f)))
      ⟨none, rfl, Same.rfl', G⟩ ?_ ?_⟩
    · rintro i σ H' hi ⟨v3, rfl, s1, G1⟩
      have hi' : i < wl.places.length := by
        have := G.len
        rw [List.length_map] at hi
        omega
      obtain ⟨r, hr1, hr2, hr3, hr4⟩ := G1.at_ hi'
      have GS1 := (GS.same s1).same hide_same
      obtain ⟨q, hq1, hq2, hq3, hq4⟩ := GS1.at_ hi'
      have ei : (0 : Int) + (i : Int) = (i : Int) := by omega
      have fo := range_foldl (markStep d (stayA wl d)) f i
      have m1 := (mark_fold d (stayA wl d) (List.range i) f fun x _ r c h => by
        unfold stayA at h
        split at h
        · cases h
          show d + 1 ≠ d
          omega
        · cases h).1
      generalize hf1 : (List.range i).foldl (markStep d (stayA wl d)) f = f1 at G1 fo m1 hr4
      refine ⟨_, rfl, _, rfl, p, _, _, _, rfl, rfl, SqL.of G1.top, at_of (j := i) ei hr3, _, rfl, r, _, _, _, rfl, rfl, SqL.of hr4, at_of (j := d) rfl (days_get _ (by omega)), f1 i d, rfl, ite2 (fun h => ?_) (fun h => iteF ?_)⟩
      · refine ⟨_, rfl, lo, _, dx, _, _, rfl, hide_same _ _ (s1 _ _ e1), T.k_Land.cl, T.n_Land_stays, rfl, _, rfl, st, _, _, _, rfl, rfl, SqL.of GS1.top, at_of (j := i) ei hq3, _, rfl, q, _, _, _, rfl, rfl, SqL.of hq4, at_of (j := d) rfl (days_get _ (by omega)), Vbexaa.stays wl i d, rfl, ite2 (fun h2 => ?_) (fun h2 => ?_)⟩
        · refine ⟨_, rfl, _, rfl, p, _, _, _, rfl, rfl, SqL.of G1.top, at_of (j := i) ei hr3, _, rfl, _, _, rfl, rfl, r, _, _, _, rfl, rfl, hr4, ix_days (d := d + 1) (by omega) (by omega), _, rfl, ?_, ?_⟩
          · rw [hide_upd hr2]
            exact s1
          · have G2 := G1.set (d := d + 1) (v := .bl true) hr1
            rw [setG_bl] at G2
            rw [fo]
            unfold markStep stayA
            rw [if_pos (by simp [h, h2])]
            exact G2
        · refine ⟨_, rfl, s1, ?_⟩
          rw [fo]
          unfold markStep stayA
          rw [if_neg (by simp [h, h2])]
          exact G1
      · refine ⟨_, rfl, s1, ?_⟩
        rw [fo]
        unfold markStep stayA
        rw [if_neg (by simp [h])]
        exact G1
    · rintro σ H1 ⟨v3, rfl, s1, G1⟩
      have en : (((rs.map V.ref).length : Nat) : Int).toNat = wl.places.length := by rw [List.length_map, G.len, Int.toNat_natCast]
      rw [en] at G1
      have e1' := hide_same _ _ (s1 _ _ e1)
      refine ⟨_, rfl, lo, _, dx, _, _, rfl, e1', T.k_Land.cl, T.n_Land_legs, rfl, l, rfl, ⟨_, SqL.of (hide_same _ _ (s1 _ _ e2))⟩, for_list (K := K) (a := l) (xs := as.map V.ref) (fun i σ H' => ∃ v4 v5, σ = [some (.ref lo), some (.ref p), some (.int d), v3, v4, v5] ∧ Same (hide rs H) (hide rs H') ∧ GridAt H' p rs wl.places.length (blG ((wl.legs.take i).foldl (markStep d (goA d)) ((List.range wl.places.length).foldl (markStep d (stayA wl d)) f))))
        ⟨none, none, rfl, s1, G1⟩ (fun i σ H' _ ⟨_, _, _, s5, _⟩ => SqL.of (hide_same _ _ (s5 _ _ e2))) ?_ ?_⟩
      · rintro i y σ H' hi ⟨v4, v5, rfl, s2, G2⟩
        obtain ⟨b, hb, rfl⟩ := refs_of hi
        obtain ⟨g, hg, LG⟩ := Paired.getL e3 hb
        have hgm := List.mem_of_getElem? hg
        have LG2 := (LG.same s2).same hide_same
        obtain ⟨dg, wa, g1, _⟩ := LG2
        have LG2 := (LG.same s2).same hide_same
        have fo := take_foldl (markStep d (goA d)) ((List.range wl.places.length).foldl (markStep d (stayA wl d)) f) hg
        generalize hf1 : (wl.legs.take i).foldl (markStep d (goA d)) ((List.range wl.places.length).foldl (markStep d (stayA wl d)) f) = f1 at G2 fo
        obtain ⟨r, hr1, hr2, hr3, hr4⟩ := G2.at_ (ok.fr g hgm)
        have no : goA d (fun p => f1 p d) g = none → ∃ v4' v5', [some (V.ref lo), some (.ref p), some (.int d), v3, some (.ref b), v5] = [some (V.ref lo), some (.ref p), some (.int d), v3, v4', v5'] ∧ Same (hide rs H) (hide rs H') ∧ GridAt H' p rs wl.places.length (blG ((wl.legs.take (i + 1)).foldl (markStep d (goA d)) ((List.range wl.places.length).foldl (markStep d (stayA wl d)) f))) := fun z => by
          refine ⟨_, _, rfl, s2, ?_⟩
          rw [fo]
          unfold markStep
          rw [z]
          exact G2
        refine ⟨_, rfl, _, rfl, b, _, dg, _, _, rfl, g1, T.k_Leg.cl, T.n_Leg_begin, rfl, p, _, _, _, rfl, rfl, SqL.of G2.top, at_of (j := g.from_) rfl hr3, _, rfl, r, _, _, _, rfl, rfl, SqL.of hr4, at_of (j := d) rfl (days_get _ (by omega)), f1 g.from_ d, rfl, ite2 (fun h => ?_) (fun h => ?_)⟩
        · refine ⟨_, rfl, _, rfl, b, g, d, rfl, LG2, ?_⟩
          cases ha : arr g d with
          | none =>
            refine ⟨_, rfl, rfl, _, rfl, iteF (iteF ?_)⟩
            obtain ⟨_, _, q1, q2⟩ := no (by unfold goA; rw [ha]; simp)
            exact ⟨_, _, rfl, q2⟩
          | some e =>
            refine ⟨_, rfl, rfl, _, rfl, iteT ⟨_, rfl, _, _, rfl, rfl, _, rfl, ite2 (fun h2 => ?_) (fun h2 => ?_)⟩⟩
            · have h3 : e ≤ 400 := by
                rw [decide_eq_true_eq] at h2
                omega
              obtain ⟨r', hr1', hr2', hr3', hr4'⟩ := G2.at_ (ok.to g hgm)
              refine ⟨_, rfl, _, rfl, b, _, dg, _, _, rfl, g1, T.k_Leg.cl, T.n_Leg_end, rfl, p, _, _, _, rfl, rfl, SqL.of G2.top, at_of (j := g.to_) rfl hr3', _, rfl, r', _, _, _, rfl, rfl, hr4', ix_days (d := e) rfl h3, _, _, rfl, ?_, ?_⟩
              · rw [hide_upd hr2']
                exact s2
              · have G3 := G2.set (d := e) (v := .bl true) hr1'
                rw [setG_bl] at G3
                rw [fo]
                unfold markStep goA
                rw [if_pos (by exact h), ha]
                dsimp only
                rw [if_pos h3]
                exact G3
            · have h3 : ¬ e ≤ 400 := by
                rw [decide_eq_true_eq] at h2
                omega
              obtain ⟨_, _, q1, q2⟩ := no (by unfold goA; rw [ha]; simp [h3])
              exact ⟨_, _, rfl, q2⟩
        · refine no ?_
          unfold goA
          rw [if_neg h]
      · rintro σ H2 ⟨v4, v5, rfl, s2, G2⟩
        rw [List.length_map, hal, List.take_length] at G2
        exact k _ s2 G2
end
end SL
end
section
namespace SL
open PySem PySem.Spec PyProof.Rows L2
theorem fm_filter (q : Nat → Bool) (n : Nat) : (List.range n).filterMap (fun d => if q d = true then some (V.int (d : Int)) else none) = vN ((List.range n).filter q) := by
  unfold vN
  induction (List.range n) with
  | nil => rfl
  | cons x l ih =>
    rw [List.filterMap_cons, List.filter_cons]
    by_cases h : q x = true
    · rw [if_pos h, if_pos h, ih]
      rfl
    · rw [if_neg h, if_neg h, ih]
theorem GridAt.keep {H0 H H' : Hp} {p : Addr} {rs : List Addr} {n : Nat} {f : Nat → Nat → V} (g : GridAt H p rs n f) (hn : ∀ r ∈ rs, H0 r = none) (s0 : Same H0 H) (s : Same (hide rs H) (hide rs H')) : Same H0 H' := ((same_hide s0 hn).trans s).trans hide_same
section
variable {P : Program} {w : World} {K : PySem.W.Frag} {mg : Str → Option Value} {base : Heap}
structure Lnd (mg : Str → Option Value) (H : Hp) (lo : Addr) (wl : Vbexaa.Land) : Prop where
  at_ : LandAt mg H lo wl
  ok : LandOk wl
  pl : wl.places.length ≤ 1000
  ll : wl.legs.length ≤ 1000
theorem Lnd.same {H H' : Hp} {lo : Addr} {wl : Vbexaa.Land} (h : Lnd mg H lo wl) (s : Same H H') : Lnd mg H' lo wl := ⟨h.at_.same s, h.ok, h.pl, h.ll⟩
theorem ok_days_there (T : Txt K mg) : Df P w K mg base "days_there" 3 ["land", "place", "days", "goal"] (fun vs H Q _ => ∃ (lo da : Addr) (wl : Vbexaa.Land) (x y : Nat) (ds : List Nat) (b : Nat → List Nat), vs = [.ref lo, .int x, .ref da, .int y] ∧ Lnd mg H lo wl ∧ x < wl.places.length ∧ y < wl.places.length ∧
    H da = some (.lst (vN ds)) ∧ (∀ d ∈ ds, d ≤ 400) ∧ (∀ p d, p ∈ b d → p < wl.places.length) ∧ (∀ p d, d ≤ 400 → (p ∈ b d ↔ p = x ∧ d ∈ ds)) ∧
    ∀ H' q, Same H H' → H q = none → H' q = some (.lst (vN (Vbexaa.daysAt (Vbexaa.reach wl b) y))) → Q (.ref q) H') := by
  have sc := sc_days_there
  have D_go_on := ok_go_on (P := P) (w := w) (base := base) T
  refine df_of T.f_days_there sc (fun vs H Q E h => ?_) (fun f cdv A outer s H vs Q E hr h => ?_)
  · obtain ⟨lo, da, wl, x, y, ds, b, rfl, _⟩ := h
    rfl
  · obtain ⟨lo, da, wl, x, y, ds, b, rfl, ⟨LA, ok, hpl, hll⟩, hx, hy, hda, hds, hb, hS, k⟩ := h
    have big := line_big
    refine ⟨_, (pss_cons (ps_set (i := 4) sc.nd rfl (Or.inr rfl) (pe_lc (own := [("stays", 5)]) rfl sc.nd (pi_list (pe_fld (pv 0) rfl)) (blk1 rfl rfl rfl) (fun _ _ _ _ _ => pg_name (i := 5) sc.nd rfl (Or.inl rfl)) (fun _ _ _ _ _ => pts_nil) (fun _ _ _ _ _ => (pe_op op_rep (pe_lst (pa_cons pe_bl pa_nil)) (pe_op op_add (pe_gc rfl T.c_LAST_DAY) pe_int)))))
      (pss_cons (ps_for PassesOwn.never rfl (pi_list (pv 2)) (pg_name (i := 6) sc.nd rfl (Or.inl rfl))
        (pss_one (ps_asg pe_bl (pg_sub (pe_ix ix_list (pv 4) (pv 1) (fun _ _ => rfl)) (pv 6) set_list))))
      (pss_cons (ps_for PassesOwn.never rfl (pi_range1 rfl T.b_range (pa_cons (pe_gc rfl T.c_LAST_DAY) pa_nil)) (pg_name (i := 6) sc.nd rfl (Or.inl rfl))
        (pss_one (ps_expr (pe_df D_go_on hr.m rfl (pa_cons (pv 0) (pa_cons (pv 4) (pa_cons (pv 6) pa_nil)))))))
      (pss_one (ps_ret (pe_lcI (own := [("day", 6)]) rfl sc.nd (pi_range1 rfl T.b_range (pa_cons (pe_op op_add (pe_gc rfl T.c_LAST_DAY) pe_int) pa_nil)) (blk1 rfl rfl rfl) (fun _ _ _ _ _ => pg_name (i := 6) sc.nd rfl (Or.inl rfl)) (fun _ _ _ _ _ => (pt_truthK (K := K) rfl (pe_ix (ix_listK (K := K) rfl) (pe_ix (ix_listK (K := K) rfl) (pv 4) (pv 3) (fun _ _ => rfl)) (pv 6) (fun _ _ => rfl)) (fun _ => rfl))) (fun _ _ _ _ _ => (pv 6)))))))), ?_⟩
    have LA0 := LA
    obtain ⟨dx, l, st, ss, e1, LG, GS⟩ := LA
    dsimp only [gName, tSeq, tAsg]
    refine lc_rows (walk_list (K := K) (SqL.of GS.top)) (by rw [List.length_map, GS.len]; omega) (fun R h => ⟨_, rfl, lo, _, dx, _, _, rfl, e1, T.k_Land.cl, T.n_Land_stays, rfl, st, rfl, ⟨_, SqL.of GS.top⟩, h⟩) (days fun _ => .bl false) ?_ ?_
    · intro i x H' hi s2 _ R hR
      refine ⟨rfl, one_size, fun l hl' => ⟨_, _, rfl, rfl, l, _, _, rfl, rfl, upd_same, by decide, by decide, ?_, fun r hr' => ?_⟩⟩
      · show 1 * 401 ≤ sizeLine
        omega
      · refine hR _ r ((Same.new hl').tr_new hr') ((Same.new hl').free hr') ?_
        rw [upd_same]
        exact congrArg (fun z => some (HO.lst z)) (rep_days (.bl false))
    · intro H2 D rs s2 hD hD2 hrl hnd hrs
      rw [List.length_map, GS.len] at hrl
      have G0 : GridAt H2 D rs wl.places.length (blG fun _ _ => false) := grid_new hD2 hrl hnd hrs
      have hrn : ∀ r ∈ rs, H r = none := fun r hr => (hrs r hr).1
      refine ⟨_, rfl, da, rfl, ⟨_, SqL.of (s2 _ _ hda)⟩, for_list (K := K) (a := da) (xs := vN ds) (fun i σ H' => ∃ v6 f, σ = [some (.ref lo), some (.int x), some (.ref da), some (.int y), some (.ref D), none, v6] ∧ Same H H' ∧ GridAt H' D rs wl.places.length (blG f) ∧ ∀ p e, f p e = true ↔ p = x ∧ e ∈ ds.take i)
        ⟨none, _, rfl, s2, G0, fun p e => by simp⟩ (fun i σ H' _ ⟨_, _, _, s5, _⟩ => SqL.of (s5 _ _ hda)) ?_ ?_⟩
      · rintro i z σ H' hi ⟨v6, f1, rfl, s5, G5, hf⟩
        obtain ⟨d, hd, rfl⟩ := vN_of hi
        have hd4 := hds d (List.mem_of_getElem? hd)
        obtain ⟨r, hr1, hr2, hr3, hr4⟩ := G5.at_ hx
        refine ⟨_, rfl, _, rfl, D, _, _, _, rfl, rfl, SqL.of G5.top, at_of (j := x) rfl hr3, _, rfl, r, _, _, _, rfl, rfl, hr4, ix_days (d := d) rfl hd4, _, setG f1 x d true, rfl, s5.upd (hrn r hr2), ?_, fun p e => ?_⟩
        · have G6 := G5.set (d := d) (v := .bl true) hr1
          rw [setG_bl] at G6
          exact G6
        · rw [take_one hd, List.mem_append, List.mem_singleton]
          by_cases h7 : p = x ∧ e = d
          · rw [h7.1, h7.2, setG_same]
            simp
          · rw [setG_ne h7, hf]
            constructor
            · rintro ⟨a1, a2⟩
              exact ⟨a1, .inl a2⟩
            · rintro ⟨a1, a2 | a2⟩
              · exact ⟨a1, a2⟩
              · exact absurd ⟨a1, a2⟩ h7
      · rintro σ H3 ⟨v6, f1, rfl, s3, G3, hf⟩
        rw [vN_len, List.take_length] at hf
        have en : (400 : Int).toNat = 400 := rfl
        refine ⟨_, rfl, by decide, by decide, for_range (fun i σ H' => ∃ v6 f, σ = [some (.ref lo), some (.int x), some (.ref da), some (.int y), some (.ref D), none, v6] ∧ Same H H' ∧ GridAt H' D rs wl.places.length (blG f) ∧ ∀ p, p < wl.places.length → ∀ e, e ≤ 400 → (f p e = true ↔ PBy wl (fun p d => p = x ∧ d ∈ ds) i p e))
          ⟨_, f1, rfl, s3, G3, fun p hp e he => ?_⟩ ?_ ?_⟩
        · rw [hf]
          constructor
          · exact fun h => .inl h
          · rintro (h | ⟨e', h1, _⟩ | ⟨g, hg, e', n, h1, _⟩)
            · exact h
            · omega
            · omega
        · rintro i σ H' hi ⟨v6, f2, rfl, s4, G4, hf4⟩
          have hi' : i < 400 := hi
          refine ⟨_, rfl, _, rfl, _, rfl, lo, D, rs, wl, f2, i, ?_, LA0.same (same_hide s4 hrn), G4, hi', ok, hpl, fun H5 s5 G5 => ⟨_, _, rfl, G4.keep hrn s4 s5, G5, goOn_ok ok hf4 hi'⟩⟩
          show [V.ref lo, V.ref D, V.int (0 + (i : Int))] = _
          rw [Int.zero_add]
        · rintro σ H4 ⟨v6, F, rfl, s4, G4, hF⟩
          rw [en] at hF
          obtain ⟨r, hr1, hr2, hr3, hr4⟩ := G4.at_ hy
          dsimp only [tRet]
          refine lc_fm (walk_range (H := H4) (lo := 0) (n := 401)) (by omega) (fun R h => ⟨_, _, rfl, rfl, _, rfl, by decide, by decide, h⟩) (fun d => if F y d = true then some (V.int (d : Int)) else none) ?_ ?_
          · intro i z H' hi s5 hz R hR
            obtain rfl : z = .int (0 + (i : Int)) := hz
            have ei : (0 : Int) + (i : Int) = (i : Int) := by omega
            refine ⟨rfl, _, rfl, _, rfl, D, _, _, _, rfl, rfl, SqL.of (s5 _ _ G4.top), at_of (j := y) rfl hr3, _, rfl, r, _, _, _, rfl, rfl, SqL.of (s5 _ _ hr4), at_of (j := i) ei (days_get _ (by omega)), F y i, rfl, ite2 (fun h => ⟨_, rfl, ?_⟩) (fun h => ?_)⟩
            · have q := hR _ Same.rfl'
              rw [if_pos h] at q
              rw [ei]
              exact q
            · have q := hR _ Same.rfl'
              rw [if_neg h] at q
              exact q
          · intro H' q s5 hq hq2
            refine k _ q (s4.trans s5) (s4.free hq) ?_
            rw [hq2, fm_filter, marked_days ok hb hS hF hy]
end
end SL
end
section
namespace SL
open PySem PySem.Spec PyProof.Rows L2
def flatS (r : List (Nat × Nat)) : List Nat := r.flatMap fun x => [x.1, x.2]
theorem flatS_snoc (r : List (Nat × Nat)) (x : Nat × Nat) : flatS (r ++ [x]) = flatS r ++ [x.1, x.2] := by
  unfold flatS
  rw [List.flatMap_append, List.flatMap_cons, List.flatMap_nil, List.append_nil]
theorem flatS_len : ∀ r : List (Nat × Nat), (flatS r).length = 2 * r.length
  | [] => rfl
  | x :: r => by
    have ih := flatS_len r
    unfold flatS at ih ⊢
    rw [List.flatMap_cons, List.length_append, List.length_cons, ih]
    simp only [List.length_cons, List.length_nil]
    omega
theorem snoc_cases {α : Type} (s : List α) : s = [] ∨ ∃ s' x, s = s' ++ [x] := by
  cases h : s.getLast? with
  | none => exact .inl (List.getLast?_eq_none_iff.mp h)
  | some x =>
    obtain ⟨l, e⟩ := List.getLast?_eq_some_iff.mp h
    exact .inr ⟨l, x, e⟩
theorem addDay_snoc (s : List (Nat × Nat)) (x : Nat × Nat) (d : Nat) : addDay (s ++ [x]) d = if d = x.2 + 1 then s ++ [(x.1, d)] else s ++ [x] ++ [(d, d)] := by
  unfold addDay
  rw [List.getLast?_append]
  simp
theorem stretches_len : ∀ l : List Nat, (Vbexaa.stretches l).length ≤ l.length
  | [] => Nat.le_refl _
  | d :: l => by
    have ih := stretches_len l
    rw [stretches_cons]
    cases h : Vbexaa.stretches l with
    | nil => simp [ahead]
    | cons x r =>
      rw [h] at ih
      obtain ⟨a, b⟩ := x
      have e : ahead d ((a, b) :: r) = if a = d + 1 then (d, b) :: r else (d, d) :: (a, b) :: r := rfl
      rw [e]
      split
      · simp at ih ⊢
        omega
      · simp at ih ⊢
        omega
theorem ixN_last {n : Nat} (h : 0 < n) : ixN n (-1) = some (n - 1) := by
  unfold ixN
  rw [if_neg (by decide), if_pos (by omega)]
  congr 1
  omega
theorem set_last (xs : List V) (a b v : V) : (xs ++ [a, b]).set ((xs ++ [a, b]).length - 1) v = xs ++ [a, v] := by
  have e : (xs ++ [a, b]).length - 1 = xs.length + 1 := by simp
  rw [e, List.set_append_right _ _ (by omega)]
  congr 1
  have e2 : xs.length + 1 - xs.length = 1 := by omega
  rw [e2]
  rfl
section
variable {P : Program} {w : World} {K : PySem.W.Frag} {mg : Str → Option Value} {base : Heap}
theorem ok_stretches (T : Txt K mg) : Df P w K mg base "stretches" 1 ["days"] (fun vs H Q _ => ∃ (a : Addr) (ds : List Nat), vs = [.ref a] ∧ H a = some (.lst (vN ds)) ∧ ds.length ≤ 10000 ∧
    ∀ H' q, Same H H' → H q = none → H' q = some (.lst (vN (flatS (Vbexaa.stretches ds)))) → Q (.ref q) H') := by
  have sc := sc_stretches
  refine df_of T.f_stretches sc (fun vs H Q E h => ?_) (fun f cdv A outer s H vs Q E hr h => ?_)
  · obtain ⟨a, ds, rfl, _⟩ := h
    rfl
  · obtain ⟨a, ds, rfl, ha, hl, k⟩ := h
    have big := line_big
    refine ⟨_, (pss_cons (ps_set (i := 1) sc.nd rfl (Or.inl rfl) (pe_lst pa_nil))
      (pss_cons (ps_for PassesOwn.never rfl (pi_list (pv 0)) (pg_name (i := 2) sc.nd rfl (Or.inl rfl))
        (pss_one (ps_if (PW.pt (pw_and (pt_truth (pv 1) (fun _ => rfl)) (pw_and1 (pt_cmpR op_eq (pe_ix ix_list (pv 1) (pe_un un_neg pe_int) (fun _ _ => rfl)) (pe_op op_sub (pv 2) pe_int) (nomark _)))))
          (pss_one (ps_asg (pv 2) (pg_sub (pv 1) (pe_un un_neg pe_int) set_list)))
          (pss_one (ps_expr (pe_bm PySem.F.plainAttrs_list PySem.F.slot_list_extend PySem.F.type_list_extend mt_extend (pv 1) (pa_cons (pe_lst (pa_cons (pv 2) (pa_cons (pv 2) pa_nil))) pa_nil)))))))
      (pss_one (ps_ret (pv 1))))), ?_⟩
    refine ⟨Nat.zero_le _, fun p hp => ?_⟩
    have pa : a ≠ p := ne_of_none ha hp
    refine ⟨_, rfl, a, rfl, ⟨_, SqL.of (Same.new hp _ _ ha)⟩, for_list (K := K) (a := a) (xs := vN ds) (fun i σ H' => ∃ v, σ = [some (.ref a), some (.ref p), v] ∧ Same H H' ∧ H' p = some (.lst (vN (flatS (Vbexaa.stretches (ds.take i))))))
      ⟨none, rfl, Same.new hp, upd_same⟩ (fun i σ H' _ ⟨_, _, s5, _⟩ => SqL.of (s5 _ _ ha)) ?_ ?_⟩
    · rintro i y σ H' hi ⟨v, rfl, s5, hp5⟩
      obtain ⟨d, hd, rfl⟩ := vN_of hi
      have sn := stretches_snoc (ds.take i) d
      rw [← take_one hd] at sn
      have hsl := stretches_len (ds.take i)
      rw [List.length_take] at hsl
      have hi' : i < ds.length := (List.getElem?_eq_some_iff.mp hd).1
      generalize Vbexaa.stretches (ds.take i) = r at sn hp5 hsl
      have more : addDay r d = r ++ [(d, d)] → ∀ l, H' l = none → ∃ v', [some (V.ref a), some (.ref p), some (.int (d : Int))] = [some (V.ref a), some (.ref p), v'] ∧ Same H (upd (upd H' l (.lst [.int d, .int d])) p (.lst (vN (flatS r) ++ [.int d, .int d]))) ∧ (upd (upd H' l (.lst [.int d, .int d])) p (.lst (vN (flatS r) ++ [.int d, .int d]))) p = some (.lst (vN (flatS (Vbexaa.stretches (ds.take (i + 1)))))) := fun z l hl => by
        refine ⟨_, rfl, (s5.tr_new hl).upd hp, ?_⟩
        rw [upd_same, sn, z, flatS_snoc, vN_app]
        rfl
      refine ⟨_, rfl, !(vN (flatS r)).isEmpty, .inl ⟨_, SqL.of hp5, rfl⟩, ?_⟩
      have fl := flatS_len r
      rcases snoc_cases r with e | ⟨r', x, e⟩
      · subst e
        refine iteF (iteF ⟨_, rfl, .inl ⟨rfl, _, SqL.of hp5⟩, _, rfl, _, rfl, ?_⟩)
        refine ⟨(by show 2 ≤ sizeLine; omega), fun l hl => ?_⟩
        have lp : l ≠ p := Ne.symm (ne_of_none hp5 hl)
        exact ⟨p, l, _, _, rfl, rfl, Same.new hl _ _ hp5, upd_same, by show 0 + 2 ≤ sizeLine; omega, more rfl l hl⟩
      · subst e
        have e2 : vN (flatS (r' ++ [x])) = vN (flatS r') ++ [.int x.1, .int x.2] := by rw [flatS_snoc, vN_app]; rfl
        have hne : (!(vN (flatS (r' ++ [x]))).isEmpty) = true := by rw [e2]; simp
        rw [hne]
        have hat : atI (vN (flatS (r' ++ [x]))) (-1) = some (.int x.2) := by
          refine atI_last ?_
          rw [e2]
          have e3 : (vN (flatS r') ++ [V.int x.1, V.int x.2]).length - 1 = (vN (flatS r')).length + 1 := by simp
          rw [e3, List.getElem?_append_right (by omega)]
          have e4 : (vN (flatS r')).length + 1 - (vN (flatS r')).length = 1 := by omega
          rw [e4]
          rfl
        refine iteT ⟨_, rfl, 1, rfl, p, _, _, _, rfl, rfl, SqL.of hp5, hat, _, rfl, _, _, rfl, rfl, rfl, _, rfl, ite2 (fun h => ?_) (fun h => ?_)⟩
        · have hx : d = x.2 + 1 := by
            simp at h
            omega
          refine ⟨_, rfl, _, rfl, 1, rfl, p, _, _, _, rfl, rfl, hp5, ixN_last (by rw [e2]; simp), _, rfl, s5.upd hp, ?_⟩
          rw [upd_same, sn, addDay_snoc, if_pos hx, e2, set_last, flatS_snoc, vN_app]
          rfl
        · have hx : ¬ d = x.2 + 1 := by
            simp at h
            omega
          refine ⟨_, rfl, .inl ⟨rfl, _, SqL.of hp5⟩, _, rfl, _, rfl, (by show 2 ≤ sizeLine; omega), fun l hl => ?_⟩
          exact ⟨p, l, _, _, rfl, rfl, Same.new hl _ _ hp5, upd_same, by rw [vN_len, fl]; show _ + 2 ≤ sizeLine; omega, more (by rw [addDay_snoc, if_neg hx]) l hl⟩
    · rintro σ H' ⟨v, rfl, s5, hp5⟩
      rw [vN_len, List.take_length] at hp5
      exact ⟨_, rfl, k _ _ s5 hp hp5⟩
end
end SL
end
section
namespace SL
open PySem PySem.Spec PyProof.Rows L2
def inPl (n : Nat) (c : Int) : Bool := decide (0 ≤ c) && decide (c < (n : Int))
theorem isPlace_eq (st : Vbexaa.St) (c : Int) : Vbexaa.isPlace st c = inPl (Vbexaa.placesOf st.lines).length c := by
  unfold Vbexaa.isPlace Vbexaa.within inPl
  congr 1
  exact decide_eq_decide.mpr (by omega)
theorem isDay_eq (c : Int) : Vbexaa.isDay c = (decide (0 ≤ c) && decide (c ≤ 400)) := rfl
theorem inPl_iff {n : Nat} {c : Int} : inPl n c = true ↔ 0 ≤ c ∧ c < (n : Int) := by
  unfold inPl
  simp
theorem isDay_iff {c : Int} : Vbexaa.isDay c = true ↔ 0 ≤ c ∧ c ≤ 400 := by
  rw [isDay_eq]
  simp
def DaysO (H : Hp) (v : V) : Option (List Nat) → Prop
  | none => v = .non
  | some ds => ∃ q, v = .ref q ∧ H q = some (.lst (vN ds))
section
variable {P : Program} {w : World} {K : PySem.W.Frag} {mg : Str → Option Value} {base : Heap}
theorem ok_are_days (T : Txt K mg) : Df P w K mg base "are_days" 1 ["numbers"] (fun vs H Q _ => ∃ (a : Addr) (ns : List Int), vs = [.ref a] ∧ H a = some (.lst (ns.map V.int)) ∧ ns.length ≤ 1000 ∧
    ∀ H', Same H H' → Q (.bl (ns.all Vbexaa.isDay)) H') := by
  have sc := sc_are_days
  refine df_of T.f_are_days sc (fun vs H Q E h => ?_) (fun f cdv A outer s H vs Q E hr h => ?_)
  · obtain ⟨a, ns, rfl, _⟩ := h
    rfl
  · obtain ⟨a, ns, rfl, ha, hl, k⟩ := h
    have big := line_big
    refine ⟨_, (pss_one (ps_ret (pe_callB (cr_all rfl) (by rfl) T.b_all boot_all (pa_cons (pe_lc (own := [("number", 1)]) rfl sc.nd (pi_list (pv 0)) (blk1 rfl rfl rfl) (fun _ _ _ _ _ => pg_name (i := 1) sc.nd rfl (Or.inl rfl)) (fun _ _ _ _ _ => pts_nil) (fun _ _ _ _ _ => (pe_chain op_le op_le pe_int (pv 1) (pe_gc rfl T.c_LAST_DAY)))) pa_nil)))), ?_⟩
    dsimp only [tNext, tRet, tCB, tCons]
    refine lc_map (a := a) (xs := ns.map V.int) (bF Vbexaa.isDay) (fun R h => ⟨_, rfl, h⟩) (SqL.of ha) (by rw [List.length_map]; omega) (fun j x hx H' s' R hR => ?_) (fun D H' s' hD0 hD => ?_)
    · obtain ⟨c, hc, rfl⟩ := vI_of hx
      refine ⟨_, rfl, _, _, rfl, rfl, _, rfl, ite2 (fun h => ⟨_, _, rfl, rfl, ?_⟩) (fun h => ?_)⟩
      · exact q_bl (Q := R) (by rw [isDay_eq, h]; rfl) (hR _ Same.rfl')
      · exact q_bl (Q := R) (by rw [isDay_eq, Bool.not_eq_true _ |>.mp h]; rfl) (hR _ Same.rfl')
    · refine ⟨D, ns.map Vbexaa.isDay, rfl, SqL.of ?_, ?_⟩
      · rw [hD, List.map_map, List.map_map]
        rfl
      · refine q_bl (Q := Q) ?_ (k _ s')
        rw [List.all_map]
        rfl
theorem ok_are_places (T : Txt K mg) : Df P w K mg base "are_places" 1 ["land", "numbers"] (fun vs H Q _ => ∃ (lo a : Addr) (wl : Vbexaa.Land) (ns : List Int), vs = [.ref lo, .ref a] ∧ LandAt mg H lo wl ∧ H a = some (.lst (ns.map V.int)) ∧ ns.length ≤ 1000 ∧
    ∀ H', Same H H' → Q (.bl (ns.all (inPl wl.places.length))) H') := by
  have sc := sc_are_places
  refine df_of T.f_are_places sc (fun vs H Q E h => ?_) (fun f cdv A outer s H vs Q E hr h => ?_)
  · obtain ⟨lo, a, wl, ns, rfl, _⟩ := h
    rfl
  · obtain ⟨lo, a, wl, ns, rfl, ⟨dx, l, st, ss, e1, LG, GS⟩, ha, hl, k⟩ := h
    have big := line_big
    refine ⟨_, (pss_one (ps_ret (pe_callB (cr_all rfl) (by rfl) T.b_all boot_all (pa_cons (pe_lc (own := [("number", 2)]) rfl sc.nd (pi_list (pv 1)) (blk1 rfl rfl rfl) (fun _ _ _ _ _ => pg_name (i := 2) sc.nd rfl (Or.inl rfl)) (fun _ _ _ _ _ => pts_nil) (fun _ _ _ _ _ => (pe_chain op_le op_lt pe_int (pv 2) (pe_callB (call_len_seqK (K := K) rfl) (by rfl) T.b_len PySem.boot_len (pa_cons (pe_fldK (K := K) rfl (pv 0) rfl) pa_nil))))) pa_nil)))), ?_⟩
    dsimp only [tNext, tRet, tCB, tCons]
    refine lc_map (a := a) (xs := ns.map V.int) (bF (inPl wl.places.length)) (fun R h => ⟨_, rfl, h⟩) (SqL.of ha) (by rw [List.length_map]; omega) (fun j x hx H' s' R hR => ?_) (fun D H' s' hD0 hD => ?_)
    · obtain ⟨c, hc, rfl⟩ := vI_of hx
      refine ⟨_, rfl, _, _, rfl, rfl, _, rfl, ite2 (fun h => ⟨_, rfl, lo, _, dx, _, _, rfl, s' _ _ e1, T.k_Land.cl, T.n_Land_stays, rfl, st, _, rfl, .inl (SqL.of (s' _ _ GS.top)), _, _, rfl, rfl, ?_⟩) (fun h => ?_)⟩
      · refine q_bl (Q := R) ?_ (hR _ Same.rfl')
        show decide (c < (((ss.map V.ref).length : Nat) : Int)) = inPl wl.places.length c
        unfold inPl
        rw [h, List.length_map, GS.len]
        rfl
      · exact q_bl (Q := R) (by unfold inPl; rw [Bool.not_eq_true _ |>.mp h]; rfl) (hR _ Same.rfl')
    · refine ⟨D, ns.map (inPl wl.places.length), rfl, SqL.of ?_, ?_⟩
      · rw [hD, List.map_map, List.map_map]
        rfl
      · refine q_bl (Q := Q) ?_ (k _ s')
        rw [List.all_map]
        rfl
end
end SL
end
section
namespace SL
open PySem PySem.Spec PyProof.Rows L2
theorem mem_fromPlace {x t p d : Nat} : p ∈ Vbexaa.fromPlace x t d ↔ p = x ∧ d ∈ [t] := by
  unfold Vbexaa.fromPlace
  by_cases h : d = t
  · simp [h]
  · simp [h]
def daysAsked (wl : Vbexaa.Land) (x t y : Int) : Option (List Nat) := if (inPl wl.places.length x && (inPl wl.places.length y && Vbexaa.isDay t)) = true then some (Vbexaa.daysAt (Vbexaa.reach wl (Vbexaa.fromPlace x.toNat t.toNat)) y.toNat) else none
def stretchesAns : Option (List Nat) → List Int
  | none => [-1]
  | some ds => Vbexaa.stretchRow ds
theorem stretchRow_v (ds : List Nat) : (Vbexaa.stretchRow ds).map V.int = V.int ((Vbexaa.stretches ds).length : Int) :: vN (flatS (Vbexaa.stretches ds)) := by
  unfold Vbexaa.stretchRow
  dsimp only
  rw [List.map_cons]
  congr 1
  unfold vN flatS
  rw [List.map_flatMap, List.map_flatMap]
  rfl
theorem two_size : 2 ≤ sizeLine := by have := line_big; omega
theorem daysAt_len (r : List (List Nat)) (y : Nat) : (Vbexaa.daysAt r y).length ≤ r.length := by
  unfold Vbexaa.daysAt
  have := List.length_filter_le (fun d => (r.getD d []).contains y) (List.range r.length)
  rw [List.length_range] at this
  exact this
section
variable {P : Program} {w : World} {K : PySem.W.Frag} {mg : Str → Option Value} {base : Heap}
theorem ok_days_there_asked (T : Txt K mg) : Df P w K mg base "days_there_asked" 4 ["land", "numbers"] (fun vs H Q _ => ∃ (lo nb : Addr) (wl : Vbexaa.Land) (x t y : Int), vs = [.ref lo, .ref nb] ∧ Lnd mg H lo wl ∧ H nb = some (.lst ([x, t, y].map V.int)) ∧
    ∀ H' v, Same H H' → DaysO H' v (daysAsked wl x t y) → Q v H') := by
  have sc := sc_days_there_asked
  have D_are_places := ok_are_places (P := P) (w := w) (base := base) T
  have D_are_days := ok_are_days (P := P) (w := w) (base := base) T
  have D_days_there := ok_days_there (P := P) (w := w) (base := base) T
  refine df_of T.f_days_there_asked sc (fun vs H Q E h => ?_) (fun f cdv A outer s H vs Q E hr h => ?_)
  · obtain ⟨lo, nb, wl, x, t, y, rfl, _⟩ := h
    rfl
  · obtain ⟨lo, nb, wl, x, t, y, rfl, LN, hnb, k⟩ := h
    refine ⟨_, (pss_cons (ps_set (i := 2) sc.nd rfl (Or.inl rfl) (pe_ix ix_list (pv 1) pe_int (fun _ _ => rfl)))
      (pss_cons (ps_set (i := 3) sc.nd rfl (Or.inl rfl) (pe_ix ix_list (pv 1) pe_int (fun _ _ => rfl)))
      (pss_cons (ps_set (i := 4) sc.nd rfl (Or.inl rfl) (pe_ix ix_list (pv 1) pe_int (fun _ _ => rfl)))
      (pss_cons (ps_if (PW.pt (pw_or (pt_not (pt_truth (pe_df D_are_places hr.m rfl (pa_cons (pv 0) (pa_cons (pe_lst (pa_cons (pv 2) (pa_cons (pv 4) pa_nil))) pa_nil))) (fun _ => rfl))) (pw_or1 (pt_not (pt_truth (pe_df D_are_days hr.m rfl (pa_cons (pe_lst (pa_cons (pv 3) pa_nil)) pa_nil)) (fun _ => rfl))))))
        (pss_one (ps_ret pe_non))
        pss_nil)
      (pss_one (ps_ret (pe_df D_days_there hr.m rfl (pa_cons (pv 0) (pa_cons (pv 2) (pa_cons (pe_lst (pa_cons (pv 3) pa_nil)) (pa_cons (pv 4) pa_nil))))))))))), ?_⟩
    refine ⟨_, rfl, nb, _, _, _, rfl, rfl, SqL.of hnb, at_of (j := 0) rfl rfl, ?_⟩
    refine ⟨_, rfl, nb, _, _, _, rfl, rfl, SqL.of hnb, at_of (j := 1) rfl rfl, ?_⟩
    refine ⟨_, rfl, nb, _, _, _, rfl, rfl, SqL.of hnb, at_of (j := 2) rfl rfl, ?_⟩
    have no : (inPl wl.places.length x && (inPl wl.places.length y && Vbexaa.isDay t)) = false → ∀ H', Same H H' → Q .non H' := fun z H' s' => k H' _ s' (by unfold daysAsked; rw [z]; rfl)
    refine ⟨_, rfl, _, rfl, _, rfl, two_size, fun l hl => ⟨lo, l, wl, [x, y], rfl, LN.at_.same (Same.new hl), upd_same, (by show 2 ≤ 1000; decide), fun H1 s1 => ⟨_, rfl, ite2 (fun h => iteT (no ?_ _ ((Same.new hl).trans s1))) (fun h => ?_)⟩⟩⟩
    · simp only [List.all_cons, List.all_nil, Bool.and_true] at h
      cases h1 : inPl wl.places.length x <;> cases h2 : inPl wl.places.length y <;> simp_all
    · have s01 := (Same.new (o := .lst [.int x, .int y]) hl).trans s1
      simp only [List.all_cons, List.all_nil, Bool.and_true, Bool.not_eq_true', Bool.not_eq_false, Bool.and_eq_true] at h
      refine ⟨_, rfl, one_size, fun l2 hl2 => ⟨l2, [t], rfl, upd_same, (by show 1 ≤ 1000; decide), fun H2 s2 => ⟨_, rfl, ite2 (fun h3 => no ?_ _ ((s01.tr_new hl2).trans s2)) (fun h3 => ?_)⟩⟩⟩
      · simp only [List.all_cons, List.all_nil, Bool.and_true, Bool.not_eq_true'] at h3
        rw [h3]
        simp
      · have s02 := (s01.tr_new (o := .lst [.int t]) hl2).trans s2
        simp only [List.all_cons, List.all_nil, Bool.and_true, Bool.not_eq_true', Bool.not_eq_false] at h3
        have hyes : daysAsked wl x t y = some (Vbexaa.daysAt (Vbexaa.reach wl (Vbexaa.fromPlace x.toNat t.toNat)) y.toNat) := by
          unfold daysAsked
          rw [h.1, h.2, h3]
          rfl
        rw [hyes] at k
        obtain ⟨hx1, hx2⟩ := inPl_iff.mp h.1
        obtain ⟨hy1, hy2⟩ := inPl_iff.mp h.2
        obtain ⟨ht1, ht2⟩ := isDay_iff.mp h3
        obtain ⟨xn, rfl⟩ : ∃ n : Nat, x = (n : Int) := ⟨x.toNat, by omega⟩
        obtain ⟨yn, rfl⟩ : ∃ n : Nat, y = (n : Int) := ⟨y.toNat, by omega⟩
        obtain ⟨tn, rfl⟩ : ∃ n : Nat, t = (n : Int) := ⟨t.toNat, by omega⟩
        rw [Int.toNat_natCast, Int.toNat_natCast, Int.toNat_natCast] at k
        refine ⟨_, rfl, _, rfl, _, rfl, one_size, fun l3 hl3 => ⟨_, rfl, lo, l3, wl, xn, yn, [tn], Vbexaa.fromPlace xn tn, rfl, LN.same (s02.tr_new hl3), by omega, by omega, upd_same, fun d hd => ?_, fun p d hp => ?_, fun p d _ => mem_fromPlace, fun H4 q s4 hq hq4 => k _ _ ((s02.tr_new hl3).trans s4) ⟨q, rfl, hq4⟩⟩⟩
        · have e : d = tn := by simpa using hd
          omega
        · have e := (mem_fromPlace.mp hp).1
          omega
theorem ok_stretches_answered (T : Txt K mg) : Df P w K mg base "stretches_answered" 2 ["days"] (fun vs H Q _ => ∃ (v : V) (o : Option (List Nat)), vs = [v] ∧ DaysO H v o ∧ (∀ ds, o = some ds → ds.length ≤ 10000) ∧
    ∀ H' q, Same H H' → H q = none → H' q = some (.lst ((stretchesAns o).map V.int)) → Q (.ref q) H') := by
  have sc := sc_stretches_answered
  have D_stretches := ok_stretches (P := P) (w := w) (base := base) T
  refine df_of T.f_stretches_answered sc (fun vs H Q E h => ?_) (fun f cdv A outer s H vs Q E hr h => ?_)
  · obtain ⟨v, o, rfl, _⟩ := h
    rfl
  · obtain ⟨v, o, rfl, hv, hl, k⟩ := h
    have big := line_big
    refine ⟨_, (pss_cons (ps_if (pt_cmpR op_isN (pv 0) pe_non (nomark _))
        (pss_one (ps_ret (pe_lst (pa_cons (pe_gc rfl T.c_OUT_OF_RANGE) pa_nil))))
        pss_nil)
      (pss_cons (ps_set (i := 1) sc.nd rfl (Or.inl rfl) (pe_df D_stretches hr.m rfl (pa_cons (pv 0) pa_nil)))
      (pss_one (ps_ret (pe_op op_cat (pe_lst (pa_cons (pe_op op_fdiv (pe_callB call_len_seq (by rfl) T.b_len PySem.boot_len (pa_cons (pv 1) pa_nil)) pe_int) pa_nil)) (pv 1)))))), ?_⟩
    cases o with
    | none =>
      obtain rfl : v = .non := hv
      refine ⟨_, rfl, rfl, _, rfl, iteT ⟨one_size, fun q hq => k _ q (Same.new hq) hq upd_same⟩⟩
    | some ds =>
      obtain ⟨a, rfl, ha⟩ := hv
      have hl' := hl ds rfl
      refine ⟨_, rfl, rfl, _, rfl, iteF ⟨_, rfl, a, ds, rfl, ha, hl', fun H1 p s1 hp hp1 => ?_⟩⟩
      have fl := flatS_len (Vbexaa.stretches ds)
      have sl := stretches_len ds
      refine ⟨_, rfl, p, _, rfl, .inl (SqL.of hp1), _, _, rfl, rfl, ⟨by decide, by decide⟩, one_size, fun l hl2 => ⟨_, rfl, l, p, _, _, rfl, rfl, upd_same, Same.new hl2 _ _ hp1, ?_, fun q hq => ?_⟩⟩
      · rw [vN_len, fl]
        show 1 + _ ≤ sizeLine
        omega
      · refine k _ q ((s1.tr_new hl2).tr_new hq) ((s1.tr_new hl2).free hq) ?_
        rw [upd_same]
        show some (HO.lst _) = some (HO.lst ((Vbexaa.stretchRow ds).map V.int))
        rw [stretchRow_v, vN_len, fl]
        have e : ((2 * (Vbexaa.stretches ds).length : Nat) : Int) / 2 = ((Vbexaa.stretches ds).length : Int) := by omega
        dsimp only
        rw [e]
        rfl
end
end SL
end
section
namespace SL
open PySem PySem.Spec PyProof.Rows L2
section
variable {P : Program} {w : World} {K : PySem.W.Frag} {mg : Str → Option Value} {base : Heap}
theorem told_pure {sh q : Addr} {M : List Addr} {H H' : Hp} {st : Vbexaa.St} {ans : List Int} {Q : VK} (k : Told mg sh M H (st, ans) Q) (S : Sheet (cL mg) (cS mg) H sh M st) (s : Same H H') (hq : H q = none) (h : H' q = some (.lst (ans.map V.int))) : Q (.ref q) H' := by
  have hqM : q ∉ M := fun z => S.mok.there q z hq
  refine k H' M q (S.ext (fun b hb => ?_) (same_hide2 s)) (same_hide2 s) ?_ ?_
  · cases e : H b with
    | none => exact absurd e (S.mok.there b hb)
    | some o => exact s _ _ e
  · rw [hide_out hqM]
    exact hq
  · rw [hide_out hqM]
    exact h
theorem told_one {sh q : Addr} {M : List Addr} {H H' : Hp} {st : Vbexaa.St} {ans : List Int} {Q : VK} (k : Told mg sh M H (st, ans) Q) (S : Sheet (cL mg) (cS mg) H sh M st) (s : Same H H') (hq : H' q = none) {xs : List V} (e : xs = ans.map V.int) : Q (.ref q) (upd H' q (.lst xs)) :=
  told_pure k S (s.tr_new hq) (s.free hq) (by rw [upd_same, e])
theorem sheet_lnd {H H' : Hp} {sh lo : Addr} {M : List Addr} {st : Vbexaa.St} (S : Sheet (cL mg) (cS mg) H sh M st) (h : LandAt mg H' lo (Vbexaa.landOf st.lines)) : Lnd mg H' lo (Vbexaa.landOf st.lines) := by
  obtain ⟨dx, l, e1, u1, o1, L, too⟩ := S.lines
  have hsz := too_len too
  have hct := legs_count hsz.1
  have hok := land_ok fun x hx => (L.ok x hx).1
  refine ⟨h, hok, ?_, ?_⟩
  · show (Vbexaa.placesOf st.lines).length ≤ 1000
    omega
  · show (Vbexaa.legsOf st.lines).length ≤ 1000
    omega
def gWhen (st : Vbexaa.St) (ns _row : List Int) : Vbexaa.St × List Int := Vbexaa.step st (.when_ (ns.getD 0 0) (ns.getD 1 0) (ns.getD 2 0))
def whenAns : Option (List Nat) → List Int
  | none => [-1]
  | some [] => [-9]
  | some (d :: _) => [(d : Int)]
theorem asked_of {st : Vbexaa.St} {x t y : Int} : daysAsked (Vbexaa.landOf st.lines) x t y = if (Vbexaa.isPlace st x && (Vbexaa.isDay t && Vbexaa.isPlace st y)) = true then some (Vbexaa.daysAt (Vbexaa.reach (Vbexaa.landOf st.lines) (Vbexaa.fromPlace x.toNat t.toNat)) y.toNat) else none := by
  unfold daysAsked
  rw [isPlace_eq, isPlace_eq]
  show (if (inPl (Vbexaa.placesOf st.lines).length x && (inPl (Vbexaa.placesOf st.lines).length y && Vbexaa.isDay t)) = true then _ else _) = _
  rw [Bool.and_comm (inPl (Vbexaa.placesOf st.lines).length y) (Vbexaa.isDay t)]
theorem when_eq {st : Vbexaa.St} {x t y : Int} {row : List Int} : gWhen st [x, t, y] row = (st, whenAns (daysAsked (Vbexaa.landOf st.lines) x t y)) := by
  show Vbexaa.step st (.when_ x t y) = _
  rw [asked_of]
  cases h : (Vbexaa.isPlace st x && (Vbexaa.isDay t && Vbexaa.isPlace st y)) with
  | false => exact step_no (c := .when_ x t y) h
  | true =>
    rw [step_yes (c := .when_ x t y) h, if_pos rfl]
    unfold Vbexaa.act
    dsimp only
    cases Vbexaa.daysAt (Vbexaa.reach (Vbexaa.landOf st.lines) (Vbexaa.fromPlace x.toNat t.toNat)) y.toNat <;> rfl
theorem asked_len {wl : Vbexaa.Land} {x t y : Int} : ∀ ds, daysAsked wl x t y = some ds → ds.length ≤ 10000 := fun ds h => by
  unfold daysAsked at h
  split at h
  · have e := (Option.some.inj h).symm
    subst e
    have := daysAt_len (Vbexaa.reach wl (Vbexaa.fromPlace x.toNat t.toNat)) y.toNat
    rw [reach_len] at this
    omega
  · cases h
theorem ok_call_when (T : Txt K mg) : Df P w K mg base "call_when" 8 ["sheet", "numbers", "row"] (spCall mg gWhen fun ns _ => ∃ x t y, ns = [x, t, y]) := by
  have sc := sc_call_when
  have D_land_told := ok_land_told (P := P) (w := w) (base := base) T
  have D_days_there_asked := ok_days_there_asked (P := P) (w := w) (base := base) T
  refine df_of T.f_call_when sc (fun vs H Q E h => ?_) (fun f cdv A outer s H vs Q E hr h => ?_)
  · obtain ⟨sh, nb, rw, M, st, ns, row, rfl, _⟩ := h
    rfl
  · obtain ⟨sh, nb, rw, M, st, ns, row, rfl, S, hnb, hrw, ⟨x, t, y, rfl⟩, k⟩ := h
    refine ⟨_, (pss_cons (ps_set (i := 3) sc.nd rfl (Or.inl rfl) (pe_df D_days_there_asked hr.m rfl (pa_cons (pe_df D_land_told hr.m rfl (pa_cons (pe_fld (pv 0) rfl) pa_nil)) (pa_cons (pv 1) pa_nil))))
      (pss_cons (ps_if (pt_cmpR op_isN (pv 3) pe_non (nomark _))
        (pss_one (ps_ret (pe_lst (pa_cons (pe_gc rfl T.c_OUT_OF_RANGE) pa_nil))))
        pss_nil)
      (pss_cons (ps_if (pt_not (pt_truth (pv 3) (fun _ => rfl)))
        (pss_one (ps_ret (pe_lst (pa_cons (pe_gc rfl T.c_NO_DAY) pa_nil))))
        pss_nil)
      (pss_one (ps_ret (pe_lst (pa_cons (pe_ix ix_list (pv 3) pe_int (fun _ _ => rfl)) pa_nil))))))), ?_⟩
    obtain ⟨dx, l, e1, u1, o1, L, too⟩ := S.lines
    have hsz := too_len too
    rw [when_eq] at k
    refine ⟨_, rfl, sh, _, dx, _, _, rfl, o1, T.k_Sheet.cl, T.n_Sheet_lines, rfl, l, st.lines, rfl, L.same hide_same, by omega, fun H1 lo s1 LA => ?_⟩
    have LN := sheet_lnd S LA
    refine ⟨_, rfl, lo, nb, _, x, t, y, rfl, LN, s1 _ _ (hide_same _ _ hnb), fun H2 v s2 hv => ?_⟩
    have s12 := s1.trans s2
    have hlen := asked_len (wl := Vbexaa.landOf st.lines) (x := x) (t := t) (y := y)
    generalize daysAsked (Vbexaa.landOf st.lines) x t y = o at k hv hlen
    cases o with
    | none =>
      obtain rfl : v = .non := hv
      exact ⟨_, rfl, rfl, _, rfl, iteT ⟨one_size, fun q hq => told_one k S s12 hq rfl⟩⟩
    | some ds =>
      obtain ⟨a, rfl, ha⟩ := hv
      refine ⟨_, rfl, rfl, _, rfl, iteF ⟨_, rfl, !(vN ds).isEmpty, .inl ⟨_, SqL.of ha, rfl⟩, ?_⟩⟩
      cases ds with
      | nil => exact iteT ⟨one_size, fun q hq => told_one k S s12 hq rfl⟩
      | cons d ds => exact iteF ⟨_, rfl, a, _, _, _, rfl, rfl, SqL.of ha, at_of (j := 0) rfl rfl, one_size, fun q hq => told_one k S s12 hq rfl⟩
def gDays (st : Vbexaa.St) (ns _row : List Int) : Vbexaa.St × List Int := Vbexaa.step st (.days (ns.getD 0 0) (ns.getD 1 0) (ns.getD 2 0))
theorem days_eq {st : Vbexaa.St} {x t y : Int} {row : List Int} : gDays st [x, t, y] row = (st, stretchesAns (daysAsked (Vbexaa.landOf st.lines) x t y)) := by
  show Vbexaa.step st (.days x t y) = _
  rw [asked_of]
  cases h : (Vbexaa.isPlace st x && (Vbexaa.isDay t && Vbexaa.isPlace st y)) with
  | false => exact step_no (c := .days x t y) h
  | true =>
    rw [step_yes (c := .days x t y) h, if_pos rfl]
    rfl
theorem ok_call_days (T : Txt K mg) : Df P w K mg base "call_days" 8 ["sheet", "numbers", "row"] (spCall mg gDays fun ns _ => ∃ x t y, ns = [x, t, y]) := by
  have sc := sc_call_days
  have D_land_told := ok_land_told (P := P) (w := w) (base := base) T
  have D_days_there_asked := ok_days_there_asked (P := P) (w := w) (base := base) T
  have D_stretches_answered := ok_stretches_answered (P := P) (w := w) (base := base) T
  refine df_of T.f_call_days sc (fun vs H Q E h => ?_) (fun f cdv A outer s H vs Q E hr h => ?_)
  · obtain ⟨sh, nb, rw, M, st, ns, row, rfl, _⟩ := h
    rfl
  · obtain ⟨sh, nb, rw, M, st, ns, row, rfl, S, hnb, hrw, ⟨x, t, y, rfl⟩, k⟩ := h
    refine ⟨_, (pss_one (ps_ret (pe_df D_stretches_answered hr.m rfl (pa_cons (pe_df D_days_there_asked hr.m rfl (pa_cons (pe_df D_land_told hr.m rfl (pa_cons (pe_fld (pv 0) rfl) pa_nil)) (pa_cons (pv 1) pa_nil))) pa_nil)))), ?_⟩
    obtain ⟨dx, l, e1, u1, o1, L, too⟩ := S.lines
    have hsz := too_len too
    rw [days_eq] at k
    refine ⟨_, rfl, sh, _, dx, _, _, rfl, o1, T.k_Sheet.cl, T.n_Sheet_lines, rfl, l, st.lines, rfl, L.same hide_same, by omega, fun H1 lo s1 LA => ?_⟩
    have LN := sheet_lnd S LA
    refine ⟨_, rfl, lo, nb, _, x, t, y, rfl, LN, s1 _ _ (hide_same _ _ hnb), fun H2 v s2 hv => ?_⟩
    exact ⟨v, _, rfl, hv, asked_len, fun H3 q s3 hq hq3 => told_pure k S ((s1.trans s2).trans s3) ((s1.trans s2).free hq) hq3⟩
def gStay (st : Vbexaa.St) (ns _row : List Int) : Vbexaa.St × List Int := Vbexaa.step st (.stay (ns.getD 0 0) (ns.getD 1 0))
theorem ok_call_stay (T : Txt K mg) : Df P w K mg base "call_stay" 8 ["sheet", "numbers", "row"] (spCall mg gStay fun ns _ => ∃ x d, ns = [x, d]) := by
  have sc := sc_call_stay
  have D_land_told := ok_land_told (P := P) (w := w) (base := base) T
  have D_are_places := ok_are_places (P := P) (w := w) (base := base) T
  have D_are_days := ok_are_days (P := P) (w := w) (base := base) T
  refine df_of T.f_call_stay sc (fun vs H Q E h => ?_) (fun f cdv A outer s H vs Q E hr h => ?_)
  · obtain ⟨sh, nb, rw, M, st, ns, row, rfl, _⟩ := h
    rfl
  · obtain ⟨sh, nb, rw, M, st, ns, row, rfl, S, hnb, hrw, ⟨x, d, rfl⟩, k⟩ := h
    refine ⟨_, (pss_cons (ps_set (i := 3) sc.nd rfl (Or.inl rfl) (pe_df D_land_told hr.m rfl (pa_cons (pe_fld (pv 0) rfl) pa_nil)))
      (pss_cons (ps_set (i := 4) sc.nd rfl (Or.inl rfl) (pe_ix ix_list (pv 1) pe_int (fun _ _ => rfl)))
      (pss_cons (ps_set (i := 5) sc.nd rfl (Or.inl rfl) (pe_ix ix_list (pv 1) pe_int (fun _ _ => rfl)))
      (pss_cons (ps_if (PW.pt (pw_or (pt_not (pt_truth (pe_df D_are_places hr.m rfl (pa_cons (pv 3) (pa_cons (pe_lst (pa_cons (pv 4) pa_nil)) pa_nil))) (fun _ => rfl))) (pw_or1 (pt_not (pt_truth (pe_df D_are_days hr.m rfl (pa_cons (pe_lst (pa_cons (pv 5) pa_nil)) pa_nil)) (fun _ => rfl))))))
        (pss_one (ps_ret (pe_lst (pa_cons (pe_gc rfl T.c_OUT_OF_RANGE) pa_nil))))
        pss_nil)
      (pss_cons (ps_if (pt_truth (pe_ix ix_list (pe_ix ix_list (pe_fld (pv 3) rfl) (pv 4) (fun _ _ => rfl)) (pv 5) (fun _ _ => rfl)) (fun _ => rfl))
        (pss_one (ps_ret (pe_lst (pa_cons pe_int pa_nil))))
        pss_nil)
      (pss_one (ps_ret (pe_lst (pa_cons pe_int pa_nil))))))))), ?_⟩
    obtain ⟨dx, l, e1, u1, o1, L, too⟩ := S.lines
    have hsz := too_len too
    refine ⟨_, rfl, sh, _, dx, _, _, rfl, o1, T.k_Sheet.cl, T.n_Sheet_lines, rfl, l, st.lines, rfl, L.same hide_same, by omega, fun H1 lo s1 LA => ?_⟩
    have hn1 := s1 _ _ (hide_same _ _ hnb)
    refine ⟨_, rfl, nb, _, _, _, rfl, rfl, SqL.of hn1, at_of (j := 0) rfl rfl, ?_⟩
    refine ⟨_, rfl, nb, _, _, _, rfl, rfl, SqL.of hn1, at_of (j := 1) rfl rfl, ?_⟩
    have no : (Vbexaa.isPlace st x && Vbexaa.isDay d) = false → ∀ H', Same H H' → tRet (tLst (tCons (tC (V.int (-1))) tNil)) { nx := fun _ H' => Q .non H', rt := Q } [some (.ref sh), some (.ref nb), some (.ref rw), some (.ref lo), some (.int x), some (.int d)] H' := fun z H' s' => by
      have e : gStay st [x, d] row = (st, [-1]) := step_no (c := .stay x d) z
      rw [e] at k
      exact ⟨one_size, fun q hq => told_one k S s' hq rfl⟩
    refine ⟨_, rfl, _, rfl, one_size, fun l hl => ⟨lo, l, _, [x], rfl, LA.same (Same.new hl), upd_same, (by show 1 ≤ 1000; decide), fun H2 s2 => ⟨_, rfl, ite2 (fun h => iteT (no ?_ _ (s1.trans ((Same.new hl).trans s2)))) (fun h => ?_)⟩⟩⟩
    · simp only [List.all_cons, List.all_nil, Bool.and_true, Bool.not_eq_true'] at h
      rw [isPlace_eq]
      rw [show inPl (Vbexaa.placesOf st.lines).length x = false from h]
      rfl
    · simp only [List.all_cons, List.all_nil, Bool.and_true, Bool.not_eq_true', Bool.not_eq_false] at h
      have h : inPl (Vbexaa.placesOf st.lines).length x = true := h
      have s02 := s1.trans ((Same.new (o := .lst [.int x]) hl).trans s2)
      have s12 := (Same.new (o := .lst [.int x]) hl).trans s2
      refine ⟨_, rfl, one_size, fun l2 hl2 => ⟨l2, [d], rfl, upd_same, (by show 1 ≤ 1000; decide), fun H3 s3 => ⟨_, rfl, ite2 (fun h3 => no ?_ _ ((s02.tr_new hl2).trans s3)) (fun h3 => ?_)⟩⟩⟩
      · simp only [List.all_cons, List.all_nil, Bool.and_true, Bool.not_eq_true'] at h3
        rw [h3, Bool.and_false]
      · simp only [List.all_cons, List.all_nil, Bool.and_true, Bool.not_eq_true', Bool.not_eq_false] at h3
        have s03 := (s02.tr_new (o := .lst [.int d]) hl2).trans s3
        have LA3 := LA.same ((s12.tr_new (o := .lst [.int d]) hl2).trans s3)
        obtain ⟨hx1, hx2⟩ := inPl_iff.mp h
        obtain ⟨hd1, hd2⟩ := isDay_iff.mp h3
        obtain ⟨xn, rfl⟩ : ∃ n : Nat, x = (n : Int) := ⟨x.toNat, by omega⟩
        obtain ⟨dn, rfl⟩ : ∃ n : Nat, d = (n : Int) := ⟨d.toNat, by omega⟩
        have e : gStay st [(xn : Int), (dn : Int)] row = (st, [Vbexaa.bit (Vbexaa.stays (Vbexaa.landOf st.lines) xn dn)]) := step_yes (c := .stay xn dn) (by
          show (Vbexaa.isPlace st xn && Vbexaa.isDay dn) = true
          rw [isPlace_eq, h, h3]
          rfl)
        rw [e] at k
        obtain ⟨dx3, l3, st3, ss3, f1, LG, GS⟩ := LA3
        obtain ⟨r, hr1, hr2, hr3, hr4⟩ := GS.at_ (i := xn) (by show xn < (Vbexaa.placesOf st.lines).length; omega)
        refine ⟨_, rfl, lo, _, dx3, _, _, rfl, f1, T.k_Land.cl, T.n_Land_stays, rfl, _, rfl, st3, _, _, _, rfl, rfl, SqL.of GS.top, at_of (j := xn) rfl hr3, _, rfl, r, _, _, _, rfl, rfl, SqL.of hr4, at_of (j := dn) rfl (days_get _ (by omega)), Vbexaa.stays (Vbexaa.landOf st.lines) xn dn, rfl, ite2 (fun h5 => ⟨one_size, fun q hq => ?_⟩) (fun h5 => ⟨one_size, fun q hq => ?_⟩)⟩
        · rw [h5] at k
          exact told_one k S s03 hq rfl
        · rw [Bool.not_eq_true _ |>.mp h5] at k
          exact told_one k S s03 hq rfl
def gOpen (st : Vbexaa.St) (ns _row : List Int) : Vbexaa.St × List Int := Vbexaa.step st (.openOn (ns.getD 0 0))
theorem arr_some (g : Vbexaa.Leg) (d : Nat) : (arr g d).isSome = (Vbexaa.takes g d).isSome := by
  unfold arr
  cases Vbexaa.takes g d <;> rfl
theorem ok_call_open_legs (T : Txt K mg) : Df P w K mg base "call_open_legs" 8 ["sheet", "numbers", "row"] (spCall mg gOpen fun ns _ => ∃ d, ns = [d]) := by
  have sc := sc_call_open_legs
  have D_are_days := ok_are_days (P := P) (w := w) (base := base) T
  have D_legs_told := ok_legs_told (P := P) (w := w) (base := base) T
  have D_arrival := ok_arrival (P := P) (w := w) (base := base) T
  refine df_of T.f_call_open_legs sc (fun vs H Q E h => ?_) (fun f cdv A outer s H vs Q E hr h => ?_)
  · obtain ⟨sh, nb, rw, M, st, ns, row, rfl, _⟩ := h
    rfl
  · obtain ⟨sh, nb, rw, M, st, ns, row, rfl, S, hnb, hrw, ⟨d, rfl⟩, k⟩ := h
    have big := line_big
    refine ⟨_, (pss_cons (ps_set (i := 3) sc.nd rfl (Or.inr rfl) (pe_ix ix_list (pv 1) pe_int (fun _ _ => rfl)))
      (pss_cons (ps_if (pt_not (pt_truth (pe_df D_are_days hr.m rfl (pa_cons (pe_lst (pa_cons (pv 3) pa_nil)) pa_nil)) (fun _ => rfl)))
        (pss_one (ps_ret (pe_lst (pa_cons (pe_gc rfl T.c_OUT_OF_RANGE) pa_nil))))
        pss_nil)
      (pss_cons (ps_setLcI (i := 4) (own := [("i", 5), ("leg", 6)]) rfl sc.nd rfl rfl rfl (pi_enum rfl T.b_enumerate (pa_cons (pe_df D_legs_told hr.m rfl (pa_cons (pe_fld (pv 0) rfl) pa_nil)) pa_nil)) (blk2 rfl rfl rfl rfl) (fun _ _ _ _ _ => pg_tupK (K := K) (n := 2) rfl rfl (pgs_cons (pg_name (i := 5) sc.nd rfl (Or.inl rfl)) (pgs_cons (pg_name (i := 6) sc.nd rfl (Or.inl rfl)) pgs_nil))) (fun _ _ _ _ _ => (pt_cmpR op_notN (pe_df D_arrival hr.m rfl (pa_cons (pv 6) (pa_cons (pv 3) pa_nil))) pe_non (nomark _))) (fun _ _ _ _ _ => (pv 5)))
      (pss_one (ps_ret (pe_op op_cat (pe_lst (pa_cons (pe_callB call_len_seq (by rfl) T.b_len PySem.boot_len (pa_cons (pv 4) pa_nil)) pa_nil)) (pv 4))))))), ?_⟩
    obtain ⟨dx, l, e1, u1, o1, L, too⟩ := S.lines
    have hsz := too_len too
    have hct := legs_count hsz.1
    refine ⟨_, rfl, nb, _, _, _, rfl, rfl, SqL.of (hide_same _ _ hnb), at_of (j := 0) rfl rfl, ?_⟩
    refine ⟨_, rfl, one_size, fun l2 hl2 => ⟨l2, [d], rfl, upd_same, (by show 1 ≤ 1000; decide), fun H1 s1 => ⟨_, rfl, ite2 (fun h3 => ⟨one_size, fun q hq => ?_⟩) (fun h3 => ?_)⟩⟩⟩
    · simp only [List.all_cons, List.all_nil, Bool.and_true, Bool.not_eq_true'] at h3
      have e : gOpen st [d] row = (st, [-1]) := step_no (c := .openOn d) h3
      rw [e] at k
      exact told_one k S ((Same.new hl2).trans s1) hq rfl
    · simp only [List.all_cons, List.all_nil, Bool.and_true, Bool.not_eq_true', Bool.not_eq_false] at h3
      have s01 := (Same.new (o := .lst [.int d]) hl2).trans s1
      have e : gOpen st [d] row = (st, Vbexaa.listed (Vbexaa.ints ((List.range (Vbexaa.legsOf st.lines).length).filter fun i => ((Vbexaa.legsOf st.lines)[i]?).any fun g => (Vbexaa.takes g d.toNat).isSome))) := step_yes (c := .openOn d) h3
      rw [e] at k
      obtain ⟨hd1, hd2⟩ := isDay_iff.mp h3
      obtain ⟨dn, rfl⟩ : ∃ n : Nat, d = (n : Int) := ⟨d.toNat, by omega⟩
      rw [Int.toNat_natCast] at k
      dsimp only [tNext, tSeq, tAsg]
      refine lc_src (fun J H2 => ∃ p as, J = Ite K p ∧ Same H1 H2 ∧ H2 p = some (.lst (as.map V.ref)) ∧ Paired (LegAt (cG mg) H2) as (Vbexaa.legsOf st.lines)) (fun R hR => ⟨_, rfl, sh, _, dx, _, _, rfl, s01 _ _ o1, T.k_Sheet.cl, T.n_Sheet_lines, rfl, l, st.lines, rfl, (L.same hide_same).same s01, by omega, fun H2 p s2 hp ⟨as, g1, g2⟩ => ⟨p, _, rfl, SqL.of g1, hR _ _ ⟨p, as, rfl, s2, g1, g2⟩⟩⟩) ?_
      rintro J H2 ⟨p, as, rfl, s2, g1, g2⟩
      have hal := paired_len g2
      refine lc_fm (walk_enum (K := K) (SqL.of g1)) (by rw [List.length_map, hal]; omega) (fun R h => h) (fun i => if ((Vbexaa.legsOf st.lines)[i]?).any (fun g => (Vbexaa.takes g dn).isSome) = true then some (V.int (i : Int)) else none) ?_ ?_
      · intro i z H' hi s3 hY R hR
        obtain ⟨Tt, y, rfl, hy, hT⟩ := hY
        obtain ⟨b, hb, rfl⟩ := refs_of hy
        obtain ⟨g, hg, LG⟩ := Paired.getL g2 hb
        have q := hR _ Same.rfl'
        rw [hg, Option.any_some, ← arr_some] at q
        refine ⟨Tt, _, rfl, SqT.of hT, rfl, _, _, rfl, _, _, rfl, rfl, rfl, ?_⟩
        refine ⟨_, rfl, _, rfl, b, g, dn, rfl, LG.same s3, rfl, ?_⟩
        cases ha : arr g dn with
        | none =>
          rw [ha] at q
          exact ⟨_, rfl, iteF q⟩
        | some e =>
          rw [ha] at q
          exact ⟨_, rfl, iteT ⟨_, rfl, q⟩⟩
      · intro H3 D s3 hD hD3
        rw [List.length_map, hal, fm_filter] at hD3
        have s13 := s01.trans (s2.trans s3)
        refine ⟨_, rfl, D, _, rfl, .inl (SqL.of hD3), one_size, fun l3 hl3 => ⟨_, rfl, l3, D, _, _, rfl, rfl, upd_same, Same.new hl3 _ _ hD3, ?_, fun q hq => ?_⟩⟩
        · rw [vN_len]
          have := List.length_filter_le (fun i => ((Vbexaa.legsOf st.lines)[i]?).any (fun g => (Vbexaa.takes g dn).isSome)) (List.range (Vbexaa.legsOf st.lines).length)
          rw [List.length_range] at this
          show 1 + _ ≤ sizeLine
          omega
        · refine told_one k S (s13.tr_new hl3) hq ?_
          rw [listed_v, vN_len]
          rfl
end
end SL
end
section
namespace SL
open Vbexaa
def lowStep {α : Type} (d : Nat) (c : (Nat → Nat → Nat) → α → Option (Nat × Nat)) (f : Nat → Nat → Nat) (x : α) : Nat → Nat → Nat := match c f x with
  | some v => setG f v.1 d (min (f v.1 d) v.2)
  | none => f
theorem low_fold {α : Type} (d : Nat) (c : (Nat → Nat → Nat) → α → Option (Nat × Nat)) : ∀ (l : List α) (f : Nat → Nat → Nat), (∀ x ∈ l, ∀ f f' : Nat → Nat → Nat, (∀ p e, d < e → f p e = f' p e) → c f x = c f' x) →
    (∀ p e, e ≠ d → (l.foldl (lowStep d c) f) p e = f p e) ∧ (∀ p, (l.foldl (lowStep d c) f) p d ≤ f p d) ∧ (∀ x ∈ l, ∀ p v, c f x = some (p, v) → (l.foldl (lowStep d c) f) p d ≤ v) ∧
    ∀ p, (l.foldl (lowStep d c) f) p d = f p d ∨ ∃ x ∈ l, c f x = some (p, (l.foldl (lowStep d c) f) p d)
  | [], f, _ => ⟨fun p e _ => rfl, fun p => Nat.le_refl _, fun x hx => by (cases hx), fun p => .inl rfl⟩
  | x :: l, f, hc => by
    have h1 : ∀ p e, e ≠ d → lowStep d c f x p e = f p e := fun p e he => by
      unfold lowStep
      cases h : c f x with
      | none => rfl
      | some v =>
        dsimp only
        exact setG_ne fun z => he z.2
    have h2 : ∀ p, lowStep d c f x p d ≤ f p d := fun p => by
      unfold lowStep
      cases h : c f x with
      | none => exact Nat.le_refl _
      | some v =>
        dsimp only
        by_cases z : p = v.1
        · rw [z, setG_same]
          exact Nat.min_le_left ..
        · rw [setG_ne fun y => z y.1]
          exact Nat.le_refl _
    have h3 : ∀ p v, c f x = some (p, v) → lowStep d c f x p d ≤ v := fun p v h => by
      unfold lowStep
      rw [h]
      dsimp only
      rw [setG_same]
      exact Nat.min_le_right ..
    have h4 : ∀ p, lowStep d c f x p d = f p d ∨ c f x = some (p, lowStep d c f x p d) := fun p => by
      unfold lowStep
      cases h : c f x with
      | none => exact .inl rfl
      | some v =>
        dsimp only
        by_cases z : p = v.1
        · rw [z, setG_same]
          rcases Nat.le_total (f v.1 d) v.2 with y | y
          · rw [Nat.min_eq_left y]
            exact .inl rfl
          · rw [Nat.min_eq_right y]
            exact .inr rfl
        · rw [setG_ne fun y => z y.1]
          exact .inl rfl
    obtain ⟨i1, i2, i3, i4⟩ := low_fold d c l (lowStep d c f x) fun y hy => hc y (List.mem_cons_of_mem _ hy)
    have same : ∀ y ∈ l, c (lowStep d c f x) y = c f y := fun y hy => hc y (List.mem_cons_of_mem _ hy) _ _ fun p e he => h1 p e (by omega)
    rw [List.foldl_cons]
    refine ⟨fun p e he => (i1 p e he).trans (h1 p e he), fun p => Nat.le_trans (i2 p) (h2 p), fun y hy p v hv => ?_, fun p => ?_⟩
    · rcases List.mem_cons.mp hy with z | z
      · rw [z] at hv
        exact Nat.le_trans (i2 p) (h3 p v hv)
      · exact i3 y z p v (by rw [same y z]; exact hv)
    · rcases i4 p with z | ⟨y, hy, z⟩
      · rcases h4 p with u | u
        · exact .inl (z.trans u)
        · refine .inr ⟨x, by simp, ?_⟩
          rw [z]
          exact u
      · refine .inr ⟨y, List.mem_cons_of_mem _ hy, ?_⟩
        rw [← same y hy]
        exact z
def stayC (w : Land) (d : Nat) (f : Nat → Nat → Nat) (p : Nat) : Option (Nat × Nat) := if stays w p d = true then some (p, f p (d + 1)) else none
def goC (d : Nat) (f : Nat → Nat → Nat) (g : Leg) : Option (Nat × Nat) := match arr g d with
  | some e => if e ≤ 400 then some (g.from_, f g.to_ e + 1) else none
  | none => none
def lookAhead (w : Land) (d : Nat) (f : Nat → Nat → Nat) : Nat → Nat → Nat := w.legs.foldl (lowStep d (goC d)) ((List.range w.places.length).foldl (lowStep d (stayC w d)) f)
theorem goC_some {d : Nat} {f : Nat → Nat → Nat} {g : Leg} {c : Nat × Nat} : goC d f g = some c ↔ ∃ n, takes g d = some n ∧ d + n ≤ 400 ∧ c = (g.from_, f g.to_ (d + n) + 1) := by
  unfold goC arr
  cases ht : takes g d with
  | none => simp
  | some n =>
    dsimp only [Option.map_some]
    by_cases h2 : d + n ≤ 400
    · rw [if_pos h2]
      constructor
      · intro e
        exact ⟨n, rfl, h2, (Option.some.inj e).symm⟩
      · rintro ⟨m, e1, _, e2⟩
        cases e1
        rw [e2]
    · rw [if_neg h2]
      constructor
      · intro e
        cases e
      · rintro ⟨m, e1, e3, e2⟩
        cases e1
        exact absurd e3 h2
theorem look_ok {w : Land} (ok : LandOk w) (d : Nat) (f : Nat → Nat → Nat) : (∀ p e, e ≠ d → lookAhead w d f p e = f p e) ∧ (∀ p, lookAhead w d f p d ≤ f p d) ∧ (∀ p, p < w.places.length → stays w p d = true → lookAhead w d f p d ≤ f p (d + 1)) ∧
    (∀ g ∈ w.legs, ∀ n, takes g d = some n → d + n ≤ 400 → lookAhead w d f g.from_ d ≤ f g.to_ (d + n) + 1) ∧
    ∀ p, lookAhead w d f p d = f p d ∨ (stays w p d = true ∧ lookAhead w d f p d = f p (d + 1)) ∨ ∃ g ∈ w.legs, ∃ n, takes g d = some n ∧ d + n ≤ 400 ∧ p = g.from_ ∧ lookAhead w d f p d = f g.to_ (d + n) + 1 := by
  have m1 := low_fold d (stayC w d) (List.range w.places.length) f fun x _ f f' h => by
    unfold stayC
    rw [h x (d + 1) (by omega)]
  have m2 := low_fold d (goC d) w.legs ((List.range w.places.length).foldl (lowStep d (stayC w d)) f) fun g hg f f' h => by
    unfold goC
    cases ha : arr g d with
    | none => rfl
    | some e =>
      dsimp only
      have he : d < e := by
        unfold arr at ha
        obtain ⟨n, hn, e2⟩ := Option.map_eq_some_iff.mp ha
        have := ok.tk g hg d n hn
        omega
      rw [h g.to_ e he]
  unfold lookAhead
  generalize (List.range w.places.length).foldl (lowStep d (stayC w d)) f = f1 at m1 m2
  generalize w.legs.foldl (lowStep d (goC d)) f1 = f2 at m2
  obtain ⟨a1, a2, a3, a4⟩ := m1
  obtain ⟨b1, b2, b3, b4⟩ := m2
  have up : ∀ g ∈ w.legs, ∀ n, takes g d = some n → f1 g.to_ (d + n) = f g.to_ (d + n) := fun g hg n hn => a1 _ _ (by have := ok.tk g hg d n hn; omega)
  refine ⟨fun p e he => (b1 p e he).trans (a1 p e he), fun p => Nat.le_trans (b2 p) (a2 p), fun p hp hs => Nat.le_trans (b2 p) (a3 p (List.mem_range.mpr hp) p _ (by unfold stayC; rw [if_pos hs])), fun g hg n hn h4 => ?_, fun p => ?_⟩
  · rw [← up g hg n hn]
    exact b3 g hg _ _ (goC_some.mpr ⟨n, hn, h4, rfl⟩)
  · rcases b4 p with z | ⟨g, hg, z⟩
    · rw [z]
      rcases a4 p with y | ⟨x, hx, y⟩
      · exact .inl y
      · unfold stayC at y
        split at y
        · rename_i hs
          have y' := Option.some.inj y
          have e1 : x = p := congrArg Prod.fst y'
          have e2 : f x (d + 1) = f1 p d := congrArg Prod.snd y'
          rw [e1] at hs e2
          exact .inr (.inl ⟨hs, e2.symm⟩)
        · cases y
    · obtain ⟨n, hn, h4, e⟩ := goC_some.mp z
      have e1 : p = g.from_ := congrArg Prod.fst e
      have e2 : f2 p d = f1 g.to_ (d + n) + 1 := congrArg Prod.snd e
      rw [up g hg n hn] at e2
      exact .inr (.inr ⟨g, hg, n, hn, h4, e1, e2⟩)
inductive Need (w : Land) (G : Nat → Nat → Prop) : Nat → Nat → Nat → Prop
  | here {p d : Nat} : G p d → Need w G 0 p d
  | stay {k p d : Nat} : stays w p d = true → Need w G k p (d + 1) → Need w G k p d
  | go {k d n : Nat} {g : Leg} : g ∈ w.legs → takes g d = some n → Need w G k g.to_ (d + n) → Need w G (k + 1) g.from_ d
theorem need_le {w : Land} (ok : LandOk w) {G : Nat → Nat → Prop} {B : Nat} (hG : ∀ p d, G p d → d ≤ B) {k p d : Nat} (h : Need w G k p d) : d + k ≤ B := by
  induction h with
  | here h => exact hG _ _ h
  | stay _ _ ih => omega
  | @go k d n g hg hk _ ih =>
    have := ok.tk g hg d n hk
    omega
structure TabOk (w : Land) (G : Nat → Nat → Prop) (f : Nat → Nat → Nat) (D : Nat) : Prop where
  low : ∀ p, p < w.places.length → ∀ d, D ≤ d → d ≤ 400 → ∀ k, Need w G k p d → f p d ≤ k
  is : ∀ p, p < w.places.length → ∀ d, D ≤ d → d ≤ 400 → f p d < 1000 → Need w G (f p d) p d
  zero : ∀ p, p < w.places.length → ∀ d, d < D → G p d → f p d = 0
  big : ∀ p, p < w.places.length → ∀ d, d < D → ¬ G p d → f p d = 1000
theorem tab_start {w : Land} (ok : LandOk w) {G : Nat → Nat → Prop} (hG : ∀ p d, G p d → d ≤ 400) {f : Nat → Nat → Nat} (h0 : ∀ p, p < w.places.length → ∀ d, d ≤ 400 → G p d → f p d = 0) (h1 : ∀ p, p < w.places.length → ∀ d, d ≤ 400 → ¬ G p d → f p d = 1000) : TabOk w G f 400 := by
  refine ⟨fun p hp d h2 h3 k hk => ?_, fun p hp d h2 h3 hk => ?_, fun p hp d hd h => h0 p hp d (by omega) h, fun p hp d hd h => h1 p hp d (by omega) h⟩
  · have e : d = 400 := by omega
    subst e
    cases hk with
    | here h => rw [h0 p hp 400 (by omega) h]; exact Nat.le_refl _
    | stay _ h =>
      have := need_le ok hG h
      omega
    | @go k _ n g hg ht h =>
      have := need_le ok hG h
      have := ok.tk g hg _ n ht
      omega
  · by_cases h : G p d
    · rw [h0 p hp d h3 h]
      exact .here h
    · rw [h1 p hp d h3 h] at hk
      omega
theorem tab_step {w : Land} (ok : LandOk w) {G : Nat → Nat → Prop} (hG : ∀ p d, G p d → d ≤ 400) {f : Nat → Nat → Nat} {d : Nat} (hd : d < 400) (h : TabOk w G f (d + 1)) : TabOk w G (lookAhead w d f) d := by
  obtain ⟨l1, l2, l3, l4, l5⟩ := look_ok ok d f
  refine ⟨fun p hp e h2 h3 k hk => ?_, fun p hp e h2 h3 hk => ?_, fun p hp e he hg => ?_, fun p hp e he hg => ?_⟩
  · by_cases z : e = d
    · subst z
      cases hk with
      | here hg =>
        have := l2 p
        have := h.zero p hp e (by omega) hg
        omega
      | stay hs hn => exact Nat.le_trans (l3 p hp hs) (h.low p hp (e + 1) (by omega) (by omega) k hn)
      | @go k _ n g hg ht hn =>
        have q := need_le ok hG hn
        have := ok.tk g hg _ n ht
        have := h.low g.to_ (ok.to g hg) (e + n) (by omega) (by omega) k hn
        have := l4 g hg n ht (by omega)
        omega
    · rw [l1 p e z]
      exact h.low p hp e (by omega) h3 k hk
  · by_cases z : e = d
    · subst z
      rcases l5 p with y | ⟨hs, y⟩ | ⟨g, hg, n, ht, h4, rfl, y⟩
      · rw [y] at hk ⊢
        by_cases hg : G p e
        · rw [h.zero p hp e (by omega) hg]
          exact .here hg
        · rw [h.big p hp e (by omega) hg] at hk
          omega
      · rw [y] at hk ⊢
        exact .stay hs (h.is p hp (e + 1) (by omega) (by omega) hk)
      · rw [y] at hk ⊢
        have := ok.tk g hg _ n ht
        exact .go hg ht (h.is g.to_ (ok.to g hg) (e + n) (by omega) h4 (by omega))
    · rw [l1 p e z] at hk ⊢
      exact h.is p hp e (by omega) h3 hk
  · rw [l1 p e (by omega)]
    exact h.zero p hp e (by omega) hg
  · rw [l1 p e (by omega)]
    exact h.big p hp e (by omega) hg
theorem tab_iff {w : Land} (ok : LandOk w) {G : Nat → Nat → Prop} (hG : ∀ p d, G p d → d ≤ 400) {f : Nat → Nat → Nat} (h : TabOk w G f 0) {p d : Nat} (hp : p < w.places.length) (hd : d ≤ 400) : f p d < 1000 ↔ ∃ k, Need w G k p d := by
  constructor
  · intro z
    exact ⟨_, h.is p hp d (by omega) hd z⟩
  · rintro ⟨k, hk⟩
    have := h.low p hp d (by omega) hd k hk
    have := need_le ok hG hk
    omega
theorem need_end {w : Land} {y last : Nat} {k p d : Nat} (h : Need w (fun p d => p = y ∧ d ≤ last) k p d) : CanEnd w y last p d := by
  induction h with
  | here h =>
    rw [h.1]
    exact .here h.2
  | stay hs _ ih => exact .stay hs ih
  | go hg ht _ ih => exact .go hg ht ih
theorem end_need {w : Land} {y last : Nat} {p d : Nat} (h : CanEnd w y last p d) : ∃ k, Need w (fun p d => p = y ∧ d ≤ last) k p d := by
  induction h with
  | here h => exact ⟨0, .here ⟨rfl, h⟩⟩
  | stay hs _ ih =>
    obtain ⟨k, hk⟩ := ih
    exact ⟨k, .stay hs hk⟩
  | go hg ht _ ih =>
    obtain ⟨k, hk⟩ := ih
    exact ⟨k + 1, .go hg ht hk⟩
theorem needed_days {w : Land} (ok : LandOk w) {y last : Nat} (hl : last ≤ 400) {f : Nat → Nat → Nat} (h : TabOk w (fun p d => p = y ∧ d ≤ last) f 0) {x : Nat} (hx : x < w.places.length) : safeDays w x y last = (List.range (last + 1)).filter (fun d => decide (f x d < 1000)) := by
  refine safeDays_filter ok hx _ fun d hd => ?_
  rw [decide_eq_true_eq, tab_iff ok (fun p d hg => Nat.le_trans hg.2 hl) h hx (by omega)]
  exact ⟨fun ⟨k, hk⟩ => need_end hk, end_need⟩
end SL
end
section
namespace SL
open PySem PySem.Spec PyProof.Rows L2
theorem boot_min2 : bootBuiltins "min" = some (.builtin "min") := by decide +kernel
def nG (f : Nat → Nat → Nat) : Nat → Nat → V := fun p e => .int ((f p e : Nat) : Int)
theorem setG_n (f : Nat → Nat → Nat) (i d k : Nat) : setG (nG f) i d (.int (k : Int)) = nG (setG f i d k) := by
  funext p e
  unfold setG nG
  dsimp only
  split <;> rfl
theorem minI (a b : Nat) : (if (b : Int) < (a : Int) then (b : Int) else (a : Int)) = ((min a b : Nat) : Int) := by
  split <;> omega
section
variable {P : Program} {w : World} {K : PySem.W.Frag} {mg : Str → Option Value} {base : Heap}
theorem ok_look_ahead (T : Txt K mg) : Df P w K mg base "look_ahead" 2 ["land", "needed", "day"] (fun vs H Q _ => ∃ (lo p : Addr) (rs : List Addr) (wl : Vbexaa.Land) (f : Nat → Nat → Nat) (d : Nat), vs = [.ref lo, .ref p, .int d] ∧ LandAt mg (hide rs H) lo wl ∧ GridAt H p rs wl.places.length (nG f) ∧ d < 400 ∧ LandOk wl ∧ wl.places.length ≤ 1000 ∧
    ∀ H', Same (hide rs H) (hide rs H') → GridAt H' p rs wl.places.length (nG (lookAhead wl d f)) → Q .non H') := by
  have sc := sc_look_ahead
  have D_arrival := ok_arrival (P := P) (w := w) (base := base) T
  refine df_of T.f_look_ahead sc (fun vs H Q E h => ?_) (fun f cdv A outer s H vs Q E hr h => ?_)
  · obtain ⟨lo, p, rs, wl, f, d, rfl, _⟩ := h
    rfl
  · obtain ⟨lo, p, rs, wl, f, d, rfl, ⟨dx, l, st, ss, e1, ⟨as, e2, e3⟩, GS⟩, G, hd, ok, hpl, k⟩ := h
    have big := line_big
    refine ⟨_, (pss_cons (ps_for PassesOwn.never rfl (pi_range1 rfl T.b_range (pa_cons (pe_callB call_len_seq (by rfl) T.b_len PySem.boot_len (pa_cons (pv 1) pa_nil)) pa_nil)) (pg_name (i := 3) sc.nd rfl (Or.inl rfl))
        (pss_one (ps_if (pt_truth (pe_ix ix_list (pe_ix ix_list (pe_fld (pv 0) rfl) (pv 3) (fun _ _ => rfl)) (pv 2) (fun _ _ => rfl)) (fun _ => rfl))
          (pss_one (ps_asg (pe_callB (call_min2 rfl) (by rfl) T.b_min boot_min2 (pa_cons (pe_ix ix_list (pe_ix ix_list (pv 1) (pv 3) (fun _ _ => rfl)) (pv 2) (fun _ _ => rfl)) (pa_cons (pe_ix ix_list (pe_ix ix_list (pv 1) (pv 3) (fun _ _ => rfl)) (pe_op op_add (pv 2) pe_int) (fun _ _ => rfl)) pa_nil))) (pg_sub (pe_ix ix_list (pv 1) (pv 3) (fun _ _ => rfl)) (pv 2) set_list)))
          pss_nil)))
      (pss_one (ps_for PassesOwn.never rfl (pi_list (pe_fld (pv 0) rfl)) (pg_name (i := 4) sc.nd rfl (Or.inl rfl))
        (pss_cons (ps_set (i := 5) sc.nd rfl (Or.inl rfl) (pe_df D_arrival hr.m rfl (pa_cons (pv 4) (pa_cons (pv 2) pa_nil))))
        (pss_one (ps_if (PW.pt (pw_and (pt_cmpR op_notN (pv 5) pe_non (nomark _)) (pw_and1 (pt_cmpR op_le (pv 5) (pe_gc rfl T.c_LAST_DAY) (nomark _)))))
          (pss_one (ps_asg (pe_callB (call_min2 rfl) (by rfl) T.b_min boot_min2 (pa_cons (pe_ix ix_list (pe_ix ix_list (pv 1) (pe_fld (pv 4) rfl) (fun _ _ => rfl)) (pv 2) (fun _ _ => rfl)) (pa_cons (pe_op op_add (pe_ix ix_list (pe_ix ix_list (pv 1) (pe_fld (pv 4) rfl) (fun _ _ => rfl)) (pv 5) (fun _ _ => rfl)) pe_int) pa_nil))) (pg_sub (pe_ix ix_list (pv 1) (pe_fld (pv 4) rfl) (fun _ _ => rfl)) (pv 2) set_list)))
          pss_nil)))))), ?_⟩
    have hal := paired_len e3
    refine ⟨_, rfl, p, _, rfl, .inl (SqL.of G.top), _, rfl, by omega, by rw [List.length_map, G.len]; omega, for_range (fun i σ H' => ∃ v3, σ = [some (.ref lo), some (.ref p), some (.int d), v3, none, none] ∧ Same (hide rs H) (hide rs H') ∧ GridAt H' p rs wl.places.length (nG ((List.range i).foldl (lowStep d (stayC wl d)) f)))
      ⟨none, rfl, Same.rfl', G⟩ ?_ ?_⟩
    · rintro i σ H' hi ⟨v3, rfl, s1, G1⟩
      have hi' : i < wl.places.length := by
        have := G.len
        rw [List.length_map] at hi
        omega
      obtain ⟨r, hr1, hr2, hr3, hr4⟩ := G1.at_ hi'
      have GS1 := (GS.same s1).same hide_same
      obtain ⟨q, hq1, hq2, hq3, hq4⟩ := GS1.at_ hi'
      have ei : (0 : Int) + (i : Int) = (i : Int) := by omega
      have fo := range_foldl (lowStep d (stayC wl d)) f i
      generalize hf1 : (List.range i).foldl (lowStep d (stayC wl d)) f = f1 at G1 fo hr4
      refine ⟨_, rfl, lo, _, dx, _, _, rfl, hide_same _ _ (s1 _ _ e1), T.k_Land.cl, T.n_Land_stays, rfl, _, rfl, st, _, _, _, rfl, rfl, SqL.of GS1.top, at_of (j := i) ei hq3, _, rfl, q, _, _, _, rfl, rfl, SqL.of hq4, at_of (j := d) rfl (days_get _ (by omega)), Vbexaa.stays wl i d, rfl, ite2 (fun h2 => ?_) (fun h2 => ?_)⟩
      · refine ⟨_, rfl, _, rfl, p, _, _, _, rfl, rfl, SqL.of G1.top, at_of (j := i) ei hr3, _, rfl, r, _, _, _, rfl, rfl, SqL.of hr4, at_of (j := d) rfl (days_get _ (by omega)), ?_⟩
        refine ⟨_, rfl, _, rfl, p, _, _, _, rfl, rfl, SqL.of G1.top, at_of (j := i) ei hr3, _, rfl, _, _, rfl, rfl, r, _, _, _, rfl, rfl, SqL.of hr4, at_of (j := d + 1) (by omega) (days_get _ (by omega)), ?_⟩
        refine ⟨_, _, rfl, _, rfl, _, rfl, p, _, _, _, rfl, rfl, SqL.of G1.top, at_of (j := i) ei hr3, _, rfl, r, _, _, _, rfl, rfl, hr4, ix_days (d := d) rfl (by omega), _, rfl, ?_, ?_⟩
        · rw [hide_upd hr2]
          exact s1
        · rw [minI]
          have G2 := G1.set (d := d) (v := .int ((min (f1 i d) (f1 i (d + 1)) : Nat) : Int)) hr1
          rw [setG_n] at G2
          rw [fo]
          unfold lowStep stayC
          rw [if_pos h2]
          exact G2
      · refine ⟨_, rfl, s1, ?_⟩
        rw [fo]
        unfold lowStep stayC
        rw [if_neg h2]
        exact G1
    · rintro σ H1 ⟨v3, rfl, s1, G1⟩
      have en : (((rs.map V.ref).length : Nat) : Int).toNat = wl.places.length := by rw [List.length_map, G.len, Int.toNat_natCast]
      rw [en] at G1
      have e1' := hide_same _ _ (s1 _ _ e1)
      refine ⟨_, rfl, lo, _, dx, _, _, rfl, e1', T.k_Land.cl, T.n_Land_legs, rfl, l, rfl, ⟨_, SqL.of (hide_same _ _ (s1 _ _ e2))⟩, for_list (K := K) (a := l) (xs := as.map V.ref) (fun i σ H' => ∃ v4 v5, σ = [some (.ref lo), some (.ref p), some (.int d), v3, v4, v5] ∧ Same (hide rs H) (hide rs H') ∧ GridAt H' p rs wl.places.length (nG ((wl.legs.take i).foldl (lowStep d (goC d)) ((List.range wl.places.length).foldl (lowStep d (stayC wl d)) f))))
        ⟨none, none, rfl, s1, G1⟩ (fun i σ H' _ ⟨_, _, _, s5, _⟩ => SqL.of (hide_same _ _ (s5 _ _ e2))) ?_ ?_⟩
      · rintro i y σ H' hi ⟨v4, v5, rfl, s2, G2⟩
        obtain ⟨b, hb, rfl⟩ := refs_of hi
        obtain ⟨g, hg, LG⟩ := Paired.getL e3 hb
        have hgm := List.mem_of_getElem? hg
        have LG2 := (LG.same s2).same hide_same
        obtain ⟨dg, wa, g1, _⟩ := LG2
        have LG2 := (LG.same s2).same hide_same
        have fo := take_foldl (lowStep d (goC d)) ((List.range wl.places.length).foldl (lowStep d (stayC wl d)) f) hg
        generalize hf1 : (wl.legs.take i).foldl (lowStep d (goC d)) ((List.range wl.places.length).foldl (lowStep d (stayC wl d)) f) = f1 at G2 fo
        obtain ⟨r, hr1, hr2, hr3, hr4⟩ := G2.at_ (ok.fr g hgm)
        have no : goC d f1 g = none → Same (hide rs H) (hide rs H') ∧ GridAt H' p rs wl.places.length (nG ((wl.legs.take (i + 1)).foldl (lowStep d (goC d)) ((List.range wl.places.length).foldl (lowStep d (stayC wl d)) f))) := fun z => by
          refine ⟨s2, ?_⟩
          rw [fo]
          unfold lowStep
          rw [z]
          exact G2
        refine ⟨_, rfl, _, rfl, b, g, d, rfl, LG2, ?_⟩
        cases ha : arr g d with
        | none => exact ⟨_, rfl, rfl, _, rfl, iteF (iteF ⟨_, _, rfl, no (by unfold goC; rw [ha])⟩)⟩
        | some e =>
          refine ⟨_, rfl, rfl, _, rfl, iteT ⟨_, rfl, _, _, rfl, rfl, _, rfl, ite2 (fun h2 => ?_) (fun h2 => ?_)⟩⟩
          · have h3 : e ≤ 400 := by
              rw [decide_eq_true_eq] at h2
              omega
            obtain ⟨r', hr1', hr2', hr3', hr4'⟩ := G2.at_ (ok.to g hgm)
            refine ⟨_, rfl, _, rfl, b, _, dg, _, _, rfl, g1, T.k_Leg.cl, T.n_Leg_begin, rfl, p, _, _, _, rfl, rfl, SqL.of G2.top, at_of (j := g.from_) rfl hr3, _, rfl, r, _, _, _, rfl, rfl, SqL.of hr4, at_of (j := d) rfl (days_get _ (by omega)), ?_⟩
            refine ⟨_, rfl, _, rfl, b, _, dg, _, _, rfl, g1, T.k_Leg.cl, T.n_Leg_end, rfl, p, _, _, _, rfl, rfl, SqL.of G2.top, at_of (j := g.to_) rfl hr3', _, rfl, r', _, _, _, rfl, rfl, SqL.of hr4', at_of (j := e) rfl (days_get _ h3), _, _, rfl, rfl, ?_⟩
            refine ⟨_, _, rfl, _, rfl, _, rfl, b, _, dg, _, _, rfl, g1, T.k_Leg.cl, T.n_Leg_begin, rfl, p, _, _, _, rfl, rfl, SqL.of G2.top, at_of (j := g.from_) rfl hr3, _, rfl, r, _, _, _, rfl, rfl, hr4, ix_days (d := d) rfl (by omega), _, _, rfl, ?_, ?_⟩
            · rw [hide_upd hr2]
              exact s2
            · have em : (if ((f1 g.to_ e : Nat) : Int) + 1 < ((f1 g.from_ d : Nat) : Int) then ((f1 g.to_ e : Nat) : Int) + 1 else ((f1 g.from_ d : Nat) : Int)) = ((min (f1 g.from_ d) (f1 g.to_ e + 1) : Nat) : Int) := minI (f1 g.from_ d) (f1 g.to_ e + 1)
              rw [em]
              have G3 := G2.set (d := d) (v := .int ((min (f1 g.from_ d) (f1 g.to_ e + 1) : Nat) : Int)) hr1
              rw [setG_n] at G3
              rw [fo]
              unfold lowStep goC
              rw [ha]
              dsimp only
              rw [if_pos h3]
              exact G3
          · have h3 : ¬ e ≤ 400 := by
              rw [decide_eq_true_eq] at h2
              omega
            exact ⟨_, _, rfl, no (by unfold goC; rw [ha]; simp [h3])⟩
      · rintro σ H2 ⟨v4, v5, rfl, s2, G2⟩
        rw [List.length_map, hal, List.take_length] at G2
        exact k _ s2 G2
end
end SL
end
section
namespace SL
open PySem PySem.Spec PyProof.Rows L2
section
variable {P : Program} {w : World} {K : PySem.W.Frag} {mg : Str → Option Value} {base : Heap}
theorem ok_starts_needed (T : Txt K mg) : Df P w K mg base "starts_needed" 3 ["land", "goal", "days"] (fun vs H Q _ => ∃ (lo da : Addr) (wl : Vbexaa.Land) (y : Nat) (ds : List Nat), vs = [.ref lo, .int y, .ref da] ∧ Lnd mg H lo wl ∧ y < wl.places.length ∧
    H da = some (.lst (vN ds)) ∧ (∀ d ∈ ds, d ≤ 400) ∧
    ∀ H' q rs f, Same H H' → GridAt H' q rs wl.places.length (nG f) → TabOk wl (fun p d => p = y ∧ d ∈ ds) f 0 → Q (.ref q) H') := by
  have sc := sc_starts_needed
  have D_look_ahead := ok_look_ahead (P := P) (w := w) (base := base) T
  refine df_of T.f_starts_needed sc (fun vs H Q E h => ?_) (fun f cdv A outer s H vs Q E hr h => ?_)
  · obtain ⟨lo, da, wl, y, ds, rfl, _⟩ := h
    rfl
  · obtain ⟨lo, da, wl, y, ds, rfl, ⟨LA, ok, hpl, hll⟩, hy, hda, hds, k⟩ := h
    have big := line_big
    refine ⟨_, (pss_cons (ps_setLc (i := 3) (own := [("stays", 4)]) rfl sc.nd rfl rfl rfl (pi_list (pe_fld (pv 0) rfl)) (blk1 rfl rfl rfl) (fun _ _ _ _ _ => pg_name (i := 4) sc.nd rfl (Or.inl rfl)) (fun _ _ _ _ _ => pts_nil) (fun _ _ _ _ _ => (pe_op op_rep (pe_lst (pa_cons (pe_gc rfl T.c_NO_WAY) pa_nil)) (pe_op op_add (pe_gc rfl T.c_LAST_DAY) pe_int))))
      (pss_cons (ps_for PassesOwn.never rfl (pi_list (pv 2)) (pg_name (i := 5) sc.nd rfl (Or.inl rfl))
        (pss_one (ps_asg pe_int (pg_sub (pe_ix ix_list (pv 3) (pv 1) (fun _ _ => rfl)) (pv 5) set_list))))
      (pss_cons (ps_for PassesOwn.never rfl (pi_range3 rfl T.b_range (pa_cons (pe_op op_sub (pe_gc rfl T.c_LAST_DAY) pe_int) (pa_cons (pe_un un_neg pe_int) (pa_cons (pe_un un_neg pe_int) pa_nil)))) (pg_name (i := 5) sc.nd rfl (Or.inl rfl))
        (pss_one (ps_expr (pe_df D_look_ahead hr.m rfl (pa_cons (pv 0) (pa_cons (pv 3) (pa_cons (pv 5) pa_nil)))))))
      (pss_one (ps_ret (pv 3)))))), ?_⟩
    have LA0 := LA
    obtain ⟨dx, l, st, ss, e1, LG, GS⟩ := LA
    dsimp only [gName, tSeq, tAsg]
    refine lc_rows (walk_list (K := K) (SqL.of GS.top)) (by rw [List.length_map, GS.len]; omega) (fun R h => ⟨_, rfl, lo, _, dx, _, _, rfl, e1, T.k_Land.cl, T.n_Land_stays, rfl, st, rfl, ⟨_, SqL.of GS.top⟩, h⟩) (days fun _ => .int 1000) ?_ ?_
    · intro i x H' hi s2 _ R hR
      refine ⟨rfl, one_size, fun l hl' => ⟨_, _, rfl, rfl, l, _, _, rfl, rfl, upd_same, by decide, by decide, ?_, fun r hr' => ?_⟩⟩
      · show 1 * 401 ≤ sizeLine
        omega
      · refine hR _ r ((Same.new hl').tr_new hr') ((Same.new hl').free hr') ?_
        rw [upd_same]
        exact congrArg (fun z => some (HO.lst z)) (rep_days (.int 1000))
    · intro H2 D rs s2 hD hD2 hrl hnd hrs
      rw [List.length_map, GS.len] at hrl
      have G0 : GridAt H2 D rs wl.places.length (nG fun _ _ => 1000) := grid_new hD2 hrl hnd hrs
      have hrn : ∀ r ∈ rs, H r = none := fun r hr => (hrs r hr).1
      refine ⟨_, rfl, da, rfl, ⟨_, SqL.of (s2 _ _ hda)⟩, for_list (K := K) (a := da) (xs := vN ds) (fun i σ H' => ∃ v5 f, σ = [some (.ref lo), some (.int y), some (.ref da), some (.ref D), none, v5] ∧ Same H H' ∧ GridAt H' D rs wl.places.length (nG f) ∧ (∀ p e, (p = y ∧ e ∈ ds.take i) → f p e = 0) ∧ ∀ p e, ¬ (p = y ∧ e ∈ ds.take i) → f p e = 1000)
        ⟨none, _, rfl, s2, G0, fun p e h => by simp at h, fun p e h => rfl⟩ (fun i σ H' _ ⟨_, _, _, s5, _⟩ => SqL.of (s5 _ _ hda)) ?_ ?_⟩
      · rintro i z σ H' hi ⟨v6, f1, rfl, s5, G5, hf0, hf1⟩
        obtain ⟨d, hd, rfl⟩ := vN_of hi
        have hd4 := hds d (List.mem_of_getElem? hd)
        obtain ⟨r, hr1, hr2, hr3, hr4⟩ := G5.at_ hy
        have mem : ∀ p e, (p = y ∧ e ∈ ds.take (i + 1)) ↔ (p = y ∧ e ∈ ds.take i) ∨ (p = y ∧ e = d) := fun p e => by
          rw [take_one hd, List.mem_append, List.mem_singleton]
          constructor
          · rintro ⟨a1, a2 | a2⟩
            · exact .inl ⟨a1, a2⟩
            · exact .inr ⟨a1, a2⟩
          · rintro (⟨a1, a2⟩ | ⟨a1, a2⟩)
            · exact ⟨a1, .inl a2⟩
            · exact ⟨a1, .inr a2⟩
        refine ⟨_, rfl, _, rfl, D, _, _, _, rfl, rfl, SqL.of G5.top, at_of (j := y) rfl hr3, _, rfl, r, _, _, _, rfl, rfl, hr4, ix_days (d := d) rfl hd4, _, setG f1 y d 0, rfl, s5.upd (hrn r hr2), ?_, fun p e h => ?_, fun p e h => ?_⟩
        · have G6 := G5.set (d := d) (v := .int ((0 : Nat) : Int)) hr1
          rw [setG_n] at G6
          exact G6
        · by_cases h7 : p = y ∧ e = d
          · rw [h7.1, h7.2, setG_same]
          · rw [setG_ne h7]
            exact hf0 p e (((mem p e).mp h).resolve_right h7)
        · have h7 : ¬ (p = y ∧ e = d) := fun z => h ((mem p e).mpr (.inr z))
          rw [setG_ne h7]
          exact hf1 p e fun z => h ((mem p e).mpr (.inl z))
      · rintro σ H3 ⟨v5, f1, rfl, s3, G3, hf0, hf1⟩
        rw [vN_len, List.take_length] at hf0 hf1
        have hG : ∀ p d, (p = y ∧ d ∈ ds) → d ≤ 400 := fun p d h => hds d h.2
        have T0 : TabOk wl (fun p d => p = y ∧ d ∈ ds) f1 400 := tab_start ok hG (fun p _ d _ h => hf0 p d h) (fun p _ d _ h => hf1 p d h)
        refine ⟨_, _, rfl, rfl, 1, rfl, 1, rfl, _, _, _, _, rfl, RgC.neg (by decide) (by decide) (by decide) (by decide), for_rangeC (fun i σ H' => ∃ v5 f, σ = [some (.ref lo), some (.int y), some (.ref da), some (.ref D), none, v5] ∧ Same H H' ∧ GridAt H' D rs wl.places.length (nG f) ∧ TabOk wl (fun p d => p = y ∧ d ∈ ds) f (400 - i))
          ⟨_, f1, rfl, s3, G3, T0⟩ ?_ ?_⟩
        · rintro i σ H' hi ⟨v5, f2, rfl, s4, G4, T4⟩
          have hi' : i < 400 := hi
          refine ⟨_, rfl, _, rfl, _, rfl, lo, D, rs, wl, f2, 399 - i, ?_, LA0.same (same_hide s4 hrn), G4, by omega, ok, hpl, fun H5 s5 G5 => ⟨_, _, rfl, G4.keep hrn s4 s5, G5, ?_⟩⟩
          · show [V.ref lo, V.ref D, V.int ((400 - 1 : Int) + (i : Nat) * (-1))] = [V.ref lo, V.ref D, V.int ((399 - i : Nat) : Int)]
            have e : ((400 - 1 : Int) + (i : Nat) * (-1)) = ((399 - i : Nat) : Int) := by omega
            rw [e]
          · have e : 400 - (i + 1) = 399 - i := by omega
            rw [e]
            refine tab_step ok hG (by omega) ?_
            have e2 : 399 - i + 1 = 400 - i := by omega
            rw [e2]
            exact T4
        · rintro σ H4 ⟨v5, F, rfl, s4, G4, T4⟩
          have en : 400 - ((400 - 1 : Int) - (-1)).toNat = 0 := rfl
          rw [en] at T4
          exact ⟨_, rfl, k _ _ rs F s4 G4 T4⟩
theorem ok_days_in_time (T : Txt K mg) : Df P w K mg base "days_in_time" 4 ["land", "place", "goal", "last"] (fun vs H Q _ => ∃ (lo : Addr) (wl : Vbexaa.Land) (x y last : Nat), vs = [.ref lo, .int x, .int y, .int last] ∧ Lnd mg H lo wl ∧ x < wl.places.length ∧ y < wl.places.length ∧ last ≤ 400 ∧
    ∀ H' q, Same H H' → H q = none → H' q = some (.lst (vN (Vbexaa.safeDays wl x y last))) → Q (.ref q) H') := by
  have sc := sc_days_in_time
  have D_starts_needed := ok_starts_needed (P := P) (w := w) (base := base) T
  refine df_of T.f_days_in_time sc (fun vs H Q E h => ?_) (fun f cdv A outer s H vs Q E hr h => ?_)
  · obtain ⟨lo, wl, x, y, last, rfl, _⟩ := h
    rfl
  · obtain ⟨lo, wl, x, y, last, rfl, LN, hx, hy, hl, k⟩ := h
    have big := line_big
    refine ⟨_, (pss_cons (ps_set (i := 4) sc.nd rfl (Or.inr rfl) (pe_df D_starts_needed hr.m rfl (pa_cons (pv 0) (pa_cons (pv 2) (pa_cons (pe_callTy (call_list_rng rfl) (by rfl) T.b_list PyProof.Rows.boot_list (pa_cons (pe_callTy call_rng1 (by rfl) T.b_range boot_range (pa_cons (pe_op op_add (pv 3) pe_int) pa_nil)) pa_nil)) pa_nil)))))
      (pss_one (ps_ret (pe_lcI (own := [("day", 5)]) rfl sc.nd (pi_range1 rfl T.b_range (pa_cons (pe_op op_add (pv 3) pe_int) pa_nil)) (blk1 rfl rfl rfl) (fun _ _ _ _ _ => pg_name (i := 5) sc.nd rfl (Or.inl rfl)) (fun _ _ _ _ _ => (pt_cmpR op_lt (pe_ix (ix_listK (K := K) rfl) (pe_ix (ix_listK (K := K) rfl) (pv 4) (pv 1) (fun _ _ => rfl)) (pv 5) (fun _ _ => rfl)) (pe_gc rfl T.c_NO_WAY) (nomark _))) (fun _ _ _ _ _ => (pv 5)))))), ?_⟩
    refine ⟨_, rfl, _, rfl, _, rfl, _, _, rfl, rfl, _, rfl, fun p hp => ⟨p, last + 1, rfl, by rw [upd_same]; rfl, by omega, fun l hl' => ?_⟩⟩
    have s1 := (Same.new (o := .rng 0 ((last : Int) + 1)) hp).tr_new (o := .lst (vN (List.range (last + 1)))) hl'
    refine ⟨lo, l, wl, y, List.range (last + 1), rfl, LN.same s1, hy, upd_same, fun d hd => by rw [List.mem_range] at hd; omega, fun H2 q rs F s2 G T2 => ?_⟩
    have e : (fun p d => p = y ∧ d ∈ List.range (last + 1)) = fun p d => p = y ∧ d ≤ last := by
      funext p d
      rw [List.mem_range, Nat.lt_succ_iff]
    rw [e] at T2
    have s12 := s1.trans s2
    obtain ⟨r, hr1, hr2, hr3, hr4⟩ := G.at_ hx
    have en : ((last : Int) + 1).toNat = last + 1 := by omega
    dsimp only [tNext, tSeq, tRet, gName]
    refine lc_fm (walk_range (H := H2) (lo := 0) (n := ((last : Int) + 1).toNat)) (by omega) (fun R h => ⟨_, rfl, _, _, rfl, rfl, _, rfl, by omega, by omega, h⟩) (fun d => if decide (F x d < 1000) = true then some (V.int (d : Int)) else none) ?_ ?_
    · intro i z H' hi s5 hz R hR
      obtain rfl : z = .int (0 + (i : Int)) := hz
      have ei : (0 : Int) + (i : Int) = (i : Int) := by omega
      refine ⟨rfl, _, rfl, _, rfl, q, _, _, _, rfl, rfl, SqL.of (s5 _ _ G.top), at_of (j := x) rfl hr3, _, rfl, r, _, _, _, rfl, rfl, SqL.of (s5 _ _ hr4), at_of (j := i) ei (days_get _ (by omega)), _, _, rfl, rfl, _, rfl, ite2 (fun h => ⟨_, rfl, ?_⟩) (fun h => ?_)⟩
      · have h2 : decide (F x i < 1000) = true := by
          rw [decide_eq_true_eq] at h ⊢
          omega
        have q := hR _ Same.rfl'
        rw [if_pos h2] at q
        rw [ei]
        exact q
      · have h2 : ¬ decide (F x i < 1000) = true := by
          rw [decide_eq_true_eq] at h ⊢
          omega
        have q := hR _ Same.rfl'
        rw [if_neg h2] at q
        exact q
    · intro H' q s5 hq hq2
      refine k _ q (s12.trans s5) (s12.free hq) ?_
      rw [hq2, en, fm_filter, needed_days LN.ok hl T2 hx]
def timeAsked (wl : Vbexaa.Land) (x y last : Int) : Option (List Nat) := if (inPl wl.places.length x && (inPl wl.places.length y && Vbexaa.isDay last)) = true then some (Vbexaa.safeDays wl x.toNat y.toNat last.toNat) else none
theorem ok_days_in_time_asked (T : Txt K mg) : Df P w K mg base "days_in_time_asked" 5 ["land", "numbers"] (fun vs H Q _ => ∃ (lo nb : Addr) (wl : Vbexaa.Land) (x y t : Int), vs = [.ref lo, .ref nb] ∧ Lnd mg H lo wl ∧ H nb = some (.lst ([x, y, t].map V.int)) ∧
    ∀ H' v, Same H H' → DaysO H' v (timeAsked wl x y t) → Q v H') := by
  have sc := sc_days_in_time_asked
  have D_are_places := ok_are_places (P := P) (w := w) (base := base) T
  have D_are_days := ok_are_days (P := P) (w := w) (base := base) T
  have D_days_in_time := ok_days_in_time (P := P) (w := w) (base := base) T
  refine df_of T.f_days_in_time_asked sc (fun vs H Q E h => ?_) (fun f cdv A outer s H vs Q E hr h => ?_)
  · obtain ⟨lo, nb, wl, x, y, t, rfl, _⟩ := h
    rfl
  · obtain ⟨lo, nb, wl, x, y, t, rfl, LN, hnb, k⟩ := h
    refine ⟨_, (pss_cons (ps_set (i := 2) sc.nd rfl (Or.inl rfl) (pe_ix ix_list (pv 1) pe_int (fun _ _ => rfl)))
      (pss_cons (ps_set (i := 3) sc.nd rfl (Or.inl rfl) (pe_ix ix_list (pv 1) pe_int (fun _ _ => rfl)))
      (pss_cons (ps_set (i := 4) sc.nd rfl (Or.inl rfl) (pe_ix ix_list (pv 1) pe_int (fun _ _ => rfl)))
      (pss_cons (ps_if (PW.pt (pw_or (pt_not (pt_truth (pe_df D_are_places hr.m rfl (pa_cons (pv 0) (pa_cons (pe_lst (pa_cons (pv 2) (pa_cons (pv 3) pa_nil))) pa_nil))) (fun _ => rfl))) (pw_or1 (pt_not (pt_truth (pe_df D_are_days hr.m rfl (pa_cons (pe_lst (pa_cons (pv 4) pa_nil)) pa_nil)) (fun _ => rfl))))))
        (pss_one (ps_ret pe_non))
        pss_nil)
      (pss_one (ps_ret (pe_df D_days_in_time hr.m rfl (pa_cons (pv 0) (pa_cons (pv 2) (pa_cons (pv 3) (pa_cons (pv 4) pa_nil))))))))))), ?_⟩
    refine ⟨_, rfl, nb, _, _, _, rfl, rfl, SqL.of hnb, at_of (j := 0) rfl rfl, ?_⟩
    refine ⟨_, rfl, nb, _, _, _, rfl, rfl, SqL.of hnb, at_of (j := 1) rfl rfl, ?_⟩
    refine ⟨_, rfl, nb, _, _, _, rfl, rfl, SqL.of hnb, at_of (j := 2) rfl rfl, ?_⟩
    have no : (inPl wl.places.length x && (inPl wl.places.length y && Vbexaa.isDay t)) = false → ∀ H', Same H H' → Q .non H' := fun z H' s' => k H' _ s' (by unfold timeAsked; rw [z]; rfl)
    refine ⟨_, rfl, _, rfl, _, rfl, two_size, fun l hl => ⟨lo, l, wl, [x, y], rfl, LN.at_.same (Same.new hl), upd_same, (by show 2 ≤ 1000; decide), fun H1 s1 => ⟨_, rfl, ite2 (fun h => iteT (no ?_ _ ((Same.new hl).trans s1))) (fun h => ?_)⟩⟩⟩
    · simp only [List.all_cons, List.all_nil, Bool.and_true] at h
      cases h1 : inPl wl.places.length x <;> cases h2 : inPl wl.places.length y <;> simp_all
    · have s01 := (Same.new (o := .lst [.int x, .int y]) hl).trans s1
      simp only [List.all_cons, List.all_nil, Bool.and_true, Bool.not_eq_true', Bool.not_eq_false, Bool.and_eq_true] at h
      refine ⟨_, rfl, one_size, fun l2 hl2 => ⟨l2, [t], rfl, upd_same, (by show 1 ≤ 1000; decide), fun H2 s2 => ⟨_, rfl, ite2 (fun h3 => no ?_ _ ((s01.tr_new hl2).trans s2)) (fun h3 => ?_)⟩⟩⟩
      · simp only [List.all_cons, List.all_nil, Bool.and_true, Bool.not_eq_true'] at h3
        rw [h3]
        simp
      · have s02 := (s01.tr_new (o := .lst [.int t]) hl2).trans s2
        simp only [List.all_cons, List.all_nil, Bool.and_true, Bool.not_eq_true', Bool.not_eq_false] at h3
        have hyes : timeAsked wl x y t = some (Vbexaa.safeDays wl x.toNat y.toNat t.toNat) := by
          unfold timeAsked
          rw [h.1, h.2, h3]
          rfl
        rw [hyes] at k
        obtain ⟨hx1, hx2⟩ := inPl_iff.mp h.1
        obtain ⟨hy1, hy2⟩ := inPl_iff.mp h.2
        obtain ⟨ht1, ht2⟩ := isDay_iff.mp h3
        obtain ⟨xn, rfl⟩ : ∃ n : Nat, x = (n : Int) := ⟨x.toNat, by omega⟩
        obtain ⟨yn, rfl⟩ : ∃ n : Nat, y = (n : Int) := ⟨y.toNat, by omega⟩
        obtain ⟨tn, rfl⟩ : ∃ n : Nat, t = (n : Int) := ⟨t.toNat, by omega⟩
        rw [Int.toNat_natCast, Int.toNat_natCast, Int.toNat_natCast] at k
        exact ⟨_, rfl, _, rfl, _, rfl, _, rfl, lo, wl, xn, yn, tn, rfl, LN.same s02, by omega, by omega, by omega, fun H4 q s4 hq hq4 => k _ _ (s02.trans s4) ⟨q, rfl, hq4⟩⟩
theorem time_of {st : Vbexaa.St} {x y t : Int} : timeAsked (Vbexaa.landOf st.lines) x y t = if (Vbexaa.isPlace st x && (Vbexaa.isPlace st y && Vbexaa.isDay t)) = true then some (Vbexaa.safeDays (Vbexaa.landOf st.lines) x.toNat y.toNat t.toNat) else none := by
  unfold timeAsked
  rw [isPlace_eq, isPlace_eq]
  rfl
theorem time_len {wl : Vbexaa.Land} {x y t : Int} : ∀ ds, timeAsked wl x y t = some ds → ds.length ≤ 10000 := fun ds h => by
  unfold timeAsked at h
  split at h
  · rename_i hc
    simp only [Bool.and_eq_true] at hc
    have ht := isDay_iff.mp hc.2.2
    have e := (Option.some.inj h).symm
    subst e
    unfold Vbexaa.safeDays
    dsimp only
    have := List.length_filter_le (fun d => ((Vbexaa.backTo wl y.toNat t.toNat t.toNat).getD d []).contains x.toNat) (List.range (t.toNat + 1))
    rw [List.length_range] at this
    omega
  · cases h
def gLatest (st : Vbexaa.St) (ns _row : List Int) : Vbexaa.St × List Int := Vbexaa.step st (.latest (ns.getD 0 0) (ns.getD 1 0) (ns.getD 2 0))
def lastAns : Option (List Nat) → List Int
  | none => [-1]
  | some ds => match ds.getLast? with
    | none => [-9]
    | some d => [(d : Int)]
theorem latest_eq {st : Vbexaa.St} {x y t : Int} {row : List Int} : gLatest st [x, y, t] row = (st, lastAns (timeAsked (Vbexaa.landOf st.lines) x y t)) := by
  show Vbexaa.step st (.latest x y t) = _
  rw [time_of]
  cases h : (Vbexaa.isPlace st x && (Vbexaa.isPlace st y && Vbexaa.isDay t)) with
  | false => exact step_no (c := .latest x y t) h
  | true =>
    rw [step_yes (c := .latest x y t) h, if_pos rfl]
    rfl
theorem ok_call_latest (T : Txt K mg) : Df P w K mg base "call_latest" 8 ["sheet", "numbers", "row"] (spCall mg gLatest fun ns _ => ∃ x y t, ns = [x, y, t]) := by
  have sc := sc_call_latest
  have D_land_told := ok_land_told (P := P) (w := w) (base := base) T
  have D_days_in_time_asked := ok_days_in_time_asked (P := P) (w := w) (base := base) T
  refine df_of T.f_call_latest sc (fun vs H Q E h => ?_) (fun f cdv A outer s H vs Q E hr h => ?_)
  · obtain ⟨sh, nb, rw, M, st, ns, row, rfl, _⟩ := h
    rfl
  · obtain ⟨sh, nb, rw, M, st, ns, row, rfl, S, hnb, hrw, ⟨x, y, t, rfl⟩, k⟩ := h
    refine ⟨_, (pss_cons (ps_set (i := 3) sc.nd rfl (Or.inl rfl) (pe_df D_days_in_time_asked hr.m rfl (pa_cons (pe_df D_land_told hr.m rfl (pa_cons (pe_fld (pv 0) rfl) pa_nil)) (pa_cons (pv 1) pa_nil))))
      (pss_cons (ps_if (pt_cmpR op_isN (pv 3) pe_non (nomark _))
        (pss_one (ps_ret (pe_lst (pa_cons (pe_gc rfl T.c_OUT_OF_RANGE) pa_nil))))
        pss_nil)
      (pss_cons (ps_if (pt_not (pt_truth (pv 3) (fun _ => rfl)))
        (pss_one (ps_ret (pe_lst (pa_cons (pe_gc rfl T.c_NO_DAY) pa_nil))))
        pss_nil)
      (pss_one (ps_ret (pe_lst (pa_cons (pe_ix ix_list (pv 3) (pe_un un_neg pe_int) (fun _ _ => rfl)) pa_nil))))))), ?_⟩
    obtain ⟨dx, l, e1, u1, o1, L, too⟩ := S.lines
    have hsz := too_len too
    rw [latest_eq] at k
    refine ⟨_, rfl, sh, _, dx, _, _, rfl, o1, T.k_Sheet.cl, T.n_Sheet_lines, rfl, l, st.lines, rfl, L.same hide_same, by omega, fun H1 lo s1 LA => ?_⟩
    have LN := sheet_lnd S LA
    refine ⟨_, rfl, lo, nb, _, x, y, t, rfl, LN, s1 _ _ (hide_same _ _ hnb), fun H2 v s2 hv => ?_⟩
    have s12 := s1.trans s2
    generalize timeAsked (Vbexaa.landOf st.lines) x y t = o at k hv
    cases o with
    | none =>
      obtain rfl : v = .non := hv
      exact ⟨_, rfl, rfl, _, rfl, iteT ⟨one_size, fun q hq => told_one k S s12 hq rfl⟩⟩
    | some ds =>
      obtain ⟨a, rfl, ha⟩ := hv
      refine ⟨_, rfl, rfl, _, rfl, iteF ⟨_, rfl, !(vN ds).isEmpty, .inl ⟨_, SqL.of ha, rfl⟩, ?_⟩⟩
      rcases snoc_cases ds with e | ⟨r, d, e⟩
      · subst e
        exact iteT ⟨one_size, fun q hq => told_one k S s12 hq rfl⟩
      · subst e
        have hne : (!(vN (r ++ [d])).isEmpty) = true := by rw [vN_app]; simp [vN]
        rw [hne]
        have hat : atI (vN (r ++ [d])) (-1) = some (.int d) := by
          refine atI_last ?_
          rw [vN_len]
          refine vN_get ?_
          simp
        have ka : lastAns (some (r ++ [d])) = [(d : Int)] := by
          unfold lastAns
          simp
        rw [ka] at k
        exact iteF ⟨_, rfl, 1, rfl, a, _, _, _, rfl, rfl, SqL.of ha, hat, one_size, fun q hq => told_one k S s12 hq rfl⟩
def gSafe (st : Vbexaa.St) (ns _row : List Int) : Vbexaa.St × List Int := Vbexaa.step st (.safe (ns.getD 0 0) (ns.getD 1 0) (ns.getD 2 0))
theorem safe_eq {st : Vbexaa.St} {x y t : Int} {row : List Int} : gSafe st [x, y, t] row = (st, stretchesAns (timeAsked (Vbexaa.landOf st.lines) x y t)) := by
  show Vbexaa.step st (.safe x y t) = _
  rw [time_of]
  cases h : (Vbexaa.isPlace st x && (Vbexaa.isPlace st y && Vbexaa.isDay t)) with
  | false => exact step_no (c := .safe x y t) h
  | true =>
    rw [step_yes (c := .safe x y t) h, if_pos rfl]
    rfl
theorem ok_call_safe (T : Txt K mg) : Df P w K mg base "call_safe" 8 ["sheet", "numbers", "row"] (spCall mg gSafe fun ns _ => ∃ x y t, ns = [x, y, t]) := by
  have sc := sc_call_safe
  have D_land_told := ok_land_told (P := P) (w := w) (base := base) T
  have D_days_in_time_asked := ok_days_in_time_asked (P := P) (w := w) (base := base) T
  have D_stretches_answered := ok_stretches_answered (P := P) (w := w) (base := base) T
  refine df_of T.f_call_safe sc (fun vs H Q E h => ?_) (fun f cdv A outer s H vs Q E hr h => ?_)
  · obtain ⟨sh, nb, rw, M, st, ns, row, rfl, _⟩ := h
    rfl
  · obtain ⟨sh, nb, rw, M, st, ns, row, rfl, S, hnb, hrw, ⟨x, y, t, rfl⟩, k⟩ := h
    refine ⟨_, (pss_one (ps_ret (pe_df D_stretches_answered hr.m rfl (pa_cons (pe_df D_days_in_time_asked hr.m rfl (pa_cons (pe_df D_land_told hr.m rfl (pa_cons (pe_fld (pv 0) rfl) pa_nil)) (pa_cons (pv 1) pa_nil))) pa_nil)))), ?_⟩
    obtain ⟨dx, l, e1, u1, o1, L, too⟩ := S.lines
    have hsz := too_len too
    rw [safe_eq] at k
    refine ⟨_, rfl, sh, _, dx, _, _, rfl, o1, T.k_Sheet.cl, T.n_Sheet_lines, rfl, l, st.lines, rfl, L.same hide_same, by omega, fun H1 lo s1 LA => ?_⟩
    have LN := sheet_lnd S LA
    refine ⟨_, rfl, lo, nb, _, x, y, t, rfl, LN, s1 _ _ (hide_same _ _ hnb), fun H2 v s2 hv => ?_⟩
    exact ⟨v, _, rfl, hv, time_len, fun H3 q s3 hq hq3 => told_pure k S ((s1.trans s2).trans s3) ((s1.trans s2).free hq) hq3⟩
end
end SL
end
section
namespace SL
open PySem PySem.Spec PyProof.Rows L2
def behindOne (wl : Vbexaa.Land) (y c d : Nat) : Option Nat := if (decide (d + c ≤ 400) && (List.range c).all fun k => Vbexaa.stays wl y (d + k)) = true then some (d + c) else none
def behindAll (wl : Vbexaa.Land) (y c : Nat) (ds : List Nat) : List Nat := ds.filterMap (behindOne wl y c)
theorem mem_behind {wl : Vbexaa.Land} {y c : Nat} {ds : List Nat} {d : Nat} : d ∈ behindAll wl y c ds ↔ ∃ e ∈ ds, e + c ≤ 400 ∧ ((List.range c).all fun k => Vbexaa.stays wl y (e + k)) = true ∧ d = e + c := by
  unfold behindAll behindOne
  rw [List.mem_filterMap]
  constructor
  · rintro ⟨e, he, h⟩
    split at h
    · rename_i hc
      simp only [Bool.and_eq_true, decide_eq_true_eq] at hc
      exact ⟨e, he, hc.1, hc.2, (Option.some.inj h).symm⟩
    · cases h
  · rintro ⟨e, he, h1, h2, rfl⟩
    refine ⟨e, he, ?_⟩
    rw [if_pos]
    rw [h2, decide_eq_true h1]
    rfl
theorem mem_stayed {wl : Vbexaa.Land} {y c : Nat} {ds : List Nat} {p d : Nat} (hd : d ≤ 400) : p ∈ Vbexaa.stayed wl y c ds d ↔ p = y ∧ d ∈ behindAll wl y c ds := by
  rw [mem_behind]
  unfold Vbexaa.stayed
  constructor
  · intro h
    split at h
    · rename_i hc
      simp only [Bool.and_eq_true, decide_eq_true_eq, List.contains_iff_mem] at hc
      refine ⟨by simpa using h, d - c, hc.2.1, by omega, hc.2.2, by omega⟩
    · cases h
  · rintro ⟨rfl, e, he, h1, h2, rfl⟩
    have e1 : e + c - c = e := by omega
    rw [e1, if_pos]
    · simp
    · simp only [Bool.and_eq_true, decide_eq_true_eq, List.contains_iff_mem]
      exact ⟨by omega, he, h2⟩
theorem stayed_lt {wl : Vbexaa.Land} {y c : Nat} {ds : List Nat} {p d : Nat} (h : p ∈ Vbexaa.stayed wl y c ds d) : p = y := by
  unfold Vbexaa.stayed at h
  split at h
  · simpa using h
  · cases h
theorem fm_vN (g : Nat → Option Nat) (ds : List Nat) : (List.range ds.length).filterMap (fun i => (ds[i]?.bind g).map fun (n : Nat) => V.int (n : Int)) = vN (ds.filterMap g) := by
  induction ds with
  | nil => rfl
  | cons x l ih =>
    rw [List.length_cons, List.range_succ_eq_map, List.filterMap_cons, List.filterMap_map, List.filterMap_cons]
    have e : ((fun i => ((x :: l)[i]?.bind g).map fun (n : Nat) => V.int (n : Int)) ∘ Nat.succ) = fun i => (l[i]?.bind g).map fun (n : Nat) => V.int (n : Int) := by
      funext i
      simp
    rw [e, ih]
    simp only [List.getElem?_cons_zero, Option.bind_some]
    cases g x <;> rfl
theorem find_sorted {l : List Nat} (h : l.Pairwise (· < ·)) (last : Nat) : (l.find? fun d => decide (d ≤ last)) = match l with
    | [] => none
    | a :: _ => if a ≤ last then some a else none := by
  cases l with
  | nil => rfl
  | cons a r =>
    dsimp only
    by_cases ha : a ≤ last
    · rw [if_pos ha, List.find?_cons, decide_eq_true ha]
    · rw [if_neg ha]
      refine List.find?_eq_none.mpr fun x hx => ?_
      have hr := (List.pairwise_cons.mp h).1
      rcases List.mem_cons.mp hx with z | z
      · simp
        omega
      · have := hr x z
        simp
        omega
theorem daysAt_sorted (r : List (List Nat)) (y : Nat) : (Vbexaa.daysAt r y).Pairwise (· < ·) := by
  unfold Vbexaa.daysAt
  exact List.Pairwise.filter _ List.pairwise_lt_range
section
variable {P : Program} {w : World} {K : PySem.W.Frag} {mg : Str → Option Value} {base : Heap}
theorem ok_days_behind_stay (T : Txt K mg) : Df P w K mg base "days_behind_stay" 2 ["land", "place", "days", "count"] (fun vs H Q _ => ∃ (lo da : Addr) (wl : Vbexaa.Land) (y c : Nat) (ds : List Nat), vs = [.ref lo, .int y, .ref da, .int c] ∧ LandAt mg H lo wl ∧ y < wl.places.length ∧ H da = some (.lst (vN ds)) ∧ ds.length ≤ 10000 ∧
    ∀ H' q, Same H H' → H q = none → H' q = some (.lst (vN (behindAll wl y c ds))) → Q (.ref q) H') := by
  have sc := sc_days_behind_stay
  have M_Land_can_stay := ok_can_stay (P := P) (w := w) (base := base) T
  refine df_of T.f_days_behind_stay sc (fun vs H Q E h => ?_) (fun f cdv A outer s H vs Q E hr h => ?_)
  · obtain ⟨lo, da, wl, y, c, ds, rfl, _⟩ := h
    rfl
  · obtain ⟨lo, da, wl, y, c, ds, rfl, LA, hy, hda, hl, k⟩ := h
    have big := line_big
    refine ⟨_, (pss_one (ps_ret (pe_lcI (own := [("day", 4)]) rfl sc.nd (pi_list (pv 2)) (blk1 rfl rfl rfl) (fun _ _ _ _ _ => pg_name (i := 4) sc.nd rfl (Or.inl rfl)) (fun _ _ _ _ _ => (PW.pt (pw_and (pt_cmpR op_le (pe_op op_add (pv 4) (pv 3)) (pe_gc rfl T.c_LAST_DAY) (nomark _)) (pw_and1 (pt_truthK (K := K) rfl (pe_dmK (mg := mg) rfl (pv 0) M_Land_can_stay hr.m (pa_cons (pv 1) (pa_cons (pv 4) (pa_cons (pe_op op_add (pv 4) (pv 3)) pa_nil)))) (fun _ => rfl)))))) (fun _ _ _ _ _ => (pe_op op_add (pv 4) (pv 3)))))), ?_⟩
    obtain ⟨dx, l, st, ss, e1, _⟩ := id LA
    dsimp only [tRet]
    refine lc_fm (walk_list (K := K) (SqL.of hda)) (by rw [vN_len]; omega) (fun R h => ⟨_, rfl, da, rfl, ⟨_, SqL.of hda⟩, h⟩) (fun i => (ds[i]?.bind (behindOne wl y c)).map fun (n : Nat) => V.int (n : Int)) ?_ ?_
    · intro i z H' hi s1 hz R hR
      obtain ⟨d, hd, rfl⟩ := vN_of hz
      refine ⟨rfl, _, rfl, _, rfl, _, _, rfl, rfl, _, _, rfl, rfl, _, rfl, ite2 (fun h => ?_) (fun h => ?_)⟩
      · have h4 : d + c ≤ 400 := by
          rw [decide_eq_true_eq] at h
          omega
        refine ⟨_, rfl, lo, dx, _, rfl, s1 _ _ e1, rfl, _, rfl, _, rfl, _, rfl, _, rfl, _, _, rfl, rfl, lo, wl, y, d, d + c, rfl, LA.same s1, hy, by omega, h4, fun H2 s2 => ⟨_, rfl, ?_⟩⟩
        have e : d + c - d = c := by omega
        rw [e]
        have q := hR H2 s2
        rw [hd, Option.bind_some] at q
        refine ite2 (fun h5 => ?_) (fun h5 => ?_)
        · have b : behindOne wl y c d = some (d + c) := by
            unfold behindOne
            rw [if_pos]
            rw [h5, decide_eq_true h4]
            rfl
          rw [b] at q
          exact ⟨_, rfl, _, rfl, _, _, rfl, rfl, q⟩
        · have b : behindOne wl y c d = none := by
            unfold behindOne
            rw [if_neg]
            rw [decide_eq_true h4, Bool.true_and]
            exact h5
          rw [b] at q
          exact q
      · have h4 : ¬ d + c ≤ 400 := by
          rw [decide_eq_true_eq] at h
          omega
        have q := hR H' Same.rfl'
        rw [hd, Option.bind_some] at q
        have b : behindOne wl y c d = none := by
          unfold behindOne
          rw [if_neg]
          simp [h4]
        rw [b] at q
        exact iteF q
    · intro H2 q s2 hq hq2
      rw [vN_len, fm_vN] at hq2
      exact k _ q s2 hq hq2
def gAround (st : Vbexaa.St) (ns _row : List Int) : Vbexaa.St × List Int := Vbexaa.step st (.around (ns.getD 0 0) (ns.getD 1 0) (ns.getD 2 0) (ns.getD 3 0) (ns.getD 4 0))
def backAns (last : Nat) : List Nat → List Int
  | [] => [-9]
  | d :: _ => if d ≤ last then [(d : Int)] else [-9]
theorem around_yes {st : Vbexaa.St} {x t y c last : Nat} {row : List Int} (h : Vbexaa.ranged st (.around x t y c last) = true) :
    gAround st [(x : Int), (t : Int), (y : Int), (c : Int), (last : Int)] row = (st, backAns last (Vbexaa.daysAt (Vbexaa.reach (Vbexaa.landOf st.lines) (Vbexaa.stayed (Vbexaa.landOf st.lines) y c (Vbexaa.daysAt (Vbexaa.reach (Vbexaa.landOf st.lines) (Vbexaa.fromPlace x t)) y))) x)) := by
  show Vbexaa.step st (.around x t y c last) = _
  rw [step_yes h]
  unfold Vbexaa.act
  dsimp only
  simp only [Int.toNat_natCast]
  have hs := daysAt_sorted (Vbexaa.reach (Vbexaa.landOf st.lines) (Vbexaa.stayed (Vbexaa.landOf st.lines) y c (Vbexaa.daysAt (Vbexaa.reach (Vbexaa.landOf st.lines) (Vbexaa.fromPlace x t)) y))) x
  generalize Vbexaa.daysAt (Vbexaa.reach (Vbexaa.landOf st.lines) (Vbexaa.stayed (Vbexaa.landOf st.lines) y c (Vbexaa.daysAt (Vbexaa.reach (Vbexaa.landOf st.lines) (Vbexaa.fromPlace x t)) y))) x = bk at hs
  rw [find_sorted hs]
  cases bk with
  | nil => rfl
  | cons d r =>
    unfold backAns
    dsimp only
    by_cases hd : d ≤ last
    · rw [if_pos hd, if_pos hd]
    · rw [if_neg hd, if_neg hd]
theorem ok_call_around (T : Txt K mg) : Df P w K mg base "call_around" 8 ["sheet", "numbers", "row"] (spCall mg gAround fun ns _ => ∃ x t y c last, ns = [x, t, y, c, last]) := by
  have sc := sc_call_around
  have D_land_told := ok_land_told (P := P) (w := w) (base := base) T
  have D_are_places := ok_are_places (P := P) (w := w) (base := base) T
  have D_are_days := ok_are_days (P := P) (w := w) (base := base) T
  have D_days_there := ok_days_there (P := P) (w := w) (base := base) T
  have D_days_behind_stay := ok_days_behind_stay (P := P) (w := w) (base := base) T
  refine df_of T.f_call_around sc (fun vs H Q E h => ?_) (fun f cdv A outer s H vs Q E hr h => ?_)
  · obtain ⟨sh, nb, rw, M, st, ns, row, rfl, _⟩ := h
    rfl
  · obtain ⟨sh, nb, rw, M, st, ns, row, rfl, S, hnb, hrw, ⟨x, t, y, c, last, rfl⟩, k⟩ := h
    refine ⟨_, (pss_cons (ps_set (i := 3) sc.nd rfl (Or.inl rfl) (pe_df D_land_told hr.m rfl (pa_cons (pe_fld (pv 0) rfl) pa_nil)))
      (pss_cons (ps_set (i := 4) sc.nd rfl (Or.inl rfl) (pe_ix ix_list (pv 1) pe_int (fun _ _ => rfl)))
      (pss_cons (ps_set (i := 5) sc.nd rfl (Or.inl rfl) (pe_ix ix_list (pv 1) pe_int (fun _ _ => rfl)))
      (pss_cons (ps_set (i := 6) sc.nd rfl (Or.inl rfl) (pe_ix ix_list (pv 1) pe_int (fun _ _ => rfl)))
      (pss_cons (ps_set (i := 7) sc.nd rfl (Or.inl rfl) (pe_ix ix_list (pv 1) pe_int (fun _ _ => rfl)))
      (pss_cons (ps_set (i := 8) sc.nd rfl (Or.inl rfl) (pe_ix ix_list (pv 1) pe_int (fun _ _ => rfl)))
      (pss_cons (ps_if (PW.pt (pw_or (pt_not (pt_truth (pe_df D_are_places hr.m rfl (pa_cons (pv 3) (pa_cons (pe_lst (pa_cons (pv 4) (pa_cons (pv 6) pa_nil))) pa_nil))) (fun _ => rfl))) (pw_or (pt_not (pt_truth (pe_df D_are_days hr.m rfl (pa_cons (pe_lst (pa_cons (pv 5) (pa_cons (pv 8) pa_nil))) pa_nil)) (fun _ => rfl))) (pw_or (pt_cmpR op_lt (pv 7) pe_int (nomark _)) (pw_or1 (pt_cmpR op_gt (pv 7) (pe_gc rfl T.c_MOST_STAY) (nomark _)))))))
        (pss_one (ps_ret (pe_lst (pa_cons (pe_gc rfl T.c_OUT_OF_RANGE) pa_nil))))
        pss_nil)
      (pss_cons (ps_set (i := 9) sc.nd rfl (Or.inl rfl) (pe_df D_days_behind_stay hr.m rfl (pa_cons (pv 3) (pa_cons (pv 6) (pa_cons (pe_df D_days_there hr.m rfl (pa_cons (pv 3) (pa_cons (pv 4) (pa_cons (pe_lst (pa_cons (pv 5) pa_nil)) (pa_cons (pv 6) pa_nil))))) (pa_cons (pv 7) pa_nil))))))
      (pss_cons (ps_set (i := 10) sc.nd rfl (Or.inl rfl) (pe_df D_days_there hr.m rfl (pa_cons (pv 3) (pa_cons (pv 6) (pa_cons (pv 9) (pa_cons (pv 4) pa_nil))))))
      (pss_cons (ps_if (PW.pt (pw_or (pt_not (pt_truth (pv 10) (fun _ => rfl))) (pw_or1 (pt_cmpR op_gt (pe_ix ix_list (pv 10) pe_int (fun _ _ => rfl)) (pv 8) (nomark _)))))
        (pss_one (ps_ret (pe_lst (pa_cons (pe_gc rfl T.c_NO_DAY) pa_nil))))
        pss_nil)
      (pss_one (ps_ret (pe_lst (pa_cons (pe_ix ix_list (pv 10) pe_int (fun _ _ => rfl)) pa_nil)))))))))))))), ?_⟩
    obtain ⟨dx, l, e1, u1, o1, L, too⟩ := S.lines
    have hsz := too_len too
    refine ⟨_, rfl, sh, _, dx, _, _, rfl, o1, T.k_Sheet.cl, T.n_Sheet_lines, rfl, l, st.lines, rfl, L.same hide_same, by omega, fun H1 lo s1 LA => ?_⟩
    have LN := sheet_lnd S LA
    have hn1 := s1 _ _ (hide_same _ _ hnb)
    refine ⟨_, rfl, nb, _, _, _, rfl, rfl, SqL.of hn1, at_of (j := 0) rfl rfl, ?_⟩
    refine ⟨_, rfl, nb, _, _, _, rfl, rfl, SqL.of hn1, at_of (j := 1) rfl rfl, ?_⟩
    refine ⟨_, rfl, nb, _, _, _, rfl, rfl, SqL.of hn1, at_of (j := 2) rfl rfl, ?_⟩
    refine ⟨_, rfl, nb, _, _, _, rfl, rfl, SqL.of hn1, at_of (j := 3) rfl rfl, ?_⟩
    refine ⟨_, rfl, nb, _, _, _, rfl, rfl, SqL.of hn1, at_of (j := 4) rfl rfl, ?_⟩
    have no : (Vbexaa.isPlace st x && (Vbexaa.isDay t && (Vbexaa.isPlace st y && (Vbexaa.within c 0 100 && Vbexaa.isDay last)))) = false → ∀ H', Same H H' → tRet (tLst (tCons (tC (V.int (-1))) tNil)) { nx := fun _ H' => Q .non H', rt := Q } [some (.ref sh), some (.ref nb), some (.ref rw), some (.ref lo), some (.int x), some (.int t), some (.int y), some (.int c), some (.int last), none, none] H' := fun z H' s' => by
      have e : gAround st [x, t, y, c, last] row = (st, [-1]) := step_no (c := .around x t y c last) z
      rw [e] at k
      exact ⟨one_size, fun q hq => told_one k S s' hq rfl⟩
    refine ⟨_, rfl, _, rfl, _, rfl, two_size, fun l hl => ⟨lo, l, _, [x, y], rfl, LA.same (Same.new hl), upd_same, (by show 2 ≤ 1000; decide), fun H2 s2 => ⟨_, rfl, ite2 (fun h => iteT (no ?_ _ (s1.trans ((Same.new hl).trans s2)))) (fun h => ?_)⟩⟩⟩
    · have h' : (!([x, y].all (inPl (Vbexaa.placesOf st.lines).length))) = true := h
      simp only [List.all_cons, List.all_nil, Bool.and_true] at h'
      rw [isPlace_eq, isPlace_eq]
      cases h1 : inPl (Vbexaa.placesOf st.lines).length x <;> cases h2 : inPl (Vbexaa.placesOf st.lines).length y <;> simp_all
    · have h' : ¬ (!([x, y].all (inPl (Vbexaa.placesOf st.lines).length))) = true := h
      simp only [List.all_cons, List.all_nil, Bool.and_true, Bool.not_eq_true', Bool.not_eq_false, Bool.and_eq_true] at h'
      have s12 := (Same.new (o := .lst [.int x, .int y]) hl).trans s2
      have s02 := s1.trans s12
      refine ⟨_, rfl, _, rfl, two_size, fun l2 hl2 => ⟨l2, [t, last], rfl, upd_same, (by show 2 ≤ 1000; decide), fun H3 s3 => ⟨_, rfl, ite2 (fun h3 => iteT (no ?_ _ ((s02.tr_new hl2).trans s3))) (fun h3 => ?_)⟩⟩⟩
      · simp only [List.all_cons, List.all_nil, Bool.and_true] at h3
        cases h1 : Vbexaa.isDay t <;> cases h2 : Vbexaa.isDay last <;> simp_all
      · simp only [List.all_cons, List.all_nil, Bool.and_true, Bool.not_eq_true', Bool.not_eq_false, Bool.and_eq_true] at h3
        have s13 := (s12.tr_new (o := .lst [.int t, .int last]) hl2).trans s3
        have s03 := s1.trans s13
        have w_no : (0 ≤ c ∧ c ≤ 100) ∨ Vbexaa.within c 0 100 = false := by
          unfold Vbexaa.within
          by_cases z : 0 ≤ c ∧ c ≤ 100
          · exact .inl z
          · right
            rw [Bool.eq_false_iff]
            intro y
            simp only [Bool.and_eq_true, decide_eq_true_eq] at y
            exact z y
        refine ⟨_, rfl, _, _, rfl, rfl, _, rfl, ite2 (fun h4 => iteT (no ?_ _ s03)) (fun h4 => ⟨_, rfl, _, _, rfl, rfl, _, rfl, ite2 (fun h5 => no ?_ _ s03) (fun h5 => ?_)⟩)⟩
        · rw [decide_eq_true_eq] at h4
          rw [w_no.resolve_left (by omega)]
          simp
        · rw [decide_eq_true_eq] at h5
          rw [w_no.resolve_left (by omega)]
          simp
        · rw [decide_eq_true_eq] at h4 h5
          obtain ⟨hx1, hx2⟩ := inPl_iff.mp h'.1
          obtain ⟨hy1, hy2⟩ := inPl_iff.mp h'.2
          obtain ⟨ht1, ht2⟩ := isDay_iff.mp h3.1
          obtain ⟨hl1, hl2'⟩ := isDay_iff.mp h3.2
          obtain ⟨xn, rfl⟩ : ∃ n : Nat, x = (n : Int) := ⟨x.toNat, by omega⟩
          obtain ⟨yn, rfl⟩ : ∃ n : Nat, y = (n : Int) := ⟨y.toNat, by omega⟩
          obtain ⟨tn, rfl⟩ : ∃ n : Nat, t = (n : Int) := ⟨t.toNat, by omega⟩
          obtain ⟨cn, rfl⟩ : ∃ n : Nat, c = (n : Int) := ⟨c.toNat, by omega⟩
          obtain ⟨ln, rfl⟩ : ∃ n : Nat, last = (n : Int) := ⟨last.toNat, by omega⟩
          rw [around_yes (by
            show (Vbexaa.isPlace st xn && (Vbexaa.isDay tn && (Vbexaa.isPlace st yn && (Vbexaa.within cn 0 100 && Vbexaa.isDay ln)))) = true
            have hw : Vbexaa.within (cn : Int) 0 100 = true := by
              unfold Vbexaa.within
              rw [decide_eq_true (show (0 : Int) ≤ cn by omega), decide_eq_true (show (cn : Int) ≤ 100 by omega)]
              rfl
            rw [isPlace_eq, isPlace_eq, h'.1, h'.2, h3.1, h3.2, hw]
            rfl)] at k
          have hpx : xn < (Vbexaa.landOf st.lines).places.length := by show xn < (Vbexaa.placesOf st.lines).length; omega
          have hpy : yn < (Vbexaa.landOf st.lines).places.length := by show yn < (Vbexaa.placesOf st.lines).length; omega
          refine ⟨_, rfl, _, rfl, _, rfl, _, rfl, _, rfl, one_size, fun l3 hl3 => ⟨_, rfl, lo, l3, _, xn, yn, [tn], Vbexaa.fromPlace xn tn, rfl, LN.same (s13.tr_new hl3), hpx, hpy, upd_same, fun d hd => ?_, fun p d hp => ?_, fun p d _ => mem_fromPlace, fun H4 q s4 hq hq4 => ?_⟩⟩
          · have e : d = tn := by simpa using hd
            omega
          · rw [(mem_fromPlace.mp hp).1]
            exact hpx
          · have s14 := (s13.tr_new (o := .lst [.int (tn : Int)]) hl3).trans s4
            have hdl := daysAt_len (Vbexaa.reach (Vbexaa.landOf st.lines) (Vbexaa.fromPlace xn tn)) yn
            rw [reach_len] at hdl
            generalize Vbexaa.daysAt (Vbexaa.reach (Vbexaa.landOf st.lines) (Vbexaa.fromPlace xn tn)) yn = there at k hq4 hdl
            refine ⟨_, rfl, lo, q, _, yn, cn, there, rfl, LA.same s14, hpy, hq4, by omega, fun H5 q5 s5 hq5 hq5' => ?_⟩
            have s15 := s14.trans s5
            refine ⟨_, rfl, _, rfl, _, rfl, _, rfl, lo, q5, _, yn, xn, behindAll (Vbexaa.landOf st.lines) yn cn there, Vbexaa.stayed (Vbexaa.landOf st.lines) yn cn there, rfl, LN.same s15, hpy, hpx, hq5', fun d hd => ?_, fun p d hp => ?_, fun p d hd => mem_stayed hd, fun H6 q6 s6 hq6 hq6' => ?_⟩
            · obtain ⟨e, _, h1, _, rfl⟩ := mem_behind.mp hd
              exact h1
            · rw [stayed_lt hp]
              exact hpy
            · have s06 := s1.trans (s15.trans s6)
              generalize Vbexaa.daysAt (Vbexaa.reach (Vbexaa.landOf st.lines) (Vbexaa.stayed (Vbexaa.landOf st.lines) yn cn there)) xn = bk at k hq6'
              refine ⟨_, rfl, !(vN bk).isEmpty, .inl ⟨_, SqL.of hq6', rfl⟩, ?_⟩
              cases bk with
              | nil => exact iteT (iteT ⟨one_size, fun q hq => told_one k S s06 hq rfl⟩)
              | cons d r =>
                refine iteF ⟨_, rfl, q6, _, _, _, rfl, rfl, SqL.of hq6', at_of (j := 0) rfl rfl, _, rfl, _, _, rfl, rfl, _, rfl, ite2 (fun h8 => ⟨one_size, fun q hq => ?_⟩) (fun h8 => ⟨_, rfl, q6, _, _, _, rfl, rfl, SqL.of hq6', at_of (j := 0) rfl rfl, one_size, fun q hq => ?_⟩)⟩
                · rw [decide_eq_true_eq] at h8
                  have e : backAns ln (d :: r) = [-9] := if_neg (by omega)
                  rw [e] at k
                  exact told_one k S s06 hq rfl
                · rw [decide_eq_true_eq] at h8
                  have e : backAns ln (d :: r) = [(d : Int)] := if_pos (by omega)
                  rw [e] at k
                  exact told_one k S s06 hq rfl
end
end SL
end
section
namespace SL
open PySem PySem.Spec PyProof.Rows L2
theorem small_two {b : Int} {m : Nat} (hb : 0 ≤ b) (hb' : b < 2 ^ 62) (hs : Builtin.Range.rangeSize 0 b 2 = (m : Int)) (hm : m ≤ 1000000) : Builtin.Range.small 0 b 2 = true := by
  have h1 : (2 : Int) > 0 := by decide
  have fit : ∀ i : Int, 0 ≤ i → i < 2 ^ 63 → Builtin.Range.rangeFitsLong i = true := fun i a c => by
    unfold Builtin.Range.rangeFitsLong
    rw [decide_eq_true (show -(2 ^ 63) ≤ i by omega), decide_eq_true c]
    rfl
  unfold Builtin.Range.small
  rw [hs, if_pos h1, fit 0 (by omega) (by omega), fit b hb (by omega), fit 2 (by omega) (by omega), fit (m : Int) (by omega) (by omega), fit (b + (2 - 1)) (by omega) (by omega)]
  simp
theorem rg_two {m : Nat} (h : m ≤ 1000000) : RgC 0 ((2 * m : Nat) : Int) 2 m := by
  have hs : Builtin.Range.rangeSize 0 ((2 * m : Nat) : Int) 2 = (m : Int) := by
    unfold Builtin.Range.rangeSize
    rw [if_pos (by decide)]
    split <;> omega
  exact ⟨by decide, by decide, small_two (by omega) (by omega) hs h, hs⟩
def behindStart (wl : Vbexaa.Land) (p d s n : Nat) : Option Nat := match wl.legs[n]? with
  | none => none
  | some g => if (g.from_ == p && (decide (d ≤ s) && (List.range (s - d)).all fun k => Vbexaa.stays wl p (d + k))) = true then arr g s else none
theorem follow_cons (wl : Vbexaa.Land) (i p d : Nat) (s : Nat × Nat) (l : List (Nat × Nat)) : Vbexaa.follow wl i p d (s :: l) = match wl.legs[s.2]?, behindStart wl p d s.1 s.2 with
    | some g, some e => Vbexaa.follow wl (i + 1) g.to_ e l
    | _, _ => .error i := by
  rw [Vbexaa.follow]
  unfold behindStart
  cases hg : wl.legs[s.2]? with
  | none => rfl
  | some g =>
    dsimp only
    by_cases h : (g.from_ == p && (decide (d ≤ s.1) && (List.range (s.1 - d)).all fun k => Vbexaa.stays wl p (d + k))) = true
    · rw [if_pos h, if_pos h]
      unfold arr
      cases ht : Vbexaa.takes g s.1 <;> rfl
    · rw [if_neg h, if_neg h]
theorem pairs_len : ∀ (m : Nat) (l : List Int), l.length = 2 * m → (Vbexaa.pairsIn l).length = m
  | 0, [], _ => rfl
  | m + 1, a :: b :: l, h => by
    rw [Vbexaa.pairsIn, List.length_cons, pairs_len m l (by simp at h; omega)]
  | m + 1, [_], h => by simp at h; omega
  | m + 1, [], h => by simp at h
  | 0, a :: l, h => by simp at h
theorem pairs_get : ∀ (i : Nat) (l : List Int) (a b : Int), l[2 * i]? = some a → l[2 * i + 1]? = some b → (Vbexaa.pairsIn l)[i]? = some (a.toNat, b.toNat)
  | 0, x :: y :: l, a, b, h1, h2 => by
    simp at h1 h2
    subst h1 h2
    rfl
  | 0, [x], a, b, h1, h2 => by simp at h2
  | _, [], a, b, h1, h2 => by simp at h2
  | i + 1, x :: y :: l, a, b, h1, h2 => by
    rw [Vbexaa.pairsIn, List.getElem?_cons_succ]
    refine pairs_get i l a b ?_ ?_
    · have e : 2 * (i + 1) = 2 * i + 1 + 1 := by omega
      rw [e] at h1
      simpa using h1
    · have e : 2 * (i + 1) + 1 = 2 * i + 1 + 1 + 1 := by omega
      rw [e] at h2
      simpa using h2
  | i + 1, [x], a, b, h1, h2 => by
    have e : 2 * (i + 1) = 2 * i + 1 + 1 := by omega
    rw [e] at h1
    simp at h1
section
variable {P : Program} {w : World} {K : PySem.W.Frag} {mg : Str → Option Value} {base : Heap}
theorem ok_are_starts (T : Txt K mg) : Df P w K mg base "are_starts" 1 ["row"] (fun vs H Q _ => ∃ (a : Addr) (ns : List Int), vs = [.ref a] ∧ H a = some (.lst (ns.map V.int)) ∧ ns.length ≤ 1000 ∧
    ∀ H', Same H H' → Q (.bl (Vbexaa.startsOk ns)) H') := by
  have sc := sc_are_starts
  refine df_of T.f_are_starts sc (fun vs H Q E h => ?_) (fun f cdv A outer s H vs Q E hr h => ?_)
  · obtain ⟨a, ns, rfl, _⟩ := h
    rfl
  · obtain ⟨a, ns, rfl, ha, hl, k⟩ := h
    have big := line_big
    refine ⟨_, (pss_cons (ps_if (PW.pt (pw_or (pt_cmpR op_ne (pe_op op_mod (pe_callB call_len_seq (by rfl) T.b_len PySem.boot_len (pa_cons (pv 0) pa_nil)) pe_int) pe_int (nomark _)) (pw_or1 (pt_cmpR op_gt (pe_op op_fdiv (pe_callB call_len_seq (by rfl) T.b_len PySem.boot_len (pa_cons (pv 0) pa_nil)) pe_int) (pe_gc rfl T.c_MOST_STARTS) (nomark _)))))
        (pss_one (ps_ret pe_bl))
        pss_nil)
      (pss_one (ps_ret (pe_callB (cr_all rfl) (by rfl) T.b_all boot_all (pa_cons (pe_lc (own := [("number", 1)]) rfl sc.nd (pi_list (pv 0)) (blk1 rfl rfl rfl) (fun _ _ _ _ _ => pg_name (i := 1) sc.nd rfl (Or.inl rfl)) (fun _ _ _ _ _ => pts_nil) (fun _ _ _ _ _ => (pe_chain op_le op_le pe_int (pv 1) (pe_gc rfl T.c_MOST_START_NUMBER)))) pa_nil))))), ?_⟩
    have hml : (ns.map V.int).length = ns.length := List.length_map _
    refine ⟨_, rfl, a, _, rfl, .inl (SqL.of ha), _, _, rfl, rfl, (by show (0 : Int) < 2; decide), rfl, _, rfl, ite2 (fun h => iteT ?_) (fun h => ?_)⟩
    · refine q_bl (Q := Q) ?_ (k _ Same.rfl')
      have h2 : ¬ ns.length % 2 = 0 := by
        rw [hml] at h
        simp at h
        omega
      unfold Vbexaa.startsOk
      have h3 : (ns.length % 2 == 0) = false := by simpa using h2
      rw [h3]
      simp
    · have h2 : ns.length % 2 = 0 := by
        rw [hml] at h
        simp at h
        omega
      refine ⟨_, rfl, a, _, rfl, .inl (SqL.of ha), _, _, rfl, rfl, ⟨by decide, by decide⟩, _, _, rfl, rfl, _, rfl, ite2 (fun h3 => ?_) (fun h3 => ?_)⟩
      · rw [hml] at h3
        simp at h3
        refine q_bl (Q := Q) ?_ (k _ Same.rfl')
        unfold Vbexaa.startsOk
        rw [decide_eq_false (show ¬ ns.length ≤ 60 by omega)]
        rfl
      · rw [hml] at h3
        simp at h3
        dsimp only [tNext, tRet, tCB, tCons]
        refine lc_map (a := a) (xs := ns.map V.int) (bF fun c => Vbexaa.within c 0 400) (fun R h => ⟨_, rfl, h⟩) (SqL.of ha) (by rw [List.length_map]; omega) (fun j x hx H' s' R hR => ?_) (fun D H' s' hD0 hD => ?_)
        · obtain ⟨c, hc, rfl⟩ := vI_of hx
          refine ⟨_, rfl, _, _, rfl, rfl, _, rfl, ite2 (fun h => ⟨_, _, rfl, rfl, ?_⟩) (fun h => ?_)⟩
          · exact q_bl (Q := R) (by unfold Vbexaa.within; dsimp only; rw [h]; rfl) (hR _ Same.rfl')
          · exact q_bl (Q := R) (by unfold Vbexaa.within; dsimp only; rw [Bool.not_eq_true _ |>.mp h]; rfl) (hR _ Same.rfl')
        · refine ⟨D, ns.map fun c => Vbexaa.within c 0 400, rfl, SqL.of ?_, ?_⟩
          · rw [hD, List.map_map, List.map_map]
            rfl
          · refine q_bl (Q := Q) ?_ (k _ s')
            rw [List.all_map]
            unfold Vbexaa.startsOk
            have h4 : (ns.length % 2 == 0) = true := by simpa using h2
            rw [decide_eq_true (show ns.length ≤ 60 by omega), h4]
            rfl
theorem ok_day_behind_start (T : Txt K mg) : Df P w K mg base "day_behind_start" 2 ["land", "place", "day", "start_day", "number"] (fun vs H Q _ => ∃ (lo : Addr) (wl : Vbexaa.Land) (p d sd n : Nat), vs = [.ref lo, .int p, .int d, .int sd, .int n] ∧ LandAt mg H lo wl ∧ p < wl.places.length ∧ sd ≤ 400 ∧
    ∀ H', Same H H' → Q (oV (behindStart wl p d sd n)) H') := by
  have sc := sc_day_behind_start
  have D_arrival := ok_arrival (P := P) (w := w) (base := base) T
  have M_Land_can_stay := ok_can_stay (P := P) (w := w) (base := base) T
  refine df_of T.f_day_behind_start sc (fun vs H Q E h => ?_) (fun f cdv A outer s H vs Q E hr h => ?_)
  · obtain ⟨lo, wl, p, d, sd, n, rfl, _⟩ := h
    rfl
  · obtain ⟨lo, wl, p, d, sd, n, rfl, LA, hp, hsd, k⟩ := h
    refine ⟨_, (pss_cons (ps_if (PW.pt (pw_or (pt_cmpR op_ge (pv 4) (pe_callB call_len_seq (by rfl) T.b_len PySem.boot_len (pa_cons (pe_fld (pv 0) rfl) pa_nil)) (nomark _)) (pw_or1 (pt_cmpR op_ne (pe_fld (pe_ix ix_list (pe_fld (pv 0) rfl) (pv 4) (fun _ _ => rfl)) rfl) (pv 1) (nomark _)))))
        (pss_one (ps_ret pe_non))
        pss_nil)
      (pss_cons (ps_if (PW.pt (pw_or (pt_cmpR op_lt (pv 3) (pv 2) (nomark _)) (pw_or1 (pt_not (pt_truth (pe_dm (pv 0) M_Land_can_stay hr.m (pa_cons (pv 1) (pa_cons (pv 2) (pa_cons (pv 3) pa_nil)))) (fun _ => rfl))))))
        (pss_one (ps_ret pe_non))
        pss_nil)
      (pss_one (ps_ret (pe_df D_arrival hr.m rfl (pa_cons (pe_ix ix_list (pe_fld (pv 0) rfl) (pv 4) (fun _ _ => rfl)) (pa_cons (pv 3) pa_nil))))))), ?_⟩
    obtain ⟨dx, l, st, ss, e1, ⟨as, g1, g2⟩, GS⟩ := id LA
    have hal := paired_len g2
    refine ⟨_, rfl, _, rfl, lo, _, dx, _, _, rfl, e1, T.k_Land.cl, T.n_Land_legs, rfl, l, _, rfl, .inl (SqL.of g1), _, _, rfl, rfl, _, rfl, ite2 (fun h => iteT ?_) (fun h => ?_)⟩
    · rw [List.length_map, hal, decide_eq_true_eq] at h
      have q := k _ Same.rfl'
      unfold behindStart at q
      rw [List.getElem?_eq_none (by omega)] at q
      exact q
    · rw [List.length_map, hal, decide_eq_true_eq] at h
      obtain ⟨g, hg⟩ : ∃ g, wl.legs[n]? = some g := ⟨_, List.getElem?_eq_getElem (by omega)⟩
      have k' : ∀ H', Same H H' → Q (oV (if (g.from_ == p && (decide (d ≤ sd) && (List.range (sd - d)).all fun k => Vbexaa.stays wl p (d + k))) = true then arr g sd else none)) H' := fun H' s' => by
        have q := k H' s'
        unfold behindStart at q
        rw [hg] at q
        exact q
      obtain ⟨b, hb', f1⟩ := Paired.get g2 hg
      have hbv : (as.map V.ref)[n]? = some (V.ref b) := by rw [List.getElem?_map, hb']; rfl
      obtain ⟨dg, wa, f2, _⟩ := id f1
      refine ⟨_, rfl, lo, _, dx, _, _, rfl, e1, T.k_Land.cl, T.n_Land_legs, rfl, _, rfl, l, _, _, _, rfl, rfl, SqL.of g1, at_of rfl hbv, b, _, dg, _, _, rfl, f2, T.k_Leg.cl, T.n_Leg_begin, rfl, _, rfl, rfl, _, rfl, ite2 (fun h2 => ?_) (fun h2 => ?_)⟩
      · have h3 : (g.from_ == p) = false := by
          simp at h2
          simp
          omega
        have q := k' _ Same.rfl'
        rw [h3] at q
        exact q
      · have h3 : (g.from_ == p) = true := by
          simp at h2
          simp
          omega
        simp only [h3, Bool.true_and] at k'
        refine ⟨_, rfl, _, rfl, _, _, rfl, rfl, _, rfl, ite2 (fun h4 => iteT ?_) (fun h4 => ?_)⟩
        · rw [decide_eq_true_eq] at h4
          have q := k' _ Same.rfl'
          rw [decide_eq_false (show ¬ d ≤ sd by omega)] at q
          exact q
        · rw [decide_eq_true_eq] at h4
          have h5 : d ≤ sd := by omega
          simp only [decide_eq_true h5, Bool.true_and] at k'
          refine ⟨_, rfl, lo, dx, _, rfl, e1, rfl, _, rfl, _, rfl, _, rfl, lo, wl, p, d, sd, rfl, LA, hp, h5, hsd, fun H2 s2 => ⟨_, rfl, ite2 (fun h6 => ?_) (fun h6 => ?_)⟩⟩
          · have q := k' H2 s2
            rw [if_neg (by simpa using h6)] at q
            exact q
          · have q := k' H2 s2
            rw [if_pos (by simpa using h6)] at q
            exact ⟨_, rfl, lo, _, dx, _, _, rfl, s2 _ _ e1, T.k_Land.cl, T.n_Land_legs, rfl, _, rfl, l, _, _, _, rfl, rfl, SqL.of (s2 _ _ g1), at_of rfl hbv, _, rfl, b, g, sd, rfl, f1.same s2, q⟩
end
end SL
end
section
namespace SL
open PySem PySem.Spec PyProof.Rows L2
theorem starts_all {row : List Int} (h : Vbexaa.startsOk row = true) : row.length ≤ 60 ∧ row.length % 2 = 0 ∧ ∀ (i : Nat) (z : Int), row[i]? = some z → 0 ≤ z ∧ z ≤ 400 := by
  unfold Vbexaa.startsOk at h
  simp only [Bool.and_eq_true, decide_eq_true_eq, beq_iff_eq, List.all_eq_true] at h
  refine ⟨h.1, h.2.1, fun i z hz => ?_⟩
  have q := h.2.2 z (List.mem_of_getElem? hz)
  unfold Vbexaa.within at q
  simpa using q
def followAns : Except Nat (Nat × Nat) → List Int
  | .error i => [0, (i : Int)]
  | .ok e => [1, (e.1 : Int), (e.2 : Int)]
section
variable {P : Program} {w : World} {K : PySem.W.Frag} {mg : Str → Option Value} {base : Heap}
def gCheck (st : Vbexaa.St) (ns row : List Int) : Vbexaa.St × List Int := Vbexaa.step st (.check (ns.getD 0 0) (ns.getD 1 0) row)
theorem check_yes {st : Vbexaa.St} {x t : Nat} {row : List Int} (h : Vbexaa.ranged st (.check x t row) = true) : gCheck st [(x : Int), (t : Int)] row = (st, followAns (Vbexaa.follow (Vbexaa.landOf st.lines) 0 x t (Vbexaa.pairsIn row))) := by
  show Vbexaa.step st (.check x t row) = _
  rw [step_yes h]
  unfold Vbexaa.act
  dsimp only
  simp only [Int.toNat_natCast]
  cases Vbexaa.follow (Vbexaa.landOf st.lines) 0 x t (Vbexaa.pairsIn row) <;> rfl
theorem ok_call_check (T : Txt K mg) : Df P w K mg base "call_check" 8 ["sheet", "numbers", "row"] (spCall mg gCheck fun ns row => (∃ x t, ns = [x, t]) ∧ row.length ≤ 70) := by
  have sc := sc_call_check
  have D_land_told := ok_land_told (P := P) (w := w) (base := base) T
  have D_are_places := ok_are_places (P := P) (w := w) (base := base) T
  have D_are_days := ok_are_days (P := P) (w := w) (base := base) T
  have D_are_starts := ok_are_starts (P := P) (w := w) (base := base) T
  have D_day_behind_start := ok_day_behind_start (P := P) (w := w) (base := base) T
  refine df_of T.f_call_check sc (fun vs H Q E h => ?_) (fun f cdv A outer s H vs Q E hr h => ?_)
  · obtain ⟨sh, nb, rw, M, st, ns, row, rfl, _⟩ := h
    rfl
  · obtain ⟨sh, nb, rw, M, st, ns, row, rfl, S, hnb, hrw, ⟨⟨x, t, rfl⟩, hrow⟩, k⟩ := h
    refine ⟨_, (pss_cons (ps_set (i := 3) sc.nd rfl (Or.inl rfl) (pe_df D_land_told hr.m rfl (pa_cons (pe_fld (pv 0) rfl) pa_nil)))
      (pss_cons (ps_set (i := 4) sc.nd rfl (Or.inl rfl) (pe_ix ix_list (pv 1) pe_int (fun _ _ => rfl)))
      (pss_cons (ps_set (i := 5) sc.nd rfl (Or.inl rfl) (pe_ix ix_list (pv 1) pe_int (fun _ _ => rfl)))
      (pss_cons (ps_if (PW.pt (pw_or (pt_not (pt_truth (pe_df D_are_places hr.m rfl (pa_cons (pv 3) (pa_cons (pe_lst (pa_cons (pv 4) pa_nil)) pa_nil))) (fun _ => rfl))) (pw_or (pt_not (pt_truth (pe_df D_are_days hr.m rfl (pa_cons (pe_lst (pa_cons (pv 5) pa_nil)) pa_nil)) (fun _ => rfl))) (pw_or1 (pt_not (pt_truth (pe_df D_are_starts hr.m rfl (pa_cons (pv 2) pa_nil)) (fun _ => rfl)))))))
        (pss_one (ps_ret (pe_lst (pa_cons (pe_gc rfl T.c_OUT_OF_RANGE) pa_nil))))
        pss_nil)
      (pss_cons (ps_for PassesOwn.never rfl (pi_range3 rfl T.b_range (pa_cons pe_int (pa_cons (pe_callB call_len_seq (by rfl) T.b_len PySem.boot_len (pa_cons (pv 2) pa_nil)) (pa_cons pe_int pa_nil)))) (pg_name (i := 6) sc.nd rfl (Or.inl rfl))
        (pss_cons (ps_set (i := 7) sc.nd rfl (Or.inl rfl) (pe_df D_day_behind_start hr.m rfl (pa_cons (pv 3) (pa_cons (pv 4) (pa_cons (pv 5) (pa_cons (pe_ix ix_list (pv 2) (pv 6) (fun _ _ => rfl)) (pa_cons (pe_ix ix_list (pv 2) (pe_op op_add (pv 6) pe_int) (fun _ _ => rfl)) pa_nil)))))))
        (pss_cons (ps_if (pt_cmpR op_isN (pv 7) pe_non (nomark _))
          (pss_one (ps_ret (pe_lst (pa_cons pe_int (pa_cons (pe_op op_fdiv (pv 6) pe_int) pa_nil)))))
          pss_nil)
        (pss_cons (ps_set (i := 4) sc.nd rfl (Or.inl rfl) (pe_fld (pe_ix ix_list (pe_fld (pv 3) rfl) (pe_ix ix_list (pv 2) (pe_op op_add (pv 6) pe_int) (fun _ _ => rfl)) (fun _ _ => rfl)) rfl))
        (pss_one (ps_set (i := 5) sc.nd rfl (Or.inl rfl) (pv 7)))))))
      (pss_one (ps_ret (pe_lst (pa_cons pe_int (pa_cons (pv 4) (pa_cons (pv 5) pa_nil))))))))))), ?_⟩
    obtain ⟨dx, l, e1, u1, o1, L, too⟩ := S.lines
    have hsz := too_len too
    have hrw0 := hide_same _ _ hrw
    refine ⟨_, rfl, sh, _, dx, _, _, rfl, o1, T.k_Sheet.cl, T.n_Sheet_lines, rfl, l, st.lines, rfl, L.same hide_same, by omega, fun H1 lo s1 LA => ?_⟩
    have LN := sheet_lnd S LA
    have hn1 := s1 _ _ (hide_same _ _ hnb)
    refine ⟨_, rfl, nb, _, _, _, rfl, rfl, SqL.of hn1, at_of (j := 0) rfl rfl, ?_⟩
    refine ⟨_, rfl, nb, _, _, _, rfl, rfl, SqL.of hn1, at_of (j := 1) rfl rfl, ?_⟩
    have no : (Vbexaa.isPlace st x && (Vbexaa.isDay t && Vbexaa.startsOk row)) = false → ∀ H', Same H H' → tRet (tLst (tCons (tC (V.int (-1))) tNil)) { nx := fun _ H' => Q .non H', rt := Q } [some (.ref sh), some (.ref nb), some (.ref rw), some (.ref lo), some (.int x), some (.int t), none, none] H' := fun z H' s' => by
      have e : gCheck st [x, t] row = (st, [-1]) := step_no (c := .check x t row) z
      rw [e] at k
      exact ⟨one_size, fun q hq => told_one k S s' hq rfl⟩
    refine ⟨_, rfl, _, rfl, one_size, fun l hl => ⟨lo, l, _, [x], rfl, LA.same (Same.new hl), upd_same, (by show 1 ≤ 1000; decide), fun H2 s2 => ⟨_, rfl, ite2 (fun h => iteT (no ?_ _ (s1.trans ((Same.new hl).trans s2)))) (fun h => ?_)⟩⟩⟩
    · have h' : (!([x].all (inPl (Vbexaa.placesOf st.lines).length))) = true := h
      simp only [List.all_cons, List.all_nil, Bool.and_true, Bool.not_eq_true'] at h'
      rw [isPlace_eq, h']
      rfl
    · have h' : ¬ (!([x].all (inPl (Vbexaa.placesOf st.lines).length))) = true := h
      simp only [List.all_cons, List.all_nil, Bool.and_true, Bool.not_eq_true', Bool.not_eq_false] at h'
      have s12 := (Same.new (o := .lst [.int x]) hl).trans s2
      have s02 := s1.trans s12
      refine ⟨_, rfl, one_size, fun l2 hl2 => ⟨l2, [t], rfl, upd_same, (by show 1 ≤ 1000; decide), fun H3 s3 => ⟨_, rfl, ite2 (fun h3 => iteT (no ?_ _ ((s02.tr_new hl2).trans s3))) (fun h3 => ?_)⟩⟩⟩
      · simp only [List.all_cons, List.all_nil, Bool.and_true, Bool.not_eq_true'] at h3
        rw [h3]
        simp
      · simp only [List.all_cons, List.all_nil, Bool.and_true, Bool.not_eq_true', Bool.not_eq_false] at h3
        have s13 := (s12.tr_new (o := .lst [.int t]) hl2).trans s3
        have s03 := s1.trans s13
        refine ⟨_, rfl, rw, row, rfl, s03 _ _ hrw0, by omega, fun H4 s4 => ⟨_, rfl, ite2 (fun h4 => no ?_ _ (s03.trans s4)) (fun h4 => ?_)⟩⟩
        · simp only [Bool.not_eq_true'] at h4
          rw [h4]
          simp
        · simp only [Bool.not_eq_true', Bool.not_eq_false] at h4
          have s14 := s13.trans s4
          have s04 := s1.trans s14
          obtain ⟨hx1, hx2⟩ := inPl_iff.mp h'
          obtain ⟨ht1, ht2⟩ := isDay_iff.mp h3
          obtain ⟨xn, rfl⟩ : ∃ n : Nat, x = (n : Int) := ⟨x.toNat, by omega⟩
          obtain ⟨tn, rfl⟩ : ∃ n : Nat, t = (n : Int) := ⟨t.toNat, by omega⟩
          rw [check_yes (by
            show (Vbexaa.isPlace st xn && (Vbexaa.isDay tn && Vbexaa.startsOk row)) = true
            rw [isPlace_eq, h', h3, h4]
            rfl)] at k
          obtain ⟨hr60, hr2, hrz⟩ := starts_all h4
          obtain ⟨m, hm⟩ : ∃ m, row.length = 2 * m := ⟨row.length / 2, by omega⟩
          have hpl := pairs_len m row hm
          have hpx : xn < (Vbexaa.landOf st.lines).places.length := by show xn < (Vbexaa.placesOf st.lines).length; omega
          have hml : ((row.map V.int).length : Int) = ((2 * m : Nat) : Int) := by rw [List.length_map, hm]
          generalize hwl : Vbexaa.landOf st.lines = wl at k LA LN hpx
          refine ⟨_, rfl, rw, _, rfl, .inl (SqL.of (s04 _ _ hrw0)), _, _, _, m, rfl, by rw [hml]; exact rg_two (by omega), for_rangeC (fun i σ H' => ∃ p d v6 v7, σ = [some (.ref sh), some (.ref nb), some (.ref rw), some (.ref lo), some (.int ((p : Nat) : Int)), some (.int ((d : Nat) : Int)), v6, v7] ∧ Same H1 H' ∧ p < wl.places.length ∧ Vbexaa.follow wl i p d ((Vbexaa.pairsIn row).drop i) = Vbexaa.follow wl 0 xn tn (Vbexaa.pairsIn row))
            ⟨xn, tn, none, none, rfl, s14, hpx, rfl⟩ ?_ ?_⟩
          · rintro i σ H' hi ⟨p, d, v6, v7, rfl, s5, hp, hf⟩
            obtain ⟨a, ha⟩ : ∃ a, row[2 * i]? = some a := ⟨_, List.getElem?_eq_getElem (by omega)⟩
            obtain ⟨b, hb⟩ : ∃ b, row[2 * i + 1]? = some b := ⟨_, List.getElem?_eq_getElem (by omega)⟩
            have ha4 := hrz _ _ ha
            have hb4 := hrz _ _ hb
            obtain ⟨an, rfl⟩ : ∃ n : Nat, a = (n : Int) := ⟨a.toNat, by omega⟩
            obtain ⟨bn, rfl⟩ : ∃ n : Nat, b = (n : Int) := ⟨b.toNat, by omega⟩
            have hpi := pairs_get i row _ _ ha hb
            rw [Int.toNat_natCast, Int.toNat_natCast] at hpi
            rw [drop_one hpi, follow_cons] at hf
            dsimp only at hf
            have hra := s5 _ _ (s1 _ _ hrw0)
            have va : (row.map V.int)[2 * i]? = some (.int an) := by rw [List.getElem?_map, ha]; rfl
            have vb : (row.map V.int)[2 * i + 1]? = some (.int bn) := by rw [List.getElem?_map, hb]; rfl
            have ea : (0 : Int) + (i : Nat) * 2 = ((2 * i : Nat) : Int) := by omega
            have eb : (0 : Int) + (i : Nat) * 2 + 1 = ((2 * i + 1 : Nat) : Int) := by omega
            refine ⟨_, rfl, _, rfl, _, rfl, _, rfl, _, rfl, rw, _, _, _, rfl, rfl, SqL.of hra, at_of ea va, _, rfl, _, rfl, _, _, rfl, rfl, rw, _, _, _, rfl, rfl, SqL.of hra, at_of eb vb, lo, wl, p, d, an, bn, rfl, LA.same s5, hp, by omega, fun H6 s6 => ?_⟩
            have s06 := s1.trans (s5.trans s6)
            cases hbs : behindStart wl p d an bn with
            | none =>
              have e : Vbexaa.follow wl 0 xn tn (Vbexaa.pairsIn row) = .error i := by
                rw [hbs] at hf
                rw [← hf]
                cases wl.legs[bn]? <;> rfl
              rw [e] at k
              refine ⟨_, rfl, rfl, _, rfl, iteT ⟨_, rfl, _, _, rfl, rfl, ⟨by decide, by decide⟩, two_size, fun q hq => told_one k S s06 hq ?_⟩⟩
              show [V.int 0, V.int (((0 : Int) + (i : Nat) * 2) / 2)] = [V.int 0, V.int (i : Int)]
              have e2 : ((0 : Int) + (i : Nat) * 2) / 2 = (i : Int) := by omega
              rw [e2]
            | some e =>
              obtain ⟨g, hg⟩ : ∃ g, wl.legs[bn]? = some g := by
                unfold behindStart at hbs
                cases hh : wl.legs[bn]? with
                | none =>
                  rw [hh] at hbs
                  cases hbs
                | some g => exact ⟨g, rfl⟩
              rw [hbs, hg] at hf
              dsimp only at hf
              obtain ⟨dx6, l6, st6, ss6, f1, ⟨as, g1, g2⟩, GS⟩ := LA.same (s5.trans s6)
              obtain ⟨c, hc, LG⟩ := Paired.get g2 hg
              have hcv : (as.map V.ref)[bn]? = some (V.ref c) := by rw [List.getElem?_map, hc]; rfl
              obtain ⟨dg, wa, f2, _⟩ := id LG
              have hra6 := s6 _ _ hra
              refine ⟨_, rfl, rfl, _, rfl, iteF ⟨_, rfl, lo, _, dx6, _, _, rfl, f1, T.k_Land.cl, T.n_Land_legs, rfl, _, rfl, _, rfl, _, _, rfl, rfl, rw, _, _, _, rfl, rfl, SqL.of hra6, at_of eb vb, l6, _, _, _, rfl, rfl, SqL.of g1, at_of rfl hcv, c, _, dg, _, _, rfl, f2, T.k_Leg.cl, T.n_Leg_end, rfl, _, rfl, g.to_, e, _, _, rfl, s5.trans s6, LN.ok.to g (List.mem_of_getElem? hg), hf⟩⟩
          · rintro σ H5 ⟨p, d, v6, v7, rfl, s5, hp, hf⟩
            rw [List.drop_eq_nil_of_le (by omega)] at hf
            have e : Vbexaa.follow wl 0 xn tn (Vbexaa.pairsIn row) = .ok (p, d) := by
              rw [← hf]
              rfl
            rw [e] at k
            exact ⟨_, rfl, _, rfl, (by show 3 ≤ sizeLine; have := line_big; omega), fun q hq => told_one k S (s1.trans s5) hq rfl⟩
end
end SL
end
section
namespace SL
open Vbexaa
def om (m x : Option Nat) : Option Nat := match m, x with
  | some a, some b => some (min a b)
  | some a, none => some a
  | none, b => b
theorem om_fold : ∀ (L : List (Option Nat)) (m : Option Nat), (∀ a, m = some a ∨ some a ∈ L → ∃ c, L.foldl om m = some c ∧ c ≤ a) ∧ ∀ c, L.foldl om m = some c → m = some c ∨ some c ∈ L
  | [], m => by
    refine ⟨fun a h => ?_, fun c h => .inl h⟩
    rcases h with h | h
    · exact ⟨a, h, Nat.le_refl _⟩
    · cases h
  | x :: L, m => by
    obtain ⟨i1, i2⟩ := om_fold L (om m x)
    have le1 : ∀ a, m = some a → ∃ b, om m x = some b ∧ b ≤ a := fun a h => by
      subst h
      cases x with
      | none => exact ⟨a, rfl, Nat.le_refl _⟩
      | some b => exact ⟨min a b, rfl, Nat.min_le_left ..⟩
    have le2 : ∀ a, x = some a → ∃ b, om m x = some b ∧ b ≤ a := fun a h => by
      subst h
      cases m with
      | none => exact ⟨a, rfl, Nat.le_refl _⟩
      | some b => exact ⟨min b a, rfl, Nat.min_le_right ..⟩
    have back : ∀ c, om m x = some c → m = some c ∨ x = some c := fun c h => by
      cases m with
      | none => exact .inr h
      | some a =>
        cases x with
        | none => exact .inl h
        | some b =>
          have e : min a b = c := Option.some.inj h
          rcases Nat.le_total a b with y | y
          · rw [Nat.min_eq_left y] at e
            exact .inl (by rw [e])
          · rw [Nat.min_eq_right y] at e
            exact .inr (by rw [e])
    refine ⟨fun a h => ?_, fun c h => ?_⟩
    · rw [List.foldl_cons]
      have go : (∃ b, om m x = some b ∧ b ≤ a) → ∃ c, L.foldl om (om m x) = some c ∧ c ≤ a := fun ⟨b, e, hb⟩ => by
        obtain ⟨c, hc, hcb⟩ := i1 b (.inl e)
        exact ⟨c, hc, Nat.le_trans hcb hb⟩
      rcases h with h | h
      · exact go (le1 a h)
      · rcases List.mem_cons.mp h with z | z
        · exact go (le2 a z.symm)
        · exact i1 a (.inr z)
    · rw [List.foldl_cons] at h
      rcases i2 c h with z | z
      · rcases back c z with y | y
        · exact .inl y
        · exact .inr (by rw [y]; simp)
      · exact .inr (List.mem_cons_of_mem _ z)
def frow (w : Land) (y goal k : Nat) : List (Option Nat) := (fewest w y goal k).headD []
theorem few_get (w : Land) (y goal : Nat) : ∀ k i, i ≤ k → (fewest w y goal k).getD i [] = frow w y goal (k - i)
  | 0, i, h => by
    have e : i = 0 := by omega
    subst e
    rfl
  | k + 1, 0, _ => rfl
  | k + 1, i + 1, h => by
    have e : (fewest w y goal (k + 1)).getD (i + 1) [] = (fewest w y goal k).getD i [] := by
      rw [fewest]
      rfl
    rw [e, few_get w y goal k i (by omega)]
    congr 1
    omega
def fewList (w : Land) (y goal : Nat) (rows : List (List (Option Nat))) (day p : Nat) : List (Option Nat) :=
  (if day = goal ∧ p = y then some 0 else none) :: (if (decide (day < goal) && stays w p day) = true then (rows.getD 0 []).getD p none else none) :: w.legs.map fun g => if g.from_ = p then (match takes g day with
      | some n => if day + n ≤ goal then ((rows.getD (n - 1) []).getD g.to_ none).map fun k => k + 1 else none
      | none => none) else none
theorem few_row (w : Land) (y goal : Nat) (rows : List (List (Option Nat))) (day p : Nat) (hp : p < w.places.length) : (fewRow w y goal rows day).getD p none = (fewList w y goal rows day p).foldl om none := by
  unfold fewRow
  rw [List.getD_eq_getElem?_getD, List.getElem?_map, List.getElem?_range hp]
  rfl
def At (y goal : Nat) : Nat → Nat → Prop := fun p d => p = y ∧ d ∈ [goal]
theorem at_le {y goal : Nat} : ∀ p d, At y goal p d → d ≤ goal := fun p d h => by
  have e : d = goal := by simpa [At] using h.2
  omega
theorem mem_frow {w : Land} (ok : LandOk w) {y goal : Nat} : ∀ k, k ≤ goal → ∀ p, p < w.places.length → (∀ j, Need w (At y goal) j p (goal - k) → ∃ c, (frow w y goal k).getD p none = some c ∧ c ≤ j) ∧ ∀ c, (frow w y goal k).getD p none = some c → Need w (At y goal) c p (goal - k) := by
  intro k
  induction k using Nat.strongRecOn with
  | _ k ih =>
    intro hk p hp
    have hr : ∃ rows : List (List (Option Nat)), frow w y goal k = fewRow w y goal rows (goal - k) ∧ ∀ i, i < k → rows.getD i [] = frow w y goal (k - 1 - i) := by
      cases k with
      | zero => exact ⟨[], rfl, fun i hi => by omega⟩
      | succ k =>
        refine ⟨fewest w y goal k, rfl, fun i hi => ?_⟩
        rw [few_get w y goal k i (by omega)]
        congr 1
    obtain ⟨rows, e, hg⟩ := hr
    rw [e, few_row w y goal rows _ p hp]
    obtain ⟨f1, f2⟩ := om_fold (fewList w y goal rows (goal - k) p) none
    constructor
    · intro j hj
      generalize hd : goal - k = d at hj f1
      cases hj with
      | here h =>
        have hg2 : d = goal := by simpa [At] using h.2
        refine f1 0 (.inr ?_)
        unfold fewList
        rw [if_pos ⟨hg2, h.1⟩]
        simp
      | stay hs h =>
        have hl := need_le ok at_le h
        have hk0 : 0 < k := by omega
        obtain ⟨c, hc, hcj⟩ := (ih (k - 1 - 0) (by omega) (by omega) p hp).1 j (by
          have e2 : goal - (k - 1 - 0) = d + 1 := by omega
          rw [e2]
          exact h)
        obtain ⟨c', hc', hle⟩ := f1 c (.inr (by
          unfold fewList
          rw [hg 0 hk0, hc, if_pos (show (decide (d < goal) && stays w p d) = true by rw [hs, decide_eq_true (show d < goal by omega)]; rfl)]
          simp))
        exact ⟨c', hc', by omega⟩
      | @go j _ n g hgm ht h =>
        have hl := need_le ok at_le h
        have hn := ok.tk g hgm _ n ht
        obtain ⟨c, hc, hcj⟩ := (ih (k - 1 - (n - 1)) (by omega) (by omega) g.to_ (ok.to g hgm)).1 j (by
          have e2 : goal - (k - 1 - (n - 1)) = d + n := by omega
          rw [e2]
          exact h)
        obtain ⟨c', hc', hle⟩ := f1 (c + 1) (.inr (by
          unfold fewList
          refine List.mem_cons_of_mem _ (List.mem_cons_of_mem _ (List.mem_map.mpr ⟨g, hgm, ?_⟩))
          rw [if_pos rfl, ht]
          dsimp only
          rw [if_pos (by omega), hg (n - 1) (by omega), hc]
          rfl))
        exact ⟨c', hc', by omega⟩
    · intro c hc
      rcases f2 c hc with z | z
      · cases z
      · unfold fewList at z
        rcases List.mem_cons.mp z with z | z
        · split at z
          · rename_i h
            cases z
            refine .here ⟨h.2, ?_⟩
            rw [h.1]
            simp
          · cases z
        · rcases List.mem_cons.mp z with z | z
          · split at z
            · rename_i h
              simp only [Bool.and_eq_true, decide_eq_true_eq] at h
              have hk0 : 0 < k := by omega
              rw [hg 0 hk0] at z
              have q := (ih (k - 1 - 0) (by omega) (by omega) p hp).2 c z.symm
              have e2 : goal - (k - 1 - 0) = goal - k + 1 := by omega
              rw [e2] at q
              exact .stay h.2 q
            · cases z
          · obtain ⟨g, hgm, z⟩ := List.mem_map.mp z
            split at z
            · rename_i hfr
              cases ht : takes g (goal - k) with
              | none =>
                rw [ht] at z
                cases z
              | some n =>
                rw [ht] at z
                dsimp only at z
                split at z
                · rename_i h4
                  have hn := ok.tk g hgm _ n ht
                  rw [hg (n - 1) (by omega)] at z
                  obtain ⟨j, hj, e3⟩ := Option.map_eq_some_iff.mp z
                  have q := (ih (k - 1 - (n - 1)) (by omega) (by omega) g.to_ (ok.to g hgm)).2 j hj
                  have e2 : goal - (k - 1 - (n - 1)) = goal - k + n := by omega
                  rw [e2] at q
                  rw [← e3, ← hfr]
                  exact .go hgm ht q
                · cases z
            · cases z
def fewAt (w : Land) (y goal p d : Nat) : Option Nat := ((fewest w y goal goal).getD d []).getD p none
theorem few_eq {w : Land} (ok : LandOk w) {y goal : Nat} (h4 : goal ≤ 400) {N : Nat → Nat → Nat} (hN : TabOk w (At y goal) N 0) {p d : Nat} (hp : p < w.places.length) (hd : d ≤ goal) : fewAt w y goal p d = if N p d < 1000 then some (N p d) else none := by
  unfold fewAt
  rw [few_get w y goal goal d hd]
  have q := mem_frow ok (y := y) (goal := goal) (goal - d) (by omega) p hp
  have e : goal - (goal - d) = d := by omega
  rw [e] at q
  obtain ⟨q1, q2⟩ := q
  by_cases z : N p d < 1000
  · rw [if_pos z]
    obtain ⟨c, hc, hle⟩ := q1 _ (hN.is p hp d (by omega) (by omega) z)
    have := hN.low p hp d (by omega) (by omega) c (q2 c hc)
    rw [hc]
    congr 1
    omega
  · rw [if_neg z]
    cases hc : (frow w y goal (goal - d)).getD p none with
    | none => rfl
    | some c => exact absurd ((tab_iff ok (fun p d h => Nat.le_trans (at_le p d h) h4) hN hp (by omega)).mpr ⟨c, q2 c hc⟩) z
def leads (N : Nat → Nat → Nat) (p d left : Nat) (g : Leg) : Bool := g.from_ == p && (match arr g d with
  | some e => decide (e ≤ 400) && N g.to_ e == left
  | none => false)
def legAt (w : Land) (N : Nat → Nat → Nat) (p d left : Nat) : Option Nat := (List.range w.legs.length).find? fun i => (w.legs[i]?).any (leads N p d left)
structure Tab (w : Land) (y goal : Nat) (N : Nat → Nat → Nat) : Prop where
  ok : LandOk w
  hg : goal ≤ 400
  tab : TabOk w (At y goal) N 0
theorem Tab.up {w : Land} {y goal : Nat} {N : Nat → Nat → Nat} (t : Tab w y goal N) {p d : Nat} (hp : p < w.places.length) (hd : d ≤ 400) (h : N p d < 1000) : d + N p d ≤ goal := need_le t.ok at_le (t.tab.is p hp d (by omega) hd h)
theorem leads_iff {N : Nat → Nat → Nat} {p d left : Nat} {g : Leg} : leads N p d left g = true ↔ g.from_ = p ∧ ∃ n, takes g d = some n ∧ d + n ≤ 400 ∧ N g.to_ (d + n) = left := by
  unfold leads arr
  rw [Bool.and_eq_true, beq_iff_eq]
  refine and_congr_right fun _ => ?_
  cases ht : takes g d with
  | none => simp
  | some n => simp
theorem stay_on {w : Land} {y goal : Nat} {N : Nat → Nat → Nat} (t : Tab w y goal N) {p d left : Nat} (hp : p < w.places.length) (hd : d ≤ 400) (h : N p d = left + 1) (hl : left + 1 < 1000) (no : ∀ g ∈ w.legs, leads N p d left g = false) : d + 1 ≤ goal ∧ N p (d + 1) = left + 1 := by
  have up := t.up hp hd (by omega)
  have hn := t.tab.is p hp d (by omega) hd (by omega)
  rw [h] at hn up
  refine ⟨by omega, ?_⟩
  have hg := t.hg
  generalize hk : left + 1 = k at hn
  cases hn with
  | here _ => omega
  | stay hs hn =>
    have a := t.tab.low p hp (d + 1) (by omega) (by omega) k hn
    have b := t.tab.is p hp (d + 1) (by omega) (by omega) (by omega)
    have c := t.tab.low p hp d (by omega) hd _ (.stay hs b)
    omega
  | @go j _ n g hgm ht hn =>
    exfalso
    have hle := need_le t.ok at_le hn
    have hto := t.ok.to g hgm
    have a := t.tab.low g.to_ hto (d + n) (by omega) (by omega) j hn
    have b := t.tab.is g.to_ hto (d + n) (by omega) (by omega) (by omega)
    have c := t.tab.low g.from_ hp d (by omega) hd _ (.go hgm ht b)
    have e : N g.to_ (d + n) = left := by omega
    have z := no g hgm
    rw [leads_iff.mpr ⟨rfl, n, ht, by omega, e⟩] at z
    cases z
theorem stay_zero {w : Land} {y goal : Nat} {N : Nat → Nat → Nat} (t : Tab w y goal N) {p d : Nat} (hp : p < w.places.length) (hd : d < goal) (h : N p d = 0) : N p (d + 1) = 0 := by
  have hg := t.hg
  have hn := t.tab.is p hp d (by omega) (by omega) (by omega)
  rw [h] at hn
  generalize hk : 0 = k at hn
  cases hn with
  | here z =>
    have e : d = goal := by simpa [At] using z.2
    omega
  | stay hs hn =>
    have a := t.tab.low p hp (d + 1) (by omega) (by omega) k hn
    omega
  | go => omega
def specLeg (w : Land) (y goal p d k i : Nat) : Bool := match w.legs[i]? with
  | some g => g.from_ == p && (match takes g d with
    | some n => decide (d + n ≤ goal) && ((((fewest w y goal goal).getD (d + n) []).getD g.to_ none).map (fun j => j + 1) == some k)
    | none => false)
  | none => false
theorem spec_leg {w : Land} {y goal : Nat} {N : Nat → Nat → Nat} (t : Tab w y goal N) {p d left : Nat} (hl : left < 1000) (i : Nat) : specLeg w y goal p d (left + 1) i = (w.legs[i]?).any (leads N p d left) := by
  unfold specLeg
  cases hg : w.legs[i]? with
  | none => rfl
  | some g =>
    have hgm : g ∈ w.legs := List.mem_of_getElem? hg
    have hto := t.ok.to g hgm
    have h4 := t.hg
    dsimp only [Option.any_some]
    rw [Bool.eq_iff_iff, leads_iff, Bool.and_eq_true, beq_iff_eq]
    refine and_congr_right fun _ => ?_
    cases ht : takes g d with
    | none => simp
    | some n =>
      dsimp only
      rw [Bool.and_eq_true, decide_eq_true_eq, beq_iff_eq]
      constructor
      · rintro ⟨h1, h2⟩
        have f := few_eq t.ok t.hg t.tab hto h1
        unfold fewAt at f
        rw [f] at h2
        refine ⟨n, rfl, by omega, ?_⟩
        split at h2
        · have e : N g.to_ (d + n) + 1 = left + 1 := Option.some.inj h2
          omega
        · cases h2
      · rintro ⟨m, e, h1, h2⟩
        cases e
        have up := t.up hto h1 (by omega)
        have f := few_eq t.ok t.hg t.tab hto (show d + n ≤ goal by omega)
        unfold fewAt at f
        rw [f, if_pos (by omega), h2]
        exact ⟨by omega, rfl⟩
theorem pick_succ (w : Land) (y goal f p d : Nat) : pick w (fewest w y goal goal) goal (f + 1) p d = if goal ≤ d then [] else match fewAt w y goal p d with
    | none => []
    | some k => (match (List.range w.legs.length).find? (specLeg w y goal p d k) with
      | some i => (match w.legs[i]? with
        | some g => (d, i) :: pick w (fewest w y goal goal) goal f g.to_ (d + (takes g d).getD 1)
        | none => [])
      | none => pick w (fewest w y goal goal) goal f p (d + 1)) := by
  rw [pick]
  rfl
theorem takes_pos {w : Land} (ok : LandOk w) {i : Nat} {g : Leg} (h : w.legs[i]? = some g) (d : Nat) : 1 ≤ (takes g d).getD 1 := by
  cases ht : takes g d with
  | none => exact Nat.le_refl _
  | some n => exact (ok.tk g (List.mem_of_getElem? h) d n ht).1
theorem pick_fuel {w : Land} (ok : LandOk w) {y goal : Nat} : ∀ (f f' p d : Nat), goal ≤ d + f → goal ≤ d + f' → pick w (fewest w y goal goal) goal f p d = pick w (fewest w y goal goal) goal f' p d
  | 0, 0, _, _, _, _ => rfl
  | 0, f' + 1, p, d, h1, h2 => by
    rw [pick_succ, if_pos (by omega)]
    rfl
  | f + 1, 0, p, d, h1, h2 => by
    rw [pick_succ, if_pos (by omega)]
    rfl
  | f + 1, f' + 1, p, d, h1, h2 => by
    rw [pick_succ, pick_succ]
    split
    · rfl
    · cases fewAt w y goal p d with
      | none => rfl
      | some k =>
        dsimp only
        cases (List.range w.legs.length).find? (specLeg w y goal p d k) with
        | none => exact pick_fuel ok f f' p (d + 1) (by omega) (by omega)
        | some i =>
          dsimp only
          cases hg : w.legs[i]? with
          | none => rfl
          | some g =>
            dsimp only
            have := takes_pos ok hg d
            rw [pick_fuel ok f f' g.to_ (d + (takes g d).getD 1) (by omega) (by omega)]
def pk (w : Land) (y goal p d : Nat) : List Start := pick w (fewest w y goal goal) goal (goal - d) p d
theorem pk_end {w : Land} {y goal p d : Nat} (h : goal ≤ d) : pk w y goal p d = [] := by
  unfold pk
  have e : goal - d = 0 := by omega
  rw [e]
  rfl
theorem pk_zero {w : Land} {y goal : Nat} {N : Nat → Nat → Nat} (t : Tab w y goal N) {p : Nat} (hp : p < w.places.length) : ∀ (j d : Nat), goal ≤ d + j → d ≤ goal → N p d = 0 → pk w y goal p d = []
  | 0, d, h1, _, _ => pk_end (by omega)
  | j + 1, d, h1, h2, h3 => by
    by_cases z : goal ≤ d
    · exact pk_end z
    · have s := stay_zero t hp (by omega) h3
      have ih := pk_zero t hp j (d + 1) (by omega) (by omega) s
      unfold pk at ih ⊢
      obtain ⟨f, hf⟩ : ∃ f, goal - d = f + 1 := ⟨goal - d - 1, by omega⟩
      rw [hf, pick_succ, if_neg z, few_eq t.ok t.hg t.tab hp h2, if_pos (by omega), h3]
      dsimp only
      have no : (List.range w.legs.length).find? (specLeg w y goal p d 0) = none := by
        refine List.find?_eq_none.mpr fun i _ => ?_
        unfold specLeg
        cases w.legs[i]? with
        | none => simp
        | some g =>
          dsimp only
          cases takes g d with
          | none => simp
          | some n =>
            dsimp only
            cases (((fewest w y goal goal).getD (d + n) []).getD g.to_ none) <;> simp
      rw [no]
      dsimp only
      rw [← ih]
      exact pick_fuel t.ok _ _ _ _ (by omega) (by omega)
theorem legAt_none {w : Land} {N : Nat → Nat → Nat} {p d left : Nat} (h : legAt w N p d left = none) : ∀ g ∈ w.legs, leads N p d left g = false := fun g hg => by
  obtain ⟨i, hi, e⟩ := List.mem_iff_getElem.mp hg
  have q := List.find?_eq_none.mp h i (List.mem_range.mpr hi)
  rw [List.getElem?_eq_getElem hi, Option.any_some, e] at q
  simpa using q
theorem legAt_some {w : Land} {N : Nat → Nat → Nat} {p d left i : Nat} (h : legAt w N p d left = some i) : ∃ g, w.legs[i]? = some g ∧ g ∈ w.legs ∧ leads N p d left g = true := by
  have q := List.find?_some h
  cases hg : w.legs[i]? with
  | none =>
    rw [hg] at q
    cases q
  | some g =>
    rw [hg, Option.any_some] at q
    exact ⟨g, rfl, List.mem_of_getElem? hg, q⟩
structure NextIs (w : Land) (N : Nat → Nat → Nat) (p d left d' i : Nat) : Prop where
  le : d ≤ d'
  no : ∀ e, d ≤ e → e < d' → legAt w N p e left = none
  yes : legAt w N p d' left = some i
theorem pk_next {w : Land} {y goal : Nat} {N : Nat → Nat → Nat} (t : Tab w y goal N) {p left : Nat} (hp : p < w.places.length) (hl : left + 1 < 1000) {d' i : Nat} {g : Leg} {e : Nat} (hg : w.legs[i]? = some g) (ha : arr g d' = some e) : ∀ (j d : Nat), d' ≤ d + j → d ≤ goal → N p d = left + 1 → NextIs w N p d left d' i → pk w y goal p d = (d', i) :: pk w y goal g.to_ e
  | j, d, h1, h2, h3, nx => by
    have h4 := t.hg
    have up := t.up hp (show d ≤ 400 by omega) (by omega)
    rw [h3] at up
    have hfind : (List.range w.legs.length).find? (specLeg w y goal p d (left + 1)) = legAt w N p d left := by
      unfold legAt
      congr 1
      funext i
      exact spec_leg t (by omega) i
    obtain ⟨f, hf⟩ : ∃ f, goal - d = f + 1 := ⟨goal - d - 1, by omega⟩
    have un : pk w y goal p d = match legAt w N p d left with
        | some i => (match w.legs[i]? with
          | some g => (d, i) :: pick w (fewest w y goal goal) goal f g.to_ (d + (takes g d).getD 1)
          | none => [])
        | none => pick w (fewest w y goal goal) goal f p (d + 1) := by
      unfold pk
      rw [hf, pick_succ, if_neg (by omega), few_eq t.ok t.hg t.tab hp h2, if_pos (by omega), h3]
      dsimp only
      rw [hfind]
    by_cases z : d = d'
    · subst z
      rw [un, nx.yes]
      dsimp only
      rw [hg]
      dsimp only
      have ht : d + (takes g d).getD 1 = e := by
        unfold arr at ha
        obtain ⟨n, hn, e2⟩ := Option.map_eq_some_iff.mp ha
        rw [hn]
        exact e2
      have hpos := takes_pos t.ok hg d
      rw [ht]
      unfold pk
      rw [pick_fuel t.ok f (goal - e) g.to_ e (by omega) (by omega)]
    · have hlt : d < d' := by have := nx.le; omega
      have hno := nx.no d (Nat.le_refl _) hlt
      obtain ⟨s1, s2⟩ := stay_on t hp (by omega) h3 hl (legAt_none hno)
      obtain ⟨j', rfl⟩ : ∃ j', j = j' + 1 := ⟨j - 1, by omega⟩
      rw [un, hno]
      dsimp only
      rw [← pk_next t hp hl hg ha j' (d + 1) (by omega) s1 s2 ⟨by omega, fun e h5 h6 => nx.no e (by omega) h6, nx.yes⟩]
      unfold pk
      exact pick_fuel t.ok _ _ _ _ (by omega) (by omega)
theorem itinerary_pk {w : Land} (ok : LandOk w) {x t y goal : Nat} (h : goal ≤ 400) : itinerary w x t y goal = pk w y goal x t := by
  unfold itinerary pk LAST
  exact pick_fuel ok _ _ _ _ (by omega) (by omega)
end SL
end
section
namespace SL
open PySem PySem.Spec PyProof.Rows L2
theorem for_enum {K : PySem.W.Frag} {a : Addr} {xs : List V} {g : TG} {tb : TS} {D : Ends} {σ : L2.St} {H : Hp} (Pv : Nat → L2.St → Hp → Prop) (h0 : Pv 0 σ H) (hl : ∀ i σ H, i ≤ xs.length → Pv i σ H → SqL K H a xs)
    (hs : ∀ i x σ H T, xs[i]? = some x → Pv i σ H → H T = none → g (.ref T) σ (upd H T (.tup [.int (i : Nat), x])) fun σ2 H2 => tb { D with nx := Pv (i + 1), ct := Pv (i + 1), bk := D.nx } σ2 H2) (hd : ∀ σ H, Pv xs.length σ H → D.nx σ H) :
    ∃ W : Nat → Nat → L2.St → Hp → Prop, (∃ m, W 0 m σ H) ∧ ∀ i m σ H, W i m σ H →
      ((Ite K a).stop i H ∧ D.nx σ H) ∨ ((Ite K a).go i H ∧ ∃ N : L2.St → Hp → Prop, (∀ σ' H', N σ' H' → ∃ m', m' < m ∧ W (i + 1) m' σ' H') ∧ ∀ x H', (Ite K a).yld i H x H' → g x σ H' fun σ2 H2 => tb { D with nx := N, ct := N, bk := D.nx } σ2 H2) := by
  refine ⟨fun i m σ H => m = xs.length - i ∧ i ≤ xs.length ∧ Pv i σ H, ⟨xs.length, by simp, Nat.zero_le _, h0⟩, ?_⟩
  rintro i m σ H ⟨rfl, hi, p⟩
  have q := hl i σ H hi p
  by_cases hlt : i < xs.length
  · refine .inr ⟨⟨xs, xs[i], q, by simp [hlt]⟩, Pv (i + 1), fun σ' H' p' => ⟨xs.length - (i + 1), by omega, rfl, hlt, p'⟩, fun x H' y => ?_⟩
    obtain ⟨T, y, rfl, hT, rfl, hy⟩ := y
    exact hs i y σ H T (hy xs q) p hT
  · have e : i = xs.length := by omega
    subst e
    exact .inl ⟨⟨xs, q, Nat.le_refl _⟩, hd σ H p⟩
def leadsTo (N : Nat → Nat → Nat) (d left : Nat) (g : Vbexaa.Leg) : Bool := match arr g d with
  | some e => decide (e ≤ 400) && N g.to_ e == left
  | none => false
theorem leads_to {N : Nat → Nat → Nat} {p d left : Nat} {g : Vbexaa.Leg} : leads N p d left g = (g.from_ == p && leadsTo N d left g) := rfl
theorem find_range_some {n i : Nat} {q : Nat → Bool} (hi : i < n) (h : q i = true) (no : ∀ j, j < i → q j = false) : (List.range n).find? q = some i := by
  refine find_take_none (i := i) (fun y hy => ?_) (by rw [List.getElem?_range hi]) h
  rw [List.take_range, List.mem_range] at hy
  exact no y (by omega)
def dayOf (σ : L2.St) : Nat := match σ[2]? with
  | some (some (V.int z)) => z.toNat
  | _ => 0
section
variable {P : Program} {w : World} {K : PySem.W.Frag} {mg : Str → Option Value} {base : Heap}
theorem ok_leads_to (T : Txt K mg) : Df P w K mg base "leads_to" 2 ["leg", "day", "needed", "left"] (fun vs H Q _ => ∃ (b p : Addr) (rs : List Addr) (n : Nat) (g : Vbexaa.Leg) (N : Nat → Nat → Nat) (d left : Nat), vs = [.ref b, .int d, .ref p, .int left] ∧ LegAt (clsOf mg "Leg") H b g ∧ GridAt H p rs n (nG N) ∧ g.to_ < n ∧ Q (.bl (leadsTo N d left g)) H) := by
  have sc := sc_leads_to
  have D_arrival := ok_arrival (P := P) (w := w) (base := base) T
  refine df_of T.f_leads_to sc (fun vs H Q E h => ?_) (fun f cdv A outer s H vs Q E hr h => ?_)
  · obtain ⟨b, p, rs, n, g, N, d, left, rfl, _⟩ := h
    rfl
  · obtain ⟨b, p, rs, n, g, N, d, left, rfl, LG, G, hto, k⟩ := h
    refine ⟨_, (pss_cons (ps_set (i := 4) sc.nd rfl (Or.inl rfl) (pe_df D_arrival hr.m rfl (pa_cons (pv 0) (pa_cons (pv 1) pa_nil))))
      (pss_one (ps_ret (pe_and (pe_cmpR op_notN (pv 4) pe_non (nomark _)) (pe_and (pe_cmpR op_le (pv 4) (pe_gc rfl T.c_LAST_DAY) (nomark _)) (pe_one (pe_cmpR op_eq (pe_ix ix_list (pe_ix ix_list (pv 2) (pe_fld (pv 0) rfl) (fun _ _ => rfl)) (pv 4) (fun _ _ => rfl)) (pv 3) (nomark _)))))))), ?_⟩
    refine ⟨_, rfl, _, rfl, b, g, d, rfl, LG, ?_⟩
    unfold leadsTo at k
    cases ha : arr g d with
    | none =>
      rw [ha] at k
      exact ⟨_, rfl, rfl, _, rfl, iteF k⟩
    | some e =>
      rw [ha] at k
      dsimp only at k
      refine ⟨_, rfl, rfl, _, rfl, iteT ⟨_, rfl, _, _, rfl, rfl, _, rfl, ite2 (fun h => ?_) (fun h => ?_)⟩⟩
      · have h4 : e ≤ 400 := by
          rw [decide_eq_true_eq] at h
          omega
        obtain ⟨r, hr1, hr2, hr3, hr4⟩ := G.at_ hto
        obtain ⟨dg, wa, f2, _⟩ := id LG
        refine ⟨_, rfl, _, rfl, b, _, dg, _, _, rfl, f2, T.k_Leg.cl, T.n_Leg_end, rfl, p, _, _, _, rfl, rfl, SqL.of G.top, at_of (j := g.to_) rfl hr3, _, rfl, r, _, _, _, rfl, rfl, SqL.of hr4, at_of (j := e) rfl (days_get _ h4), _, rfl, rfl, q_bl (Q := Q) ?_ k⟩
        rw [decide_eq_true h4, Bool.true_and, Bool.eq_iff_iff, decide_eq_true_eq, beq_iff_eq]
        show V.int _ = V.int _ ↔ _
        rw [V.int.injEq]
        omega
      · have h4 : ¬ e ≤ 400 := by
          rw [decide_eq_true_eq] at h
          omega
        rw [decide_eq_false h4] at k
        exact k
theorem ok_next_start (T : Txt K mg) : Df P w K mg base "next_start" 3 ["land", "place", "day", "needed"] (fun vs H Q _ => ∃ (lo nd : Addr) (rs : List Addr) (wl : Vbexaa.Land) (N : Nat → Nat → Nat) (y goal p d left : Nat), vs = [.ref lo, .int p, .int d, .ref nd] ∧ LandAt mg H lo wl ∧ GridAt H nd rs wl.places.length (nG N) ∧ Tab wl y goal N ∧ p < wl.places.length ∧ d ≤ goal ∧ N p d = left + 1 ∧ left + 1 < 1000 ∧
    ∀ H' q d' i, Same H H' → H' q = some (.tup (vN [d', i])) → NextIs wl N p d left d' i → d' ≤ goal → Q (.ref q) H') := by
  have sc := sc_next_start
  have D_leads_to := ok_leads_to (P := P) (w := w) (base := base) T
  refine df_of T.f_next_start sc (fun vs H Q E h => ?_) (fun f cdv A outer s H vs Q E hr h => ?_)
  · obtain ⟨lo, nd, rs, wl, N, y, goal, p, d, left, rfl, _⟩ := h
    rfl
  · obtain ⟨lo, nd, rs, wl, N, y, goal, p, d, left, rfl, LA, G, t, hp, hd, hN, hl, k⟩ := h
    have big := line_big
    refine ⟨_, (pss_cons (ps_set (i := 4) sc.nd rfl (Or.inl rfl) (pe_op op_sub (pe_ix ix_list (pe_ix ix_list (pv 3) (pv 1) (fun _ _ => rfl)) (pv 2) (fun _ _ => rfl)) pe_int))
      (pss_one (ps_while PassesOwn.never (pt_truth pe_bl (fun _ => rfl))
        (pss_cons (ps_for PassesOwn.never rfl (pi_enum rfl T.b_enumerate (pa_cons (pe_fld (pv 0) rfl) pa_nil)) (pg_tup rfl (pgs_cons (pg_name (i := 5) sc.nd rfl (Or.inl rfl)) (pgs_cons (pg_name (i := 6) sc.nd rfl (Or.inl rfl)) pgs_nil)))
          (pss_one (ps_if (PW.pt (pw_and (pt_cmpR op_eq (pe_fld (pv 6) rfl) (pv 1) (nomark _)) (pw_and1 (pt_truth (pe_df D_leads_to hr.m rfl (pa_cons (pv 6) (pa_cons (pv 2) (pa_cons (pv 3) (pa_cons (pv 4) pa_nil))))) (fun _ => rfl)))))
            (pss_one (ps_ret (pe_tup (pa_cons (pv 2) (pa_cons (pv 5) pa_nil)))))
            pss_nil)))
        (pss_one (ps_aug (i := 2) sc.nd rfl (Or.inl rfl) pe_int ip_add)))))), ?_⟩
    have hg4 := t.hg
    obtain ⟨r, hr1, hr2, hr3, hr4⟩ := G.at_ hp
    obtain ⟨dx, l, st, ss, e1, ⟨as, g1, g2⟩, GS⟩ := id LA
    have hal := paired_len g2
    refine ⟨_, rfl, _, rfl, nd, _, _, _, rfl, rfl, SqL.of G.top, at_of (j := p) rfl hr3, _, rfl, r, _, _, _, rfl, rfl, SqL.of hr4, at_of (j := d) rfl (days_get _ (by omega)), _, _, rfl, rfl, ?_⟩
    have el : ((N p d : Nat) : Int) - 1 = (left : Int) := by omega
    dsimp only [gName]
    refine while_by (fun σ H' => ∃ d1 v5 v6, σ = [some (.ref lo), some (.int p), some (.int ((d1 : Nat) : Int)), some (.ref nd), some (.int (left : Int)), v5, v6] ∧ Same H H' ∧ d ≤ d1 ∧ d1 ≤ goal ∧ N p d1 = left + 1 ∧ ∀ e, d ≤ e → e < d1 → legAt wl N p e left = none) (fun σ _ => 401 - dayOf σ)
      ⟨d, none, none, ?_, Same.rfl', Nat.le_refl _, hd, hN, fun e h1 h2 => by omega⟩ ?_ ?_
    · show [some (V.ref lo), some (.int p), some (.int (d : Int)), some (.ref nd), some (.int (((N p d : Nat) : Int) - 1)), none, none] = _
      rw [el]
    · rintro σ H1 ⟨d1, v5, v6, rfl, s1, hd1, hg1, hN1, hno⟩
      refine ⟨true, rfl, iteT ?_⟩
      refine ⟨_, rfl, lo, _, dx, _, _, rfl, s1 _ _ e1, T.k_Land.cl, T.n_Land_legs, rfl, l, _, rfl, SqL.of (s1 _ _ g1), for_enum (K := K) (a := l) (xs := as.map V.ref) (fun i σ H' => ∃ v5 v6, σ = [some (.ref lo), some (.int p), some (.int (d1 : Int)), some (.ref nd), some (.int (left : Int)), v5, v6] ∧ Same H H' ∧ ∀ j, j < i → (wl.legs[j]?).any (leads N p d1 left) = false)
        ⟨v5, v6, rfl, s1, fun j hj => by omega⟩ (fun i σ H' _ ⟨_, _, _, s5, _⟩ => SqL.of (s5 _ _ g1)) ?_ ?_⟩
      · rintro i z σ H2 Tt hi ⟨w5, w6, rfl, s2, hj⟩ hT
        obtain ⟨b, hb, rfl⟩ := refs_of hi
        obtain ⟨g, hg, LG⟩ := Paired.getL g2 hb
        have hgm := List.mem_of_getElem? hg
        have hil : i < wl.legs.length := (List.getElem?_eq_some_iff.mp hg).1
        have s3 := s2.tr_new (o := .tup [.int (i : Nat), .ref b]) hT
        have LG3 := LG.same s3
        obtain ⟨dg, wa, f2, _⟩ := id LG3
        have no : leads N p d1 left g = false → ∀ j, j < i + 1 → (wl.legs[j]?).any (leads N p d1 left) = false := fun z j hj' => by
          by_cases y : j = i
          · rw [y, hg, Option.any_some]
            exact z
          · exact hj j (by omega)
        refine ⟨Tt, _, rfl, SqT.of upd_same, rfl, _, _, rfl, _, _, rfl, rfl, ?_⟩
        refine ⟨_, rfl, b, _, dg, _, _, rfl, f2, T.k_Leg.cl, T.n_Leg_begin, rfl, _, rfl, rfl, _, rfl, ite2 (fun h => ?_) (fun h => iteF ⟨_, _, rfl, s3, no ?_⟩)⟩
        · have h2 : (g.from_ == p) = true := by
            simp at h
            simp
            omega
          refine ⟨_, rfl, _, rfl, _, rfl, _, rfl, b, nd, rs, wl.places.length, g, N, d1, left, rfl, LG3, G.same s3, t.ok.to g hgm, leadsTo N d1 left g, rfl, ite2 (fun h3 => ?_) (fun h3 => ⟨_, _, rfl, s3, no ?_⟩)⟩
          · refine ⟨_, rfl, _, rfl, two_size, fun q hq => k _ q d1 i (s3.tr_new hq) upd_same ⟨hd1, hno, ?_⟩ hg1⟩
            unfold legAt
            refine find_range_some hil ?_ hj
            rw [hg, Option.any_some, leads_to, h2, h3]
            rfl
          · rw [leads_to, h2, Bool.true_and]
            exact Bool.not_eq_true _ |>.mp h3
        · rw [leads_to]
          have h2 : (g.from_ == p) = false := by
            simp at h
            simp
            omega
          rw [h2]
          rfl
      · rintro σ H2 ⟨w5, w6, rfl, s2, hj⟩
        rw [List.length_map, hal] at hj
        have hnone : legAt wl N p d1 left = none := by
          unfold legAt
          refine List.find?_eq_none.mpr fun j hj' => ?_
          rw [hj j (List.mem_range.mp hj')]
          simp
        obtain ⟨q1, q2⟩ := stay_on t hp (by omega) hN1 hl (legAt_none hnone)
        refine ⟨_, rfl, _, _, rfl, rfl, ⟨d1 + 1, w5, w6, rfl, s2, by omega, q1, q2, fun e h1 h2 => ?_⟩, ?_⟩
        · by_cases z : e = d1
          · rw [z]
            exact hnone
          · exact hno e h1 (by omega)
        · show 401 - (((d1 : Int) + 1).toNat) < 401 - ((d1 : Int).toNat)
          omega
    · intro σ H' Q1 Q2 hq h
      obtain ⟨b, hb, h⟩ := h
      exact ⟨b, hb, hq _ _ h⟩
end
end SL
end
section
namespace SL
open PySem PySem.Spec PyProof.Rows L2
def encS (l : List (Nat × Nat)) : List (List Nat) := l.map fun e => [e.1, e.2]
theorem pick_len {w : Vbexaa.Land} {y goal : Nat} : ∀ (f p d : Nat), (Vbexaa.pick w (Vbexaa.fewest w y goal goal) goal f p d).length ≤ f
  | 0, _, _ => Nat.le_refl _
  | f + 1, p, d => by
    rw [pick_succ]
    split
    · exact Nat.zero_le _
    · cases fewAt w y goal p d with
      | none => exact Nat.zero_le _
      | some k =>
        dsimp only
        cases (List.range w.legs.length).find? (specLeg w y goal p d k) with
        | none => exact Nat.le_trans (pick_len f p (d + 1)) (by omega)
        | some i =>
          dsimp only
          cases w.legs[i]? with
          | none => exact Nat.zero_le _
          | some g =>
            dsimp only
            rw [List.length_cons]
            have := pick_len f g.to_ (d + (Vbexaa.takes g d).getD 1) (w := w) (y := y) (goal := goal)
            omega
theorem canBe_need {w : Vbexaa.Land} {G : Nat → Nat → Prop} {x t : Nat} {p d : Nat} (h : CanBe w (fun p d => p ∈ Vbexaa.fromPlace x t d) p d) : ∀ k, Need w G k p d → ∃ k', Need w G k' x t := by
  induction h with
  | start hs =>
    intro k hk
    obtain ⟨e1, e2⟩ := mem_fromPlace.mp hs
    have e2 := List.mem_singleton.mp e2
    rw [e1, e2] at hk
    exact ⟨k, hk⟩
  | stay _ hs ih => exact fun k hk => ih k (.stay hs hk)
  | go hg _ ht ih => exact fun k hk => ih (k + 1) (.go hg ht hk)
section
variable {P : Program} {w : World} {K : PySem.W.Frag} {mg : Str → Option Value} {base : Heap}
theorem ok_way_to (T : Txt K mg) : Df P w K mg base "way_to" 4 ["land", "place", "day", "goal", "goal_day"] (fun vs H Q _ => ∃ (lo : Addr) (wl : Vbexaa.Land) (x t y goal : Nat), vs = [.ref lo, .int x, .int t, .int y, .int goal] ∧ Lnd mg H lo wl ∧ x < wl.places.length ∧ y < wl.places.length ∧ goal ≤ 400 ∧ t ≤ goal ∧ (∃ k, Need wl (At y goal) k x t) ∧
    ∀ H' q, Same H H' → TupsAt H' q (encS (Vbexaa.itinerary wl x t y goal)) → Q (.ref q) H') := by
  have sc := sc_way_to
  have D_starts_needed := ok_starts_needed (P := P) (w := w) (base := base) T
  have D_next_start := ok_next_start (P := P) (w := w) (base := base) T
  have D_arrival := ok_arrival (P := P) (w := w) (base := base) T
  refine df_of T.f_way_to sc (fun vs H Q E h => ?_) (fun f cdv A outer s H vs Q E hr h => ?_)
  · obtain ⟨lo, wl, x, t, y, goal, rfl, _⟩ := h
    rfl
  · obtain ⟨lo, wl, x, t, y, goal, rfl, LN, hx, hy, hg4, htg, hne, k⟩ := h
    have big := line_big
    refine ⟨_, (pss_cons (ps_set (i := 5) sc.nd rfl (Or.inl rfl) (pe_df D_starts_needed hr.m rfl (pa_cons (pv 0) (pa_cons (pv 3) (pa_cons (pe_lst (pa_cons (pv 4) pa_nil)) pa_nil)))))
      (pss_cons (ps_set (i := 6) sc.nd rfl (Or.inl rfl) (pe_lst pa_nil))
      (pss_cons (ps_while PassesOwn.never (pt_cmpR op_gt (pe_ix ix_list (pe_ix ix_list (pv 5) (pv 1) (fun _ _ => rfl)) (pv 2) (fun _ _ => rfl)) pe_int (nomark _))
        (pss_cons (ps_set (i := 7) sc.nd rfl (Or.inl rfl) (pe_df D_next_start hr.m rfl (pa_cons (pv 0) (pa_cons (pv 1) (pa_cons (pv 2) (pa_cons (pv 5) pa_nil))))))
        (pss_cons (ps_set (i := 8) sc.nd rfl (Or.inl rfl) (pe_ix ix_list (pe_fld (pv 0) rfl) (pe_ix ix_tup (pv 7) pe_int (fun _ _ => rfl)) (fun _ _ => rfl)))
        (pss_cons (ps_expr (pe_bm PySem.F.plainAttrs_list PySem.F.slot_list_append PySem.F.type_list_append mt_append (pv 6) (pa_cons (pv 7) pa_nil)))
        (pss_cons (ps_set (i := 1) sc.nd rfl (Or.inl rfl) (pe_fld (pv 8) rfl))
        (pss_one (ps_set (i := 2) sc.nd rfl (Or.inl rfl) (pe_df D_arrival hr.m rfl (pa_cons (pv 8) (pa_cons (pe_ix ix_tup (pv 7) pe_int (fun _ _ => rfl)) pa_nil))))))))))
      (pss_one (ps_ret (pv 6)))))), ?_⟩
    refine ⟨_, rfl, _, rfl, _, rfl, one_size, fun l hl => ⟨lo, l, wl, y, [goal], rfl, LN.same (Same.new hl), hy, upd_same, fun d hd => ?_, fun H1 nd rs N s1 G T1 => ?_⟩⟩
    · have e : d = goal := by simpa using hd
      omega
    · have s01 := (Same.new (o := .lst [.int (goal : Int)]) hl).trans s1
      have tb : Tab wl y goal N := ⟨LN.ok, hg4, T1⟩
      have LA1 := LN.at_.same s01
      have hNx : N x t < 1000 := (tab_iff LN.ok (fun p d h => Nat.le_trans (at_le p d h) hg4) T1 hx (by omega)).mpr hne
      rw [itinerary_pk LN.ok hg4] at k
      have hlen : (pk wl y goal x t).length ≤ goal - t := pick_len (goal - t) x t
      generalize htot : encS (pk wl y goal x t) = tot at k
      have htl : tot.length ≤ 400 := by
        rw [← htot]
        unfold encS
        rw [List.length_map]
        omega
      refine ⟨Nat.zero_le _, fun sp hsp => ?_⟩
      dsimp only [gName, tSeq]
      refine while_by (fun σ H' => ∃ p d v7 v8 done, σ = [some (.ref lo), some (.int ((p : Nat) : Int)), some (.int ((d : Nat) : Int)), some (.int y), some (.int goal), some (.ref nd), some (.ref sp), v7, v8] ∧ Same H1 H' ∧ TupsAt H' sp done ∧ p < wl.places.length ∧ d ≤ goal ∧ N p d < 1000 ∧ done ++ encS (pk wl y goal p d) = tot) (fun σ _ => 401 - dayOf σ)
        ⟨x, t, none, none, [], rfl, Same.new hsp, ⟨[], upd_same, .nil⟩, hx, htg, hNx, by rw [← htot]; rfl⟩ ?_ ?_
      · rintro σ H2 ⟨p, d, v7, v8, done, rfl, s2, ⟨ts, t1, t2⟩, hp, hd, hN, htd⟩
        obtain ⟨r, hr1, hr2, hr3, hr4⟩ := (G.same s2).at_ hp
        have htl2 := paired_len t2
        have hdl : done.length ≤ 400 := by
          have e := congrArg List.length htd
          rw [List.length_append] at e
          omega
        refine ⟨_, rfl, _, rfl, nd, _, _, _, rfl, rfl, SqL.of (s2 _ _ G.top), at_of (j := p) rfl hr3, _, rfl, r, _, _, _, rfl, rfl, SqL.of hr4, at_of (j := d) rfl (days_get _ (by omega)), _, _, rfl, rfl, _, rfl, ite2 (fun h => ?_) (fun h => ?_)⟩
        · have h0 : 0 < N p d := by
            rw [decide_eq_true_eq] at h
            omega
          obtain ⟨left, hleft⟩ : ∃ left, N p d = left + 1 := ⟨N p d - 1, by omega⟩
          refine ⟨_, rfl, _, rfl, _, rfl, _, rfl, lo, nd, rs, wl, N, y, goal, p, d, left, rfl, LA1.same s2, G.same s2, tb, hp, hd, hleft, by omega, fun H3 q d' i s3 hq nx hd' => ?_⟩
          obtain ⟨g, hg, hgm, hlead⟩ := legAt_some nx.yes
          obtain ⟨hfr, n, hn, hn4, hNn⟩ := leads_iff.mp hlead
          have harr : arr g d' = some (d' + n) := by
            unfold arr
            rw [hn]
            rfl
          have hn1 := LN.ok.tk g hgm d' n hn
          have hup := tb.up (LN.ok.to g hgm) hn4 (by omega)
          have hpk := pk_next tb hp (by omega) hg harr (d' - d) d (by have := nx.le; omega) hd hleft nx
          have s23 := s2.trans s3
          obtain ⟨dx3, l3, st3, ss3, f1, ⟨as, g1, g2⟩, GS⟩ := LA1.same s23
          obtain ⟨c, hc, LG⟩ := Paired.get g2 hg
          have hcv : (as.map V.ref)[i]? = some (V.ref c) := by rw [List.getElem?_map, hc]; rfl
          obtain ⟨dg, wa, f2, _⟩ := id LG
          have hsp3 := s3 _ _ t1
          refine ⟨_, rfl, lo, _, dx3, _, _, rfl, f1, T.k_Land.cl, T.n_Land_legs, rfl, _, rfl, q, _, _, _, rfl, rfl, SqT.of hq, at_of (j := 1) rfl rfl, l3, _, _, _, rfl, rfl, SqL.of g1, at_of rfl hcv, ?_⟩
          refine ⟨_, rfl, .inl ⟨rfl, _, SqL.of hsp3⟩, _, rfl, sp, _, _, rfl, rfl, hsp3, by rw [List.length_map]; omega, ?_⟩
          have nsp : ∀ {b : Addr} {o : HO}, H3 b = some o → (∀ xs, o ≠ .lst xs) → b ≠ sp := fun e z => ne_of e hsp3 (fun y => z _ y)
          have s4 : Same H1 (upd H3 sp (.lst (ts.map V.ref ++ [.ref q]))) := s23.upd hsp
          obtain ⟨dx4, l4, st4, ss4, f14, ⟨as4, g14, g24⟩, GS4⟩ := LA1.same s4
          have f24 : (upd H3 sp (.lst (ts.map V.ref ++ [.ref q]))) c = some (.ins (clsOf mg "Leg") dg (lgF (.int g.from_) (.int g.to_) (.ref wa))) := by
            rw [upd_ne (nsp f2 (fun xs z => by cases z))]
            exact f2
          have hq4 : (upd H3 sp (.lst (ts.map V.ref ++ [.ref q]))) q = some (.tup (vN [d', i])) := by
            rw [upd_ne (nsp hq (fun xs z => by cases z))]
            exact hq
          obtain ⟨dx1, l1, st1, ss1, f11, ⟨as1, g11, g21⟩, GS1⟩ := id LA1
          have e_l : l3 = l1 := by
            have z := s23 _ _ f11
            rw [f1] at z
            injection z with z
            injection z with z1 z2 z3
            have z4 : V.ref l3 = V.ref l1 := congrArg (fun fs : List (Str × V) => match fs with | (_, v) :: _ => v | [] => .non) z3
            exact V.ref.inj z4
          have e_as : as = as1 := by
            have z := s23 _ _ g11
            rw [← e_l, g1] at z
            injection z with z
            injection z with z
            exact (List.map_inj_right (fun a b h => V.ref.inj h)).mp z
          obtain ⟨c1, hc1, LG1⟩ := Paired.get g21 hg
          have ec : c1 = c := by
            rw [e_as, hc1] at hc
            exact Option.some.inj hc
          subst ec
          have LG4 := LG1.same s4
          refine ⟨_, rfl, c1, _, dg, _, _, rfl, f24, T.k_Leg.cl, T.n_Leg_end, rfl, ?_⟩
          refine ⟨_, rfl, _, rfl, q, _, _, _, rfl, rfl, SqT.of hq4, at_of (j := 0) rfl rfl, c1, g, d', rfl, LG4, ?_⟩
          rw [harr]
          refine ⟨⟨g.to_, d' + n, _, _, done ++ [[d', i]], rfl, s4, ⟨ts ++ [q], by rw [upd_same, List.map_append]; rfl, Paired.app (Paired.same t2 fun b u e => ?_) (Paired.one hq4)⟩, LN.ok.to g hgm, by omega, by omega, ?_⟩, ?_⟩
          · have e3 := s3 _ _ e
            rw [upd_ne (nsp e3 (fun xs z => by cases z))]
            exact e3
          · rw [← htd, hpk]
            simp [encS]
          · show 401 - (((d' + n : Nat) : Int).toNat) < 401 - ((d : Int).toNat)
            have := nx.le
            omega
        · have h0 : N p d = 0 := by
            rw [decide_eq_true_eq] at h
            omega
          rw [pk_zero tb hp (goal - d) d (by omega) hd h0] at htd
          have e : done = tot := by
            rw [← htd]
            simp [encS]
          subst e
          exact ⟨_, rfl, k _ _ (s01.trans s2) ⟨ts, t1, t2⟩⟩
      · intro σ H' Q1 Q2 hq h
        obtain ⟨a1, a2, a3, a4, a5, a6, a7, a8, a9, a10, a11, a12, a13, a14, a15, a16, a17, a18, a19, a20, a21, a22, a23, a24, a25, a26, a27, a28, h⟩ := h
        exact ⟨a1, a2, a3, a4, a5, a6, a7, a8, a9, a10, a11, a12, a13, a14, a15, a16, a17, a18, a19, a20, a21, a22, a23, a24, a25, a26, a27, a28, hq _ _ h⟩
def gWay (st : Vbexaa.St) (ns _row : List Int) : Vbexaa.St × List Int := Vbexaa.step st (.way (ns.getD 0 0) (ns.getD 1 0) (ns.getD 2 0))
def wayTold (l : List (Nat × Nat)) : List Int := l.flatMap fun e => [(e.1 : Int), (e.2 : Int)]
theorem wayTold_snoc (l : List (Nat × Nat)) (e : Nat × Nat) : (wayTold (l ++ [e])).map V.int = (wayTold l).map V.int ++ vN [e.1, e.2] := by
  unfold wayTold
  rw [List.flatMap_append, List.flatMap_cons, List.flatMap_nil, List.append_nil, List.map_append]
  rfl
theorem wayTold_len : ∀ (l : List (Nat × Nat)), (wayTold l).length = 2 * l.length
  | [] => rfl
  | e :: l => by
    have ih := wayTold_len l
    unfold wayTold at ih ⊢
    rw [List.flatMap_cons, List.length_append, List.length_cons, ih]
    simp only [List.length_cons, List.length_nil]
    omega
def wayAns (wl : Vbexaa.Land) (x t y : Nat) : Option (List Nat) → List Int
  | none => [-1]
  | some [] => [-9]
  | some (d :: _) => (d : Int) :: ((Vbexaa.itinerary wl x t y d).length : Int) :: wayTold (Vbexaa.itinerary wl x t y d)
theorem way_eq {st : Vbexaa.St} {x t y : Int} {row : List Int} : gWay st [x, t, y] row = (st, wayAns (Vbexaa.landOf st.lines) x.toNat t.toNat y.toNat (daysAsked (Vbexaa.landOf st.lines) x t y)) := by
  show Vbexaa.step st (.way x t y) = _
  rw [asked_of]
  cases h : (Vbexaa.isPlace st x && (Vbexaa.isDay t && Vbexaa.isPlace st y)) with
  | false => exact step_no (c := .way x t y) h
  | true =>
    rw [step_yes (c := .way x t y) h, if_pos rfl]
    unfold Vbexaa.act
    dsimp only
    cases Vbexaa.daysAt (Vbexaa.reach (Vbexaa.landOf st.lines) (Vbexaa.fromPlace x.toNat t.toNat)) y.toNat <;> rfl
theorem ok_call_way (T : Txt K mg) : Df P w K mg base "call_way" 8 ["sheet", "numbers", "row"] (spCall mg gWay fun ns _ => ∃ x t y, ns = [x, t, y]) := by
  have sc := sc_call_way
  have D_land_told := ok_land_told (P := P) (w := w) (base := base) T
  have D_days_there_asked := ok_days_there_asked (P := P) (w := w) (base := base) T
  have D_way_to := ok_way_to (P := P) (w := w) (base := base) T
  refine df_of T.f_call_way sc (fun vs H Q E h => ?_) (fun f cdv A outer s H vs Q E hr h => ?_)
  · obtain ⟨sh, nb, rw, M, st, ns, row, rfl, _⟩ := h
    rfl
  · obtain ⟨sh, nb, rw, M, st, ns, row, rfl, S, hnb, hrw, ⟨x, t, y, rfl⟩, k⟩ := h
    have big := line_big
    refine ⟨_, (pss_cons (ps_set (i := 3) sc.nd rfl (Or.inl rfl) (pe_df D_land_told hr.m rfl (pa_cons (pe_fld (pv 0) rfl) pa_nil)))
      (pss_cons (ps_set (i := 4) sc.nd rfl (Or.inl rfl) (pe_df D_days_there_asked hr.m rfl (pa_cons (pv 3) (pa_cons (pv 1) pa_nil))))
      (pss_cons (ps_if (pt_cmpR op_isN (pv 4) pe_non (nomark _))
        (pss_one (ps_ret (pe_lst (pa_cons (pe_gc rfl T.c_OUT_OF_RANGE) pa_nil))))
        pss_nil)
      (pss_cons (ps_if (pt_not (pt_truth (pv 4) (fun _ => rfl)))
        (pss_one (ps_ret (pe_lst (pa_cons (pe_gc rfl T.c_NO_DAY) pa_nil))))
        pss_nil)
      (pss_cons (ps_set (i := 5) sc.nd rfl (Or.inl rfl) (pe_df D_way_to hr.m rfl (pa_cons (pv 3) (pa_cons (pe_ix ix_list (pv 1) pe_int (fun _ _ => rfl)) (pa_cons (pe_ix ix_list (pv 1) pe_int (fun _ _ => rfl)) (pa_cons (pe_ix ix_list (pv 1) pe_int (fun _ _ => rfl)) (pa_cons (pe_ix ix_list (pv 4) pe_int (fun _ _ => rfl)) pa_nil)))))))
      (pss_cons (ps_set (i := 6) sc.nd rfl (Or.inl rfl) (pe_lst (pa_cons (pe_ix ix_list (pv 4) pe_int (fun _ _ => rfl)) (pa_cons (pe_callB call_len_seq (by rfl) T.b_len PySem.boot_len (pa_cons (pv 5) pa_nil)) pa_nil))))
      (pss_cons (ps_for PassesOwn.never rfl (pi_list (pv 5)) (pg_name (i := 7) sc.nd rfl (Or.inl rfl))
        (pss_one (ps_expr (pe_bm PySem.F.plainAttrs_list PySem.F.slot_list_extend PySem.F.type_list_extend mt_extT (pv 6) (pa_cons (pv 7) pa_nil)))))
      (pss_one (ps_ret (pv 6)))))))))), ?_⟩
    obtain ⟨dx, l, e1, u1, o1, L, too⟩ := S.lines
    have hsz := too_len too
    rw [way_eq] at k
    refine ⟨_, rfl, sh, _, dx, _, _, rfl, o1, T.k_Sheet.cl, T.n_Sheet_lines, rfl, l, st.lines, rfl, L.same hide_same, by omega, fun H1 lo s1 LA => ?_⟩
    have LN := sheet_lnd S LA
    have hn1 := s1 _ _ (hide_same _ _ hnb)
    refine ⟨_, rfl, _, rfl, lo, nb, _, x, t, y, rfl, LN, hn1, fun H2 v s2 hv => ?_⟩
    have s12 := s1.trans s2
    have hask : ∀ ds, daysAsked (Vbexaa.landOf st.lines) x t y = some ds → (inPl (Vbexaa.landOf st.lines).places.length x && (inPl (Vbexaa.landOf st.lines).places.length y && Vbexaa.isDay t)) = true ∧ ds = Vbexaa.daysAt (Vbexaa.reach (Vbexaa.landOf st.lines) (Vbexaa.fromPlace x.toNat t.toNat)) y.toNat := fun ds h => by
      unfold daysAsked at h
      split at h
      · rename_i hc
        exact ⟨hc, (Option.some.inj h).symm⟩
      · cases h
    generalize daysAsked (Vbexaa.landOf st.lines) x t y = o at k hv hask
    cases o with
    | none =>
      obtain rfl : v = .non := hv
      exact ⟨_, rfl, rfl, _, rfl, iteT ⟨one_size, fun q hq => told_one k S s12 hq rfl⟩⟩
    | some ds =>
      obtain ⟨a, rfl, ha⟩ := hv
      refine ⟨_, rfl, rfl, _, rfl, iteF ⟨_, rfl, !(vN ds).isEmpty, .inl ⟨_, SqL.of ha, rfl⟩, ?_⟩⟩
      cases ds with
      | nil => exact iteT ⟨one_size, fun q hq => told_one k S s12 hq rfl⟩
      | cons d ds =>
        obtain ⟨hc, hds⟩ := hask _ rfl
        simp only [Bool.and_eq_true] at hc
        obtain ⟨hx1, hx2⟩ := inPl_iff.mp hc.1
        obtain ⟨hy1, hy2⟩ := inPl_iff.mp hc.2.1
        obtain ⟨ht1, ht2⟩ := isDay_iff.mp hc.2.2
        obtain ⟨xn, rfl⟩ : ∃ n : Nat, x = (n : Int) := ⟨x.toNat, by omega⟩
        obtain ⟨yn, rfl⟩ : ∃ n : Nat, y = (n : Int) := ⟨y.toNat, by omega⟩
        obtain ⟨tn, rfl⟩ : ∃ n : Nat, t = (n : Int) := ⟨t.toNat, by omega⟩
        rw [Int.toNat_natCast, Int.toNat_natCast, Int.toNat_natCast] at k hds
        have hpx : xn < (Vbexaa.landOf st.lines).places.length := by omega
        have hpy : yn < (Vbexaa.landOf st.lines).places.length := by omega
        have hmem : d ∈ Vbexaa.daysAt (Vbexaa.reach (Vbexaa.landOf st.lines) (Vbexaa.fromPlace xn tn)) yn := by
          rw [← hds]
          simp
        obtain ⟨hd4, hcan⟩ := (mem_daysAt LN.ok (Vbexaa.fromPlace xn tn) (fun p d hp => by rw [(mem_fromPlace.mp hp).1]; exact hpx) yn d).mp hmem
        have hneed := canBe_need (G := At yn d) hcan 0 (.here ⟨rfl, by simp⟩)
        have htd : tn ≤ d := by
          obtain ⟨k', hk'⟩ := hneed
          have := need_le LN.ok at_le hk'
          omega
        have hn2 := s2 _ _ hn1
        refine iteF ⟨_, rfl, _, rfl, nb, _, _, _, rfl, rfl, SqL.of hn2, at_of (j := 0) rfl rfl, _, rfl, nb, _, _, _, rfl, rfl, SqL.of hn2, at_of (j := 1) rfl rfl, _, rfl, nb, _, _, _, rfl, rfl, SqL.of hn2, at_of (j := 2) rfl rfl, _, rfl, a, _, _, _, rfl, rfl, SqL.of ha, at_of (j := 0) rfl rfl, lo, _, xn, tn, yn, d, rfl, LN.same s2, hpx, hpy, hd4, htd, hneed, fun H3 q s3 TP => ?_⟩
        have s13 := s12.trans s3
        have hil : (Vbexaa.itinerary (Vbexaa.landOf st.lines) xn tn yn d).length ≤ 401 := pick_len 401 xn tn
        have k : Told mg sh M H (st, (d : Int) :: ((Vbexaa.itinerary (Vbexaa.landOf st.lines) xn tn yn d).length : Int) :: wayTold (Vbexaa.itinerary (Vbexaa.landOf st.lines) xn tn yn d)) Q := k
        generalize Vbexaa.itinerary (Vbexaa.landOf st.lines) xn tn yn d = it at k TP hil
        obtain ⟨as, t1, t2⟩ := TP
        have htl := paired_len t2
        have hel : (encS it).length = it.length := by unfold encS; rw [List.length_map]
        refine ⟨_, rfl, a, _, _, _, rfl, rfl, SqL.of (s3 _ _ ha), at_of (j := 0) rfl rfl, _, rfl, q, _, rfl, .inl (SqL.of t1), two_size, fun p hp => ?_⟩
        have e0 : ((as.map V.ref).length : Int) = (it.length : Int) := by rw [List.length_map, htl, hel]
        refine ⟨_, rfl, q, rfl, ⟨_, SqL.of (Same.new hp _ _ t1)⟩, for_list (K := K) (a := q) (xs := as.map V.ref) (fun i σ H' => ∃ v, σ = [some (.ref sh), some (.ref nb), some (.ref rw), some (.ref lo), some (.ref a), some (.ref q), some (.ref p), v] ∧ Same H3 H' ∧ H' p = some (.lst (V.int (d : Int) :: V.int (it.length : Int) :: (wayTold (it.take i)).map V.int)))
          ⟨none, rfl, Same.new hp, by rw [upd_same, e0]; rfl⟩ (fun i σ H' _ ⟨_, _, s5, _⟩ => SqL.of (s5 _ _ t1)) ?_ ?_⟩
        · rintro i z σ H' hi ⟨v, rfl, s5, hp5⟩
          obtain ⟨b, hb, rfl⟩ := refs_of hi
          obtain ⟨u, hu, f1⟩ := Paired.getL t2 hb
          unfold encS at hu
          rw [List.getElem?_map] at hu
          obtain ⟨e, he, rfl⟩ := Option.map_eq_some_iff.mp hu
          have tk := take_one he
          have wl_ := wayTold_len (it.take i)
          rw [List.length_take] at wl_
          refine ⟨_, rfl, .inl ⟨rfl, _, SqL.of hp5⟩, _, rfl, p, b, _, _, rfl, rfl, hp5, SqT.of (s5 _ _ f1), ?_, _, rfl, s5.upd hp, ?_⟩
          · rw [List.length_cons, List.length_cons, List.length_map, vN_len]
            simp only [List.length_cons, List.length_nil]
            omega
          · rw [upd_same, tk, wayTold_snoc]
            rfl
        · rintro σ H' ⟨v, rfl, s5, hp5⟩
          rw [List.length_map, htl, hel, List.take_length] at hp5
          exact ⟨_, rfl, told_pure k S (s13.trans s5) (s13.free hp) (by rw [hp5]; rfl)⟩
end
end SL
end
section
namespace SL
open PySem PySem.Spec PyProof.Rows L2
theorem len2 {ns : List Int} (h : ns.length = 2) : ∃ a b, ns = [a, b] := by
  match ns, h with
  | [a, b], _ => exact ⟨a, b, rfl⟩
theorem len3 {ns : List Int} (h : ns.length = 3) : ∃ a b c, ns = [a, b, c] := by
  match ns, h with
  | [a, b, c], _ => exact ⟨a, b, c, rfl⟩
theorem len5 {ns : List Int} (h : ns.length = 5) : ∃ a b c d e, ns = [a, b, c, d, e] := by
  match ns, h with
  | [a, b, c, d, e], _ => exact ⟨a, b, c, d, e, rfl⟩
theorem step_when : StepOk 9 3 0 gWhen fun ns _ => ∃ x t y, ns = [x, t, y] := fun st ns row h1 h2 _ => by
  obtain ⟨a, b, c, rfl⟩ := len3 h1
  exact ⟨⟨a, b, c, rfl⟩, rfl⟩
theorem step_days : StepOk 10 3 0 gDays fun ns _ => ∃ x t y, ns = [x, t, y] := fun st ns row h1 h2 _ => by
  obtain ⟨a, b, c, rfl⟩ := len3 h1
  exact ⟨⟨a, b, c, rfl⟩, rfl⟩
theorem step_latest : StepOk 11 3 0 gLatest fun ns _ => ∃ x y t, ns = [x, y, t] := fun st ns row h1 h2 _ => by
  obtain ⟨a, b, c, rfl⟩ := len3 h1
  exact ⟨⟨a, b, c, rfl⟩, rfl⟩
theorem step_safe : StepOk 12 3 0 gSafe fun ns _ => ∃ x y t, ns = [x, y, t] := fun st ns row h1 h2 _ => by
  obtain ⟨a, b, c, rfl⟩ := len3 h1
  exact ⟨⟨a, b, c, rfl⟩, rfl⟩
theorem step_way : StepOk 13 3 0 gWay fun ns _ => ∃ x t y, ns = [x, t, y] := fun st ns row h1 h2 _ => by
  obtain ⟨a, b, c, rfl⟩ := len3 h1
  exact ⟨⟨a, b, c, rfl⟩, rfl⟩
theorem step_check : StepOk 14 2 1 gCheck fun ns row => (∃ x t, ns = [x, t]) ∧ row.length ≤ 70 := fun st ns row h1 _ h3 => by
  obtain ⟨a, b, rfl⟩ := len2 h1
  refine ⟨⟨⟨a, b, rfl⟩, ?_⟩, rfl⟩
  have q : ((PyInside.within (-1000000000000000000) 1000000000000000000 a && (PyInside.within (-1000000000000000000) 1000000000000000000 b && true)) && (decide (0 ≤ row.length) && decide (row.length ≤ 70) && row.all (PyInside.within (-1000000000000000000) 1000000000000000000) && true)) = true := h3
  simp only [Bool.and_eq_true, decide_eq_true_eq] at q
  exact q.2.1.1.2
theorem step_around : StepOk 15 5 0 gAround fun ns _ => ∃ x t y c last, ns = [x, t, y, c, last] := fun st ns row h1 h2 _ => by
  obtain ⟨a, b, c, d, e, rfl⟩ := len5 h1
  exact ⟨⟨a, b, c, d, e, rfl⟩, rfl⟩
theorem step_open_legs : StepOk 16 1 0 gOpen fun ns _ => ∃ d, ns = [d] := fun st ns row h1 h2 _ => by
  obtain ⟨a, rfl⟩ := len1 h1
  exact ⟨⟨a, rfl⟩, rfl⟩
theorem step_stay : StepOk 17 2 0 gStay fun ns _ => ∃ x d, ns = [x, d] := fun st ns row h1 h2 _ => by
  obtain ⟨a, b, rfl⟩ := len2 h1
  exact ⟨⟨a, b, rfl⟩, rfl⟩
end SL
end
section
namespace SL
open PySem PySem.Spec PyProof.Rows L2
def DeskC {K : PySem.W.Frag} {h : Heap} (_ : K.In h) (mg : Str → Option Value) (P : Program) (w : World) : Prop := ∃ d f, ∀ base : Heap, Desk P w K mg base d f
theorem binds_any {K : PySem.W.Frag} {f : Addr} {fd : FuncData} (F : Fun K "answers" "answers" s_answers f fd) : ∀ (s : Shared) (us : List Value), us.length = (["calls"] : List Str).length → BindsTo s fd ⟨us, []⟩ ((["calls"] : List Str).zip us) := fun s us hu => by
  obtain ⟨oc, od, kV, doc, pm, an, cdv, ct, osl, rfl, lk, hcd⟩ := F.ex
  match us, hu with
  | [_], _ => exact .of_eq rfl
theorem desk_mk {P : Program} {w : World} {K : PySem.W.Frag} {h : Heap} {mg : Str → Option Value} {d : Addr} {es : Array DictEntry} {ep : Nat} {ta0 fa0 : Addr} {od0 : Option Addr} {sl0 : Array (Option Value)} {tk0 : Tok} {m0 : Nat}
    {ta1 fa1 : Addr} {od1 : Option Addr} {sl1 : Array (Option Value)} {tk1 : Tok} {m1 : Nat}
    {ta2 fa2 : Addr} {od2 : Option Addr} {sl2 : Array (Option Value)} {tk2 : Tok} {m2 : Nat}
    {ta3 fa3 : Addr} {od3 : Option Addr} {sl3 : Array (Option Value)} {tk3 : Tok} {m3 : Nat}
    {ta4 fa4 : Addr} {od4 : Option Addr} {sl4 : Array (Option Value)} {tk4 : Tok} {m4 : Nat}
    {ta5 fa5 : Addr} {od5 : Option Addr} {sl5 : Array (Option Value)} {tk5 : Tok} {m5 : Nat}
    {ta6 fa6 : Addr} {od6 : Option Addr} {sl6 : Array (Option Value)} {tk6 : Tok} {m6 : Nat}
    {ta7 fa7 : Addr} {od7 : Option Addr} {sl7 : Array (Option Value)} {tk7 : Tok} {m7 : Nat}
    {ta8 fa8 : Addr} {od8 : Option Addr} {sl8 : Array (Option Value)} {tk8 : Tok} {m8 : Nat}
    {ta9 fa9 : Addr} {od9 : Option Addr} {sl9 : Array (Option Value)} {tk9 : Tok} {m9 : Nat}
    {ta10 fa10 : Addr} {od10 : Option Addr} {sl10 : Array (Option Value)} {tk10 : Tok} {m10 : Nat}
    {ta11 fa11 : Addr} {od11 : Option Addr} {sl11 : Array (Option Value)} {tk11 : Tok} {m11 : Nat}
    {ta12 fa12 : Addr} {od12 : Option Addr} {sl12 : Array (Option Value)} {tk12 : Tok} {m12 : Nat}
    {ta13 fa13 : Addr} {od13 : Option Addr} {sl13 : Array (Option Value)} {tk13 : Tok} {m13 : Nat}
    {ta14 fa14 : Addr} {od14 : Option Addr} {sl14 : Array (Option Value)} {tk14 : Tok} {m14 : Nat}
    {ta15 fa15 : Addr} {od15 : Option Addr} {sl15 : Array (Option Value)} {tk15 : Tok} {m15 : Nat}
    {ta16 fa16 : Addr} {od16 : Option Addr} {sl16 : Array (Option Value)} {tk16 : Tok} {m16 : Nat}
    {ta17 fa17 : Addr} {od17 : Option Addr} {sl17 : Array (Option Value)} {tk17 : Tok} {m17 : Nat}
    (X : K.In h) (G : h.Ns mainGlobals mg) (T : Txt K mg) (a : PySem.W.nsIn K mainGlobals "CALLS" = some (some (.ref d))) (l : K.lookup d = some ⟨.type "dict", none, .dict es ep, #[]⟩) (ko : es.toList.all okE = true)
    (e0 : findBy (mixKind P w).is es (.inl 0) = some (.ref ta0)) (t0 : K.lookup ta0 = some ⟨.type "tuple", od0, .seq #[.int ((0 : Nat) : Int) tk0, .bool ((1 : Nat) == 1), .ref fa0] m0, sl0⟩) (m0 : PySem.W.nsIn K mainGlobals "call_text" = some (some (.ref fa0)))
    (e1 : findBy (mixKind P w).is es (.inl 1) = some (.ref ta1)) (t1 : K.lookup ta1 = some ⟨.type "tuple", od1, .seq #[.int ((1 : Nat) : Int) tk1, .bool ((1 : Nat) == 1), .ref fa1] m1, sl1⟩) (m1 : PySem.W.nsIn K mainGlobals "call_put" = some (some (.ref fa1)))
    (e2 : findBy (mixKind P w).is es (.inl 2) = some (.ref ta2)) (t2 : K.lookup ta2 = some ⟨.type "tuple", od2, .seq #[.int ((1 : Nat) : Int) tk2, .bool ((0 : Nat) == 1), .ref fa2] m2, sl2⟩) (m2 : PySem.W.nsIn K mainGlobals "call_cut" = some (some (.ref fa2)))
    (e3 : findBy (mixKind P w).is es (.inl 3) = some (.ref ta3)) (t3 : K.lookup ta3 = some ⟨.type "tuple", od3, .seq #[.int ((0 : Nat) : Int) tk3, .bool ((0 : Nat) == 1), .ref fa3] m3, sl3⟩) (m3 : PySem.W.nsIn K mainGlobals "call_undo" = some (some (.ref fa3)))
    (e4 : findBy (mixKind P w).is es (.inl 4) = some (.ref ta4)) (t4 : K.lookup ta4 = some ⟨.type "tuple", od4, .seq #[.int ((0 : Nat) : Int) tk4, .bool ((0 : Nat) == 1), .ref fa4] m4, sl4⟩) (m4 : PySem.W.nsIn K mainGlobals "call_redo" = some (some (.ref fa4)))
    (e5 : findBy (mixKind P w).is es (.inl 5) = some (.ref ta5)) (t5 : K.lookup ta5 = some ⟨.type "tuple", od5, .seq #[.int ((0 : Nat) : Int) tk5, .bool ((0 : Nat) == 1), .ref fa5] m5, sl5⟩) (m5 : PySem.W.nsIn K mainGlobals "call_print" = some (some (.ref fa5)))
    (e6 : findBy (mixKind P w).is es (.inl 6) = some (.ref ta6)) (t6 : K.lookup ta6 = some ⟨.type "tuple", od6, .seq #[.int ((0 : Nat) : Int) tk6, .bool ((0 : Nat) == 1), .ref fa6] m6, sl6⟩) (m6 : PySem.W.nsIn K mainGlobals "call_places" = some (some (.ref fa6)))
    (e7 : findBy (mixKind P w).is es (.inl 7) = some (.ref ta7)) (t7 : K.lookup ta7 = some ⟨.type "tuple", od7, .seq #[.int ((0 : Nat) : Int) tk7, .bool ((0 : Nat) == 1), .ref fa7] m7, sl7⟩) (m7 : PySem.W.nsIn K mainGlobals "call_legs" = some (some (.ref fa7)))
    (e8 : findBy (mixKind P w).is es (.inl 8) = some (.ref ta8)) (t8 : K.lookup ta8 = some ⟨.type "tuple", od8, .seq #[.int ((1 : Nat) : Int) tk8, .bool ((0 : Nat) == 1), .ref fa8] m8, sl8⟩) (m8 : PySem.W.nsIn K mainGlobals "call_leg" = some (some (.ref fa8)))
    (e9 : findBy (mixKind P w).is es (.inl 9) = some (.ref ta9)) (t9 : K.lookup ta9 = some ⟨.type "tuple", od9, .seq #[.int ((3 : Nat) : Int) tk9, .bool ((0 : Nat) == 1), .ref fa9] m9, sl9⟩) (m9 : PySem.W.nsIn K mainGlobals "call_when" = some (some (.ref fa9)))
    (e10 : findBy (mixKind P w).is es (.inl 10) = some (.ref ta10)) (t10 : K.lookup ta10 = some ⟨.type "tuple", od10, .seq #[.int ((3 : Nat) : Int) tk10, .bool ((0 : Nat) == 1), .ref fa10] m10, sl10⟩) (m10 : PySem.W.nsIn K mainGlobals "call_days" = some (some (.ref fa10)))
    (e11 : findBy (mixKind P w).is es (.inl 11) = some (.ref ta11)) (t11 : K.lookup ta11 = some ⟨.type "tuple", od11, .seq #[.int ((3 : Nat) : Int) tk11, .bool ((0 : Nat) == 1), .ref fa11] m11, sl11⟩) (m11 : PySem.W.nsIn K mainGlobals "call_latest" = some (some (.ref fa11)))
    (e12 : findBy (mixKind P w).is es (.inl 12) = some (.ref ta12)) (t12 : K.lookup ta12 = some ⟨.type "tuple", od12, .seq #[.int ((3 : Nat) : Int) tk12, .bool ((0 : Nat) == 1), .ref fa12] m12, sl12⟩) (m12 : PySem.W.nsIn K mainGlobals "call_safe" = some (some (.ref fa12)))
    (e13 : findBy (mixKind P w).is es (.inl 13) = some (.ref ta13)) (t13 : K.lookup ta13 = some ⟨.type "tuple", od13, .seq #[.int ((3 : Nat) : Int) tk13, .bool ((0 : Nat) == 1), .ref fa13] m13, sl13⟩) (m13 : PySem.W.nsIn K mainGlobals "call_way" = some (some (.ref fa13)))
    (e14 : findBy (mixKind P w).is es (.inl 14) = some (.ref ta14)) (t14 : K.lookup ta14 = some ⟨.type "tuple", od14, .seq #[.int ((2 : Nat) : Int) tk14, .bool ((1 : Nat) == 1), .ref fa14] m14, sl14⟩) (m14 : PySem.W.nsIn K mainGlobals "call_check" = some (some (.ref fa14)))
    (e15 : findBy (mixKind P w).is es (.inl 15) = some (.ref ta15)) (t15 : K.lookup ta15 = some ⟨.type "tuple", od15, .seq #[.int ((5 : Nat) : Int) tk15, .bool ((0 : Nat) == 1), .ref fa15] m15, sl15⟩) (m15 : PySem.W.nsIn K mainGlobals "call_around" = some (some (.ref fa15)))
    (e16 : findBy (mixKind P w).is es (.inl 16) = some (.ref ta16)) (t16 : K.lookup ta16 = some ⟨.type "tuple", od16, .seq #[.int ((1 : Nat) : Int) tk16, .bool ((0 : Nat) == 1), .ref fa16] m16, sl16⟩) (m16 : PySem.W.nsIn K mainGlobals "call_open_legs" = some (some (.ref fa16)))
    (e17 : findBy (mixKind P w).is es (.inl 17) = some (.ref ta17)) (t17 : K.lookup ta17 = some ⟨.type "tuple", od17, .seq #[.int ((2 : Nat) : Int) tk17, .bool ((0 : Nat) == 1), .ref fa17] m17, sl17⟩) (m17 : PySem.W.nsIn K mainGlobals "call_stay" = some (some (.ref fa17))) : DeskC X mg P w := by
  refine ⟨d, _, fun base => ⟨PySem.W.mg_of X G a, td_mk l ko, fun p n k hs => ?_⟩⟩
  rcases shape_cases hs with ⟨rfl, rfl, rfl⟩ | ⟨rfl, rfl, rfl⟩ | ⟨rfl, rfl, rfl⟩ | ⟨rfl, rfl, rfl⟩ | ⟨rfl, rfl, rfl⟩ | ⟨rfl, rfl, rfl⟩ | ⟨rfl, rfl, rfl⟩ | ⟨rfl, rfl, rfl⟩ | ⟨rfl, rfl, rfl⟩ | ⟨rfl, rfl, rfl⟩ | ⟨rfl, rfl, rfl⟩ | ⟨rfl, rfl, rfl⟩ | ⟨rfl, rfl, rfl⟩ | ⟨rfl, rfl, rfl⟩ | ⟨rfl, rfl, rfl⟩ | ⟨rfl, rfl, rfl⟩ | ⟨rfl, rfl, rfl⟩ | ⟨rfl, rfl, rfl⟩
  · exact ent_mk X G e0 t0 m0 (ok_call_text T) step_text
  · exact ent_mk X G e1 t1 m1 (ok_call_put T) step_put
  · exact ent_mk X G e2 t2 m2 (ok_call_cut T) step_cut
  · exact ent_mk X G e3 t3 m3 (ok_call_undo T) step_undo
  · exact ent_mk X G e4 t4 m4 (ok_call_redo T) step_redo
  · exact ent_mk X G e5 t5 m5 (ok_call_print T) step_print
  · exact ent_mk X G e6 t6 m6 (ok_call_places T) step_places
  · exact ent_mk X G e7 t7 m7 (ok_call_legs T) step_legs
  · exact ent_mk X G e8 t8 m8 (ok_call_leg T) step_leg
  · exact ent_mk X G e9 t9 m9 (ok_call_when T) step_when
  · exact ent_mk X G e10 t10 m10 (ok_call_days T) step_days
  · exact ent_mk X G e11 t11 m11 (ok_call_latest T) step_latest
  · exact ent_mk X G e12 t12 m12 (ok_call_safe T) step_safe
  · exact ent_mk X G e13 t13 m13 (ok_call_way T) step_way
  · exact ent_mk X G e14 t14 m14 (ok_call_check T) step_check
  · exact ent_mk X G e15 t15 m15 (ok_call_around T) step_around
  · exact ent_mk X G e16 t16 m16 (ok_call_open_legs T) step_open_legs
  · exact ent_mk X G e17 t17 m17 (ok_call_stay T) step_stay
end SL
end
section
namespace PySem.W.Fast
def tw14081641990028395619:=0
def tw6024537163192283622:=0
def tw6763454892020663397:=0
def tw15135461698509970126:=0
def tw2244341427419481103:=0
def tw15090269515007832273:=0
def tw12900987648303052861:=0
def tw14229217014853984926:=0
def tw7969423639366943010:=0
def tw10593359127911417812:=0
def tw16645675703638023255:=0
def tw10799126804256189160:=0
def tw5691292949020023611:=0
def tw16177175289047355793:=0
def tw16741143881063868437:=0
def tw806344295074458835:=0
def tw17236806616111436881:=0
def tw13907386951911811774:=0
def tw17530851658603314019:=0
def tw11843548473436778190:=0
def tw10364380256118653262:=0
def tw17315573511505576078:=0
def tw7204374632164627071:=0
def tw11753188956483007554:=0
def tw6807353706729452482:=0
def tw16562772854197272785:=0
def tw5101817750161181836:=0
def tw14092241513125782258:=0
def tw16947748387937465436:=0
def tw2141381742233468782:=0
def tw3593952689701507554:=0
def tw3820566510418303995:=0
def tw15144494855048413342:=0
def tw16344406175530947003:=0
def tw11507834563511091340:=0
def tw2770094887030543467:=0
def tw14866731526587130928:=0
def tw11599969461817594790:=0
def tw17224440213104145249:=0
def tw2839798164534707079:=0
def tw2718786632224768575:=0
def tw3728142484562612275:=0
def tw12850653774993796017:=0
def tw9222682363818284614:=0
def tw8574397595692954517:=0
def tw2961050745101300761:=0
def tw5229325240534229763:=0
def tw1554593915136683178:=0
def tw9938495788352811255:=0
def tw5229281590738277462:=0
def tw15545857812662555038:=0
def tw10981826716881736519:=0
def tw10023188136726392975:=0
def tw16754648302246264033:=0
def tw3136602445455769769:=0
def tw5576774161433773387:=0
def tw3326536856610300460:=0
def tw4450699355505842338:=0
def tw3559537985418077269:=0
def tw827788072566589524:=0
def tw9833274427529211312:=0
def tw4885883156576252670:=0
def tw12001684821993422743:=0
def tw16067167639582253487:=0
def tw14324105937277937069:=0
def tw11709588299162512080:=0
def tw2604939911719079091:=0
def tw2485944580885980862:=0
def tw6662911520843511046:=0
def tw11816281070470239075:=0
def tw4046015682805187184:=0
def tw17813634271403208979:=0
def tw1613006842351023337:=0
def tw16580274426753092081:=0
def tw8688229073783989656:=0
def tw749695684632197013:=0
def tw11202148826106464072:=0
def tw16070645311007839048:=0
def tw1991136354582664651:=0
def tw15890222406988948407:=0
def tw2613158365222821446:=0
def tw15719145746764765768:=0
def tw2781590041283052566:=0
def tw3003334398820603002:=0
def tw5759071865603302362:=0
def tw11547975061117635388:=0
def tw17530405012058697331:=0
def tw12176713839216875771:=0
def tw3406490764760535438:=0
def tw6763520135095358286:=0
def tw8982061860257120037:=0
def tw4842754561425085394:=0
def tw4517852621895227202:=0
def tw12198839663701176236:=0
def tw1504681044783537472:=0
def tw5311303513734964290:=0
def tw13397259602959777359:=0
def tw5982314970874211977:=0
def tw16183305750699039699:=0
def tw16526489257205770445:=0
def tw9953450602598363528:=0
def tw14636424400924834603:=0
def tw6860407533657906895:=0
def tw17038774386273264814:=0
def tw10383767282588698818:=0
def tw4734302682180997859:=0
def tw10248773775635163531:=0
def tw1738155156768398176:=0
def tw3725827025623659141:=0
def tw2438699874182788283:=0
def tw13767558102834693905:=0
def tw11435272291355385696:=0
def tw2566056716242901226:=0
def tw6314716662772184927:=0
def tw10591440237366236695:=0
def tw14282215318779980692:=0
def tw9666314203903895084:=0
def tw7813525916740560063:=0
def tw13546913145142565495:=0
def tw16501841547778541587:=0
def tw355485969278928331:=0
def tw16277883896016117605:=0
def tw9655331653537203581:=0
def tw15341935156859498098:=0
def tw10738304064043818997:=0
def tw15467592394958239754:=0
def tw2227230454658716415:=0
def tw5434206238435805108:=0
def tw619740171688667840:=0
def tw6265095375661104625:=0
def tw11079814141447069702:=0
def tw1400918671519718051:=0
def tw9924315834541526736:=0
def tw15880012513228050374:=0
def tw18052646303235275613:=0
def tw1624762447276305118:=0
def tw14878070880313619035:=0
def tw4753698878404933659:=0
def tw1092517350379525614:=0
def tw8450364695984457970:=0
def tw17744750623588869026:=0
def tw13596715716885243514:=0
def tw563253052621175170:=0
def tw1219212116180666738:=0
def tw8455141873875883696:=0
def tw5262131996196362784:=0
def tw10048057041955637567:=0
def tw10190367622113369785:=0
def tw3610690689959144200:=0
def tw5710043337124027006:=0
def tw16326783068665880810:=0
def tw12437319974711631197:=0
def tw10028965746413972730:=0
def tw10977301879655067996:=0
def tw3078965471051659670:=0
def tw2243150203420385754:=0
def tw8081504463041641134:=0
def tw17571035963365291659:=0
def tw5515288219466821447:=0
def tw8785861928898118293:=0
def tw18326802632882159485:=0
def tw306842025449860889:=0
def tw203102279610061780:=0
def tw6115938949347632501:=0
def tw7926922666313338947:=0
def tw846928787171011981:=0
def tw18428182935557652746:=0
def tw16304092662981455578:=0
def tw17291722458027858152:=0
def tw15210532653699862475:=0
def tw9197804921002365124:=0
def tw10726774118597569858:=0
def tw5509232656684408758:=0
def tw8698624569589892649:=0
def tw14881569320254072909:=0
def tw5157341927641180506:=0
def tw1945125696689390422:=0
def tw15421872502793125083:=0
def tw7776510701796993115:=0
def tw13077263428833393490:=0
def tw14720327324408392048:=0
def tw2488860853172722915:=0
def tw5460124308053128931:=0
def tw18236736074779076465:=0
def tw708093550549856414:=0
def tw10087924597839094582:=0
def tw11653566873647461952:=0
def tw4366249420057513691:=0
def tw7572324699588751754:=0
def tw3332933053512206505:=0
def tw15335987117423071149:=0
def tw3761827387587348111:=0
def tw13816328051002040605:=0
def tw8564394382067597943:=0
def tw6591655461286807777:=0
def tw1080438717596855320:=0
def tw12046289826749944997:=0
def tw9526040813916462389:=0
def tw4614963132136898863:=0
def tw9079489431439282940:=0
def tw16067612321972518247:=0
def tw16711665784111167865:=0
end PySem.W.Fast
end
open PySem PySem.W PyProof.Rows
set_option Elab.async false
set_option maxRecDepth 100000 in
set_option maxHeartbeats 0 in
theorem PySem.Challenge.cw_seasonland_s01_answers_holds : PySem.Challenge.rw_seasonland_s01_answers.Holds := by
  w_on; k_headS; (case hw => exact ⟨[.list [.int 3]], by decide +kernel, by decide +kernel⟩)
  k_fillS
  refine L2.walk_specK (r := PySem.Challenge.rw_seasonland_s01_answers) (k := 9) (CX := L2.CX0) (ps := ["calls"]) (sp := SL.spAns) (by decide +kernel) rfl rfl ⟨rfl, by decide, by decide⟩ (fun w h Y => PySem.W.kIn_of Y) ?F ?S (fun _ _ _ _ z => z)
  case F =>
    intro w mg fa h Y KX G hmg
    have c_MOST_UNDOABLE : SL.CTC KX mg "MOST_UNDOABLE" (20) := by
      refine' SL.tc_int KX G ?e
      (case e => k_is)
    have c_LINE_END : SL.CTC KX mg "LINE_END" (10) := by
      refine' SL.tc_int KX G ?e
      (case e => k_is)
    have c_BLANK : SL.CTC KX mg "BLANK" (32) := by
      refine' SL.tc_int KX G ?e
      (case e => k_is)
    have c_HASH : SL.CTC KX mg "HASH" (35) := by
      refine' SL.tc_int KX G ?e
      (case e => k_is)
    have c_COMMA : SL.CTC KX mg "COMMA" (44) := by
      refine' SL.tc_int KX G ?e
      (case e => k_is)
    have c_DASH : SL.CTC KX mg "DASH" (45) := by
      refine' SL.tc_int KX G ?e
      (case e => k_is)
    have c_ZERO : SL.CTC KX mg "ZERO" (48) := by
      refine' SL.tc_int KX G ?e
      (case e => k_is)
    have c_NINE : SL.CTC KX mg "NINE" (57) := by
      refine' SL.tc_int KX G ?e
      (case e => k_is)
    have c_COLON : SL.CTC KX mg "COLON" (58) := by
      refine' SL.tc_int KX G ?e
      (case e => k_is)
    have c_CAPITAL_A : SL.CTC KX mg "CAPITAL_A" (65) := by
      refine' SL.tc_int KX G ?e
      (case e => k_is)
    have c_CAPITAL_Z : SL.CTC KX mg "CAPITAL_Z" (90) := by
      refine' SL.tc_int KX G ?e
      (case e => k_is)
    have c_LAST_PLAIN : SL.CTC KX mg "LAST_PLAIN" (126) := by
      refine' SL.tc_int KX G ?e
      (case e => k_is)
    have c_LAST_BYTE : SL.CTC KX mg "LAST_BYTE" (255) := by
      refine' SL.tc_int KX G ?e
      (case e => k_is)
    have c_MOST_NAME_SIGNS : SL.CTC KX mg "MOST_NAME_SIGNS" (6) := by
      refine' SL.tc_int KX G ?e
      (case e => k_is)
    have c_MOST_DIGITS : SL.CTC KX mg "MOST_DIGITS" (3) := by
      refine' SL.tc_int KX G ?e
      (case e => k_is)
    have c_LAST_DAY : SL.CTC KX mg "LAST_DAY" (400) := by
      refine' SL.tc_int KX G ?e
      (case e => k_is)
    have c_MOST_NOTE_SIGNS : SL.CTC KX mg "MOST_NOTE_SIGNS" (60) := by
      refine' SL.tc_int KX G ?e
      (case e => k_is)
    have c_MOST_WINDOWS : SL.CTC KX mg "MOST_WINDOWS" (6) := by
      refine' SL.tc_int KX G ?e
      (case e => k_is)
    have c_MOST_DAYS_UNDER_WAY : SL.CTC KX mg "MOST_DAYS_UNDER_WAY" (30) := by
      refine' SL.tc_int KX G ?e
      (case e => k_is)
    have c_NOTE : SL.CTC KX mg "NOTE" (35) := by
      refine' SL.tc_int KX G ?e
      (case e => k_is)
    have c_BOTH_WAYS : SL.CTC KX mg "BOTH_WAYS" (66) := by
      refine' SL.tc_int KX G ?e
      (case e => k_is)
    have c_ONE_WAY : SL.CTC KX mg "ONE_WAY" (76) := by
      refine' SL.tc_int KX G ?e
      (case e => k_is)
    have c_NO_STAY : SL.CTC KX mg "NO_STAY" (78) := by
      refine' SL.tc_int KX G ?e
      (case e => k_is)
    have c_PLACE : SL.CTC KX mg "PLACE" (80) := by
      refine' SL.tc_int KX G ?e
      (case e => k_is)
    have c_MOST_LINES : SL.CTC KX mg "MOST_LINES" (40) := by
      refine' SL.tc_int KX G ?e
      (case e => k_is)
    have c_MOST_PLACES : SL.CTC KX mg "MOST_PLACES" (12) := by
      refine' SL.tc_int KX G ?e
      (case e => k_is)
    have c_NO_WAY : SL.CTC KX mg "NO_WAY" (1000) := by
      refine' SL.tc_int KX G ?e
      (case e => k_is)
    have c_MOST_TEXT_BYTES : SL.CTC KX mg "MOST_TEXT_BYTES" (2000) := by
      refine' SL.tc_int KX G ?e
      (case e => k_is)
    have c_MOST_LINE_BYTES : SL.CTC KX mg "MOST_LINE_BYTES" (200) := by
      refine' SL.tc_int KX G ?e
      (case e => k_is)
    have c_MOST_LEG_NUMBER : SL.CTC KX mg "MOST_LEG_NUMBER" (100) := by
      refine' SL.tc_int KX G ?e
      (case e => k_is)
    have c_MOST_STARTS : SL.CTC KX mg "MOST_STARTS" (30) := by
      refine' SL.tc_int KX G ?e
      (case e => k_is)
    have c_MOST_START_NUMBER : SL.CTC KX mg "MOST_START_NUMBER" (400) := by
      refine' SL.tc_int KX G ?e
      (case e => k_is)
    have c_MOST_STAY : SL.CTC KX mg "MOST_STAY" (100) := by
      refine' SL.tc_int KX G ?e
      (case e => k_is)
    have c_OUT_OF_RANGE : SL.CTC KX mg "OUT_OF_RANGE" (-1) := by
      refine' SL.tc_int KX G ?e
      (case e => k_is)
    have c_NOT_A_LINE : SL.CTC KX mg "NOT_A_LINE" (-2) := by
      refine' SL.tc_int KX G ?e
      (case e => k_is)
    have c_NOT_THERE : SL.CTC KX mg "NOT_THERE" (-4) := by
      refine' SL.tc_int KX G ?e
      (case e => k_is)
    have c_TOO_MUCH : SL.CTC KX mg "TOO_MUCH" (-5) := by
      refine' SL.tc_int KX G ?e
      (case e => k_is)
    have c_NO_DAY : SL.CTC KX mg "NO_DAY" (-9) := by
      refine' SL.tc_int KX G ?e
      (case e => k_is)
    have c_WRONG_LINE : SL.CTC KX mg "WRONG_LINE" (-100) := by
      refine' SL.tc_int KX G ?e
      (case e => k_is)
    have b_all : mg "all" = none := by
      refine' PySem.W.mg_none_of KX G ?e
      (case e => k_is)
    have b_enumerate : mg "enumerate" = none := by
      refine' PySem.W.mg_none_of KX G ?e
      (case e => k_is)
    have b_len : mg "len" = none := by
      refine' PySem.W.mg_none_of KX G ?e
      (case e => k_is)
    have b_list : mg "list" = none := by
      refine' PySem.W.mg_none_of KX G ?e
      (case e => k_is)
    have b_min : mg "min" = none := by
      refine' PySem.W.mg_none_of KX G ?e
      (case e => k_is)
    have b_range : mg "range" = none := by
      refine' PySem.W.mg_none_of KX G ?e
      (case e => k_is)
    have b_tuple : mg "tuple" = none := by
      refine' PySem.W.mg_none_of KX G ?e
      (case e => k_is)
    have f_are_bytes : SL.TFC KX mg "are_bytes" SL.s_are_bytes ["signs", "most"] := by
      refine' SL.tf_mk KX G (fun _ _ _ _ _ _ us hl => match us, hl with | [_, _], _ => rfl) ?a ?l ?c ?k
      (case a => k_is); (case l => k_is); (case c => k_is); (case k => k_is)
    have f_are_plain : SL.TFC KX mg "are_plain" SL.s_are_plain ["signs"] := by
      refine' SL.tf_mk KX G (fun _ _ _ _ _ _ us hl => match us, hl with | [_], _ => rfl) ?a ?l ?c ?k
      (case a => k_is); (case l => k_is); (case c => k_is); (case k => k_is)
    have f_is_digit : SL.TFC KX mg "is_digit" SL.s_is_digit ["sign"] := by
      refine' SL.tf_mk KX G (fun _ _ _ _ _ _ us hl => match us, hl with | [_], _ => rfl) ?a ?l ?c ?k
      (case a => k_is); (case l => k_is); (case c => k_is); (case k => k_is)
    have f_is_capital : SL.TFC KX mg "is_capital" SL.s_is_capital ["sign"] := by
      refine' SL.tf_mk KX G (fun _ _ _ _ _ _ us hl => match us, hl with | [_], _ => rfl) ?a ?l ?c ?k
      (case a => k_is); (case l => k_is); (case c => k_is); (case k => k_is)
    have f_is_name : SL.TFC KX mg "is_name" SL.s_is_name ["signs"] := by
      refine' SL.tf_mk KX G (fun _ _ _ _ _ _ us hl => match us, hl with | [_], _ => rfl) ?a ?l ?c ?k
      (case a => k_is); (case l => k_is); (case c => k_is); (case k => k_is)
    have f_number_told : SL.TFC KX mg "number_told" SL.s_number_told ["signs"] := by
      refine' SL.tf_mk KX G (fun _ _ _ _ _ _ us hl => match us, hl with | [_], _ => rfl) ?a ?l ?c ?k
      (case a => k_is); (case l => k_is); (case c => k_is); (case k => k_is)
    have f_parted : SL.TFC KX mg "parted" SL.s_parted ["signs", "mark"] := by
      refine' SL.tf_mk KX G (fun _ _ _ _ _ _ us hl => match us, hl with | [_, _], _ => rfl) ?a ?l ?c ?k
      (case a => k_is); (case l => k_is); (case c => k_is); (case k => k_is)
    have f_lines_parted : SL.TFC KX mg "lines_parted" SL.s_lines_parted ["text"] := by
      refine' SL.tf_mk KX G (fun _ _ _ _ _ _ us hl => match us, hl with | [_], _ => rfl) ?a ?l ?c ?k
      (case a => k_is); (case l => k_is); (case c => k_is); (case k => k_is)
    have f_read_line : SL.TFC KX mg "read_line" SL.s_read_line ["signs"] := by
      refine' SL.tf_mk KX G (fun _ _ _ _ _ _ us hl => match us, hl with | [_], _ => rfl) ?a ?l ?c ?k
      (case a => k_is); (case l => k_is); (case c => k_is); (case k => k_is)
    have f_is_note : SL.TFC KX mg "is_note" SL.s_is_note ["signs"] := by
      refine' SL.tf_mk KX G (fun _ _ _ _ _ _ us hl => match us, hl with | [_], _ => rfl) ?a ?l ?c ?k
      (case a => k_is); (case l => k_is); (case c => k_is); (case k => k_is)
    have f_read_place_line : SL.TFC KX mg "read_place_line" SL.s_read_place_line ["signs", "fields"] := by
      refine' SL.tf_mk KX G (fun _ _ _ _ _ _ us hl => match us, hl with | [_, _], _ => rfl) ?a ?l ?c ?k
      (case a => k_is); (case l => k_is); (case c => k_is); (case k => k_is)
    have f_read_leg_line : SL.TFC KX mg "read_leg_line" SL.s_read_leg_line ["signs", "fields"] := by
      refine' SL.tf_mk KX G (fun _ _ _ _ _ _ us hl => match us, hl with | [_, _], _ => rfl) ?a ?l ?c ?k
      (case a => k_is); (case l => k_is); (case c => k_is); (case k => k_is)
    have f_read_no_stay_line : SL.TFC KX mg "read_no_stay_line" SL.s_read_no_stay_line ["signs", "fields"] := by
      refine' SL.tf_mk KX G (fun _ _ _ _ _ _ us hl => match us, hl with | [_, _], _ => rfl) ?a ?l ?c ?k
      (case a => k_is); (case l => k_is); (case c => k_is); (case k => k_is)
    have f_read_windows : SL.TFC KX mg "read_windows" SL.s_read_windows ["signs"] := by
      refine' SL.tf_mk KX G (fun _ _ _ _ _ _ us hl => match us, hl with | [_], _ => rfl) ?a ?l ?c ?k
      (case a => k_is); (case l => k_is); (case c => k_is); (case k => k_is)
    have f_read_window : SL.TFC KX mg "read_window" SL.s_read_window ["signs"] := by
      refine' SL.tf_mk KX G (fun _ _ _ _ _ _ us hl => match us, hl with | [_], _ => rfl) ?a ?l ?c ?k
      (case a => k_is); (case l => k_is); (case c => k_is); (case k => k_is)
    have f_read_stretch : SL.TFC KX mg "read_stretch" SL.s_read_stretch ["signs"] := by
      refine' SL.tf_mk KX G (fun _ _ _ _ _ _ us hl => match us, hl with | [_], _ => rfl) ?a ?l ?c ?k
      (case a => k_is); (case l => k_is); (case c => k_is); (case k => k_is)
    have f_land_told : SL.TFC KX mg "land_told" SL.s_land_told ["lines"] := by
      refine' SL.tf_mk KX G (fun _ _ _ _ _ _ us hl => match us, hl with | [_], _ => rfl) ?a ?l ?c ?k
      (case a => k_is); (case l => k_is); (case c => k_is); (case k => k_is)
    have f_place_names : SL.TFC KX mg "place_names" SL.s_place_names ["lines"] := by
      refine' SL.tf_mk KX G (fun _ _ _ _ _ _ us hl => match us, hl with | [_], _ => rfl) ?a ?l ?c ?k
      (case a => k_is); (case l => k_is); (case c => k_is); (case k => k_is)
    have f_is_too_much : SL.TFC KX mg "is_too_much" SL.s_is_too_much ["lines"] := by
      refine' SL.tf_mk KX G (fun _ _ _ _ _ _ us hl => match us, hl with | [_], _ => rfl) ?a ?l ?c ?k
      (case a => k_is); (case l => k_is); (case c => k_is); (case k => k_is)
    have f_legs_told : SL.TFC KX mg "legs_told" SL.s_legs_told ["lines"] := by
      refine' SL.tf_mk KX G (fun _ _ _ _ _ _ us hl => match us, hl with | [_], _ => rfl) ?a ?l ?c ?k
      (case a => k_is); (case l => k_is); (case c => k_is); (case k => k_is)
    have f_legs_of_line : SL.TFC KX mg "legs_of_line" SL.s_legs_of_line ["line", "names"] := by
      refine' SL.tf_mk KX G (fun _ _ _ _ _ _ us hl => match us, hl with | [_, _], _ => rfl) ?a ?l ?c ?k
      (case a => k_is); (case l => k_is); (case c => k_is); (case k => k_is)
    have f_arrival : SL.TFC KX mg "arrival" SL.s_arrival ["leg", "day"] := by
      refine' SL.tf_mk KX G (fun _ _ _ _ _ _ us hl => match us, hl with | [_, _], _ => rfl) ?a ?l ?c ?k
      (case a => k_is); (case l => k_is); (case c => k_is); (case k => k_is)
    have f_stays_told : SL.TFC KX mg "stays_told" SL.s_stays_told ["lines"] := by
      refine' SL.tf_mk KX G (fun _ _ _ _ _ _ us hl => match us, hl with | [_], _ => rfl) ?a ?l ?c ?k
      (case a => k_is); (case l => k_is); (case c => k_is); (case k => k_is)
    have f_days_there : SL.TFC KX mg "days_there" SL.s_days_there ["land", "place", "days", "goal"] := by
      refine' SL.tf_mk KX G (fun _ _ _ _ _ _ us hl => match us, hl with | [_, _, _, _], _ => rfl) ?a ?l ?c ?k
      (case a => k_is); (case l => k_is); (case c => k_is); (case k => k_is)
    have f_go_on : SL.TFC KX mg "go_on" SL.s_go_on ["land", "reached", "day"] := by
      refine' SL.tf_mk KX G (fun _ _ _ _ _ _ us hl => match us, hl with | [_, _, _], _ => rfl) ?a ?l ?c ?k
      (case a => k_is); (case l => k_is); (case c => k_is); (case k => k_is)
    have f_days_in_time : SL.TFC KX mg "days_in_time" SL.s_days_in_time ["land", "place", "goal", "last"] := by
      refine' SL.tf_mk KX G (fun _ _ _ _ _ _ us hl => match us, hl with | [_, _, _, _], _ => rfl) ?a ?l ?c ?k
      (case a => k_is); (case l => k_is); (case c => k_is); (case k => k_is)
    have f_starts_needed : SL.TFC KX mg "starts_needed" SL.s_starts_needed ["land", "goal", "days"] := by
      refine' SL.tf_mk KX G (fun _ _ _ _ _ _ us hl => match us, hl with | [_, _, _], _ => rfl) ?a ?l ?c ?k
      (case a => k_is); (case l => k_is); (case c => k_is); (case k => k_is)
    have f_look_ahead : SL.TFC KX mg "look_ahead" SL.s_look_ahead ["land", "needed", "day"] := by
      refine' SL.tf_mk KX G (fun _ _ _ _ _ _ us hl => match us, hl with | [_, _, _], _ => rfl) ?a ?l ?c ?k
      (case a => k_is); (case l => k_is); (case c => k_is); (case k => k_is)
    have f_way_to : SL.TFC KX mg "way_to" SL.s_way_to ["land", "place", "day", "goal", "goal_day"] := by
      refine' SL.tf_mk KX G (fun _ _ _ _ _ _ us hl => match us, hl with | [_, _, _, _, _], _ => rfl) ?a ?l ?c ?k
      (case a => k_is); (case l => k_is); (case c => k_is); (case k => k_is)
    have f_next_start : SL.TFC KX mg "next_start" SL.s_next_start ["land", "place", "day", "needed"] := by
      refine' SL.tf_mk KX G (fun _ _ _ _ _ _ us hl => match us, hl with | [_, _, _, _], _ => rfl) ?a ?l ?c ?k
      (case a => k_is); (case l => k_is); (case c => k_is); (case k => k_is)
    have f_leads_to : SL.TFC KX mg "leads_to" SL.s_leads_to ["leg", "day", "needed", "left"] := by
      refine' SL.tf_mk KX G (fun _ _ _ _ _ _ us hl => match us, hl with | [_, _, _, _], _ => rfl) ?a ?l ?c ?k
      (case a => k_is); (case l => k_is); (case c => k_is); (case k => k_is)
    have f_day_behind_start : SL.TFC KX mg "day_behind_start" SL.s_day_behind_start ["land", "place", "day", "start_day", "number"] := by
      refine' SL.tf_mk KX G (fun _ _ _ _ _ _ us hl => match us, hl with | [_, _, _, _, _], _ => rfl) ?a ?l ?c ?k
      (case a => k_is); (case l => k_is); (case c => k_is); (case k => k_is)
    have f_days_behind_stay : SL.TFC KX mg "days_behind_stay" SL.s_days_behind_stay ["land", "place", "days", "count"] := by
      refine' SL.tf_mk KX G (fun _ _ _ _ _ _ us hl => match us, hl with | [_, _, _, _], _ => rfl) ?a ?l ?c ?k
      (case a => k_is); (case l => k_is); (case c => k_is); (case k => k_is)
    have f_stretches : SL.TFC KX mg "stretches" SL.s_stretches ["days"] := by
      refine' SL.tf_mk KX G (fun _ _ _ _ _ _ us hl => match us, hl with | [_], _ => rfl) ?a ?l ?c ?k
      (case a => k_is); (case l => k_is); (case c => k_is); (case k => k_is)
    have f_call_text : SL.TFC KX mg "call_text" SL.s_call_text ["sheet", "numbers", "row"] := by
      refine' SL.tf_mk KX G (fun _ _ _ _ _ _ us hl => match us, hl with | [_, _, _], _ => rfl) ?a ?l ?c ?k
      (case a => k_is); (case l => k_is); (case c => k_is); (case k => k_is)
    have f_call_put : SL.TFC KX mg "call_put" SL.s_call_put ["sheet", "numbers", "row"] := by
      refine' SL.tf_mk KX G (fun _ _ _ _ _ _ us hl => match us, hl with | [_, _, _], _ => rfl) ?a ?l ?c ?k
      (case a => k_is); (case l => k_is); (case c => k_is); (case k => k_is)
    have f_change_if_fitting : SL.TFC KX mg "change_if_fitting" SL.s_change_if_fitting ["sheet", "lines"] := by
      refine' SL.tf_mk KX G (fun _ _ _ _ _ _ us hl => match us, hl with | [_, _], _ => rfl) ?a ?l ?c ?k
      (case a => k_is); (case l => k_is); (case c => k_is); (case k => k_is)
    have f_call_cut : SL.TFC KX mg "call_cut" SL.s_call_cut ["sheet", "numbers", "row"] := by
      refine' SL.tf_mk KX G (fun _ _ _ _ _ _ us hl => match us, hl with | [_, _, _], _ => rfl) ?a ?l ?c ?k
      (case a => k_is); (case l => k_is); (case c => k_is); (case k => k_is)
    have f_call_undo : SL.TFC KX mg "call_undo" SL.s_call_undo ["sheet", "numbers", "row"] := by
      refine' SL.tf_mk KX G (fun _ _ _ _ _ _ us hl => match us, hl with | [_, _, _], _ => rfl) ?a ?l ?c ?k
      (case a => k_is); (case l => k_is); (case c => k_is); (case k => k_is)
    have f_call_redo : SL.TFC KX mg "call_redo" SL.s_call_redo ["sheet", "numbers", "row"] := by
      refine' SL.tf_mk KX G (fun _ _ _ _ _ _ us hl => match us, hl with | [_, _, _], _ => rfl) ?a ?l ?c ?k
      (case a => k_is); (case l => k_is); (case c => k_is); (case k => k_is)
    have f_call_print : SL.TFC KX mg "call_print" SL.s_call_print ["sheet", "numbers", "row"] := by
      refine' SL.tf_mk KX G (fun _ _ _ _ _ _ us hl => match us, hl with | [_, _, _], _ => rfl) ?a ?l ?c ?k
      (case a => k_is); (case l => k_is); (case c => k_is); (case k => k_is)
    have f_call_places : SL.TFC KX mg "call_places" SL.s_call_places ["sheet", "numbers", "row"] := by
      refine' SL.tf_mk KX G (fun _ _ _ _ _ _ us hl => match us, hl with | [_, _, _], _ => rfl) ?a ?l ?c ?k
      (case a => k_is); (case l => k_is); (case c => k_is); (case k => k_is)
    have f_call_legs : SL.TFC KX mg "call_legs" SL.s_call_legs ["sheet", "numbers", "row"] := by
      refine' SL.tf_mk KX G (fun _ _ _ _ _ _ us hl => match us, hl with | [_, _, _], _ => rfl) ?a ?l ?c ?k
      (case a => k_is); (case l => k_is); (case c => k_is); (case k => k_is)
    have f_call_leg : SL.TFC KX mg "call_leg" SL.s_call_leg ["sheet", "numbers", "row"] := by
      refine' SL.tf_mk KX G (fun _ _ _ _ _ _ us hl => match us, hl with | [_, _, _], _ => rfl) ?a ?l ?c ?k
      (case a => k_is); (case l => k_is); (case c => k_is); (case k => k_is)
    have f_leg_numbers : SL.TFC KX mg "leg_numbers" SL.s_leg_numbers ["leg"] := by
      refine' SL.tf_mk KX G (fun _ _ _ _ _ _ us hl => match us, hl with | [_], _ => rfl) ?a ?l ?c ?k
      (case a => k_is); (case l => k_is); (case c => k_is); (case k => k_is)
    have f_are_days : SL.TFC KX mg "are_days" SL.s_are_days ["numbers"] := by
      refine' SL.tf_mk KX G (fun _ _ _ _ _ _ us hl => match us, hl with | [_], _ => rfl) ?a ?l ?c ?k
      (case a => k_is); (case l => k_is); (case c => k_is); (case k => k_is)
    have f_are_places : SL.TFC KX mg "are_places" SL.s_are_places ["land", "numbers"] := by
      refine' SL.tf_mk KX G (fun _ _ _ _ _ _ us hl => match us, hl with | [_, _], _ => rfl) ?a ?l ?c ?k
      (case a => k_is); (case l => k_is); (case c => k_is); (case k => k_is)
    have f_days_there_asked : SL.TFC KX mg "days_there_asked" SL.s_days_there_asked ["land", "numbers"] := by
      refine' SL.tf_mk KX G (fun _ _ _ _ _ _ us hl => match us, hl with | [_, _], _ => rfl) ?a ?l ?c ?k
      (case a => k_is); (case l => k_is); (case c => k_is); (case k => k_is)
    have f_call_when : SL.TFC KX mg "call_when" SL.s_call_when ["sheet", "numbers", "row"] := by
      refine' SL.tf_mk KX G (fun _ _ _ _ _ _ us hl => match us, hl with | [_, _, _], _ => rfl) ?a ?l ?c ?k
      (case a => k_is); (case l => k_is); (case c => k_is); (case k => k_is)
    have f_call_days : SL.TFC KX mg "call_days" SL.s_call_days ["sheet", "numbers", "row"] := by
      refine' SL.tf_mk KX G (fun _ _ _ _ _ _ us hl => match us, hl with | [_, _, _], _ => rfl) ?a ?l ?c ?k
      (case a => k_is); (case l => k_is); (case c => k_is); (case k => k_is)
    have f_stretches_answered : SL.TFC KX mg "stretches_answered" SL.s_stretches_answered ["days"] := by
      refine' SL.tf_mk KX G (fun _ _ _ _ _ _ us hl => match us, hl with | [_], _ => rfl) ?a ?l ?c ?k
      (case a => k_is); (case l => k_is); (case c => k_is); (case k => k_is)
    have f_days_in_time_asked : SL.TFC KX mg "days_in_time_asked" SL.s_days_in_time_asked ["land", "numbers"] := by
      refine' SL.tf_mk KX G (fun _ _ _ _ _ _ us hl => match us, hl with | [_, _], _ => rfl) ?a ?l ?c ?k
      (case a => k_is); (case l => k_is); (case c => k_is); (case k => k_is)
    have f_call_latest : SL.TFC KX mg "call_latest" SL.s_call_latest ["sheet", "numbers", "row"] := by
      refine' SL.tf_mk KX G (fun _ _ _ _ _ _ us hl => match us, hl with | [_, _, _], _ => rfl) ?a ?l ?c ?k
      (case a => k_is); (case l => k_is); (case c => k_is); (case k => k_is)
    have f_call_safe : SL.TFC KX mg "call_safe" SL.s_call_safe ["sheet", "numbers", "row"] := by
      refine' SL.tf_mk KX G (fun _ _ _ _ _ _ us hl => match us, hl with | [_, _, _], _ => rfl) ?a ?l ?c ?k
      (case a => k_is); (case l => k_is); (case c => k_is); (case k => k_is)
    have f_call_way : SL.TFC KX mg "call_way" SL.s_call_way ["sheet", "numbers", "row"] := by
      refine' SL.tf_mk KX G (fun _ _ _ _ _ _ us hl => match us, hl with | [_, _, _], _ => rfl) ?a ?l ?c ?k
      (case a => k_is); (case l => k_is); (case c => k_is); (case k => k_is)
    have f_call_check : SL.TFC KX mg "call_check" SL.s_call_check ["sheet", "numbers", "row"] := by
      refine' SL.tf_mk KX G (fun _ _ _ _ _ _ us hl => match us, hl with | [_, _, _], _ => rfl) ?a ?l ?c ?k
      (case a => k_is); (case l => k_is); (case c => k_is); (case k => k_is)
    have f_are_starts : SL.TFC KX mg "are_starts" SL.s_are_starts ["row"] := by
      refine' SL.tf_mk KX G (fun _ _ _ _ _ _ us hl => match us, hl with | [_], _ => rfl) ?a ?l ?c ?k
      (case a => k_is); (case l => k_is); (case c => k_is); (case k => k_is)
    have f_call_around : SL.TFC KX mg "call_around" SL.s_call_around ["sheet", "numbers", "row"] := by
      refine' SL.tf_mk KX G (fun _ _ _ _ _ _ us hl => match us, hl with | [_, _, _], _ => rfl) ?a ?l ?c ?k
      (case a => k_is); (case l => k_is); (case c => k_is); (case k => k_is)
    have f_call_open_legs : SL.TFC KX mg "call_open_legs" SL.s_call_open_legs ["sheet", "numbers", "row"] := by
      refine' SL.tf_mk KX G (fun _ _ _ _ _ _ us hl => match us, hl with | [_, _, _], _ => rfl) ?a ?l ?c ?k
      (case a => k_is); (case l => k_is); (case c => k_is); (case k => k_is)
    have f_call_stay : SL.TFC KX mg "call_stay" SL.s_call_stay ["sheet", "numbers", "row"] := by
      refine' SL.tf_mk KX G (fun _ _ _ _ _ _ us hl => match us, hl with | [_, _, _], _ => rfl) ?a ?l ?c ?k
      (case a => k_is); (case l => k_is); (case c => k_is); (case k => k_is)
    have f_answers : SL.TFC KX mg "answers" SL.s_answers ["calls"] := by
      refine' SL.tf_mk KX G (fun _ _ _ _ _ _ us hl => match us, hl with | [_], _ => rfl) ?a ?l ?c ?k
      (case a => k_is); (case l => k_is); (case c => k_is); (case k => k_is)
    have k_Sheet : SL.KlC KX mg "Sheet" "Sheet.__init__" SL.s_Sheet_init ["self"] := by
      refine' SL.kls_mk KX G (fun _ _ _ _ _ _ us hl => match us, hl with | [_], _ => rfl) ?aC ?a1 ?i1 ?l1 ?c1 ?k1 ?pg ?hd ?po ?sa ?mk ?kc
      (case aC => k_is); (case a1 => k_is); (case i1 => k_is); (case l1 => k_is); (case c1 => k_is); (case k1 => k_is); (case pg => k_is); (case hd => k_is); (case po => k_is); (case sa => k_is); (case mk => k_is); (case kc => k_is)
    have m_Sheet_change : SL.MTC KX mg "Sheet" "change" "Sheet.change" SL.s_Sheet_change ["self", "lines"] := by
      refine' SL.met_mk KX G (fun _ _ _ _ _ _ us hl => match us, hl with | [_, _], _ => rfl) ?aC ?a1 ?i1 ?l1 ?c1 ?k1
      (case aC => k_is); (case a1 => k_is); (case i1 => k_is); (case l1 => k_is); (case c1 => k_is); (case k1 => k_is)
    have m_Sheet_undo : SL.MTC KX mg "Sheet" "undo" "Sheet.undo" SL.s_Sheet_undo ["self"] := by
      refine' SL.met_mk KX G (fun _ _ _ _ _ _ us hl => match us, hl with | [_], _ => rfl) ?aC ?a1 ?i1 ?l1 ?c1 ?k1
      (case aC => k_is); (case a1 => k_is); (case i1 => k_is); (case l1 => k_is); (case c1 => k_is); (case k1 => k_is)
    have m_Sheet_redo : SL.MTC KX mg "Sheet" "redo" "Sheet.redo" SL.s_Sheet_redo ["self"] := by
      refine' SL.met_mk KX G (fun _ _ _ _ _ _ us hl => match us, hl with | [_], _ => rfl) ?aC ?a1 ?i1 ?l1 ?c1 ?k1
      (case aC => k_is); (case a1 => k_is); (case i1 => k_is); (case l1 => k_is); (case c1 => k_is); (case k1 => k_is)
    have n_Sheet_lines : SL.NoC KX mg "Sheet" "lines" := by
      refine' SL.noa_mk KX G ?aC ?n
      (case aC => k_is); (case n => k_is)
    have n_Sheet_earlier : SL.NoC KX mg "Sheet" "earlier" := by
      refine' SL.noa_mk KX G ?aC ?n
      (case aC => k_is); (case n => k_is)
    have n_Sheet_undone : SL.NoC KX mg "Sheet" "undone" := by
      refine' SL.noa_mk KX G ?aC ?n
      (case aC => k_is); (case n => k_is)
    have k_Line : SL.KlC KX mg "Line" "Line.__init__" SL.s_Line_init ["self", "signs", "kind", "names", "windows", "stretch"] := by
      refine' SL.kls_mk KX G (fun _ _ _ _ _ _ us hl => match us, hl with | [_, _, _, _, _, _], _ => rfl) ?aC ?a1 ?i1 ?l1 ?c1 ?k1 ?pg ?hd ?po ?sa ?mk ?kc
      (case aC => k_is); (case a1 => k_is); (case i1 => k_is); (case l1 => k_is); (case c1 => k_is); (case k1 => k_is); (case pg => k_is); (case hd => k_is); (case po => k_is); (case sa => k_is); (case mk => k_is); (case kc => k_is)
    have n_Line_signs : SL.NoC KX mg "Line" "signs" := by
      refine' SL.noa_mk KX G ?aC ?n
      (case aC => k_is); (case n => k_is)
    have n_Line_kind : SL.NoC KX mg "Line" "kind" := by
      refine' SL.noa_mk KX G ?aC ?n
      (case aC => k_is); (case n => k_is)
    have n_Line_names : SL.NoC KX mg "Line" "names" := by
      refine' SL.noa_mk KX G ?aC ?n
      (case aC => k_is); (case n => k_is)
    have n_Line_windows : SL.NoC KX mg "Line" "windows" := by
      refine' SL.noa_mk KX G ?aC ?n
      (case aC => k_is); (case n => k_is)
    have n_Line_stretch : SL.NoC KX mg "Line" "stretch" := by
      refine' SL.noa_mk KX G ?aC ?n
      (case aC => k_is); (case n => k_is)
    have k_Leg : SL.KlC KX mg "Leg" "Leg.__init__" SL.s_Leg_init ["self", "begin", "end", "windows"] := by
      refine' SL.kls_mk KX G (fun _ _ _ _ _ _ us hl => match us, hl with | [_, _, _, _], _ => rfl) ?aC ?a1 ?i1 ?l1 ?c1 ?k1 ?pg ?hd ?po ?sa ?mk ?kc
      (case aC => k_is); (case a1 => k_is); (case i1 => k_is); (case l1 => k_is); (case c1 => k_is); (case k1 => k_is); (case pg => k_is); (case hd => k_is); (case po => k_is); (case sa => k_is); (case mk => k_is); (case kc => k_is)
    have n_Leg_begin : SL.NoC KX mg "Leg" "begin" := by
      refine' SL.noa_mk KX G ?aC ?n
      (case aC => k_is); (case n => k_is)
    have n_Leg_end : SL.NoC KX mg "Leg" "end" := by
      refine' SL.noa_mk KX G ?aC ?n
      (case aC => k_is); (case n => k_is)
    have n_Leg_windows : SL.NoC KX mg "Leg" "windows" := by
      refine' SL.noa_mk KX G ?aC ?n
      (case aC => k_is); (case n => k_is)
    have k_Land : SL.KlC KX mg "Land" "Land.__init__" SL.s_Land_init ["self", "legs", "stays"] := by
      refine' SL.kls_mk KX G (fun _ _ _ _ _ _ us hl => match us, hl with | [_, _, _], _ => rfl) ?aC ?a1 ?i1 ?l1 ?c1 ?k1 ?pg ?hd ?po ?sa ?mk ?kc
      (case aC => k_is); (case a1 => k_is); (case i1 => k_is); (case l1 => k_is); (case c1 => k_is); (case k1 => k_is); (case pg => k_is); (case hd => k_is); (case po => k_is); (case sa => k_is); (case mk => k_is); (case kc => k_is)
    have m_Land_can_stay : SL.MTC KX mg "Land" "can_stay" "Land.can_stay" SL.s_Land_can_stay ["self", "place", "first", "behind"] := by
      refine' SL.met_mk KX G (fun _ _ _ _ _ _ us hl => match us, hl with | [_, _, _, _], _ => rfl) ?aC ?a1 ?i1 ?l1 ?c1 ?k1
      (case aC => k_is); (case a1 => k_is); (case i1 => k_is); (case l1 => k_is); (case c1 => k_is); (case k1 => k_is)
    have n_Land_legs : SL.NoC KX mg "Land" "legs" := by
      refine' SL.noa_mk KX G ?aC ?n
      (case aC => k_is); (case n => k_is)
    have n_Land_stays : SL.NoC KX mg "Land" "stays" := by
      refine' SL.noa_mk KX G ?aC ?n
      (case aC => k_is); (case n => k_is)
    have T : SL.TxtC KX mg := { c_MOST_UNDOABLE := c_MOST_UNDOABLE, c_LINE_END := c_LINE_END, c_BLANK := c_BLANK, c_HASH := c_HASH, c_COMMA := c_COMMA, c_DASH := c_DASH, c_ZERO := c_ZERO, c_NINE := c_NINE, c_COLON := c_COLON, c_CAPITAL_A := c_CAPITAL_A, c_CAPITAL_Z := c_CAPITAL_Z, c_LAST_PLAIN := c_LAST_PLAIN, c_LAST_BYTE := c_LAST_BYTE, c_MOST_NAME_SIGNS := c_MOST_NAME_SIGNS, c_MOST_DIGITS := c_MOST_DIGITS, c_LAST_DAY := c_LAST_DAY, c_MOST_NOTE_SIGNS := c_MOST_NOTE_SIGNS, c_MOST_WINDOWS := c_MOST_WINDOWS, c_MOST_DAYS_UNDER_WAY := c_MOST_DAYS_UNDER_WAY, c_NOTE := c_NOTE, c_BOTH_WAYS := c_BOTH_WAYS, c_ONE_WAY := c_ONE_WAY, c_NO_STAY := c_NO_STAY, c_PLACE := c_PLACE, c_MOST_LINES := c_MOST_LINES, c_MOST_PLACES := c_MOST_PLACES, c_NO_WAY := c_NO_WAY, c_MOST_TEXT_BYTES := c_MOST_TEXT_BYTES, c_MOST_LINE_BYTES := c_MOST_LINE_BYTES, c_MOST_LEG_NUMBER := c_MOST_LEG_NUMBER, c_MOST_STARTS := c_MOST_STARTS, c_MOST_START_NUMBER := c_MOST_START_NUMBER, c_MOST_STAY := c_MOST_STAY, c_OUT_OF_RANGE := c_OUT_OF_RANGE, c_NOT_A_LINE := c_NOT_A_LINE, c_NOT_THERE := c_NOT_THERE, c_TOO_MUCH := c_TOO_MUCH, c_NO_DAY := c_NO_DAY, c_WRONG_LINE := c_WRONG_LINE, b_all := b_all, b_enumerate := b_enumerate, b_len := b_len, b_list := b_list, b_min := b_min, b_range := b_range, b_tuple := b_tuple, f_are_bytes := f_are_bytes, f_are_plain := f_are_plain, f_is_digit := f_is_digit, f_is_capital := f_is_capital, f_is_name := f_is_name, f_number_told := f_number_told, f_parted := f_parted, f_lines_parted := f_lines_parted, f_read_line := f_read_line, f_is_note := f_is_note, f_read_place_line := f_read_place_line, f_read_leg_line := f_read_leg_line, f_read_no_stay_line := f_read_no_stay_line, f_read_windows := f_read_windows, f_read_window := f_read_window, f_read_stretch := f_read_stretch, f_land_told := f_land_told, f_place_names := f_place_names, f_is_too_much := f_is_too_much, f_legs_told := f_legs_told, f_legs_of_line := f_legs_of_line, f_arrival := f_arrival, f_stays_told := f_stays_told, f_days_there := f_days_there, f_go_on := f_go_on, f_days_in_time := f_days_in_time, f_starts_needed := f_starts_needed, f_look_ahead := f_look_ahead, f_way_to := f_way_to, f_next_start := f_next_start, f_leads_to := f_leads_to, f_day_behind_start := f_day_behind_start, f_days_behind_stay := f_days_behind_stay, f_stretches := f_stretches, f_call_text := f_call_text, f_call_put := f_call_put, f_change_if_fitting := f_change_if_fitting, f_call_cut := f_call_cut, f_call_undo := f_call_undo, f_call_redo := f_call_redo, f_call_print := f_call_print, f_call_places := f_call_places, f_call_legs := f_call_legs, f_call_leg := f_call_leg, f_leg_numbers := f_leg_numbers, f_are_days := f_are_days, f_are_places := f_are_places, f_days_there_asked := f_days_there_asked, f_call_when := f_call_when, f_call_days := f_call_days, f_stretches_answered := f_stretches_answered, f_days_in_time_asked := f_days_in_time_asked, f_call_latest := f_call_latest, f_call_safe := f_call_safe, f_call_way := f_call_way, f_call_check := f_call_check, f_are_starts := f_are_starts, f_call_around := f_call_around, f_call_open_legs := f_call_open_legs, f_call_stay := f_call_stay, f_answers := f_answers, k_Sheet := k_Sheet, m_Sheet_change := m_Sheet_change, m_Sheet_undo := m_Sheet_undo, m_Sheet_redo := m_Sheet_redo, n_Sheet_lines := n_Sheet_lines, n_Sheet_earlier := n_Sheet_earlier, n_Sheet_undone := n_Sheet_undone, k_Line := k_Line, n_Line_signs := n_Line_signs, n_Line_kind := n_Line_kind, n_Line_names := n_Line_names, n_Line_windows := n_Line_windows, n_Line_stretch := n_Line_stretch, k_Leg := k_Leg, n_Leg_begin := n_Leg_begin, n_Leg_end := n_Leg_end, n_Leg_windows := n_Leg_windows, k_Land := k_Land, m_Land_can_stay := m_Land_can_stay, n_Land_legs := n_Land_legs, n_Land_stays := n_Land_stays }
    have dk : SL.DeskC KX mg PySem.Challenge.rw_seasonland_s01_answers.prog w := by
      refine' SL.desk_mk KX G T ?a ?l ?ko ?e0 ?t0 ?m0 ?e1 ?t1 ?m1 ?e2 ?t2 ?m2 ?e3 ?t3 ?m3 ?e4 ?t4 ?m4 ?e5 ?t5 ?m5 ?e6 ?t6 ?m6 ?e7 ?t7 ?m7 ?e8 ?t8 ?m8 ?e9 ?t9 ?m9 ?e10 ?t10 ?m10 ?e11 ?t11 ?m11 ?e12 ?t12 ?m12 ?e13 ?t13 ?m13 ?e14 ?t14 ?m14 ?e15 ?t15 ?m15 ?e16 ?t16 ?m16 ?e17 ?t17 ?m17
      (case a => k_is); (case l => k_is); (case ko => rfl)
      (case e0 => rfl); (case t0 => k_is); (case m0 => k_is)
      (case e1 => rfl); (case t1 => k_is); (case m1 => k_is)
      (case e2 => rfl); (case t2 => k_is); (case m2 => k_is)
      (case e3 => rfl); (case t3 => k_is); (case m3 => k_is)
      (case e4 => rfl); (case t4 => k_is); (case m4 => k_is)
      (case e5 => rfl); (case t5 => k_is); (case m5 => k_is)
      (case e6 => rfl); (case t6 => k_is); (case m6 => k_is)
      (case e7 => rfl); (case t7 => k_is); (case m7 => k_is)
      (case e8 => rfl); (case t8 => k_is); (case m8 => k_is)
      (case e9 => rfl); (case t9 => k_is); (case m9 => k_is)
      (case e10 => rfl); (case t10 => k_is); (case m10 => k_is)
      (case e11 => rfl); (case t11 => k_is); (case m11 => k_is)
      (case e12 => rfl); (case t12 => k_is); (case m12 => k_is)
      (case e13 => rfl); (case t13 => k_is); (case m13 => k_is)
      (case e14 => rfl); (case t14 => k_is); (case m14 => k_is)
      (case e15 => rfl); (case t15 => k_is); (case m15 => k_is)
      (case e16 => rfl); (case t16 => k_is); (case m16 => k_is)
      (case e17 => rfl); (case t17 => k_is); (case m17 => k_is)
    obtain ⟨d, tf, dk⟩ := dk
    obtain ⟨fa2, fd, F, hm2, hb2⟩ := f_answers
    have q : fa2 = fa := by
      have z : mg "answers" = some (.ref fa) := hmg
      rw [hm2] at z
      cases z
      rfl
    subst q
    refine ⟨fd, SL.binds_any F, fun base _ _ => SL.ok_answers T (dk base) F⟩
  case S =>
    intro K H xs a hO hwi hask hx
    cases hx with
    | cons h1 h2 =>
      cases h2
      cases h1 with
      | lst hs ha =>
        have e := L2.ints_dw a.1 _ ha
        subst e
        exact ⟨_, a.1, rfl, hs, hask, fun H' p hp => .lst (L2.SqL.of hp) (L2.dw_ints _)⟩
#print axioms PySem.Challenge.cw_seasonland_s01_answers_holds


